import PyProof.Rows.All
import Wide.All
import OpenK.AllK
import Wide.FinOn
import Lean
import PyProof.EqAt
import PyProof.EqKinds
import PyProof.TupleCall
import KE.KLam
import PySem.Challenge.RW_stairrooms_k25_kept_risen_fallen
set_option Elab.async false
namespace PySem.W.Fast
def tw17803365898517136790:=0
def tw11203816425962874128:=0
def tw2903127014350779198:=0
def tw9478813727029378433:=0
def tw12507716735993528619:=0
def tw11258306804293243132:=0
def tw4762626404110187634:=0
def tw16803871504419484989:=0
def tw488846912274676699:=0
def tw15414259988211055499:=0
def tw6831453911737731619:=0
def tw12296552071639831032:=0
def tw4918694162171632466:=0
def tw18032779900021213040:=0
def tw3008007984704827758:=0
def tw10602856759635532317:=0
def tw8147721191793257292:=0
def tw8143298780573084396:=0
def tw156604256827902990:=0
def tw8755266905418455375:=0
def tw18038851775406917655:=0
def tw8089249423132065445:=0
def tw1612923964453859806:=0
def tw684117499851941213:=0
def tw1057306937073154610:=0
def tw13746588304753895505:=0
def tw976709547398631384:=0
def tw5295854211047901153:=0
def tw12664327836493813462:=0
def tw7552210041123771490:=0
def tw397431815971221653:=0
def tw15924826414491783191:=0
def tw2904058922640873309:=0
def tw15003257448840769609:=0
def tw1897875410602398997:=0
def tw1703860651114587486:=0
def tw13788262537284159298:=0
def tw11787554532782738252:=0
def tw11296645311156999791:=0
def tw1980078614172103820:=0
def tw18207201711260066481:=0
def tw1682181479755940848:=0
def tw14905269560852764671:=0
def tw11551815002882820457:=0
def tw9337504207740955038:=0
def tw6158425238486604569:=0
def tw3104486758596841148:=0
def tw17744632191838401134:=0
def tw5819105399919881484:=0
def tw4337561567144917162:=0
def tw4138905410403352593:=0
def tw17694846207451314135:=0
def tw16988158499489311127:=0
def tw1304240117979556626:=0
def tw8890220073126293310:=0
def tw4074507585887532813:=0
def tw16283258727396688951:=0
def tw13809386149585982481:=0
def tw11365700717142005424:=0
def tw4769826392853288355:=0
def tw2122511160286549640:=0
def tw18438895364323578133:=0
def tw17065142239566038489:=0
def tw7115244209674446852:=0
def tw5140171473248983199:=0
def tw4566636315000093172:=0
def tw343839832772155065:=0
def tw1691102865124860179:=0
def tw16826725409987885975:=0
def tw1677638050960967886:=0
def tw14670137783204244808:=0
def tw14419318313112166178:=0
def tw14221475358252599964:=0
def tw12390782021942118942:=0
def tw11605670760853518920:=0
def tw11339562753883754242:=0
def tw1069010634818593453:=0
def tw10424792985553544811:=0
def tw9002392303285804385:=0
def tw3612554134655720397:=0
def tw3566807236516140644:=0
def tw18127141830633905074:=0
def tw17357414001117552268:=0
def tw7240639191980452486:=0
def tw6714801024506940561:=0
def tw5010354932100547165:=0
def tw17994301212061070119:=0
def tw15142431143280010732:=0
def tw14025392896863203041:=0
def tw1278903308911586541:=0
def tw12340981958623863397:=0
def tw11701492411309977178:=0
def tw11644868132232139897:=0
def tw7341270039093922885:=0
def tw18101583386606535240:=0
def tw13814131451427507189:=0
def tw12261729195969336472:=0
def tw912290570786946579:=0
def tw9119751986894142981:=0
def tw8722415481117505015:=0
def tw8604979696160575008:=0
def tw7904445426397662059:=0
def tw7863108119856694670:=0
def tw7134983793405793177:=0
def tw6658185936689682968:=0
def tw6008010531490865865:=0
def tw590611807225418770:=0
def tw5821001088122574322:=0
def tw4169430970946328830:=0
def tw3711776433476670718:=0
def tw3015604971527890583:=0
def tw2801974123689400889:=0
def tw2419298105991278453:=0
def tw2248526150547823735:=0
def tw2217001567337907910:=0
def tw193794278739742225:=0
def tw18066811921283522515:=0
def tw17990003072128590093:=0
def tw17925923492730016652:=0
def tw17716863462265859512:=0
def tw17628590533929976792:=0
def tw17571631200592639834:=0
def tw17438179399263098937:=0
def tw16661212229125270991:=0
def tw16575673167688372683:=0
def tw16328260256271792030:=0
def tw16245695487900975421:=0
def tw16221219022901355867:=0
def tw15831574140416324556:=0
def tw15729792075999087868:=0
def tw14977234088687162302:=0
def tw1492062709326496596:=0
def tw1488474676173749703:=0
def tw14415884991196681418:=0
def tw14397947794671477899:=0
def tw1382559312744143635:=0
def tw13817142068744991791:=0
def tw13769731409856085057:=0
def tw13385619842731796546:=0
def tw11687504721054253588:=0
def tw11282886037220131173:=0
def tw10769681086646498438:=0
def tw10500720501580190231:=0
def tw10121643642846045468:=0
def tw8777541643666118068:=0
def tw8572175281459272771:=0
def tw8568187914498332850:=0
def tw8125407811402774585:=0
def tw684210181549580303:=0
def tw6744984778823417519:=0
def tw4488003136180807592:=0
def tw2093290091728733057:=0
def tw18159918767601648018:=0
def tw17795394019121955329:=0
def tw17581992280946622230:=0
def tw17218974888202052536:=0
def tw16507177298177948937:=0
def tw16219145617115034907:=0
def tw14775263502782431712:=0
def tw13820470126673855253:=0
def tw10095913671755900038:=0
def tw974001917477778970:=0
def tw8444893750286939596:=0
def tw8037652997034423971:=0
def tw8035931760809384120:=0
def tw7175792842613744815:=0
def tw6942357351460751399:=0
def tw6350474685870504171:=0
def tw621812022307901172:=0
def tw5994711959094706394:=0
def tw5956051100702781606:=0
def tw5920227957080817638:=0
def tw5717963241065829162:=0
def tw5430882940802126740:=0
def tw5425565988235752197:=0
def tw5190860397250508396:=0
def tw5019332986140449700:=0
def tw4933930183700603765:=0
def tw4530914875774024943:=0
def tw447717403241242290:=0
def tw3855077825024126993:=0
def tw3797301031838899788:=0
def tw3415376743198261602:=0
def tw3121732170634265723:=0
def tw3017139974649574989:=0
def tw2780415966309772251:=0
def tw2045930578084102194:=0
def tw2020109458520273824:=0
def tw1856151083423349262:=0
def tw18334927389422029420:=0
def tw18324572440802094995:=0
def tw1818218476948158209:=0
def tw17843839365795533554:=0
def tw17831088686795452451:=0
def tw17729564300890611173:=0
def tw17645572048654386869:=0
def tw17076493798685594974:=0
def tw16964212798373946863:=0
def tw16924412733494049589:=0
def tw16821967185522334815:=0
def tw16743919102785911483:=0
def tw16180315334032665911:=0
def tw16164986634524919498:=0
def tw15291515778787918541:=0
def tw15186367229040268510:=0
def tw1488503510874697304:=0
def tw1456095747653818372:=0
def tw14322595565739780087:=0
def tw13841191037290658594:=0
def tw13679643304169797691:=0
def tw13135487405686255751:=0
def tw11665305186481523908:=0
def tw11362101791794971524:=0
def tw11137535781475439334:=0
def tw11029396596865941829:=0
def tw10785498421680218836:=0
def tw1073818698688927204:=0
def tw10263077061500514125:=0
def tw10150324261921262226:=0
end PySem.W.Fast
section
open PySem PySem.W PyProof.Rows
set_option maxRecDepth 100000 in
set_option maxHeartbeats 0 in
open_top My.top for PySem.Challenge.rw_stairrooms_k25_kept_risen_fallen
end
set_option linter.all false
set_option maxRecDepth 100000
set_option maxHeartbeats 4000000
open PySem renaming wpAny_bind→Bc
open PySem renaming wpAny_pure→Bd
open PySem.W renaming Frag→Be
open PySem.Heap renaming get?_push_of_some→Bf
open PySem.Heap renaming get?_push_size→Bg
open PySem.Heap renaming lt_size→Bh
open List renaming length_map→Bi
open List renaming getElem?_eq_getElem→Bj
open List renaming getElem?_map→Bk
open List renaming mem_cons_of_mem→Bl
open Array renaming length_toList→Bm
open List renaming size_toArray→Bn
open List renaming mem_cons_self→Bo
open PySem.F renaming plainAttrs_list→Bp
open List renaming getElem?_eq_some_iff→Bq
open List renaming mem_of_getElem?→Br
open List renaming mem_singleton→Bs
open Option renaming map_eq_some_iff→Bt
open Int renaming toNat_natCast→Bu
open Int renaming toNat_of_nonneg→Bv
open List renaming mem_cons→Bw
open Bool renaming false_ne_true→Bx
open List renaming map_append→By
open List renaming length_append→Bz
open Nat renaming ne_of_lt→BA
open Nat renaming le_refl→BB
open PySem.F renaming slot_list_append→BC
open PySem.F renaming type_list_append→BD
open List renaming mem_append→BE
open List renaming getElem?_append_right→BF
open List renaming getElem?_append_left→BG
open List renaming getElem_mem→BH
open List renaming length_cons→BI
open List renaming take_length→BJ
open Nat renaming lt_of_lt_of_le→BK
open Nat renaming le_trans→BL
open List renaming all_eq_true→BN
open List renaming any_eq_true→BO
open Bool renaming eq_iff_iff→BP
open Bool renaming and_eq_true→BQ
noncomputable section
namespace L2
open PySem PySem.Spec PyProof.Rows
abbrev Key:=Sum Int Str
def fo:Key->Value->Bool
 | .inl k,v=>Value.isInt k v
 | .inr x,v=>Value.isStrOf x v
def xC(w:World):Key->Int
 | .inl k=>hashInt k
 | .inr x=>hashStr w x
theorem ee:∀{k:Key} {v:Value},fo k v=true->(∃i t,k=Sum.inl i/\v=Value.int i t)\/(∃x t,k=Sum.inr x/\v=Value.str x t)
 | .inl i,v,h=>by
  obtain⟨t,e⟩:=Value.isInt_shape (k:=i) (v:=v) h
  exact .inl ⟨i,t,rfl,e⟩
 | .inr x,v,h=>by
  obtain⟨t,e⟩:=Value.isStrOf_shape (x:=x) (v:=v) h
  exact .inr ⟨x,t,rfl,e⟩
theorem wd(i:Int)(t:Tok):fo (.inl i) (.int i t)=true:=by simp[fo,Value.isInt]
theorem xK(x:Str)(t:Tok):fo (.inr x) (.str x t)=true:=by simp[fo,Value.isStrOf]
theorem zp(a b:Int):decide ((Sum.inl a:Key)=Sum.inl b)=(a == b):=by
 by_cases e:a=b
 ·subst e;simp
 ·have h:¬(Sum.inl a:Key)=Sum.inl b:=fun q=>e (Sum.inl.inj q)
  rw[decide_eq_false h]
  exact(beq_eq_false_iff_ne.mpr e).symm
theorem AY(a b:Str):decide ((Sum.inr a:Key)=Sum.inr b)=decide (a=b):=by
 by_cases e:a=b
 ·subst e;simp
 ·have h:¬(Sum.inr a:Key)=Sum.inr b:=fun q=>e (Sum.inr.inj q)
  rw[decide_eq_false h,decide_eq_false e]
theorem yn(a:Int)(b:Str):decide ((Sum.inl a:Key)=Sum.inr b)=false:=decide_eq_false (fun q=>nomatch q)
theorem yb(a:Str)(b:Int):decide ((Sum.inr a:Key)=Sum.inl b)=false:=decide_eq_false (fun q=>nomatch q)
def aw(prog:Program)(w:World):PySem.KeyKind prog w Key where
 is:=fo
 hash:=xC w
 inj:=fun v a b ha hb=>by
  rcases ee ha with⟨i,t,rfl,rfl⟩ | ⟨x,t,rfl,rfl⟩
  ·rcases ee hb with⟨j,u,rfl,e⟩ | ⟨y,u,rfl,e⟩
   ·injection e with e1 _;rw[e1]
   ·exact nomatch e
  ·rcases ee hb with⟨j,u,rfl,e⟩ | ⟨y,u,rfl,e⟩
   ·exact nomatch e
   ·injection e with e1 _;rw[e1]
 byValue:=fun k v h=>by
  rcases ee h with⟨i,t,rfl,rfl⟩ | ⟨x,t,rfl,rfl⟩<;>rfl
 pyHash:=fun hv h=>by
  rcases ee hv with⟨i,t,rfl,rfl⟩ | ⟨x,t,rfl,rfl⟩
  ·exact wpAny_pyHash_int h
  ·exact wpAny_pyHash_str h
 eqBool:=fun hu hv h=>by
  rcases ee hu with⟨i,t,rfl,rfl⟩ | ⟨x,t,rfl,rfl⟩
  ·rcases ee hv with⟨j,u,rfl,rfl⟩ | ⟨y,u,rfl,rfl⟩
   ·rw[zp]at h;exact wpAny_eqBool_int h
   ·rw[yn]at h;exact SeqAt.EqAt.int_str i t y u _ _ _ _ h
  ·rcases ee hv with⟨j,u,rfl,rfl⟩ | ⟨y,u,rfl,rfl⟩
   ·rw[yb]at h;exact SeqAt.EqAt.str_int x t j u _ _ _ _ h
   ·rw[AY]at h;exact wpAny_eqBool_str h
 «strs»:=fun k x t v h=>by
  rcases ee h with⟨i,u,rfl,e⟩ | ⟨y,u,rfl,e⟩
  ·exact nomatch e
  ·injection e with e1 _
   subst e1
   cases v<;>rfl
theorem xF(prog:Program)(w:World)(i:Int)(t:Tok):(aw prog w).is (.inl i) (.int i t)=true:=wd i t
theorem nM(prog:Program)(w:World)(x:Str)(t:Tok):(aw prog w).is (.inr x) (.str x t)=true:=xK x t
end L2
namespace L2
open PySem PySem.Spec PyProof.Rows
inductive V where
 | non | bl (b:Bool) | int (i:Int) | str (x:Str) | byt (b:Array UInt8) | flt (b:UInt64) | ref (a:Addr) | ty (n:String)
 deriving DecidableEq
def RelV:V->Value->Prop
 | .non,u=>u=Value.none
 | .bl b,u=>u=Value.bool b
 | .int i,u=>∃t,u=Value.int i t
 | .str x,u=>∃t,u=Value.str x t
 | .byt b,u=>∃t,u=Value.bytes b t
 | .flt b,u=>∃t,u=Value.float b t
 | .ref a,u=>u=Value.ref a
 | .ty n,u=>u=Value.type n
abbrev Vals:List V->List Value->Prop:=Paired RelV
theorem Vals.length{xs:List V}{us:List Value}(r:Vals xs us):xs.length=us.length:=Paired.length r
theorem Vals.get:∀{xs:List V} {us:List Value} {i:Nat} {x:V},Vals xs us->xs[i]?=some x->∃u,us[i]?=some u/\RelV x u
 | _,_,_,_,.nil,e=>by simp at e
 | _,_,0,_,.cons r _,e=>by simp at e;subst e;exact⟨_,rfl,r⟩
 | _,_,i+1,x,.cons _ t,e=>by
  obtain⟨u,h1,h2⟩:=Vals.get (i:=i) (x:=x) t (by simpa using e)
  exact⟨u,by simpa using h1,h2⟩
theorem Vals.set{x:V}{u:Value}(r:RelV x u):∀{xs:List V} {us:List Value} (i:Nat),Vals xs us->Vals (xs.set i x) (us.set i u)
 | _,_,_,.nil=>.nil
 | _,_,0,.cons _ t=>.cons r t
 | _,_,i+1,.cons q t=>.cons q (Vals.set r i t)
theorem Vals.append:∀{xs ys:List V} {us ws:List Value},Vals xs us->Vals ys ws->Vals (xs++ys) (us++ws)
 | _,_,_,_,.nil,s=>s
 | _,_,_,_,.cons r t,s=>.cons r (Vals.append t s)
theorem Vals.take:∀{xs:List V} {us:List Value} (n:Nat),Vals xs us->Vals (xs.take n) (us.take n)
 | _,_,0,_=>.nil
 | _,_,_+1,.nil=>.nil
 | _,_,n+1,.cons r t=>.cons r (Vals.take n t)
theorem Vals.drop:∀{xs:List V} {us:List Value} (n:Nat),Vals xs us->Vals (xs.drop n) (us.drop n)
 | _,_,0,r=>r
 | _,_,_+1,.nil=>.nil
 | _,_,n+1,.cons _ t=>Vals.drop n t
def dF:Option V->Option Value->Prop
 | some v,some u=>RelV v u
 | none,none=>True
 | _,_=>False
def KV{κ:Type}:List (κ×V)->List (κ×Value)->Prop:=Paired fun(p:κ×V) (q:κ×Value)=>p.1=q.1/\RelV p.2 q.2
def kV:Key->V
 | .inl i=>.int i
 | .inr x=>.str x
inductive HO where
 /-- a list -/
 | lst (xs:List V)
 /-- a tuple (never changes) -/
 | tup (xs:List V)
 /-- a dict whose keys are ints and texts;one whose keys are tuples of ints and texts (the empty one is both) -/
 | dK (kvs:List (Key×V)) | dT (kvs:List (List Key×V))
 /-- a set of ints: its members,its size -/
 | set (S:Int->Bool) (n:Nat)
 /-- an instance of the class at C,its dict at dx,its attributes -/
 | ins (C dx:Addr) (fs:List (Str×V))
 /-- the dict of the instance at x -/
 | own (x:Addr)
 /-- the dict of an exception -/
 | xd (fs:List (Str×V))
 /-- a bound method,f of x -/
 | met (f x:Addr)
 /-- a range object lo,lo+1,.. below hi -/
 | rng (lo hi:Int)
 /-- a thing that is known to the object (the script;a dict while a loop walks it): read,never written while it is so -/
 | frz (o:Obj) (u:HO)
 /-- a code object's table -/
 | tbl (ps:Array Value)
 /-- any other thing,by what is true of its one object (a def of one's own: eU a S n:=HO.ext fun h=>..) -/
 | ext (φ:Heap->Prop)
abbrev Hp:=Addr->Option HO
def upd(H:Hp)(a:Addr)(o:HO):Hp:=fun b=>if b=a then some o else H b
theorem aG{H:Hp}{a:Addr}{o:HO}:upd H a o a=some o:=by unfold upd;rw[if_pos rfl]
theorem ay{H:Hp}{a b:Addr}{o:HO}(h:b≠a):upd H a o b=H b:=by unfold upd;rw[if_neg h]
theorem cJ{H:Hp}{a b:Addr}{o u:HO}(h:H a=some o)(h':H b=some u)(d:o≠u):a≠b:=by
 intro e;subst e;rw[h]at h';exact d (Option.some.inj h')
theorem cx{H:Hp}{a b:Addr}{o:HO}(h:H a=some o)(h':H b=none):a≠b:=by
 intro e;subst e;rw[h]at h';cases h'
section
variable (P:Program) (w:World)
def bh(H:Hp)(h:Heap)(a:Addr):HO->Prop
 | .lst xs=>xs.length<=sizeLine/\∃(its:List Value) (n:Nat),Vals xs its/\h.get? a=some { cls:=.type "list",data:=.seq its.toArray n }
 | .tup xs=>xs.length<=sizeLine/\∃its:List Value,Vals xs its/\IsTup h a its.toArray
 | .dK kvs=>kvs.length<=sizeLine/\(a == sysModules)=false/\∃vs,KV kvs vs/\h.DictOf (aw P w) a vs
 | .dT kvs=>kvs.length<=sizeLine/\(a == sysModules)=false/\∃xs:List (List Key×Addr×Value),
   Paired (fun(p:List Key×V) (q:List Key×Addr×Value)=>p.1=q.1/\H q.2.1=some (.tup (p.1.map kV))/\RelV p.2 q.2.2) kvs xs ∧
   ∃o es ep,h.get? a=some o/\o.ExactDict/\o.data=.dict es ep/\es.toList=xs.map (entryOfKey (tupleKind (aw P w)))/\(xs.map (·.1)).Nodup
 | .set S n=>h.SetOf (intKind P w) a S n
 | .ins C dx fs=>H dx=some (.own a)/\fs.length<=1000/\dx≠a/\h.get? a=some (PySem.W.instObj C dx) ∧
   ∃mA,h.Ns1 dx mA/\(∀f,dF (fs.lookup f) (mA f))/\PySem.Within mA (fs.map (·.1))
 | .own _=>∃o,h.get? a=some o
 | .xd fs=>∃mA,h.Ns1 a mA/\∀f,dF (fs.lookup f) (mA f)
 | .rng lo hi=>∃t u v,h.get? a=some { cls:=.type "range",data:=.fields #[.int lo t,.int hi u,.int 1 v] }
 | .frz o u=>h.get? a=some o/\bh H h a u
 | .tbl ps=>h.get? a=some { cls:=.none,data:=.fields ps }
 | .met f x=>h.get? a=some (PySem.W.methodObj (.ref f) (.ref x))
 | .ext φ=>φ h/\(∃o,h.get? a=some o)/\∀h1 h2:Heap,φ h1->(∀o,h1.get? a=some o->h2.get? a=some o)->φ h2
def aU(H:Hp)(h:Heap):Prop:=∀a o,H a=some o->bh P w H h a o
end
section
variable {P:Program} {w:World} {H H':Hp} {h h':Heap} {a:Addr} {o:HO}
theorem bh.lt(x:bh P w H h a o):a<h.objs.size:=by
 cases o with
 | lst xs=>obtain⟨_,_,_,_,e⟩:=x;exact Bh e
 | tup xs=>obtain⟨_,_,_,p⟩:=x;exact p.lt
 | dK kvs=>obtain⟨_,_,_,_,o,_,_,e,_⟩:=x;exact Bh e
 | dT kvs=>obtain⟨_,_,_,_,o,_,_,e,_⟩:=x;exact Bh e
 | set S n=>obtain⟨o,_,_,_,e,_⟩:=x;exact Bh e
 | ins C dx fs=>obtain⟨_,_,_,e,_⟩:=x;exact Bh e
 | own y=>obtain⟨_,e⟩:=x;exact Bh e
 | xd fs=>obtain⟨_,⟨_,_,_,e,_⟩,_⟩:=x;exact Bh e
 | rng lo hi=>obtain⟨_,_,_,e⟩:=x;exact Bh e
 | frz ob u=>obtain⟨e,_⟩:=x;exact Bh e
 | tbl ps=>exact Bh (show h.get? a=some _ from x)
 | met f y=>exact Bh (show h.get? a=some _ from x)
 | ext φ=>obtain⟨_,⟨_,e⟩,_⟩:=x;exact Bh e
theorem Paired.mapP{α β:Type}{F G:α->β->Prop}:∀{l₁:List α} {l₂:List β},Paired F l₁ l₂->(∀a b,F a b->G a b)->Paired G l₁ l₂
 | _,_,.nil,_=>.nil
 | _,_,.cons r t,f=>.cons (f _ _ r) (Paired.mapP t f)
theorem bh.stay(x:bh P w H h a o)(k:∀b u,(b=a\/H b=some (.own a))->h.get? b=some u->h'.get? b=some u)
  (ho:∀b,H b=some (.own a)->H' b=some (.own a)) (ht:∀b xs,H b=some (.tup xs)->H' b=some (.tup xs)):bh P w H' h' a o:=by
 induction o with
 | lst xs=>obtain⟨z,its,n,r,e⟩:=x;exact⟨z,its,n,r,k _ _ (.inl rfl) e⟩
 | tup xs=>obtain⟨z,its,r,ob,e,c⟩:=x;exact⟨z,its,r,ob,k _ _ (.inl rfl) e,c⟩
 | dK kvs=>obtain⟨z,y,vs,r,ob,es,ep,e,c⟩:=x;exact⟨z,y,vs,r,ob,es,ep,k _ _ (.inl rfl) e,c⟩
 | dT kvs=>
  obtain⟨z,y,xs,r,ob,es,ep,e,c⟩:=x
  exact⟨z,y,xs,Paired.mapP r fun p q z=>⟨z.1,ht _ _ z.2.1,z.2.2⟩,ob,es,ep,k _ _ (.inl rfl) e,c⟩
 | set S n=>obtain⟨ob,es,ep,t,e,c⟩:=x;exact⟨ob,es,ep,t,k _ _ (.inl rfl) e,c⟩
 | ins C dx fs=>
  obtain⟨d,z,ne,e,mA,⟨od,es,ep,e2,c⟩,r⟩:=x
  exact⟨ho _ d,z,ne,k _ _ (.inl rfl) e,mA,⟨od,es,ep,k _ _ (.inr d) e2,c⟩,r⟩
 | own y=>obtain⟨ob,e⟩:=x;exact⟨ob,k _ _ (.inl rfl) e⟩
 | xd fs=>obtain⟨mA,⟨od,es,ep,e,c⟩,r⟩:=x;exact⟨mA,⟨od,es,ep,k _ _ (.inl rfl) e,c⟩,r⟩
 | rng lo hi=>obtain⟨t,u,v,e⟩:=x;exact⟨t,u,v,k _ _ (.inl rfl) e⟩
 | frz ob u ih=>obtain⟨e,q⟩:=x;exact⟨k _ _ (.inl rfl) e,ih q⟩
 | tbl ps=>
  have e:h.get? a=some { cls:=.none,data:=.fields ps }:=x
  show h'.get? a=some { cls:=.none,data:=.fields ps }
  exact k a _ (.inl rfl) e
 | met f y=>
  have e:h.get? a=some (PySem.W.methodObj (.ref f) (.ref y)):=x
  show h'.get? a=some (PySem.W.methodObj (.ref f) (.ref y))
  exact k a _ (.inl rfl) e
 | ext φ=>obtain⟨p,⟨o,e⟩,st⟩:=x;exact⟨st _ _ p fun o q=>k _ _ (.inl rfl) q,⟨o,k _ _ (.inl rfl) e⟩,st⟩
theorem aU.lt(x:aU P w H h)(e:H a=some o):a<h.objs.size:=(x a o e).lt
theorem aU.fresh(x:aU P w H h)(e:h.objs.size<=a):H a=none:=by
 cases q:H a with
 | none=>rfl
 | some u=>exact absurd (BK (x.lt q) e) (Nat.lt_irrefl _)
theorem aU.kept(x:aU P w H h)(k:∀b u,h.get? b=some u->h'.get? b=some u):aU P w H h':=fun a o e=>
 (x a o e).stay (fun b u _ q=>k b u q) (fun _ q=>q) fun _ _ q=>q
theorem aU.laid(x:aU P w H h)(k:∀b u,h.get? b=some u->h'.get? b=some u)(hp:h.objs.size<=a)(new:bh P w (upd H a o) h' a o):aU P w (upd H a o) h':=fun b u e=>by
 have hn:=x.fresh hp
 by_cases hb:b=a
 ·subst hb;rw[aG]at e;cases e;exact new
 ·rw[ay hb]at e
  exact(x b u e).stay (fun c v _ q=>k c v q) (fun c q=>by rw[ay (cx q hn)];exact q) fun c xs q=>by rw[ay (cx q hn)];exact q
end
def Rd(H:Hp)(a:Addr)(u:HO):Prop:=H a=some u\/∃o,H a=some (.frz o u)
theorem Rd.ok{P:Program}{w:World}{H:Hp}{h:Heap}{a:Addr}{u:HO}(r:Rd H a u)(x:aU P w H h):bh P w H h a u:=by
 rcases r with r | ⟨o,r⟩
 ·exact x a u r
 ·obtain⟨_,q⟩:=x a _ r
  exact q
def iQ:Option HO->Prop
 | some (.lst _)=>True
 | some (.dK _)=>True
 | some (.dT _)=>True
 | some (.set _ _)=>True
 | some (.ins _ _ _)=>True
 | some (.ext _)=>True
 | _=>False
section
variable {P:Program} {w:World} {H:Hp} {h h':Heap} {x e:Addr} {o':HO}
theorem aU.write(ok:aU P w H h)(mu:iQ (H x))(he:e=x\/H e=some (.own x))(k:∀b u,b≠e->h.get? b=some u->h'.get? b=some u)(heo:∃u,h'.get? e=some u)
  (new:bh P w (upd H x o') h' x o'):aU P w (upd H x o') h':=fun b u q=>by
 have nown:∀c y,H c=some (.own y)->c≠x:=fun c y r z=>by subst z;rw[r]at mu;exact mu
 have ntup:∀c xs,H c=some (.tup xs)->c≠x:=fun c xs r z=>by subst z;rw[r]at mu;exact mu
 by_cases hb:b=x
 ·subst hb;rw[aG]at q;cases q;exact new
 ·rw[ay hb]at q
  by_cases hbe:b=e
  ·have q':H b=some (.own x):=by
    rcases he with z | z
    ·exact absurd (hbe.trans z) hb
    ·rw[hbe];exact z
   rw[q]at q';cases q'
   obtain⟨v,hv⟩:=heo
   exact⟨v,by rw[hbe];exact hv⟩
  ·refine(ok b u q).stay (fun c v hc r=>k c v ?_ r) (fun c r=>by rw[ay (nown c b r)];exact r) fun c xs r=>by rw[ay (ntup c xs r)];exact r
   rcases hc with rfl | hc
   ·exact hbe
   ·rintro rfl
    rcases he with z | z
    ·exact nown c b hc z
    ·rw[hc]at z;cases z;exact hb rfl
end
structure Un(fs ex:List Addr)(H H':Hp)(h h':Heap):Prop where
 keep:∀b o,h.get? b=some o->H b=none->b∉fs->b∉ex->h'.get? b=some o
 slot:∀b o,h.get? b=some o->H b=none->b∈fs->b∉ex->∃sl,h'.get? b=some { o with slots:=sl }
 free:∀b o,h.get? b=some o->H b=none->b∉ex->H' b=none
 there:∀b o,h.get? b=some o->b∉ex->∃o',h'.get? b=some o'
 tups:∀b xs,H b=some (.tup xs)->H' b=some (.tup xs)
 frzs:∀b o u,H b=some (.frz o u)->H' b=some (.frz o u)
 tbls:∀b ps,H b=some (.tbl ps)->∃more,H' b=some (.tbl (ps++more))
section
variable {fs fs' ex ex':List Addr} {H H1 H2:Hp} {h h1 h2 h':Heap} {a x e:Addr} {o:HO}
theorem Un.any(u:Un fs ex H H1 h h1){b:Addr}{ob:Obj}(q:h.get? b=some ob)(n:H b=none)(hx:b∉ex):∃sl,h1.get? b=some { ob with slots:=sl }:=by
 by_cases hb:b∈fs
 ·exact u.slot b ob q n hb hx
 ·exact⟨ob.slots,u.keep b ob q n hb hx⟩
theorem Un.kept(k:∀b u,h.get? b=some u->h'.get? b=some u):Un fs ex H H h h':=
 ⟨fun b ob q _ _ _=>k b ob q,fun b ob q _ _ _=>⟨ob.slots,k b ob q⟩,fun _ _ _ n _=>n,fun b ob q _=>⟨ob,k b ob q⟩,fun _ _ q=>q,fun _ _ _ q=>q,fun _ ps q=>⟨#[],by rw[q];simp⟩⟩
theorem Un.refl:Un fs ex H H h h:=Un.kept fun _ _ q=>q
theorem Un.laid(k:∀b u,h.get? b=some u->h'.get? b=some u)(hp:h.objs.size<=a)(hn:H a=none):Un fs ex H (upd H a o) h h' where
 keep:=fun b u q _ _ _=>k b u q
 slot:=fun b u q _ _ _=>⟨u.slots,k b u q⟩
 free:=fun b u q n _=>by rw[ay (BA (BK (Bh q) hp))];exact n
 there:=fun b u q _=>⟨u,k b u q⟩
 tups:=fun b xs q=>by rw[ay (cx q hn)];exact q
 frzs:=fun b u xs q=>by rw[ay (cx q hn)];exact q
 tbls:=fun b ps q=>⟨#[],by rw[ay (cx q hn),q];simp⟩
theorem Un.write(mu:iQ (H x))(he:e=x\/H e=some (.own x))(k:∀b u,b≠e->h.get? b=some u->h'.get? b=some u)(heo:∃u,h'.get? e=some u):Un fs ex H (upd H x o) h h':=by
 have hx:∀b,H b=none->b≠x:=fun b n z=>by subst z;rw[n]at mu;exact mu
 have hb:∀b,H b=none->b≠e:=fun b n z=>by
  subst z
  rcases he with r | r
  ·exact hx b n r
  ·rw[n]at r;cases r
 have hm:∀b u,H b=some u->¬iQ (some u)->b≠x:=fun b u q nm z=>by subst z;rw[q]at mu;exact nm mu
 refine⟨fun b u q n _ _=>k b u (hb b n) q,fun b u q n _ _=>⟨u.slots,k b u (hb b n) q⟩,fun b u q n _=>by rw[ay (hx b n)];exact n,fun b u q _=>?_,
  fun b xs q=>by rw[ay (hm b _ q fun z=>z)];exact q,fun b u xs q=>by rw[ay (hm b _ q fun z=>z)];exact q,fun b ps q=>⟨#[],by rw[ay (hm b _ q fun z=>z),q];simp⟩⟩
 by_cases hbe:b=e
 ·subst hbe;exact heo
 ·exact⟨u,k b u hbe q⟩
end
def jK(h:Heap)(H:Hp):List Addr:=(List.range h.objs.size).filter fun a=>(H a).isSome
def dR(h:Heap)(H:Hp):Heap:=PySem.W.hideAll h (jK h H)
theorem As(h:Heap)(H:Hp):(dR h H).objs.size=h.objs.size:=PySem.W.hideAll_size _ _
theorem jA{h:Heap}{H:Hp}{b:Addr}{o:Obj}(e:h.get? b=some o)(n:H b=none):(dR h H).get? b=some o:=
 PySem.W.hideAll_get _ e fun hm=>by
  have q:(H b).isSome=true:=(List.mem_filter.mp hm).2
  rw[n]at q;simp at q
theorem vt{h:Heap}{H:Hp}{b:Addr}{o:Obj}(e:(dR h H).get? b=some o):h.get? b=some o/\H b=none:=by
 have e':h.get? b=some o:=PySem.W.of_hideAll (jK h H) e
 refine⟨e',?_⟩
 cases q:H b with
 | none=>rfl
 | some x=>
  have hm:b∈jK h H:=List.mem_filter.mpr ⟨List.mem_range.mpr (Bh e'),by simp[q]⟩
  have z:(dR h H).get? b=none:=PySem.W.hideAll_none (jK h H) hm
  rw[z]at e;cases e
end L2
namespace L2
open PySem PySem.Spec PyProof.Rows
structure Mod(K:Be)(mg:Str->Option Value)(base:Heap):Prop where
 kin:K.In base
 glob:base.Ns mainGlobals mg
 blt:∃mb,base.Ns builtinsNs mb/\∀x:Str,x≠"__name__"->mb x=bootBuiltins x
 nolimit:base.NoLimit
structure Cx where
 prog:Program
 w:World
 K:Be
 mg:Str->Option Value
 base:Heap
 A:Around
 N:List Str
 s₀:Shared
 H₀:Hp
 env:Env
 outer:List Env
 stack:List Env
 ex:List Addr
 fn:Str->Bool
 calm:Bool
 pn:List (Addr×Obj)
 xe:Value->Shared->Prop
def cz(l:List Env):List Addr:=l.filterMap (·.frame)
abbrev Cx.fs(X:Cx):List Addr:=cz X.outer
def lE(sc:Scope)(x:Str):Prop:=sc.names.lookup x=some .local\/sc.names.lookup x=some .cell\/sc.names.lookup x=some .free
def Loc(sc:Scope)(x:Str):Prop:=sc.names.lookup x=some .local\/sc.names.lookup x=some .cell
def Look(env:Env)(h:Heap)(m:Str->Option Value)(x:Str)(u:Value):Prop:=
 (env.kindOf x=some .local/\m x=some u)\/((env.kindOf x=some .cell\/env.kindOf x=some .free)/\∃c,env.cells.lookup x=some c/\h.IsCell c (some u))
structure Cx.Ok(X:Cx):Prop where
 mod:Mod X.K X.mg X.base
 kind:X.env.scope.kind=.function
 glob:X.env.globals=mainGlobals
 blt:X.env.builtins=builtinsNs
 above:X.s₀.heap.objs.size<=X.env.locals
 inj:∀x y c,X.env.cells.lookup x=some c->X.env.cells.lookup y=some c->x=y
 has:∀x,(X.env.kindOf x=some .cell\/X.env.kindOf x=some .free)->∃c,X.env.cells.lookup x=some c
 cab:∀x c,X.fn x=true->X.env.cells.lookup x=some c->X.s₀.heap.objs.size<=c
 hd:X.calm=true->X.A.handled=none
 frames:X.A.frames=some X.stack
 stk:X.stack=X.outer\/(X.stack=X.env::X.outer/\X.env.frame=some X.env.locals)
 exf:∀b∈X.ex,b≠X.env.locals/\∀x c,X.env.cells.lookup x=some c->c≠b
 bs:∀b o,X.base.get? b=some o->X.s₀.heap.get? b=some o/\X.H₀ b=none
 bsz:X.base.objs.size<=X.s₀.heap.objs.size
 noex:∀b o,X.base.get? b=some o->b∉X.ex
 exfs:∀b∈X.ex,b∉X.fs
 funs:X.s₀.heap.FunFrames X.base X.outer
 frf:∀b∈X.fs,X.H₀ b=none
structure Inv(X:Cx)(pins:List (Addr×Obj))(σ:List (Option V))(H:Hp)(s:Shared):Prop where
 ok:X.Ok
 os:s.os=X.s₀.os
 bare:AllBare s.gens
 base:Un X.fs X.ex X.H₀ H X.s₀.heap s.heap
 loc:∃m,s.heap.Ns X.env.locals m/\∀(i:Nat) (x:Str) (v:V),X.N[i]?=some x->σ[i]?=some (some v)->lE X.env.scope x->∃u,RelV v u/\Look X.env s.heap m x u
 cell:∀x c,X.env.cells.lookup x=some c->∃v,s.heap.IsCell c v
 free:H X.env.locals=none
 freeC:∀x c,X.env.cells.lookup x=some c->H c=none
 pin:∀p∈X.pn++pins,s.heap.get? p.1=some p.2/\H p.1=none/\p.1≠X.env.locals/\p.1∉X.fs/\∀v,p.2.data≠.cell v
 hok:aU X.prog X.w H s.heap
 len:σ.length=X.N.length
section
variable {X:Cx} {pins:List (Addr×Obj)} {σ:List (Option V)} {H H':Hp} {s:Shared} {h':Heap}
theorem Cx.Ok.nofr(ok:X.Ok){b:Addr}{o:Obj}(e:X.base.get? b=some o):b∉X.fs:=fun hb=>by
 have:=(ok.funs.mem hb).1
 rw[e]at this;cases this
theorem Inv.bs(I:Inv X pins σ H s):∀b o,X.base.get? b=some o->s.heap.get? b=some o/\H b=none:=fun b o e=>
 ⟨I.base.keep b o (I.ok.bs b o e).1 (I.ok.bs b o e).2 (I.ok.nofr e) (I.ok.noex b o e),I.base.free b o (I.ok.bs b o e).1 (I.ok.bs b o e).2 (I.ok.noex b o e)⟩
theorem Inv.bk(I:Inv X pins σ H s):∀b o,X.base.get? b=some o->s.heap.get? b=some o:=fun b o e=>(I.bs b o e).1
theorem Inv.mod(I:Inv X pins σ H s):Mod X.K X.mg X.base:=I.ok.mod
theorem Inv.kIn(I:Inv X pins σ H s):X.K.In s.heap:=I.ok.mod.kin.keeps I.bk
theorem Inv.lt(I:Inv X pins σ H s):X.env.locals<s.heap.objs.size:=let ⟨_,hn,_⟩:=I.loc;hn.lt
theorem Inv.sz(I:Inv X pins σ H s):X.s₀.heap.objs.size<=s.heap.objs.size:=BL I.ok.above (Nat.le_of_lt I.lt)
theorem Inv.nofs(I:Inv X pins σ H s){a:Addr}(h:s.heap.objs.size<=a):a∉X.fs:=fun hb=>by
 obtain⟨_,o,ho,_⟩:=I.ok.funs.mem hb
 exact absurd (BK (Bh ho) (BL I.sz h)) (Nat.lt_irrefl _)
theorem Inv.cne(I:Inv X pins σ H s):∀x c,X.env.cells.lookup x=some c->c≠X.env.locals:=fun x c e z=>by
 obtain⟨v,o,ho,hd⟩:=I.cell x c e
 obtain⟨m,⟨o',es,ep,ho',hd',_⟩,_⟩:=I.loc
 rw[z,ho']at ho;cases ho;rw[hd']at hd;cases hd
theorem Inv.funs(I:Inv X pins σ H s):s.heap.FunFrames X.base X.outer:=by
 have all:∀(l:List Env),(∀b∈cz l,b∈X.fs)->X.s₀.heap.FunFrames X.base l->s.heap.FunFrames X.base l:=by
  intro l
  induction l with
  | nil=>intro _ _;trivial
  | cons env r ih=>
   intro hs hl
   obtain⟨hk,⟨L,o,hf,hn,ho,hd⟩,hr⟩:=hl
   have hL:L∈X.fs:=hs L (by unfold cz;rw[List.filterMap_cons,hf];exact Bo)
   obtain⟨sl,e⟩:=I.base.slot L o ho (I.ok.frf L hL) hL fun z=>I.ok.exfs L z hL
   exact⟨hk,⟨L,_,hf,hn,e,hd⟩,ih (fun b hb=>hs b (by unfold cz;rw[List.filterMap_cons,hf];exact Bl _ hb)) hr⟩
 exact all X.outer (fun _ hb=>hb) I.ok.funs
theorem Inv.stack(I:Inv X pins σ H s):s.heap.FunFrames X.base X.stack:=by
 rcases I.ok.stk with e | ⟨e,hf⟩
 ·rw[e];exact I.funs
 ·rw[e]
  obtain⟨m,hn,_⟩:=I.loc
  refine .cons (by rw[I.ok.kind];decide) hf hn ?_ I.funs
  exact Heap.get?_none_of_le (BL I.ok.bsz I.ok.above)
theorem Inv.stkSub(I:Inv X pins σ H s):∀b∈cz X.stack,b∈X.env.locals::X.fs:=fun b hb=>by
 rcases I.ok.stk with e | ⟨e,hf⟩
 ·rw[e]at hb;exact Bl _ hb
 ·rw[e]at hb
  unfold cz at hb
  rw[List.filterMap_cons,hf]at hb
  exact hb
theorem Inv.stkFree(I:Inv X pins σ H s):∀b∈cz X.stack,H b=none:=fun b hb=>by
 rcases Bw.mp (I.stkSub b hb)with e | hb
 ·rw[e];exact I.free
 ·obtain⟨_,o,ho,_⟩:=I.ok.funs.mem hb
  exact I.base.free b o ho (I.ok.frf b hb) fun z=>I.ok.exfs b z hb
theorem Inv.step{g':Array GenState}{t':Nat}{d':Drawn}{ch:List Addr}(I:Inv X pins σ H s)
  (hch:∀b∈ch,(b∈X.ex\/X.s₀.heap.objs.size<=b)/\b≠X.env.locals/\(∀x c,X.env.cells.lookup x=some c->c≠b)/\∀p∈X.pn++pins,p.1≠b)
  (keep:∀b o,b≠X.env.locals->b∉X.fs->b∉ch->s.heap.get? b=some o->H b=none->h'.get? b=some o)
  (slot:∀b o,b≠X.env.locals->b∈X.fs->b∉ch->s.heap.get? b=some o->H b=none->∃sl,h'.get? b=some { o with slots:=sl }) (free:∀b o,b∉ch->s.heap.get? b=some o->H b=none->H' b=none)
  (there:∀b o,b∉ch->s.heap.get? b=some o->∃o',h'.get? b=some o')
  (tups:∀b xs,H b=some (.tup xs)->H' b=some (.tup xs)) (frzs:∀b o u,H b=some (.frz o u)->H' b=some (.frz o u)) (tbls:∀b ps,H b=some (.tbl ps)->∃more,H' b=some (.tbl (ps++more)))
  (ns:∀m,s.heap.Ns X.env.locals m->h'.Ns X.env.locals m) (hok:aU X.prog X.w H' h') (hg:AllBare g') :
  Inv X pins σ H' { s with heap:=h',gens:=g',drawn:=d',toks:=t' }:=by
 have neL:∀b o,X.s₀.heap.get? b=some o->b≠X.env.locals:=fun b o e=>BA (BK (Bh e) I.ok.above)
 have neC:∀b o,X.s₀.heap.get? b=some o->b∉X.ex->b∉ch:=fun b o e hx hb=>by
  rcases(hch b hb).1 with z | z
  ·exact hx z
  ·exact absurd (BK (Bh e) z) (Nat.lt_irrefl _)
 have cellK:∀x c,X.env.cells.lookup x=some c->∀v,s.heap.IsCell c v->h'.IsCell c v:=fun x c e v ⟨o,ho,hd⟩=>by
  have nch:c∉ch:=fun z=>(hch c z).2.2.1 x c e rfl
  by_cases hc:c∈X.fs
  ·obtain⟨sl,q⟩:=slot c o (I.cne x c e) hc nch ho (I.freeC x c e)
   exact⟨_,q,hd⟩
  ·exact⟨o,keep c o (I.cne x c e) hc nch ho (I.freeC x c e),hd⟩
 refine⟨I.ok,I.os,hg,⟨fun b o e n hb hx=>?_,fun b o e n hb hx=>?_,fun b o e n hx=>?_,fun b o e hx=>?_,fun b xs e=>tups b xs (I.base.tups b xs e),fun b o xs e=>frzs b o xs (I.base.frzs b o xs e),fun b ps e=>?_⟩,?_,fun x c e=>?_,?_,fun x c e=>?_,fun p hp=>?_,hok,I.len⟩
 ·exact keep b o (neL b o e) hb (neC b o e hx) (I.base.keep b o e n hb hx) (I.base.free b o e n hx)
 ·obtain⟨sl,e1⟩:=I.base.slot b o e n hb hx
  obtain⟨sl',e2⟩:=slot b _ (neL b o e) hb (neC b o e hx) e1 (I.base.free b o e n hx)
  exact⟨sl',e2⟩
 ·obtain⟨o',e1⟩:=I.base.there b o e hx
  exact free b o' (neC b o e hx) e1 (I.base.free b o e n hx)
 ·obtain⟨o',e1⟩:=I.base.there b o e hx
  exact there b o' (neC b o e hx) e1
 ·obtain⟨m1,e1⟩:=I.base.tbls b ps e
  obtain⟨m2,e2⟩:=tbls b _ e1
  exact⟨m1++m2,by rw[e2,Array.append_assoc]⟩
 ·obtain⟨m,hn,hl⟩:=I.loc
  refine⟨m,ns m hn,fun i x v e1 e2 e3=>?_⟩
  obtain⟨u,r,l⟩:=hl i x v e1 e2 e3
  refine⟨u,r,?_⟩
  rcases l with l | ⟨k,c,e,z⟩
  ·exact .inl l
  ·exact .inr ⟨k,c,e,cellK x c e _ z⟩
 ·obtain⟨v,z⟩:=I.cell x c e
  exact⟨v,cellK x c e v z⟩
 ·obtain⟨m,⟨o,_,_,ho,_⟩,_⟩:=I.loc
  exact free _ o (fun z=>(hch _ z).2.1 rfl) ho I.free
 ·obtain⟨v,o,ho,hd⟩:=I.cell x c e
  exact free c o (fun z=>(hch c z).2.2.1 x c e rfl) ho (I.freeC x c e)
 ·obtain⟨e,n,ne,nf,d⟩:=I.pin p hp
  have nch:p.1∉ch:=fun z=>(hch p.1 z).2.2.2 p hp rfl
  exact⟨keep p.1 p.2 ne nf nch e n,free p.1 p.2 nch e n,ne,nf,d⟩
theorem Inv.un{t':Nat}(I:Inv X pins σ H s)(u:Un X.fs [] H H' s.heap h')(hok:aU X.prog X.w H' h'):Inv X pins σ H' { s with heap:=h',toks:=t' }:=by
 obtain⟨m,⟨o,es,ep,ho,r⟩,_⟩:=id I.loc
 obtain⟨sl,hL⟩:=u.any ho I.free (by simp)
 exact I.step (g':=s.gens) (d':=s.drawn) (ch:=[]) (fun _ z=>nomatch z) (fun b o _ hb _ e n=>u.keep b o e n hb (by simp)) (fun b o _ hb _ e n=>u.slot b o e n hb (by simp)) (fun b o _ e n=>u.free b o e n (by simp)) (fun b o _ e=>u.there b o e (by simp)) u.tups u.frzs u.tbls (fun m' hm=>by
  obtain⟨o',es',ep',ho',r'⟩:=hm
  rw[ho]at ho';cases ho'
  exact⟨_,es',ep',hL,r'⟩) hok I.bare
theorem Inv.call{g':Array GenState}{t':Nat}{d':Drawn}{ch:List Addr}(I:Inv X pins σ H s)(u:Un (cz X.stack) ch H H' s.heap h')(hok:aU X.prog X.w H' h')(hg:AllBare g')
  (hch:∀b∈ch,(b∈X.ex\/X.s₀.heap.objs.size<=b)/\b≠X.env.locals/\(∀x c,X.env.cells.lookup x=some c->c≠b)/\∀p∈X.pn++pins,p.1≠b) :
  Inv X pins σ H' { s with heap:=h',gens:=g',drawn:=d',toks:=t' }:=by
 obtain⟨m,⟨o,es,ep,ho,r⟩,_⟩:=id I.loc
 obtain⟨sl,hL⟩:=u.any ho I.free fun z=>(hch _ z).2.1 rfl
 exact I.step (ch:=ch) hch (fun b o hL hb hc e n=>u.keep b o e n (fun z=>(Bw.mp (I.stkSub b z)).elim hL hb) hc) (fun b o _ _ hc e n=>u.any e n hc) (fun b o hc e n=>u.free b o e n hc) (fun b o hc e=>u.there b o e hc) u.tups u.frzs u.tbls (fun m' hm=>by
  obtain⟨o',es',ep',ho',r'⟩:=hm
  rw[ho]at ho';cases ho'
  exact⟨_,es',ep',hL,r'⟩) hok hg
theorem Inv.turned{t':Nat}{it:Addr}(I:Inv X pins σ H s)(k:∀b o,b≠it->s.heap.get? b=some o->h'.get? b=some o)(hn:H it=none)(hL:it≠X.env.locals)
  (h1:it∈X.ex\/X.s₀.heap.objs.size<=it) (h2:∀x c,X.env.cells.lookup x=some c->c≠it) (h3:∀p∈X.pn++pins,p.1≠it):Inv X pins σ H { s with heap:=h',toks:=t' }:=by
 have nit:∀b u,H b=some u->b≠it:=fun b u e z=>by rw[z,hn]at e;cases e
 refine I.step (g':=s.gens) (d':=s.drawn) (ch:=[it]) (fun b hb=>?_) (fun b o _ _ hc e _=>k b o (fun z=>hc (by simp[z])) e) (fun b o _ _ hc e _=>⟨o.slots,k b o (fun z=>hc (by simp[z])) e⟩) (fun _ _ _ _ n=>n)
  (fun b o hc e=>⟨o,k b o (fun z=>hc (by simp[z])) e⟩) (fun _ _ e=>e) (fun _ _ _ e=>e) (fun b ps e=>⟨#[],by rw[e];simp⟩) (fun m hm=>?_) (fun b u e=>?_) I.bare
 ·have e:b=it:=by simpa using hb
  subst e
  exact⟨h1,hL,h2,h3⟩
 ·obtain⟨o,es,ep,ho,r⟩:=hm
  exact⟨o,es,ep,k _ o (Ne.symm hL) ho,r⟩
 ·refine(I.hok b u e).stay (fun c v hc q=>k c v ?_ q) (fun _ q=>q) fun _ _ q=>q
  rcases hc with z | z
  ·rw[z];exact nit b u e
  ·exact nit c _ z
theorem Inv.tok(I:Inv X pins σ H s)(t:Nat):Inv X pins σ H { s with toks:=t }:=I.un (h':=s.heap) (t':=t) Un.refl I.hok
theorem Inv.kept{t':Nat}(I:Inv X pins σ H s)(k:∀b u,s.heap.get? b=some u->h'.get? b=some u):Inv X pins σ H { s with heap:=h',toks:=t' }:=I.un (Un.kept k) (I.hok.kept k)
theorem Inv.laid{a:Addr}{o:HO}{t':Nat}(I:Inv X pins σ H s)(k:∀b u,s.heap.get? b=some u->h'.get? b=some u)(hp:s.heap.objs.size<=a)(new:bh X.prog X.w (upd H a o) h' a o):
  Inv X pins σ (upd H a o) { s with heap:=h',toks:=t' }:=I.un (Un.laid k hp (I.hok.fresh hp)) (I.hok.laid k hp new)
theorem Inv.write{x e:Addr}{o:HO}{t':Nat}(I:Inv X pins σ H s)(mu:iQ (H x))(he:e=x\/H e=some (.own x))(k:∀b u,b≠e->s.heap.get? b=some u->h'.get? b=some u)(heo:∃u,h'.get? e=some u)
  (new:bh X.prog X.w (upd H x o) h' x o):Inv X pins σ (upd H x o) { s with heap:=h',toks:=t' }:=I.un (Un.write mu he k heo) (I.hok.write mu he k heo new)
theorem Inv.pins_of{pins':List (Addr×Obj)}(I:Inv X pins σ H s)(h:∀p∈pins',s.heap.get? p.1=some p.2/\H p.1=none/\p.1≠X.env.locals/\p.1∉X.fs/\∀v,p.2.data≠.cell v):Inv X pins' σ H s:=
 ⟨I.ok,I.os,I.bare,I.base,I.loc,I.cell,I.free,I.freeC,fun p hp=>(BE.mp hp).elim (fun z=>I.pin p (List.mem_append_left _ z)) (h p),I.hok,I.len⟩
theorem rZ{N:List Str}(hN:N.Nodup){i j:Nat}{x:Str}(a:N[i]?=some x)(b:N[j]?=some x):i=j:=by
 obtain⟨h1,e1⟩:=Bq.mp a
 obtain⟨h2,e2⟩:=Bq.mp b
 exact(List.getElem_inj hN).mp (e1.trans e2.symm)
theorem pX{M:Model}{A:Around}{E:Value->Shared->Prop}{i:Nat}{x:Str}{v:V}{u:Value}{Q:Unit->Shared->Prop}(I:Inv X pins σ H s)(hN:X.N.Nodup)(hi:X.N[i]?=some x)(hx:Loc X.env.scope x)(r:RelV v u)
  (h:∀s',Inv X pins (σ.set i (some v)) H s'->(∃a,Heap.SameBut a s.heap s'.heap/\(a=X.env.locals\/X.env.cells.lookup x=some a))->Q () s') (hf:X.fn x=true\/X.env.scope.names.lookup x=some .local:=by first | exact .inl rfl | exact .inr rfl | assumption):wpAny M A (storeName X.env x u) Q E s:=by
 obtain⟨m,hn,hl⟩:=id I.loc
 have hcls:(X.env.scope.kind == .class || (X.env.scope.kind == .module && X.env.locals != X.env.globals))=false:=by rw[I.ok.kind];rfl
 have hiσ:i<σ.length:=by rw[I.len];exact(Bq.mp hi).1
 have cne:=I.cne
 have tracked:∀{a:Addr} {h':Heap},(∃o,s.heap.get? a=some o/\H a=none)->Heap.SameBut a s.heap h'->aU X.prog X.w H h':=fun{a h'} ha hs b ob e=>by
  obtain⟨_,_,hfree⟩:=ha
  refine(I.hok b ob e).stay (fun c w' hc q=>(hs.2 c ?_).trans q) (fun _ q=>q) fun _ _ q=>q
  rintro rfl
  rcases hc with rfl | hc
  ·rw[hfree]at e;cases e
  ·rw[hfree]at hc;cases hc
 rcases hx with hk | hk
 ·refine wpAny_storeName_local hk hn (fun h' hn' hs=>?_) hcls
  obtain⟨oL,_,_,hoL,_⟩:=id hn
  refine h _ ⟨I.ok,I.os,I.bare,⟨fun b o e n hb hx=>?_,fun b o e n hb hx=>?_,I.base.free,fun b o e hx=>?_,I.base.tups,I.base.frzs,I.base.tbls⟩,⟨_,hn',fun j y v' e1 e2 e3=>?_⟩,fun y c e=>?_,I.free,I.freeC,fun p hp=>?_,tracked ⟨oL,hoL,I.free⟩ hs,by simpa using I.len⟩ ⟨_,hs,.inl rfl⟩
  ·exact(hs.2 b (BA (BK (Bh e) I.ok.above))).trans (I.base.keep b o e n hb hx)
  ·obtain⟨sl,e1⟩:=I.base.slot b o e n hb hx
   exact⟨sl,(hs.2 b (BA (BK (Bh e) I.ok.above))).trans e1⟩
  ·obtain⟨o',e1⟩:=I.base.there b o e hx
   exact⟨o',(hs.2 b (BA (BK (Bh e) I.ok.above))).trans e1⟩
  ·by_cases hj:j=i
   ·subst hj
    rw[hi]at e1;cases e1
    rw[List.getElem?_set_self hiσ]at e2
    cases e2
    exact⟨u,r,.inl ⟨hk,by simp⟩⟩
   ·rw[List.getElem?_set_ne (Ne.symm hj)]at e2
    obtain⟨u',r',q⟩:=hl j y v' e1 e2 e3
    refine⟨u',r',?_⟩
    rcases q with⟨k,e⟩ | ⟨k,c,e,z⟩
    ·refine .inl ⟨k,?_⟩
     have:y≠x:=fun e=>hj (rZ hN e1 (e ▸ hi))
     simp[this,e]
    ·exact .inr ⟨k,c,e,z.sameBut hs (cne y c e)⟩
  ·obtain⟨w',z⟩:=I.cell y c e
   exact⟨w',z.sameBut hs (cne y c e)⟩
  ·obtain⟨e,n,ne,nf,d⟩:=I.pin p hp
   exact⟨(hs.2 p.1 ne).trans e,n,ne,nf,d⟩
 ·have hfn:X.fn x=true:=by
   rcases hf with z | z
   ·exact z
   ·rw[z]at hk;cases hk
  obtain⟨c,hc⟩:=I.ok.has x (.inl hk)
  obtain⟨w',z⟩:=I.cell x c hc
  refine wpAny_storeName_cell I.ok.kind hk hc z (fun h' hc' hs=>?_)
  obtain⟨oc,hoc,hocd⟩:=id z
  refine h { s with heap:=h' } ⟨I.ok,I.os,I.bare,⟨fun b o e n hb hx=>?_,fun b o e n hb hx=>?_,I.base.free,fun b o e hx=>?_,I.base.tups,I.base.frzs,I.base.tbls⟩,⟨m,hn.sameBut hs (Ne.symm (cne x c hc)),fun j y v' e1 e2 e3=>?_⟩,fun y c' e=>?_,I.free,I.freeC,fun p hp=>?_,tracked ⟨oc,hoc,I.freeC x c hc⟩ hs,by simpa using I.len⟩ ⟨c,hs,.inr hc⟩
  ·exact(hs.2 b (BA (BK (Bh e) (I.ok.cab x c hfn hc)))).trans (I.base.keep b o e n hb hx)
  ·obtain⟨sl,e1⟩:=I.base.slot b o e n hb hx
   exact⟨sl,(hs.2 b (BA (BK (Bh e) (I.ok.cab x c hfn hc)))).trans e1⟩
  ·obtain⟨o',e1⟩:=I.base.there b o e hx
   exact⟨o',(hs.2 b (BA (BK (Bh e) (I.ok.cab x c hfn hc)))).trans e1⟩
  ·by_cases hj:j=i
   ·subst hj
    rw[hi]at e1;cases e1
    rw[List.getElem?_set_self hiσ]at e2
    cases e2
    exact⟨u,r,.inr ⟨.inl hk,c,hc,hc'⟩⟩
   ·rw[List.getElem?_set_ne (Ne.symm hj)]at e2
    obtain⟨u',r',q⟩:=hl j y v' e1 e2 e3
    refine⟨u',r',?_⟩
    rcases q with q | ⟨k,c',e,z'⟩
    ·exact .inl q
    ·refine .inr ⟨k,c',e,z'.sameBut hs ?_⟩
     rintro rfl
     exact hj (rZ hN e1 (I.ok.inj _ _ _ e hc ▸ hi))
  ·by_cases hcc:c'=c
   ·subst hcc;exact⟨_,hc'⟩
   ·obtain⟨w2,z2⟩:=I.cell y c' e
    exact⟨w2,z2.sameBut hs hcc⟩
  ·obtain⟨e,n,ne,nf,d⟩:=I.pin p hp
   refine⟨(hs.2 p.1 ?_).trans e,n,ne,nf,d⟩
   intro q
   rw[q,hoc]at e
   have q':oc=p.2:=Option.some.inj e
   exact d w' (by rw[←q'];exact hocd)
theorem j6{M:Model}{A:Around}{E:Value->Shared->Prop}{i:Nat}{x:Str}{v:V}{u:Value}{Q:Unit->Shared->Prop}(I:Inv X pins σ H s)(hN:X.N.Nodup)(hi:X.N[i]?=some x)(hx:Loc X.env.scope x)(r:RelV v u)
  (h:∀s',Inv X pins (σ.set i (some v)) H s'->Q () s') (hf:X.fn x=true\/X.env.scope.names.lookup x=some .local:=by first | exact .inl rfl | exact .inr rfl | assumption):wpAny M A (storeName X.env x u) Q E s:=
 pX I hN hi hx r (fun s' I' _=>h s' I') hf
theorem Inv.call'{s':Shared}{ch:List Addr}(I:Inv X pins σ H s)(ho:s'.os=s.os)(u:Un (cz X.stack) ch H H' s.heap s'.heap)(hok:aU X.prog X.w H' s'.heap)(hg:AllBare s'.gens)
  (hch:∀b∈ch,(b∈X.ex\/X.s₀.heap.objs.size<=b)/\b≠X.env.locals/\(∀x c,X.env.cells.lookup x=some c->c≠b)/\∀p∈X.pn++pins,p.1≠b):Inv X pins σ H' s':=by
 obtain⟨h',g',d',t',o'⟩:=s'
 have e:o'=s.os:=ho
 subst e
 exact I.call (g':=g') (t':=t') (d':=d') u hok hg hch
end
abbrev XK:=Value->Option Addr->Hp->Prop
abbrev St:=List (Option V)
abbrev VK:=V->Hp->Prop
abbrev TE:=St->Hp->VK->Prop
abbrev TT:=St->Hp->(Bool->Hp->Prop)->Prop
abbrev TA:=St->Hp->(List V->Hp->Prop)->Prop
structure Ends where
 nx:St->Hp->Prop
 rt:VK
 bk:St->Hp->Prop:=fun _ _=>False
 ct:St->Hp->Prop:=fun _ _=>False
abbrev TS:=Ends->St->Hp->Prop
def EP(X:Cx)(pins:List (Addr×Obj))(σ:St)(Q:VK)(u:Value)(s':Shared):Prop:=∃v H',Inv X pins σ H' s'/\RelV v u/\Q v H'
def TP(X:Cx)(pins:List (Addr×Obj))(σ:St)(Q:Bool->Hp->Prop)(b:Bool)(s':Shared):Prop:=∃H',Inv X pins σ H' s'/\Q b H'
def AP(X:Cx)(pins:List (Addr×Obj))(σ:St)(Q:List V->Hp->Prop)(us:List Value)(s':Shared):Prop:=∃vs H',Inv X pins σ H' s'/\Vals vs us/\Q vs H'
def SP(X:Cx)(pins:List (Addr×Obj))(D:Ends)(f:Flow)(s':Shared):Prop:=
 match f with
 | .next=>∃σ' H',Inv X pins σ' H' s'/\D.nx σ' H'
 | .brk=>∃σ' H',Inv X pins σ' H' s'/\D.bk σ' H'
 | .cont=>∃σ' H',Inv X pins σ' H' s'/\D.ct σ' H'
 | .ret u=>∃v σ' H',Inv X pins σ' H' s'/\RelV v u/\D.rt v H'
def PE(X:Cx)(e:Expr)(t:TE):Prop:=
 ∀(pins:List (Addr×Obj)) (s:Shared) (σ:St) (H:Hp) (Q:VK),Inv X pins σ H s->t σ H Q->wpAny (model X.prog X.w) X.A (eval e X.env) (EP X pins σ Q) X.xe s
def PT(X:Cx)(e:Expr)(t:TT):Prop:=
 ∀(pins:List (Addr×Obj)) (s:Shared) (σ:St) (H:Hp) (Q:Bool->Hp->Prop),Inv X pins σ H s->t σ H Q->wpAny (model X.prog X.w) X.A (isTrue e X.env (eval e X.env)) (TP X pins σ Q) X.xe s
def PW(X:Cx)(e:Expr)(t:TT):Prop:=
 ∀(whole:Sem Value) (pins:List (Addr×Obj)) (s:Shared) (σ:St) (H:Hp) (Q:Bool->Hp->Prop),Inv X pins σ H s->t σ H Q->wpAny (model X.prog X.w) X.A (isTrue e X.env whole) (TP X pins σ Q) X.xe s
theorem PW.pt{X:Cx}{e:Expr}{t:TT}(h:PW X e t):PT X e t:=h _
def PA(X:Cx)(es:List Expr)(t:TA):Prop:=
 ∀(pos:Pos) (pins:List (Addr×Obj)) (s:Shared) (σ:St) (H:Hp) (Q:List V->Hp->Prop),Inv X pins σ H s->t σ H Q->wpAny (model X.prog X.w) X.A (spliced (backTo pos (starEach es X.env))) (AP X pins σ Q) X.xe s
def PS(X:Cx)(st:Stmt)(t:TS):Prop:=
 ∀(pins:List (Addr×Obj)) (s:Shared) (σ:St) (H:Hp) (D:Ends),Inv X pins σ H s->t D σ H->wpAny (model X.prog X.w) X.A (exec st X.env) (SP X pins D) X.xe s
def bU(X:Cx)(st:List Stmt)(t:TS):Prop:=
 ∀(pins:List (Addr×Obj)) (s:Shared) (σ:St) (H:Hp) (D:Ends),Inv X pins σ H s->t D σ H->wpAny (model X.prog X.w) X.A (execs st X.env) (SP X pins D) X.xe s
theorem ah{α:Type}{t:Sem α}{Q Q':α->Shared->Prop}{M:Model}{A:Around}{E:Value->Shared->Prop}{s:Shared}(h:wpAny M A t Q E s)(hQ:∀a s,Q a s->Q' a s):wpAny M A t Q' E s:=wpAny_mono h hQ fun _ _ x=>x
end L2
namespace L2
open PySem PySem.Spec PyProof.Rows
section
variable {X:Cx}
theorem bin{a b:Expr}{ta tb:TE}(ha:PE X a ta)(hb:PE X b tb){pins:List (Addr×Obj)}{s:Shared}{σ:St}{H:Hp}{R:V->V->Hp->Prop}(I:Inv X pins σ H s)(h:ta σ H fun x H1=>tb σ H1 fun y H2=>R x y H2)
  {α:Type} {Q:α->Shared->Prop} {f:Value->Value->Sem α}
  (hf:∀v u s2 x y H2,Inv X pins σ H2 s2->RelV x v->RelV y u->R x y H2->wpAny (model X.prog X.w) X.A (f v u) Q X.xe s2) :
  wpAny (model X.prog X.w) X.A (eval a X.env) (fun v s₁=>wpAny (model X.prog X.w) X.A (eval b X.env) (fun u s₂=>wpAny (model X.prog X.w) X.A (f v u) Q X.xe s₂) X.xe s₁) X.xe s:=by
 refine ah (ha pins s σ H _ I h) fun v s1 ⟨x,H1,I1,r1,q1⟩=>?_
 refine ah (hb pins s1 σ H1 _ I1 q1) fun u s2 ⟨y,H2,I2,r2,q2⟩=>?_
 exact hf v u s2 x y H2 I2 r1 r2 q2
def iD(i:Nat):TE:=fun σ H Q=>∃v,σ[i]?=some (some v)/\Q v H
def tC(v:V):TE:=fun _ H Q=>Q v H
theorem yq{i:Nat}{x:Str}{pos:Pos}(hN:X.N[i]?=some x)(hv:lE X.env.scope x)(hd:(x == ("__debug__":Str))=false:=by decide)(hcd:(x == ("__classdict__":Str))=false:=by decide):PE X (.Name x pos) (iD i):=by
 intro pins s σ H Q I h
 obtain⟨v,e,h⟩:=h
 obtain⟨m,hn,hl⟩:=I.loc
 obtain⟨u,r,l⟩:=hl i x v hN e hv
 have fin:EP X pins σ Q u s:=⟨v,H,I,r,h⟩
 rcases l with⟨hk,hm⟩ | ⟨hk,c,hc,hcell⟩
 ·exact wpAny_Name (wpAny_loadName_local I.ok.kind hk hn hm fin) hd
 ·rcases hk with hk | hk
  ·exact wpAny_Name (wpAny_loadName_cell I.ok.kind hk hc hcell fin) hd
  ·exact wpAny_Name (wpAny_loadName_free I.ok.kind hk hc hcell fin hcd) hd
theorem af{i j pos}:PE X (.Constant (.int i) j pos) (tC (.int i)):=fun _ _ _ H _ I h=>wpAny_Constant_int ⟨.int i,H,I.tok _,⟨_,rfl⟩,h⟩
theorem cZ{b j pos}:PE X (.Constant (.bool b) j pos) (tC (.bl b)):=fun _ _ _ H _ I h=>Constant_bool ⟨.bl b,H,I,rfl,h⟩
theorem aJ{x j pos}:PE X (.Constant (.str x) j pos) (tC (.str x)):=fun _ _ _ H _ I h=>Calls.Constant_str ⟨.str x,H,I.tok _,⟨_,rfl⟩,h⟩
def Gl(X:Cx)(x:Str):Prop:=X.env.kindOf x=some .globalImplicit
theorem ji{E:Value->Shared->Prop}{pins:List (Addr×Obj)}{s:Shared}{σ:St}{H:Hp}{x:Str}{u:Value}{pos:Pos}{Q:Value->Shared->Prop}(I:Inv X pins σ H s)(hg:Gl X x)(hm:X.mg x=some u)(h:Q u s)
  (hd:(x == ("__debug__":Str))=false:=by decide):wpAny (model X.prog X.w) X.A (eval (.Name x pos) X.env) Q E s:=
 Calls.Name_function_global I.ok.kind hg (Calls.loadGlobal_global (by rw[I.ok.glob];exact I.mod.glob.keeps I.bk) hm h) hd
theorem iT{E:Value->Shared->Prop}{pins:List (Addr×Obj)}{s:Shared}{σ:St}{H:Hp}{x:Str}{u:Value}{pos:Pos}{Q:Value->Shared->Prop}(I:Inv X pins σ H s)(hg:Gl X x)(hm:X.mg x=none)(hv:bootBuiltins x=some u)(h:Q u s)
  (hn:x≠"__name__":=by decide) (hd:(x == ("__debug__":Str))=false:=by decide):wpAny (model X.prog X.w) X.A (eval (.Name x pos) X.env) Q E s:=by
 obtain⟨mb,h1,h2⟩:=I.mod.blt
 exact Calls.Name_function_global I.ok.kind hg (Calls.loadGlobal_builtin (by rw[I.ok.glob];exact I.mod.glob.keeps I.bk) hm (by rw[I.ok.blt];exact h1.keeps I.bk) ((h2 x hn).trans hv) h) hd
theorem pH{x:Str}{v:V}{u:Value}{pos:Pos}(hg:Gl X x)(hm:X.mg x=some u)(r:RelV v u)(hd:(x == ("__debug__":Str))=false:=by decide):PE X (.Name x pos) (tC v):=
 fun _ _ _ H _ I h=>ji I hg hm ⟨v,H,I,r,h⟩ hd
theorem dC{x:Str}{v:V}{u:Value}{pos:Pos}(hg:Gl X x)(hm:X.mg x=none)(hv:bootBuiltins x=some u)(r:RelV v u)(hn:x≠"__name__":=by decide)(hd:(x == ("__debug__":Str))=false:=by decide):PE X (.Name x pos) (tC v):=
 fun _ _ _ H _ I h=>iT I hg hm hv ⟨v,H,I,r,h⟩ hn hd
variable {a b:Expr} {ta tb:TE} {pos:Pos}
def PC(X:Cx)(op:CmpOp)(a b:Expr)(t:TE):Prop:=
 ∀(pins:List (Addr×Obj)) (s:Shared) (σ:St) (H:Hp) (Q:VK),Inv X pins σ H s->t σ H Q →
  wpAny (model X.prog X.w) X.A (eval a X.env) (fun v s₁=>wpAny (model X.prog X.w) X.A (eval b X.env) (fun u s₂=>wpAny (model X.prog X.w) X.A (compareOp op v u) (EP X pins σ Q) X.xe s₂) X.xe s₁) X.xe s
def tB(t:TE):TT:=fun σ H Q=>t σ H fun x H1=>∃c,x=.bl c/\Q c H1
theorem w8{op:CmpOp}{t:TE}(h:PC X op a b t)(h1:behindInMarks op b=false:=by first | exact nobehind _ (by decide) (by decide) | rfl):PE X (.Compare a [op] [b] pos) t:=fun pins s σ H Q I hw=>wpAny_Compare1 (h pins s σ H Q I hw) h1
theorem uD{op:CmpOp}{t:TE}(h:PC X op a b t)(h1:behindInMarks op b=false:=by first | exact nobehind _ (by decide) (by decide) | rfl):PT X (.Compare a [op] [b] pos) (tB t):=by
 intro pins s σ H Q I hw
 refine wpAny_isTrue_Compare1 (ah (h pins s σ H _ I hw) fun v s1 h1=>ah h1 fun u s2 h2=>ah h2 fun c s3 ⟨x,H1,I1,r1,q1⟩=>?_) h1
 obtain⟨d,rfl,q⟩:=q1
 cases r1
 exact wpAny_truthy_bool ⟨H1,I1,q⟩
theorem cN{e:Expr}{t:TE}(h:PE X e t)(he:∀whole,isTrue e X.env whole=(do let v ←whole;standAt e.pos;holding [v] (truthy v)):=by intro _;rfl):PT X e (tB t):=by
 intro pins s σ H Q I hw
 refine isTrue_plain (ah (h pins s σ H _ I hw) fun v s1 ⟨x,H1,I1,r1,q1⟩=>?_) (he _)
 obtain⟨d,rfl,q⟩:=q1
 cases r1
 exact wpAny_truthy_bool ⟨H1,I1,q⟩
variable {tA tB':TT} {rest:List Expr}
def pI(t u:TT):TT:=fun σ H Q=>t σ H fun c H1=>if c=true then u σ H1 Q else Q false H1
def qy(t u:TT):TT:=fun σ H Q=>t σ H fun c H1=>if c=true then Q true H1 else u σ H1 Q
def uq(t:TT):TT:=fun σ H Q=>t σ H fun c H1=>Q (!c) H1
theorem iS(ha:PT X a tA):PW X (.BoolOp .And [a] pos) tA:=by
 intro wh pins s σ H Q I h
 refine isTrue_and (ah (ha pins s σ H Q I h) fun c s1 e=>?_)
 cases c with
 | true=>exact isTrue_and_nil e
 | false=>exact e
theorem h8(ha:PT X a tA):PW X (.BoolOp .Or [a] pos) tA:=by
 intro wh pins s σ H Q I h
 refine isTrue_or (ah (ha pins s σ H Q I h) fun c s1 e=>?_)
 cases c with
 | false=>exact isTrue_or_nil e
 | true=>exact e
theorem gZ(ha:PT X a tA)(hb:PW X (.BoolOp .And (b::rest) pos) tB'):PW X (.BoolOp .And (a::b::rest) pos) (pI tA tB'):=by
 intro wh pins s σ H Q I h
 refine isTrue_and (ah (ha pins s σ H _ I h) fun c s1 ⟨H1,I1,q1⟩=>?_)
 cases c with
 | true=>exact hb wh pins s1 σ H1 Q I1 q1
 | false=>exact⟨H1,I1,q1⟩
theorem iI(ha:PT X a tA)(hb:PW X (.BoolOp .Or (b::rest) pos) tB'):PW X (.BoolOp .Or (a::b::rest) pos) (qy tA tB'):=by
 intro wh pins s σ H Q I h
 refine isTrue_or (ah (ha pins s σ H _ I h) fun c s1 ⟨H1,I1,q1⟩=>?_)
 cases c with
 | true=>exact⟨H1,I1,q1⟩
 | false=>exact hb wh pins s1 σ H1 Q I1 q1
theorem eB(ha:PT X a tA):PT X (.UnaryOp .Not a pos) (uq tA):=by
 intro pins s σ H Q I h
 exact isTrue_not (ha pins s σ H (fun c H1=>Q (!c) H1) I h)
def tm(ta tb:TE):TE:=fun σ H Q=>ta σ H fun x H1=>∃c,x=.bl c/\if c=true then tb σ H1 Q else Q (.bl false) H1
def qP(ta tb:TE):TE:=fun σ H Q=>ta σ H fun x H1=>∃c,x=.bl c/\if c=true then Q (.bl true) H1 else tb σ H1 Q
def rQ(ta:TE):TE:=fun σ H Q=>ta σ H fun x H1=>∃c,x=.bl c/\Q (.bl (!c)) H1
theorem dA{op}{t:TE}(h:PE X a t):PE X (.BoolOp op [a] pos) t:=fun pins s σ H Q I hw=>BoolOp_one (h pins s σ H Q I hw)
theorem cH(ha:PE X a ta)(hb:PE X (.BoolOp .And (b::rest) pos) tb):PE X (.BoolOp .And (a::b::rest) pos) (tm ta tb):=by
 intro pins s σ H Q I h
 refine BoolOp_and (ah (ha pins s σ H _ I h) fun v s1 ⟨x,H1,I1,r1,q1⟩=>?_)
 obtain⟨c,rfl,q1⟩:=q1
 cases r1
 refine wpAny_truthy_bool ?_
 cases c with
 | true=>exact hb pins s1 σ H1 Q I1 q1
 | false=>exact⟨.bl false,H1,I1,rfl,q1⟩
theorem zO(ha:PE X a ta)(hb:PE X (.BoolOp .Or (b::rest) pos) tb):PE X (.BoolOp .Or (a::b::rest) pos) (qP ta tb):=by
 intro pins s σ H Q I h
 refine BoolOp_or (ah (ha pins s σ H _ I h) fun v s1 ⟨x,H1,I1,r1,q1⟩=>?_)
 obtain⟨c,rfl,q1⟩:=q1
 cases r1
 refine wpAny_truthy_bool ?_
 cases c with
 | false=>exact hb pins s1 σ H1 Q I1 q1
 | true=>exact⟨.bl true,H1,I1,rfl,q1⟩
theorem rK(ha:PE X a ta):PE X (.UnaryOp .Not a pos) (rQ ta):=by
 intro pins s σ H Q I h
 refine UnaryOp_ (ah (ha pins s σ H _ I h) fun v s1 ⟨x,H1,I1,r1,q1⟩=>?_)
 obtain⟨c,rfl,q1⟩:=q1
 cases r1
 exact not_of (wpAny_truthy_bool ⟨.bl (!c),H1,I1,rfl,q1⟩)
end
end L2
namespace L2
open PySem PySem.Spec PyProof.Rows
def ag(K:Be)(H:Hp)(a:Addr)(xs:List V):Prop:=
 Rd H a (.lst xs) ∨
  ∃(o:Obj) (its:Array Value) (n:Nat),K.lookup a=some o/\o.cls=.type "list"/\o.dict=none/\o.data=.seq its n/\its.size<=sizeLine/\Vals xs its.toList
def ao(K:Be)(H:Hp)(a:Addr)(xs:List V):Prop:=
 Rd H a (.tup xs) ∨
  ∃(o:Obj) (its:Array Value) (n:Nat),K.lookup a=some o/\o.cls=.type "tuple"/\o.data=.seq its n/\its.size<=sizeLine/\Vals xs its.toList
def vv:Value->Option V
 | .none=>some .non
 | .bool b=>some (.bl b)
 | .int i _=>some (.int i)
 | .str x _=>some (.str x)
 | .bytes b _=>some (.byt b)
 | .float b _=>some (.flt b)
 | .ref a=>some (.ref a)
 | .type n=>some (.ty n)
 | _=>none
theorem RelV.abs{x:V}{u:Value}(r:RelV x u):vv u=some x:=by
 cases x with
 | non=>cases r;rfl
 | bl _=>cases r;rfl
 | int _=>obtain⟨t,rfl⟩:=r;rfl
 | str _=>obtain⟨t,rfl⟩:=r;rfl
 | byt _=>obtain⟨t,rfl⟩:=r;rfl
 | flt _=>obtain⟨t,rfl⟩:=r;rfl
 | ref _=>cases r;rfl
 | ty _=>cases r;rfl
theorem RelV.inj{x y:V}{u:Value}(r:RelV x u)(q:RelV y u):x=y:=Option.some.inj (r.abs.symm.trans q.abs)
theorem Vals.inj:∀{xs ys:List V} {us:List Value},Vals xs us->Vals ys us->xs=ys
 | _,_,_,.nil,.nil=>rfl
 | _,_,_,.cons r t,.cons r' t'=>by rw[r.inj r',Vals.inj t t']
section
variable {X:Cx} {pins:List (Addr×Obj)} {σ:St} {H:Hp} {s:Shared} {a:Addr} {xs ys:List V}
theorem ag.of{K:Be}(h:H a=some (.lst xs)):ag K H a xs:=.inl (.inl h)
theorem ao.of{K:Be}(h:H a=some (.tup xs)):ao K H a xs:=.inl (.inl h)
theorem Inv.list(I:Inv X pins σ H s)(h:ag X.K H a xs):∃its:List Value,Vals xs its/\PlainL s.heap a its.toArray/\xs.length<=sizeLine:=by
 rcases h with h | ⟨o,its,n,hk,hc,hd,hs,hz,r⟩
 ·obtain⟨z,its,n,r,e⟩:=h.ok I.hok
  exact⟨its,r,⟨_,n,e,rfl,rfl,rfl⟩,z⟩
 ·refine⟨its.toList,r,⟨o,n,I.kIn a o hk,hc,hd,by simpa using hs⟩,?_⟩
  have e:=r.length
  simp only[Bm]at e
  omega
theorem Inv.tuple(I:Inv X pins σ H s)(h:ao X.K H a xs):∃its:List Value,Vals xs its/\IsTup s.heap a its.toArray/\xs.length<=sizeLine:=by
 rcases h with h | ⟨o,its,n,hk,hc,hs,hz,r⟩
 ·obtain⟨z,its,r,p⟩:=h.ok I.hok
  exact⟨its,r,p,z⟩
 ·refine⟨its.toList,r,⟨o,I.kIn a o hk,hc,n,by simpa using hs⟩,?_⟩
  have e:=r.length
  simp only[Bm]at e
  omega
theorem Inv.list_inj(I:Inv X pins σ H s)(h:ag X.K H a xs)(h':ag X.K H a ys):xs=ys:=by
 obtain⟨its,r,⟨o,n,e,_,_,d⟩,_⟩:=I.list h
 obtain⟨its',r',⟨o',n',e',_,_,d'⟩,_⟩:=I.list h'
 rw[e]at e';cases e'
 rw[d]at d'
 injection d' with d1 _
 have:its=its':=by simpa using congrArg Array.toList d1
 subst this
 exact r.inj r'
theorem Inv.tuple_inj(I:Inv X pins σ H s)(h:ao X.K H a xs)(h':ao X.K H a ys):xs=ys:=by
 obtain⟨its,r,⟨o,e,_,n,d⟩,_⟩:=I.tuple h
 obtain⟨its',r',⟨o',e',_,n',d'⟩,_⟩:=I.tuple h'
 rw[e]at e';cases e'
 rw[d]at d'
 injection d' with d1 _
 have:its=its':=by simpa using congrArg Array.toList d1
 subst this
 exact r.inj r'
end
abbrev Cx.wish(X:Cx)(E:Value->Shared->Prop):Cx:={ X with xe:=E }
abbrev Cx.nox(X:Cx):Cx:=X.wish fun _ _=>False
theorem Cx.Ok.wish{X:Cx}(ok:X.Ok)(E:Value->Shared->Prop):(X.wish E).Ok:=
 ⟨ok.mod,ok.kind,ok.glob,ok.blt,ok.above,ok.inj,ok.has,ok.cab,ok.hd,ok.frames,ok.stk,ok.exf,ok.bs,ok.bsz,ok.noex,ok.exfs,ok.funs,ok.frf⟩
theorem Cx.Ok.unwish{X:Cx}{E:Value->Shared->Prop}(ok:(X.wish E).Ok):X.Ok:=
 ⟨ok.mod,ok.kind,ok.glob,ok.blt,ok.above,ok.inj,ok.has,ok.cab,ok.hd,ok.frames,ok.stk,ok.exf,ok.bs,ok.bsz,ok.noex,ok.exfs,ok.funs,ok.frf⟩
section
variable {X:Cx} {pins:List (Addr×Obj)} {σ:St} {H:Hp} {s:Shared} {E:Value->Shared->Prop}
theorem Inv.wish(I:Inv X pins σ H s)(E:Value->Shared->Prop):Inv (X.wish E) pins σ H s:=⟨I.ok.wish E,I.os,I.bare,I.base,I.loc,I.cell,I.free,I.freeC,I.pin,I.hok,I.len⟩
theorem Inv.unwish(I:Inv (X.wish E) pins σ H s):Inv X pins σ H s:=⟨I.ok.unwish,I.os,I.bare,I.base,I.loc,I.cell,I.free,I.freeC,I.pin,I.hok,I.len⟩
theorem SP.unwish{D:Ends}{f:Flow}{s':Shared}(h:SP (X.wish E) pins D f s'):SP X pins D f s':=by
 cases f with
 | next=>obtain⟨σ',H',I,q⟩:=h;exact⟨σ',H',I.unwish,q⟩
 | brk=>obtain⟨σ',H',I,q⟩:=h;exact⟨σ',H',I.unwish,q⟩
 | cont=>obtain⟨σ',H',I,q⟩:=h;exact⟨σ',H',I.unwish,q⟩
 | ret u=>obtain⟨v,σ',H',I,r,q⟩:=h;exact⟨v,σ',H',I.unwish,r,q⟩
theorem bU.nox{st:List Stmt}{t:TS}(h:bU X.nox st t):bU X st t:=fun pins s σ H D I hw=>
 wpAny_mono (h pins s σ H D (I.wish _) hw) (fun _ _ q=>q.unwish) fun _ _ z=>False.elim z
end
section
variable {X:Cx} {st:Stmt} {rest:List Stmt} {t u:TS} {e:Expr} {te:TE} {pos:Pos}
def qQ:TS:=fun D σ H=>D.nx σ H
def oI(t u:TS):TS:=fun D σ H=>t { D with nx:=u D } σ H
theorem bJ:bU X [] qQ:=fun _ _ σ H _ I h=>wpAny_execs_nil ⟨σ,H,I,h⟩
theorem aj(h1:PS X st t)(h2:bU X rest u):bU X (st::rest) (oI t u):=by
 intro pins s σ H D I h
 refine wpAny_execs_cons (ah (h1 pins s σ H { D with nx:=u D } I h) fun f s1 q=>?_)
 cases f with
 | next=>
  obtain⟨σ',H',I',q⟩:=q
  exact h2 pins s1 σ' H' D I' q
 | ret v=>exact q
 | brk=>exact q
 | cont=>exact q
theorem ax(h1:PS X st t):bU X [st] t:=by
 intro pins s σ H D I h
 refine wpAny_execs_cons (ah (h1 pins s σ H D I h) fun f s1 q=>?_)
 cases f with
 | next=>exact wpAny_execs_nil q
 | ret v=>exact q
 | brk=>exact q
 | cont=>exact q
theorem Inv.quiet{pins:List (Addr×Obj)}{σ:St}{H:Hp}{s:Shared}(I:Inv X pins σ H s):interactive X.env=false:=by simp[interactive,I.ok.kind]
def oT(te:TE):TS:=fun D σ H=>te σ H fun _ H1=>D.nx σ H1
theorem bA(he:PE X e te)(hs:swapsWith e none pos.line X.env=pure false:=by rfl):PS X (.Expr e pos) (oT te):=by
 intro pins s σ H D I h
 exact wpAny_Expr_any (ah (he pins s σ H _ I h) fun v s1 ⟨x,H1,I1,r1,q1⟩=>⟨σ,H1,I1,q1⟩) I.quiet hs
def o7(te:TE):TS:=fun D σ H=>te σ H D.rt
theorem aQ(he:PE X e te):PS X (.Return (some e) pos) (o7 te):=by
 intro pins s σ H D I h
 exact wpAny_Return_some (ah (he pins s σ H _ I h) fun v s1 ⟨x,H1,I1,r1,q1⟩=>⟨x,σ,H1,I1,r1,q1⟩)
def uM(c:TT)(t u:TS):TS:=fun D σ H=>c σ H fun b H1=>if b=true then t D σ H1 else u D σ H1
theorem cL{c:Expr}{a b:List Stmt}{tc:TT}(hc:PT X c tc)(ha:bU X a t)(hb:bU X b u):PS X (.If c a b pos) (uM tc t u):=by
 intro pins s σ H D I h
 refine wpAny_If (ah (hc pins s σ H _ I h) fun d s1 ⟨H1,I1,q1⟩=>?_)
 cases d with
 | true=>exact ha pins s1 σ H1 D I1 q1
 | false=>exact hb pins s1 σ H1 D I1 q1
def zF:TS:=fun _ _ _=>False
theorem yG:PS X st zF:=fun _ _ _ _ _ _ h=>h.elim
end
abbrev TG:=V->St->Hp->(St->Hp->Prop)->Prop
abbrev dh:=List V->St->Hp->(St->Hp->Prop)->Prop
def PG(X:Cx)(target:Expr)(t:TG):Prop:=
 ∀(pins:List (Addr×Obj)) (s:Shared) (σ:St) (H:Hp) (v:V) (u:Value) (Q:St->Hp->Prop),Inv X pins σ H s->RelV v u->t v σ H Q →
  wpAny (model X.prog X.w) X.A (assign target X.env u) (fun _ s'=>∃σ' H',Inv X pins σ' H' s'/\Q σ' H') X.xe s
def gh(X:Cx)(ts:List Expr)(t:dh):Prop:=
 ∀(pins:List (Addr×Obj)) (s:Shared) (σ:St) (H:Hp) (vs:List V) (us:List Value) (Q:St->Hp->Prop),Inv X pins σ H s->Vals vs us->t vs σ H Q →
  wpAny (model X.prog X.w) X.A (assignInOrder ((assignEach ts X.env).map (·.2)) us) (fun _ s'=>∃σ' H',Inv X pins σ' H' s'/\Q σ' H') X.xe s
abbrev j8:=V->V->V->Hp->(Hp->Prop)->Prop
def su(X:Cx)(t:j8):Prop:=
 ∀(pins:List (Addr×Obj)) (s:Shared) (σ:St) (H:Hp) (o i v:V) (ov iv u:Value) (Q:Hp->Prop),Inv X pins σ H s->RelV o ov->RelV i iv->RelV v u->t o i v H Q →
  wpAny (model X.prog X.w) X.A (setItem ov iv u) (fun _ s'=>∃H',Inv X pins σ H' s'/\Q H') X.xe s
section
variable {X:Cx} {pos:Pos}
def fU(i:Nat):TG:=fun v σ H Q=>Q (σ.set i (some v)) H
theorem aS{i:Nat}{x:Str}(hN:X.N.Nodup)(hi:X.N[i]?=some x)(hx:Loc X.env.scope x)(hf:X.fn x=true\/X.env.scope.names.lookup x=some .local:=by first | exact .inl rfl | exact .inr rfl | assumption):PG X (.Name x pos) (fU i):=by
 intro pins s σ H v u Q I r h
 exact wpAny_assign_Name (j6 I hN hi hx r (fun s' I'=>⟨_,H,I',h⟩) hf)
def tH:dh:=fun vs σ H Q=>vs=[]/\Q σ H
def tF(t:TG)(u:dh):dh:=fun vs σ H Q=>∃v r,vs=v::r/\t v σ H fun σ' H'=>u r σ' H' Q
theorem qe:gh X [] tH:=by
 intro pins s σ H vs us Q I r h
 obtain⟨e,h⟩:=h
 subst e
 cases r
 exact assignInOrder_nil ⟨σ,H,I,h⟩
theorem gJ{e:Expr}{es:List Expr}{t:TG}{u:dh}(h1:PG X e t)(h2:gh X es u)
  (hs:(assignEach (e::es) X.env).map (·.2)=assign e X.env::(assignEach es X.env).map (·.2):=by rfl):gh X (e::es) (tF t u):=by
 intro pins s σ H vs us Q I r h
 obtain⟨v,vr,e1,h⟩:=h
 subst e1
 cases r with
 | cons r rr=>
  rw[hs]
  refine assignInOrder_cons (ah (h1 pins s σ H _ _ _ I r h) fun _ s1 ⟨σ1,H1,I1,q1⟩=>?_)
  exact h2 pins s1 σ1 H1 _ _ Q I1 rr q1
def oG(K:Be)(n:Nat)(t:dh):TG:=fun v σ H Q=>∃a xs,v=.ref a/\ao K H a xs/\xs.length=n/\t xs σ H Q
theorem yB{es:List Expr}{k:Nat}{t:dh}{n:Nat}(hc:X.calm=true)(h:gh X es t)
  (hn:(assignEach es X.env).length=n:=by rfl) (hst:(assignEach es X.env).findIdx? (·.1)=none:=by rfl):PG X (.Tuple es k pos) (oG X.K n t):=by
 intro pins s σ H v u Q I r hw
 obtain⟨a,xs,e1,hq,hl,hw⟩:=hw
 subst e1
 cases r
 obtain⟨its,rv,ht,hz⟩:=I.tuple hq
 refine assign_Tuple_tuple (I.ok.hd hc) ht (by simp[hn,←hl,rv.length]) hst fun h' hx=>?_
 have I1:Inv X pins σ H { s with heap:=h' }:=I.kept (t':=s.toks) fun b o e=>hx b o (BA (Bh e)) e
 exact h pins _ σ H xs _ Q I1 (by simpa using rv) hw
def pW(to ti:TE)(t:j8):TG:=fun v σ H Q=>to σ H fun o H1=>ti σ H1 fun i H2=>t o i v H2 fun H3=>Q σ H3
theorem kH{o i:Expr}{to ti:TE}{t:j8}(ho:PE X o to)(hi:PE X i ti)(hs:su X t)
  (ha:∀v,assign (.Subscript o i pos) X.env v=(do
   let ov ←holding [v] (eval o X.env)
   let iv ←holding [v,ov] (eval i X.env)
   standAt pos
   holding [v,ov,iv] (setItem ov iv v)
   release [v,ov,iv] []):=by intro _;rfl):PG X (.Subscript o i pos) (pW to ti t):=by
 intro pins s σ H v u Q I r h
 rw[ha]
 refine Bc (wpAny_holding (ah (ho pins s σ H _ I h) fun ov s1 ⟨x,H1,I1,r1,q1⟩=>?_))
 refine Bc (wpAny_holding (ah (hi pins s1 σ H1 _ I1 q1) fun iv s2 ⟨y,H2,I2,r2,q2⟩=>?_))
 refine Bc (wpAny_standAt (Bc (wpAny_holding (ah (hs pins s2 σ H2 x y v ov iv u _ I2 r1 r2 r q2) fun _ s3 ⟨H3,I3,q3⟩=>?_))))
 exact wpAny_release ⟨σ,H3,I3,q3⟩
def jW(te:TE)(g:TG):TS:=fun D σ H=>te σ H fun x H1=>g x σ H1 D.nx
theorem jk{tg e:Expr}{te:TE}{g:TG}(he:PE X e te)(hg:PG X tg g)(hs:swapsWithSole [tg] e pos.line X.env=pure false:=by rfl)(hw:swappedStores [tg] e X.env=pure none:=by rfl)
  (h1:(assignEach [tg] X.env).map (·.2)=[assign tg X.env]:=by rfl):PS X (.Assign [tg] e pos) (jW te g):=by
 intro pins s σ H D I h
 refine wpAny_Assign_stores (ah (he pins s σ H _ I h) fun v s1 ⟨x,H1,I1,r1,q1⟩=>?_) hs hw
 rw[h1]
 exact ah (hg pins s1 σ H1 x v _ I1 r1 q1) fun _ s2 q=>q
theorem aF{i:Nat}{x:Str}{e:Expr}{te:TE}{pos':Pos}(hN:X.N.Nodup)(hi:X.N[i]?=some x)(hx:Loc X.env.scope x)(he:PE X e te)(hs:swapsWith e (some (.Name x pos')) pos.line X.env=pure false:=by rfl)(hf:X.fn x=true\/X.env.scope.names.lookup x=some .local:=by first | exact .inl rfl | exact .inr rfl | assumption):
  PS X (.Assign [.Name x pos'] e pos) (jW te (fU i)):=by
 intro pins s σ H D I h
 refine wpAny_Assign_Name (ah (he pins s σ H _ I h) fun v s1 ⟨y,H1,I1,r1,q1⟩=>?_) hs
 exact j6 I1 hN hi hx r1 (fun s2 I2=>⟨_,H1,I2,q1⟩) hf
def uI(i j:Nat)(ta:TA):TS:=fun D σ H=>ta σ H fun vs H1=>∃v w,vs=[v,w]/\D.nx ((σ.set i (some v)).set j (some w)) H1
theorem tT{i j:Nat}{x y:Str}{a b:Expr}{ta:TA}{px py pt:Pos}{kt k2 pt2}(hc:X.calm=true)(hN:X.N.Nodup)(hi:X.N[i]?=some x)(hj:X.N[j]?=some y)(hij:i≠j)
  (hx:X.env.scope.names.lookup x=some .local) (hy:X.env.scope.names.lookup y=some .local) (ha:PA X [a,b] ta)
  (hw:swappedStores [.Tuple [.Name x px,.Name y py] kt pt] (.Tuple [a,b] k2 pt2) X.env=pure (some [x,y]))
  (hs:swapsWithSole [.Tuple [.Name x px,.Name y py] kt pt] (.Tuple [a,b] k2 pt2) pos.line X.env=pure false:=by rfl) :
  PS X (.Assign [.Tuple [.Name x px,.Name y py] kt pt] (.Tuple [a,b] k2 pt2) pos) (uI i j ta):=by
 intro pins s σ H D I h
 rw[exec_Assign_arm]
 refine Bc (wpAny_standAt ?_)
 rw[hs]
 refine Bc (Bd ?_)
 rw[if_neg (by decide)]
 refine Bc (Tuple_ (ah (ha _ pins s σ H _ I h) fun us s1 ⟨vs,H1,I1,r1,q1⟩=>?_))
 obtain⟨v,w,e1,q1⟩:=q1
 subst e1
 obtain⟨u1,u2,rfl,rv,rw'⟩:∃u1 u2,us=[u1,u2]/\RelV v u1/\RelV w u2:=by
  cases r1 with
  | cons p q=>
   cases q with
   | cons p' q'=>
    cases q'
    exact⟨_,_,rfl,p,p'⟩
 refine wpAny_newObj_type ?_ (by show 2<=sizeLine;decide)
 have I2:Inv X pins σ H1 { s1 with heap:=s1.heap.push { cls:=.type "tuple",data:=.seq [u1,u2].toArray } }:=I1.kept (t':=s1.toks) fun b o e=>Bf _ e
 rw[hw]
 refine Bc (Bd ?_)
 show wpAny (model X.prog X.w) X.A (do rule "assign.swapped-stores";let items ←unpackItems (.ref s1.heap.objs.size) 2 none;assignInOrder [fun v=>bindName X.env y v,fun v=>bindName X.env x v] items.reverse;pure Flow.next) _ _ _
 refine Bc (wpAny_rule (Bc (unpackItems_tuple (items:=#[u1,u2]) (I.ok.hd hc) (IsTup.new s1.heap _) fun h' hx'=>?_)))
 have I3:=I2.kept (h':=h') (t':=s1.toks) fun b o e=>hx' b o (BA (Bh e)) e
 show wpAny _ _ (assignInOrder [fun v=>bindName X.env y v,fun v=>bindName X.env x v] [u2,u1] >>= fun _=>pure Flow.next) _ _ _
 refine Bc (assignInOrder_cons (wpAny_bindName (j6 I3 hN hj (.inl hy) rw' (fun s2 I4=>?_) (.inr hy))))
 refine assignInOrder_cons (wpAny_bindName (j6 I4 hN hi (.inl hx) rv (fun s3 I5=>assignInOrder_nil (Bd ?_)) (.inr hx)))
 rw[List.set_comm _ _ (Ne.symm hij)]at I5
 exact⟨_,H1,I5,q1⟩
end
section
variable {X:Cx} {pos:Pos}
def zr(c:TT)(tb:TS):TS:=fun D σ H=>∃W:Nat->St->Hp->Prop,(∃m,W m σ H)/\∀m σ H,W m σ H →
 c σ H fun b H1=>if b=true then ∃N:St->Hp->Prop,(∀σ' H',N σ' H'->∃m',m'<m/\W m' σ' H')/\tb { D with nx:=N,ct:=N,bk:=D.nx } σ H1 else D.nx σ H1
theorem wO{c:Expr}{body:List Stmt}{tc:TT}{tb:TS}(hp:PassesOwn (model X.prog X.w) X.A X.env X.xe)(hc:PT X c tc)(hb:bU X body tb):PS X (.While c body [] pos) (zr tc tb):=by
 intro pins s σ H D I h
 obtain⟨W,⟨m0,w0⟩,turn⟩:=h
 refine wpAny_While (codeAny_whileLoop (fun n s'=>∃σ' H',Inv X pins σ' H' s'/\W n σ' H') ?_ m0 ⟨σ,H,I,w0⟩)
 rintro n s1 ⟨σ1,H1,I1,w1⟩
 refine wpAny_passesOwn hp (ah (hc pins s1 σ1 H1 _ I1 (turn n σ1 H1 w1)) fun b s2 ⟨H2,I2,q2⟩=>?_)
 cases b with
 | true=>
  obtain⟨N,hN,q2⟩:=q2
  rw[if_pos rfl]
  refine wpAny_passesOwn hp (ah (hb pins s2 σ1 H2 _ I2 q2) fun f s3 q3=>?_)
  cases f with
  | next=>
   obtain⟨σ3,H3,I3,n3⟩:=q3
   obtain⟨m',hm,w3⟩:=hN σ3 H3 n3
   exact⟨m',hm,σ3,H3,I3,w3⟩
  | cont=>
   obtain⟨σ3,H3,I3,n3⟩:=q3
   obtain⟨m',hm,w3⟩:=hN σ3 H3 n3
   exact⟨m',hm,σ3,H3,I3,w3⟩
  | brk=>exact q3
  | ret v=>exact q3
 | false=>
  rw[if_neg Bx]
  exact wpAny_execs_nil ⟨σ1,H2,I2,q2⟩
end
structure It where
 go:Nat->Hp->Prop
 yld:Nat->Hp->V->Hp->Prop
 stop:Nat->Hp->Prop
def bL(X:Cx)(pins:List (Addr×Obj))(H:Hp)(b:Addr):Prop:=
 H b=none/\b≠X.env.locals/\b∉X.fs/\(b∈X.ex\/X.s₀.heap.objs.size<=b)/\(∀x c,X.env.cells.lookup x=some c->c≠b)/\∀p∈X.pn++pins,p.1≠b
theorem Inv.fpOk{X:Cx}{pins:List (Addr×Obj)}{σ:St}{H H':Hp}{s:Shared}{b:Addr}(I:Inv X pins σ H s)(hb:s.heap.objs.size<=b)(hn:H' b=none):bL X pins H' b:=by
 refine⟨hn,Nat.ne_of_gt (BK I.lt hb),I.nofs hb,.inr (BL I.sz hb),fun x c e z=>?_,fun p hp z=>?_⟩
 ·obtain⟨v,q⟩:=I.cell x c e
  exact absurd (BK q.lt (by rw[z];exact hb)) (Nat.lt_irrefl _)
 ·exact absurd (BK (Bh (I.pin p hp).1) (by rw[z];exact hb)) (Nat.lt_irrefl _)
structure Turn(P:Program)(w:World)(K:Be)(tg:Expr)(J:It)(fp:List Addr)(it:Addr)(tn:Nat->Heap->Prop):Prop where
 mem:it∈fp
 obj:∀i h,tn i h->∀b∈fp,∃o,h.get? b=some o/\∀v,o.data≠.cell v
 keep:∀i h h',tn i h->(∀b∈fp,∀o,h.get? b=some o->h'.get? b=some o)->tn i h'
 item:∀(X:Cx),X.prog=P->X.w=w->X.K=K->X.calm=true->∀(i:Nat) (pins:List (Addr×Obj)) (s:Shared) (σ:St) (H:Hp) (E:Value->Shared->Prop),Inv X pins σ H s->(∀b∈fp,bL X pins H b)->tn i s.heap->J.go i H →
  wpAny (model P w) X.A (pyNext (.ref it)) (fun r s1=>∃u,r=some u ∧
   wpAny (model P w) X.A (letOwnedTupleGo tg (.ref it) u) (fun _ s2=>∃x H',Inv X pins σ H' s2/\RelV x u/\J.yld i H x H'/\tn (i+1) s2.heap/\∀b∈fp,H' b=none) E s1) E s
 done:∀(X:Cx),X.prog=P->X.w=w->X.K=K->X.calm=true->∀(i:Nat) (pins:List (Addr×Obj)) (s:Shared) (σ:St) (H:Hp) (E:Value->Shared->Prop),Inv X pins σ H s->(∀b∈fp,bL X pins H b)->tn i s.heap->J.stop i H →
  wpAny (model P w) X.A (pyNext (.ref it)) (fun r s1=>r=none/\Inv X pins σ H s1) E s
 self:∀(A:Around) (i:Nat) (s:Shared) (Q:Value->Shared->Prop) (E:Value->Shared->Prop),tn i s.heap->Q (.ref it) s->wpAny (model P w) A (pyIter (.ref it)) Q E s
abbrev TI:=St->Hp->(It->Hp->Prop)->Prop
def lK(X:Cx)(pins:List (Addr×Obj))(σ:St)(tg:Expr)(R:It->Hp->Prop)(itv:Value)(s2:Shared):Prop:=
 ∃(it:Addr) (fp:List Addr) (tn:Nat->Heap->Prop) (J:It) (H':Hp),itv=.ref it/\Inv X pins σ H' s2/\Turn X.prog X.w X.K tg J fp it tn/\tn 0 s2.heap/\(∀b∈fp,bL X pins H' b)/\R J H'
def PI(X:Cx)(tg iter:Expr)(wi:TI):Prop:=
 ∀(pins:List (Addr×Obj)) (s:Shared) (σ:St) (H:Hp) (R:It->Hp->Prop),Inv X pins σ H s->wi σ H R →
  wpAny (model X.prog X.w) X.A (eval iter X.env) (fun v s1=>wpAny (model X.prog X.w) X.A (pyIter v) (lK X pins σ tg R) X.xe s1) X.xe s
theorem nH {M : Model} {A : Around} {E : Value → Shared → Prop} {s : Shared} {tg : Expr} {it : Addr} {u : Value} {o : Obj} {n : String} {vs : Array Value} {Q : Unit → Shared → Prop} (ho : s.heap.get? it = some o) (hc : o.cls = .type n) (hd : o.data = .fields vs)
    (hn : ["enumerate", "zip", "dict_itemiterator", "dict_reverseitemiterator", "odict_iterator", "itertools.zip_longest", "itertools.pairwise"].contains n = false) (hQ : Q () s) : wpAny M A (letOwnedTupleGo tg (.ref it) u) Q E s := by
  unfold letOwnedTupleGo
  cases tg <;> first
    | exact Bd hQ
    | (cases u <;> first
        | exact Bd hQ
        | (refine Bc (wpAny_load ho ?_)
           rw [hc, hd]
           show wpAny M A (if (["enumerate", "zip", "dict_itemiterator", "dict_reverseitemiterator", "odict_iterator", "itertools.zip_longest", "itertools.pairwise"].contains n && vs[0]? == some (rawInt _)) = true then _ else _) Q E s
           rw [if_neg (by intro h; rw [hn, Bool.false_and] at h; cases h)]
           exact Bd hQ))
def bZ(K:Be)(a:Addr):It:=
 ⟨fun i H=>∃xs x,ag K H a xs/\xs[i]?=some x,fun i H x H'=>H'=H/\∀xs,ag K H a xs->xs[i]?=some x,fun i H=>∃xs,ag K H a xs/\xs.length<=i⟩
def dj(K:Be)(a:Addr):It:=
 ⟨fun i H=>∃xs x,ao K H a xs/\xs[i]?=some x,fun i H x H'=>H'=H/\∀xs,ao K H a xs->xs[i]?=some x,fun i H=>∃xs,ao K H a xs/\xs.length<=i⟩
def dW(lo:Int)(n:Nat):It:=⟨fun i _=>i<n,fun i H x H'=>H'=H/\x=.int (lo+i),fun i _=>n<=i⟩
theorem wB{P:Program}{w:World}{K:Be}{tg:Expr}(a it:Addr):Turn P w K tg (bZ K a) [it] it (fun i h=>h.IsListIter it a i) where
 mem:=by simp
 obj:=fun i h st b hb=>by
  have e:b=it:=by simpa using hb
  subst e
  obtain⟨o,e,c,d⟩:=st
  exact⟨o,e,fun v z=>by rw[d]at z;cases z⟩
 keep:=fun i h h' st k=>st.at fun o e=>k it (by simp) o e
 item:=by
  intro X hP hw hK hc i pins s σ H E I hf st hg
  subst hP hw hK
  obtain⟨xs,x,hq,hx⟩:=hg
  obtain⟨its,rv,p,hz⟩:=I.list hq
  obtain⟨u,hu,ru⟩:=rv.get hx
  obtain⟨f0,f1,f2,f3,f4,f5⟩:=hf it (by simp)
  refine wpAny_pyNext_list_item st p.isList (x:=u) (by simpa using hu) fun h' st' sb=>?_
  have I1:Inv X pins σ H { s with heap:=h' }:=I.turned (t':=s.toks) (fun b o hb e=>(sb.2 b hb).trans e) f0 f1 f3 f4 f5
  obtain⟨o,e,c,d⟩:=id st'
  exact⟨u,rfl,nH (s:={ s with heap:=h' }) e c d (by decide) ⟨x,H,I1,ru,⟨rfl,fun ys hy=>by rw[I.list_inj hy hq];exact hx⟩,st',fun b hb=>(hf b hb).1⟩⟩
 done:=by
  intro X hP hw hK hc i pins s σ H E I hf st hg
  subst hP hw hK
  obtain⟨xs,hq,hx⟩:=hg
  obtain⟨its,rv,p,hz⟩:=I.list hq
  obtain⟨f0,f1,f2,f3,f4,f5⟩:=hf it (by simp)
  have hl:=rv.length
  exact wpAny_pyNext_list_end (I.ok.hd hc) st p.isList (by simp;omega) fun h' eb=>⟨rfl,I.turned (t':=s.toks) (fun b o hb e=>eb b o hb e) f0 f1 f3 f4 f5⟩
 self:=fun _ _ _ _ _ st h=>wpAny_pyIter_listiter st h
theorem AZ{P:Program}{w:World}{K:Be}{tg:Expr}(a it:Addr):Turn P w K tg (dj K a) [it] it (fun i h=>h.IsTupleIter it a i) where
 mem:=by simp
 obj:=fun i h st b hb=>by
  have e:b=it:=by simpa using hb
  subst e
  obtain⟨o,e,c,d⟩:=st
  exact⟨o,e,fun v z=>by rw[d]at z;cases z⟩
 keep:=fun i h h' st k=>st.at fun o e=>k it (by simp) o e
 item:=by
  intro X hP hw hK hc i pins s σ H E I hf st hg
  subst hP hw hK
  obtain⟨xs,x,hq,hx⟩:=hg
  obtain⟨its,rv,p,hz⟩:=I.tuple hq
  obtain⟨u,hu,ru⟩:=rv.get hx
  obtain⟨f0,f1,f2,f3,f4,f5⟩:=hf it (by simp)
  refine wpAny_pyNext_tuple_item st (show s.heap.IsTuple a its.toArray from p) (x:=u) (by simpa using hu) fun h' st' sb=>?_
  have I1:Inv X pins σ H { s with heap:=h' }:=I.turned (t':=s.toks) (fun b o hb e=>(sb.2 b hb).trans e) f0 f1 f3 f4 f5
  obtain⟨o,e,c,d⟩:=id st'
  exact⟨u,rfl,nH (s:={ s with heap:=h' }) e c d (by decide) ⟨x,H,I1,ru,⟨rfl,fun ys hy=>by rw[I.tuple_inj hy hq];exact hx⟩,st',fun b hb=>(hf b hb).1⟩⟩
 done:=by
  intro X hP hw hK hc i pins s σ H E I hf st hg
  subst hP hw hK
  obtain⟨xs,hq,hx⟩:=hg
  obtain⟨its,rv,p,hz⟩:=I.tuple hq
  obtain⟨f0,f1,f2,f3,f4,f5⟩:=hf it (by simp)
  have hl:=rv.length
  exact wpAny_pyNext_tuple_end (I.ok.hd hc) st (show s.heap.IsTuple a its.toArray from p) (by simp;omega) fun h' eb=>⟨rfl,I.turned (t':=s.toks) (fun b o hb e=>eb b o hb e) f0 f1 f3 f4 f5⟩
 self:=fun _ _ _ _ _ st h=>wpAny_pyIter_tupleiter st h
theorem xy{P:Program}{w:World}{K:Be}{tg:Expr}(it:Addr)(lo:Int)(n:Nat):Turn P w K tg (dW lo n) [it] it (fun i h=>IsRangeIter h it (lo+(i:Nat)*1) ((n:Int)-(i:Nat)) 1) where
 mem:=by simp
 obj:=fun i h st b hb=>by
  have e:b=it:=by simpa using hb
  subst e
  exact⟨_,st,fun v z=>by
   have z':Data.fields _=Data.cell v:=z
   cases z'⟩
 keep:=fun i h h' st k=>k it (by simp) _ st
 item:=by
  intro X hP hw hK hc i pins s σ H E I hf st hg
  subst hP hw hK
  obtain⟨f0,f1,f2,f3,f4,f5⟩:=hf it (by simp)
  have W:=Walks.range (prog:=X.prog) (w:=X.w) (I.ok.hd hc) it lo 1 n
  refine W.item i s _ _ hg st fun v h' tk hv st' kk=>?_
  obtain⟨t,rfl⟩:=hv
  have I1:Inv X pins σ H { s with heap:=h',toks:=tk }:=I.turned (fun b o hb e=>kk b o (by simpa using hb) e) f0 f1 f3 f4 f5
  refine⟨_,rfl,nH (s:={ s with heap:=h',toks:=tk }) (n:="range_iterator") st' rfl rfl (by decide) ⟨.int (lo+i),H,I1,⟨t,?_⟩,⟨rfl,rfl⟩,st',fun b hb=>(hf b hb).1⟩⟩
  rw[Int.mul_one]
 done:=by
  intro X hP hw hK hc i pins s σ H E I hf st hg
  subst hP hw hK
  obtain⟨f0,f1,f2,f3,f4,f5⟩:=hf it (by simp)
  exact wpAny_pyNext_range_end (I.ok.hd hc) st (by have:n<=i:=hg;omega) fun h' eb=>⟨rfl,I.turned (t':=s.toks) (fun b o hb e=>eb b o hb e) f0 f1 f3 f4 f5⟩
 self:=fun _ _ _ _ _ st h=>wpAny_pyIter_rangeiter st h
end L2
namespace L2
open PySem PySem.Spec PyProof.Rows
section
variable {X:Cx} {tg:Expr}
def lM(K:Be)(tl:TE):TI:=fun σ H R=>tl σ H fun x H1=>∃a,x=.ref a/\(∃xs,ag K H1 a xs)/\R (bZ K a) H1
def kA(K:Be)(tl:TE):TI:=fun σ H R=>tl σ H fun x H1=>∃a,x=.ref a/\(∃xs,ao K H1 a xs)/\R (dj K a) H1
theorem xg{l:Expr}{tl:TE}(hl:PE X l tl):PI X tg l (lM X.K tl):=by
 intro pins s σ H R I h
 refine ah (hl pins s σ H _ I h) fun v s1 ⟨x,H1,I1,r1,q1⟩=>?_
 obtain⟨a,e,⟨xs,hq⟩,q⟩:=q1
 subst e
 cases r1
 obtain⟨its,rv,p,hz⟩:=I1.list hq
 refine wpAny_pyIter_list p.isList ?_
 refine⟨s1.heap.objs.size,[s1.heap.objs.size],_,_,H1,rfl,I1.kept (t':=s1.toks) fun b o e=>Bf _ e,wB a _,⟨_,Bg _ rfl,rfl,rfl⟩,fun b hb=>?_,q⟩
 have e:b=s1.heap.objs.size:=by simpa using hb
 subst e
 exact I1.fpOk (BB _) (I1.hok.fresh (BB _))
theorem vn{l:Expr}{tl:TE}(hl:PE X l tl):PI X tg l (kA X.K tl):=by
 intro pins s σ H R I h
 refine ah (hl pins s σ H _ I h) fun v s1 ⟨x,H1,I1,r1,q1⟩=>?_
 obtain⟨a,e,⟨xs,hq⟩,q⟩:=q1
 subst e
 cases r1
 obtain⟨its,rv,p,hz⟩:=I1.tuple hq
 refine wpAny_pyIter_tuple (show s1.heap.IsTuple a its.toArray from p) ?_
 refine⟨s1.heap.objs.size,[s1.heap.objs.size],_,_,H1,rfl,I1.kept (t':=s1.toks) fun b o e=>Bf _ e,AZ a _,⟨_,Bg _ rfl,rfl,rfl⟩,fun b hb=>?_,q⟩
 have e:b=s1.heap.objs.size:=by simpa using hb
 subst e
 exact I1.fpOk (BB _) (I1.hok.fresh (BB _))
theorem xZ{pins:List (Addr×Obj)}{σ:St}{H:Hp}{s:Shared}{R:It->Hp->Prop}{E:Value->Shared->Prop}{lo hi:Int}{t u v:Tok}{tk:Nat}(I:Inv X pins σ H s)(h1:-(2 ^ 62)<=lo)(h2:lo<2 ^ 62)(h3:-(2 ^ 62)<=hi)(h4:hi<2 ^ 62)
  (q:R (dW lo (hi-lo).toNat) H):wpAny (model X.prog X.w) X.A (pyIter (.ref s.heap.objs.size)) (lK X pins σ tg R) E { s with heap:=s.heap.push { cls:=.type "range",data:=.fields #[.int lo t,.int hi u,.int 1 v] },toks:=tk }:=by
 refine wpAny_pyIter_range (IsRange.new ..) (small_one h1 h2 h3 h4) ?_
 have I1:Inv X pins σ H { s with heap:=s.heap.push { cls:=.type "range",data:=.fields #[.int lo t,.int hi u,.int 1 v] },toks:=tk }:=I.kept fun b o e=>Bf _ e
 refine⟨(s.heap.push { cls:=.type "range",data:=.fields #[.int lo t,.int hi u,.int 1 v] }).objs.size,[(s.heap.push { cls:=.type "range",data:=.fields #[.int lo t,.int hi u,.int 1 v] }).objs.size],_,_,H,rfl,
  I1.kept (t':=tk) fun b o e=>Bf _ e,xy _ lo (hi-lo).toNat,?_,fun b hb=>?_,q⟩
 ·have e1:lo+((0:Nat):Int)*1=lo:=by simp
  have e2:(((hi-lo).toNat:Nat):Int)-((0:Nat):Int)=Builtin.Range.rangeSize lo hi 1:=by rw[rangeSize_one];split<;>omega
  show IsRangeIter _ _ (lo+((0:Nat):Int)*1) ((((hi-lo).toNat:Nat):Int)-((0:Nat):Int)) 1
  rw[e1,e2]
  exact Bg _ rfl
 ·have e:b=(s.heap.push { cls:=.type "range",data:=.fields #[.int lo t,.int hi u,.int 1 v] }).objs.size:=by simpa using hb
  subst e
  exact I1.fpOk (BB _) (I1.hok.fresh (BB _))
def tL(ta:TA):TI:=fun σ H R=>ta σ H fun vs H1=>∃j:Int,vs=[.int j]/\-(2 ^ 62)<=j/\j<2 ^ 62/\R (dW 0 j.toNat) H1
theorem cb{a:Expr}{ta:TA}{p pos:Pos}(hg:Gl X "range")(hm:X.mg "range" = none)(ha:PA X [a] ta)(hs:starEach [a] X.env=[(false,eval a X.env)]:=by rfl):PI X tg (.Call (.Name "range" p) [a] [] pos) (tL ta):=by
 intro pins s σ H R I h
 refine Call_ (iT I hg hm boot_range (PyProof.Rows.callWith_type1 (ah (ha pos pins s σ H _ I h) fun us s1 ⟨vs,H1,I1,r1,q1⟩=>?_) hs rfl))
 obtain⟨j,e,q1,q2,q⟩:=q1
 subst e
 cases r1 with
 | cons r rr=>
  cases rr
  obtain⟨t,rfl⟩:=r
  exact call_range_1 (xZ I1 (by omega) (by omega) q1 q2 (by simpa using q))
def sS(wi:TI)(g:TG)(tb:TS):TS:=fun D σ H=>wi σ H fun J H1=>∃W:Nat->Nat->St->Hp->Prop,(∃m,W 0 m σ H1)/\∀i m σ H,W i m σ H →
 (J.stop i H/\D.nx σ H)\/(J.go i H/\∃N:St->Hp->Prop,(∀σ' H',N σ' H'->∃m',m'<m/\W (i+1) m' σ' H')/\∀x H',J.yld i H x H'->g x σ H' fun σ2 H2=>tb { D with nx:=N,ct:=N,bk:=D.nx } σ2 H2)
def fb(fp:List Addr)(h:Heap):List (Addr×Obj):=fp.filterMap fun b=>(h.get? b).map fun o=>(b,o)
theorem ma{fp:List Addr}{h:Heap}{b:Addr}{o:Obj}(hb:b∈fp)(e:h.get? b=some o):(b,o)∈fb fp h:=List.mem_filterMap.mpr ⟨b,hb,by rw[e];rfl⟩
theorem pb{fp:List Addr}{h:Heap}{p:Addr×Obj}(hp:p∈fb fp h):p.1∈fp/\h.get? p.1=some p.2:=by
 obtain⟨b,hb,e⟩:=List.mem_filterMap.mp hp
 cases q:h.get? b with
 | none=>rw[q]at e;cases e
 | some o=>
  rw[q]at e
  have e':(b,o)=p:=Option.some.inj e
  subst e'
  exact⟨hb,q⟩
theorem Inv.pinned{pins:List (Addr×Obj)}{σ:St}{H:Hp}{s:Shared}{fp:List Addr}(I:Inv X pins σ H s)(hf:∀b∈fp,bL X pins H b)(ho:∀b∈fp,∃o,s.heap.get? b=some o/\∀v,o.data≠.cell v):Inv X (pins++fb fp s.heap) σ H s:=
 I.pins_of fun p hp=>(BE.mp hp).elim (fun z=>I.pin p (List.mem_append_right _ z)) fun z=>by
  obtain⟨hb,e⟩:=pb z
  obtain⟨f0,f1,f2,_⟩:=hf p.1 hb
  obtain⟨o,e',d⟩:=ho p.1 hb
  rw[e]at e';cases e'
  exact⟨e,f0,f1,f2,d⟩
theorem Inv.unpinned{pins pl:List (Addr×Obj)}{σ:St}{H:Hp}{s:Shared}(I:Inv X (pins++pl) σ H s):Inv X pins σ H s:=I.pins_of fun p hp=>I.pin p (List.mem_append_right _ (List.mem_append_left _ hp))
theorem bP{iter:Expr}{body:List Stmt}{wi:TI}{g:TG}{tb:TS}{pos:Pos}(hp:PassesOwn (model X.prog X.w) X.A X.env X.xe)(hc:X.calm=true)(hi:PI X tg iter wi)(hg:PG X tg g)(hb:bU X body tb)
  (hs:∀x,foldedSetIterable iter X.env x=pure x:=by intro _;rfl):PS X (.For tg iter body [] pos) (sS wi g tb):=by
 intro pins s σ H D I h
 refine wpAny_For (ah (hi pins s σ H _ I h) fun v s1 h1=>ah h1 fun itv s2 h2=>?_) hs
 obtain⟨it,fp,tn,J,H2,e,I2,T,st2,f2,W,⟨m0,w0⟩,turn⟩:=h2
 subst e
 -- what stays true of the iterator's objects through the loop
 have stat:∀{H':Hp},(∀b∈fp,H' b=none)->∀b∈fp,bL X pins H' b:=fun hn b hb=>⟨hn b hb,(f2 b hb).2⟩
 refine codeAny_forLoop_any (fun n s'=>∃i σ' H',Inv X pins σ' H' s'/\tn i s'.heap/\(∀b∈fp,H' b=none)/\W i n σ' H') ?_ m0 ⟨0,σ,H2,I2,st2,fun b hb=>(f2 b hb).1,w0⟩
 rintro n s3 ⟨i,σ3,H3,I3,st3,fr3,w3⟩
 rcases turn i n σ3 H3 w3 with⟨stop,qn⟩ | ⟨go,N,hN,step⟩
 ·refine wpAny_passesOwn hp (ah (T.done X rfl rfl rfl hc i pins s3 σ3 H3 X.xe I3 (stat fr3) st3 stop) fun r s4 ⟨hr,I4⟩=>?_)
  subst hr
  exact wpAny_execs_nil ⟨σ3,H3,I4,qn⟩
 ·refine wpAny_passesOwn hp (ah (T.item X rfl rfl rfl hc i pins s3 σ3 H3 X.xe I3 (stat fr3) st3 go) fun r s4 ⟨u,hr,h4⟩=>?_)
  subst hr
  refine wpAny_passesOwn hp (ah h4 fun _ s5 ⟨x,H5,I5,r5,y5,st5,fr5⟩=>?_)
  have I5':=I5.pinned (stat fr5) (T.obj _ _ st5)
  refine wpAny_passesOwn hp (ah (hg _ s5 σ3 H5 x u _ I5' r5 (step x H5 y5)) fun _ s6 ⟨σ6,H6,I6,q6⟩=>?_)
  refine wpAny_passesOwn hp (ah (hb _ s6 σ6 H6 _ I6 q6) fun f s7 q7=>?_)
  have again:∀{σ7:St} {H7:Hp},Inv X (pins++fb fp s5.heap) σ7 H7 s7->N σ7 H7->∃m,m<n/\∃i σ' H',Inv X pins σ' H' s7/\tn i s7.heap/\(∀b∈fp,H' b=none)/\W i m σ' H':=fun{σ7 H7} I7 n7=>by
   obtain⟨m',hm,w7⟩:=hN σ7 H7 n7
   refine⟨m',hm,i+1,σ7,H7,I7.unpinned,T.keep _ _ _ st5 fun b hb o e=>(I7.pin (b,o) (List.mem_append_right _ (List.mem_append_right _ (ma hb e)))).1,fun b hb=>?_,w7⟩
   obtain⟨o,e,d⟩:=T.obj _ _ st5 b hb
   exact(I7.pin (b,o) (List.mem_append_right _ (List.mem_append_right _ (ma hb e)))).2.1
  cases f with
  | next=>obtain⟨σ7,H7,I7,n7⟩:=q7;exact again I7 n7
  | cont=>obtain⟨σ7,H7,I7,n7⟩:=q7;exact again I7 n7
  | brk=>obtain⟨σ7,H7,I7,q7⟩:=q7;exact⟨σ7,H7,I7.unpinned,q7⟩
  | ret v=>obtain⟨x7,σ7,H7,I7,r7,q7⟩:=q7;exact⟨x7,σ7,H7,I7.unpinned,r7,q7⟩
end
theorem xn{K:Be}{a:Addr}{xs:List V}{g:TG}{tb:TS}{D:Ends}{σ:St}{H:Hp}(Pv:Nat->St->Hp->Prop)(h0:Pv 0 σ H)(hl:∀i σ H,i<=xs.length->Pv i σ H->ag K H a xs)
  (hs:∀i x σ H,xs[i]?=some x->Pv i σ H->g x σ H fun σ2 H2=>tb { D with nx:=Pv (i+1),ct:=Pv (i+1),bk:=D.nx } σ2 H2) (hd:∀σ H,Pv xs.length σ H->D.nx σ H) :
  ∃W:Nat->Nat->St->Hp->Prop,(∃m,W 0 m σ H)/\∀i m σ H,W i m σ H →
   ((bZ K a).stop i H/\D.nx σ H)\/((bZ K a).go i H/\∃N:St->Hp->Prop,(∀σ' H',N σ' H'->∃m',m'<m/\W (i+1) m' σ' H')/\∀x H',(bZ K a).yld i H x H'->g x σ H' fun σ2 H2=>tb { D with nx:=N,ct:=N,bk:=D.nx } σ2 H2):=by
 refine⟨fun i m σ H=>m=xs.length-i/\i<=xs.length/\Pv i σ H,⟨xs.length,by simp,Nat.zero_le _,h0⟩,?_⟩
 rintro i m σ H ⟨rfl,hi,p⟩
 have q:=hl i σ H hi p
 by_cases hlt:i<xs.length
 ·refine .inr ⟨⟨xs,xs[i],q,by simp[hlt]⟩,Pv (i+1),fun σ' H' p'=>⟨xs.length-(i+1),by omega,rfl,hlt,p'⟩,fun x H' y=>?_⟩
  obtain⟨e,y⟩:=y
  subst e
  exact hs i x σ _ (y xs q) p
 ·have e:i=xs.length:=by omega
  subst e
  exact .inl ⟨⟨xs,q,BB _⟩,hd σ H p⟩
theorem wR{K:Be}{a:Addr}{xs:List V}{g:TG}{tb:TS}{D:Ends}{σ:St}{H:Hp}(Pv:Nat->St->Hp->Prop)(h0:Pv 0 σ H)(hl:∀i σ H,i<=xs.length->Pv i σ H->ao K H a xs)
  (hs:∀i x σ H,xs[i]?=some x->Pv i σ H->g x σ H fun σ2 H2=>tb { D with nx:=Pv (i+1),ct:=Pv (i+1),bk:=D.nx } σ2 H2) (hd:∀σ H,Pv xs.length σ H->D.nx σ H) :
  ∃W:Nat->Nat->St->Hp->Prop,(∃m,W 0 m σ H)/\∀i m σ H,W i m σ H →
   ((dj K a).stop i H/\D.nx σ H)\/((dj K a).go i H/\∃N:St->Hp->Prop,(∀σ' H',N σ' H'->∃m',m'<m/\W (i+1) m' σ' H')/\∀x H',(dj K a).yld i H x H'->g x σ H' fun σ2 H2=>tb { D with nx:=N,ct:=N,bk:=D.nx } σ2 H2):=by
 refine⟨fun i m σ H=>m=xs.length-i/\i<=xs.length/\Pv i σ H,⟨xs.length,by simp,Nat.zero_le _,h0⟩,?_⟩
 rintro i m σ H ⟨rfl,hi,p⟩
 have q:=hl i σ H hi p
 by_cases hlt:i<xs.length
 ·refine .inr ⟨⟨xs,xs[i],q,by simp[hlt]⟩,Pv (i+1),fun σ' H' p'=>⟨xs.length-(i+1),by omega,rfl,hlt,p'⟩,fun x H' y=>?_⟩
  obtain⟨e,y⟩:=y
  subst e
  exact hs i x σ _ (y xs q) p
 ·have e:i=xs.length:=by omega
  subst e
  exact .inl ⟨⟨xs,q,BB _⟩,hd σ H p⟩
theorem yK{lo:Int}{n:Nat}{g:TG}{tb:TS}{D:Ends}{σ:St}{H:Hp}(Pv:Nat->St->Hp->Prop)(h0:Pv 0 σ H)
  (hs:∀i σ H,i<n->Pv i σ H->g (.int (lo+i)) σ H fun σ2 H2=>tb { D with nx:=Pv (i+1),ct:=Pv (i+1),bk:=D.nx } σ2 H2) (hd:∀σ H,Pv n σ H->D.nx σ H) :
  ∃W:Nat->Nat->St->Hp->Prop,(∃m,W 0 m σ H)/\∀i m σ H,W i m σ H →
   ((dW lo n).stop i H/\D.nx σ H)\/((dW lo n).go i H/\∃N:St->Hp->Prop,(∀σ' H',N σ' H'->∃m',m'<m/\W (i+1) m' σ' H')/\∀x H',(dW lo n).yld i H x H'->g x σ H' fun σ2 H2=>tb { D with nx:=N,ct:=N,bk:=D.nx } σ2 H2):=by
 refine⟨fun i m σ H=>m=n-i/\i<=n/\Pv i σ H,⟨n,by simp,Nat.zero_le _,h0⟩,?_⟩
 rintro i m σ H ⟨rfl,hi,p⟩
 by_cases hlt:i<n
 ·refine .inr ⟨hlt,Pv (i+1),fun σ' H' p'=>⟨n-(i+1),by omega,rfl,hlt,p'⟩,fun x H' y=>?_⟩
  obtain⟨e,y⟩:=y
  subst e y
  exact hs i σ _ hlt p
 ·have e:i=n:=by omega
  subst e
  exact .inl ⟨BB _,hd σ H p⟩
end L2
namespace L2
open PySem PySem.Spec PyProof.Rows
abbrev R2:=V->V->Hp->VK->Prop
def bp(X:Cx)(f:Value->Value->Sem Value)(r:R2):Prop:=
 ∀(pins:List (Addr×Obj)) (s:Shared) (σ:St) (H:Hp) (x y:V) (v u:Value) (Q:VK),Inv X pins σ H s->RelV x v->RelV y u->r x y H Q →
  wpAny (model X.prog X.w) X.A (f v u) (EP X pins σ Q) X.xe s
def ll(X:Cx)(f:Value->Sem Value)(r:V->Hp->VK->Prop):Prop:=
 ∀(pins:List (Addr×Obj)) (s:Shared) (σ:St) (H:Hp) (x:V) (v:Value) (Q:VK),Inv X pins σ H s->RelV x v->r x H Q →
  wpAny (model X.prog X.w) X.A (f v) (EP X pins σ Q) X.xe s
def cA(X:Cx)(f:Value)(r:List V->Hp->VK->Prop):Prop:=
 ∀(pins:List (Addr×Obj)) (s:Shared) (σ:St) (H:Hp) (xs:List V) (us:List Value) (Q:VK),Inv X pins σ H s->Vals xs us->r xs H Q →
  wpAny (model X.prog X.w) X.A (call f us) (EP X pins σ Q) X.xe s
def gj(r:R2)(ta tb:TE):TE:=fun σ H Q=>ta σ H fun x H1=>tb σ H1 fun y H2=>r x y H2 Q
def uc(r:V->Hp->VK->Prop)(ta:TE):TE:=fun σ H Q=>ta σ H fun x H1=>r x H1 Q
def rI(C:Int->Int->Prop)(g:Int->Int->V):R2:=fun x y H Q=>∃i j,x=.int i/\y=.int j/\C i j/\Q (g i j) H
def eh(g:Int->Int->V):R2:=fun x y H Q=>∃i j,x=.int i/\y=.int j/\Q (g i j) H
def rU(g:Int->V):V->Hp->VK->Prop:=fun x H Q=>∃i,x=.int i/\Q (g i) H
section
variable {X:Cx} {a b c:Expr} {ta tb tc:TE} {pos:Pos}
theorem m3(ha:PE X a ta)(hb:PE X b tb){pins:List (Addr×Obj)}{s:Shared}{σ:St}{H:Hp}{R:V->V->Hp->Prop}(I:Inv X pins σ H s)
  (h:ta σ H fun x H1=>tb σ H1 fun y H2=>R x y H2) {Q:Value->Shared->Prop} {f:Value->Value->Sem Value}
  (hf:∀v u s2 x y H2,Inv X pins σ H2 s2->RelV x v->RelV y u->R x y H2->wpAny (model X.prog X.w) X.A (f v u) Q X.xe s2) :
  wpAny (model X.prog X.w) X.A (eval a X.env) (fun v s₁=>wpAny (model X.prog X.w) X.A (eval b X.env) (fun u s₂=>wpAny (model X.prog X.w) X.A (f v u) Q X.xe s₂) X.xe s₁) X.xe s:=by
 refine ah (ha pins s σ H _ I h) fun v s1 ⟨x,H1,I1,r1,q1⟩=>?_
 refine ah (hb pins s1 σ H1 _ I1 q1) fun u s2 ⟨y,H2,I2,r2,q2⟩=>?_
 exact hf v u s2 x y H2 I2 r1 r2 q2
theorem av{op:Operator}{r:R2}(ho:bp X (binaryOp op) r)(ha:PE X a ta)(hb:PE X b tb):PE X (.BinOp a op b pos) (gj r ta tb):=by
 intro pins s σ H Q I h
 exact wpAny_BinOp (m3 ha hb I h fun v u s2 x y H2 I2 rx ry q=>ho pins s2 σ H2 x y v u Q I2 rx ry q)
theorem nG{op:UnaryOp}{r:V->Hp->VK->Prop}(ho:ll X (unaryOp op) r)(ha:PE X a ta):PE X (.UnaryOp op a pos) (uc r ta):=by
 intro pins s σ H Q I h
 exact UnaryOp_ (ah (ha pins s σ H _ I h) fun v s1 ⟨x,H1,I1,r1,q1⟩=>ho pins s1 σ H1 x v Q I1 r1 q1)
theorem jR{f:Value->Value->Sem Value}{C:Int->Int->Prop}{g:Int->Int->Int}
  (rule:∀(i j:Int) (t u:Tok) (s:Shared) (Q:Value->Shared->Prop) (E:Value->Shared->Prop),C i j->Q (.int (g i j) s.toks) { s with toks:=s.toks+1 }->wpAny (model X.prog X.w) X.A (f (.int i t) (.int j u)) Q E s) :
  bp X f (rI C fun i j=>.int (g i j)):=by
 intro pins s σ H x y v u Q I rx ry h
 obtain⟨i,j,rfl,rfl,hc,q⟩:=h
 obtain⟨t,rfl⟩:=rx
 obtain⟨t',rfl⟩:=ry
 exact rule i j t t' s _ _ hc ⟨.int (g i j),H,I.tok _,⟨_,rfl⟩,q⟩
theorem n8{f:Value->Value->Sem Value}{g:Int->Int->Int}
  (rule:∀(i j:Int) (t u:Tok) (s:Shared) (Q:Value->Shared->Prop) (E:Value->Shared->Prop),Q (.int (g i j) s.toks) { s with toks:=s.toks+1 }->wpAny (model X.prog X.w) X.A (f (.int i t) (.int j u)) Q E s) :
  bp X f (eh fun i j=>.int (g i j)):=by
 intro pins s σ H x y v u Q I rx ry h
 obtain⟨i,j,rfl,rfl,q⟩:=h
 obtain⟨t,rfl⟩:=rx
 obtain⟨t',rfl⟩:=ry
 exact rule i j t t' s _ _ ⟨.int (g i j),H,I.tok _,⟨_,rfl⟩,q⟩
theorem jg{f:Value->Value->Sem Value}{g:Int->Int->Bool}
  (rule:∀(i j:Int) (t u:Tok) (s:Shared) (Q:Value->Shared->Prop) (E:Value->Shared->Prop),Q (.bool (g i j)) s->wpAny (model X.prog X.w) X.A (f (.int i t) (.int j u)) Q E s) :
  bp X f (eh fun i j=>.bl (g i j)):=by
 intro pins s σ H x y v u Q I rx ry h
 obtain⟨i,j,rfl,rfl,q⟩:=h
 obtain⟨t,rfl⟩:=rx
 obtain⟨t',rfl⟩:=ry
 exact rule i j t t' s _ _ ⟨.bl (g i j),H,I,rfl,q⟩
def uj(i j:Int):Prop:=0<=j/\j<=1000000/\i.natAbs<2 ^ 64
def i8(i j:Int):Prop:=(-(2 ^ 64)<i/\i<2 ^ 64)\/(-(2 ^ 64)<j/\j<2 ^ 64)
theorem i8.ok{i j:Int}(h:i8 i j):IntMulOk i j:=by
 rcases h with⟨h1,h2⟩ | ⟨h1,h2⟩
 ·exact .of_left (intBits_le_64 h1 h2)
 ·exact .of_right (intBits_le_64 h1 h2)
theorem aW:bp X (binaryOp .Add) (eh fun i j=>.int (i+j)):=n8 fun _ _ _ _ _ _ _ q=>add_int q
theorem dN:bp X (binaryOp .Sub) (eh fun i j=>.int (i-j)):=n8 fun _ _ _ _ _ _ _ q=>sub_int q
theorem dB:bp X (binaryOp .Mult) (rI i8 fun i j=>.int (i*j)):=jR fun _ _ _ _ _ _ _ hc q=>mul_int q hc.ok
theorem cC:bp X (binaryOp .Mod) (rI (fun _ j=>0<j) fun i j=>.int (i % j)):=jR fun i j _ _ _ _ _ hc q=>by
 have h1:(0:Int)<j:=hc
 exact mod_int' (by omega) (by rw[Int.fmod_eq_emod_of_nonneg i (by omega)];exact q)
theorem gX:bp X (binaryOp .Pow) (rI uj fun i j=>.int (i ^ j.toNat)):=jR fun _ _ _ _ _ _ _ hc q=>pow_int_small hc.1 hc.2.1 hc.2.2 q
theorem vE{f:Value->Sem Value}{g:Int->Int}
  (rule:∀(i:Int) (t:Tok) (s:Shared) (Q:Value->Shared->Prop) (E:Value->Shared->Prop),Q (.int (g i) s.toks) { s with toks:=s.toks+1 }->wpAny (model X.prog X.w) X.A (f (.int i t)) Q E s) :
  ll X f (rU fun i=>.int (g i)):=by
 intro pins s σ H x v Q I rx h
 obtain⟨i,rfl,q⟩:=h
 obtain⟨t,rfl⟩:=rx
 exact rule i t s _ _ ⟨.int (g i),H,I.tok _,⟨_,rfl⟩,q⟩
theorem mS:ll X (unaryOp .USub) (rU fun i=>.int (-i)):=vE fun _ _ _ _ _ q=>neg_int q
end
def om:V->V->Bool
 | .non,.non=>true | .non,.int _=>true | .int _,.non=>true | .non,.bl _=>true | .bl _,.non=>true | .non,.str _=>true | .str _,.non=>true
 | .int _,.int _=>true | .bl _,.bl _=>true | .str _,.str _=>true | .byt _,.byt _=>true
 | .int _,.str _=>true | .str _,.int _=>true | .bl _,.str _=>true | .str _,.bl _=>true
 | _,_=>false
def mP:R2:=fun x y H Q=>om x y=true/\Q (.bl (decide (x=y))) H
def lW:R2:=fun x y H Q=>om x y=true/\Q (.bl (!decide (x=y))) H
theorem n5{i j:Int}:decide (V.int i=V.int j)=(i == j):=by
 rw[BP]
 simp
theorem ql{i j:Bool}:decide (V.bl i=V.bl j)=(i == j):=by
 rw[BP]
 simp
theorem il{i j:Str}:decide (V.str i=V.str j)=(i == j):=by
 rw[BP]
 simp
theorem qk{i j:Array UInt8}:decide (V.byt i=V.byt j)=(i.toList == j.toList):=by
 rw[BP]
 cases i
 cases j
 simp
section
variable {X:Cx} {a b c:Expr} {ta tb tc:TE} {pos:Pos}
theorem bq{pins:List (Addr×Obj)}{σ:St}{H:Hp}{s:Shared}{Q:VK}{k k':Bool}(I:Inv X pins σ H s)(q:Q (.bl k) H)(e:k=k'):EP X pins σ Q (.bool k') s:=by
 subst e
 exact⟨.bl k,H,I,rfl,q⟩
theorem bY:bp X (compareOp .Eq) mP:=by
 intro pins s σ H x y v u Q I rx ry h
 obtain⟨hs,q⟩:=h
 cases x with
 | non=>
  cases rx
  cases y with
  | non=>cases ry;exact PySem.EqNone.eq_none_none (bq I q (by simp))
  | bl j=>cases ry;exact PySem.EqNone.eq_none_bool (bq I q (by simp))
  | int j=>obtain⟨t',rfl⟩:=ry;exact PySem.EqNone.eq_none_int (bq I q (by simp))
  | str j=>obtain⟨t',rfl⟩:=ry;exact PySem.EqNone.eq_none_str (bq I q (by simp))
  | _=>exact absurd (show false=true from hs) Bx
 | bl i=>
  cases rx
  cases y with
  | non=>cases ry;exact PySem.EqNone.eq_bool_none (bq I q (by simp))
  | bl j=>cases ry;exact eq_bool (bq I q ql)
  | str j=>obtain⟨t',rfl⟩:=ry;exact PySem.EqMixed.eq_bool_str (bq I q (by simp))
  | _=>exact absurd (show false=true from hs) Bx
 | int i=>
  obtain⟨t,rfl⟩:=rx
  cases y with
  | non=>cases ry;exact PySem.EqNone.eq_int_none (bq I q (by simp))
  | int j=>obtain⟨t',rfl⟩:=ry;exact eq_int (bq I q n5)
  | str j=>obtain⟨t',rfl⟩:=ry;exact PySem.EqMixed.eq_int_str (bq I q (by simp))
  | _=>exact absurd (show false=true from hs) Bx
 | str i=>
  obtain⟨t,rfl⟩:=rx
  cases y with
  | non=>cases ry;exact PySem.EqNone.eq_str_none (bq I q (by simp))
  | bl j=>cases ry;exact PySem.EqMixed.eq_str_bool (bq I q (by simp))
  | int j=>obtain⟨t',rfl⟩:=ry;exact PySem.EqMixed.eq_str_int (bq I q (by simp))
  | str j=>obtain⟨t',rfl⟩:=ry;exact eq_str (bq I q il)
  | _=>exact absurd (show false=true from hs) Bx
 | byt i=>
  obtain⟨t,rfl⟩:=rx
  cases y with
  | byt j=>obtain⟨t',rfl⟩:=ry;exact PySem.W.eq_bytes (bq I q qk)
  | _=>exact absurd (show false=true from hs) Bx
 | _=>cases y<;>exact absurd (show false=true from hs) Bx
theorem jl:bp X (compareOp .NotEq) lW:=by
 intro pins s σ H x y v u Q I rx ry h
 obtain⟨hs,q⟩:=h
 cases x with
 | non=>
  cases rx
  cases y with
  | non=>cases ry;exact PySem.EqNone.ne_none_none (bq I q (by simp))
  | bl j=>cases ry;exact PySem.EqNone.ne_none_bool (bq I q (by simp))
  | int j=>obtain⟨t',rfl⟩:=ry;exact PySem.EqNone.ne_none_int (bq I q (by simp))
  | str j=>obtain⟨t',rfl⟩:=ry;exact PySem.EqNone.ne_none_str (bq I q (by simp))
  | _=>exact absurd (show false=true from hs) Bx
 | bl i=>
  cases rx
  cases y with
  | non=>cases ry;exact PySem.EqNone.ne_bool_none (bq I q (by simp))
  | bl j=>cases ry;exact ne_bool (bq I q (congrArg not ql))
  | str j=>obtain⟨t',rfl⟩:=ry;exact PySem.EqMixed.ne_bool_str (bq I q (by simp))
  | _=>exact absurd (show false=true from hs) Bx
 | int i=>
  obtain⟨t,rfl⟩:=rx
  cases y with
  | non=>cases ry;exact PySem.EqNone.ne_int_none (bq I q (by simp))
  | int j=>obtain⟨t',rfl⟩:=ry;exact ne_int (bq I q (congrArg not n5))
  | str j=>obtain⟨t',rfl⟩:=ry;exact PySem.EqMixed.ne_int_str (bq I q (by simp))
  | _=>exact absurd (show false=true from hs) Bx
 | str i=>
  obtain⟨t,rfl⟩:=rx
  cases y with
  | non=>cases ry;exact PySem.EqNone.ne_str_none (bq I q (by simp))
  | bl j=>cases ry;exact PySem.EqMixed.ne_str_bool (bq I q (by simp))
  | int j=>obtain⟨t',rfl⟩:=ry;exact PySem.EqMixed.ne_str_int (bq I q (by simp))
  | str j=>obtain⟨t',rfl⟩:=ry;exact ne_str (bq I q (congrArg not il))
  | _=>exact absurd (show false=true from hs) Bx
 | byt i=>
  obtain⟨t,rfl⟩:=rx
  cases y with
  | byt j=>obtain⟨t',rfl⟩:=ry;exact PySem.W.ne_bytes (bq I q (congrArg not qk))
  | _=>exact absurd (show false=true from hs) Bx
 | _=>cases y<;>exact absurd (show false=true from hs) Bx
theorem tR:bp X (compareOp .Lt) (eh fun i j=>.bl (decide (i<j))):=jg fun _ _ _ _ _ _ _ q=>lt_int q
theorem iz:bp X (compareOp .LtE) (eh fun i j=>.bl (decide (i<=j))):=jg fun _ _ _ _ _ _ _ q=>le_int q
theorem kr:bp X (compareOp .Gt) (eh fun i j=>.bl (decide (j<i))):=jg fun _ _ _ _ _ _ _ q=>gt_int q
theorem uw:bp X (compareOp .GtE) (eh fun i j=>.bl (decide (j<=i))):=jg fun _ _ _ _ _ _ _ q=>ge_int q
theorem bo(b:Expr){op:CmpOp}(h:op≠.In:=by decide)(h2:op≠.NotIn:=by decide):behindInMarks op b=false:=by
 have e1:(op == CmpOp.In)=false:=by cases op<;>first | rfl | exact absurd rfl h
 have e2:(op == CmpOp.NotIn)=false:=by cases op<;>first | rfl | exact absurd rfl h2
 cases b<;>simp[behindInMarks,e1,e2]
theorem fK{op:CmpOp}{r:R2}(ho:bp X (compareOp op) r)(ha:PE X a ta)(hb:PE X b tb)(hm:behindInMarks op b=false):PE X (.Compare a [op] [b] pos) (gj r ta tb):=by
 intro pins s σ H Q I h
 exact wpAny_Compare1 (m3 ha hb I h fun v u s2 x y H2 I2 rx ry q=>ho pins s2 σ H2 x y v u Q I2 rx ry q) hm
def mY(t:TE):TT:=fun σ H Q=>t σ H fun x H'=>∃k,x=.bl k/\Q k H'
theorem bC{op:CmpOp}{r:R2}(ho:bp X (compareOp op) r)(ha:PE X a ta)(hb:PE X b tb)(hm:behindInMarks op b=false):PT X (.Compare a [op] [b] pos) (mY (gj r ta tb)):=by
 intro pins s σ H Q I h
 refine wpAny_isTrue_Compare1 (ah (ha pins s σ H _ I h) fun v s1 ⟨x,H1,I1,r1,q1⟩=>ah (hb pins s1 σ H1 _ I1 q1) fun u s2 ⟨y,H2,I2,r2,q2⟩=>
  ah (ho pins s2 σ H2 x y v u _ I2 r1 r2 q2) fun c s3 ⟨z,H3,I3,r3,k,e,q3⟩=>?_) hm
 subst e
 cases r3
 exact wpAny_truthy_bool ⟨H3,I3,q3⟩
def kD(r r':R2)(ta tb tc:TE):TE:=fun σ H Q=>ta σ H fun x H1=>tb σ H1 fun y H2=>r x y H2 fun z H3=>∃k,z=.bl k ∧
 (if k=true then tc σ H3 fun w' H4=>r' y w' H4 Q else Q (.bl false) H3)
theorem nI{op op':CmpOp}{r r':R2}(ho:bp X (compareOp op) r)(ho':bp X (compareOp op') r')(ha:PE X a ta)(hb:PE X b tb)(hc:PE X c tc)
  (hm:lastMarks [op,op'] [b,c]=false:=by with_unfolding_all rfl):PE X (.Compare a [op,op'] [b,c] pos) (kD r r' ta tb tc):=by
 intro pins s σ H Q I h
 refine Compare_chain (ah (ha pins s σ H _ I h) fun v s1 ⟨x,H1,I1,r1,q1⟩=>chain_link (ah (hb pins s1 σ H1 _ I1 q1) fun u s2 ⟨y,H2,I2,r2,q2⟩=>
  ah (ho pins s2 σ H2 x y v u _ I2 r1 r2 q2) fun d s3 ⟨z,H3,I3,r3,k,e,q3⟩=>?_)) hm
 subst e
 cases r3
 refine wpAny_truthy_bool ?_
 cases k with
 | false=>exact ite_ff ⟨.bl false,H3,I3,rfl,q3⟩
 | true=>exact ite_tt (chain_last (ah (hc pins s3 σ H3 _ I3 q3) fun w' s4 ⟨z',H4,I4,r4,q4⟩=>ho' pins s4 σ H4 y z' u w' Q I4 r2 r4 q4))
theorem yw{op op':CmpOp}{r r':R2}(ho:bp X (compareOp op) r)(ho':bp X (compareOp op') r')(ha:PE X a ta)(hb:PE X b tb)(hc:PE X c tc)
  (hm:lastMarks [op,op'] [b,c]=false:=by with_unfolding_all rfl):PT X (.Compare a [op,op'] [b,c] pos) (mY (kD r r' ta tb tc)):=by
 intro pins s σ H Q I h
 refine isTrue_chain (ah (ha pins s σ H _ I h) fun v s1 ⟨x,H1,I1,r1,q1⟩=>test_link (ah (hb pins s1 σ H1 _ I1 q1) fun u s2 ⟨y,H2,I2,r2,q2⟩=>
  ah (ho pins s2 σ H2 x y v u _ I2 r1 r2 q2) fun d s3 ⟨z,H3,I3,r3,k,e,q3⟩=>?_)) hm
 subst e
 cases r3
 refine wpAny_truthy_bool ?_
 cases k with
 | false=>
  obtain⟨k',e',q'⟩:=q3
  cases e'
  exact ite_ff ⟨H3,I3,q'⟩
 | true=>
  refine ite_tt (test_last (ah (hc pins s3 σ H3 _ I3 q3) fun w' s4 ⟨z',H4,I4,r4,q4⟩=>ah (ho' pins s4 σ H4 y z' u w' _ I4 r2 r4 q4) fun d' s5 ⟨z2,H5,I5,r5,k2,e2,q5⟩=>?_))
  subst e2
  cases r5
  exact wpAny_truthy_bool ⟨H5,I5,q5⟩
theorem gy:(sizeLine:Nat)<2 ^ 63:=by rw[sizeLine_eq];decide
theorem vals1{x:V}{us:List Value}(r:Vals [x] us):∃u,us=[u]/\RelV x u:=by
 cases r with
 | cons r1 r2=>cases r2;exact⟨_,rfl,r1⟩
theorem vals2{x y:V}{us:List Value}(r:Vals [x,y] us):∃u w',us=[u,w']/\RelV x u/\RelV y w':=by
 cases r with
 | cons r1 r2=>
  cases r2 with
  | cons r3 r4=>cases r4;exact⟨_,_,rfl,r1,r3⟩
end
end L2
namespace L2
open PySem PySem.Spec PyProof.Rows
structure ObjM(h:Heap)(x dx C:Addr)(mA:Str->Option Value):Prop where
 obj:h.get? x=some (PySem.W.instObj C dx)
 ns:h.Ns1 dx mA
 ne:dx≠x
theorem xx{h:Heap}{dx:Addr}{mA:Str->Option Value}(n:h.Ns1 dx mA):∃od,h.get? dx=some od/\∀name,PySem.W.lookIn name od=some (mA name):=by
 obtain⟨o,es,ep,ho,hd,hk,_,hm⟩:=n
 refine⟨o,ho,fun name=>?_⟩
 have e:=hm name
 unfold nsFind findBy at e
 rw[←Array.find?_toList]at e
 unfold PySem.W.lookIn
 rw[hd]
 dsimp only
 split
 ·rename_i y q
  rw[q]at e
  exact congrArg some e
 ·rename_i q
  rw[q]at e
  have a:es.toList.any (·.refKey)=false:=by
   rw[List.any_eq_false]
   intro y hy
   obtain⟨z,t,hkey⟩:=hk y (Array.mem_toList_iff.mp hy)
   simp[DictEntry.refKey,hkey]
  have a':¬es.toList.any (·.refKey)=true:=by rw[a];exact Bx
  rw[if_neg a']
  exact congrArg some e
theorem ObjM.look{h:Heap}{x dx C:Addr}{mA:Str->Option Value}(I:ObjM h x dx C mA):∃od,PySem.W.InstAt h x (PySem.W.instObj C dx) C (some od)/\∀name,PySem.W.lookIn name od=some (mA name):=
 let ⟨od,ho,hl⟩:=xx I.ns
 ⟨od,⟨I.obj,rfl,rfl,ho⟩,hl⟩
section
variable {prog:Program} {w:World} {A:Around} {E:Value->Shared->Prop} {s:Shared} {K:Be} {x dx C f:Addr} {mA:Str->Option Value} {name:Str} {v:Value}
end
theorem dF.some_of{v:V}{o:Option Value}(r:dF (some v) o):∃u,o=some u/\RelV v u:=by
 cases o with
 | none=>exact(show False from r).elim
 | some u=>exact⟨u,rfl,r⟩
section
variable {P:Program} {w:World} {H H':Hp} {h h':Heap} {a C dx:Addr} {fs fs':List (Str×V)}
theorem uW(hok:aU P w H h)(e:H a=some (.ins C dx fs)):∃mA,ObjM h a dx C mA/\(∀f,dF (fs.lookup f) (mA f))/\PySem.Within mA (fs.map (·.1))/\fs.length<=1000/\H dx=some (.own a):=by
 obtain⟨d,z,ne,ob,mA,n,r,q⟩:=(show bh P w H h a (.ins C dx fs)from hok a _ e)
 exact⟨mA,⟨ob,n,ne⟩,r,q,z,d⟩
end
structure Cls(K:Be)(C:Addr):Prop where
 pg:PySem.W.plainGet K C Str.empty=true
 hd:PySem.W.hasDictIn K C=true
 po:PySem.W.plainOver K C=true
 sa:PySem.W.findIn K (.ref C) "__setattr__" = some (some (.builtin "object.__setattr__"))
theorem Cls.get{K:Be}{C:Addr}(c:Cls K C)(f:Str):PySem.W.plainGet K C f=true:=c.pg
section
variable {X:Cx} {pins:List (Addr×Obj)} {σ:St} {H:Hp} {s:Shared} {a C dx:Addr} {fs:List (Str×V)} {f:Str} {v:V} {A:Around} {E:Value->Shared->Prop}
end
section
variable {X:Cx} {o e value:Expr} {f:Str} {pos pos' tpos:Pos} {ta tv:TE}
end
section
variable {X:Cx} {pins:List (Addr×Obj)} {σ:St} {H:Hp} {s:Shared} {A:Around} {E:Value->Shared->Prop} {Q:Value->Shared->Prop} {c:Value} {b:Bool}
inductive TyOf(K:Be)(H:Hp):V->Value->Prop where
 | non:TyOf K H .non (.type "NoneType")
 | bl (x:Bool):TyOf K H (.bl x) (.type "bool")
 | int (i:Int):TyOf K H (.int i) (.type "int")
 | str (x:Str):TyOf K H (.str x) (.type "str")
 | flt (x:UInt64):TyOf K H (.flt x) (.type "float")
 | lst {a:Addr} {xs:List V} (e:H a=some (.lst xs)):TyOf K H (.ref a) (.type "list")
 | frz {a:Addr} {o:Obj} {xs:List V} (e:H a=some (.frz o (.lst xs))):TyOf K H (.ref a) (.type "list")
 | tup {a:Addr} {xs:List V} (e:H a=some (.tup xs)):TyOf K H (.ref a) (.type "tuple")
 | dK {a:Addr} {kvs:List (Key×V)} (e:H a=some (.dK kvs)):TyOf K H (.ref a) (.type "dict")
 | dT {a:Addr} {kvs:List (List Key×V)} (e:H a=some (.dT kvs)):TyOf K H (.ref a) (.type "dict")
 | ins {a C dx:Addr} {fs:List (Str×V)} (e:H a=some (.ins C dx fs)) (cl:Cls K C) (ha:PySem.W.findIn K (.ref C) "__class__" = some (some (.builtin "object.__class__")))
   (hn:PySem.W.specialIn K (.builtin "object.__class__") "__get__" = some (some (.builtin "getset_descriptor.__get__"))) (htk:PySem.W.takesIn K (.builtin "object.__class__")=some true)
   (hm:PySem.W.mroIn K C (.type "object")=some true):TyOf K H (.ref a) (.ref C)
theorem vX{x:V}{u t:Value}(I:Inv X pins σ H s)(rx:RelV x u)(ty:TyOf X.K H x t)(e:PySem.W.kitOne X.K t c=some b)(h:∀tk,Q (.bool b) { s with toks:=tk }):
  wpAny (model X.prog X.w) A (call (.builtin "isinstance") [u,c]) Q E s:=by
 cases ty with
 | non=>cases(show u=Value.none from rx);exact PySem.W.kia_one PySem.W.kitx_none I.kIn True.intro e (fun z=>nomatch z) h
 | bl y=>cases(show u=Value.bool y from rx);exact PySem.W.kia_one PySem.W.kitx_bool I.kIn True.intro e (fun z=>nomatch z) h
 | int i=>obtain⟨t,q⟩:=(show ∃t,u=Value.int i t from rx);cases q;exact PySem.W.kia_one PySem.W.kitx_int I.kIn True.intro e (fun z=>nomatch z) h
 | str y=>obtain⟨t,q⟩:=(show ∃t,u=Value.str y t from rx);cases q;exact PySem.W.kia_one PySem.W.kitx_str I.kIn True.intro e (fun z=>nomatch z) h
 | flt y=>obtain⟨t,q⟩:=(show ∃t,u=Value.float y t from rx);cases q;exact PySem.W.kia_one PySem.W.kitx_float I.kIn True.intro e (fun z=>nomatch z) h
 | @lst a xs ea=>
  cases(show u=Value.ref a from rx)
  obtain⟨_,_,n,_,h1⟩:=(show bh X.prog X.w H s.heap a (.lst xs)from I.hok a _ ea)
  exact PySem.W.kia_one PySem.W.kitx_list I.kIn ⟨_,h1,rfl⟩ e (fun z=>nomatch z) h
 | @frz a ob xs ea=>
  cases(show u=Value.ref a from rx)
  obtain⟨_,_,_,n,_,h1⟩:=(show bh X.prog X.w H s.heap a (.frz ob (.lst xs))from I.hok a _ ea)
  exact PySem.W.kia_one PySem.W.kitx_list I.kIn ⟨_,h1,rfl⟩ e (fun z=>nomatch z) h
 | @tup a xs ea=>
  cases(show u=Value.ref a from rx)
  obtain⟨_,_,_,p⟩:=(show bh X.prog X.w H s.heap a (.tup xs)from I.hok a _ ea)
  obtain⟨o,h1,h2,_⟩:=p
  exact PySem.W.kia_one PySem.W.kitx_tuple I.kIn ⟨o,h1,h2⟩ e (fun z=>nomatch z) h
 | @dK a kvs ea=>
  cases(show u=Value.ref a from rx)
  obtain⟨_,_,vs,_,p⟩:=(show bh X.prog X.w H s.heap a (.dK kvs)from I.hok a _ ea)
  obtain⟨o,es,ep,h1,h2,_⟩:=p
  exact PySem.W.kia_one PySem.W.kitx_dict I.kIn ⟨o,h1,h2.1⟩ e (fun z=>nomatch z) h
 | @dT a kvs ea=>
  cases(show u=Value.ref a from rx)
  obtain⟨_,_,xs,_,o,es,ep,h1,h2,_⟩:=(show bh X.prog X.w H s.heap a (.dT kvs)from I.hok a _ ea)
  exact PySem.W.kia_one PySem.W.kitx_dict I.kIn ⟨o,h1,h2.1⟩ e (fun z=>nomatch z) h
 | @ins a C dx fs ea cl ha hn htk hm=>
  cases(show u=Value.ref a from rx)
  obtain⟨mA,O,_⟩:=uW I.hok ea
  obtain⟨od,J,_⟩:=O.look
  exact PySem.W.kia_one (PySem.W.kitx_own (cl.get _) cl.hd ha hn htk hm) I.kIn J e (fun z=>nomatch z) h
end
end L2
namespace L2
open PySem PySem.Spec PyProof.Rows
structure Room(k:Nat)(A:Around):Prop where
 hd:A.handled=none
 dp:A.depth+3*k+5<recursionLimit
 un:A.units+16*k+200<cLine
theorem Room.mono{j k:Nat}{A:Around}(r:Room k A)(h:j<=k):Room j A:=⟨r.hd,by have:=r.dp;omega,by have:=r.un;omega⟩
theorem Room.deeper{k:Nat}{A:Around}(r:Room (k+1) A)(env:Env):Room k (A.deeper env):=
 ⟨r.hd,by have:=r.dp;show A.depth+1+3*k+5<_;omega,by have:=r.un;show A.units+3+16*k+200<_;omega⟩
theorem Room.depth{k:Nat}{A:Around}(r:Room k A):A.depth<recursionLimit:=by have:=r.dp;omega
theorem Room.units{k:Nat}{A:Around}(r:Room k A):A.units+64<cLine:=by have:=r.un;omega
def iy:TA:=fun _ H Q=>Q [] H
def iA(ta:TE)(tr:TA):TA:=fun σ H Q=>ta σ H fun x H1=>tr σ H1 fun xs H2=>Q (x::xs) H2
section
variable {X:Cx} {e:Expr} {es:List Expr} {te:TE} {t:TA} {pos:Pos}
theorem ae:PA X [] iy:=fun _ _ _ _ H Q I h=>Calls.spliced_nil ⟨[],H,I,.nil,h⟩
theorem aa(ha:PE X e te)(hr:PA X es t)(hs:starEach (e::es) X.env=(false,eval e X.env)::starEach es X.env:=by rfl):PA X (e::es) (iA te t):=by
 intro pos pins s σ H Q I h
 rw[hs]
 show wpAny _ _ (spliced ((false,eval e X.env)::backTo pos (starEach es X.env))) _ _ s
 refine Calls.spliced_cons (ah (ha pins s σ H _ I h) fun u s1 ⟨x,H1,I1,r1,q1⟩=>?_)
 exact ah (hr pos pins s1 σ H1 _ I1 q1) fun us s2 ⟨xs,H2,I2,r2,q2⟩=>⟨x::xs,H2,I2,.cons r1 r2,q2⟩
def jM(t:TA):TE:=fun σ H Q=>t σ H fun xs H1=>xs.length<=sizeLine/\∀p,H1 p=none->Q (.ref p) (upd H1 p (.tup xs))
def sF(t:TA):TE:=fun σ H Q=>t σ H fun xs H1=>xs.length<=sizeLine/\∀p,H1 p=none->Q (.ref p) (upd H1 p (.lst xs))
theorem bx{x1}(h:PA X es t):PE X (.Tuple es x1 pos) (jM t):=by
 intro pins s σ H Q I hq
 refine wpAny_Tuple_spliced (ah (h pos pins s σ H _ I hq) fun us s1 ⟨xs,H1,I1,r,z,q⟩=>⟨by rw[←r.length];exact z,?_⟩)
 have hf:H1 s1.heap.objs.size=none:=I1.hok.fresh (BB _)
 refine⟨.ref s1.heap.objs.size,upd H1 s1.heap.objs.size (.tup xs),I1.laid (t':=s1.toks) (fun b u e=>Bf _ e) (BB _) ?_,rfl,q _ hf⟩
 exact⟨z,us,r,⟨_,Bg _ rfl,rfl,_,rfl⟩⟩
theorem bF(h:PA X es t):PE X (.List es pos) (sF t):=by
 intro pins s σ H Q I hq
 refine wpAny_List_spliced (ah (h pos pins s σ H _ I hq) fun us s1 ⟨xs,H1,I1,r,z,q⟩=>⟨by rw[←r.length];exact z,?_⟩)
 have hf:H1 s1.heap.objs.size=none:=I1.hok.fresh (BB _)
 refine⟨.ref s1.heap.objs.size,upd H1 s1.heap.objs.size (.lst xs),I1.laid (t':=s1.toks) (fun b u e=>Bf _ e) (BB _) ?_,rfl,q _ hf⟩
 exact⟨z,us,0,r,Bg _ rfl⟩
end
abbrev Sp:=List V->Hp->VK->XK->Prop
abbrev eC:=List Env->Hp->Shared->XK->Value->Shared->Prop
structure Env0(P:Program)(w:World)(K:Be)(mg:Str->Option Value)(base:Heap)(A:Around)(outer:List Env)(s:Shared)(H:Hp):Prop where
 frames:A.frames=some outer
 mod:Mod K mg base
 bs:∀b o,base.get? b=some o->s.heap.get? b=some o/\H b=none
 bsz:base.objs.size<=s.heap.objs.size
 funs:s.heap.FunFrames base outer
 frf:∀b∈cz outer,H b=none
 hok:aU P w H s.heap
 bare:AllBare s.gens
def CE(outer:List Env)(P:Program)(w:World)(H:Hp)(s:Shared)(Q:VK)(u:Value)(s':Shared):Prop:=
 ∃v H',s'.os=s.os/\AllBare s'.gens/\Un (cz outer) [] H H' s.heap s'.heap/\aU P w H' s'.heap/\RelV v u/\Q v H'
def CR(CX:eC)(outer:List Env)(P:Program)(w:World)(H:Hp)(s:Shared)(Q:VK)(E:XK)(r:Result)(s':Shared):Prop:=
 match r with
 | .ok (.ret u)=>CE outer P w H s Q u s'
 | .ok _=>False
 | .error e=>CX outer H s E e s'
structure FnOk(P:Program)(w:World)(K:Be)(mg:Str->Option Value)(base:Heap)(CX:eC)(k:Nat)(f:Addr)(fd:FuncData)(ps:List Str)(sp:Sp):Prop where
 len:∀vs H Q E,sp vs H Q E->vs.length=ps.length
 run:∀(A:Around) (outer:List Env) (s:Shared) (H:Hp) (args:Args) (us:List Value) (vs:List V) (Q:VK) (E:XK),Room k A->Env0 P w K mg base A outer s H->BindsTo s fd args (ps.zip us)->Vals vs us->sp vs H Q E →
  codeAny (model P w) A (.call (.ref f) args) (CR CX outer P w H s Q E) s
section
variable {X:Cx} {pins:List (Addr×Obj)} {σ:St} {H:Hp} {s s':Shared}
theorem Inv.env0(I:Inv X pins σ H s):Env0 X.prog X.w X.K X.mg X.base X.A X.stack s H:=
 ⟨I.ok.frames,I.ok.mod,I.bs,BL I.ok.bsz I.sz,I.stack,I.stkFree,I.hok,I.bare⟩
theorem Inv.after{Q:VK}{u:Value}(I:Inv X pins σ H s)(h:CE X.stack X.prog X.w H s Q u s'):EP X pins σ Q u s':=by
 obtain⟨v,H',os,bare,un,hok,r,q⟩:=h
 obtain⟨hh,g,d,t,os'⟩:=s'
 obtain rfl:os'=s.os:=os
 exact⟨v,H',I.call (h':=hh) (g':=g) (d':=d) (t':=t) (ch:=[]) un hok bare (fun b z=>absurd z (by simp)),r,q⟩
end
def kN(sp:Sp)(dvs:List V)(E:XK)(t:TA):TE:=fun σ H Q=>t σ H fun vs H1=>sp (vs++dvs) H1 Q E
def Binds(K:Be)(fd:FuncData)(ps:List Str)(ds:List Value):Prop:=
 ∀(s:Shared) (us:List Value),K.In s.heap->(us++ds).length=ps.length->BindsTo s fd ⟨us,[]⟩ (ps.zip (us++ds))
theorem Binds.all{K:Be}{fd:FuncData}{ps:List Str}(h:∀us:List Value,us.length=ps.length->bindArgs fd ⟨us,[]⟩=pure (ps.zip us)):Binds K fd ps []:=fun s us _ hl=>by
 rw[List.append_nil]at hl ⊢
 exact .of_eq (h us hl)
def Passes(CX:eC)(X:Cx)(E:XK):Prop:=∀(pins:List (Addr×Obj)) (σ:St) (H:Hp) (s:Shared) (e:Value) (s':Shared),Inv X pins σ H s->CX X.stack H s E e s'->X.xe e s'
section
variable {X:Cx} {CX:eC} {k:Nat} {f C:Addr} {fd:FuncData} {ps:List Str} {sp:Sp} {dvs:List V} {ds:List Value} {E:XK} {x m:Str} {p pos apos:Pos} {e o:Expr} {es:List Expr} {ta:TE} {t:TA}
theorem vZ{pins:List (Addr×Obj)}{σ:St}{H:Hp}{s:Shared}{Q:VK}{us:List Value}{vs:List V}(F:FnOk X.prog X.w X.K X.mg X.base CX k f fd ps sp)(hr:Room k X.A)(hb:Binds X.K fd ps ds)(hd:Vals dvs ds)(hx:Passes CX X E)
  (I:Inv X pins σ H s) (r:Vals vs us) (h:sp (vs++dvs) H Q E):wpAny (model X.prog X.w) X.A (call (.ref f) us) (EP X pins σ Q) X.xe s:=by
 have r2:Vals (vs++dvs) (us++ds):=r.append hd
 have hl:(us++ds).length=ps.length:=by rw[←r2.length];exact F.len _ _ _ _ h
 refine wpAny_call (codeAny_mono (F.run X.A X.stack s H ⟨us,[]⟩ (us++ds) (vs++dvs) Q E hr I.env0 (hb s us I.kIn hl) r2 h) fun r s' hq=>?_)
 cases r with
 | error e=>exact hx pins σ H s e s' I hq
 | ok fl=>
  cases fl with
  | ret u=>exact I.after hq
  | next=>exact False.elim hq
  | brk=>exact False.elim hq
  | cont=>exact False.elim hq
theorem zm(F:FnOk X.prog X.w X.K X.mg X.base CX k f fd ps sp)(hr:Room k X.A)(hg:Gl X x)(hm:X.mg x=some (.ref f))(hk:PySem.W.keepIn X.K (.ref f)=true)(hb:Binds X.K fd ps ds)(hd:Vals dvs ds)(hx:Passes CX X E)
  (ha:PA X (e::es) t) (hdb:(x == ("__debug__":Str))=false:=by decide) (he:starEach (e::es) X.env=(false,eval e X.env)::starEach es X.env:=by rfl) (hpl:(backTo pos (starEach es X.env)).any (·.1)=false:=by rfl) :
  PE X (.Call (.Name x p) (e::es) [] pos) (kN sp dvs E t):=by
 intro pins s σ H Q I h
 refine wpAny_Call_Name_kw (ji I hg hm ?_ hdb)
 refine PySem.W.callWith_K (h₀:=X.base) I.ok.mod.kin hk (ah (ha pos pins s σ H _ I h) fun us s1 ⟨vs,H1,I1,r,q⟩=>⟨I1.kIn,?_⟩) he hpl
 exact vZ F hr hb hd hx I1 r q
end
section
variable {X:Cx} {CX:eC} {k:Nat} {f C:Addr} {fd:FuncData} {ps ks:List Str} {sp:Sp} {E:XK} {x m:Str} {p pos apos kpos:Pos} {e o:Expr} {es:List Expr} {kws:List Keyword} {te ta:TE} {t tk:TA} {nm:Option Str}
variable {g:List Value->List Value->List Value} {gV:List V->List V->List V}
end
structure FnScope(N P:List Str)(sc:Scope):Prop where
 kind:sc.kind=.function
 co:sc.isCoroutine=false
 gen:sc.isGenerator=false
 nd:N.Nodup
 pre:N.take P.length=P
 par:∀x∈P,sc.names.lookup x=some .local\/sc.names.lookup x=some .cell
 nofree:∀y∈sc.names,y.2≠.free
theorem sG{kindOf:Str->Option NameKind}{x:Str}:∀{binds:List (Str×Value)} {m:Str->Option Value},(∀v,(x,v)∉binds)->bindL kindOf binds m x=m x
 | [],_,_=>rfl
 | (n,v)::r,m,h=>by
  unfold bindL
  rw[sG fun w hw=>h w (Bl _ hw)]
  split
  ·have:x≠n:=by rintro rfl;exact h v Bo
   simp[this]
  ·rfl
theorem ub{kindOf:Str->Option NameKind}{x:Str}:∀{binds:List (Str×Value)} {m:Str->Option Value},(∀v,(x,v)∉binds)->bindC kindOf binds m x=m x
 | [],_,_=>rfl
 | (n,v)::r,m,h=>by
  unfold bindC
  rw[ub fun w hw=>h w (Bl _ hw)]
  split
  ·rfl
  ·have:x≠n:=by rintro rfl;exact h v Bo
   simp[this]
theorem nk{kindOf:Str->Option NameKind}{x:Str}{v:Value}:∀{P:List Str} {vs:List Value} {i:Nat} {m:Str->Option Value},P.Nodup->P[i]?=some x->vs[i]?=some v->kindOf x=some .local →
  bindL kindOf (P.zip vs) m x=some v
 | [],_,_,_,_,h,_,_=>by simp at h
 | _::_,[],_,_,_,_,h,_=>by simp at h
 | p::P,w::vs,0,m,nd,h1,h2,hk=>by
  simp at h1 h2;subst h1;subst h2
  show bindL kindOf ((p,w)::P.zip vs) m p=_
  unfold bindL
  rw[sG fun v hv=>(List.nodup_cons.mp nd).1 (List.of_mem_zip hv).1,if_pos hk]
  simp
 | p::P,w::vs,i+1,m,nd,h1,h2,hk=>by
  show bindL kindOf ((p,w)::P.zip vs) m x=_
  unfold bindL
  exact nk (i:=i) (List.nodup_cons.mp nd).2 (by simpa using h1) (by simpa using h2) hk
theorem kG{kindOf:Str->Option NameKind}{x:Str}{v:Value}:∀{P:List Str} {vs:List Value} {i:Nat} {m:Str->Option Value},P.Nodup->P[i]?=some x->vs[i]?=some v->kindOf x≠some .local →
  bindC kindOf (P.zip vs) m x=some v
 | [],_,_,_,_,h,_,_=>by simp at h
 | _::_,[],_,_,_,_,h,_=>by simp at h
 | p::P,w::vs,0,m,nd,h1,h2,hk=>by
  simp at h1 h2;subst h1;subst h2
  show bindC kindOf ((p,w)::P.zip vs) m p=_
  unfold bindC
  rw[ub fun v hv=>(List.nodup_cons.mp nd).1 (List.of_mem_zip hv).1,if_neg hk]
  simp
 | p::P,w::vs,i+1,m,nd,h1,h2,hk=>by
  show bindC kindOf ((p,w)::P.zip vs) m x=_
  unfold bindC
  exact kG (i:=i) (List.nodup_cons.mp nd).2 (by simpa using h1) (by simpa using h2) hk
def start(N:List Str)(vs:List V):St:=vs.map some++List.replicate (N.length-vs.length) none
def eM(CX:eC)(P:Program)(w:World)(K:Be)(mg:Str->Option Value)(base:Heap)(N:List Str)(qual:Str)(scope:Scope)(f:Addr)(cd:Value)(A:Around)(outer:List Env)(s:Shared)(H:Hp)(E:XK):Cx where
 prog:=P
 w:=w
 K:=K
 mg:=mg
 base:=base
 A:=A.deeper (envOfC qual scope s.heap.objs.size f cd)
 N:=N
 s₀:=s
 H₀:=H
 env:=envOfC qual scope s.heap.objs.size f cd
 outer:=outer
 stack:=envOfC qual scope s.heap.objs.size f cd::outer
 ex:=[]
 calm:=true
 fn:=fun _=>true
 pn:=[]
 xe:=fun e s'=>wpAny (model P w) (A.deeper (envOfC qual scope s.heap.objs.size f cd)) (leaving (envOfC qual scope s.heap.objs.size f cd) e) (fun _ s''=>CX outer H s E e s'') (fun e' s''=>CX outer H s E e' s'') s'
theorem rh{sc:Scope}{n:Nat}{x:Str}(h:sc.names.lookup x=some .cell):∃c,(cellsFrom n sc.names []).lookup x=some c:=by
 have q:=PySem.W.cellsFrom_some sc.names n [] (.inl h)
 exact Option.isSome_iff_exists.mp q
theorem zI{CX:eC}{P:Program}{w:World}{K:Be}{mg:Str->Option Value}{base:Heap}{N ps:List Str}{qual:Str}{scope:Scope}{f:Addr}{cd:Value}{A:Around}{outer:List Env}{s s1:Shared}{H:Hp}{E:XK}{us:List Value}{vs:List V}
  (S:FnScope N ps scope) (hd:A.handled=none) (e0:Env0 P w K mg base A outer s H) (hl:vs.length=ps.length) (r:Vals vs us)
  (x:InCallC s s.heap.objs.size (bindL (envOfC qual scope s.heap.objs.size f cd).kindOf (ps.zip us) fun _=>none) (cellsFrom (s.heap.objs.size+1) scope.names []) (bindC (envOfC qual scope s.heap.objs.size f cd).kindOf (ps.zip us) fun _=>none) s1) :
  Inv (eM CX P w K mg base N qual scope f cd A outer s H E) [] (start N vs) H s1:=by
 have hpl:ps.length<=N.length:=by have:=congrArg List.length S.pre;rw[List.length_take]at this;omega
 obtain⟨h1,tk,rfl,hk⟩:=x.done
 have noA:∀b:Addr,b∉(eM CX P w K mg base N qual scope f cd A outer s H E).ex:=fun b z=>absurd (show b∈([]:List Addr)from z) (by simp)
 refine⟨⟨e0.mod,S.kind,rfl,rfl,BB _,fun y z c h1 h2=>?_,fun y hy=>?_,fun y c _ h=>?_,fun _=>hd,Around.frames_deeper e0.frames,.inr ⟨rfl,rfl⟩,fun b z=>absurd z (noA b),e0.bs,e0.bsz,fun b _ _=>noA b,fun b z=>absurd z (noA b),e0.funs,e0.frf⟩,
  rfl,e0.bare,Un.kept hk,⟨_,x.toInCall.ns,fun i y v h1 h2 h3=>?_⟩,fun y c h=>⟨_,x.cell y c h⟩,e0.hok.fresh (BB _),fun y c h=>?_,fun p hp=>absurd (show p∈([]:List (Addr×Obj))from hp) (by simp),e0.hok.kept hk,?_⟩
 ·exact name_of_addr x.apart (PySem.mem_of_lookup h1) (PySem.mem_of_lookup h2)
 ·have hy:scope.names.lookup y=some .cell\/scope.names.lookup y=some .free:=hy
  rcases hy with hy | hy
  ·exact rh hy
  ·exact absurd rfl (S.nofree _ (PySem.mem_of_lookup hy))
 ·exact Nat.le_of_lt (x.above y c (PySem.mem_of_lookup h))
 ·have hi:i<vs.length:=by
   unfold start at h2
   by_cases hi:i<vs.length
   ·exact hi
   ·rw[BF (by simpa using hi)]at h2
    rw[List.getElem?_replicate]at h2
    split at h2<;>cases h2
  have ha:vs[i]?=some v:=by
   unfold start at h2
   rw[BG (by simpa using hi),Bk]at h2
   cases e:vs[i]? with
   | none=>rw[e]at h2;cases h2
   | some a=>rw[e]at h2;cases h2;rfl
  obtain⟨u,hu,rv⟩:=r.get ha
  have hp:ps[i]?=some y:=by
   rw[←S.pre,List.getElem?_take_of_lt (by omega)];exact h1
  have ndP:ps.Nodup:=by rw[←S.pre];exact S.nd.sublist (List.take_sublist _ _)
  refine⟨u,rv,?_⟩
  rcases S.par y (Br hp)with k | k
  ·exact .inl ⟨k,nk ndP hp hu k⟩
  ·obtain⟨c,e⟩:=rh (n:=s.heap.objs.size+1) k
   refine .inr ⟨.inl k,c,e,?_⟩
   have q:=x.cell y c e
   rw[kG ndP hp hu (by show scope.names.lookup y≠_;rw[k];decide)]at q
   exact q
 ·exact e0.hok.fresh (Nat.le_of_lt (x.above y c (PySem.mem_of_lookup h)))
 ·unfold start
  show _=N.length
  rw[Bz,Bi,List.length_replicate]
  omega
theorem uN{CX:eC}{P:Program}{w:World}{K:Be}{mg:Str->Option Value}{base:Heap}{k:Nat}{f:Addr}{name qual:Str}{params:Arguments}{body:List Stmt}{scope:Scope}{dV kV doc pm cdv ct oc:Value}{an od:Option Addr}
  {osl:Array (Option Value)} {N ps:List Str} {sp:Sp} (lk:K.lookup f=some ⟨oc,od,.func (PySem.W.fnOf name qual params body scope dV kV doc pm an cdv ct),osl⟩) (hcd:PySem.W.codeIn K cdv qual=true) (S:FnScope N ps scope)
  (len:∀vs H Q E,sp vs H Q E->vs.length=ps.length)
  (hbody:∀(A:Around) (outer:List Env) (s:Shared) (H:Hp) (vs:List V) (Q:VK) (E:XK),Room k (A.deeper (envOfC qual scope s.heap.objs.size f cdv))->sp vs H Q E →
   ∃t,bU (eM CX P w K mg base N qual scope f cdv A outer s H E) body t/\t { nx:=fun _ H'=>Q .non H',rt:=Q } (start N vs) H) :
  FnOk P w K mg base CX (k+1) f (PySem.W.fnOf name qual params body scope dV kV doc pm an cdv ct) ps sp:=by
 refine⟨len,fun A outer s H args us vs Q E hr e0 hb r hsp=>?_⟩
 have hl:=len _ _ _ _ hsp
 have KX:K.In s.heap:=e0.mod.kin.keeps fun b o e=>(e0.bs b o e).1
 have lim:s.heap.NoLimit:=e0.mod.nolimit.keeps fun b o e=>(e0.bs b o e).1
 have hkind:∀y∈ps.zip us,scope.names.lookup y.1=some .local\/(scope.names.lookup y.1=some .cell/\((cellsFrom (s.heap.objs.size+1) scope.names []).lookup y.1).isSome=true):=fun⟨n,v⟩ hy=>by
  rcases S.par n (List.of_mem_zip hy).1 with q | q
  ·exact .inl q
  ·exact .inr ⟨q,PySem.W.cellsFrom_some _ _ _ (.inl q)⟩
 refine codeAny_call_function hr.depth (KX _ _ lk) rfl S.co S.gen rfl (PySem.W.codeRec_of KX hcd) (hb _ _ _ _ ?_)
 refine wpAny_newFunctionEnv_cells S.kind hkind fun env he s1 x=>?_
 subst he
 refine⟨lim.keeps x.toInCall.keep,codeAny_func ?_⟩
 obtain⟨t,ht,hq⟩:=hbody A outer s H vs Q E (hr.deeper _) hsp
 have I:Inv (eM CX P w K mg base N qual scope f cdv A outer s H E) [] (start N vs) H s1:=zI S hr.hd e0 hl r x
 refine wpAny_mono (ht [] s1 (start N vs) H _ I hq) (fun fl s' hs=>?_) fun e s' hs=>hs
 have fin:∀{σ':St} {H':Hp} {v:V} {u:Value},Inv (eM CX P w K mg base N qual scope f cdv A outer s H E) [] σ' H' s'->RelV v u->Q v H'->CE outer P w H s Q u s':=
  fun{σ' H' v u} J rv q=>⟨v,H',J.os,J.bare,J.base,J.hok,rv,q⟩
 cases fl with
 | ret u=>
  obtain⟨v,σ',H',J,rv,q⟩:=hs
  exact fin J rv q
 | next=>
  obtain⟨σ',H',J,q⟩:=hs
  exact fin (v:=V.non) (u:=Value.none) J rfl q
 | brk=>
  obtain⟨_,_,_,q⟩:=hs
  exact False.elim q
 | cont=>
  obtain⟨_,_,_,q⟩:=hs
  exact False.elim q
end L2
namespace L2
open PySem PySem.Spec PyProof.Rows
section
variable {X:Cx} {x:Str} {p pos:Pos} {e:Expr} {es:List Expr} {t:TA} {id T:String} {r:List V->Hp->VK->Prop}
def ig(r:List V->Hp->VK->Prop)(t:TA):TE:=fun σ H Q=>t σ H fun vs H1=>r vs H1 Q
theorem bj(hc:cA X (.builtin id) r)(hg:Gl X x)(hm:X.mg x=none)(hv:bootBuiltins x=some (.builtin id))(ha:PA X (e::es) t)(hn:x≠"__name__":=by decide)(hdb:(x == ("__debug__":Str))=false:=by decide)
  (he:starEach (e::es) X.env=(false,eval e X.env)::starEach es X.env:=by rfl) (hpl:(backTo pos (starEach es X.env)).any (·.1)=false:=by rfl):PE X (.Call (.Name x p) (e::es) [] pos) (ig r t):=by
 intro pins s σ H Q I h
 refine wpAny_Call_Name_kw (iT I hg hm hv ?_ hn hdb)
 exact PyProof.Rows.callWith_builtin1 (ah (ha pos pins s σ H _ I h) fun us s1 ⟨vs,H1,I1,r1,q1⟩=>hc pins s1 σ H1 vs us Q I1 r1 q1) he hpl
theorem hZ(hc:cA X (.type T) r)(hg:Gl X x)(hm:X.mg x=none)(hv:bootBuiltins x=some (.type T))(ha:PA X (e::es) t)(hn:x≠"__name__":=by decide)(hdb:(x == ("__debug__":Str))=false:=by decide)
  (he:starEach (e::es) X.env=(false,eval e X.env)::starEach es X.env:=by rfl) (hpl:(backTo pos (starEach es X.env)).any (·.1)=false:=by rfl):PE X (.Call (.Name x p) (e::es) [] pos) (ig r t):=by
 intro pins s σ H Q I h
 refine wpAny_Call_Name_kw (iT I hg hm hv ?_ hn hdb)
 exact PyProof.Rows.callWith_type1 (ah (ha pos pins s σ H _ I h) fun us s1 ⟨vs,H1,I1,r1,q1⟩=>hc pins s1 σ H1 vs us Q I1 r1 q1) he hpl
end
end L2
namespace HT
open PySem PyProof.Rows
section
open PySem.SeqAt
open PySem.AutoSeq1 (wpAny_loadPart')
open PySem.MeetsSeq PySem.MeetsSeq2 PySem.MeetsSeq3
end
section
variable {prog:Program} {w:World} {A:Around} {E:Value->Shared->Prop} {s:Shared}
def cq(n d:Nat):Option Int->Nat
 | none=>d
 | some v=>if v<0 then(v+(n:Int)).toNat else min v.toNat n
theorem oA(n d k:Nat):cq n d (some (k:Int))=min k n:=by
 show(if(k:Int)<0 then((k:Int)+(n:Int)).toNat else min (k:Int).toNat n)=min k n
 rw[if_neg (by omega),Bu]
end
end HT
namespace L2
open PySem PySem.Spec PyProof.Rows
abbrev TO:=St->Hp->(Option Int->Hp->Prop)->Prop
def PO(X:Cx)(e:Option Expr)(t:TO):Prop:=
 ∀(pins:List (Addr×Obj)) (s:Shared) (σ:St) (H:Hp) (Q:Option Int->Hp->Prop),Inv X pins σ H s->t σ H Q →
  wpAny (model X.prog X.w) X.A (evalPart e X.env) (fun u s'=>∃o H',Inv X pins σ H' s'/\IsPart u o/\Q o H') X.xe s
def uz(t:TE):TO:=fun σ H Q=>t σ H fun x H1=>∃i,x=.int i/\Q (some i) H1
section
variable {X:Cx} {e:Expr} {te:TE} {lo hi:Option Expr} {tl th:TO} {pos p2:Pos}
theorem mX(h:PE X e te):PO X (some e) (uz te):=by
 intro pins s σ H Q I hw
 rw[evalPart_some]
 refine ah (h pins s σ H _ I hw) fun u s1 ⟨x,H1,I1,r1,q1⟩=>?_
 obtain⟨i,rfl,q⟩:=q1
 obtain⟨t,rfl⟩:=r1
 exact⟨some i,H1,I1,.int i t,q⟩
def md(X:Cx)(r:V->Option Int->Option Int->Hp->VK->Prop):Prop:=
 ∀(pins:List (Addr×Obj)) (s:Shared) (σ:St) (H:Hp) (x:V) (v vl vu:Value) (lo hi:Option Int) (sl:Addr) (Q:VK),Inv X pins σ H s->RelV x v->s.heap.IsSliceOf sl vl vu .none->IsPart vl lo->IsPart vu hi->r x lo hi H Q →
  ∃T id,typeLookup (.type T) "__getitem__" = pure (some (.builtin id))/\s.TypeIs v T/\wpAny (model X.prog X.w) X.A (getItem v (.ref sl)) (EP X pins σ Q) X.xe s
def qp(r:V->Option Int->Option Int->Hp->VK->Prop)(te:TE)(tl th:TO):TE:=fun σ H Q=>te σ H fun x H1=>tl σ H1 fun l H2=>th σ H2 fun u H3=>r x l u H3 Q
theorem vy{r:V->Option Int->Option Int->Hp->VK->Prop}(hr:md X r)(he:PE X e te)(hl:PO X lo tl)(hu:PO X hi th):PE X (.Subscript e (.Slice lo hi none p2) pos) (qp r te tl th):=by
 intro pins s σ H Q I h
 refine Subscript_ (ah (he pins s σ H _ I h) fun v s1 ⟨x,H1,I1,r1,q1⟩=>?_)
 refine wpAny_Slice (ah (hl pins s1 σ H1 _ I1 q1) fun vl s2 ⟨l,H2,I2,pl,q2⟩=>ah (hu pins s2 σ H2 _ I2 q2) fun vu s3 ⟨u,H3,I3,pu,q3⟩=>?_)
 rw[evalPart_none]
 refine Bd ?_
 have I4:Inv X pins σ H3 { s3 with heap:=s3.heap.push { cls:=.type "slice",data:=.fields #[vl,vu,.none] } }:=I3.kept (t':=s3.toks) fun b ob q=>Bf _ q
 obtain⟨T,id,hT,ht,hg⟩:=hr pins { s3 with heap:=s3.heap.push { cls:=.type "slice",data:=.fields #[vl,vu,.none] } } σ H3 x v vl vu l u s3.heap.objs.size Q I4 r1 (Heap.IsSliceOf.new ..) pl pu q3
 show wpAny (model X.prog X.w) X.A (subscriptTail e (.Slice lo hi none p2) v (.ref s3.heap.objs.size)) (EP X pins σ Q) X.xe { s3 with heap:=s3.heap.push { cls:=.type "slice",data:=.fields #[vl,vu,.none] } }
 exact tail_any (ops:=[.ref s3.heap.objs.size,v]) ht hT hg (by with_unfolding_all rfl)
def fu(xs:List V)(lo hi:Option Int):List V:=(xs.drop (HT.cq xs.length 0 lo)).take (HT.cq xs.length xs.length hi-HT.cq xs.length 0 lo)
theorem zN(xs:List V)(lo hi:Option Int):(fu xs lo hi).length<=xs.length:=by
 unfold fu
 rw[List.length_take,List.length_drop]
 omega
end
end L2
namespace L2
open PySem PySem.Spec PyProof.Rows
def dQ(n:Nat)(i:Int):Option Nat:=if 0<=i then(if i<n then some i.toNat else none)else if -(n:Int)<=i then some (i+n).toNat else none
def br{α:Type}(xs:List α)(i:Int):Option α:=(dQ xs.length i).bind fun j=>xs[j]?
theorem qG{n:Nat}{i:Int}{j:Nat}(h:dQ n i=some j):seqIndex? i n=some j/\j<n/\-(n:Int)<=i/\i<n:=by
 unfold dQ at h
 by_cases h0:0<=i
 ·rw[if_pos h0]at h
  by_cases h1:i<n
  ·rw[if_pos h1]at h
   have e:i.toNat=j:=Option.some.inj h
   exact⟨by rw[seqIndex_of h0 h1,e],by omega,by omega,h1⟩
  ·rw[if_neg h1]at h;cases h
 ·rw[if_neg h0]at h
  by_cases h1:-(n:Int)<=i
  ·rw[if_pos h1]at h
   have e:(i+n).toNat=j:=Option.some.inj h
   exact⟨by rw[seqIndex_neg (by omega) h1,e],by omega,h1,by omega⟩
  ·rw[if_neg h1]at h;cases h
theorem mR{α:Type}{xs:List α}{i:Int}{v:α}(h:br xs i=some v):∃j,seqIndex? i xs.length=some j/\xs[j]?=some v/\j<xs.length/\-(xs.length:Int)<=i/\i<xs.length:=by
 unfold br at h
 cases e:dQ xs.length i with
 | none=>rw[e]at h;cases h
 | some j=>
  rw[e]at h
  obtain⟨h1,h2,h3,h4⟩:=qG e
  exact⟨j,h1,h,h2,h3,h4⟩
theorem eT{α:Type}{xs:List α}{j:Nat}{v:α}(h:xs[j]?=some v):br xs (j:Int)=some v:=by
 have hj:j<xs.length:=(Bq.mp h).1
 have e:dQ xs.length (j:Int)=some j:=by
  unfold dQ
  rw[if_pos (by omega),if_pos (by omega)];simp
 unfold br;rw[e];exact h
def yJ(b:Expr):Prop:=∀o i,subscripted b false o i=operate [o,i] (getItem o i)
def fR(X:Cx)(r:R2):Prop:=
 ∀(value slice:Expr) (pins:List (Addr×Obj)) (s:Shared) (σ:St) (H:Hp) (x y:V) (v u:Value) (Q:VK),Inv X pins σ H s->RelV x v->RelV y u->r x y H Q →
  subscripted slice false v u=operate [v,u] (getItem v u)->wpAny (model X.prog X.w) X.A (subscriptTail value slice v u) (EP X pins σ Q) X.xe s
def iW(X:Cx)(id:String)(r:V->List V->Hp->VK->Prop):Prop:=
 ∀(pins:List (Addr×Obj)) (s:Shared) (σ:St) (H:Hp) (x:V) (xs:List V) (v:Value) (us:List Value) (Q:VK),Inv X pins σ H s->RelV x v->Vals xs us->r x xs H Q →
  wpAny (model X.prog X.w) X.A (call (.builtin id) (v::us)) (EP X pins σ Q) X.xe s
section
variable {X:Cx} {a b:Expr} {ta tb:TE} {pos:Pos}
theorem ai{r:R2}(hr:fR X r)(ha:PE X a ta)(hb:PE X b tb)(hs:yJ b):PE X (.Subscript a b pos) (gj r ta tb):=by
 intro pins s σ H Q I h
 exact Subscript_ (m3 ha hb I h fun v u s2 x y H2 I2 rx ry q=>hr a b pins s2 σ H2 x y v u Q I2 rx ry q (hs _ _))
def mG(K:Be):R2:=fun x y H Q=>∃p xs i v,x=.ref p/\y=.int i/\ag K H p xs/\br xs i=some v/\Q v H
def kq(K:Be):R2:=fun x y H Q=>∃p xs i v,x=.ref p/\y=.int i/\ao K H p xs/\br xs i=some v/\Q v H
def vJ:R2:=fun x y H Q=>∃z i c,x=.str z/\y=.int i/\z.length<=sizeLine/\br z.cps.toList i=some c/\Q (.str ⟨#[c]⟩) H
theorem yC:fR X (mG X.K):=by
 intro value slice pins s σ H x y v u Q I rx ry h hs
 obtain⟨p,xs,i,z,rfl,rfl,hq,he,q⟩:=h
 cases rx
 obtain⟨t,rfl⟩:=ry
 obtain⟨its,r,pl,hz⟩:=I.list hq
 obtain⟨j,h1,h2,h3,h4,h5⟩:=mR he
 obtain⟨w,ew,rw'⟩:=r.get h2
 have hl:=r.length
 have hn:=gy
 have fin:EP X pins σ Q w s:=⟨z,H,I,rw',q⟩
 by_cases h0:0<=i
 ·have hj:i.toNat=j:=by
   rw[seqIndex_of h0 h5]at h1
   exact Option.some.inj h1
  exact item_listR pl.isList h0 (by omega) (by rw[hj];simpa using ew) fin hs
 ·have hj:(i+(its.toArray.size:Int)).toNat=j:=by
   rw[seqIndex_neg (by omega) h4]at h1
   rw[Bn,←hl]
   exact Option.some.inj h1
  exact subscriptTail_builtinR (x:=w) pl.isList.typeIs slot_list_getitem.lookup
   (wpAny_getItem_list_neg (Q:=fun r s'=>r=w/\EP X pins σ Q r s') pl.isList (by omega) (by rw[Bn]<;>omega) (by omega) (by rw[hj];simpa using ew) ⟨rfl,fin⟩) hs
theorem y6:fR X (kq X.K):=by
 intro value slice pins s σ H x y v u Q I rx ry h hs
 obtain⟨p,xs,i,z,rfl,rfl,hq,he,q⟩:=h
 cases rx
 obtain⟨t,rfl⟩:=ry
 obtain⟨its,r,pl,hz⟩:=I.tuple hq
 obtain⟨j,h1,h2,h3,h4,h5⟩:=mR he
 obtain⟨w,ew,rw'⟩:=r.get h2
 have hl:=r.length
 have hn:=gy
 have fin:EP X pins σ Q w s:=⟨z,H,I,rw',q⟩
 exact subscriptTail_builtinR (x:=w) pl.typeIs slot_tuple_getitem.lookup
  (getItem_tuple (j:=j) (Q:=fun r s'=>r=w/\EP X pins σ Q r s') pl (by omega) (by omega) (by rw[Bn,←hl];exact h1) (by simpa using ew) ⟨rfl,fin⟩) hs
theorem sk:fR X vJ:=by
 intro value slice pins s σ H x y v u Q I rx ry h hs
 obtain⟨z,i,c,rfl,rfl,hz,he,q⟩:=h
 obtain⟨t,rfl⟩:=rx
 obtain⟨t',rfl⟩:=ry
 obtain⟨j,h1,h2,h3,h4,h5⟩:=mR he
 have hl:z.cps.toList.length=z.length:=by simp[Str.length]
 rw[hl]at h1 h4 h5
 have hn:=gy
 exact tail_any (typeIs_str s z t) slot_str_getitem.lookup (getItem_str (c:=c) (by
  have e1:decide (i < -(2 ^ 63:Int))=false:=decide_eq_false (by omega)
  have e2:decide (i ≥ 2 ^ 63)=false:=decide_eq_false (by omega)
  rw[e1,e2,Bool.or_false]) (by rw[h1];simpa using h2) ⟨.str ⟨#[c]⟩,H,I.tok _,⟨_,rfl⟩,q⟩) hs
theorem xV(its:List Value)(n j:Nat)(u:Value):Obj.mapSeq (·.setIfInBounds j u) { cls:=.type "list",data:=.seq its.toArray n }={ cls:=.type "list",data:=.seq (its.set j u).toArray n }:=by
 simp[Obj.mapSeq]
theorem Inv.lst{pins:List (Addr×Obj)}{σ:St}{H:Hp}{s:Shared}{p:Addr}{xs:List V}(I:Inv X pins σ H s)(h:H p=some (.lst xs)):
  ∃(its:List Value) (n:Nat),Vals xs its/\s.heap.get? p=some { cls:=.type "list",data:=.seq its.toArray n }/\xs.length<=sizeLine:=by
 obtain⟨z,its,n,r,e⟩:=I.hok p _ h
 exact⟨its,n,r,e,z⟩
theorem Inv.lstUpd{pins:List (Addr×Obj)}{σ:St}{H:Hp}{s:Shared}{p:Addr}{xs ys:List V}{its its':List Value}{n n':Nat}{f:Obj->Obj}(I:Inv X pins σ H s)(h:H p=some (.lst xs))
  (ho:s.heap.get? p=some { cls:=.type "list",data:=.seq its.toArray n }) (hf:f { cls:=.type "list",data:=.seq its.toArray n }={ cls:=.type "list",data:=.seq its'.toArray n' }) (r:Vals ys its') (hz:ys.length<=sizeLine) (t:Nat) :
  Inv X pins σ (upd H p (.lst ys)) { s with heap:=s.heap.update p f,toks:=t }:=by
 have e:(s.heap.update p f).get? p=some { cls:=.type "list",data:=.seq its'.toArray n' }:=by
  rw[Heap.get?_update_self f ho (by rw[hf]<;>rfl),hf]
 refine I.write (x:=p) (e:=p) (by rw[h];trivial) (.inl rfl) (fun b u hb q=>(Heap.get?_update_other _ _ (Ne.symm hb)).trans q) ⟨_,e⟩ ?_
 exact⟨hz,its',n',r,e⟩
def tV:V->V->V->Hp->(Hp->Prop)->Prop:=fun o i v H Q=>∃p xs k j,o=.ref p/\i=.int k/\H p=some (.lst xs)/\dQ xs.length k=some j/\Q (upd H p (.lst (xs.set j v)))
theorem set_list:su X tV:=by
 intro pins s σ H o i v ov iv u Q I ro ri rv h
 obtain⟨p,xs,k,j,rfl,rfl,hp,hj,q⟩:=h
 cases ro
 obtain⟨t,rfl⟩:=ri
 obtain⟨its,n,r,ho,hz⟩:=I.lst hp
 obtain⟨h1,h2,h3,h4⟩:=qG hj
 have hl:=r.length
 have hn:=gy
 have I':Inv X pins σ (upd H p (.lst (xs.set j v))) { s with heap:=s.heap.update p (Obj.mapSeq (·.setIfInBounds j u)) }:=
  I.lstUpd hp ho (xV its n j u) (r.set rv j) (by rw[List.length_set];exact hz) s.toks
 by_cases h0:0<=k
 ·have hk:k.toNat=j:=by
   rw[seqIndex_of h0 h4]at h1
   exact Option.some.inj h1
  exact PySem.W.ki_setAt ho h0 (by omega) (by rw[Bn,←hl];exact h4) (by rw[hk];exact⟨_,I',q⟩)
 ·have hk:(k+(its.toArray.size:Int)).toNat=j:=by
   rw[seqIndex_neg (by omega) h3]at h1
   rw[Bn,←hl]
   exact Option.some.inj h1
  exact PySem.W.ki_setBack ho (by omega) (by rw[Bn,←hl];exact h3) (by omega) (by rw[hk];exact⟨_,I',q⟩)
theorem zL(lo hi:Option Int)(n:Nat):(sliceBounds lo hi none n).1=((HT.cq n 0 lo:Nat):Int)/\(sliceBounds lo hi none n).2.1=((HT.cq n n hi:Nat):Int)/\(sliceBounds lo hi none n).2.2=1:=by
 refine⟨?_,?_,rfl⟩
 ·cases lo with
  | none=>simp[sliceBounds,HT.cq]
  | some i=>
   simp only[sliceBounds,HT.cq,Option.getD_none,show (1:Int)>0 by decide,if_true]
   by_cases h:i<0
   ·simp only[h,if_true]<;>omega
   ·simp only[h,if_false]<;>omega
 ·cases hi with
  | none=>simp[sliceBounds,HT.cq]
  | some i=>
   simp only[sliceBounds,HT.cq,Option.getD_none,show (1:Int)>0 by decide,if_true]
   by_cases h:i<0
   ·simp only[h,if_true]<;>omega
   ·simp only[h,if_false]<;>omega
theorem zW(its:List Value)(lo hi:Option Int):slicePick its.toArray lo hi none=((its.drop (HT.cq its.length 0 lo)).take (HT.cq its.length its.length hi-HT.cq its.length 0 lo)).toArray:=by
 obtain⟨h1,h2,h3⟩:=zL lo hi its.toArray.size
 unfold slicePick
 rw[h1,h2,h3]
 simp only[sliceRange_one,pick_run,Bn]<;>rfl
def kO(K:Be):V->Option Int->Option Int->Hp->VK->Prop:=fun x lo hi H Q=>∃a xs,x=.ref a/\ag K H a xs/\∀p,H p=none->Q (.ref p) (upd H p (.lst (fu xs lo hi)))
theorem vc:md X (kO X.K):=by
 intro pins s σ H x v vl vu lo hi sl Q I rx hs pl pu h
 obtain⟨a,xs,rfl,hx,q⟩:=h
 cases rx
 obtain⟨its,r,ht,hz⟩:=I.list hx
 have hlen:=r.length
 refine⟨"list",_,slot_list_getitem.lookup,ht.isList.typeIs,?_⟩
 refine wpAny_getItem_list_slice ht.isList hs pl pu .none (by simp) ?_ (by rw[Bn]<;>omega)
 rw[zW,←hlen]
 refine⟨.ref s.heap.objs.size,_,I.laid (t':=s.toks) (o:=.lst (fu xs lo hi)) (fun b ob q=>Bf _ q) (BB _) ?_,rfl,q _ (I.hok.fresh (BB _))⟩
 exact⟨BL (zN xs lo hi) hz,_,0,(r.drop (HT.cq xs.length 0 lo)).take (HT.cq xs.length xs.length hi-HT.cq xs.length 0 lo),Bg _ rfl⟩
def dX:V->Bool
 | .non=>true
 | .bl _=>true
 | .int _=>true
 | .str _=>true
 | _=>false
def eZ:V->V->Bool
 | .non,.non=>true
 | .bl a,.bl b=>a == b
 | .bl a,.int b=>(if a then 1 else 0) == b
 | .int a,.bl b=>a == (if b then 1 else 0)
 | .int a,.int b=>a == b
 | .str a,.str b=>a == b
 | _,_=>false
theorem we{A:Around}{s:Shared}{y x:V}{u v:Value}(ry:RelV y u)(rx:RelV x v)(fy:dX y=true)(fx:dX x=true):SeqAt.EqAt A s u v (eZ y x):=by
 cases y with
 | non=>
  cases ry
  cases x with
  | non=>cases rx;exact SeqAt.EqAt.same _
  | bl b=>cases rx;exact SeqAt.EqAt.none_bool b
  | int b=>obtain⟨t,rfl⟩:=rx;exact SeqAt.EqAt.none_int b t
  | str b=>obtain⟨t,rfl⟩:=rx;exact SeqAt.EqAt.none_str b t
  | _=>exact absurd (show false=true from fx) Bx
 | bl a=>
  cases ry
  cases x with
  | non=>cases rx;exact SeqAt.EqAt.bool_none a
  | bl b=>cases rx;exact SeqAt.EqAt.bool_bool a b
  | int b=>obtain⟨t,rfl⟩:=rx;exact SeqAt.EqAt.bool_int a b t
  | str b=>obtain⟨t,rfl⟩:=rx;exact SeqAt.EqAt.bool_str a b t
  | _=>exact absurd (show false=true from fx) Bx
 | int a=>
  obtain⟨t',rfl⟩:=ry
  cases x with
  | non=>cases rx;exact SeqAt.EqAt.int_none a t'
  | bl b=>cases rx;exact SeqAt.EqAt.int_bool a t' b
  | int b=>obtain⟨t,rfl⟩:=rx;exact SeqAt.EqAt.int_int a t' b t
  | str b=>obtain⟨t,rfl⟩:=rx;exact SeqAt.EqAt.int_str a t' b t
  | _=>exact absurd (show false=true from fx) Bx
 | str a=>
  obtain⟨t',rfl⟩:=ry
  cases x with
  | non=>cases rx;exact SeqAt.EqAt.str_none a t'
  | bl b=>cases rx;exact SeqAt.EqAt.str_bool a t' b
  | int b=>obtain⟨t,rfl⟩:=rx;exact SeqAt.EqAt.str_int a t' b t
  | str b=>obtain⟨t,rfl⟩:=rx;exact SeqAt.EqAt.str_str a t' b t
  | _=>exact absurd (show false=true from fx) Bx
 | _=>exact absurd (show false=true from fy) Bx
def eo(x:V)(u:Value):Bool:=match u with
 | .none=>eZ .non x
 | .bool b=>eZ (.bl b) x
 | .int i _=>eZ (.int i) x
 | .str z _=>eZ (.str z) x
 | _=>false
theorem pQ{x y:V}{u:Value}(r:RelV y u)(f:dX y=true):eo x u=eZ y x:=by
 cases y with
 | non=>cases r;rfl
 | bl b=>cases r;rfl
 | int i=>obtain⟨t,rfl⟩:=r;rfl
 | str z=>obtain⟨t,rfl⟩:=r;rfl
 | _=>exact absurd (show false=true from f) Bx
theorem ny{x:V}:∀{xs:List V} {us:List Value},Vals xs us->xs.all dX=true->us.any (eo x)=xs.any fun y=>eZ y x
 | _,_,.nil,_=>rfl
 | y::xs,u::us,.cons r t,f=>by
  rw[List.all_cons,BQ]at f
  rw[List.any_cons,List.any_cons,pQ r f.1,ny t f.2]
theorem mE{A:Around}{s:Shared}{x:V}{v:Value}(rx:RelV x v)(fx:dX x=true):∀{xs:List V} {us:List Value},Vals xs us->xs.all dX=true->∀u∈us,SeqAt.EqAt A s u v (eo x u)
 | _,_,.nil,_=>fun u hu=>by cases hu
 | y::xs,u::us,.cons r t,f=>fun u' hu=>by
  rw[List.all_cons,BQ]at f
  rcases Bw.mp hu with rfl | hu
  ·rw[pQ r f.1];exact we r rx f.1 fx
  ·exact mE rx fx t f.2 u' hu
def fX(x:V)(xs:List V):Bool:=xs.any fun y=>eZ y x
def lQ(K:Be)(neg:Bool):R2:=fun x y H Q=>∃p xs,y=.ref p/\(ag K H p xs\/ao K H p xs)/\dX x=true/\xs.all dX=true/\Q (.bl (if neg then !fX x xs else fX x xs)) H
theorem xW:bp X (compareOp .In) (lQ X.K false):=by
 intro pins s σ H x y v u Q I rx ry h
 obtain⟨p,xs,rfl,hq,fx,fs,q⟩:=h
 cases ry
 rcases hq with hq | hq
 ·obtain⟨its,r,pl,hz⟩:=I.list hq
  refine SeqAt.in_listAt (eo x) pl.isList (fun w hw=>mE rx fx r fs w (by simpa using hw)) ⟨.bl _,H,I,rfl,?_⟩
  rw[show its.toArray.any (eo x)=its.any (eo x) by simp,ny r fs]
  exact q
 ·obtain⟨its,r,pl,hz⟩:=I.tuple hq
  refine SeqAt.in_tupleAt (eo x) pl (fun w hw=>mE rx fx r fs w (by simpa using hw)) ⟨.bl _,H,I,rfl,?_⟩
  rw[show its.toArray.any (eo x)=its.any (eo x) by simp,ny r fs]
  exact q
theorem A7:cA X (.builtin "len") (fun xs H Q=>∃p ys,xs=[.ref p]/\(ag X.K H p ys\/ao X.K H p ys)/\Q (.int ys.length) H):=by
 intro pins s σ H xs us Q I r h
 obtain⟨p,ys,rfl,hq,q⟩:=h
 obtain⟨u,rfl,rx⟩:=vals1 r
 cases rx
 have hn:=gy
 rcases hq with hq | hq
 ·obtain⟨its,r',pl,hz⟩:=I.list hq
  have hlen:=r'.length
  exact Calls.call_len_list pl.isList (by simp only[Bn]<;>omega) ⟨.int ys.length,H,I.tok _,⟨s.toks+1,by rw[Bn,hlen]⟩,q⟩
 ·obtain⟨its,r',pl,hz⟩:=I.tuple hq
  have hlen:=r'.length
  exact len_tuple pl (by simp only[Bn]<;>omega) ⟨.int ys.length,H,I.tok _,⟨s.toks+1,by rw[Bn,hlen]⟩,q⟩
theorem zC:cA X (.builtin "len") (fun xs H Q=>∃z,xs=[.str z]/\z.length<=sizeLine/\Q (.int z.length) H):=by
 intro pins s σ H xs us Q I r h
 obtain⟨z,rfl,hz,q⟩:=h
 obtain⟨u,rfl,t,rfl⟩:=vals1 r
 have hn:=gy
 exact len_str (by omega) ⟨.int z.length,H,I.tok _,⟨_,rfl⟩,q⟩
theorem Aa:cA X (.type "tuple") (fun xs H Q=>∃p ys,xs=[.ref p]/\((ag X.K H p ys/\∀l,H l=none->Q (.ref l) (upd H l (.tup ys)))\/(ao X.K H p ys/\Q (.ref p) H))):=by
 intro pins s σ H xs us Q I r h
 obtain⟨p,ys,rfl,h⟩:=h
 obtain⟨u,rfl,rx⟩:=vals1 r
 cases rx
 rcases h with⟨hq,q⟩ | ⟨hq,q⟩
 ·obtain⟨its,r',pl,hz⟩:=I.list hq
  have hlen:=r'.length
  refine call_tuple_list pl.isList (fun h' kp=>?_) (by simp only[Bn]<;>omega)
  have I1:Inv X pins σ H { s with heap:=h' }:=I.kept (t':=s.toks) kp
  have I2:Inv X pins σ (upd H h'.objs.size (.tup ys)) { s with heap:=h'.push { cls:=.type "tuple",data:=.seq its.toArray } }:=
   I1.laid (t':=s.toks) (fun b o e=>Bf _ e) (BB _) (show bh X.prog X.w _ _ _ (.tup ys)from⟨hz,its,r',IsTup.new _ _⟩)
  exact⟨.ref h'.objs.size,_,I2,rfl,q _ (I1.hok.fresh (BB _))⟩
 ·obtain⟨its,r',pl,hz⟩:=I.tuple hq
  exact call_tuple_same pl ⟨.ref p,H,I,rfl,q⟩
def fN(K:Be)(T:String)(x:V)(H:Hp):Prop:=match x with
 | .str _=>T = "str"
 | .int _=>T = "int"
 | .ref p=>(T = "list"/\∃xs,ag K H p xs)\/(T = "tuple"/\∃o,K.lookup p=some o/\o.cls=.type "tuple"/\o.dict=none) ∨
   (T = "dict"/\((∃kvs,H p=some (.dK kvs))\/∃kvs,H p=some (.dT kvs)))\/(T = "set"/\∃S n,H p=some (.set S n))
 | _=>False
theorem rL{pins:List (Addr×Obj)}{σ:St}{H:Hp}{s:Shared}{T:String}{x:V}{v:Value}(I:Inv X pins σ H s)(r:RelV x v)(ty:fN X.K T x H):
  s.TypeIs v T/\∀a,v=.ref a->∃ob,s.heap.get? a=some ob/\ob.dict=none:=by
 cases x with
 | str z=>
  obtain⟨t,rfl⟩:=r
  cases(show T = "str" from ty)
  exact⟨typeIs_str s z t,fun _ e=>nomatch e⟩
 | int i=>
  obtain⟨t,rfl⟩:=r
  cases(show T = "int" from ty)
  exact⟨typeIs_int s i t,fun _ e=>nomatch e⟩
 | ref p=>
  cases r
  rcases ty with⟨rfl,xs,hq⟩ | ⟨rfl,o,hk,hc,hd⟩ | ⟨rfl,hk⟩ | ⟨rfl,S,n,hk⟩
  ·obtain⟨its,_,pl,_⟩:=I.list hq
   refine⟨pl.isList.typeIs,fun a e=>?_⟩
   cases e
   obtain⟨o,n,e,c,hd,_⟩:=pl
   exact⟨o,e,hd⟩
  ·refine⟨⟨o,I.kIn p o hk,hc⟩,fun a e=>?_⟩
   cases e
   exact⟨o,I.kIn _ o hk,hd⟩
  ·have z:∃o,s.heap.get? p=some o/\o.ExactDict:=by
    rcases hk with⟨kvs,hk⟩ | ⟨kvs,hk⟩
    ·obtain⟨_,_,_,_,o,_,_,e,ex,_⟩:=I.hok p _ hk
     exact⟨o,e,ex⟩
    ·obtain⟨_,_,_,_,o,_,_,e,ex,_⟩:=I.hok p _ hk
     exact⟨o,e,ex⟩
   obtain⟨o,e,ex⟩:=z
   refine⟨⟨o,e,ex.1⟩,fun a e2=>?_⟩
   cases e2
   exact⟨o,e,ex.2.1⟩
  ·obtain⟨o,_,_,_,e,ex,_⟩:=I.hok p _ hk
   refine⟨⟨o,e,ex.1⟩,fun a e2=>?_⟩
   cases e2
   exact⟨o,e,ex.2.1⟩
 | _=>exact False.elim ty
def ke(K:Be)(T:String)(r:V->List V->Hp->VK->Prop)(to:TE):TE:=fun σ H Q=>to σ H fun x H1=>fN K T x H1/\r x [] H1 Q
def kU(K:Be)(T:String)(r:V->List V->Hp->VK->Prop)(to:TE)(t:TA):TE:=fun σ H Q=>to σ H fun x H1=>fN K T x H1/\t σ H1 fun xs H2=>r x xs H2 Q
variable {o e:Expr} {es:List Expr} {to:TE} {t:TA} {name:Str} {apos cpos:Pos} {T id:String} {r:V->List V->Hp->VK->Prop}
theorem wg(pa:PlainAttrs T)(slot:Slot T name id)(hty:typeOf (.builtin id)=pure (.type "method_descriptor"))(hm:iW X id r)(ho:PE X o to)
  (hbase:attributeBase o name X.env (eval o X.env)=eval o X.env:=by rfl) (hline:(apos.endLine == cpos.line)=true:=by rfl):PE X (.Call (.Attribute o name apos) [] [] cpos) (ke X.K T r to):=by
 intro pins s σ H Q I h
 refine wpAny_Call_method0_late hbase hline (ah (ho pins s σ H _ I h) fun v s1 ⟨x,H1,I1,r1,ty,q1⟩=>?_)
 obtain⟨h1,h2⟩:=rL I1 r1 ty
 exact⟨T,id,pa,slot,hty,h1,h2,Calls.callWith_builtin rfl (PySem.evalArgs_none (hm pins s1 σ H1 x [] v [] Q I1 r1 .nil q1))⟩
theorem y9(pa:PlainAttrs T)(slot:Slot T name id)(hty:typeOf (.builtin id)=pure (.type "method_descriptor"))(hm:iW X id r)(ho:PE X o to)(ha:PA X (e::es) t)
  (hbase:attributeBase o name X.env (eval o X.env)=eval o X.env:=by rfl)
  (hfew:((backTo cpos (starEach (e::es) X.env)).all (fun x=>!x.1) && (backToKw cpos (keywordEach [] X.env)).all (fun x=>x.1.isSome)
   && decide ((e::es).length+([]:List Keyword).length+(if([]:List Keyword).isEmpty then 0 else 1)<30))=true:=by rfl)
  (hline:(apos.endLine == cpos.line)=true:=by rfl) (hs:starEach (e::es) X.env=(false,eval e X.env)::starEach es X.env:=by rfl) (hplain:(backTo cpos (starEach es X.env)).any (·.1)=false:=by rfl) :
  PE X (.Call (.Attribute o name apos) (e::es) [] cpos) (kU X.K T r to t):=by
 intro pins s σ H Q I h
 refine wpAny_Call_method_late hbase hfew hline rfl (ah (ho pins s σ H _ I h) fun v s1 ⟨x,H1,I1,r1,ty,q1⟩=>?_)
 obtain⟨h1,h2⟩:=rL I1 r1 ty
 refine⟨T,id,pa,slot,hty,h1,h2,?_⟩
 have hA:=ha cpos pins s1 σ H1 _ I1 q1
 rw[hs]at hA ⊢
 refine Calls.callWith_builtin (by show(false || (backTo cpos (starEach es X.env)).any (·.1))=false;rw[hplain]<;>rfl) (Calls.evalArgs_plain ?_)
 exact ah hA fun us s2 ⟨vs,H2,I2,r2,q2⟩=>hm pins s2 σ H2 x vs v us Q I2 r1 r2 q2
end
end L2
namespace L2
open PySem PySem.Spec PyProof.Rows
def jS(X:Cx)(id:String)(r:V->List V->Hp->VK->Prop):Prop:=
 ∀(pins:List (Addr×Obj)) (s:Shared) (σ:St) (H:Hp) (x:V) (xs:List V) (v:Value) (us:List Value) (Q:VK),Inv X pins σ H s->RelV x v->Vals xs us->r x xs H Q →
  wpAny (model X.prog X.w) X.A (call (.builtin id) (v::us)) (EP X pins σ Q) X.xe s
theorem Vals.one:∀{x:V} {us:List Value},Vals [x] us->∃u,us=[u]/\RelV x u:=vals1
theorem Vals.two:∀{x y:V} {us:List Value},Vals [x,y] us->∃u v,us=[u,v]/\RelV x u/\RelV y v:=vals2
theorem Vals.zero:∀{us:List Value},Vals [] us->us=[]
 | _,.nil=>rfl
theorem Vals.dropLast{xs:List V}{us:List Value}(h:Vals xs us):Vals xs.dropLast us.dropLast:=by
 induction h with
 | nil=>exact .nil
 | cons r t ih=>
  cases t with
  | nil=>exact .nil
  | cons q t'=>exact .cons r ih
theorem Vals.rep{xs:List V}{us:List Value}(h:Vals xs us):∀k:Nat,Vals (List.replicate k xs).flatten (List.replicate k us).flatten
 | 0=>.nil
 | k+1=>by
  rw[List.replicate_succ,List.replicate_succ,List.flatten_cons,List.flatten_cons]
  exact Vals.append h (Vals.rep h k)
theorem Ay{α:Type}(l:List α):l.eraseIdx (l.length-1)=l.dropLast:=by
 induction l with
 | nil=>rfl
 | cons a r ih=>
  cases r with
  | nil=>rfl
  | cons b r=>
   have e:(a::b::r).length-1=((b::r).length-1)+1:=by
    have h1:(a::b::r).length=r.length+2:=rfl
    have h2:(b::r).length=r.length+1:=rfl
    omega
   rw[e,List.eraseIdx_cons_succ,ih]
   all_goals rfl
theorem foldl_rep(its:List Value):∀(k:Nat) (acc:List Value),
  List.foldl (fun x1 x2=>x1++x2) acc.toArray (List.replicate k its.toArray)=(acc++(List.replicate k its).flatten).toArray
 | 0,acc=>by simp
 | k+1,acc=>by
  have e:acc.toArray++its.toArray=(acc++its).toArray:=by simp
  have e2:(acc++its)++(List.replicate k its).flatten=acc++(List.replicate (k+1) its).flatten:=by
   rw[List.replicate_succ,List.flatten_cons,List.append_assoc]
  rw[←e2,←foldl_rep its k (acc++its),←e,List.replicate_succ,List.foldl_cons]
section
variable {X:Cx} {pins:List (Addr×Obj)} {σ:St} {H:Hp} {s:Shared} {l b:Addr} {xs ys zs:List V}
theorem Inv.lset{its its':List Value}{n:Nat}{f:Array Value->Array Value}{t':Nat}(I:Inv X pins σ H s)(hH:H l=some (.lst xs))
  (e:s.heap.get? l=some { cls:=.type "list",data:=.seq its.toArray n }) (hf:f its.toArray=its'.toArray) (hv:Vals ys its') (hz:ys.length<=sizeLine) :
  Inv X pins σ (upd H l (.lst ys)) { s with heap:=s.heap.update l (Obj.mapSeq f),toks:=t' }:=by
 have q:=PySem.IsL.update e f
 rw[hf]at q
 refine I.write (x:=l) (e:=l) (by rw[hH];exact trivial) (.inl rfl) (fun b' u hb hu=>(Heap.get?_update_other s.heap (Obj.mapSeq f) (Ne.symm hb)).trans hu) ⟨_,q⟩ ?_
 exact⟨hz,its',_,hv,q⟩
theorem Inv.lnew{its:List Value}{t':Nat}(I:Inv X pins σ H s)(hv:Vals ys its)(hz:ys.length<=sizeLine):
  Inv X pins σ (upd H s.heap.objs.size (.lst ys)) { s with heap:=s.heap.push { cls:=.type "list",data:=.seq its.toArray },toks:=t' }:=
 I.laid (fun _ _ q=>Bf _ q) (BB _) ⟨hz,its,0,hv,Bg _ rfl⟩
theorem Inv.fresh(I:Inv X pins σ H s):H s.heap.objs.size=none:=I.hok.fresh (BB _)
theorem Inv.lstM(I:Inv X pins σ H s)(hH:H l=some (.lst xs)):xs.length<=sizeLine/\∃(its:List Value) (n:Nat),Vals xs its/\xs.length=its.length/\s.heap.get? l=some { cls:=.type "list",data:=.seq its.toArray n }:=by
 obtain⟨z,its,n,r,e⟩:=I.hok l _ hH
 exact⟨z,its,n,r,r.length,e⟩
theorem uh{n:Nat}(h:n<=sizeLine):Builtin.List.listTooLong n=false:=by
 unfold Builtin.List.listTooLong
 exact decide_eq_false (by omega)
end
section
variable {X:Cx}
def tp:V->List V->Hp->VK->Prop:=fun x vs H Q=>∃l xs y,x=.ref l/\vs=[y]/\H l=some (.lst xs)/\xs.length<sizeLine/\Q .non (upd H l (.lst (xs++[y])))
theorem bS:jS X "list.append" tp:=by
 intro pins s σ H x vs v us Q I rx rv h
 obtain⟨l,xs,y,rfl,rfl,hH,hz,q⟩:=h
 cases rx
 obtain⟨u,rfl,ru⟩:=rv.one
 obtain⟨z,its,n,r,hl,e⟩:=I.lstM hH
 refine call_meets F.slot_list_append ⟨_,e,rfl⟩ F.entry_list_append (F.args_list_append_2 _ _) (PySem.list_append l its.toArray n u (by rw[Bn];omega)) ⟨e,?_⟩
 refine⟨.non,_,I.lset (its':=its++[u]) hH e (by simp) (r.append (.cons ru .nil)) ?_,rfl,q⟩
 rw[Bz,List.length_singleton]
 omega
def v9:V->List V->Hp->VK->Prop:=fun x vs H Q=>∃l b xs zs,x=.ref l/\vs=[.ref b]/\H l=some (.lst xs)/\H b=some (.lst zs)/\xs.length+zs.length<=sizeLine/\Q .non (upd H l (.lst (xs++zs)))
theorem AB:jS X "list.extend" v9:=by
 intro pins s σ H x vs v us Q I rx rv h
 obtain⟨l,b,xs,zs,rfl,rfl,hH,hB,hz,q⟩:=h
 cases rx
 obtain⟨u,rfl,ru⟩:=rv.one
 cases ru
 obtain⟨z,its,n,r,hl,e⟩:=I.lstM hH
 obtain⟨z2,its2,n2,r2,hl2,e2⟩:=I.lstM hB
 have hsz:its.toArray.size+its2.toArray.size<=sizeLine:=by rw[Bn,Bn];omega
 have hlong:¬(!its.toArray.isEmpty && Builtin.List.listTooLong (its.toArray.size+its2.toArray.size))=true:=by
  rw[uh hsz,Bool.and_false]
  exact Bx
 refine call_meets F.slot_list_extend ⟨_,e,rfl⟩ F.entry_list_extend (F.args_list_extend_2 _ _)
  (AutoSeq1.list_extend_list_list_0 l its.toArray n b its2.toArray n2 hlong (by rw[Bn];omega) (by omega)) ⟨e,e2,?_⟩
 refine⟨.non,_,I.lset (its':=its++its2) hH e (by simp) (r.append r2) ?_,rfl,q⟩
 rw[Bz]
 omega
def xH:V->List V->Hp->VK->Prop:=fun x vs H Q=>∃l xs y,x=.ref l/\vs=[]/\H l=some (.lst xs)/\xs[xs.length-1]?=some y/\Q y (upd H l (.lst xs.dropLast))
theorem zE:jS X "list.pop" xH:=by
 intro pins s σ H x vs v us Q I rx rv h
 obtain⟨l,xs,y,rfl,rfl,hH,hy,q⟩:=h
 cases rx
 have hus:=rv.zero
 subst hus
 obtain⟨z,its,n,r,hl,e⟩:=I.lstM hH
 obtain⟨u,hu,ru⟩:=r.get hy
 have hy':its.toArray[its.toArray.size-1]?=some u:=by
  show its.toArray[its.length-1]?=some u
  rw[←Array.getElem?_toList,←hl]
  exact hu
 refine call_meets F.slot_list_pop ⟨_,e,rfl⟩ F.entry_list_pop (F.args_list_pop_1 _) (MeetsSeq.list_pop_last l its.toArray n u hy' (by rw[Bn];omega)) ⟨e,?_⟩
 refine⟨y,_,I.lset (its':=its.dropLast) hH e ?_ r.dropLast ?_,ru,q⟩
 ·show its.toArray.eraseIdxIfInBounds (its.toArray.size-1)=its.dropLast.toArray
  rw[Bn,List.eraseIdxIfInBounds_toArray,Ay]
 ·rw[List.length_dropLast]
  omega
def kx:R2:=fun x y H Q=>∃l b xs zs,x=.ref l/\y=.ref b/\H l=some (.lst xs)/\H b=some (.lst zs)/\xs.length+zs.length<=sizeLine/\∀p,H p=none->Q (.ref p) (upd H p (.lst (xs++zs)))
theorem lC:bp X (binaryOp .Add) kx:=by
 intro pins s σ H x y v u Q I rx ry h
 obtain⟨l,b,xs,zs,rfl,rfl,hH,hB,hz,q⟩:=h
 cases rx
 cases ry
 obtain⟨z,its,n,r,hl,e⟩:=I.lstM hH
 obtain⟨z2,its2,n2,r2,hl2,e2⟩:=I.lstM hB
 refine PySem.P.add_list e e2 ?_ (by rw[Bn,Bn];omega)
 have ea:its.toArray++its2.toArray=(its++its2).toArray:=by simp
 rw[ea]
 exact⟨.ref _,_,I.lnew (t':=s.toks) (r.append r2) (by rw[Bz];omega),rfl,q _ I.fresh⟩
def uk:R2:=fun x y H Q=>∃l k xs,x=.ref l/\y=.int k/\H l=some (.lst xs)/\-(2 ^ 63)<=k/\k<2 ^ 63/\xs.length*k.toNat<=sizeLine ∧
 ∀p,H p=none->Q (.ref p) (upd H p (.lst (List.replicate k.toNat xs).flatten))
theorem len_rep{α:Type}(xs:List α)(k:Nat):(List.replicate k xs).flatten.length=k*xs.length:=by
 induction k with
 | zero=>simp
 | succ k ih=>rw[List.replicate_succ,List.flatten_cons,Bz,ih,Nat.succ_mul,Nat.add_comm]
theorem yT:bp X (binaryOp .Mult) uk:=by
 intro pins s σ H x y v u Q I rx ry h
 obtain⟨l,k,xs,rfl,rfl,hH,h1,h2,hz,q⟩:=h
 cases rx
 obtain⟨t,rfl⟩:=ry
 obtain⟨z,its,n,r,hl,e⟩:=I.lstM hH
 have hlen:its.toArray.size*k.toNat<=sizeLine:=by rw[Bn,←hl];exact hz
 have hcap:¬its.toArray.size*k.toNat>(2 ^ 63-1) / 8:=by
  have:(sizeLine:Nat)<=(2 ^ 63-1) / 8:=by decide
  omega
 have hfit:¬(!Builtin.List.listFitsIndex k)=true:=by
  rw[fitsIndex_both h1 h2]
  exact Bx
 have hlong:¬Builtin.List.listTooLong (its.toArray.size*k.toNat)=true:=by
  rw[uh hlen]
  exact Bx
 have hnew:List.foldl (fun x1 x2=>x1++x2) #[] (List.replicate (if its.toArray.isEmpty=true then 0 else k.toNat) its.toArray)=(List.replicate k.toNat its).flatten.toArray:=by
  have f0:∀m:Nat,List.foldl (fun x1 x2=>x1++x2) #[] (List.replicate m its.toArray)=(List.replicate m its).flatten.toArray:=fun m=>by
   have:=foldl_rep its m []
   rw[List.nil_append]at this
   exact this
  rw[f0]
  cases its with
  | nil=>simp
  | cons a r'=>rw[if_neg (by simp)]
 refine wpAny_binaryOp_repeat_ref (T:="list") (U:="int") (by decide) ⟨_,e,rfl⟩ (fun s'=>typeIs_int s' k t) noFill_list_mul F.fills_int_mul F.slot_int_rmul repeat_list F.slot_int_index.lookup
  (call_meets F.slot_int_rmul (typeIs_int s k t) F.entry_int_rmul (F.args_int_rmul_2 _ _) (int___rmul___int_list k t l its.toArray n)
   ⟨e,rfl,⟨_,e,rfl⟩,call_meets F.slot_list_mul ⟨_,e,rfl⟩ F.entry_list_mul (F.args_list_mul_2 _ _) (AutoListH.list___mul___list_int_3 l its.toArray n k t hfit hcap hlong) ⟨e,?_⟩⟩)
 rw[hnew]
 exact⟨.ref _,_,I.lnew (t':=s.toks) (r.rep k.toNat) (by rw[len_rep,Nat.mul_comm];exact hz),rfl,q _ I.fresh⟩
end
section
variable {prog:Program} {w:World} {A:Around} {E:Value->Shared->Prop} {s:Shared}
end
section
variable {X:Cx}
end
end L2
namespace Att
open PySem PySem.W PySem.Calls PyProof.Rows
theorem vO{P:Params}{h:Heap}:∀(ns:List Int) (vs:List Value),WellAll P h vs (ns.map WData.int)->IntsAre vs ns:=by
 intro ns
 induction ns with
 | nil=>
  intro vs w
  rw[List.map_nil]at w
  cases w
  exact .nil
 | cons n ns ih=>
  intro vs w
  rw[List.map_cons]at w
  cases w with
  | cons a b=>
   cases a
   exact .cons _ _ (ih _ b)
theorem xo{l:OpenLaw}{n:Nat}(hn:l.most=some n){P:Params}{h:Heap}{args:List WData}{vals:List Value}
  (hpre:l.row.toRowW.claim.pre args=true) (hwl:WellAll P h vals args) :
  ∃a vs ns,vals=[Value.ref a]/\args=[WData.list (ns.map WData.int)]/\h.get? a=some { cls:=.type "list",data:=.seq vs.toArray }/\IntsAre vs ns/\ns.length<=n:=by
 have hsh:WShape.hasAll [] args [.list .int]=true:=(pre_splitW hpre).1
 have hc:l.pre.holds [] { args:=args }=true:=(pre_splitW hpre).2
 obtain⟨d,r,rfl,h1,h2⟩:=hasAllW_cons hsh
 obtain rfl:=hasAllW_nil h2
 obtain⟨xs,rfl,h3⟩:=hasW_list h1
 obtain⟨ns,rfl⟩:=items_int h3
 have hlen:ns.length<=n:=by
  unfold OpenLaw.pre at hc
  have h4:(WTm.not (.lt (.lit (.int (n:Int))) (.len (.arg 0)))).holds [] { args:=[.list (ns.map .int)] }=true:=by
   have h4:=(holds_andW hc).1
   rw[hn]at h4
   exact h4
  have h5:=condW_of h4 (w_not (w_lt w_lit (w_len_list (w_arg rfl))))
  rw[Bi]at h5
  refine Nat.le_of_not_lt fun q=>?_
  have q':(n:Int)<((ns.length:Nat):Int):=by omega
  first
   | (rw[decide_eq_true q']at h5;exact absurd h5 (by decide))
   | (simp at h5;omega)
 cases hwl with
 | cons w1 w2=>
  cases w2
  cases w1 with
  | list ho hall=>exact⟨_,_,ns,rfl,rfl,ho,vO ns _ hall,hlen⟩
theorem yY(l:OpenLaw)(args:List WData):l.row.toRowW.claim.post args (.bool true) args=true:=
 postW_of (r:=l.row.toRowW) (X:=(true == true))
  (show WShape.has [] (.bool true) .bool=true by first | rfl | decide | simp [WShape.has,WShape.arms,WShape.armsAll])
  (show(WTm.eq .res (.lit (.bool true))).value [] { args:=args,res:=some (.bool true),after:=args }=some (.bool (true == true))from w_eq_bool (w_res rfl) w_lit) rfl
theorem AV{l:OpenLaw}{n:Nat}{q:Program}{loose:List Str}{XP:(Str->Option Value)->Heap->Prop}{YP:World->Heap->Prop}{d:DefRec}
  (hn:l.most=some n) (hdf:d.params.defaults=[])
  (call:∀(w:World) (s₀ s₁:Shared) (mg mb:Str->Option Value) (fa:Addr) (o:Obj) (pm cd doc:Value) (a:Addr) (vs:List Value) (ns:List Int),
   Ground q loose [] XP w s₀ mg mb s₁.heap->YP w s₁.heap →
   s₁.heap.get? fa=some o->o.data=.func (docDef d.name d.params d.body d.scope pm cd doc)->s₁.heap.CodeRec cd d.name->mg d.name=some (.ref fa) →
   s₁.heap.get? a=some { cls:=.type "list",data:=.seq vs.toArray }->IntsAre vs ns->ns.length<=n->s₁.gens = #[] →
   codeAny (model l.prog w) callerA (.call (.ref fa) ⟨[.ref a],[]⟩) (fun r s'=>r=.ok (.ret (.bool true))/\OldK s₁.heap s'.heap/\s'.os=s₁.os/\AllBare s'.gens) s₁) :
  WalkO q loose XP YP l.row.toRowW d [] (fun f vs=>PySem.call f vs):=by
 intro w s₀ s₁ mg mb G Y fa o pm cd doc dV kV ho hd hcd hD hmg hg args vals as hpre hlay hrd hwl hlo
 obtain rfl:dV=.none:=Dflts.none hD hdf
 obtain rfl:kV=.none:=Dflts.noKw hD
 obtain⟨a,vs,ns,rfl,rfl,hobj,hints,hlen⟩:=xo hn hpre hwl
 refine enter_call (codeAny_mono (call w s₀ s₁ mg mb fa o pm cd doc a vs ns G Y ho (fd_plain hd) hcd hmg hobj hints hlen hg) fun r s' hq=>?_)
 obtain⟨rfl,h2,h3,h4⟩:=hq
 exact⟨.inl ⟨.bool true,.bool true,[],rfl,fun _=>rfl,.bool true,yY l _,fun _=>⟨List.Pairwise.nil,fun _ hm=>(nomatch hm)⟩⟩,h2,h3,h4⟩
section
variable {prog:Program} {w:World} {A:Around} {E:Value->Shared->Prop} {s:Shared} {K:Frag}
end
end Att
namespace L2
open PySem PySem.Spec PyProof.Rows
theorem sh:∀{vs:List Value} {ns:List Int},IntsAre vs ns->Vals (ns.map V.int) vs
 | _,_,.nil=>.nil
 | _,_,.cons n t h=>.cons ⟨t,rfl⟩ (sh h)
end L2
namespace L2
open PySem PySem.Spec PyProof.Rows
end L2
namespace L2
open PySem PySem.Spec PyProof.Rows
def fe(s:Stmt):Arguments:=match s with
 | .FunctionDef _ a _ _ _ _ _ _ _ _=>a
 | _=>{ posonlyargs:=[],args:=[],vararg:=none,kwonlyargs:=[],kw_defaults:=[],kwarg:=none,defaults:=[] }
def dD(s:Stmt):List Stmt:=match s with
 | .FunctionDef _ _ b _ _ _ _ _ _ _=>b
 | _=>[]
def aO(s:Stmt):Scope:=match s with
 | .FunctionDef _ _ _ _ _ _ sc _ _ _=>sc
 | _=>{ kind:=.function,names:=[],isGenerator:=false,isCoroutine:=false }
abbrev cP:eC:=fun _ _ _ _ _ _=>False
abbrev E0:XK:=fun _ _ _=>False
theorem AF{X:Cx}:Passes cP X E0:=fun _ _ _ _ _ _ _ h=>h.elim
structure Fun(K:Be)(x qual:Str)(st:Stmt)(f:Addr)(fd:FuncData):Prop where
 ex:∃(oc:Value) (od:Option Addr) (kV doc pm:Value) (an:Option Addr) (cdv ct:Value) (osl:Array (Option Value)),
  fd=PySem.W.fnOf x qual (fe st) (dD st) (aO st) .none kV doc pm an cdv ct/\K.lookup f=some ⟨oc,od,.func fd,osl⟩/\PySem.W.codeIn K cdv qual=true
 kp:PySem.W.keepIn K (.ref f)=true
section
variable {P:Program} {w:World} {K:Be} {mg:Str->Option Value} {base:Heap}
theorem Fun.ok{x qual:Str}{st:Stmt}{f:Addr}{fd:FuncData}{N ps:List Str}{k:Nat}{sp:Sp}(F:Fun K x qual st f fd)(S:FnScope N ps (aO st))(len:∀vs H Q E,sp vs H Q E->vs.length=ps.length)
  (hbody:∀(cdv:Value) (A:Around) (outer:List Env) (s:Shared) (H:Hp) (vs:List V) (Q:VK) (E:XK),Room k (A.deeper (envOfC qual (aO st) s.heap.objs.size f cdv))->sp vs H Q E →
   ∃t,bU (eM cP P w K mg base N qual (aO st) f cdv A outer s H E).nox (dD st) t/\t { nx:=fun _ H'=>Q .non H',rt:=Q } (start N vs) H):FnOk P w K mg base cP (k+1) f fd ps sp:=by
 obtain⟨oc,od,kV,doc,pm,an,cdv,ct,osl,rfl,lk,hcd⟩:=F.ex
 refine uN lk hcd S len fun A outer s H vs Q E hr hsp=>?_
 obtain⟨t,h,q⟩:=hbody cdv A outer s H vs Q E hr hsp
 exact⟨t,h.nox,q⟩
theorem Fun.binds{x qual:Str}{st:Stmt}{f:Addr}{fd:FuncData}{ps:List Str}(F:Fun K x qual st f fd)
  (h:∀(kV doc pm:Value) (an:Option Addr) (cdv ct:Value) (us:List Value),us.length=ps.length->bindArgs (PySem.W.fnOf x qual (fe st) (dD st) (aO st) .none kV doc pm an cdv ct) ⟨us,[]⟩=pure (ps.zip us)):Binds K fd ps []:=by
 obtain⟨oc,od,kV,doc,pm,an,cdv,ct,osl,rfl,lk,hcd⟩:=F.ex
 exact .all (h kV doc pm an cdv ct)
theorem pd{x qual:Str}{st:Stmt}{f:Addr}{oc:Value}{od an:Option Addr}{osl:Array (Option Value)}{kV doc pm cdv ct:Value}(l:K.lookup f=some ⟨oc,od,.func (PySem.W.fnOf x qual (fe st) (dD st) (aO st) .none kV doc pm an cdv ct),osl⟩)
  (c:PySem.W.codeIn K cdv qual=true) (k:PySem.W.keepIn K (.ref f)=true):Fun K x qual st f (PySem.W.fnOf x qual (fe st) (dD st) (aO st) .none kV doc pm an cdv ct):=⟨⟨oc,od,kV,doc,pm,an,cdv,ct,osl,rfl,l,c⟩,k⟩
end
theorem eE{A:Around}{k:Nat}(hr:Room k A):A.units+1<cLine:=Nat.lt_of_le_of_lt (Nat.add_le_add_left (by decide:1<=64) _) hr.units
section
variable {X:Cx}
theorem pv(i:Nat){x:Str}{pos:Pos}(hN:X.N[i]?=some x:=by rfl)(hv:lE X.env.scope x:=by first | exact Or.inl rfl | exact Or.inr (Or.inl rfl) | exact Or.inr (Or.inr rfl))(hd:(x == ("__debug__":Str))=false:=by decide)
  (hcd:(x == ("__classdict__":Str))=false:=by decide):PE X (.Name x pos) (iD i):=yq hN hv hd hcd
end
theorem aP{A B:Prop}(h:B):if false=true then A else B:=by
 rw[if_neg Bx]
 exact h
theorem aK{A B:Prop}(h:A):if true=true then A else B:=by
 rw[if_pos rfl]
 exact h
theorem eu{c A B:Prop}[Decidable c](h1:c->A)(h2:¬c->B):if c then A else B:=by
 by_cases h:c
 ·rw[if_pos h]
  exact h1 h
 ·rw[if_neg h]
  exact h2 h
end L2
namespace L2
open PySem PySem.Spec PyProof.Rows
structure Blk where
 s:Shared
 H:Hp
 fp:List Addr
 C:Addr
def cy(names:List (Str×NameKind))(cells:List (Str×Addr)):List (Str×Addr):=
 names.foldl (fun acc p=>if p.2 == .free then(p.1,(cells.lookup p.1).getD 0)::acc else acc) []
def vM(sc out:Scope):Bool:=sc.names.all fun p=>p.2 != .cell && (p.2 != .local || sc.names.lookup p.1 == some .local) && (p.2 != .free || out.names.lookup p.1 == some .cell || out.names.lookup p.1 == some .free)
def ja(sc:Scope)(N:List Str)(js:List Nat):Bool:=js.all fun j=>decide (j<N.length) && (sc.names.lookup (N.getD j "") == some .free)
def cE(n:Nat)(js:List Nat)(σ:St):St:=List.replicate n none++js.map fun j=>(σ[j]?).join
theorem jw(cells:List (Str×Addr)):∀(names:List (Str×NameKind)) (acc:List (Str×Addr)) (x:Str) (c:Addr),
  (names.foldl (fun acc p=>if p.2 == .free then(p.1,(cells.lookup p.1).getD 0)::acc else acc) acc).lookup x=some c →
  ((x,NameKind.free)∈names/\c=(cells.lookup x).getD 0)\/acc.lookup x=some c
 | [],acc,x,c,h=>.inr h
 | (n,k)::r,acc,x,c,h=>by
  rw[List.foldl_cons]at h
  rcases jw cells r _ x c h with⟨h1,h2⟩ | h1
  ·exact .inl ⟨Bl _ h1,h2⟩
  ·cases hk:(k == NameKind.free)with
   | false=>
    simp only[hk]at h1
    exact .inr h1
   | true=>
    simp only[hk,if_true]at h1
    rw[List.lookup_cons]at h1
    cases hx:(x == n)with
    | false=>rw[hx]at h1;exact .inr h1
    | true=>
     rw[hx]at h1
     have e1:x=n:=by simpa using hx
     have e2:k=.free:=by simpa using hk
     subst e1 e2
     exact .inl ⟨Bo,(Option.some.inj h1).symm⟩
theorem oQ(cells:List (Str×Addr)):∀(names:List (Str×NameKind)) (acc:List (Str×Addr)) (x:Str),
  ((x,NameKind.free)∈names\/(acc.lookup x).isSome=true)->((names.foldl (fun acc p=>if p.2 == .free then(p.1,(cells.lookup p.1).getD 0)::acc else acc) acc).lookup x).isSome=true
 | [],acc,x,h=>by
  rcases h with h | h
  ·simp at h
  ·exact h
 | (n,k)::r,acc,x,h=>by
  rw[List.foldl_cons]
  apply oQ cells r
  rcases h with h | h
  ·rcases Bw.mp h with e | h
   ·right
    cases e
    simp[List.lookup_cons]
   ·exact .inl h
  ·right
   cases hk:(k == NameKind.free)with
   | false=>simpa[hk]using h
   | true=>
    simp only[hk,if_true,List.lookup_cons]
    cases hx:(x == n)with
    | true=>rfl
    | false=>exact h
theorem nU{env:Env}{sc:Scope}(h:∀p∈sc.names,p.2=.free->∃c,env.cells.lookup p.1=some c):closureFor sc env=pure (cy sc.names env.cells):=by
 have go:∀(names:List (Str×NameKind)) (acc:List (Str×Addr)),(∀p∈names,p.2=NameKind.free->∃c,env.cells.lookup p.1=some c) →
   (forIn names acc fun(p:Str×NameKind) (r:List (Str×Addr))=>(match p with | (name,kind)=>if(kind == NameKind.free)=true then do let c ←cellOf env name;pure (ForInStep.yield ((name,c)::r))else pure (ForInStep.yield r):Sem _)) =
   pure (names.foldl (fun acc p=>if p.2 == .free then(p.1,(env.cells.lookup p.1).getD 0)::acc else acc) acc):=by
  intro names
  induction names with
  | nil=>intro acc _;rfl
  | cons p r ih=>
   intro acc hp
   obtain⟨n,k⟩:=p
   rw[List.forIn_cons,List.foldl_cons]
   cases hk:(k == NameKind.free)with
   | false=>
    simp only[hk,Bool.false_eq_true,if_false]
    exact ih acc fun q hq=>hp q (Bl _ hq)
   | true=>
    obtain⟨c,hc⟩:=hp (n,k) Bo (by simpa using hk)
    have e:cellOf env n=pure c:=by
     unfold cellOf
     rw[show env.cells.lookup n=some c from hc]
    simp only[hk,if_true,e]
    have hc':env.cells.lookup n=some c:=hc
    rw[hc']
    exact ih _ fun q hq=>hp q (Bl _ hq)
 unfold closureFor cy
 have:=go sc.names [] h
 simp only[this]
 rfl
def iR(X:Cx)(ifs:List Expr)(t:TT):Prop:=
 ∀(pins:List (Addr×Obj)) (s:Shared) (σ:St) (H:Hp) (Q:Bool->Hp->Prop),Inv X pins σ H s->t σ H Q →
  wpAny (model X.prog X.w) X.A (forIn ifs true fun c r=>if r=true then do let ok ←isTrue c X.env (eval c X.env);pure (ForInStep.yield ok)else pure (ForInStep.yield r)) (TP X pins σ Q) X.xe s
def mH:TT:=fun _ H Q=>Q true H
theorem fg{X:Cx}:iR X [] mH:=fun _ _ _ H _ I h=>wpAny_tests_nil ⟨H,I,h⟩
theorem gg{X:Cx}{c:Expr}{t:TT}(h:PT X c t):iR X [c] t:=fun pins s σ H Q I hq=>wpAny_tests_one (h pins s σ H Q I hq)
theorem zu{prog:Program}{w:World}{A:Around}{R:Result->Shared->Prop}{t0:Shared}{elt tgt iter:Expr}{ifs:List Expr}{sc:Scope}{ps:Pos}{itv acc:Value}{ce:Env}(Wd:Nat->Shared->Prop)
  (step:∀k t,Wd k t->wpAny (model prog w) A (pyNext itv) (fun got t1=>
   match got with
   | none=>R (.ok .next) t1
   | some u=>wpAny (model prog w) A (letOwnedTupleGo tgt itv u) (fun _ t2=>wpAny (model prog w) A (assign tgt ce u) (fun _ t3=>
     wpAny (model prog w) A (forIn ifs true fun c r=>if r=true then do let ok ←isTrue c ce (eval c ce);pure (ForInStep.yield ok)else pure (ForInStep.yield r)) (fun yes t4=>
      if yes=true then wpAny (model prog w) A (eval elt ce) (fun val t5=>wpAny (model prog w) A (call (.builtin "list.append") [acc,val]) (fun _ t6=>∃m,m<k/\Wd m t6) (fun _ _=>False) t5) (fun _ _=>False) t4
      else ∃m,m<k/\Wd m t4) (fun _ _=>False) t3) (fun _ _=>False) t2) (fun _ _=>False) t1) (fun _ _=>False) t)
  (k0:Nat) (start:Wd k0 t0):codeAny (model prog w) A (.compLoop (.ListComp elt [⟨tgt,iter,ifs,0⟩] sc ps) 0 itv acc ce) R t0:=by
 refine codeAny_loop rfl Wd (fun k t hW=>?turn) k0 start
 case turn=>
  have nox:∀{α:Type} {m:Sem α} {Q:α->Shared->Prop} {E:Value->Shared->Prop} {z:Shared},wpAny (model prog w) A m Q (fun _ _=>False) z->wpAny (model prog w) A m Q E z:=fun h=>wpAny_mono h (fun _ _ q=>q) fun _ _ f=>f.elim
  show wpAny _ A ((compTurn (.ListComp elt [⟨tgt,iter,ifs,0⟩] sc ps) 0 itv acc ce).onRaise (fun x=>do noteFrame x ce;theTreesLotGoes x)) _ _ t
  apply wpAny_noted
  rw[compTurn_list]
  refine Bc (wpAny_standAt (Bc (nox (wpAny_mono (step k t hW) (fun got t1 h1=>?_) fun _ _ f=>f))))
  cases got with
  | none=>exact Bd h1
  | some u=>
   refine Bc (nox (wpAny_mono h1 (fun _ t2 h2=>?_) fun _ _ f=>f))
   refine Bc (nox (wpAny_mono h2 (fun _ t3 h3=>?_) fun _ _ f=>f))
   refine Bc (nox (wpAny_mono h3 (fun yes t4 h4=>?_) fun _ _ f=>f))
   cases yes with
   | false=>
    rw[if_neg Bx]at h4
    exact Bd ⟨rfl,h4⟩
   | true=>
    rw[if_pos rfl]at h4
    refine Bc (Bc (nox (wpAny_mono h4 (fun val t5 h5=>?_) fun _ _ f=>f)))
    exact Bc (nox (wpAny_mono h5 (fun _ t6 h6=>Bd (Bd ⟨rfl,h6⟩)) fun _ _ f=>f))
section
variable {X:Cx} {pins:List (Addr×Obj)} {σ:St} {H:Hp} {s:Shared}
def df(its:List Value)(n:Nat):Obj:={ cls:=.type "list",data:=.seq its.toArray n }
theorem Ba{sc out:Scope}(h:vM sc out=true){p:Str×NameKind}(hp:p∈sc.names)(hf:p.2=.free):out.names.lookup p.1=some .cell\/out.names.lookup p.1=some .free:=by
 have:=BN.mp h p hp
 simp only[hf,BQ,Bool.or_eq_true,beq_iff_eq,bne_iff_ne,ne_eq,not_true,false_or]at this
 exact this.2
theorem jD{sc:Scope}{env:Env}{x:Str}:∀{names:List (Str×NameKind)} {k:NameKind},(names.map fun(p:Str×NameKind)=>match p with | (n,k)=>if(k == NameKind.free && env.scope.kind == .function && env.kindOf n == some .cell)then(n,NameKind.cell)else(n,k)).lookup x=some k →
  ∃k',names.lookup x=some k'/\(k'=k\/(k'=.free/\k=.cell))
 | [],_,h=>by simp at h
 | (n,q)::r,k,h=>by
  rw[List.map_cons]at h
  rw[List.lookup_cons]
  cases hx:(x == n)with
  | true=>
   refine⟨q,rfl,?_⟩
   by_cases hc:(q == NameKind.free && env.scope.kind == .function && env.kindOf n == some .cell)=true
   ·simp only[hc,if_true,List.lookup_cons,hx]at h
    right
    simp only[BQ,beq_iff_eq]at hc
    exact⟨hc.1.1,(Option.some.inj h).symm⟩
   ·left
    have h2:List.lookup x ((n,q)::(r.map fun(p:Str×NameKind)=>match p with | (n,k)=>if(k == NameKind.free && env.scope.kind == .function && env.kindOf n == some .cell)then(n,NameKind.cell)else(n,k)))=some k:=by
     have h3:=h
     dsimp only at h3
     rw[if_neg hc]at h3
     exact h3
    rw[List.lookup_cons,hx]at h2
    exact Option.some.inj h2
  | false=>
   have:List.lookup x (r.map fun(p:Str×NameKind)=>match p with | (n,k)=>if(k == NameKind.free && env.scope.kind == .function && env.kindOf n == some .cell)then(n,NameKind.cell)else(n,k))=some k:=by
    by_cases hc:(q == NameKind.free && env.scope.kind == .function && env.kindOf n == some .cell)=true
    ·simpa only[hc,if_true,List.lookup_cons,hx]using h
    ·dsimp only at h
     rw[if_neg hc,List.lookup_cons,hx]at h
     exact h
   exact jD (sc:=sc) this
theorem gK{names:List (Str×NameKind)}{x:Str}{k:NameKind}(h:names.lookup x=some k):(x,k)∈names:=PySem.mem_of_lookup h
theorem qg{sc:Scope}{x:Str}{cells:List (Str×Addr)}(h:(x,NameKind.free)∈sc.names):∃c,(cy sc.names cells).lookup x=some c:=
 Option.isSome_iff_exists.mp (oQ cells sc.names [] x (.inl h))
theorem Inv.stk_lt(I:Inv X pins σ H s){b:Addr}(hb:b∈cz X.stack):b<s.heap.objs.size:=by
 rcases Bw.mp (I.stkSub b hb)with e | h
 ·rw[e];exact I.lt
 ·obtain⟨_,o,ho,_⟩:=I.ok.funs.mem h
  exact BK (Bh ho) I.sz
theorem Inv.cell_lt(I:Inv X pins σ H s){x:Str}{c:Addr}(h:X.env.cells.lookup x=some c):c<s.heap.objs.size:=by
 obtain⟨v,q⟩:=I.cell x c h
 exact q.lt
theorem Inv.pin_lt(I:Inv X pins σ H s){p:Addr×Obj}(h:p∈X.pn++pins):p.1<s.heap.objs.size:=Bh (I.pin p h).1
theorem rX{n:Nat}{js:List Nat}{i:Nat}{v:V}(h:(cE n js σ)[i]?=some (some v)):∃k j,i=n+k/\js[k]?=some j/\σ[j]?=some (some v):=by
 unfold cE at h
 by_cases hi:i<n
 ·rw[BG (by simpa using hi),List.getElem?_replicate]at h
  split at h<;>cases h
 ·rw[BF (by simpa using Nat.le_of_not_lt hi),List.length_replicate,Bk]at h
  cases e:js[i-n]? with
  | none=>rw[e]at h;cases h
  | some j=>
   rw[e]at h
   refine⟨i-n,j,by omega,e,?_⟩
   have h':(σ[j]?).join=some v:=by simpa using h
   cases q:σ[j]? with
   | none=>rw[q]at h';cases h'
   | some o=>
    rw[q]at h'
    have:o=some v:=h'
    rw[this]
def f7(J:It)(n:Nat)(js:List Nat)(g:TG)(tc:TT)(te:TE)(σ:St)(H:Hp)(Q:VK):Prop:=
 ∃W:Nat->Nat->List V->Hp->Prop,(∃m,W 0 m [] H)/\∀i m ys H',W i m ys H' →
  (J.stop i H'/\∀p,H' p=none->Q (.ref p) (upd H' p (.lst ys))) ∨
  (J.go i H'/\ys.length<sizeLine/\∃N:List V->Hp->Prop,(∀ys' H2,N ys' H2->∃m',m'<m/\W (i+1) m' ys' H2)/\∀x H2,J.yld i H' x H2->g x (cE n js σ) H2 fun σ2 H3=>tc σ2 H3 fun b H4=>
   if b=true then te σ2 H4 fun v H5=>N (ys++[v]) H5 else N ys H4)
def nF(n:Nat)(js:List Nat)(wi:TI)(g:TG)(tc:TT)(te:TE):TE:=fun σ H Q=>wi σ H fun J H1=>f7 J n js g tc te σ H1 Q
structure TurnAt(X:Cx)(tg:Expr)(J:It)(fp:List Addr)(it:Addr)(tn:Nat->Heap->Prop):Prop where
 obj:∀i h,tn i h->∀b∈fp,∃o,h.get? b=some o/\∀v,o.data≠.cell v
 keep:∀i h h',tn i h->(∀b∈fp,∀o,h.get? b=some o->h'.get? b=some o)->tn i h'
 item:∀(i:Nat) (pins:List (Addr×Obj)) (s:Shared) (σ:St) (H:Hp) (E:Value->Shared->Prop),Inv X pins σ H s->(∀b∈fp,bL X pins H b)->tn i s.heap->J.go i H →
  wpAny (model X.prog X.w) X.A (pyNext (.ref it)) (fun r s1=>∃u,r=some u ∧
   wpAny (model X.prog X.w) X.A (letOwnedTupleGo tg (.ref it) u) (fun _ s2=>∃x H',Inv X pins σ H' s2/\RelV x u/\J.yld i H x H'/\tn (i+1) s2.heap/\∀b∈fp,H' b=none) E s1) E s
 done:∀(i:Nat) (pins:List (Addr×Obj)) (s:Shared) (σ:St) (H:Hp) (E:Value->Shared->Prop),Inv X pins σ H s->(∀b∈fp,bL X pins H b)->tn i s.heap->J.stop i H →
  wpAny (model X.prog X.w) X.A (pyNext (.ref it)) (fun r s1=>r=none/\Inv X pins σ H s1) E s
 self:∀(A:Around) (i:Nat) (s:Shared) (Q:Value->Shared->Prop) (E:Value->Shared->Prop),tn i s.heap->Q (.ref it) s->wpAny (model X.prog X.w) A (pyIter (.ref it)) Q E s
theorem Turn.at_{Y:Cx}{tg:Expr}{J:It}{fp:List Addr}{it:Addr}{tn:Nat->Heap->Prop}(T:Turn Y.prog Y.w Y.K tg J fp it tn)(hc:Y.calm=true):TurnAt Y tg J fp it tn:=⟨T.obj,T.keep,T.item Y rfl rfl rfl hc,T.done Y rfl rfl rfl hc,T.self⟩
end
theorem jJ{K:Be}{a:Addr}{xs:List V}{n:Nat}{js:List Nat}{g:TG}{tc:TT}{te:TE}{Q:VK}{σ:St}{H:Hp}(Pv:Nat->List V->Hp->Prop)(hz:xs.length<=sizeLine)(h0:Pv 0 [] H)(hl:∀i ys H,i<=xs.length->Pv i ys H->ag K H a xs/\ys.length<=i)
  (hs:∀i x ys H,xs[i]?=some x->Pv i ys H->g x (cE n js σ) H fun σ2 H3=>tc σ2 H3 fun b H4=>if b=true then te σ2 H4 fun v H5=>Pv (i+1) (ys++[v]) H5 else Pv (i+1) ys H4)
  (hd:∀ys H p,Pv xs.length ys H->H p=none->Q (.ref p) (upd H p (.lst ys))):f7 (bZ K a) n js g tc te σ H Q:=by
 refine⟨fun i m ys H=>m=xs.length-i/\i<=xs.length/\Pv i ys H,⟨xs.length,by simp,Nat.zero_le _,h0⟩,?_⟩
 rintro i m ys H ⟨rfl,hi,p⟩
 have q:=hl i ys H hi p
 by_cases hlt:i<xs.length
 ·refine .inr ⟨⟨xs,xs[i],q.1,by simp[hlt]⟩,by have:=q.2;omega,Pv (i+1),fun ys' H' p'=>⟨xs.length-(i+1),by omega,rfl,hlt,p'⟩,fun x H' y=>?_⟩
  obtain⟨e,y⟩:=y
  subst e
  exact hs i x ys _ (y xs q.1) p
 ·have e:i=xs.length:=by omega
  subst e
  exact .inl ⟨⟨xs,q.1,BB _⟩,fun p' hp=>hd ys H p' p hp⟩
theorem jf{K:Be}{a:Addr}{xs:List V}{n:Nat}{js:List Nat}{g:TG}{tc:TT}{te:TE}{Q:VK}{σ:St}{H:Hp}(Pv:Nat->List V->Hp->Prop)(hz:xs.length<=sizeLine)(h0:Pv 0 [] H)(hl:∀i ys H,i<=xs.length->Pv i ys H->ao K H a xs/\ys.length<=i)
  (hs:∀i x ys H,xs[i]?=some x->Pv i ys H->g x (cE n js σ) H fun σ2 H3=>tc σ2 H3 fun b H4=>if b=true then te σ2 H4 fun v H5=>Pv (i+1) (ys++[v]) H5 else Pv (i+1) ys H4)
  (hd:∀ys H p,Pv xs.length ys H->H p=none->Q (.ref p) (upd H p (.lst ys))):f7 (dj K a) n js g tc te σ H Q:=by
 refine⟨fun i m ys H=>m=xs.length-i/\i<=xs.length/\Pv i ys H,⟨xs.length,by simp,Nat.zero_le _,h0⟩,?_⟩
 rintro i m ys H ⟨rfl,hi,p⟩
 have q:=hl i ys H hi p
 by_cases hlt:i<xs.length
 ·refine .inr ⟨⟨xs,xs[i],q.1,by simp[hlt]⟩,by have:=q.2;omega,Pv (i+1),fun ys' H' p'=>⟨xs.length-(i+1),by omega,rfl,hlt,p'⟩,fun x H' y=>?_⟩
  obtain⟨e,y⟩:=y
  subst e
  exact hs i x ys _ (y xs q.1) p
 ·have e:i=xs.length:=by omega
  subst e
  exact .inl ⟨⟨xs,q.1,BB _⟩,fun p' hp=>hd ys H p' p hp⟩
theorem iL{lo:Int}{N n:Nat}{js:List Nat}{g:TG}{tc:TT}{te:TE}{Q:VK}{σ:St}{H:Hp}(Pv:Nat->List V->Hp->Prop)(hz:N<=sizeLine)(h0:Pv 0 [] H)(hl:∀i ys H,i<=N->Pv i ys H->ys.length<=i)
  (hs:∀i ys H,i<N->Pv i ys H->g (.int (lo+i)) (cE n js σ) H fun σ2 H3=>tc σ2 H3 fun b H4=>if b=true then te σ2 H4 fun v H5=>Pv (i+1) (ys++[v]) H5 else Pv (i+1) ys H4)
  (hd:∀ys H p,Pv N ys H->H p=none->Q (.ref p) (upd H p (.lst ys))):f7 (dW lo N) n js g tc te σ H Q:=by
 refine⟨fun i m ys H=>m=N-i/\i<=N/\Pv i ys H,⟨N,by simp,Nat.zero_le _,h0⟩,?_⟩
 rintro i m ys H ⟨rfl,hi,p⟩
 have q:=hl i ys H hi p
 by_cases hlt:i<N
 ·refine .inr ⟨hlt,by omega,Pv (i+1),fun ys' H' p'=>⟨N-(i+1),by omega,rfl,hlt,p'⟩,fun x H' y=>?_⟩
  obtain⟨e,y⟩:=y
  subst e y
  exact hs i ys _ hlt p
 ·have e:i=N:=by omega
  subst e
  exact .inl ⟨BB _,fun p' hp=>hd ys H p' p hp⟩
end L2
namespace L2
open PySem PySem.Spec PyProof.Rows
structure Cal(P:Program)(w:World)(K:Be)(mg:Str->Option Value)(base:Heap)(x:Str)(k:Nat)(ps:List Str)(sp:Sp):Prop where
 ex:∃(f:Addr) (fd:FuncData),mg x=some (.ref f)/\PySem.W.keepIn K (.ref f)=true/\Binds K fd ps []/\FnOk P w K mg base cP k f fd ps sp
structure Dfn(K:Be)(mg:Str->Option Value)(x:Str)(st:Stmt)(ps:List Str):Prop where
 ex:∃(f:Addr) (fd:FuncData),mg x=some (.ref f)/\Fun K x x st f fd/\Binds K fd ps []
section
variable {P:Program} {w:World} {K:Be} {mg:Str->Option Value} {base:Heap}
theorem Dfn.ok{x:Str}{st:Stmt}{N ps:List Str}{k:Nat}{sp:Sp}(D:Dfn K mg x st ps)(S:FnScope N ps (aO st))(len:∀vs H Q E,sp vs H Q E->vs.length=ps.length)
  (hbody:∀(X:Cx) (hX:∃f cdv A outer s H E,X=(eM cP P w K mg base N x (aO st) f cdv A outer s H E).nox/\Room k X.A) (H:Hp) (vs:List V) (Q:VK) (E:XK),sp vs H Q E →
   ∃t,bU X (dD st) t/\t { nx:=fun _ H'=>Q .non H',rt:=Q } (start N vs) H):Cal P w K mg base x (k+1) ps sp:=by
 obtain⟨f,fd,hm,F,hb⟩:=D.ex
 exact⟨f,fd,hm,F.kp,hb,F.ok S len fun cdv A outer s H vs Q E hr h=>hbody _ ⟨f,cdv,A,outer,s,H,E,rfl,hr⟩ H vs Q E h⟩
end
section
variable {X:Cx}
theorem aL{x:Str}{k j:Nat}{ps:List Str}{sp:Sp}{e:Expr}{es:List Expr}{t:TA}{p pos:Pos}(C:Cal X.prog X.w X.K X.mg X.base x j ps sp)(hr:Room k X.A)(ha:PA X (e::es) t)(hjk:j<=k:=by decide)(hg:Gl X x:=by rfl)(hdb:(x == ("__debug__":Str))=false:=by decide)
  (he:starEach (e::es) X.env=(false,eval e X.env)::starEach es X.env:=by rfl) (hpl:(backTo pos (starEach es X.env)).any (·.1)=false:=by rfl) :
  PE X (.Call (.Name x p) (e::es) [] pos) (kN sp [] E0 t):=by
 obtain⟨f,fd,hm,hk,hb,F⟩:=C.ex
 exact zm F (hr.mono hjk) hg hm hk hb .nil AF ha hdb he hpl
theorem qw:bp X (binaryOp .FloorDiv) (rI (fun _ j=>0<j/\j<2 ^ 64) fun i j=>.int (i / j)):=jR fun i j _ _ _ _ _ hc q=>by
 have h1:(0:Int)<j:=hc.1
 have h2:j<2 ^ 64:=hc.2
 refine floordiv_int (by omega) (by rw[Int.fdiv_eq_ediv_of_nonneg i (by omega)];exact q) (.inl (PyProof.noPylong_of_log2 ?_))
 have h0:j.natAbs≠0:=by omega
 have h64:j.natAbs<2 ^ 64:=by omega
 have:=(Nat.log2_lt h0).mpr h64
 omega
def eR(H:Hp):V->String->Prop
 | .non,n=>n = "NoneType"
 | .bl _,n=>n = "bool"
 | .int _,n=>n = "int"
 | .str _,n=>n = "str"
 | .ref a,n=>(n = "list"/\∃xs,H a=some (.lst xs))\/(n = "tuple"/\∃xs,H a=some (.tup xs))
 | _,_=>False
theorem eR.ty{K:Be}{H:Hp}{x:V}{n:String}(h:eR H x n):TyOf K H x (.type n):=by
 cases x with
 | non=>cases(show n = "NoneType" from h);exact .non
 | bl b=>cases(show n = "bool" from h);exact .bl b
 | int i=>cases(show n = "int" from h);exact .int i
 | str z=>cases(show n = "str" from h);exact .str z
 | ref a=>
  rcases h with⟨rfl,xs,e⟩ | ⟨rfl,xs,e⟩
  ·exact .lst e
  ·exact .tup e
 | _=>exact False.elim h
def fw(a b c d e:Bool):String->Option Bool
 | "tuple"=>some a | "int"=>some b | "bool"=>some c | "list"=>some d | "str"=>some e | _=>none
def fS:String->String->Option Bool
 | "NoneType"=>fw false false false false false
 | "bool"=>fw false true true false false
 | "int"=>fw false true false false false
 | "str"=>fw false false false false true
 | "list"=>fw false false false true false
 | "tuple"=>fw true false false false false
 | _=>fun _=>none
theorem A9{K:Be}{n T:String}{b:Bool}(h:fS n T=some b):PySem.W.kitOne K (.type n) (.type T)=some b:=by
 unfold fS at h
 split at h<;>first
  | (unfold fw at h;split at h<;>first | (cases h;kernel_rfl) | cases h)
  | cases h
def qJ:List V->Hp->VK->Prop:=fun xs H Q=>∃x n T b,xs=[x,.ty T]/\eR H x n/\fS n T=some b/\Q (.bl b) H
theorem dG:cA X (.builtin "isinstance") qJ:=by
 intro pins s σ H xs us Q I r h
 obtain⟨x,n,T,b,rfl,hk,hb,q⟩:=h
 obtain⟨u,w',rfl,r1,r2⟩:=vals2 r
 cases(show w'=Value.type T from r2)
 exact vX I r1 hk.ty (A9 hb) fun tk=>⟨.bl b,H,I.tok tk,rfl,q⟩
def i5(K:Be):List V->Hp->VK->Prop:=fun xs H Q=>∃p ys,xs=[.ref p]/\(ag K H p ys\/ao K H p ys)/\Q (.int ys.length) H
theorem xq:cA X (.builtin "len") (i5 X.K):=A7
def kM(K:Be):List V->Hp->VK->Prop:=fun xs H Q=>∃p ys,xs=[.ref p]/\((ag K H p ys/\∀l,H l=none->Q (.ref l) (upd H l (.tup ys)))\/(ao K H p ys/\Q (.ref p) H))
theorem yW:cA X (.type "tuple") (kM X.K):=Aa
end
end L2
namespace L2
open PySem PySem.Spec PyProof.Rows
def Ext(H H':Hp):Prop:=∀b o,H b=some o->H' b=some o
theorem Ext.rfl'(H:Hp):Ext H H:=fun _ _ h=>h
theorem Ext.trans{H H1 H2:Hp}(a:Ext H H1)(b:Ext H1 H2):Ext H H2:=fun x o h=>b x o (a x o h)
theorem Ext.none{H H':Hp}(e:Ext H H'){l:Addr}(h:H' l=Option.none):H l=Option.none:=by
 cases q:H l with
 | none=>rfl
 | some o=>rw[e l o q]at h;cases h
section
variable {X:Cx} (K:Be)
theorem aC(h:X.K=K:=by rfl):fR X (mG K):=by subst h;exact yC
theorem aN(h:X.K=K:=by rfl):fR X (kq K):=by subst h;exact y6
theorem zl(h:X.K=K:=by rfl):md X (kO K):=by subst h;exact vc
theorem vF(h:X.K=K:=by rfl):bp X (compareOp .In) (lQ K false):=by subst h;exact xW
theorem dy(h:X.K=K:=by rfl):cA X (.builtin "len") (i5 K):=by subst h;exact xq
theorem ph(h:X.K=K:=by rfl):cA X (.type "tuple") (kM K):=by subst h;exact yW
theorem dZ{tg l:Expr}{tl:TE}(hl:PE X l tl)(h:X.K=K:=by rfl):PI X tg l (lM K tl):=by subst h;exact xg hl
theorem iH{tg l:Expr}{tl:TE}(hl:PE X l tl)(h:X.K=K:=by rfl):PI X tg l (kA K tl):=by subst h;exact vn hl
theorem wb{es:List Expr}{k:Nat}{t:dh}{n:Nat}{pos:Pos}(hc:X.calm=true)(hg:gh X es t)(h:X.K=K:=by rfl)
  (hn:(assignEach es X.env).length=n:=by rfl) (hst:(assignEach es X.env).findIdx? (·.1)=none:=by rfl):PG X (.Tuple es k pos) (oG K n t):=by subst h;exact yB hc hg hn hst
theorem bK{o e:Expr}{es:List Expr}{to:TE}{t:TA}{name:Str}{apos cpos:Pos}{T id:String}{r:V->List V->Hp->VK->Prop}(pa:PlainAttrs T)(slot:Slot T name id)(hty:typeOf (.builtin id)=pure (.type "method_descriptor"))(hm:iW X id r)(ho:PE X o to)(ha:PA X (e::es) t)(h:X.K=K:=by rfl)
  (hbase:attributeBase o name X.env (eval o X.env)=eval o X.env:=by rfl)
  (hfew:((backTo cpos (starEach (e::es) X.env)).all (fun x=>!x.1) && (backToKw cpos (keywordEach [] X.env)).all (fun x=>x.1.isSome)
   && decide ((e::es).length+([]:List Keyword).length+(if([]:List Keyword).isEmpty then 0 else 1)<30))=true:=by rfl)
  (hline:(apos.endLine == cpos.line)=true:=by rfl) (hs:starEach (e::es) X.env=(false,eval e X.env)::starEach es X.env:=by rfl) (hplain:(backTo cpos (starEach es X.env)).any (·.1)=false:=by rfl) :
  PE X (.Call (.Attribute o name apos) (e::es) [] cpos) (kU K T r to t):=by subst h;exact y9 pa slot hty hm ho ha hbase hfew hline hs hplain
end
def rV(ns:List Int):TA:=fun _ H Q=>Q (ns.map V.int) H
inductive IntsE:List Expr->List Int->Prop
 | n:IntsE [] []
 | c {i j pos es ns}:IntsE es ns->IntsE (.Constant (.int i) j pos::es) (i::ns)
theorem ix{X:Cx}{es:List Expr}{ns:List Int}(h:IntsE es ns):PA X es (rV ns):=by
 induction h with
 | n=>exact ae
 | @c i j pos es ns _ ih=>
  intro p pins s σ H Q I hq
  exact aa (e:=.Constant (.int i) j pos) af ih rfl p pins s σ H Q I hq
theorem rd_ints{σ:St}{H:Hp}{ns:List Int}{R:List V->Hp->Prop}(h:R (ns.map V.int) H):rV ns σ H R:=h
def nO(c:TT)(t u:TS):TS:=fun D σ H=>∃R:St->Hp->Prop,(c σ H fun b H1=>if b=true then t { D with nx:=R } σ H1 else u { D with nx:=R } σ H1)/\∀σ' H',R σ' H'->D.nx σ' H'
theorem di{X:Cx}{c:Expr}{a b:List Stmt}{tc:TT}{t u:TS}{pos:Pos}(hc:PT X c tc)(ha:bU X a t)(hb:bU X b u):PS X (.If c a b pos) (nO tc t u):=by
 intro pins s σ H D I h
 obtain⟨R,h,hR⟩:=h
 refine ah (cL hc ha hb pins s σ H { D with nx:=R } I h) fun f s1 q=>?_
 cases f with
 | next=>
  obtain⟨σ',H',I',q⟩:=q
  exact⟨σ',H',I',hR σ' H' q⟩
 | ret v=>exact q
 | brk=>exact q
 | cont=>exact q
def qj(K:Be):V->Hp->(It->Hp->Prop)->Prop:=fun x H R=>∃a,x=.ref a/\(∃xs,ag K H a xs)/\R (bZ K a) H
def qU(K:Be):V->Hp->(It->Hp->Prop)->Prop:=fun x H R=>∃a,x=.ref a/\(∃xs,ao K H a xs)/\R (dj K a) H
def sO:List V->Hp->(It->Hp->Prop)->Prop:=fun vs H R=>∃j:Int,vs=[.int j]/\-(2 ^ 62)<=j/\j<2 ^ 62/\R (dW 0 j.toNat) H
def iF(J:It)(g:TG)(tb:TS)(D:Ends)(σ:St)(H:Hp):Prop:=∃W:Nat->Nat->St->Hp->Prop,(∃m,W 0 m σ H)/\∀i m σ H,W i m σ H →
 (J.stop i H/\D.nx σ H)\/(J.go i H/\∃N:St->Hp->Prop,(∀σ' H',N σ' H'->∃m',m'<m/\W (i+1) m' σ' H')/\∀x H',J.yld i H x H'->g x σ H' fun σ2 H2=>tb { D with nx:=N,ct:=N,bk:=D.nx } σ2 H2)
theorem forL{K:Be}{a:Addr}{xs:List V}{g:TG}{tb:TS}{D:Ends}{σ:St}{H:Hp}(Pv:Nat->St->Hp->Prop)(h0:Pv 0 σ H)(hl:∀i σ H,i<=xs.length->Pv i σ H->ag K H a xs)
  (hs:∀i x σ H,xs[i]?=some x->Pv i σ H->g x σ H fun σ2 H2=>tb ⟨Pv (i+1),D.rt,D.nx,Pv (i+1)⟩ σ2 H2) (hd:∀σ H,Pv xs.length σ H->D.nx σ H):iF (bZ K a) g tb D σ H:=xn Pv h0 hl hs hd
theorem yD{K:Be}{a:Addr}{xs:List V}{g:TG}{tb:TS}{D:Ends}{σ:St}{H:Hp}(Pv:Nat->St->Hp->Prop)(h0:Pv 0 σ H)(hl:∀i σ H,i<=xs.length->Pv i σ H->ao K H a xs)
  (hs:∀i x σ H,xs[i]?=some x->Pv i σ H->g x σ H fun σ2 H2=>tb ⟨Pv (i+1),D.rt,D.nx,Pv (i+1)⟩ σ2 H2) (hd:∀σ H,Pv xs.length σ H->D.nx σ H):iF (dj K a) g tb D σ H:=wR Pv h0 hl hs hd
theorem forR{lo:Int}{n:Nat}{g:TG}{tb:TS}{D:Ends}{σ:St}{H:Hp}(Pv:Nat->St->Hp->Prop)(h0:Pv 0 σ H)
  (hs:∀i σ H,i<n->Pv i σ H->g (.int (lo+i)) σ H fun σ2 H2=>tb ⟨Pv (i+1),D.rt,D.nx,Pv (i+1)⟩ σ2 H2) (hd:∀σ H,Pv n σ H->D.nx σ H):iF (dW lo n) g tb D σ H:=yK Pv h0 hs hd
def dO(H:Hp)(o:HO)(R:VK):Prop:=∀p,H p=none->R (.ref p) (upd H p o)
section
variable {K:Be} {D:Ends} {σ:St} {H:Hp} {Q:VK} {ta tb tc te:TE} {t u:TS} {c c':TT}
theorem rd_seq(h:t ⟨u D,D.rt,D.bk,D.ct⟩ σ H):oI t u D σ H:=h
theorem rd_next(h:D.nx σ H):qQ D σ H:=h
theorem rd_ret(h:te σ H D.rt):o7 te D σ H:=h
theorem rd_asg{g:TG}(h:te σ H fun x H1=>g x σ H1 D.nx):jW te g D σ H:=h
theorem rd_drop(h:te σ H fun _ H1=>D.nx σ H1):oT te D σ H:=h
theorem rd_ifS(h:c σ H fun b H1=>if b=true then t D σ H1 else u D σ H1):uM c t u D σ H:=h
theorem fQ(R:St->Hp->Prop)(h:c σ H fun b H1=>if b=true then t ⟨R,D.rt,D.bk,D.ct⟩ σ H1 else u ⟨R,D.rt,D.bk,D.ct⟩ σ H1)(k:∀σ' H',R σ' H'->D.nx σ' H'):nO c t u D σ H:=⟨R,h,k⟩
theorem gL(h:c σ H fun b H1=>if b=true then t D σ H1 else u D σ H1):nO c t u D σ H:=⟨D.nx,h,fun _ _ h=>h⟩
theorem rd_name{i:Nat}{v:V}{R:St->Hp->Prop}(h:R (σ.set i (some v)) H):fU i v σ H R:=h
theorem rd_var{i:Nat}{v:V}(e:σ[i]?=some (some v))(h:Q v H):iD i σ H Q:=⟨v,e,h⟩
theorem rd_c{v:V}(h:Q v H):tC v σ H Q:=h
theorem rd_op{r:R2}(h:ta σ H fun x H1=>tb σ H1 fun y H2=>r x y H2 Q):gj r ta tb σ H Q:=h
theorem rd_un{r:V->Hp->VK->Prop}(h:ta σ H fun x H1=>r x H1 Q):uc r ta σ H Q:=h
theorem rd_CB{r:List V->Hp->VK->Prop}{a:TA}(h:a σ H fun vs H1=>r vs H1 Q):ig r a σ H Q:=h
theorem rd_cons{a:TA}{R:List V->Hp->Prop}(h:ta σ H fun x H1=>a σ H1 fun xs H2=>R (x::xs) H2):iA ta a σ H R:=h
theorem rd_nil{R:List V->Hp->Prop}(h:R [] H):iy σ H R:=h
theorem rd_test{R:Bool->Hp->Prop}(h:te σ H fun x H'=>∃k,x=.bl k/\R k H'):mY te σ H R:=h
theorem rd_B{R:Bool->Hp->Prop}(h:te σ H fun x H'=>∃k,x=.bl k/\R k H'):tB te σ H R:=h
theorem rd_exb{b:Bool}{R:Bool->Prop}(h:R b):∃k,V.bl b=V.bl k/\R k:=⟨b,rfl,h⟩
theorem rd_not{R:Bool->Hp->Prop}(h:c σ H fun b H1=>R (!b) H1):uq c σ H R:=h
theorem rd_and{R:Bool->Hp->Prop}(h:c σ H fun b H1=>if b=true then c' σ H1 R else R false H1):pI c c' σ H R:=h
theorem rd_or{R:Bool->Hp->Prop}(h:c σ H fun b H1=>if b=true then R true H1 else c' σ H1 R):qy c c' σ H R:=h
theorem rd_andV(h:ta σ H fun x H1=>∃k,x=.bl k/\if k=true then tb σ H1 Q else Q (.bl false) H1):tm ta tb σ H Q:=h
theorem rd_orV(h:ta σ H fun x H1=>∃k,x=.bl k/\if k=true then Q (.bl true) H1 else tb σ H1 Q):qP ta tb σ H Q:=h
theorem rd_notV(h:ta σ H fun x H1=>∃k,x=.bl k/\Q (.bl (!k)) H1):rQ ta σ H Q:=h
theorem rd_yes{R:Bool->Hp->Prop}(h:R true H):mH σ H R:=h
theorem rd_I0{g:Int->Int->V}{i j:Int}(h:Q (g i j) H):eh g (.int i) (.int j) H Q:=⟨i,j,rfl,rfl,h⟩
theorem rd_I{C:Int->Int->Prop}{g:Int->Int->V}{i j:Int}(hc:C i j)(h:Q (g i j) H):rI C g (.int i) (.int j) H Q:=⟨i,j,rfl,rfl,hc,h⟩
theorem rd_U{g:Int->V}{i:Int}(h:Q (g i) H):rU g (.int i) H Q:=⟨i,rfl,h⟩
theorem rd_EqI{i j:Int}(h:Q (.bl (decide (i=j))) H):mP (.int i) (.int j) H Q:=⟨rfl,by
 have e:decide (V.int i=V.int j)=decide (i=j):=by rw[BP];simp
 rw[e];exact h⟩
theorem rd_NeI{i j:Int}(h:Q (.bl (!decide (i=j))) H):lW (.int i) (.int j) H Q:=⟨rfl,by
 have e:decide (V.int i=V.int j)=decide (i=j):=by rw[BP];simp
 rw[e];exact h⟩
theorem aD{p:Addr}{xs:List V}{i:Int}{v:V}(e:ag K H p xs)(a:br xs i=some v)(h:Q v H):mG K (.ref p) (.int i) H Q:=⟨p,xs,i,v,rfl,rfl,e,a,h⟩
theorem aM{p:Addr}{xs:List V}{i:Int}{v:V}(e:ao K H p xs)(a:br xs i=some v)(h:Q v H):kq K (.ref p) (.int i) H Q:=⟨p,xs,i,v,rfl,rfl,e,a,h⟩
theorem gn{p:Addr}{xs:List V}(e:ag K H p xs)(h:Q (.int xs.length) H):i5 K [.ref p] H Q:=⟨p,xs,rfl,.inl e,h⟩
theorem ij{p:Addr}{xs:List V}(e:ao K H p xs)(h:Q (.int xs.length) H):i5 K [.ref p] H Q:=⟨p,xs,rfl,.inr e,h⟩
theorem oY{p:Addr}{xs:List V}(e:ag K H p xs)(h:dO H (.tup xs) Q):kM K [.ref p] H Q:=⟨p,xs,rfl,.inl ⟨e,h⟩⟩
theorem dH{x:V}{n T:String}{b:Bool}(hk:eR H x n)(hb:fS n T=some b)(h:Q (.bl b) H):qJ [x,.ty T] H Q:=⟨x,n,T,b,rfl,hk,hb,h⟩
theorem rd_call{sp:Sp}{a:TA}{E:XK}(h:a σ H fun vs H1=>sp (vs++[]) H1 Q E):kN sp [] E a σ H Q:=h
theorem rd_BM{T:String}{r:V->List V->Hp->VK->Prop}{a:TA}(h:te σ H fun x H1=>fN K T x H1/\a σ H1 fun xs H2=>r x xs H2 Q):kU K T r te a σ H Q:=h
theorem rd_tup{a:TA}(h:a σ H fun xs H1=>xs.length<=sizeLine/\dO H1 (.tup xs) Q):jM a σ H Q:=h
theorem rd_lst{a:TA}(h:a σ H fun xs H1=>xs.length<=sizeLine/\dO H1 (.lst xs) Q):sF a σ H Q:=h
theorem rd_sl{r:V->Option Int->Option Int->Hp->VK->Prop}{tl th:TO}(h:te σ H fun x H1=>tl σ H1 fun l H2=>th σ H2 fun v H3=>r x l v H3 Q):qp r te tl th σ H Q:=h
theorem rd_part{R:Option Int->Hp->Prop}(h:te σ H fun x H1=>∃i,x=.int i/\R (some i) H1):uz te σ H R:=h
theorem rd_exi{i:Int}{R:Int->Prop}(h:R i):∃k,V.int i=V.int k/\R k:=⟨i,rfl,h⟩
theorem rd_chain{r r':R2}(h:ta σ H fun x H1=>tb σ H1 fun y H2=>r x y H2 fun z H3=>∃k,z=.bl k/\(if k=true then tc σ H3 fun w' H4=>r' y w' H4 Q else Q (.bl false) H3)):kD r r' ta tb tc σ H Q:=h
theorem rd_comp{n:Nat}{js:List Nat}{wi:TI}{g:TG}(h:wi σ H fun J H1=>f7 J n js g c te σ H1 Q):nF n js wi g c te σ H Q:=h
theorem rd_iL{R:It->Hp->Prop}(h:te σ H fun x H1=>qj K x H1 R):lM K te σ H R:=h
theorem rd_iT{R:It->Hp->Prop}(h:te σ H fun x H1=>qU K x H1 R):kA K te σ H R:=h
theorem ed{p:Addr}{xs:List V}{R:It->Hp->Prop}(e:ag K H p xs)(h:R (bZ K p) H):qj K (.ref p) H R:=⟨p,rfl,⟨xs,e⟩,h⟩
theorem iw{p:Addr}{xs:List V}{R:It->Hp->Prop}(e:ao K H p xs)(h:R (dj K p) H):qU K (.ref p) H R:=⟨p,rfl,⟨xs,e⟩,h⟩
theorem rd_i1{a:TA}{R:It->Hp->Prop}(h:a σ H fun vs H1=>sO vs H1 R):tL a σ H R:=h
theorem b6{j:Int}{R:It->Hp->Prop}(h1:-(2 ^ 62)<=j/\j<2 ^ 62)(h:R (dW 0 j.toNat) H):sO [.int j] H R:=⟨j,rfl,h1.1,h1.2,h⟩
theorem rd_for{wi:TI}{g:TG}(h:wi σ H fun J H1=>iF J g t D σ H1):sS wi g t D σ H:=h
theorem bO{l:Addr}{xs:List V}{y:V}(e:H l=some (.lst xs))(hz:xs.length<sizeLine)(h:Q .non (upd H l (.lst (xs++[y])))):tp (.ref l) [y] H Q:=⟨l,xs,y,rfl,rfl,e,hz,h⟩
theorem cS{p:Addr}{xs:List V}(e:ag K H p xs):fN K "list" (.ref p) H:=.inl ⟨rfl,xs,e⟩
theorem rd_sub{to ti:TE}{w:j8}{v:V}{R:St->Hp->Prop}(h:to σ H fun o H1=>ti σ H1 fun i H2=>w o i v H2 fun H3=>R σ H3):pW to ti w v σ H R:=h
theorem lX{p:Addr}{xs:List V}{k:Int}{j:Nat}{v:V}{R:Hp->Prop}(e:H p=some (.lst xs))(a:dQ xs.length k=some j)(h:R (upd H p (.lst (xs.set j v)))):tV (.ref p) (.int k) v H R:=⟨p,xs,k,j,rfl,rfl,e,a,h⟩
theorem rd_gcons{g:TG}{gs:dh}{v:V}{r:List V}{R:St->Hp->Prop}(h:g v σ H fun σ' H'=>gs r σ' H' R):tF g gs (v::r) σ H R:=⟨v,r,rfl,h⟩
theorem rd_gnil{R:St->Hp->Prop}(h:R σ H):tH [] σ H R:=⟨rfl,h⟩
theorem pK{l b:Addr}{xs zs:List V}(e1:H l=some (.lst xs))(e2:H b=some (.lst zs))(hz:xs.length+zs.length<=sizeLine)(h:dO H (.lst (xs++zs)) Q):kx (.ref l) (.ref b) H Q:=⟨l,b,xs,zs,rfl,rfl,e1,e2,hz,h⟩
theorem wy{l:Addr}{k:Int}{xs:List V}(e:H l=some (.lst xs))(hk:0<=k/\k<10 ^ 6)(hz:xs.length*k.toNat<=sizeLine)(h:dO H (.lst (List.replicate k.toNat xs).flatten) Q):uk (.ref l) (.int k) H Q:=
 ⟨l,k,xs,rfl,rfl,e,by omega,by omega,hz,h⟩
theorem Aj{a:Addr}{xs:List V}{lo hi:Option Int}(e:ag K H a xs)(h:dO H (.lst (fu xs lo hi)) Q):kO K (.ref a) lo hi H Q:=⟨a,xs,rfl,e,h⟩
theorem wU{neg:Bool}{x:V}{p:Addr}{xs:List V}(e:ag K H p xs\/ao K H p xs)(f:dX x=true)(fs:xs.all dX=true)(h:Q (.bl (if neg then !fX x xs else fX x xs)) H):lQ K neg x (.ref p) H Q:=⟨p,xs,rfl,e,f,fs,h⟩
theorem eO{o:HO}{R:VK}(h:∀p H',Ext H H'->H' p=some o->H p=none->R (.ref p) H'):dO H o R:=fun p hp=>
 h p _ (fun b u e=>by rw[ay (cx e hp)];exact e) aG hp
theorem bI{p:Addr}{o:HO}(hp:H p=none):Ext H (upd H p o):=fun b u e=>by rw[ay (cx e hp)];exact e
end
theorem fm{α:Type}{xs:List α}{i:Int}{v:α}(h0:0<=i)(h:xs[i.toNat]?=some v):br xs i=some v:=by
 have:=eT h
 rwa [Bv h0]at this
theorem mL{n:Nat}{i:Int}(h0:0<=i)(h:i<n):dQ n i=some i.toNat:=by unfold dQ;rw[if_pos h0,if_pos h]
end L2
namespace L2
open PySem PySem.Spec PyProof.Rows
def cX:V->PyData->Prop
 | .non,.none=>True
 | .bl b,.bool c=>b=c
 | .int i,.int j=>i=j
 | .str x,.str y=>x=y/\(PyData.str y).canLay0=true
 | _,_=>False
def aV(H:Hp):Nat->V->PyData->Prop
 | 0,x,d=>cX x d
 | n+1,x,d=>cX x d\/∃a xs ds,x=.ref a/\((H a=some (.tup xs)/\d=.tuple ds)\/(H a=some (.lst xs)/\d=.list ds))/\Paired (aV H n) xs ds
section
variable {X:Cx} {pins:List (Addr×Obj)} {σ:St} {H:Hp} {s:Shared}
theorem cX.reads{x:V}{d:PyData}{u:Value}(h:cX x d)(r:RelV x u):∃as,Reads s.heap u d as:=by
 cases x with
 | non=>cases d<;>first | exact False.elim h | (cases r;exact⟨_,.none⟩)
 | bl b=>cases d<;>first | exact False.elim h | (cases(show b=_ from h);cases r;exact⟨_,.bool _⟩)
 | int i=>cases d<;>first | exact False.elim h | (cases(show i=_ from h);obtain⟨t,rfl⟩:=r;exact⟨_,.int _ t⟩)
 | str z=>cases d<;>first | exact False.elim h | (cases(show z=_/\_ from h).1;obtain⟨t,rfl⟩:=r;exact⟨_,.str _ t⟩)
 | _=>cases d<;>exact False.elim h
theorem cX.lay{x:V}{d:PyData}(h:cX x d):d.canLay0=true/\d.depth=0:=by
 cases x<;>cases d<;>first | exact False.elim h | exact ⟨rfl,rfl⟩ | exact ⟨h.2,rfl⟩
theorem nj{R:V->PyData->Prop}(ih:∀{x:V} {d:PyData} {u:Value},R x d->RelV x u->∃as,Reads s.heap u d as):∀{xs:List V} {ds:List PyData} {us:List Value},Paired R xs ds->Vals xs us->∃as,ReadsAll s.heap us ds as
 | _,_,_,.nil,.nil=>⟨_,.nil⟩
 | _,_,_,.cons h t,.cons r rt=>by
  obtain⟨as,ha⟩:=ih h r
  obtain⟨bs,hb⟩:=nj ih t rt
  exact⟨_,.cons ha hb⟩
theorem aV.reads(I:Inv X pins σ H s):∀(n:Nat) {x:V} {d:PyData} {u:Value},aV H n x d->RelV x u->∃as,Reads s.heap u d as
 | 0,_,_,_,h,r=>cX.reads h r
 | n+1,x,d,u,h,r=>by
  rcases h with h | ⟨a,xs,ds,rfl,hh,hp⟩
  ·exact cX.reads h r
  ·cases r
   rcases hh with⟨e,rfl⟩ | ⟨e,rfl⟩
   ·obtain⟨its,rv,⟨o,ho,hc,k,hd⟩,_⟩:=I.tuple (ao.of e)
    obtain⟨as,ha⟩:=nj (fun{x d u}=>aV.reads I n) hp rv
    exact⟨_,.tuple ho hc hd (by simpa using ha)⟩
   ·obtain⟨its,k,rv,ho,_⟩:=I.lst e
    obtain⟨as,ha⟩:=nj (fun{x d u}=>aV.reads I n) hp rv
    exact⟨_,.list ho rfl rfl (by simpa using ha)⟩
theorem jE{R:V->PyData->Prop}{m:Nat}(ih:∀{x:V} {d:PyData},R x d->d.canLay0=true/\d.depth<=m):∀{xs:List V} {ds:List PyData},Paired R xs ds->PyData.canLayAll0 ds=true/\PyData.depthAll ds<=m
 | _,_,.nil=>⟨rfl,Nat.zero_le _⟩
 | _,_,.cons h t=>by
  obtain⟨h1,h2⟩:=ih h
  obtain⟨h3,h4⟩:=jE ih t
  refine⟨?_,?_⟩
  ·simp only[PyData.canLayAll0,h1,h3,Bool.and_self]
  ·simp only[PyData.depthAll]
   exact Nat.max_le.mpr ⟨h2,h4⟩
theorem aV.lay:∀(n:Nat) {x:V} {d:PyData},aV H n x d->d.canLay0=true/\d.depth<=n
 | 0,_,_,h=>⟨(cX.lay h).1,Nat.le_of_eq (cX.lay h).2⟩
 | n+1,x,d,h=>by
  rcases h with h | ⟨a,xs,ds,rfl,hh,hp⟩
  ·exact⟨(cX.lay h).1,by rw[(cX.lay h).2];exact Nat.zero_le _⟩
  ·obtain⟨h1,h2⟩:=jE (fun{x d}=>aV.lay n) hp
   rcases hh with⟨e,rfl⟩ | ⟨e,rfl⟩
   ·exact⟨h1,Nat.succ_le_succ h2⟩
   ·exact⟨h1,Nat.succ_le_succ h2⟩
def zB(neg:Bool):R2:=fun x y H Q=>∃n m d e,aV H n x d/\aV H m y e/\n<=50/\Q (.bl (if neg then !PyData.eqv d e else PyData.eqv d e)) H
theorem iY{k:Nat}(hr:Room k X.A):bp X (compareOp .Eq) (zB false):=by
 intro pins s σ H x y v u Q I rx ry h
 obtain⟨n,m,d,e,h1,h2,hn,q⟩:=h
 obtain⟨as,ra⟩:=aV.reads I n h1 rx
 obtain⟨bs,rb⟩:=aV.reads I m h2 ry
 have l1:=aV.lay n h1
 have l2:=aV.lay m h2
 have hu:=hr.units
 have hm:min d.depth e.depth<=50:=BL (Nat.min_le_left _ _) (BL l1.2 hn)
 exact SeqAt.compareEq_reads ra rb l1.1 l2.1 (by omega) ⟨.bl _,H,I,rfl,q⟩
end
end L2
namespace L2
open PySem PySem.Spec PyProof.Rows
def wI(K:Be):List V->Hp->VK->Prop:=fun xs H Q=>∃(p:Addr) (bs:List Bool),xs=[.ref p]/\ag K H p (bs.map V.bl)/\Q (.bl (bs.all id)) H
theorem ko:∀{bs:List Bool} {us:List Value},Vals (bs.map V.bl) us->us=bs.map Value.bool
 | [],_,r=>by cases r;rfl
 | b::bs,_,r=>by
  cases r with
  | cons r t=>cases r;rw[ko t];rfl
theorem all_range(bs:List Bool):((List.range bs.length).all fun i=>bs.getD i false)=bs.all id:=by
 rw[BP,BN,BN]
 constructor
 ·intro h b hb
  obtain⟨i,hi,e⟩:=List.mem_iff_getElem.mp hb
  have:=h i (List.mem_range.mpr hi)
  rw[List.getD_eq_getElem?_getD,Bj hi]at this
  rw[←e]
  exact this
 ·intro h i hi
  have hi':=List.mem_range.mp hi
  rw[List.getD_eq_getElem?_getD,Bj hi']
  exact h _ (BH hi')
theorem mC{X:Cx}(K:Be)(hc:X.calm=true)(hK:X.K=K:=by rfl):cA X (.builtin "all") (wI K):=by
 subst hK
 intro pins s σ H xs us Q I r h
 obtain⟨p,bs,rfl,hq,q⟩:=h
 obtain⟨u,rfl,rx⟩:=vals1 r
 cases rx
 obtain⟨its,rv,pl,hz⟩:=I.list hq
 have eb:=ko rv
 have hne:p≠s.heap.objs.size:=BA (by obtain⟨o,n,e,_⟩:=pl;exact Bh e)
 refine call_all_walk (wpAny_pyIter_list pl.isList ?_)
 have I1:Inv X pins σ H { s with heap:=s.heap.push { cls:=.type "list_iterator",data:=.fields #[.ref p,.int 0 0] } }:=I.kept (t':=s.toks) fun b o e=>Bf _ e
 have hf:=I.fpOk (H':=H) (BB s.heap.objs.size) I.fresh
 refine⟨s.heap.objs.size,_,_,_,_,_,(fun i=>bs.getD i false),rfl,Walks.list (A:=X.A.in1) (I.ok.hd hc) _ p hne its.toArray,⟨⟨_,Bg _ rfl,rfl,rfl⟩,?_⟩,?_,fun h' tk hk=>?_⟩
 ·exact pl.isList.push _
 ·intro i v s' Q' E' hv hQ
  rw[eb]at hv
  have hv':(bs.map Value.bool)[i]?=some v:=by simpa using hv
  rw[Bk]at hv'
  cases eg:bs[i]? with
  | none=>rw[eg]at hv';cases hv'
  | some b=>
   rw[eg]at hv'
   cases hv'
   have eb':bs.getD i false=b:=by rw[List.getD_eq_getElem?_getD,eg];rfl
   have hQ':Q' (bs.getD i false) s':=hQ
   rw[eb']at hQ'
   exact wpAny_truthy_bool hQ'
 ·obtain⟨f0,f1,f2,f3,f4,f5⟩:=hf
  have hl:=rv.length
  rw[Bi]at hl
  refine⟨.bl (bs.all id),H,I1.turned (it:=s.heap.objs.size) (fun b o hb e=>hk b o (by simpa using hb) e) f0 f1 f3 f4 f5,?_,q⟩
  show Value.bool _=Value.bool _
  rw[Bn,←hl,all_range]
end L2
namespace L2
open PySem PySem.Spec PyProof.Rows
def oJ(c:TT)(tb:TS):TS:=fun D σ H=>∃(W:Nat->St->Hp->Prop) (R:St->Hp->Prop),(∃m,W m σ H)/\(∀m σ H,W m σ H →
 c σ H fun b H1=>if b=true then ∃N:St->Hp->Prop,(∀σ' H',N σ' H'->∃m',m'<m/\W m' σ' H')/\tb ⟨N,D.rt,R,N⟩ σ H1 else R σ H1)/\∀σ H,R σ H->D.nx σ H
theorem ue{X:Cx}{pos:Pos}{c:Expr}{body:List Stmt}{tc:TT}{tb:TS}(hp:PassesOwn (model X.prog X.w) X.A X.env X.xe)(hc:PT X c tc)(hb:bU X body tb):PS X (.While c body [] pos) (oJ tc tb):=by
 intro pins s σ H D I h
 obtain⟨W,R,w0,hs,hR⟩:=h
 refine ah (wO hp hc hb pins s σ H { D with nx:=R } I ⟨W,w0,hs⟩) fun f s1 q=>?_
 cases f with
 | next=>
  obtain⟨σ',H',I',q⟩:=q
  exact⟨σ',H',I',hR σ' H' q⟩
 | ret v=>exact q
 | brk=>exact q
 | cont=>exact q
section
variable {D:Ends} {σ:St} {H:Hp} {Q:VK} {te:TE} {t:TS} {c:TT}
theorem tJ(W:Nat->St->Hp->Prop)(R:St->Hp->Prop)(m:Nat)(h0:W m σ H)(hs:∀m σ H,W m σ H->c σ H fun b H1=>if b=true then ∃N:St->Hp->Prop,(∀σ' H',N σ' H'->∃m',m'<m/\W m' σ' H')/\t ⟨N,D.rt,R,N⟩ σ H1 else R σ H1)(k:∀σ H,R σ H->D.nx σ H):oJ c t D σ H:=⟨W,R,⟨m,h0⟩,hs,k⟩
end
section
variable {prog:Program} {w:World} {A:Around} {E:Value->Shared->Prop} {s:Shared}
theorem zo{it t:Addr}{i:Nat}{ys:Array Value}{x:Value}{Q:Value->Shared->Prop}(gi:s.heap.IsTupleIter it t i)(gt:s.heap.IsTuple t ys)(gx:ys[i]?=some x)
  (q:∀h',h'.IsTupleIter it t (i+1)->Heap.SameBut it s.heap h'->Q x { s with heap:=h' }):wpAny (model prog w) A (Builtin.SmallTypes.nextOf (.ref it)) Q E s:=by
 obtain⟨u,gu,gc,gd⟩:=id gi
 obtain⟨v,gv,_,k,gk⟩:=gt
 unfold Builtin.SmallTypes.nextOf
 refine Bc (wpAny_callSpecial?_slot (name:=Str.ofString "__next__") gi.typeIs F.slot_tuple_iterator_next (wpAny_call_entry F.slot_tuple_iterator_next gi.typeIs F.entry_tuple_iterator_next ?_ (F.args_tuple_iterator_next_1 _)))
 show wpAny _ _ (field (Value.ref it) 0 >>= _) _ _ s
 refine Bc (wpAny_field gu gd (x:=Value.ref t) rfl ?_)
 show wpAny _ _ (if(Value.ref t == Value.none)=true then _ else _) _ _ s
 rw[if_neg (show ¬(Value.ref t == Value.none)=true from Bx)]
 show wpAny _ _ (field (Value.ref it) 1 >>= _) _ _ s
 refine Bc (wpAny_field gu gd (x:=Value.int i 0) rfl ?_)
 show wpAny _ _ (seqItems? (Value.ref t) >>= _) _ _ s
 refine Bc (wpAny_seqItems gv gk ?_)
 simp only[Bu,gx]
 refine Bc (wpAny_setField gu gd (by simp) (Bd ⟨x,rfl,Bd (q _ ?_ (Heap.SameBut.update ..))⟩))
 exact⟨_,Heap.get?_update_self _ gu (Obj.isFreed_of_fields (Obj.data_mapFields gd _)),(Obj.cls_mapFields ..).trans gc,by rw[Obj.data_mapFields gd];simp[rawInt]⟩
theorem vg{it t:Addr}{i:Nat}{ys:Array Value}{Q:Value->Shared->Prop}(hA:A.handled=none)(gi:s.heap.IsTupleIter it t i)(gt:s.heap.IsTuple t ys)(gx:ys[i]?=none)
  (q:∀h' e,Heap.ExtBut it s.heap h'->(∃o,h'.get? e=some o/\o.cls=.type "StopIteration")->E (.ref e) { s with heap:=h' }):wpAny (model prog w) A (Builtin.SmallTypes.nextOf (.ref it)) Q E s:=by
 obtain⟨u,gu,gc,gd⟩:=id gi
 obtain⟨v,gv,_,k,gk⟩:=gt
 unfold Builtin.SmallTypes.nextOf
 refine Bc (wpAny_callSpecial?_slot (name:=Str.ofString "__next__") gi.typeIs F.slot_tuple_iterator_next (wpAny_call_entry F.slot_tuple_iterator_next gi.typeIs F.entry_tuple_iterator_next ?_ (F.args_tuple_iterator_next_1 _)))
 show wpAny _ _ (field (Value.ref it) 0 >>= _) _ _ s
 refine Bc (wpAny_field gu gd (x:=Value.ref t) rfl ?_)
 show wpAny _ _ (if(Value.ref t == Value.none)=true then _ else _) _ _ s
 rw[if_neg (show ¬(Value.ref t == Value.none)=true from Bx)]
 show wpAny _ _ (field (Value.ref it) 1 >>= _) _ _ s
 refine Bc (wpAny_field gu gd (x:=Value.int i 0) rfl ?_)
 show wpAny _ _ (seqItems? (Value.ref t) >>= _) _ _ s
 refine Bc (wpAny_seqItems gv gk ?_)
 simp only[Bu,gx]
 refine Bc (wpAny_rule (Bc (wpAny_setField gu gd (by simp) ?_)))
 show wpAny _ _ (newExc (Value.type "StopIteration") [] >>= _) _ _ _
 refine Bc ?_
 simp only[newExc,newTuple]
 refine Bc (wpAny_newObj_type (hd:=by size_fits) ?_)
 refine Bc (m:=firstArgMember _ _) (wpAny_of_eq (a:=Value.none) (by first | rfl | (unfold firstArgMember;rfl)) ?_)
 refine wpAny_newObj_type (hd:=by size_fits) ?_
 simp only[raiseNew]
 refine Bc (wpAny_handled ?_)
 first | rw [show Around.handled A.in1=none from hA] | rw [hA]
 refine Bc (Bd (wpAny_throw ?_))
 exact q _ _ (((Heap.SameBut.update ..).extBut.push _).push _) ⟨_,Bg _ rfl,rfl⟩
end
structure Sub(P:Program)(w:World)(K:Be)(J:It)(it:Addr)(tn:Nat->Heap->Prop):Prop where
 obj:∀i h,tn i h->∃o,h.get? it=some o/\∀v,o.data≠.cell v
 keep:∀i h h',tn i h->(∀o,h.get? it=some o->h'.get? it=some o)->tn i h'
 item:∀(X:Cx),X.prog=P->X.w=w->X.K=K->∀(A:Around) (i:Nat) (pins:List (Addr×Obj)) (s:Shared) (σ:St) (H:Hp) (Q:Value->Shared->Prop) (E:Value->Shared->Prop),Inv X pins σ H s->bL X pins H it->tn i s.heap->J.go i H →
  (∀x u h',Inv X pins σ H { s with heap:=h' }->RelV x u->J.yld i H x H->tn (i+1) h'->Heap.SameBut it s.heap h'->Q u { s with heap:=h' })->wpAny (model P w) A (Builtin.SmallTypes.nextOf (.ref it)) Q E s
 done:∀(X:Cx),X.prog=P->X.w=w->X.K=K->∀(A:Around),A.handled=none->∀(i:Nat) (pins:List (Addr×Obj)) (s:Shared) (σ:St) (H:Hp) (Q:Value->Shared->Prop) (E:Value->Shared->Prop),Inv X pins σ H s->bL X pins H it->tn i s.heap->J.stop i H →
  (∀h' e,Heap.ExtBut it s.heap h'->(∃o,h'.get? e=some o/\o.cls=.type "StopIteration")->E (.ref e) { s with heap:=h' })->wpAny (model P w) A (Builtin.SmallTypes.nextOf (.ref it)) Q E s
theorem sL{P:Program}{w:World}{K:Be}(a it:Addr):Sub P w K (bZ K a) it (fun i h=>h.IsListIter it a i) where
 obj:=fun i h st=>by
  obtain⟨o,e,c,d⟩:=st
  exact⟨o,e,fun v z=>by rw[d]at z;cases z⟩
 keep:=fun i h h' st k=>st.at k
 item:=by
  intro X hP hw hK A i pins s σ H Q E I hf st hg hQ
  subst hP hw hK
  obtain⟨xs,x,hq,hx⟩:=hg
  obtain⟨its,rv,p,hz⟩:=I.list hq
  obtain⟨u,hu,ru⟩:=rv.get hx
  obtain⟨f0,f1,f2,f3,f4,f5⟩:=hf
  exact wpAny_nextOf_list_item st p.isList (x:=u) (by simpa using hu) fun h' st' sb=>hQ x u h' (I.turned (t':=s.toks) (it:=it) (fun b o hb e=>(sb.2 b hb).trans e) f0 f1 f3 f4 f5) ru ⟨rfl,fun ys hy=>by rw[I.list_inj hy hq];exact hx⟩ st' sb
 done:=by
  intro X hP hw hK A hA i pins s σ H Q E I hf st hg hE
  subst hP hw hK
  obtain⟨xs,hq,hx⟩:=hg
  obtain⟨its,rv,p,hz⟩:=I.list hq
  have hl:=rv.length
  exact wpAny_nextOf_list_end hA st p.isList (by simp;omega) hE
theorem tY{P:Program}{w:World}{K:Be}(a it:Addr):Sub P w K (dj K a) it (fun i h=>h.IsTupleIter it a i) where
 obj:=fun i h st=>by
  obtain⟨o,e,c,d⟩:=st
  exact⟨o,e,fun v z=>by rw[d]at z;cases z⟩
 keep:=fun i h h' st k=>st.at k
 item:=by
  intro X hP hw hK A i pins s σ H Q E I hf st hg hQ
  subst hP hw hK
  obtain⟨xs,x,hq,hx⟩:=hg
  obtain⟨its,rv,p,hz⟩:=I.tuple hq
  obtain⟨u,hu,ru⟩:=rv.get hx
  obtain⟨f0,f1,f2,f3,f4,f5⟩:=hf
  exact zo st (show s.heap.IsTuple a its.toArray from p) (x:=u) (by simpa using hu) fun h' st' sb=>hQ x u h' (I.turned (t':=s.toks) (it:=it) (fun b o hb e=>(sb.2 b hb).trans e) f0 f1 f3 f4 f5) ru ⟨rfl,fun ys hy=>by rw[I.tuple_inj hy hq];exact hx⟩ st' sb
 done:=by
  intro X hP hw hK A hA i pins s σ H Q E I hf st hg hE
  subst hP hw hK
  obtain⟨xs,hq,hx⟩:=hg
  obtain⟨its,rv,p,hz⟩:=I.tuple hq
  have hl:=rv.length
  exact vg hA st (show s.heap.IsTuple a its.toArray from p) (by simp;omega) hE
def gM(J1 J2:It):It:=⟨fun i H=>J1.go i H/\J2.go i H,fun i H x H'=>∃p u v,x=.ref p/\H p=none/\H'=upd H p (.tup [u,v])/\J1.yld i H u H/\J2.yld i H v H,fun i H=>J1.stop i H\/(J1.go i H/\J2.stop i H)⟩
structure Apart(z TI TO i1 i2:Addr):Prop where
 a:TI≠z
 b:TO≠z
 c:i1≠z
 d:i2≠z
 e:TI≠TO
 f:TI≠i1
 g:TI≠i2
 h:TO≠i1
 i:TO≠i2
 j:i1≠i2
section
variable {X:Cx} {pins:List (Addr×Obj)} {σ:St} {H:Hp} {s:Shared}
theorem Inv.same{it:Addr}{k h':Heap}(I:Inv X pins σ H { s with heap:=k })(f:bL X pins H it)(b:Heap.ExtBut it k h'):Inv X pins σ H { s with heap:=h' }:=by
 obtain⟨f0,f1,f2,f3,f4,f5⟩:=f
 exact Inv.turned (s:={ s with heap:=k }) (t':=s.toks) (it:=it) I (fun c o hb e=>b c o hb e) f0 f1 f3 f4 f5
theorem zd{J1 J2:It}{z TI TO i1 i2:Addr}{t1 t2:Nat->Heap->Prop}{A:Around}{E:Value->Shared->Prop}{a b:Value}{i:Nat}{Q:Value->Shared->Prop}(S1:Sub X.prog X.w X.K J1 i1 t1)(S2:Sub X.prog X.w X.K J2 i2 t2)(N:Apart z TI TO i1 i2)
  (I:Inv X pins σ H s) (hf:∀b∈[z,TI,TO,i1,i2],bL X pins H b) (gz:IsZip s.heap z TI TO .none) (gI:IsPair s.heap TI (.ref i1) (.ref i2)) (gO:IsPair s.heap TO a b) (g1:t1 i s.heap) (g2:t2 i s.heap) (go1:J1.go i H) (go2:J2.go i H)
  (q:∀x y h',Inv X pins σ (upd H s.heap.objs.size (.tup [x,y])) { s with heap:=h' }->J1.yld i H x H->J2.yld i H y H->IsZip h' z TI TO (rawInt s.heap.objs.size)->IsPair h' TI (.ref i1) (.ref i2)->(∃a b,IsPair h' TO a b)->t1 (i+1) h'->t2 (i+1) h'->Q (.ref s.heap.objs.size) { s with heap:=h' }) :
  wpAny (model X.prog X.w) A (Builtin.«zip.__next__» ⟨[.ref z],[]⟩) (fun fin s'=>∃v,fin=.done (.ret v)/\Q v s') E s:=by
 have fz:=hf z (by simp)
 have fO:=hf TO (by simp)
 have f1:=hf i1 (by simp)
 have f2:=hf i2 (by simp)
 show wpAny _ _ (field (Value.ref z) 2 >>= _) _ _ _
 refine Bc (wpAny_field gz rfl (x:=Value.bool false) rfl ?_)
 show wpAny _ _ (field (Value.ref z) 3 >>= _) _ _ _
 refine Bc (wpAny_field gz rfl (x:=Value.ref TI) rfl ?_)
 refine Bc (wpAny_seqItems gI rfl ?_)
 show wpAny _ _ (Builtin.SmallTypes.ownedTupleIsFree (Value.ref z) >>= _) _ _ _
 refine Bc ?_
 unfold Builtin.SmallTypes.ownedTupleIsFree
 refine Bc (wpAny_field gz rfl (x:=Value.none) rfl (Bd ?_))
 simp only[if_true]
 refine Bc (wpAny_rule ?_)
 refine Bc (wpAny_field gz rfl (x:=Value.ref TO) rfl ?_)
 refine Bc (wpAny_setField_rec gz (by simp) fun k1 gz1 b1=>?_)
 replace gz1:IsZip k1 z TI TO .ellipsis:=gz1
 have s1:=b1.1
 replace b1:=b1.extBut
 have I1:Inv X pins σ H { s with heap:=k1 }:=Inv.same (show Inv X pins σ H { s with heap:=s.heap }from I) fz b1
 refine Bc ?_
 simp only[List.zipIdx_cons,List.zipIdx_nil,List.forIn_cons,List.forIn_nil]
 refine Bc (Bc (wpAny_onRaise ?_))
 show wpAny _ _ (Builtin.SmallTypes.nextOf (Value.ref i1) >>= _) _ _ _
 refine Bc (S1.item X rfl rfl rfl _ i pins _ σ H _ _ I1 f1 (S1.keep i _ _ g1 fun o e=>b1 _ _ N.c e) go1 fun x ux k2 I2 rx yx t12 b2=>Bd ?_)
 replace I2:Inv X pins σ H { s with heap:=k2 }:=I2
 have s2:=b2.1
 replace b2:=b2.extBut
 have gO2:IsPair k2 TO a b:=b2 _ _ N.h (b1 _ _ N.b gO)
 refine Bc (wpAny_seqItems gO2 rfl ?_)
 refine Bc (wpAny_updateSeq_pair gO2 fun k3 gO3 b3=>?_)
 replace gO3:IsPair k3 TO ux b:=gO3
 have s3:=b3.1
 replace b3:=b3.extBut
 have I3:Inv X pins σ H { s with heap:=k3 }:=Inv.same I2 fO b3
 refine Bc (wpAny_letGo (Bd ?_))
 refine Bc (Bc (wpAny_onRaise ?_))
 show wpAny _ _ (Builtin.SmallTypes.nextOf (Value.ref i2) >>= _) _ _ _
 refine Bc (S2.item X rfl rfl rfl _ i pins _ σ H _ _ I3 f2 (S2.keep i _ _ g2 fun o e=>b3 _ _ (Ne.symm N.i) (b2 _ _ (Ne.symm N.j) (b1 _ _ N.d e))) go2 fun y uy k4 I4 ry yy t24 b4=>Bd ?_)
 replace I4:Inv X pins σ H { s with heap:=k4 }:=I4
 have s4:=b4.1
 replace b4:=b4.extBut
 have gO4:IsPair k4 TO ux b:=b4 _ _ N.i gO3
 refine Bc (wpAny_seqItems gO4 rfl ?_)
 refine Bc (wpAny_updateSeq_pair gO4 fun k5 gO5 b5=>?_)
 replace gO5:IsPair k5 TO ux uy:=gO5
 have s5:=b5.1
 replace b5:=b5.extBut
 have I5:Inv X pins σ H { s with heap:=k5 }:=Inv.same I4 fO b5
 refine Bc (wpAny_letGo (Bd (Bd ?_)))
 refine Bc (wpAny_seqItems gO5 rfl ?_)
 refine Bc (wpAny_newTuple ?_)
 have sz:k5.objs.size=s.heap.objs.size:=by rw[s5,s4,s3,s2,s1]
 have gz5:IsZip k5 z TI TO .ellipsis:=b5 _ _ (Ne.symm N.b) (b4 _ _ (Ne.symm N.d) (b3 _ _ (Ne.symm N.b) (b2 _ _ (Ne.symm N.c) gz1)))
 have gI5:IsPair k5 TI (.ref i1) (.ref i2):=b5 _ _ N.e (b4 _ _ N.g (b3 _ _ N.e (b2 _ _ N.f (b1 _ _ N.a gI))))
 have t15:t1 (i+1) k5:=S1.keep _ _ _ (S1.keep _ _ _ (S1.keep _ _ _ t12 fun o e=>b3 _ _ (Ne.symm N.h) e) fun o e=>b4 _ _ N.j e) fun o e=>b5 _ _ (Ne.symm N.h) e
 have t25:t2 (i+1) k5:=S2.keep _ _ _ t24 fun o e=>b5 _ _ (Ne.symm N.i) e
 have lz:z<k5.objs.size:=Bh gz5
 have I6:Inv X pins σ (upd H k5.objs.size (.tup [x,y])) { s with heap:=k5.push { cls:=.type "tuple",data:=.seq #[ux,uy] } }:=
  I5.laid (t':=s.toks) (o:=.tup [x,y]) (fun b ob e=>Bf _ e) (BB _) ⟨by show 2<=sizeLine;decide,[ux,uy],.cons rx (.cons ry .nil),IsTup.new _ _⟩
 have fz6:bL X pins (upd H k5.objs.size (.tup [x,y])) z:=by
  obtain⟨c0,c1,c2,c3,c4,c5⟩:=fz
  exact⟨by rw[ay (BA lz)];exact c0,c1,c2,c3,c4,c5⟩
 show wpAny _ _ (Builtin.SmallTypes.ownedTupleHandOut (Value.ref z) (Value.ref k5.objs.size) >>= _) _ _ _
 refine Bc ?_
 unfold Builtin.SmallTypes.ownedTupleHandOut
 have gz6:IsZip (k5.push { cls:=.type "tuple",data:=.seq #[ux,uy] }) z TI TO .ellipsis:=Bf _ gz5
 refine Bc (wpAny_setField_rec gz6 (by simp) fun k7 gz7 b7=>?_)
 replace gz7:IsZip k7 z TI TO (rawInt k5.objs.size):=gz7
 replace b7:=b7.extBut
 have I7:Inv X pins σ (upd H k5.objs.size (.tup [x,y])) { s with heap:=k7 }:=Inv.same I6 fz6 b7
 refine wpAny_setField_rec gz7 (by simp) fun k8 gz8 b8=>?_
 replace gz8:IsZip k8 z TI TO (rawInt k5.objs.size):=gz8
 replace b8:=b8.extBut
 have I8:Inv X pins σ (upd H k5.objs.size (.tup [x,y])) { s with heap:=k8 }:=Inv.same I7 fz6 b8
 have up:∀b o,b≠z->k5.get? b=some o->k8.get? b=some o:=fun b o ne e=>b8 _ _ ne (b7 _ _ ne (Bf _ e))
 rw[sz]at I8 gz8
 refine Bd ⟨_,rfl,?_⟩
 show Q (.ref k5.objs.size) _
 rw[sz]
 exact q x y k8 I8 yx yy gz8 (up _ _ N.a gI5) ⟨_,_,up _ _ N.b gO5⟩ (S1.keep _ _ _ t15 fun o e=>up _ o N.c e) (S2.keep _ _ _ t25 fun o e=>up _ o N.d e)
theorem xO{J1 J2:It}{z TI TO i1 i2:Addr}{t1 t2:Nat->Heap->Prop}{A:Around}{E:Value->Shared->Prop}{a b:Value}{i:Nat}{Q:Fin->Shared->Prop}(hA:A.handled=none)(S1:Sub X.prog X.w X.K J1 i1 t1)(S2:Sub X.prog X.w X.K J2 i2 t2)(N:Apart z TI TO i1 i2)
  (I:Inv X pins σ H s) (hf:∀b∈[z,TI,TO,i1,i2],bL X pins H b) (gz:IsZip s.heap z TI TO .none) (gI:IsPair s.heap TI (.ref i1) (.ref i2)) (gO:IsPair s.heap TO a b) (g1:t1 i s.heap) (g2:t2 i s.heap) (st:J1.stop i H\/(J1.go i H/\J2.stop i H))
  (q:∀h' e,Inv X pins σ H { s with heap:=h' }->(∃o,h'.get? e=some o/\o.cls=.type "StopIteration")->E (.ref e) { s with heap:=h' }) :
  wpAny (model X.prog X.w) A (Builtin.«zip.__next__» ⟨[.ref z],[]⟩) Q E s:=by
 have fz:=hf z (by simp)
 have fO:=hf TO (by simp)
 have f1:=hf i1 (by simp)
 have f2:=hf i2 (by simp)
 show wpAny _ _ (field (Value.ref z) 2 >>= _) _ _ _
 refine Bc (wpAny_field gz rfl (x:=Value.bool false) rfl ?_)
 show wpAny _ _ (field (Value.ref z) 3 >>= _) _ _ _
 refine Bc (wpAny_field gz rfl (x:=Value.ref TI) rfl ?_)
 refine Bc (wpAny_seqItems gI rfl ?_)
 show wpAny _ _ (Builtin.SmallTypes.ownedTupleIsFree (Value.ref z) >>= _) _ _ _
 refine Bc ?_
 unfold Builtin.SmallTypes.ownedTupleIsFree
 refine Bc (wpAny_field gz rfl (x:=Value.none) rfl (Bd ?_))
 simp only[if_true]
 refine Bc (wpAny_rule ?_)
 refine Bc (wpAny_field gz rfl (x:=Value.ref TO) rfl ?_)
 refine Bc (wpAny_setField_rec gz (by simp) fun k1 gz1 b1=>?_)
 replace gz1:IsZip k1 z TI TO .ellipsis:=gz1
 replace b1:=b1.extBut
 have I1:Inv X pins σ H { s with heap:=k1 }:=Inv.same (show Inv X pins σ H { s with heap:=s.heap }from I) fz b1
 refine Bc ?_
 simp only[List.zipIdx_cons,List.zipIdx_nil,List.forIn_cons,List.forIn_nil]
 refine Bc (Bc (wpAny_onRaise ?_))
 show wpAny _ _ (Builtin.SmallTypes.nextOf (Value.ref i1) >>= _) _ _ _
 have t11:t1 i k1:=S1.keep i _ _ g1 fun o e=>b1 _ _ N.c e
 rcases st with st | ⟨go,st⟩
 ·refine Bc (S1.done X rfl rfl rfl _ hA i pins _ σ H _ _ I1 f1 t11 st fun k2 e b2 he=>?_)
  obtain⟨oe,hoe,hce⟩:=he
  have gz2:IsZip k2 z TI TO .ellipsis:=b2 _ _ (Ne.symm N.c) gz1
  have I2:Inv X pins σ H { s with heap:=k2 }:=Inv.same I1 f1 b2
  have ne:e≠z:=fun x=>by subst x;rw[gz2]at hoe;cases hoe;simp at hce
  exact wpAny_setField_rec gz2 (by simp) fun k3 _ b3=>q k3 e (Inv.same I2 fz b3.extBut) ⟨oe,b3.extBut _ _ ne hoe,hce⟩
 ·refine Bc (S1.item X rfl rfl rfl _ i pins _ σ H _ _ I1 f1 t11 go fun x ux k2 I2 rx yx t12 b2=>Bd ?_)
  replace I2:Inv X pins σ H { s with heap:=k2 }:=I2
  replace b2:=b2.extBut
  have gO2:IsPair k2 TO a b:=b2 _ _ N.h (b1 _ _ N.b gO)
  refine Bc (wpAny_seqItems gO2 rfl ?_)
  refine Bc (wpAny_updateSeq_pair gO2 fun k3 gO3 b3=>?_)
  replace b3:=b3.extBut
  have I3:Inv X pins σ H { s with heap:=k3 }:=Inv.same I2 fO b3
  refine Bc (wpAny_letGo (Bd ?_))
  refine Bc (Bc (wpAny_onRaise ?_))
  show wpAny _ _ (Builtin.SmallTypes.nextOf (Value.ref i2) >>= _) _ _ _
  refine Bc (S2.done X rfl rfl rfl _ hA i pins _ σ H _ _ I3 f2 (S2.keep i _ _ g2 fun o e=>b3 _ _ (Ne.symm N.i) (b2 _ _ (Ne.symm N.j) (b1 _ _ N.d e))) st fun k4 e b4 he=>?_)
  obtain⟨oe,hoe,hce⟩:=he
  have gz4:IsZip k4 z TI TO .ellipsis:=b4 _ _ (Ne.symm N.d) (b3 _ _ (Ne.symm N.b) (b2 _ _ (Ne.symm N.c) gz1))
  have I4:Inv X pins σ H { s with heap:=k4 }:=Inv.same I3 f2 b4
  have ne:e≠z:=fun x=>by subst x;rw[gz4]at hoe;cases hoe;simp at hce
  exact wpAny_setField_rec gz4 (by simp) fun k5 _ b5=>q k5 e (Inv.same I4 fz b5.extBut) ⟨oe,b5.extBut _ _ ne hoe,hce⟩
end
theorem uY{P:Program}{w:World}{K:Be}{elts:List Expr}{kk:Nat}{ps:Pos}{J1 J2:It}{z TI TO i1 i2:Addr}{t1 t2:Nat->Heap->Prop}(S1:Sub P w K J1 i1 t1)(S2:Sub P w K J2 i2 t2)(N:Apart z TI TO i1 i2):
  Turn P w K (.Tuple elts kk ps) (gM J1 J2) [z,TI,TO,i1,i2] z (fun i h=>IsZip h z TI TO .none/\IsPair h TI (.ref i1) (.ref i2)/\(∃a b,IsPair h TO a b)/\t1 i h/\t2 i h) where
 mem:=by simp
 obj:=fun i h st b hb=>by
  obtain⟨gz,gI,⟨a,c,gO⟩,g1,g2⟩:=st
  simp only[Bw,List.not_mem_nil,or_false]at hb
  rcases hb with rfl | rfl | rfl | rfl | rfl
  ·exact⟨_,gz,fun v e=>by cases(show Data.fields _=Data.cell v from e)⟩
  ·exact⟨_,gI,fun v e=>by cases(show Data.seq _ _=Data.cell v from e)⟩
  ·exact⟨_,gO,fun v e=>by cases(show Data.seq _ _=Data.cell v from e)⟩
  ·exact S1.obj _ _ g1
  ·exact S2.obj _ _ g2
 keep:=fun i h h' st k=>by
  obtain⟨gz,gI,⟨a,c,gO⟩,g1,g2⟩:=st
  exact⟨k z (by simp) _ gz,k TI (by simp) _ gI,⟨a,c,k TO (by simp) _ gO⟩,S1.keep _ _ _ g1 fun o e=>k i1 (by simp) o e,S2.keep _ _ _ g2 fun o e=>k i2 (by simp) o e⟩
 item:=by
  intro X hP hw hK hc i pins s σ H E I hf st hg
  subst hP hw hK
  obtain⟨gz,gI,⟨a,c,gO⟩,g1,g2⟩:=st
  have gT:s.TypeIs (.ref z) "zip":=⟨_,gz,rfl⟩
  unfold pyNext
  refine Bc (wpAny_attempt (wpAny_callSpecial?_slot (name:=Str.ofString "__next__") gT F.slot_zip_next (wpAny_call_entry F.slot_zip_next gT F.entry_zip_next
   (zd S1 S2 N I hf gz gI gO g1 g2 hg.1 hg.2 fun x y h' I' yx yy gz' gI' gO' g1' g2'=>Bd ⟨_,rfl,?_⟩) (F.args_zip_next_1 _))))
  have lt:∀b∈[z,TI,TO,i1,i2],b≠s.heap.objs.size:=fun b hb=>by
   obtain⟨f0,f1,f2,f3,f4,f5⟩:=hf b hb
   simp only[Bw,List.not_mem_nil,or_false]at hb
   rcases hb with rfl | rfl | rfl | rfl | rfl
   ·exact BA (Bh gz)
   ·exact BA (Bh gI)
   ·exact BA (Bh gO)
   ·obtain⟨o,e,_⟩:=S1.obj _ _ g1;exact BA (Bh e)
   ·obtain⟨o,e,_⟩:=S2.obj _ _ g2;exact BA (Bh e)
  have fz:bL X pins (upd H s.heap.objs.size (.tup [x,y])) z:=by
   obtain⟨c0,c1,c2,c3,c4,c5⟩:=hf z (by simp)
   exact⟨by rw[ay (lt z (by simp))];exact c0,c1,c2,c3,c4,c5⟩
  obtain⟨a',c',gO'⟩:=gO'
  refine wpAny_letOwnedTupleGo_zip (s:={ s with heap:=h' }) gz' fun k gk bk=>?_
  refine⟨.ref s.heap.objs.size,upd H s.heap.objs.size (.tup [x,y]),Inv.same I' fz bk.extBut,rfl,⟨_,x,y,rfl,I.hok.fresh (BB _),rfl,yx,yy⟩,
   ⟨gk,bk.extBut _ _ N.a gI',⟨_,_,bk.extBut _ _ N.b gO'⟩,S1.keep _ _ _ g1' fun o e=>bk.extBut _ _ N.c e,S2.keep _ _ _ g2' fun o e=>bk.extBut _ _ N.d e⟩,fun b hb=>?_⟩
  rw[ay (lt b hb)]
  exact(hf b hb).1
 done:=by
  intro X hP hw hK hc i pins s σ H E I hf st hg
  subst hP hw hK
  obtain⟨gz,gI,⟨a,c,gO⟩,g1,g2⟩:=st
  have gT:s.TypeIs (.ref z) "zip":=⟨_,gz,rfl⟩
  unfold pyNext
  refine Bc (wpAny_attempt (wpAny_callSpecial?_slot (name:=Str.ofString "__next__") gT F.slot_zip_next (wpAny_call_entry F.slot_zip_next gT F.entry_zip_next
   (xO (I.ok.hd hc) S1 S2 N I hf gz gI gO g1 g2 hg fun h' e I' he=>?_) (F.args_zip_next_1 _))))
  obtain⟨o,ho,hc'⟩:=he
  refine Bc (wpAny_isInstance (s:={ s with heap:=h' }) (T:="StopIteration") (b:=true) ⟨o,ho,hc'⟩ isSubtype_stop ?_)
  exact Bd ⟨rfl,I'⟩
 self:=fun _ _ _ _ _ st h=>wpAny_pyIter_zip st.1 h
abbrev jI(h:Heap)(a:Addr):Heap:=h.push { cls:=.type "tuple_iterator",data:=.fields #[.ref a,.int 0 0] }
abbrev jV(h:Heap)(a b:Addr):Heap:=(jI h a).push { cls:=.type "tuple_iterator",data:=.fields #[.ref b,.int 0 0] }
abbrev jq(h:Heap)(a b:Addr):Heap:=(jV h a b).push { cls:=.type "tuple",data:=.seq #[.ref h.objs.size,.ref (jI h a).objs.size] }
abbrev iZ(h:Heap)(a b:Addr):Heap:=(jq h a b).push { cls:=.type "tuple",data:=.seq #[.none,.none] }
abbrev gE(h:Heap)(a b:Addr):Heap:=(iZ h a b).push { cls:=.type "zip",data:=.fields #[.none,.bool false,.bool false,.ref (jV h a b).objs.size,.ref (jq h a b).objs.size] }
theorem Ab(a b:Addr)(xs ys:Array Value):Meets (Builtin.«zip.__new__» ⟨[.type "zip",.ref a,.ref b],[]⟩) (fun _ R s=>s.heap.IsTuple a xs/\s.heap.IsTuple b ys/\R (.ok (.ret (.ref (iZ s.heap a b).objs.size))) { s with heap:=gE s.heap a b }):=
 .of_wp fun prog w A R s q=>by
  obtain⟨hp,g,d,tk,os⟩:=s;obtain⟨ga,gb,q⟩:=q
  have hsub:=sub_zip
  have gA:Heap.IsTuple (Shared.heap ⟨hp,g,d,tk,os⟩) a xs:=ga
  have gB:Heap.IsTuple (Shared.heap ⟨hp.push { cls:=.type "tuple_iterator",data:=.fields #[.ref a,.int 0 0] },g,d,tk,os⟩) b ys:=Heap.IsTuple.push gb _
  wp_walk using wpAny_pyIter_tuple gA,wpAny_pyIter_tuple gB
  exact⟨_,rfl,q⟩
theorem vq{prog:Program}{w:World}{A:Around}{E:Value->Shared->Prop}{s:Shared}{a b:Addr}{xs ys:Array Value}{Q:Value->Shared->Prop}(ga:s.heap.IsTuple a xs)(gb:s.heap.IsTuple b ys)
  (q:∀h',IsZip h' (s.heap.objs.size+4) (s.heap.objs.size+2) (s.heap.objs.size+3) .none->IsPair h' (s.heap.objs.size+2) (.ref s.heap.objs.size) (.ref (s.heap.objs.size+1))->IsPair h' (s.heap.objs.size+3) .none .none →
   h'.IsTupleIter s.heap.objs.size a 0->h'.IsTupleIter (s.heap.objs.size+1) b 0->(∀c o,s.heap.get? c=some o->h'.get? c=some o)->Q (.ref (s.heap.objs.size+4)) { s with heap:=h' }) :
  wpAny (model prog w) A (call (.type "zip") [.ref a,.ref b]) Q E s:=by
 refine callType_new F.called_zip (by decide) (F.typeCall_zip_2 _ _) (F.newCall_zip_2 _ _) (fun ob=>F.args_object_init_3 ob _ _) F.entry_zip_new (Ab a b xs ys) ⟨ga,gb,?_⟩
 have n1:(jI s.heap a).objs.size=s.heap.objs.size+1:=Heap.size_push ..
 have n2:(jV s.heap a b).objs.size=s.heap.objs.size+2:=by rw[Heap.size_push,n1]
 have n3:(jq s.heap a b).objs.size=s.heap.objs.size+3:=by rw[Heap.size_push,n2]
 have n4:(iZ s.heap a b).objs.size=s.heap.objs.size+4:=by rw[Heap.size_push,n3]
 have k5:(gE s.heap a b).get? (iZ s.heap a b).objs.size=some _:=Bg _ rfl
 have k4:(gE s.heap a b).get? (jq s.heap a b).objs.size=some _:=Bf _ (Bg _ rfl)
 have k3:(gE s.heap a b).get? (jV s.heap a b).objs.size=some _:=Bf _ (Bf _ (Bg _ rfl))
 have k2:(gE s.heap a b).get? (jI s.heap a).objs.size=some _:=Bf _ (Bf _ (Bf _ (Bg _ rfl)))
 have k1:(gE s.heap a b).get? s.heap.objs.size=some _:=Bf _ (Bf _ (Bf _ (Bf _ (Bg _ rfl))))
 show _/\_
 rw[n2,n3,n4]at k5
 rw[n1,n2]at k3
 rw[n3]at k4
 rw[n1]at k2
 rw[n4]
 exact⟨⟨_,k5,rfl⟩,q _ k5 k3 k4 ⟨_,k1,rfl,rfl⟩ ⟨_,k2,rfl,rfl⟩ fun c o x=>Bf _ (Bf _ (Bf _ (Bf _ (Bf _ x))))⟩
section
variable {K:Be} {σ:St} {H:Hp} {Q:VK}
def kZ(K:Be):List V->Hp->(It->Hp->Prop)->Prop:=fun vs H R=>∃a b xs ys,vs=[.ref a,.ref b]/\((ao K H a xs/\ao K H b ys/\R (gM (dj K a) (dj K b)) H)\/(ag K H a xs/\ag K H b ys/\R (gM (bZ K a) (bZ K b)) H))
def sr(K:Be)(ta:TA):TI:=fun σ H R=>ta σ H fun vs H1=>kZ K vs H1 R
theorem vW{X:Cx}{elts:List Expr}{kk:Nat}{ps:Pos}(K:Be){a b:Expr}{ta:TA}{p pos:Pos}(hg:Gl X "zip")(hm:X.mg "zip" = none)(ha:PA X [a,b] ta)(hK:X.K=K:=by rfl)(hs:starEach [a,b] X.env=[(false,eval a X.env),(false,eval b X.env)]:=by rfl)(hs2:starEach [b] X.env=[(false,eval b X.env)]:=by rfl):
  PI X (.Tuple elts kk ps) (.Call (.Name "zip" p) [a,b] [] pos) (sr K ta):=by
 subst hK
 intro pins s σ H R I h
 refine Call_ (iT I hg hm PyProof.Rows.boot_zip (PyProof.Rows.callWith_type1 (ah (ha pos pins s σ H _ I h) fun us s1 ⟨vs,H1,I1,r1,q1⟩=>?_) (by rw[hs,hs2]) (by rw[hs2];rfl)))
 obtain⟨l,m,xs,ys,e,q1⟩:=q1
 subst e
 cases r1 with
 | cons r rr=>
  cases rr with
  | cons r' rr=>
   cases rr
   cases r
   cases r'
   have mk:∀{J1 J2:It} {t1 t2:Nat->Heap->Prop},Sub X.prog X.w X.K J1 s1.heap.objs.size t1->Sub X.prog X.w X.K J2 (s1.heap.objs.size+1) t2->∀h',IsZip h' (s1.heap.objs.size+4) (s1.heap.objs.size+2) (s1.heap.objs.size+3) .none->IsPair h' (s1.heap.objs.size+2) (.ref s1.heap.objs.size) (.ref (s1.heap.objs.size+1)) →
     IsPair h' (s1.heap.objs.size+3) .none .none->t1 0 h'->t2 0 h'->(∀c o,s1.heap.get? c=some o->h'.get? c=some o)->R (gM J1 J2) H1->wpAny (model X.prog X.w) X.A (pyIter (.ref (s1.heap.objs.size+4))) (lK X pins σ (.Tuple elts kk ps) R) X.xe { s1 with heap:=h' }:=by
    intro J1 J2 t1 t2 S1 S2 h' gz gI gO g1 g2 k q
    refine wpAny_pyIter_zip (s:={ s1 with heap:=h' }) gz ?_
    have N:Apart (s1.heap.objs.size+4) (s1.heap.objs.size+2) (s1.heap.objs.size+3) s1.heap.objs.size (s1.heap.objs.size+1):=by
     constructor<;>(intro h;have h':@Eq Nat _ _:=h;omega)
    refine⟨s1.heap.objs.size+4,[s1.heap.objs.size+4,s1.heap.objs.size+2,s1.heap.objs.size+3,s1.heap.objs.size,s1.heap.objs.size+1],_,_,H1,rfl,I1.kept (t':=s1.toks) k,uY S1 S2 N,⟨gz,gI,⟨_,_,gO⟩,g1,g2⟩,fun b hb=>?_,q⟩
    have le:@LE.le Nat _ s1.heap.objs.size b:=by
     simp only[Bw,List.not_mem_nil,or_false]at hb
     rcases hb with rfl | rfl | rfl | rfl | rfl
     ·exact Nat.le_add_right _ _
     ·exact Nat.le_add_right _ _
     ·exact Nat.le_add_right _ _
     ·exact BB _
     ·exact Nat.le_add_right _ _
    exact I1.fpOk le (I1.hok.fresh le)
   rcases q1 with⟨ga,gb,q⟩ | ⟨ga,gb,q⟩
   ·obtain⟨its,_,p1,_⟩:=I1.tuple ga
    obtain⟨its2,_,p2,_⟩:=I1.tuple gb
    exact vq (show s1.heap.IsTuple l its.toArray from p1) (show s1.heap.IsTuple m its2.toArray from p2) fun h' gz gI gO g1 g2 k=>mk (tY l _) (tY m _) h' gz gI gO g1 g2 k q
   ·obtain⟨its,_,p1,_⟩:=I1.list ga
    obtain⟨its2,_,p2,_⟩:=I1.list gb
    exact call_zip_2 p1.isList p2.isList fun h' gz gI gO g1 g2 _ k=>mk (sL l _) (sL m _) h' gz gI gO g1 g2 k q
theorem rd_zip{a:TA}{R:It->Hp->Prop}(h:a σ H fun vs H1=>kZ K vs H1 R):sr K a σ H R:=h
theorem uZ{a b:Addr}{xs ys:List V}{R:It->Hp->Prop}(ha:ag K H a xs)(hb:ag K H b ys)(h:R (gM (bZ K a) (bZ K b)) H):kZ K [.ref a,.ref b] H R:=⟨a,b,xs,ys,rfl,.inr ⟨ha,hb,h⟩⟩
end
end L2
namespace L2
open PySem PySem.Spec PyProof.Rows
mutual
inductive LitE:Expr->TE->Prop
 | non {j pos}:LitE (.Constant .none j pos) (tC .non)
 | bl {b j pos}:LitE (.Constant (.bool b) j pos) (tC (.bl b))
 | int {i j pos}:LitE (.Constant (.int i) j pos) (tC (.int i))
 | str {x j pos}:LitE (.Constant (.str x) j pos) (tC (.str x))
 | tup {es ta k pos}:LitsE es ta->LitE (.Tuple es k pos) (jM ta)
inductive LitsE:List Expr->TA->Prop
 | nil:LitsE [] iy
 | cons {e te es ta}:LitE e te->LitsE es ta->LitsE (e::es) (iA te ta)
end
end L2
namespace L2
open PySem PySem.Spec PyProof.Rows
def eJ(c:Addr)(q:Str):HO:=.ext fun h=>h.CodeRec (.ref c) q
theorem zj{P:Program}{w:World}{H:Hp}{h:Heap}{c:Addr}{q:Str}(r:h.CodeRec (.ref c) q):bh P w H h c (eJ c q):=by
 refine⟨r,?_,fun h1 h2 r1 k=>?_⟩
 ·obtain⟨c',o,vs,t,e,g,_⟩:=r
  cases e
  exact⟨o,g⟩
 ·obtain⟨c',o,vs,t,e,g,d⟩:=r1
  cases e
  exact⟨c,o,vs,t,rfl,k o g,d⟩
section
variable {X:Cx} {pins:List (Addr×Obj)} {σ:St} {H:Hp} {s:Shared}
end
section
variable {X:Cx} {pins:List (Addr×Obj)} {σ:St} {H:Hp} {s:Shared}
end
end L2
namespace L2
open PySem PySem.Spec PyProof.Rows
structure Tab(K:Be)(mg:Str->Option Value)(base:Heap)(x:Str)(c T:Addr):Prop where
 tin:PySem.W.tabIn K x=some (c,T)
 hd:PySem.W.CodeHd base c T
 blt:base.BuiltinsAt mg T
 gl:mainGlobals≠T
 kin:K.In base
 ns:base.Ns mainGlobals mg
section
variable {P:Program} {w:World} {K:Be} {mg:Str->Option Value} {base:Heap}
theorem vd{x:Str}{c T f:Addr}{o:Obj}{fd:FuncData}(ht:PySem.W.tabIn K x=some (c,T))(KX:K.In base)(G:base.Ns mainGlobals mg)(hm:mg x=some (.ref f))(lk:K.lookup f=some o)(hd:o.data=.func fd):fd.code=.ref c:=by
 unfold PySem.W.tabIn at ht
 split at ht
 ·rename_i f' hf
  have e1:=PySem.W.mg_of KX G hf
  rw[hm]at e1
  cases e1
  split at ht
  ·rename_i hfo
   rw[lk]at hfo
   cases hfo
   cases hd
   split at ht
   ·rename_i c2 hc
    split at ht
    ·split at ht
     ·cases ht;exact hc
     ·cases ht
    ·cases ht
   ·cases ht
  ·cases ht
 ·cases ht
theorem Dfn.okL{x:Str}{st:Stmt}{N ps:List Str}{k:Nat}{sp:Sp}{c T:Addr}(D:Dfn K mg x st ps)(B:Tab K mg base x c T)(S:FnScope N ps (aO st))(len:∀vs H Q E,sp vs H Q E->vs.length=ps.length)
  (hbody:∀(X:Cx) (hX:∃f A outer s H E,X=(eM cP P w K mg base N x (aO st) f (.ref c) A outer s H E).nox/\Room k X.A) (H:Hp) (vs:List V) (Q:VK) (E:XK),sp vs H Q E →
   ∃t,bU X (dD st) t/\t { nx:=fun _ H'=>Q .non H',rt:=Q } (start N vs) H):Cal P w K mg base x (k+1) ps sp:=by
 obtain⟨f,fd,hm,F,hb⟩:=D.ex
 refine⟨f,fd,hm,F.kp,hb,?_⟩
 obtain⟨oc,od,kV,doc,pm,an,cdv,ct,osl,rfl,lk,hcd⟩:=F.ex
 have e:cdv=.ref c:=vd B.tin B.kin B.ns hm lk rfl
 subst e
 refine uN lk hcd S len fun A outer s H vs Q E hr hsp=>?_
 obtain⟨t,h,q⟩:=hbody _ ⟨f,A,outer,s,H,E,rfl,hr⟩ H vs Q E hsp
 exact⟨t,h.nox,q⟩
end
def tU(tabs:List (Addr×Addr))(H:Hp):Prop:=∀q∈tabs,H q.2=some (.tbl #[])
theorem xf{P:Program}{w:World}{K:Be}{mg mb:Str->Option Value}{k:Nat}{fa a:Addr}{fd:FuncData}{x:Str}{sp:Sp}{s₁:Shared}{vs:List Value}{ns:List Int}{tabs:List (Addr×Addr)}
  (KX:K.In s₁.heap) (hK:PySem.W.noTabs K=true) (hT:PySem.W.TabsAt tabs s₁.heap) (hns:s₁.heap.Ns mainGlobals mg) (hb:s₁.heap.Ns builtinsNs mb) (hbb:∀x:Str,x≠"__name__"->mb x=bootBuiltins x) (hlim:s₁.heap.NoLimit)
  (hbm:∃bm ob,mg "__builtins__" = some (.ref bm)/\bm≠builtinsNs/\s₁.heap.get? bm=some ob/\ob.cls=.type "module"/\ob.dict=some builtinsNs/\ob.data=.plain) (hg:s₁.gens = #[])
  (ha:s₁.heap.get? a=some { cls:=.type "list",data:=.seq vs.toArray }) (hi:IntsAre vs ns) (hl:ns.length<=sizeLine) (hr:Room k callerA)
  (F:∀base:Heap,K.In base->base.Ns mainGlobals mg->(∀q∈tabs,PySem.W.CodeHd base q.1 q.2/\base.BuiltinsAt mg q.2/\mainGlobals≠q.2)->FnOk P w K mg base cP k fa fd [x] sp) (hbind:∀(s:Shared) (u:Value),BindsTo s fd ⟨[u],[]⟩ [(x,u)])
  (hsp:∀H:Hp,tU tabs H->ag K H a (ns.map V.int)->sp [.ref a] H (fun v _=>v=.bl true) fun _ _ _=>False) :
  codeAny (model P w) callerA (.call (.ref fa) ⟨[.ref a],[]⟩) (fun r s'=>r=.ok (.ret (.bool true))/\OldK s₁.heap s'.heap/\s'.os=s₁.os/\AllBare s'.gens) s₁:=by
 have rv:=sh hi
 have lenV:=hi.length
 have na:∀q∈tabs,a≠q.2:=fun q hq z=>by
  have:=(hT q hq).2
  rw[←z,ha]at this
  cases this
 have noT:∀{b:Addr} {o:Obj},s₁.heap.get? b=some o->o≠PySem.W.tabObj #[]->b∉tabs.map (·.2):=fun{b o} e n hm=>by
  obtain⟨q,hq,rfl⟩:=List.mem_map.mp hm
  have:=(hT q hq).2
  rw[e]at this
  exact n (Option.some.inj this)
 have core:∀H:Hp,tU tabs H->ag K H a (ns.map V.int)->aU P w H s₁.heap->(∀b,H b≠none->b=a\/b∈tabs.map (·.2))->(H a≠none->K.lookup a=none/\∃o xs,H a=some (.frz o (.lst xs))) →
   codeAny (model P w) callerA (.call (.ref fa) ⟨[.ref a],[]⟩) (fun r s'=>r=.ok (.ret (.bool true))/\OldK s₁.heap s'.heap/\s'.os=s₁.os/\AllBare s'.gens) s₁:=by
  intro H hO hS hok hA hKa
  have free:∀{b:Addr} {o:Obj},s₁.heap.get? b=some o->o≠PySem.W.tabObj #[]->b≠a->H b=none:=fun{b o} e n nb=>by
   cases q:H b with
   | none=>rfl
   | some u=>
    rcases hA b (by rw[q];simp)with z | z
    ·exact absurd z nb
    ·exact absurd z (noT e n)
  have nsK:∀{b:Addr} {m:Str->Option Value},s₁.heap.Ns b m->(dR s₁.heap H).Ns b m:=fun{b m} ⟨o,es,ep,e,d,r⟩=>⟨o,es,ep,jA e (free e (fun z=>by rw[z]at d;cases d) fun z=>by rw[z,ha]at e;cases e;cases(show Data.seq vs.toArray _=Data.dict es ep from d)),d,r⟩
  have hKb:K.In (dR s₁.heap H):=fun b o e=>jA (KX b o e) (by
   by_cases z:b=a
   ·subst z
    cases q:H b with
    | none=>rfl
    | some u=>
     have:=(hKa (by rw[q];simp)).1
     rw[this]at e
     cases e
   ·refine free (KX b o e) (fun z2=>?_) z
    have h2:=BN.mp hK (b,o) (PySem.W.mem_of_lookupK e)
    subst z2
    exact absurd (show false=true from h2) Bx)
  have hM:Mod K mg (dR s₁.heap H):=⟨hKb,nsK hns,⟨mb,nsK hb,hbb⟩,let ⟨mc,h1,h2⟩:=hlim;⟨mc,nsK h1,h2⟩⟩
  have e0:Env0 P w K mg (dR s₁.heap H) callerA [] s₁ H:=⟨rfl,hM,fun b o e=>vt e,Nat.le_of_eq (As _ _),trivial,fun b hb=>absurd (show b∈([]:List Addr)from hb) (by simp),hok,.of_eq hg⟩
  have tabsB:∀q∈tabs,PySem.W.CodeHd (dR s₁.heap H) q.1 q.2/\(dR s₁.heap H).BuiltinsAt mg q.2/\mainGlobals≠q.2:=fun q hq=>by
   refine⟨?_,?_,?_⟩
   ·obtain⟨o,us,file,tf,flags,tg,inF,text,tt,e,hc,r⟩:=(hT q hq).1
    exact⟨o,us,file,tf,flags,tg,inF,text,tt,jA e (free e (fun z=>by rw[z]at hc;cases hc) fun z=>by rw[z,ha]at e;cases e;simp at hc),hc,r⟩
   ·obtain⟨bm,ob,a1,a2,a3,a4,a5⟩:=hbm
    refine⟨bm,ob,a1,a2,fun z=>?_,fun z=>?_,jA a3 (free a3 (fun z=>by rw[z]at a4;cases a4) fun z=>by rw[z,ha]at a3;cases a3;simp at a4),a4,a5⟩
    ·obtain⟨o,es,ep,e,d,_⟩:=hns
     rw[←z,a3]at e
     cases e
     rw[a5.2]at d
     cases d
    ·have:=(hT q hq).2
     rw[←z,a3]at this
     cases this
     cases a4
   ·intro z
    obtain⟨o,es,ep,e,d,_⟩:=hns
    have:=(hT q hq).2
    rw[←z,e]at this
    cases this
    cases d
  refine codeAny_mono ((F _ hKb (nsK hns) tabsB).run callerA [] s₁ H ⟨[.ref a],[]⟩ [.ref a] [.ref a] _ _ hr e0 (hbind s₁ (.ref a)) (.cons rfl .nil) (hsp H hO hS)) fun r s' h=>?_
  cases r with
  | error e=>exact False.elim h
  | ok fl=>
   cases fl with
   | next=>exact False.elim h
   | brk=>exact False.elim h
   | cont=>exact False.elim h
   | ret u=>
    obtain⟨v,H',os,bare,un,hok',r',q⟩:=h
    have q':v=.bl true:=q
    subst q'
    obtain rfl:u=Value.bool true:=r'
    have keep:∀b o,s₁.heap.get? b=some o->b∉tabs.map (·.2)->s'.heap.get? b=some o:=fun b o e nt=>by
     cases q:H b with
     | none=>exact un.keep b o e q (by intro z;exact absurd (show b∈([]:List Addr)from z) (by simp)) (by simp)
     | some u=>
      rcases hA b (by rw[q];simp)with z | z
      ·subst z
       obtain⟨_,ob,xs,z⟩:=hKa (by rw[q];simp)
       have z2:=un.frzs b ob _ z
       obtain⟨e1,_⟩:=hok b _ z
       obtain⟨e2,_⟩:=hok' b _ z2
       rw[e]at e1;cases e1
       exact e2
      ·exact absurd z nt
    have grown:∀q∈tabs,∃more,s'.heap.get? q.2=some (PySem.W.tabObj (#[]++more)):=fun q hq=>by
     obtain⟨more,e⟩:=un.tbls q.2 _ (hO q hq)
     exact⟨more,hok' q.2 _ e⟩
    refine⟨rfl,⟨fun b o e=>?_,fun b o e=>?_⟩,os,bare⟩
    ·by_cases hm:b∈tabs.map (·.2)
     ·obtain⟨q,hq,rfl⟩:=List.mem_map.mp hm
      obtain⟨more,g⟩:=grown q hq
      have e2:=(hT q hq).2
      rw[e]at e2
      cases e2
      exact .inr (.inl ⟨((hT q hq).1.tab (hT q hq).2).isCodeTable,rfl,#[],more,rfl,g⟩)
     ·exact .inl (keep b o e hm)
    ·by_cases hm:b∈tabs.map (·.2)
     ·obtain⟨q,hq,rfl⟩:=List.mem_map.mp hm
      obtain⟨more,g⟩:=grown q hq
      exact⟨_,g⟩
     ·exact⟨o,keep b o e hm⟩
 have hTok:∀(H:Hp) b,b∈tabs.map (·.2)->bh P w H s₁.heap b (.tbl #[]):=fun H b hm=>by
  obtain⟨q,hq,rfl⟩:=List.mem_map.mp hm
  exact(hT q hq).2
 cases hk:K.lookup a with
 | some o=>
  have e:=KX a o hk
  rw[ha]at e
  cases e
  have at_:∀b,(if b∈tabs.map (·.2)then some (HO.tbl #[])else none)=(none:Option HO)\/b∈tabs.map (·.2):=fun b=>by
   by_cases hb:b∈tabs.map (·.2)
   ·exact .inr hb
   ·exact .inl (if_neg hb)
  have nota:a∉tabs.map (·.2):=fun hm=>by
   obtain⟨q,hq,e⟩:=List.mem_map.mp hm
   exact na q hq e.symm
  refine core (fun b=>if b∈tabs.map (·.2)then some (.tbl #[])else none) (fun q hq=>if_pos (List.mem_map.mpr ⟨q,hq,rfl⟩)) (.inr ⟨_,vs.toArray,_,hk,rfl,rfl,rfl,by rw[Bn,lenV];exact hl,by simpa using rv⟩) (fun b u z=>?_) (fun b z=>?_) fun z=>absurd (if_neg nota) z
  ·by_cases hb:b∈tabs.map (·.2)
   ·have z':=(if_pos hb).symm.trans z
    cases z'
    exact hTok _ b hb
   ·have z':=(if_neg hb).symm.trans z
    cases z'
  ·rcases at_ b with h | h
   ·exact absurd h z
   ·exact .inr h
 | none=>
  have nota:a∉tabs.map (·.2):=fun hm=>by
   obtain⟨q,hq,e⟩:=List.mem_map.mp hm
   exact na q hq e.symm
  refine core (fun b=>if b=a then some (.frz { cls:=.type "list",data:=.seq vs.toArray } (.lst (ns.map V.int)))else if b∈tabs.map (·.2)then some (.tbl #[])else none) (fun q hq=>?_) (.inl (.inr ⟨{ cls:=.type "list",data:=.seq vs.toArray },if_pos rfl⟩)) (fun b u z=>?_) (fun b z=>?_) fun _=>⟨hk,_,_,if_pos rfl⟩
  ·show(if q.2=a then _ else _)=_
   rw[if_neg (Ne.symm (na q hq)),if_pos (List.mem_map.mpr ⟨q,hq,rfl⟩)]
  ·by_cases hb:b=a
   ·have z':=(if_pos hb).symm.trans z
    cases z'
    subst hb
    exact⟨ha,by rw[Bi];exact hl,vs,_,rv,ha⟩
   ·have z':=(if_neg hb).symm.trans z
    by_cases hb2:b∈tabs.map (·.2)
    ·have z2:=(if_pos hb2).symm.trans z'
     cases z2
     exact hTok _ b hb2
    ·have z2:=(if_neg hb2).symm.trans z'
     cases z2
  ·by_cases hb:b=a
   ·exact .inl hb
   ·by_cases hb2:b∈tabs.map (·.2)
    ·exact .inr hb2
    ·exact absurd ((if_neg hb).trans (if_neg hb2)) z
theorem vz{l:PySem.W.OpenLaw}{n k:Nat}{q:Program}{loose:List Str}{XP:(Str->Option Value)->Heap->Prop}{YP:World->Heap->Prop}{d:DefRec}{K:Params->Be}{sp:World->Sp}{x:Str}(xs:List Str)
  (hn:l.most=some n) (hn2:n<=sizeLine) (hdf:d.params.defaults=[]) (hr:Room k callerA)
  (hY:∀(w:World) (h:Heap),YP w h->(K w.params).In h) (hK:∀w:World,PySem.W.noTabs (K w.params)=true) (hrec:∀y∈xs,((recsOf q).find? (fun e=>e.name == y)).isSome=true) (htab:∀(w:World),∀y∈xs,(PySem.W.tabIn (K w.params) y).isSome=true)
  (F:∀(w:World) (mg:Str->Option Value) (fa:Addr) (h:Heap),(K w.params).In h->h.Ns mainGlobals mg->mg d.name=some (.ref fa) →
   ∃fd:FuncData,(∀(s:Shared) (u:Value),BindsTo s fd ⟨[u],[]⟩ [(x,u)]) ∧
    ∀base:Heap,(K w.params).In base->base.Ns mainGlobals mg->(∀y∈xs,∃c T,Tab (K w.params) mg base y c T)->FnOk l.prog w (K w.params) mg base cP k fa fd [x] (sp w))
  (hsp:∀(w:World) (H:Hp) (a:Addr) (ns:List Int),ns.length<=n->(∀y∈xs,∀c T,PySem.W.tabIn (K w.params) y=some (c,T)->H T=some (.tbl #[]))->ag (K w.params) H a (ns.map V.int)->sp w [.ref a] H (fun v _=>v=.bl true) fun _ _ _=>False) :
  PySem.W.WalkO q loose XP YP l.row.toRowW d [] (fun f vs=>PySem.call f vs):=by
 refine Att.AV hn hdf fun w s₀ s₁ mg mb fa o pm cd doc a vs ns G Y ho hd hcd hmg hobj hints hlen hg=>?_
 have KX:=hY w _ Y
 obtain⟨fd,hb,hF⟩:=F w mg fa _ KX G.T.g hmg
 have hT:PySem.W.TabsAt (xs.filterMap (PySem.W.tabIn (K w.params))) s₁.heap:=fun p hp=>by
  obtain⟨y,hy,e⟩:=List.mem_filterMap.mp hp
  obtain⟨dr,er⟩:=Option.isSome_iff_exists.mp (hrec y hy)
  exact PySem.W.tab_of G.T KX er e
 refine xf KX (hK w) hT G.T.g G.T.b G.T.builtins G.T.nolimit G.T.bmain hg hobj hints (BL hlen hn2) hr (fun base kb nb tb=>hF base kb nb fun y hy=>?_) hb fun H hO hS=>hsp w H a ns hlen (fun y hy c T e=>hO (c,T) (List.mem_filterMap.mpr ⟨y,hy,e⟩)) hS
 obtain⟨⟨c,T⟩,e⟩:=Option.isSome_iff_exists.mp (htab w y hy)
 obtain⟨h1,h2,h3⟩:=tb (c,T) (List.mem_filterMap.mpr ⟨y,hy,e⟩)
 exact⟨c,T,e,h1,h2,h3,kb,nb⟩
end L2
namespace L2
open PySem PySem.Spec PyProof.Rows
section
variable {prog:Program} {w:World} {A:Around} {E:Value->Shared->Prop}
theorem n6{it l:Addr}{ys:Array Value}(ne:l≠it):∀(n i:Nat) (s:Shared) (Q:List Value->Shared->Prop),s.heap.IsListIter it l i->s.heap.IsList l ys->i+n<=ys.size →
  (∀h',h'.IsListIter it l (i+n)->Heap.SameBut it s.heap h'->Q ((ys.toList.drop i).take n) { s with heap:=h' })->wpAny (model prog w) A (draw (.ref it) n) Q E s
 | 0,i,s,Q,gi,_,_,q=>by
  show wpAny _ _ (pure []) Q E s
  exact Bd (by simpa using q s.heap gi (Heap.SameBut.refl ..))
 | n+1,i,s,Q,gi,gl,le,q=>by
  have lt:i<ys.size:=by omega
  show wpAny _ _ (pyNext (Value.ref it) >>= _) Q E s
  refine Bc (wpAny_pyNext_list_item gi gl (x:=ys[i]) (by simp[lt]) fun k1 g1 b1=>?_)
  refine Bc (wpAny_holding (n6 ne n (i+1) _ _ g1 (gl.extBut b1.extBut ne) (by omega) fun k2 g2 b2=>Bd ?_))
  have e:ys.toList.drop i=ys[i]::ys.toList.drop (i+1):=by simp[List.drop_eq_getElem_cons,lt]
  have:=q k2 (by rw[show i+(n+1)=i+1+n by omega];exact g2) (b1.trans b2)
  rw[e,List.take_succ_cons]at this
  exact this
theorem A8{s:Shared}{l:Addr}{ys:Array Value}{Q:List Value->Shared->Prop}(hA:A.handled=none)(gl:s.heap.IsList l ys)
  (q:∀h',Heap.ExtBut s.heap.objs.size s.heap h'->Q ys.toList { s with heap:=h' }):wpAny (model prog w) A (unpackItems (.ref l) ys.size none) Q E s:=by
 have lt:l≠s.heap.objs.size:=by obtain⟨o,e,_⟩:=gl;exact BA (Bh e)
 unfold unpackItems
 refine Bc ?_
 unfold notIterableAtAll
 refine Bc (wpAny_specialOf gl.typeIs slot_list_iter.lookup ?_)
 refine Bd ?_
 simp only[Bool.false_eq_true,if_false]
 refine Bc (wpAny_holding (wpAny_pyIter_list gl ?_))
 refine Bc (wpAny_holding (n6 lt ys.size 0 _ _ ⟨_,Bg _ rfl,rfl,rfl⟩ (gl.push _) (by omega) fun k1 g1 b1=>?_))
 rw[show List.take ys.size (List.drop 0 ys.toList)=ys.toList by rw[List.drop_zero];exact List.take_of_length_le (by simp),if_neg (by simp)]
 refine Bc (wpAny_holding (wpAny_pyNext_list_end hA g1 ((gl.push _).extBut b1.extBut lt) (by simp) fun k2 b2=>?_))
 simp only[Option.isSome_none,Bool.false_eq_true,if_false]
 exact Bd (q k2 fun b o nb e=>b2 b o nb (b1.extBut b o nb (Bf _ e)))
theorem vf{s:Shared}{env:Env}{es:List Expr}{k:Nat}{pos:Pos}{l:Addr}{ys:Array Value}{Q:Unit->Shared->Prop}(hA:A.handled=none)(gl:s.heap.IsList l ys)(hn:(assignEach es env).length=ys.size)(hst:(assignEach es env).findIdx? (·.1)=none)
  (h:∀h',Heap.ExtBut s.heap.objs.size s.heap h'->wpAny (model prog w) A (assignInOrder ((assignEach es env).map (·.2)) ys.toList) Q E { s with heap:=h' }):wpAny (model prog w) A (assign (.Tuple es k pos) env (.ref l)) Q E s:=by
 rw[arm_assign_Tuple]
 refine Bc (wpAny_standAt ?_)
 unfold unpack
 rw[hn,hst]
 exact Bc (wpAny_holding (A8 hA gl h))
end
section
variable {X:Cx} {pos:Pos}
def pq(K:Be)(n:Nat)(t:dh):TG:=fun v σ H Q=>∃a xs,v=.ref a/\ag K H a xs/\xs.length=n/\t xs σ H Q
theorem yj{es:List Expr}{k:Nat}{t:dh}{n:Nat}(K:Be)(hc:X.calm=true)(h:gh X es t)(hK:X.K=K:=by rfl)
  (hn:(assignEach es X.env).length=n:=by rfl) (hst:(assignEach es X.env).findIdx? (·.1)=none:=by rfl):PG X (.Tuple es k pos) (pq K n t):=by
 subst hK
 intro pins s σ H v u Q I r hw
 obtain⟨a,xs,e1,hq,hl,hw⟩:=hw
 subst e1
 cases r
 obtain⟨its,rv,ht,hz⟩:=I.list hq
 refine vf (I.ok.hd hc) ht.isList (by simp[hn,←hl,rv.length]) hst fun h' hx=>?_
 have I1:Inv X pins σ H { s with heap:=h' }:=I.kept (t':=s.toks) fun b o e=>hx b o (BA (Bh e)) e
 exact h pins _ σ H xs _ Q I1 (by simpa using rv) hw
end
theorem yA{K:Be}{σ:St}{H:Hp}{n:Nat}{g:dh}{a:Addr}{xs:List V}{R:St->Hp->Prop}(e:ag K H a xs)(hl:xs.length=n)(h:g xs σ H R):pq K n g (.ref a) σ H R:=⟨a,xs,rfl,e,hl,h⟩
theorem rd_par{i j:Nat}{ta:TA}{D:Ends}{σ:St}{H:Hp}(h:ta σ H fun vs H1=>∃v w,vs=[v,w]/\D.nx ((σ.set i (some v)).set j (some w)) H1):uI i j ta D σ H:=h
theorem rd_par2{v w:V}{R:V->V->Prop}(h:R v w):∃a b,[v,w]=[a,b]/\R a b:=⟨v,w,rfl,h⟩
def Et(H H':Hp):Prop:=∀b o,H b=some o->(∀ps,o≠.tbl ps)->H' b=some o
theorem Ext.et{H H':Hp}(e:Ext H H'):Et H H':=fun b o h _=>e b o h
theorem Et.trans{H H1 H2:Hp}(a:Et H H1)(b:Et H1 H2):Et H H2:=fun x o h n=>b x o (a x o h n) n
def b9(K:Be)(x q:Str)(line col:Nat)(H:Hp):Prop:=∀c T,PySem.W.tabIn K x=some (c,T) →
 H T=some (.tbl #[])\/∃c',H T=some (.tbl #[rawInt line,rawInt col,.ref c'])/\H c'=some (eJ c' q)
theorem b9.ext{K:Be}{x q:Str}{line col:Nat}{H H':Hp}(e:Ext H H')(h:b9 K x q line col H):b9 K x q line col H':=fun c T ht=>by
 rcases h c T ht with h | ⟨c',h1,h2⟩
 ·exact .inl (e _ _ h)
 ·exact .inr ⟨c',e _ _ h1,e _ _ h2⟩
end L2
namespace L2
open PySem PySem.Spec PyProof.Rows
section
variable {κ:Type} [DecidableEq κ]
def aX(kvs:List (κ×V))(k:κ):Option V:=(kvs.find? fun kv=>decide (kv.1=k)).map (·.2)
def putK(kvs:List (κ×V))(k:κ)(v:V):List (κ×V):=
 if(kvs.any fun kv=>decide (kv.1=k))=true then kvs.map (fun kv=>if kv.1=k then(kv.1,v)else kv)else kvs++[(k,v)]
theorem de{p:κ×V}{r:List (κ×V)}{k:κ}(e:p.1=k):aX (p::r) k=some p.2:=by simp[aX,List.find?_cons,e]
theorem cR{p:κ×V}{r:List (κ×V)}{k:κ}(e:¬p.1=k):aX (p::r) k=aX r k:=by simp[aX,List.find?_cons,e]
theorem iK(k:κ):∀kvs:List (κ×V),(kvs.any fun kv=>decide (kv.1=k))=(aX kvs k).isSome
 | []=>rfl
 | p::r=>by
  rw[List.any_cons]
  by_cases e:p.1=k
  ·simp only[de e,decide_eq_true e,Bool.true_or,Option.isSome_some]
  ·rw[cR e,decide_eq_false e,Bool.false_or];exact iK k r
theorem pO(k j:κ)(y:V):∀kvs:List (κ×V),aX (kvs.map fun kv=>if kv.1=k then(kv.1,y)else kv) j=(aX kvs j).map fun x=>if j=k then y else x
 | []=>rfl
 | p::r=>by
  have ih:=pO k j y r
  rw[List.map_cons]
  by_cases h:p.1=k
  ·rw[if_pos h]
   by_cases e:p.1=j
   ·rw[de (p:=(p.1,y)) e,de e,Option.map_some,if_pos (e.symm.trans h)]
   ·rw[cR (p:=(p.1,y)) e,cR e,ih]
  ·rw[if_neg h]
   by_cases e:p.1=j
   ·rw[de (p:=p) e,de e,Option.map_some,if_neg (fun z=>h (e.trans z))]
   ·rw[cR (p:=p) e,cR e,ih]
theorem rY(k j:κ)(y:V):∀kvs:List (κ×V),aX kvs k=none->aX (kvs++[(k,y)]) j=if j=k then some y else aX kvs j
 | [],_=>by
  by_cases e:k=j
  ·rw[if_pos e.symm];exact de (p:=(k,y)) e
  ·rw[if_neg (fun z=>e z.symm)];exact cR (p:=(k,y)) e
 | p::r,hn=>by
  rw[List.cons_append]
  have hk:¬p.1=k:=fun z=>by rw[de z]at hn;cases hn
  rw[cR hk]at hn
  have ih:=rY k j y r hn
  by_cases e:p.1=j
  ·rw[de e,de e,if_neg (fun z=>hk (e.trans z))]
  ·rw[cR e,cR e,ih]
theorem uo(kvs:List (κ×V))(k j:κ)(y:V):aX (putK kvs k y) j=if j=k then some y else aX kvs j:=by
 unfold putK
 by_cases a:(kvs.any fun kv=>decide (kv.1=k))=true
 ·rw[if_pos a,pO]
  rw[iK]at a
  by_cases e:j=k
  ·obtain⟨x,hx⟩:=Option.isSome_iff_exists.mp a
   rw[if_pos e,e,hx,Option.map_some,if_pos rfl]
  ·rw[if_neg e]
   cases aX kvs j with
   | none=>rfl
   | some x=>rw[Option.map_some,if_neg e]
 ·rw[if_neg a]
  refine rY k j y kvs ?_
  rw[iK]at a
  cases q:aX kvs k with
  | none=>rfl
  | some x=>rw[q]at a;exact(a rfl).elim
theorem lA(kvs:List (κ×V))(k:κ)(v:V):(putK kvs k v).length<=kvs.length+1:=by
 unfold putK
 split
 ·rw[Bi];omega
 ·rw[Bz,BI,List.length_nil];omega
theorem oi{kvs:List (κ×V)}{k:κ}(v:V)(h:aX kvs k=none):putK kvs k v=kvs++[(k,v)]:=by
 unfold putK
 rw[iK,h]
 exact if_neg (by decide)
theorem dF.isSome_eq{o:Option V}{u:Option Value}(r:dF o u):o.isSome=u.isSome:=by
 cases o with
 | none=>cases u with
  | none=>rfl
  | some _=>exact(show False from r).elim
 | some _=>cases u with
  | none=>exact(show False from r).elim
  | some _=>rfl
theorem KV.val{kvs:List (κ×V)}{vs:List (κ×Value)}(r:KV kvs vs)(k:κ):dF (aX kvs k) (valueAt vs k):=by
 unfold KV at r
 induction r with
 | nil=>exact True.intro
 | @cons p q ps qs h t ih=>
  obtain⟨h1,h2⟩:=h
  by_cases e:p.1=k
  ·have e':q.1=k:=h1.symm.trans e
   have b:valueAt (q::qs) k=some q.2:=by simp[valueAt,List.find?_cons,e']
   rw[de e,b];exact h2
  ·have e':¬q.1=k:=fun z=>e (h1.trans z)
   have b:valueAt (q::qs) k=valueAt qs k:=by simp[valueAt,List.find?_cons,e']
   rw[cR e,b];exact ih
theorem KV.any{kvs:List (κ×V)}{vs:List (κ×Value)}(r:KV kvs vs)(k:κ):(kvs.any fun kv=>decide (kv.1=k))=vs.any fun kv=>decide (kv.1=k):=by
 unfold KV at r
 induction r with
 | nil=>rfl
 | cons h t ih=>rw[List.any_cons,List.any_cons,ih,h.1]
theorem KV.repl{kvs:List (κ×V)}{vs:List (κ×Value)}(r:KV kvs vs)(k:κ){y:V}{u:Value}(ry:RelV y u):
  KV (kvs.map fun kv=>if kv.1=k then(kv.1,y)else kv) (vs.map fun kv=>if kv.1=k then(kv.1,u)else kv):=by
 unfold KV at r ⊢
 induction r with
 | nil=>exact .nil
 | @cons p q ps qs h t ih=>
  rw[List.map_cons,List.map_cons]
  refine .cons ?_ ih
  obtain⟨h1,h2⟩:=h
  by_cases e:p.1=k
  ·rw[if_pos e,if_pos (h1.symm.trans e)];exact⟨h1,ry⟩
  ·rw[if_neg e,if_neg (fun z=>e (h1.trans z))];exact⟨h1,h2⟩
theorem KV.put{kvs:List (κ×V)}{vs:List (κ×Value)}(r:KV kvs vs)(k:κ){y:V}{u:Value}(ry:RelV y u):KV (putK kvs k y) (stored vs k u):=by
 unfold putK stored
 rw[r.any k]
 by_cases e:(vs.any fun kv=>decide (kv.1=k))=true
 ·rw[if_pos e,if_pos e];exact r.repl k ry
 ·rw[if_neg e,if_neg e];exact Paired.snoc r ⟨rfl,ry⟩
theorem KV.keys{kvs:List (κ×V)}{vs:List (κ×Value)}(r:KV kvs vs):kvs.map (·.1)=vs.map (·.1):=by
 unfold KV at r
 induction r with
 | nil=>rfl
 | cons h t ih=>rw[List.map_cons,List.map_cons,ih,h.1]
theorem KV.length{kvs:List (κ×V)}{vs:List (κ×Value)}(r:KV kvs vs):kvs.length=vs.length:=Paired.length r
end
theorem fB{P:Program}{w:World}{k:Key}{u:Value}(r:RelV (kV k) u):(aw P w).is k u=true:=by
 cases k with
 | inl i=>obtain⟨t,e⟩:=(show ∃t,u=Value.int i t from r);subst e;exact xF P w i t
 | inr x=>obtain⟨t,e⟩:=(show ∃t,u=Value.str x t from r);subst e;exact nM P w x t
theorem lJ{P:Program}{w:World}:∀{ks:List Key} {us:List Value},Vals (ks.map kV) us->ItemsAre (aw P w) ks us
 | [],_,r=>by rw[List.map_nil]at r;cases r;exact .nil
 | k::ks,_,r=>by
  rw[List.map_cons]at r
  cases r with
  | cons h t=>exact .cons (fB h) (lJ t)
abbrev KT(H:Hp):List (List Key×V)->List (List Key×Addr×Value)->Prop:=Paired fun p q=>p.1=q.1/\H q.2.1=some (.tup (p.1.map kV))/\RelV p.2 q.2.2
theorem KT.val{H:Hp}{kvs:List (List Key×V)}{xs:List (List Key×Addr×Value)}(r:KT H kvs xs)(k:List Key):dF (aX kvs k) ((atKey xs k).map (·.2)):=by
 induction r with
 | nil=>exact True.intro
 | @cons p q ps qs h t ih=>
  obtain⟨h1,_,h2⟩:=h
  by_cases e:p.1=k
  ·have e':q.1=k:=h1.symm.trans e
   have b:atKey (q::qs) k=some q.2:=by simp[atKey,List.find?_cons,e']
   rw[de e,b];exact h2
  ·have e':¬q.1=k:=fun z=>e (h1.trans z)
   have b:atKey (q::qs) k=atKey qs k:=by simp[atKey,List.find?_cons,e']
   rw[cR e,b];exact ih
theorem KT.repl{H:Hp}{kvs:List (List Key×V)}{xs:List (List Key×Addr×Value)}(r:KT H kvs xs)(k:List Key){y:V}{u:Value}(ry:RelV y u):
  KT H (kvs.map fun kv=>if kv.1=k then(kv.1,y)else kv) (xs.map (putAt k u)):=by
 induction r with
 | nil=>exact .nil
 | @cons p q ps qs h t ih=>
  rw[List.map_cons,List.map_cons]
  refine .cons ?_ ih
  obtain⟨h1,h2,h3⟩:=h
  unfold putAt
  by_cases e:p.1=k
  ·rw[if_pos e,if_pos (h1.symm.trans e)];exact⟨h1,h2,ry⟩
  ·rw[if_neg e,if_neg (fun z=>e (h1.trans z))];exact⟨h1,h2,h3⟩
theorem KT.put{H:Hp}{kvs:List (List Key×V)}{xs:List (List Key×Addr×Value)}(r:KT H kvs xs)(k:List Key){b:Addr}{y:V}{u:Value}(hb:H b=some (.tup (k.map kV)))(ry:RelV y u):
  KT H (putK kvs k y) (storedH xs k b u):=by
 have e:(kvs.any fun kv=>decide (kv.1=k))=(atKey xs k).isSome:=by
  rw[iK,(r.val k).isSome_eq,Option.isSome_map]
 unfold putK storedH
 rw[e]
 by_cases q:(atKey xs k).isSome=true
 ·rw[if_pos q,if_pos q];exact r.repl k ry
 ·rw[if_neg q,if_neg q];exact Paired.snoc r ⟨rfl,hb,ry⟩
theorem KT.keeps{H H':Hp}{kvs:List (List Key×V)}{xs:List (List Key×Addr×Value)}(r:KT H kvs xs)(ht:∀b ys,H b=some (.tup ys)->H' b=some (.tup ys)):KT H' kvs xs:=
 Paired.mapP r fun _ _ z=>⟨z.1,ht _ _ z.2.1,z.2.2⟩
section
variable {P:Program} {w:World} {H:Hp} {h:Heap} {a:Addr}
theorem qE{u:HO}(ok:aU P w H h)(e:Rd H a u):bh P w H h a u:=e.ok ok
theorem ip{kvs:List (Key×V)}(ok:aU P w H h)(e:Rd H a (.dK kvs)):kvs.length<=sizeLine/\(a == sysModules)=false/\∃vs,KV kvs vs/\h.DictOf (aw P w) a vs:=
 show bh P w H h a (.dK kvs)from qE ok e
theorem qh{kvs:List (Key×V)}(ok:aU P w H h)(e:H a=some (.dK kvs)):kvs.length<=sizeLine/\(a == sysModules)=false/\∃vs,KV kvs vs/\h.DictOf (aw P w) a vs:=ip ok (.inl e)
theorem gN{ks:List Key}(ok:aU P w H h)(e:H a=some (.tup (ks.map kV))):(tupleKind (aw P w)).is h ks a:=by
 obtain⟨_,its,r,o,h1,h2,n,h3⟩:=(show bh P w H h a (.tup (ks.map kV))from ok a _ e)
 exact⟨o,its.toArray,n,h1,h2,h3,by simpa using lJ r⟩
theorem g8{kvs:List (List Key×V)}(ok:aU P w H h)(e:Rd H a (.dT kvs)):kvs.length<=sizeLine/\(a == sysModules)=false ∧
  ∃xs,KT H kvs xs/\h.DictOfH (tupleKind (aw P w)) a xs:=by
 obtain⟨z,y,xs,r,o,es,ep,h1,h2,h3,h4,h5⟩:=(show bh P w H h a (.dT kvs)from qE ok e)
 refine⟨z,y,xs,r,o,es,ep,h1,h2,h3,h4,fun x hx=>?_,h5⟩
 have all:∀{l:List (List Key×V)} {m:List (List Key×Addr×Value)},KT H l m->∀x∈m,(tupleKind (aw P w)).is h x.1 x.2.1:=by
  intro l m q
  induction q with
  | nil=>intro x hx;exact nomatch hx
  | @cons p q ps qs hq t ih=>
   intro x hx
   rcases Bw.mp hx with e | hx
   ·subst e
    exact gN ok (by rw[←hq.1];exact hq.2.1)
   ·exact ih x hx
 exact all r x hx
theorem rJ{kvs:List (List Key×V)}(ok:aU P w H h)(e:H a=some (.dT kvs)):kvs.length<=sizeLine/\(a == sysModules)=false ∧
  ∃xs,KT H kvs xs/\h.DictOfH (tupleKind (aw P w)) a xs:=g8 ok (.inl e)
end
def bM(H:Hp)(a:Addr)(y:V)(r:Option V):Prop:=
 (∃kvs k,Rd H a (.dK kvs)/\y=kV k/\r=aX kvs k)\/∃kvs k b,Rd H a (.dT kvs)/\y=.ref b/\H b=some (.tup (k.map kV))/\r=aX kvs k
def eA(H:Hp)(a:Addr)(y v:V)(H':Hp):Prop:=
 (∃kvs k,H a=some (.dK kvs)/\y=kV k/\kvs.length<sizeLine/\H'=upd H a (.dK (putK kvs k v))) ∨
 ∃kvs k b,H a=some (.dT kvs)/\y=.ref b/\H b=some (.tup (k.map kV))/\kvs.length<sizeLine/\H'=upd H a (.dT (putK kvs k v))
theorem bM.k{H:Hp}{a:Addr}{kvs:List (Key×V)}{k:Key}(e:H a=some (.dK kvs)):bM H a (kV k) (aX kvs k):=.inl ⟨kvs,k,.inl e,rfl,rfl⟩
theorem bM.t{H:Hp}{a b:Addr}{kvs:List (List Key×V)}{k:List Key}(e:H a=some (.dT kvs))(eb:H b=some (.tup (k.map kV))):bM H a (.ref b) (aX kvs k):=.inr ⟨kvs,k,b,.inl e,rfl,eb,rfl⟩
theorem eA.k{H:Hp}{a:Addr}{kvs:List (Key×V)}{k:Key}{v:V}(e:H a=some (.dK kvs))(hl:kvs.length<sizeLine):eA H a (kV k) v (upd H a (.dK (putK kvs k v))):=.inl ⟨kvs,k,e,rfl,hl,rfl⟩
theorem eA.t{H:Hp}{a b:Addr}{kvs:List (List Key×V)}{k:List Key}{v:V}(e:H a=some (.dT kvs))(eb:H b=some (.tup (k.map kV)))(hl:kvs.length<sizeLine):
  eA H a (.ref b) v (upd H a (.dT (putK kvs k v))):=.inr ⟨kvs,k,b,e,rfl,eb,hl,rfl⟩
section
variable {X:Cx} {pins:List (Addr×Obj)} {σ:St} {H:Hp} {s:Shared} {a:Addr} {y v:V} {u r:Value} {o:Option V} {A:Around} {E:Value->Shared->Prop}
theorem Inv.big(I:Inv X pins σ H s):sysModules<s.heap.objs.size:=by
 have h:mainGlobals<s.heap.objs.size:=(I.mod.glob.keeps I.bk).lt
 exact Nat.lt_trans (by decide) h
theorem zw{Q:Value->Shared->Prop}(hu:A.units+1<cLine)(I:Inv X pins σ H s)(g:bM H a y (some v))(ry:RelV y u)(h:∀w' s',Inv X pins σ H s'->RelV v w'->Q w' s'):
  wpAny (model X.prog X.w) A (getItem (.ref a) u) Q E s:=by
 rcases g with⟨kvs,k,e,ey,l⟩ | ⟨kvs,k,b,e,ey,eb,l⟩
 ·subst ey
  obtain⟨z,hd,vs,rel,dd⟩:=ip I.hok e
  obtain⟨w',hw,rw'⟩:=dF.some_of (v:=v) (o:=valueAt vs k) (by rw[l];exact rel.val k)
  exact wpAny_getItem_of (fB ry) dd.mapOf hw (h w' _ (I.tok _) rw')
 ·subst ey
  cases(show u=Value.ref b from ry)
  obtain⟨z,hd,xs,rel,dd⟩:=g8 I.hok e
  obtain⟨w',hw,rw'⟩:=dF.some_of (v:=v) (o:=(atKey xs k).map (·.2)) (by rw[l];exact rel.val k)
  obtain⟨p,hp,hp2⟩:=Bt.mp hw
  refine wpAny_getItem_heap (tupleKind_room_in1 hu) (gN I.hok eb) dd hp ?_
  rw[hp2]
  exact h w' _ (I.tok _) rw'
theorem yh{Q:Value->Shared->Prop}(hu:A.units+1<cLine)(I:Inv X pins σ H s)(g:bM H a y o)(ry:RelV y u)(h:∀s',Inv X pins σ H s'->Q (.bool o.isSome) s'):
  wpAny (model X.prog X.w) A (compareOp .In u (.ref a)) Q E s:=by
 rcases g with⟨kvs,k,e,ey,l⟩ | ⟨kvs,k,b,e,ey,eb,l⟩
 ·subst ey
  obtain⟨z,hd,vs,rel,dd⟩:=ip I.hok e
  refine wpAny_in_of (fB ry) hd dd.mapOf ?_
  rw[←(rel.val k).isSome_eq,←l]
  exact h _ (I.tok _)
 ·subst ey
  cases(show u=Value.ref b from ry)
  obtain⟨z,hd,xs,rel,dd⟩:=g8 I.hok e
  refine wpAny_in_heap (tupleKind_room_in1 hu) (gN I.hok eb) hd dd ?_
  have q:=(rel.val k).isSome_eq
  rw[Option.isSome_map]at q
  rw[←q,←l]
  exact h _ (I.tok _)
theorem AD{Q:Value->Shared->Prop}(hu:A.units+1<cLine)(I:Inv X pins σ H s)(g:bM H a y o)(ry:RelV y u)(h:∀s',Inv X pins σ H s'->Q (.bool (!o.isSome)) s'):
  wpAny (model X.prog X.w) A (compareOp .NotIn u (.ref a)) Q E s:=by
 rcases g with⟨kvs,k,e,ey,l⟩ | ⟨kvs,k,b,e,ey,eb,l⟩
 ·subst ey
  obtain⟨z,hd,vs,rel,dd⟩:=ip I.hok e
  refine wpAny_notIn_of (fB ry) hd dd.mapOf ?_
  rw[←(rel.val k).isSome_eq,←l]
  exact h _ (I.tok _)
 ·subst ey
  cases(show u=Value.ref b from ry)
  obtain⟨z,hd,xs,rel,dd⟩:=g8 I.hok e
  refine wpAny_notIn_heap (tupleKind_room_in1 hu) (gN I.hok eb) hd dd ?_
  have q:=(rel.val k).isSome_eq
  rw[Option.isSome_map]at q
  rw[←q,←l]
  exact h _ (I.tok _)
theorem jC{h':Heap}{t':Nat}{ob:HO}(I:Inv X pins σ H s)(mu:iQ (H a))(hs:Heap.SameBut a s.heap h')(he:∃q,h'.get? a=some q)(new:bh X.prog X.w (upd H a ob) h' a ob):
  Inv X pins σ (upd H a ob) { s with heap:=h',toks:=t' }:=
 I.write (x:=a) (e:=a) mu (.inl rfl) (fun b q hb z=>(hs.2 b hb).trans z) he new
theorem sJ{P:Program}{w:World}{H':Hp}{h':Heap}{kvs:List (Key×V)}{vs:List (Key×Value)}(z:kvs.length<=sizeLine)(hd:(a == sysModules)=false)(rel:KV kvs vs)(dd:h'.DictOf (aw P w) a vs):
  bh P w H' h' a (.dK kvs):=⟨z,hd,vs,rel,dd⟩
theorem AS{H':Hp}{Q:Unit->Shared->Prop}(hu:A.units+1<cLine)(I:Inv X pins σ H s)(g:eA H a y v H')(ry:RelV y u)(rv:RelV v r)(h:∀s',Inv X pins σ H' s'->Q () s'):
  wpAny (model X.prog X.w) A (setItem (.ref a) u r) Q E s:=by
 rcases g with⟨kvs,k,e,ey,l,eH⟩ | ⟨kvs,k,b,e,ey,eb,l,eH⟩
 ·subst ey eH
  obtain⟨z,hd,vs,rel,dd⟩:=qh I.hok e
  have hz:vs.length<=sizeLine:=by rw[←rel.length];exact z
  have hl:(putK kvs k v).length<=sizeLine:=by have:=lA kvs k v;omega
  refine wpAny_setItem_pairs (hsz:=hz) (fB ry) dd fun h' dd' hs=>h _ ?_
  have he:∃q,h'.get? a=some q:=let ⟨q,_,_,hq,_⟩:=dd';⟨q,hq⟩
  exact jC I (by rw[e];exact True.intro) hs he (sJ hl hd (rel.put k rv) dd')
 ·subst ey eH
  cases(show u=Value.ref b from ry)
  obtain⟨z,hd,xs,rel,dd⟩:=rJ I.hok e
  have hz:xs.length<=sizeLine:=by rw[←Paired.length rel];exact z
  have hl:(putK kvs k v).length<=sizeLine:=by have:=lA kvs k v;omega
  refine wpAny_setItem_heap (hsz:=hz) (tupleKind_room_in1 hu) (gN I.hok eb) dd fun h' dd' hs=>h _ ?_
  obtain⟨q,es,ep,hq,h2,h3,h4,_,h5⟩:=dd'
  refine jC I (by rw[e];exact True.intro) hs ⟨q,hq⟩ ⟨hl,hd,_,(rel.put k eb rv).keeps fun c ys ec=>?_,q,es,ep,hq,h2,h3,h4,h5⟩
  rw[ay (cJ ec e (fun z=>nomatch z))]
  exact ec
end
section
variable {X:Cx} {pins:List (Addr×Obj)} {σ:St} {H:Hp} {s:Shared} {a:Addr} {kvs:List (Key×V)} {k:Key} {u:Value} {A:Around} {E:Value->Shared->Prop}
end
def oO(i:Expr):Prop:=∀ov iv,subscripted i false ov iv=operate [ov,iv] (getItem ov iv)
theorem Aw{prog:Program}{w:World}{A:Around}{E:Value->Shared->Prop}{s:Shared}{env:Env}{value slice:Expr}{pos:Pos}{T id:String}{Q:Value->Shared->Prop}
  (hl:typeLookup (.type T) "__getitem__" = pure (some (.builtin id))) (hs:oO slice)
  (h:wpAny (model prog w) A (eval value env) (fun o s₁=>wpAny (model prog w) A (eval slice env) (fun i s₂=>s₂.TypeIs o T/\wpAny (model prog w) A (getItem o i) Q E s₂) E s₁) E s) :
  wpAny (model prog w) A (eval (.Subscript value slice pos) env) Q E s:=by
 refine Subscript_ (wpAny_mono h (fun o s₁ h₁=>wpAny_mono h₁ (fun i s₂ h₂=>?_) fun _ _ x=>x) fun _ _ x=>x)
 obtain⟨hT,h₂⟩:=h₂
 unfold subscriptTail
 refine Bc ?_
 rw[getitemInPython_of_ne hT.not_modules]
 refine Bc (wpAny_specialOf hT hl ?_)
 have fin:wpAny (model prog w) A (subscripted slice false o i) (fun r s₃=>wpAny (model prog w) A (letTemporaryGo value o r >>= fun _=>pure r) Q E s₃) E s₂:=by
  rw[hs o i]
  exact wpAny_operating (wpAny_mono h₂ (fun r s₃ h₃=>Bc (wpAny_letTemporaryGo (Bd h₃))) fun _ _ x=>x)
 first
  | exact Bd (Bc fin)
  | exact Bc (Bd (Bc fin))
  | exact Bc fin
theorem zG{X:Cx}{pins:List (Addr×Obj)}{σ:St}{H:Hp}{s:Shared}{a:Addr}{y:V}{o:Option V}(I:Inv X pins σ H s)(g:bM H a y o):s.TypeIs (.ref a) "dict":=by
 rcases g with⟨kvs,k,e,_,_⟩ | ⟨kvs,k,b,e,_,_,_⟩
 ·obtain⟨_,_,vs,_,dd⟩:=ip I.hok e
  exact dd.typeIs
 ·obtain⟨_,_,xs,_,dd⟩:=g8 I.hok e
  exact dd.typeIs
def oU(td ty:TE):TE:=fun σ H Q=>td σ H fun x H1=>ty σ H1 fun y H2=>∃a v,x=.ref a/\bM H2 a y (some v)/\Q v H2
def sT(ty td:TE):TE:=fun σ H Q=>ty σ H fun y H1=>td σ H1 fun x H2=>∃a o,x=.ref a/\bM H2 a y o/\Q (.bl o.isSome) H2
def nZ(ty td:TE):TE:=fun σ H Q=>ty σ H fun y H1=>td σ H1 fun x H2=>∃a o,x=.ref a/\bM H2 a y o/\Q (.bl (!o.isSome)) H2
def r9(td ty tv:TE):TS:=fun D σ H=>tv σ H fun v H1=>td σ H1 fun x H2=>ty σ H2 fun y H3=>∃a H4,x=.ref a/\eA H3 a y v H4/\D.nx σ H4
section
variable {X:Cx} {o i e value:Expr} {pos pos' tpos:Pos} {td ty tv:TE}
theorem jy(hu:X.A.units+1<cLine)(ho:PE X o td)(hi:PE X i ty)(hs:oO i):PE X (.Subscript o i pos) (oU td ty):=by
 intro pins s σ H Q I h
 refine Aw PySem.F.slot_dict_getitem.lookup hs (ah (ho pins s σ H _ I h) fun u s1 ⟨x,H1,I1,rx,q1⟩=>ah (hi pins s1 σ H1 _ I1 q1) fun iv s2 ⟨y,H2,I2,ry,a,v,ex,g,q2⟩=>?_)
 subst ex
 obtain rfl:u=Value.ref a:=rx
 exact⟨zG I2 g,zw hu I2 g ry fun w' s3 I3 rw'=>⟨v,H2,I3,rw',q2⟩⟩
theorem yV(hu:X.A.units+1<cLine)(hi:PE X i ty)(ho:PE X o td):PC X .In i o (sT ty td):=by
 intro pins s σ H Q I h
 refine ah (hi pins s σ H _ I h) fun iv s1 ⟨y,H1,I1,ry,q1⟩=>ah (ho pins s1 σ H1 _ I1 q1) fun u s2 ⟨x,H2,I2,rx,a,ov,ex,g,q2⟩=>?_
 subst ex
 obtain rfl:u=Value.ref a:=rx
 exact yh hu I2 g ry fun s3 I3=>⟨.bl ov.isSome,H2,I3,rfl,q2⟩
theorem Av(hu:X.A.units+1<cLine)(hi:PE X i ty)(ho:PE X o td):PC X .NotIn i o (nZ ty td):=by
 intro pins s σ H Q I h
 refine ah (hi pins s σ H _ I h) fun iv s1 ⟨y,H1,I1,ry,q1⟩=>ah (ho pins s1 σ H1 _ I1 q1) fun u s2 ⟨x,H2,I2,rx,a,ov,ex,g,q2⟩=>?_
 subst ex
 obtain rfl:u=Value.ref a:=rx
 exact AD hu I2 g ry fun s3 I3=>⟨.bl (!ov.isSome),H2,I3,rfl,q2⟩
theorem pP(hu:X.A.units+1<cLine)(ho:PE X o td)(hi:PE X i ty)(hv:PE X value tv)(hs:swapsWith value (some (.Subscript o i pos')) pos.line X.env=pure false):
  PS X (.Assign [.Subscript o i pos'] value pos) (r9 td ty tv):=by
 intro pins s σ H D I h
 refine wpAny_Assign_Subscript (ah (hv pins s σ H _ I h) fun r s1 ⟨v,H1,I1,rv,q1⟩=>ah (ho pins s1 σ H1 _ I1 q1) fun u s2 ⟨x,H2,I2,rx,q2⟩=>ah (hi pins s2 σ H2 _ I2 q2) fun iv s3 ⟨y,H3,I3,ry,a,H4,ex,g,q3⟩=>?_) hs
 subst ex
 obtain rfl:u=Value.ref a:=rx
 exact AS hu I3 g ry rv fun s4 I4=>⟨σ,H4,I4,q3⟩
end
theorem oy{P:Program}{w:World}{H:Hp}(h:Heap)(hb:sysModules<h.objs.size):bh P w H (h.push { cls:=.type "dict",data:=.dict #[] }) h.objs.size (.dK []):=
 ⟨Nat.zero_le _,beq_eq_false_iff_ne.mpr (Ne.symm (BA hb)),[],.nil,Heap.DictOf.new h⟩
theorem xG{P:Program}{w:World}{H:Hp}(h:Heap)(hb:sysModules<h.objs.size):bh P w H (h.push { cls:=.type "dict",data:=.dict #[] }) h.objs.size (.dT []):=
 ⟨Nat.zero_le _,beq_eq_false_iff_ne.mpr (Ne.symm (BA hb)),[],.nil,_,#[],0,Bg _ rfl,⟨rfl,rfl,rfl⟩,rfl,rfl,List.nodup_nil⟩
def AN:TE:=fun _ H Q=>∀p,H p=none->Q (.ref p) (upd H p (.dK []))
section
variable {X:Cx} {pos:Pos}
theorem wV:PE X (.Dict [] [] pos) AN:=fun pins s σ H Q I h=>
 wpAny_Dict_empty ⟨.ref s.heap.objs.size,_,I.laid (a:=s.heap.objs.size) (o:=.dK []) (t':=s.toks) (fun _ _ q=>Bf _ q) (BB _) (oy s.heap I.big),rfl,h _ (I.hok.fresh (BB _))⟩
end
def i9:List (TE×TE)->St->Hp->(List (V×V)->Hp->Prop)->Prop
 | [],_,H,Q=>Q [] H
 | (tk,tv)::r,σ,H,Q=>tk σ H fun x H1=>tv σ H1 fun y H2=>i9 r σ H2 fun ps H3=>Q ((x,y)::ps) H3
abbrev VV:List (V×V)->List (Value×Value)->Prop:=Paired fun p q=>RelV p.1 q.1/\RelV p.2 q.2
def jc(X:Cx)(pos:Pos)(keys:List (Option Expr))(values:List Expr)(trs:List (TE×TE)):Prop:=
 ∀(pins:List (Addr×Obj)) (s:Shared) (σ:St) (H:Hp) (Q:List (V×V)->Hp->Prop),Inv X pins σ H s->i9 trs σ H Q →
  wpAny (model X.prog X.w) X.A (evalPairs (pairTrees keys values X.env pos)) (fun vs s'=>∃ps H',Inv X pins σ H' s'/\VV ps vs/\Q ps H') X.xe s
theorem zU{X:Cx}{pos:Pos}:jc X pos [] [] []:=fun pins s σ H Q I h=>pairTrees_nil_walk ⟨[],H,I,.nil,h⟩
theorem kR{X:Cx}{pos:Pos}{k v:Expr}{ks:List (Option Expr)}{vs:List Expr}{tk tv:TE}{trs:List (TE×TE)}(hk:PE X k tk)(hv:PE X v tv)(hr:jc X pos ks vs trs):
  jc X pos (some k::ks) (v::vs) ((tk,tv)::trs):=fun pins s σ H Q I h=>
 pairTrees_cons_walk (ah (hk pins s σ H _ I h) fun u s1 ⟨x,H1,I1,rx,q1⟩=>ah (hv pins s1 σ H1 _ I1 q1) fun w2 s2 ⟨y,H2,I2,ry,q2⟩=>
  ah (hr pins s2 σ H2 _ I2 q2) fun ws s3 ⟨ps,H3,I3,rel,q3⟩=>⟨(x,y)::ps,H3,I3,.cons ⟨rx,ry⟩ rel,q3⟩)
def ez(kvs more:List (Key×V)):List (Key×V):=more.foldl (fun acc kv=>putK acc kv.1 kv.2) kvs
theorem KV.merge:∀{more:List (Key×V)} {rs:List (Key×Value)} {kvs:List (Key×V)} {vs:List (Key×Value)},KV more rs->KV kvs vs->KV (ez kvs more) (merged vs rs):=by
 intro more rs kvs vs r
 unfold KV at r
 induction r generalizing kvs vs with
 | nil=>intro q;exact q
 | @cons p q ps qs h t ih=>
  intro r0
  have e:KV (putK kvs p.1 p.2) (stored vs q.1 q.2):=by
   have:=r0.put p.1 h.2
   rw[←h.1];exact this
  exact ih e
theorem oq:∀(more kvs:List (Key×V)),(ez kvs more).length<=kvs.length+more.length
 | [],kvs=>by show kvs.length<=kvs.length+0;omega
 | p::r,kvs=>by
  have h1:=oq r (putK kvs p.1 p.2)
  have h2:=lA kvs p.1 p.2
  show(ez (putK kvs p.1 p.2) r).length<=_
  rw[BI];omega
theorem tQ{P:Program}{w:World}:∀{kvs:List (Key×V)} {ws:List (Value×Value)},VV (kvs.map fun kv=>(kV kv.1,kv.2)) ws->∃rs,Carries (aw P w) ws rs/\KV kvs rs
 | [],_,r=>by rw[List.map_nil]at r;cases r;exact⟨[],True.intro,.nil⟩
 | p::kvs,_,r=>by
  rw[List.map_cons]at r
  cases r with
  | @cons a b as bs h t=>
   obtain⟨rs,c,q⟩:=tQ (P:=P) (w:=w) t
   obtain⟨b1,b2⟩:=b
   exact⟨(p.1,b2)::rs,⟨fB h.1,rfl,c⟩,.cons ⟨rfl,h.2⟩ q⟩
def uv(trs:List (TE×TE)):TE:=fun σ H Q=>∀p,H p=none->i9 trs σ (upd H p (.dK [])) fun ps H2=>H2 p=some (.dK [])/\∃kvs:List (Key×V),ps=kvs.map (fun kv=>(kV kv.1,kv.2))/\kvs.length<=15/\Q (.ref p) (upd H2 p (.dK (ez [] kvs)))
theorem xj{X:Cx}{pos:Pos}{keys:List (Option Expr)}{values:List Expr}{trs:List (TE×TE)}(h:jc X pos keys values trs)(hall:keys.all (·.isSome)=true)(hl:keys.length=values.length)(h0:keys≠[])
  (h15:keys.length<=15):PE X (.Dict keys values pos) (uv trs):=by
 intro pins s σ H Q I q
 have hn:=I.hok.fresh (BB s.heap.objs.size)
 have I1:=I.laid (a:=s.heap.objs.size) (o:=.dK []) (h':=s.heap.push { cls:=.type "dict",data:=.dict #[] }) (t':=s.toks) (fun _ _ q=>Bf _ q) (BB _) (oy s.heap I.big)
 refine wpAny_Dict_walk (knd:=aw X.prog X.w) hall hl h0 h15 (ah (h pins _ σ _ _ I1 (q _ hn)) fun ws s2 ⟨ps,H2,I2,rel,e,kvs,ep,lk,q2⟩=>?_)
 subst ep
 obtain⟨rs,c,rk⟩:=tQ (P:=X.prog) (w:=X.w) rel
 obtain⟨z,hd,vs0,r0,dd⟩:=qh I2.hok e
 cases r0
 refine⟨rs,c,dd,fun h' dd' hs=>⟨.ref s.heap.objs.size,_,?_,rfl,q2⟩⟩
 have hz:(ez [] kvs).length<=sizeLine:=by
  have h1:=oq kvs []
  rw[List.length_nil]at h1
  rw[sizeLine_eq];omega
 have he:∃q,h'.get? s.heap.objs.size=some q:=let ⟨q,_,_,hq,_⟩:=dd';⟨q,hq⟩
 exact jC I2 (by rw[e];exact True.intro) hs he (sJ hz hd (rk.merge .nil) dd')
section
variable {X:Cx} {pins:List (Addr×Obj)} {σ:St} {H:Hp} {s:Shared} {a:Addr} {y d:V} {u r:Value} {o:Option V} {A:Around} {E:Value->Shared->Prop}
end
section
variable {X:Cx} {o e f:Expr} {apos cpos:Pos} {td ty tx:TE}
end
section
variable {X:Cx} {pins:List (Addr×Obj)} {σ:St} {H:Hp} {s:Shared} {a:Addr} {kvs:List (Key×V)} {A:Around} {E:Value->Shared->Prop}
end
section
variable {X:Cx} {pins:List (Addr×Obj)} {σ:St} {H:Hp} {s:Shared} {a:Addr} {y:V} {u:Value} {A:Around} {E:Value->Shared->Prop}
end
end L2
namespace L2
open PySem PySem.Spec PyProof.Rows
section
variable {X:Cx}
end
section
variable {κ:Type} [DecidableEq κ]
end
end L2
namespace L2
open PySem PySem.Spec PyProof.Rows
section
variable {prog:Program} {w:World} {A:Around} {E:Value->Shared->Prop} {s:Shared} {dd:Option Addr}
end
section
variable {M:Model} {A:Around} {E:Value->Shared->Prop} {s:Shared} {dd:Option Addr}
end
end L2
namespace L2
open PySem PySem.Spec PyProof.Rows
section
variable {P:Program} {w:World} {K:Be} {mg:Str->Option Value} {base:Heap} {N:List Str} {qual:Str} {scope:Scope} {f:Addr} {cd:Value} {A:Around} {outer:List Env} {s₀:Shared} {H₀:Hp} {E:XK}
end
end L2
namespace L2
open PySem PySem.Spec PyProof.Rows
section
variable {prog:Program} {w:World} {A:Around} {E:Value->Shared->Prop} {K:Be} {x D:Addr} {ox:Obj} {s:Shared}
end
section
variable {X:Cx} {pins:List (Addr×Obj)} {σ:St} {H:Hp} {s:Shared} {x:Addr} {oe:Obj}
end
section
variable {P:Program} {w:World} {K:Be} {mg:Str->Option Value} {base:Heap} {N:List Str} {qual:Str} {scope:Scope} {f:Addr} {cd:Value} {A:Around} {outer:List Env} {s₀:Shared} {H₀:Hp} {E:XK}
end
section
end
section
variable {P:Program} {w:World} {K:Be} {mg:Str->Option Value} {base:Heap} {N:List Str} {qual:Str} {scope:Scope} {f:Addr} {cd:Value} {A:Around} {outer:List Env} {s₀:Shared} {H₀:Hp} {E:XK}
end
section
variable {K:Be} {D:Ends} {σ:St} {H:Hp} {Q:VK} {E:XK} {C x:Addr}
end
section
variable {K:Be} {D:Ends} {σ:St} {H:Hp} {E:St->XK} {C:Addr} {i:Nat} {t u tb:Ends->(St->XK)->St->Hp->Prop} {ts:Addr->Addr->Option Addr->TS} {c:TT}
end
end L2
namespace Tb
open PySem
def nx(m i:Nat):Nat:=(i*5+1) % (m+1)
def it(m:Nat):Nat->Nat->Nat
 | 0,i=>i
 | n+1,i=>it m n (nx m i)
theorem fV(m:Nat):∀a b i,it m (a+b) i=it m b (it m a i)
 | 0,b,i=>by rw[Nat.zero_add];rfl
 | a+1,b,i=>by rw[Nat.succ_add];exact fV m a b (nx m i)
theorem yo(m n i:Nat):it m (n+1) i=nx m (it m n i):=by rw[fV m n 1 i];rfl
def m8(m:Nat):Nat->Nat->List Nat
 | 0,_=>[]
 | n+1,i=>i::m8 m n (nx m i)
theorem pT{m:Nat}:∀{n i j:Nat},j∈m8 m n i->∃k,k<n/\it m k i=j
 | 0,_,_,h=>by cases h
 | n+1,i,j,h=>by
  rcases Bw.mp h with rfl | h
  ·exact⟨0,Nat.succ_pos _,rfl⟩
  ·obtain⟨k,hk,e⟩:=pT h
   exact⟨k+1,Nat.succ_lt_succ hk,e⟩
def good(m:Nat):Bool:=(List.range (m+1)).all (fun j=>(m8 m (m+1) 0).contains j) && it m (m+1) 0 == 0
theorem ze:good 7=true:=by decide +kernel
theorem yS:good 31=true:=by decide +kernel
theorem wF:good 127=true:=by decide +kernel
theorem xU:good 511=true:=by decide +kernel
def Full(N:Nat):Prop:=(∀j,j<N->∃k,k<N/\it (N-1) k 0=j)/\it (N-1) N 0=0
theorem je{m:Nat}(h:good m=true):Full (m+1):=by
 unfold Tb.good at h
 rw[BQ,BN]at h
 refine⟨fun j hj=>?_,eq_of_beq h.2⟩
 have h1:=h.1 j (List.mem_range.mpr hj)
 rw[List.contains_iff_mem]at h1
 exact pT h1
def co:Nat->Nat
 | 0=>0
 | n+1=>5*co n+1
theorem sq(m:Nat):∀n i,it m n i % (m+1)=(5 ^ n*i+co n) % (m+1)
 | 0,i=>by simp[it,co]
 | n+1,i=>by
  rw[yo]
  unfold nx
  rw[Nat.mod_mod,Nat.add_mod,Nat.mul_mod,sq m n i,←Nat.mul_mod,←Nat.add_mod]
  congr 1
  show(5 ^ n*i+co n)*5+1=5 ^ (n+1)*i+(5*co n+1)
  rw[Nat.pow_succ,Nat.add_mul]
  have:5 ^ n*i*5=5 ^ n*5*i:=by rw[Nat.mul_assoc,Nat.mul_comm i 5,Nat.mul_assoc]
  omega
theorem mi(m:Nat):∀n i,i<=m->it m n i<=m
 | 0,i,h=>h
 | n+1,i,h=>by
  refine mi m n _ ?_
  unfold nx
  have:=Nat.mod_lt (i*5+1) (show 0<m+1 by omega)
  omega
theorem oF{m n i:Nat}(h:i<=m):it m n i=(5 ^ n*i+co n) % (m+1):=by
 rw[←sq,Nat.mod_eq_of_lt (Nat.lt_succ_of_le (mi m n i h))]
theorem yF(n:Nat):5 ^ n % 2=1:=by
 induction n with
 | zero=>rfl
 | succ n ih=>rw[Nat.pow_succ,Nat.mul_mod,ih]
theorem qI:∀n,4*co n+1=5 ^ n
 | 0=>rfl
 | n+1=>by
  have:=qI n
  show 4*(5*co n+1)+1=5 ^ (n+1)
  rw[Nat.pow_succ]
  omega
theorem wz{a N:Nat}(h:a % 2=1)(r:Nat):(a*N+r) % (2*N)=(N+r) % (2*N):=by
 obtain⟨c,rfl⟩:∃c,a=2*c+1:=⟨a / 2,by omega⟩
 have:(2*c+1)*N+r=(N+r)+2*N*c:=by
  rw[Nat.add_mul,Nat.one_mul,Nat.mul_assoc,Nat.mul_comm c N,←Nat.mul_assoc]
  omega
 rw[this,Nat.add_mul_mod_self_left]
theorem two{x N:Nat}(h:x<2*N)(hN:0<N):x=x % N\/x=N+x % N:=by
 rcases Nat.lt_or_ge x N with a | a
 ·exact .inl (Nat.mod_eq_of_lt a).symm
 ·refine .inr ?_
  rw[Nat.mod_eq_sub_mod a,Nat.mod_eq_of_lt (by omega)]
  omega
theorem Full.double{N:Nat}(hN:0<N)(h:Full N)(hc:co N % (2*N)=N):Full (2*N):=by
 obtain⟨h1,h2⟩:=h
 have hm:2*N-1+1=2*N:=by omega
 have hm1:N-1+1=N:=by omega
 have val:∀n i,i<=2*N-1->it (2*N-1) n i=(5 ^ n*i+co n) % (2*N):=fun n i hi=>by rw[oF hi,hm]
 have eN:it (2*N-1) N 0=N:=by rw[val N 0 (by omega),Nat.mul_zero,Nat.zero_add,hc]
 have up:∀k,it (2*N-1) (N+k) 0=(N+it (2*N-1) k 0) % (2*N):=fun k=>by
  rw[fV,eN,val k N (by omega),val k 0 (by omega),Nat.mul_zero,Nat.zero_add,wz (yF k)]
  rw[Nat.add_mod_mod]
 refine⟨fun j hj=>?_,?_⟩
 ·obtain⟨k,hk,ek⟩:=h1 (j % N) (Nat.mod_lt _ hN)
  have e1:it (2*N-1) k 0 % N=j % N:=by
   rw[val k 0 (by omega),Nat.mul_zero,Nat.zero_add,Nat.mod_mul_left_mod,←ek,oF (Nat.zero_le _),hm1,Nat.mul_zero,Nat.zero_add]
  have e2:it (2*N-1) k 0<2*N:=by
   have:=mi (2*N-1) k 0 (Nat.zero_le _)
   omega
  by_cases e:it (2*N-1) k 0=j
  ·exact⟨k,by omega,e⟩
  ·refine⟨N+k,by omega,?_⟩
   rw[up k]
   have t1:=two hj hN
   have t2:=two e2 hN
   rw[e1]at t2
   generalize it (2*N-1) k 0=x at *
   generalize j % N=r at *
   rcases t1 with a | a<;>rcases t2 with b | b
   ·omega
   ·have:N+x=j+2*N:=by omega
    rw[this,Nat.add_mod_right,Nat.mod_eq_of_lt hj]
   ·have:N+x=j:=by omega
    rw[this,Nat.mod_eq_of_lt hj]
   ·omega
 ·rw[show 2*N=N+N by omega,show N+N-1=2*N-1 by omega,up N,eN,show N+N=2*N by omega,Nat.mod_self]
theorem jz{N c:Nat}(h:4*c+1=5 ^ N):co N=c:=by
 have:=qI N
 omega
theorem v7:Full 8:=je ze
theorem xu:Full 32:=je yS
theorem AJ:Full 128:=je wF
theorem qV:Full 512:=je xU
theorem yI:co 512 % (2*512)=512:=by rw[jz (c:=(5 ^ 512-1) / 4) (by decide +kernel)];decide +kernel
theorem Al:co 1024 % (2*1024)=1024:=by rw[jz (c:=(5 ^ 1024-1) / 4) (by decide +kernel)];decide +kernel
theorem Af:co 2048 % (2*2048)=2048:=by rw[jz (c:=(5 ^ 2048-1) / 4) (by decide +kernel)];decide +kernel
theorem xa:co 4096 % (2*4096)=4096:=by rw[jz (c:=(5 ^ 4096-1) / 4) (by decide +kernel)];decide +kernel
theorem sV:Full 2048:=Full.double (N:=1024) (by decide) (qV.double (by decide) yI) Al
theorem zA:Full 8192:=Full.double (N:=4096) (by decide) (sV.double (by decide) Af) xa
def Mask(m:Nat):Prop:=m=7\/m=31\/m=127\/m=511\/m=2047\/m=8191
theorem Mask.full{m:Nat}(h:Mask m):Full (m+1):=by
 rcases h with rfl | rfl | rfl | rfl | rfl | rfl
 ·exact v7
 ·exact xu
 ·exact AJ
 ·exact qV
 ·exact sV
 ·exact zA
theorem qL{m:Nat}(h:Mask m){j:Nat}(hj:j<=m):∃k,k<=m/\it m k 0=j:=by
 obtain⟨k,hk,e⟩:=h.full.1 j (by omega)
 exact⟨k,by omega,e⟩
theorem round0{m:Nat}(h:Mask m):it m (m+1) 0=0:=h.full.2
theorem reach{m:Nat}(h:Mask m){i j:Nat}(hi:i<=m)(hj:j<=m):∃k,k<=m/\it m k i=j:=by
 obtain⟨a,ha,ea⟩:=qL h hi
 obtain⟨b,hb,eb⟩:=qL h hj
 rcases Nat.lt_or_ge b a with hlt | hge
 ·refine⟨m+1-a+b,by omega,?_⟩
  rw[←ea,←fV,show a+(m+1-a+b)=(m+1)+b by omega,fV,round0 h]
  exact eb
 ·refine⟨b-a,by omega,?_⟩
  rw[←ea,←fV,show a+(b-a)=b by omega]
  exact eb
def lp(m:Nat):Nat->Nat×Nat->Nat×Nat
 | 0,s=>s
 | n+1,s=>lp m n (SetTable.leap m s.1 s.2)
theorem lY(m:Nat):∀n s,lp m (n+1) s=SetTable.leap m (lp m n s).1 (lp m n s).2
 | 0,s=>rfl
 | n+1,s=>by
  show lp m (n+1) (SetTable.leap m s.1 s.2)=_
  rw[lY m n]
  rfl
theorem rW(m:Nat):∀n s,(lp m n s).2=s.2 / 32 ^ n
 | 0,s=>by simp[lp]
 | n+1,s=>by
  rw[lY m n s]
  show(lp m n s).2 / 32=_
  rw[rW m n s,Nat.div_div_eq_div_mul,Nat.pow_succ]
theorem sC(m:Nat):∀n s,s.1<=m->(lp m n s).1<=m
 | 0,s,h=>h
 | n+1,s,h=>by
  rw[lY m n s]
  show(_ % (m+1))<=m
  have:=Nat.mod_lt ((lp m n s).1*5+1+(lp m n s).2 / 32) (show 0<m+1 by omega)
  omega
theorem rj(m:Nat):∀n i,(lp m n (i,0)).1=it m n i
 | 0,i=>rfl
 | n+1,i=>by
  show(lp m n (SetTable.leap m i 0)).1=it m n (nx m i)
  have:SetTable.leap m i 0=(nx m i,0):=rfl
  rw[this]
  exact rj m n _
theorem sf(m:Nat):∀a b s,lp m (a+b) s=lp m b (lp m a s)
 | 0,b,s=>by rw[Nat.zero_add];rfl
 | a+1,b,s=>by rw[Nat.succ_add];exact sf m a b _
theorem oN{m:Nat}(h:Mask m){i p j:Nat}(hi:i<=m)(hp:p<2 ^ 64)(hj:j<=m):∃n,n<=m+13/\(lp m n (i,p)).1=j:=by
 have hz:(lp m 13 (i,p)).2=0:=by
  rw[rW]
  exact Nat.div_eq_of_lt (BK hp (by decide))
 obtain⟨k,hk,e⟩:=reach h (sC m 13 (i,p) hi) hj
 refine⟨13+k,by omega,?_⟩
 rw[sf]
 have:lp m 13 (i,p)=((lp m 13 (i,p)).1,0):=by rw[←hz]
 rw[this,rj]
 exact e
theorem tj(h:Int):SetTable.bits h<2 ^ 64:=by
 unfold SetTable.bits
 have h1:=Int.emod_lt_of_pos h (show(0:Int)<2 ^ 64 by decide)
 have h2:=Int.emod_nonneg h (show(2:Int) ^ 64≠0 by decide)
 omega
def az(t:SetTable):Nat->SetTable.Probe->SetTable.Probe
 | 0,p=>p
 | n+1,p=>az t n (t.advance p)
theorem fL(t:SetTable):∀a b p,az t (a+b) p=az t b (az t a p)
 | 0,b,p=>by rw[Nat.zero_add];rfl
 | a+1,b,p=>by rw[Nat.succ_add];exact fL t a b _
def at_(t:SetTable)(s:Nat×Nat):SetTable.Probe:={ j:=s.1,more:=SetTable.runEnd t.mask s.1-s.1,i:=s.1,perturb:=s.2,dummy:=none }
theorem nV(t:SetTable):∀(r:Nat) (p:SetTable.Probe),p.more=r->az t (r+1) p={ p with j:=(SetTable.leap t.mask p.i p.perturb).1,more:=SetTable.runEnd t.mask (SetTable.leap t.mask p.i p.perturb).1-(SetTable.leap t.mask p.i p.perturb).1,i:=(SetTable.leap t.mask p.i p.perturb).1,perturb:=(SetTable.leap t.mask p.i p.perturb).2 }
 | 0,p,h=>by
  show t.advance p=_
  unfold SetTable.advance
  rw[if_neg (by omega)]
 | r+1,p,h=>by
  show az t (r+1) (t.advance p)=_
  have e:t.advance p={ p with j:=p.j+1,more:=p.more-1 }:=by
   unfold SetTable.advance
   rw[if_pos (by omega)]
  rw[e,nV t r _ (by show p.more-1=r;omega)]
theorem wC(t:SetTable)(s:Nat×Nat):∃k,k<=10/\az t k (at_ t s)=at_ t (SetTable.leap t.mask s.1 s.2):=by
 refine⟨SetTable.runEnd t.mask s.1-s.1+1,?_,?_⟩
 ·unfold SetTable.runEnd
  split<;>omega
 ·exact(nV t (SetTable.runEnd t.mask s.1-s.1) (at_ t s) rfl).trans rfl
theorem si(t:SetTable):∀(n:Nat) (s:Nat×Nat),∃k,k<=10*n/\az t k (at_ t s)=at_ t (lp t.mask n s)
 | 0,s=>⟨0,BB _,rfl⟩
 | n+1,s=>by
  obtain⟨k1,h1,e1⟩:=wC t s
  obtain⟨k2,h2,e2⟩:=si t n (SetTable.leap t.mask s.1 s.2)
  refine⟨k1+k2,by omega,?_⟩
  rw[fL,e1,e2]
  rfl
theorem Ad(t:SetTable)(h:Int):t.probeStart h=at_ t (SetTable.bits h % (t.mask+1),SetTable.bits h):=rfl
theorem xB{t:SetTable}(hm:Mask t.mask){j:Nat}(hj:j<=t.mask)(h:Int):∃K,K<10*SetTable.turns t.mask/\(az t K (t.probeStart h)).j=j:=by
 have h1:SetTable.bits h % (t.mask+1)<=t.mask:=by
  have:=Nat.mod_lt (SetTable.bits h) (show 0<t.mask+1 by omega)
  omega
 obtain⟨n,hn,e⟩:=oN hm h1 (tj h) hj
 obtain⟨K,hK,eK⟩:=si t n (SetTable.bits h % (t.mask+1),SetTable.bits h)
 refine⟨K,by unfold SetTable.turns;omega,?_⟩
 rw[Ad,eK]
 exact e
theorem jt{t:SetTable}{j i:Nat}(h:t.slot j=.live i):t.place[i]?=some j:=by
 unfold SetTable.slot at h
 dsimp only at h
 split at h
 ·rename_i hq
  cases h
  exact eq_of_beq hq
 ·split at h<;>cases h
theorem oX(j:Nat):SetTable.has #[] j=false:=rfl
theorem mI{t:SetTable}(hd:t.dummies = #[])(j:Nat):t.slot j=.empty\/∃i,t.slot j=.live i:=by
 unfold SetTable.slot
 dsimp only
 split
 ·exact .inr ⟨_,rfl⟩
 ·rw[hd,oX]
  exact .inl rfl
theorem pF:∀(n:Nat) (l:List Nat),(∀j,j<n->j∈l)->n<=l.length
 | 0,l,_=>Nat.zero_le _
 | n+1,l,h=>by
  have hn:=h n (Nat.lt_succ_self n)
  have:=pF n (l.erase n) fun j hj=>(List.mem_erase_of_ne (by omega)).mpr (h j (by omega))
  rw[List.length_erase_of_mem hn]at this
  have:0<l.length:=List.length_pos_of_mem hn
  omega
theorem vG{t:SetTable}(hd:t.dummies = #[])(h:t.place.size<=t.mask):∃j,j<=t.mask/\t.slot j=.empty:=by
 rcases Classical.em (∃j,j<=t.mask/\t.slot j=.empty)with h1 | h1
 ·exact h1
 ·exfalso
  have:=pF (t.mask+1) t.place.toList fun j hj=>by
   rcases mI hd j with h2 | ⟨i,h2⟩
   ·exact absurd ⟨j,by omega,h2⟩ h1
   ·have:=jt h2
    rw[←Array.getElem?_toList]at this
    exact Br this
  rw[Bm]at this
  omega
theorem iM(t:SetTable):∀n p,(az t n p).dummy=p.dummy
 | 0,p=>rfl
 | n+1,p=>by
  show(az t n (t.advance p)).dummy=_
  rw[iM t n]
  unfold SetTable.advance
  split<;>rfl
theorem rG{α:Type}:∀{l:List (Option α)} {j:Nat} {k:α},l[j]?=some none->((l.set j (some k)).filterMap id).Perm (k::l.filterMap id)
 | [],j,k,h=>by cases h
 | x::l,0,k,h=>by
  have:x=none:=by simpa using h
  subst this
  exact .refl _
 | x::l,j+1,k,h=>by
  have h':l[j]?=some none:=by simpa using h
  have ih:=rG (k:=k) h'
  cases x with
  | none=>exact ih
  | some y=>exact(List.Perm.cons y ih).trans (.swap _ _ _)
theorem vI{α:Type}(l:List (Option α)):(l.filterMap id).length+(l.filter (·.isNone)).length=l.length:=by
 induction l with
 | nil=>rfl
 | cons x l ih=>
  cases x<;>simp at ih ⊢<;>omega
theorem AA{m:Nat}(hm:Mask m)(owner:Array (Option Nat))(hz:owner.size=m+1){j:Nat}(hj:owner[j]?=some none):∀(fuel n i p:Nat),i<=m->n<fuel->(lp m n (i,p)).1=j →
  ∃j',SetTable.layClean.free m owner fuel i p=some j'/\owner[j']?=some none:=by
 intro fuel
 induction fuel with
 | zero=>intro n i p _ h;omega
 | succ fuel ih=>
  intro n i p hi hn he
  unfold SetTable.layClean.free
  split
  ·rename_i k hk
   have h1:=List.find?_some hk
   have h2:=List.mem_range.mp (List.mem_of_find?_eq_some hk)
   refine⟨i+k,rfl,?_⟩
   have hb:i+k<owner.size:=by
    rw[hz]
    unfold SetTable.runEnd at h2
    split at h2<;>omega
   rw[Array.getElem?_eq_getElem hb]
   have:owner.getD (i+k) (some 0)=owner[i+k]:=by
    rw[Array.getD_eq_getD_getElem?,Array.getElem?_eq_getElem hb]
    rfl
   rw[this]at h1
   congr 1
   cases hq:owner[i+k]with
   | none=>rfl
   | some y=>rw[hq]at h1;cases h1
  ·rename_i hk
   cases n with
   | zero=>
    exfalso
    have h0:i=j:=he
    have:=List.find?_eq_none.mp hk 0 (List.mem_range.mpr (by unfold SetTable.runEnd;split<;>omega))
    rw[Nat.add_zero,h0,Array.getD_eq_getD_getElem?,hj]at this
    simp at this
   | succ n=>
    have:=sC m 1 (i,p) hi
    exact ih n (SetTable.leap m i p).1 (SetTable.leap m i p).2 this (by omega) he
def jQ(mask:Nat)(acc:Option (Array (Option Nat)×Nat))(h:Int):Option (Array (Option Nat)×Nat):=do
 let (owner,k) ←acc
 let j ←SetTable.layClean.free mask owner (SetTable.turns mask) (SetTable.bits h % (mask+1)) (SetTable.bits h)
 pure (owner.setIfInBounds j (some k),k+1)
theorem zM{l:List (Option Nat)}(h:(l.filterMap id).length<l.length):∃j:Nat,l[j]?=some none:=by
 have:=vI l
 have h1:0<(l.filter (·.isNone)).length:=by omega
 obtain⟨x,hx⟩:=List.exists_mem_of_length_pos h1
 obtain⟨hx1,hx2⟩:=List.mem_filter.mp hx
 have:x=none:=by cases x<;>simp_all
 subst this
 obtain⟨j,hj⟩:=List.getElem?_of_mem hx1
 exact⟨j,hj⟩
theorem ni{α:Type}(xs:Array α)(p:Nat)(x:α):(SetTable.insertAt xs p x).size=xs.size+1:=by
 unfold SetTable.insertAt
 simp
 omega
theorem wW{α:Type}{xs:Array α}{p:Nat}{x e:α}(h:e∈(SetTable.insertAt xs p x).toList):e=x\/e∈xs.toList:=by
 unfold SetTable.insertAt at h
 simp only[Array.toList_append,Array.toList_push,Array.toList_extract,BE,Bs]at h
 rcases h with(h | h) | h
 ·exact .inr (List.mem_of_mem_take (by simpa using h))
 ·exact .inl h
 ·exact .inr (List.mem_of_mem_drop (List.mem_of_mem_take h))
theorem wN:SetTable.sizeAbove 20-1=31:=by decide +kernel
theorem Am:SetTable.sizeAbove 76-1=127:=by decide +kernel
theorem w9:SetTable.sizeAbove 308-1=511:=by decide +kernel
theorem ye:SetTable.sizeAbove 1228-1=2047:=by decide +kernel
theorem yk:SetTable.sizeAbove 4916-1=8191:=by decide +kernel
end Tb
namespace Tb
open PySem
theorem least{P:Nat->Prop}:∀n,P n->∃m,m<=n/\P m/\∀k,k<m->¬P k:=by
 intro n
 induction n using Nat.strongRecOn with
 | ind n ih=>
  intro h
  rcases Classical.em (∃k,k<n/\P k)with⟨k,hk,pk⟩ | hn
  ·obtain⟨m,h1,h2,h3⟩:=ih k hk pk
   exact⟨m,by omega,h2,h3⟩
  ·exact⟨n,BB _,h,fun k hk pk=>hn ⟨k,hk,pk⟩⟩
theorem jT{xs:Array Nat}(h:xs.toList.Pairwise (· < ·)){a b x y:Nat}(ha:xs[a]?=some x)(hb:xs[b]?=some y)(hab:a<b):x<y:=by
 obtain⟨h1,e1⟩:=Array.getElem?_eq_some_iff.mp ha
 obtain⟨h2,e2⟩:=Array.getElem?_eq_some_iff.mp hb
 have:=List.pairwise_iff_getElem.mp h a b (by simpa using h1) (by simpa using h2) hab
 simp only[Array.getElem_toList]at this
 rw[e1,e2]at this
 exact this
theorem mZ(xs:Array Nat)(j:Nat)(hs:xs.toList.Pairwise (· < ·)):∀fuel lo hi,hi-lo<=fuel->lo<=hi->hi<=xs.size->(∀k x,k<lo->xs[k]?=some x->x<j)->(∀k x,hi<=k->xs[k]?=some x->j<=x) →
  SetTable.below.go xs j fuel lo hi<=xs.size/\(∀k x,k<SetTable.below.go xs j fuel lo hi->xs[k]?=some x->x<j)/\(∀k x,SetTable.below.go xs j fuel lo hi<=k->xs[k]?=some x->j<=x)
 | 0,lo,hi,h1,h2,h3,h4,h5=>by
  have:lo=hi:=by omega
  subst this
  exact⟨h3,h4,h5⟩
 | fuel+1,lo,hi,h1,h2,h3,h4,h5=>by
  unfold SetTable.below.go
  by_cases hlt:lo<hi
  ·rw[if_pos hlt]
   dsimp only
   have hm:(lo+hi) / 2<xs.size:=by omega
   have em:xs[(lo+hi) / 2]?=some xs[(lo+hi) / 2]:=getElem?_pos xs _ hm
   have eg:xs.getD ((lo+hi) / 2) j=xs[(lo+hi) / 2]:=by
    rw[Array.getD_eq_getD_getElem?,em]
    rfl
   rw[eg]
   by_cases hc:xs[(lo+hi) / 2]<j
   ·rw[if_pos hc]
    refine mZ xs j hs fuel _ _ (by omega) (by omega) h3 (fun k x hk ek=>?_) h5
    rcases Nat.lt_or_ge k ((lo+hi) / 2)with a | a
    ·have:=jT hs ek em a
     omega
    ·have:k=(lo+hi) / 2:=by omega
     subst this
     rw[em]at ek
     cases ek
     exact hc
   ·rw[if_neg hc]
    refine mZ xs j hs fuel _ _ (by omega) (by omega) (by omega) h4 (fun k x hk ek=>?_)
    rcases Nat.lt_or_ge ((lo+hi) / 2) k with a | a
    ·have:=jT hs em ek a
     omega
    ·have:k=(lo+hi) / 2:=by omega
     subst this
     rw[em]at ek
     cases ek
     omega
  ·rw[if_neg hlt]
   have:lo=hi:=by omega
   subst this
   exact⟨h3,h4,h5⟩
theorem ic{xs:Array Nat}(hs:xs.toList.Pairwise (· < ·))(j:Nat):SetTable.below xs j<=xs.size/\(∀k x,k<SetTable.below xs j->xs[k]?=some x->x<j)/\(∀k x,SetTable.below xs j<=k->xs[k]?=some x->j<=x):=
 mZ xs j hs xs.size 0 xs.size (by omega) (Nat.zero_le _) (BB _) (fun k x hk=>by omega) (fun k x hk e=>by
  have:=(Array.getElem?_eq_some_iff.mp e).1
  omega)
theorem slot_mem{t:SetTable}(hs:t.place.toList.Pairwise (· < ·)){j i:Nat}(h:t.place[i]?=some j):t.slot j=.live i:=by
 obtain⟨h1,h2,h3⟩:=ic hs j
 have e:SetTable.below t.place j=i:=by
  have hi:=(Array.getElem?_eq_some_iff.mp h).1
  rcases Nat.lt_or_ge i (SetTable.below t.place j)with a | a
  ·have:=h2 i j a h
   omega
  ·rcases Nat.lt_or_ge (SetTable.below t.place j) i with b | b
   ·have eb:t.place[SetTable.below t.place j]?=some t.place[SetTable.below t.place j]:=getElem?_pos t.place _ (by omega)
    have c1:=h3 _ _ (BB _) eb
    have c2:=jT hs eb h b
    omega
   ·omega
 unfold SetTable.slot
 dsimp only
 rw[e,h,if_pos (beq_self_eq_true _)]
theorem gH{α:Type}(xs:Array α)(p:Nat)(x:α):(SetTable.insertAt xs p x).toList=xs.toList.take p++(x::xs.toList.drop p):=by
 unfold SetTable.insertAt
 rw[Array.toList_append,Array.toList_push,Array.toList_extract,Array.toList_extract]
 show List.take (p-0) (xs.toList.drop 0)++[x]++List.take (xs.size-p) (xs.toList.drop p)=_
 rw[List.take_of_length_le (l:=xs.toList.drop p) (by rw[List.length_drop,Bm];exact BB _),List.append_assoc]
 rfl
theorem t9{α:Type}(xs:Array α){p:Nat}(hp:p<=xs.size)(x:α)(i:Nat):(SetTable.insertAt xs p x)[i]?=if i<p then xs[i]? else if i=p then some x else xs[i-1]?:=by
 rw[←Array.getElem?_toList,gH,List.getElem?_append,List.length_take,Bm,show min p xs.size=p by omega]
 by_cases h:i<p
 ·rw[if_pos h,if_pos h,List.getElem?_take_of_lt h,Array.getElem?_toList]
 ·rw[if_neg h,if_neg h]
  by_cases e:i=p
  ·rw[if_pos e,e,Nat.sub_self]
   rfl
  ·rw[if_neg e]
   obtain⟨k,rfl⟩:∃k,i=p+(k+1):=⟨i-p-1,by omega⟩
   rw[show p+(k+1)-p=k+1 by omega,List.getElem?_cons_succ,List.getElem?_drop,Array.getElem?_toList]
   congr 1
theorem yO{xs:Array Nat}(hs:xs.toList.Pairwise (· < ·)){j:Nat}(hn:j∉xs.toList):(SetTable.insertAt xs (SetTable.below xs j) j).toList.Pairwise (· < ·):=by
 obtain⟨h1,h2,h3⟩:=ic hs j
 rw[gH]
 have hs':=hs
 rw[←List.take_append_drop (SetTable.below xs j) xs.toList,List.pairwise_append]at hs'
 rw[List.pairwise_append,List.pairwise_cons]
 refine⟨hs'.1,⟨fun y hy=>?_,hs'.2.1⟩,fun x hx y hy=>?_⟩
 ·obtain⟨k,hk,e⟩:=List.mem_iff_getElem.mp hy
  rw[List.length_drop,Bm]at hk
  rw[List.getElem_drop,Array.getElem_toList]at e
  have ex:xs[SetTable.below xs j+k]?=some y:=by
   rw[getElem?_pos xs _ (by omega),e]
  have:=h3 _ _ (by omega) ex
  have ne:y≠j:=fun z=>hn (by rw[←z];exact Array.mem_toList_iff.mpr (Array.mem_of_getElem? ex))
  omega
 ·have hxj:x<j:=by
   obtain⟨k,hk,e⟩:=List.mem_iff_getElem.mp hx
   rw[List.length_take,Bm]at hk
   rw[List.getElem_take,Array.getElem_toList]at e
   exact h2 k x (by omega) (by rw[getElem?_pos xs _ (by omega),e])
  rcases Bw.mp hy with rfl | hy
  ·exact hxj
  ·exact hs'.2.2 x hx y hy
abbrev tM(m:Nat):SetTable:={ mask:=m,place:=#[],dummies:=#[],finger:=0,led:=false,moves:=0,plain:=false }
def pm(m:Nat)(h:Int)(k:Nat):Nat:=(az (tM m) k ((tM m).probeStart h)).j
theorem sU(t:SetTable):∀k p,az t k p=az (tM t.mask) k p
 | 0,p=>rfl
 | k+1,p=>sU t k _
theorem qM(t:SetTable)(h:Int)(k:Nat):(az t k (t.probeStart h)).j=pm t.mask h k:=by
 rw[sU]
 rfl
structure TOk(m:Nat)(pl:Array Nat)(hs:Array Int):Prop where
 len:pl.size=hs.size
 inc:pl.toList.Pairwise (· < ·)
 rch:∀(i j:Nat) (h:Int),pl[i]?=some j->hs[i]?=some h->∃K,K<10*SetTable.turns m/\pm m h K=j/\∀k,k<K->pm m h k∈pl.toList
theorem TOk.nil(m:Nat):TOk m #[] #[]:=⟨rfl,.nil,fun i j h e=>by simp at e⟩
theorem TOk.put{m:Nat}{pl:Array Nat}{hs:Array Int}(T:TOk m pl hs){h:Int}{K:Nat}(hK:K<10*SetTable.turns m)(hn:pm m h K∉pl.toList)(hb:∀k,k<K->pm m h k∈pl.toList):
  TOk m (SetTable.insertAt pl (SetTable.below pl (pm m h K)) (pm m h K)) (SetTable.insertAt hs (SetTable.below pl (pm m h K)) h):=by
 have hle:=(ic T.inc (pm m h K)).1
 have more:∀x,x∈pl.toList->x∈(SetTable.insertAt pl (SetTable.below pl (pm m h K)) (pm m h K)).toList:=fun x hx=>by
  rw[gH]
  rw[←List.take_append_drop (SetTable.below pl (pm m h K)) pl.toList]at hx
  rcases BE.mp hx with a | a
  ·exact List.mem_append_left _ a
  ·exact List.mem_append_right _ (Bl _ a)
 have old:∀(i j:Nat) (h':Int),pl[i]?=some j->hs[i]?=some h'->∃K',K'<10*SetTable.turns m/\pm m h' K'=j/\∀k,k<K'->pm m h' k∈(SetTable.insertAt pl (SetTable.below pl (pm m h K)) (pm m h K)).toList:=fun i j h' e1 e2=>by
  obtain⟨K',h1,h2,h3⟩:=T.rch i j h' e1 e2
  exact⟨K',h1,h2,fun k hk=>more _ (h3 k hk)⟩
 refine⟨by rw[ni,ni,T.len],yO T.inc hn,fun i j h' e1 e2=>?_⟩
 rw[t9 pl hle]at e1
 rw[t9 hs (by rw[←T.len];exact hle)]at e2
 by_cases c1:i<SetTable.below pl (pm m h K)
 ·rw[if_pos c1]at e1 e2
  exact old i j h' e1 e2
 ·rw[if_neg c1]at e1 e2
  by_cases c2:i=SetTable.below pl (pm m h K)
  ·rw[if_pos c2]at e1 e2
   cases e1
   cases e2
   exact⟨K,hK,rfl,fun k hk=>more _ (hb k hk)⟩
  ·rw[if_neg c2]at e1 e2
   exact old _ j h' e1 e2
theorem zx{t:SetTable}(hd:t.dummies = #[]){j:Nat}(h:t.slot j≠.empty):j∈t.place.toList:=by
 rcases mI hd j with e | ⟨i,e⟩
 ·exact absurd e h
 ·exact Array.mem_toList_iff.mpr (Array.mem_of_getElem? (jt e))
theorem oR{t:SetTable}(hs:t.place.toList.Pairwise (· < ·)){j:Nat}(h:j∈t.place.toList):∃i,t.slot j=.live i/\t.place[i]?=some j:=by
 obtain⟨i,hi⟩:=List.getElem?_of_mem h
 rw[Array.getElem?_toList]at hi
 exact⟨i,slot_mem hs hi,hi⟩
theorem zZ{t:SetTable}(hs:t.place.toList.Pairwise (· < ·)){j:Nat}(h:t.slot j=.empty):j∉t.place.toList:=fun hm=>by
 obtain⟨i,e,_⟩:=oR hs hm
 rw[h]at e
 cases e
theorem zy{t:SetTable}(hd:t.dummies = #[])(hm:Mask t.mask)(hp:t.place.size<=t.mask)(h:Int):∃K,K<10*SetTable.turns t.mask/\t.slot (pm t.mask h K)=.empty/\∀k,k<K->t.slot (pm t.mask h k)≠.empty:=by
 obtain⟨j0,hj0,hs0⟩:=vG hd hp
 obtain⟨N,hN,eN⟩:=xB hm hj0 h
 rw[qM]at eN
 obtain⟨K,h1,h2,h3⟩:=least (P:=fun n=>t.slot (pm t.mask h n)=.empty) N (by show t.slot (pm t.mask h N)=_;rw[eN];exact hs0)
 exact⟨K,by omega,h2,h3⟩
theorem rD{t:SetTable}(hd:t.dummies = #[])(hash:Nat->Int)(h:Int):∀(K fuel:Nat) (p:SetTable.Probe),K<fuel->p.dummy=none->(∀k,k<K->t.slot (az t k p).j≠.empty) →
  (∃k i,k<K/\SetTable.probe.go t hash h fuel p=some (.candidate (az t k p).j i (az t (k+1) p))/\t.slot (az t k p).j=.live i)\/SetTable.probe.go t hash h fuel p=SetTable.probe.go t hash h (fuel-K) (az t K p):=by
 intro K
 induction K with
 | zero=>intro fuel p _ _ _;exact .inr rfl
 | succ K ih=>
  intro fuel p hf hp hs
  obtain⟨f,rfl⟩:∃f,fuel=f+1:=⟨fuel-1,by omega⟩
  have h0:t.slot p.j≠.empty:=hs 0 (by omega)
  rcases mI hd p.j with h1 | ⟨i,h1⟩
  ·exact absurd h1 h0
  ·by_cases hq:(hash i == h)=true
   ·refine .inl ⟨0,i,by omega,?_,h1⟩
    conv=>lhs;unfold SetTable.probe.go
    rw[h1]
    dsimp only
    rw[if_pos hq]
    rfl
   ·have e:SetTable.probe.go t hash h (f+1) p=SetTable.probe.go t hash h f (t.advance p):=by
     conv=>lhs;unfold SetTable.probe.go
     rw[h1]
     dsimp only
     rw[if_neg hq]
    rw[e]
    have hp':(t.advance p).dummy=none:=by
     have:=iM t 1 p
     rw[hp]at this
     exact this
    rcases ih f (t.advance p) (by omega) hp' (fun k hk=>hs (k+1) (by omega))with⟨k,i',hk,e',hl⟩ | e'
    ·exact .inl ⟨k+1,i',by omega,e',hl⟩
    ·refine .inr ?_
     rw[e',show f+1-(K+1)=f-K by omega]
     rfl
theorem wX{t:SetTable}(hd:t.dummies = #[])(hash:Nat->Int)(h:Int){K fuel:Nat}{p:SetTable.Probe}(hf:K<fuel)(hp:p.dummy=none)(hs:∀k,k<K->t.slot (az t k p).j≠.empty)(he:t.slot (az t K p).j=.empty):
  (∃k i,k<K/\SetTable.probe.go t hash h fuel p=some (.candidate (az t k p).j i (az t (k+1) p))/\t.slot (az t k p).j=.live i)\/SetTable.probe.go t hash h fuel p=some (.empty (az t K p).j none):=by
 rcases rD hd hash h K fuel p hf hp hs with a | a
 ·exact .inl a
 ·refine .inr ?_
  rw[a]
  obtain⟨f,hf'⟩:∃f,fuel-K=f+1:=⟨fuel-K-1,by omega⟩
  rw[hf']
  unfold SetTable.probe.go
  rw[he]
  dsimp only
  rw[iM,hp]
theorem uR{t:SetTable}(hd:t.dummies = #[])(hash:Nat->Int)(h:Int){K fuel i0:Nat}{p:SetTable.Probe}(hf:K<fuel)(hp:p.dummy=none)(hs:∀k,k<K->t.slot (az t k p).j≠.empty)(he:t.slot (az t K p).j=.live i0)(hh:hash i0=h):
  ∃k i,k<=K/\SetTable.probe.go t hash h fuel p=some (.candidate (az t k p).j i (az t (k+1) p))/\t.slot (az t k p).j=.live i:=by
 rcases rD hd hash h K fuel p hf hp hs with⟨k,i,hk,e,hl⟩ | a
 ·exact⟨k,i,by omega,e,hl⟩
 ·refine⟨K,i0,BB _,?_,he⟩
  rw[a]
  obtain⟨f,hf'⟩:∃f,fuel-K=f+1:=⟨fuel-K-1,by omega⟩
  rw[hf']
  conv=>lhs;unfold SetTable.probe.go
  rw[he]
  dsimp only
  rw[if_pos (by rw[hh];exact beq_self_eq_true _)]
  rw[fL]
  rfl
theorem ou(t:SetTable):∀(k:Nat) (p:SetTable.Probe),k<=p.more->az t k p={ p with j:=p.j+k,more:=p.more-k }
 | 0,p,h=>rfl
 | k+1,p,h=>by
  show az t k (t.advance p)=_
  have e:t.advance p={ p with j:=p.j+1,more:=p.more-1 }:=by
   unfold SetTable.advance
   rw[if_pos (by omega)]
  rw[e,ou t k _ (by show k<=p.more-1;omega)]
  simp only[SetTable.Probe.mk.injEq,true_and,and_true]
  omega
theorem zi{m i:Nat}(h:i<=m):SetTable.runEnd m i<=m/\i<=SetTable.runEnd m i/\SetTable.runEnd m i<=i+9:=by
 unfold SetTable.runEnd
 split<;>omega
theorem ky{t:SetTable}{i p k:Nat}(h:k<=SetTable.runEnd t.mask i-i):(az t k (at_ t (i,p))).j=i+k:=by
 rw[ou t k _ h]
 rfl
theorem qv{owner:Array (Option Nat)}{j:Nat}(hj:j<owner.size)(h:(owner.getD j (some 0)).isNone=false):∃x,owner[j]?=some (some x):=by
 rw[Array.getD_eq_getD_getElem?,getElem?_pos owner j hj]at h
 rw[getElem?_pos owner j hj]
 cases e:owner[j]with
 | none=>rw[e]at h;cases h
 | some x=>exact⟨x,rfl⟩
theorem pV{t:SetTable}(owner:Array (Option Nat))(hz:owner.size=t.mask+1):∀(fuel i p j':Nat),i<=t.mask->SetTable.layClean.free t.mask owner fuel i p=some j' →
  ∃K,K<10*fuel/\(az t K (at_ t (i,p))).j=j'/\∀k,k<K->∃x,owner[(az t k (at_ t (i,p))).j]?=some (some x)
 | 0,i,p,j',hi,h=>by cases h
 | fuel+1,i,p,j',hi,h=>by
  obtain⟨r1,r2,r3⟩:=zi hi
  unfold SetTable.layClean.free at h
  split at h
  ·rename_i k0 hk
   cases h
   rw[List.find?_range_eq_some]at hk
   obtain⟨hk1,hk2,hk3⟩:=hk
   have hk2:=List.mem_range.mp hk2
   refine⟨k0,by omega,ky (by omega),fun k hk=>?_⟩
   rw[ky (by omega)]
   refine qv (by omega) ?_
   have:=hk3 k hk
   simpa using this
  ·rename_i hk
   rw[List.find?_range_eq_none]at hk
   have hnx:(SetTable.leap t.mask i p).1<=t.mask:=by
    show(_ % (t.mask+1))<=t.mask
    have:=Nat.mod_lt (i*5+1+p / 32) (show 0<t.mask+1 by omega)
    omega
   obtain⟨K,h1,h2,h3⟩:=pV owner hz fuel _ _ j' hnx h
   have hr:az t (SetTable.runEnd t.mask i-i+1) (at_ t (i,p))=at_ t (SetTable.leap t.mask i p):=(nV t (SetTable.runEnd t.mask i-i) (at_ t (i,p)) rfl).trans rfl
   refine⟨SetTable.runEnd t.mask i-i+1+K,by omega,?_,fun k hk'=>?_⟩
   ·rw[fL,hr]
    exact h2
   ·rcases Nat.lt_or_ge k (SetTable.runEnd t.mask i-i+1)with a | a
    ·rw[ky (by omega)]
     refine qv (by omega) ?_
     have:=hk k (by omega)
     simpa using this
    ·obtain⟨k',rfl⟩:∃k',k=SetTable.runEnd t.mask i-i+1+k':=⟨k-(SetTable.runEnd t.mask i-i+1),by omega⟩
     rw[fL,hr]
     exact h3 k' (by omega)
def kc(m:Nat)(F:Nat->Int)(owner:Array (Option Nat)):Prop:=∀j x:Nat,owner[j]?=some (some x)->∃K,K<10*SetTable.turns m/\pm m (F x) K=j/\∀k,k<K->∃y,owner[pm m (F x) k]?=some (some y)
theorem uf{m:Nat}(hm:Mask m)(F:Nat->Int):∀(hs:List Int) (owner:Array (Option Nat)) (k:Nat),owner.size=m+1->(owner.toList.filterMap id).Perm (List.range k)->k+hs.length<=m->(∀i h,hs[i]?=some h->F (k+i)=h)->kc m F owner →
  ∃owner',hs.foldl (jQ m) (some (owner,k))=some (owner',k+hs.length)/\owner'.size=m+1/\(owner'.toList.filterMap id).Perm (List.range (k+hs.length))/\kc m F owner'
 | [],owner,k,h1,h2,h3,h4,h5=>⟨owner,rfl,h1,h2,h5⟩
 | h::hs,owner,k,h1,h2,h3,h4,h5=>by
  rw[BI]at h3 ⊢
  have hlt:(owner.toList.filterMap id).length<owner.toList.length:=by
   rw[h2.length_eq,List.length_range,Bm,h1]
   omega
  obtain⟨j,hj⟩:=zM hlt
  rw[Array.getElem?_toList]at hj
  have hjm:j<=m:=by
   have:=(Array.getElem?_eq_some_iff.mp hj).1
   omega
  have hi:SetTable.bits h % (m+1)<=m:=by
   have:=Nat.mod_lt (SetTable.bits h) (show 0<m+1 by omega)
   omega
  obtain⟨n,hn,en⟩:=oN hm hi (tj h) hjm
  obtain⟨j',e',hj'⟩:=AA hm owner h1 hj (SetTable.turns m) n _ _ hi (by unfold SetTable.turns;omega) en
  obtain⟨K,K1,K2,K3⟩:=pV (t:=tM m) owner h1 (SetTable.turns m) _ _ j' hi e'
  have step:jQ m (some (owner,k)) h=some (owner.setIfInBounds j' (some k),k+1):=by
   unfold jQ
   simp[e']
  rw[List.foldl_cons,step]
  have hp:((owner.setIfInBounds j' (some k)).toList.filterMap id).Perm (List.range (k+1)):=by
   rw[Array.toList_setIfInBounds]
   rw[←Array.getElem?_toList]at hj'
   refine(rG hj').trans ?_
   rw[List.range_succ]
   exact(List.Perm.cons k h2).trans (List.perm_append_comm (l₁:=[k]) (l₂:=List.range k))
  have hj's:j'<owner.size:=(Array.getElem?_eq_some_iff.mp hj').1
  have keep:∀i x,owner[i]?=some (some x)->(owner.setIfInBounds j' (some k))[i]?=some (some x):=fun i x e=>by
   rw[Array.getElem?_setIfInBounds,if_neg]
   ·exact e
   ·rintro rfl
    rw[hj']at e
    cases e
  have hR:kc m F (owner.setIfInBounds j' (some k)):=fun i x e=>by
   rw[Array.getElem?_setIfInBounds]at e
   by_cases c:j'=i
   ·rw[if_pos c,if_pos hj's]at e
    cases e
    have eF:F k=h:=by
     have:=h4 0 h rfl
     rwa [Nat.add_zero]at this
    rw[eF]
    refine⟨K,K1,?_,fun k' hk'=>?_⟩
    ·rw[←c]
     exact K2
    ·obtain⟨y,hy⟩:=K3 k' hk'
     exact⟨y,keep _ _ hy⟩
   ·rw[if_neg c]at e
    obtain⟨K',q1,q2,q3⟩:=h5 i x e
    refine⟨K',q1,q2,fun k' hk'=>?_⟩
    obtain⟨y,hy⟩:=q3 k' hk'
    exact⟨y,keep _ _ hy⟩
  obtain⟨o',f1,f2,f3,f4⟩:=uf hm F hs (owner.setIfInBounds j' (some k)) (k+1) (by simpa using h1) hp (by omega) (fun i h' e=>by
   have:=h4 (i+1) h' e
   rwa [show k+(i+1)=k+1+i by omega]at this) hR
  exact⟨o',by rw[f1];congr 2;omega,f2,by rw[show k+(hs.length+1)=k+1+hs.length by omega];exact f3,f4⟩
theorem ir{α:Type}(es:Array α):∀(l:List Nat),(∀i∈l,i<es.size)->∀n:Nat,(l.filterMap (es[·]?))[n]?=(l[n]?).bind (es[·]?)
 | [],_,n=>by simp
 | x::l,h,n=>by
  have hx:=h x Bo
  have e:(x::l).filterMap (es[·]?)=es[x]::l.filterMap (es[·]?):=by
   rw[List.filterMap_cons]
   simp[hx]
  rw[e]
  cases n with
  | zero=>simp[hx]
  | succ n=>simpa using ir es l (fun i hi=>h i (Bl _ hi)) n
theorem rC{f:Nat->Option (Nat×Nat)}(hf:∀j x,f j=some x->x.1=j):∀(l:List Nat),(∀x∈(l.filterMap f),f x.1=some x)/\((l.filterMap f).map (·.1))=l.filter (fun j=>(f j).isSome)
 | []=>⟨fun x hx=>(by cases hx),rfl⟩
 | a::l=>by
  obtain⟨i1,i2⟩:=rC hf l
  cases e:f a with
  | none=>
   rw[List.filterMap_cons_none e,List.filter_cons_of_neg (by rw[e];simp)]
   exact⟨i1,i2⟩
  | some x=>
   rw[List.filterMap_cons_some e,List.filter_cons_of_pos (by rw[e];rfl),List.map_cons,i2,hf a x e]
   refine⟨fun y hy=>?_,rfl⟩
   rcases Bw.mp hy with rfl | hy
   ·rw[hf a y e]
    exact e
   ·exact i1 y hy
theorem zh(t:SetTable){es:Array (Int×Value)}{wanted m:Nat}(hm:Mask m)(hw:SetTable.sizeAbove wanted-1=m)(hn:es.size<=m):
  ∃t' order,t.relaid (es.map (·.1)) wanted=some (t',order)/\t'.place.size=es.size/\t'.dummies = #[]/\t'.mask=m/\order.toList.Perm (List.range es.size)/\t'.led=t.led/\t'.plain=t.plain/\TOk m t'.place ((order.filterMap (es[·]?)).map (·.1)):=by
 obtain⟨o',f1,f2,f3,f4⟩:=uf hm (fun i=>((es[i]?).map (·.1)).getD 0) (es.map (·.1)).toList (Array.replicate (m+1) none) 0 (by simp) (by simp) (by rw[Bm,Array.size_map];omega) (fun i h e=>by
   rw[Array.getElem?_toList,Array.getElem?_map]at e
   show((es[0+i]?).map (·.1)).getD 0=h
   rw[Nat.zero_add,e]
   rfl) (fun j x e=>by
   rw[Array.getElem?_replicate]at e
   split at e<;>cases e)
 rw[Bm,Nat.zero_add,Array.size_map]at f1 f3
 have hlay:SetTable.layClean m (es.map (·.1))=some o':=by
  show((es.map (·.1)).foldl (jQ m) (some (Array.replicate (m+1) none,0))).map (·.1)=some o'
  rw[←Array.foldl_toList,f1]
  rfl
 have hsnd:((List.range (m+1)).filterMap fun j=>(o'.getD j none).map (j,·)).map (·.2)=o'.toList.filterMap id:=by
  rw[List.map_filterMap]
  have:o'.toList=(List.range (m+1)).map fun j=>o'.getD j none:=by
   apply List.ext_getElem
   ·rw[Bm,Bi,List.length_range,f2]
   ·intro i h1 h2
    rw[Bm]at h1
    simp[h1]
  rw[this,List.filterMap_map]
  congr 1
  funext j
  show((o'.getD j none).map (j,·)).map (·.2)=o'.getD j none
  cases o'.getD j none<;>rfl
 have hrel:t.relaid (es.map (·.1)) wanted=some (({ mask:=m,place:=(((List.range (m+1)).filterMap fun j=>(o'.getD j none).map (j,·)).map (·.1)).toArray,dummies:=#[],finger:=t.finger,led:=t.led,moves:=t.movedTo m,plain:=t.plain }:SetTable),(((List.range (m+1)).filterMap fun j=>(o'.getD j none).map (j,·)).map (·.2)).toArray):=by
  unfold SetTable.relaid
  rw[hw]
  unfold SetTable.laid
  rw[hlay]
  rfl
 obtain⟨lv1,lv2⟩:=rC (f:=fun j=>(o'.getD j none).map (j,·)) (fun j x e=>by
  obtain⟨y,_,rfl⟩:=Bt.mp e
  rfl) (List.range (m+1))
 have hlen:((List.range (m+1)).filterMap fun j=>(o'.getD j none).map (j,·)).length=es.size:=by
  have:=congrArg List.length hsnd
  rwa [Bi,f3.length_eq,List.length_range]at this
 have hall:∀i∈((List.range (m+1)).filterMap fun j=>(o'.getD j none).map (j,·)).map (·.2),i<es.size:=fun i hi=>by
  rw[hsnd]at hi
  exact List.mem_range.mp (f3.mem_iff.mp hi)
 refine⟨_,_,hrel,?_,rfl,rfl,?_,rfl,rfl,?_⟩
 ·show(((List.range (m+1)).filterMap fun j=>(o'.getD j none).map (j,·)).map (·.1)).toArray.size=_
  rw[Bn,Bi,hlen]
 ·show(((List.range (m+1)).filterMap fun j=>(o'.getD j none).map (j,·)).map (·.2)).toArray.toList.Perm _
  rw[List.toList_toArray,hsnd]
  exact f3
 ·generalize hlv:((List.range (m+1)).filterMap fun j=>(o'.getD j none).map (j,·))=lv at lv1 lv2 hlen hall
  show TOk m (lv.map (·.1)).toArray (((lv.map (·.2)).toArray.filterMap (es[·]?)).map (·.1))
  have mem:∀j,(∃y,o'[j]?=some (some y))->j∈(lv.map (·.1)).toArray.toList:=fun j ⟨y,hy⟩=>by
   rw[List.toList_toArray,lv2,List.mem_filter]
   have hj:=(Array.getElem?_eq_some_iff.mp hy).1
   refine⟨List.mem_range.mpr (by omega),?_⟩
   rw[Array.getD_eq_getD_getElem?,hy]
   rfl
  have hes:∀n:Nat,((((lv.map (·.2)).toArray.filterMap (es[·]?)).map (·.1)))[n]?=(((lv.map (·.2))[n]?).bind (es[·]?)).map (·.1):=fun n=>by
   rw[Array.getElem?_map,←Array.getElem?_toList,Array.toList_filterMap,List.toList_toArray,ir es _ hall]
  refine⟨?_,?_,fun i j h e1 e2=>?_⟩
  ·rw[Array.size_map,←Bm,←Bm,Array.toList_filterMap,List.toList_toArray,List.toList_toArray,Bi]
   have key:∀l:List Nat,(∀i∈l,i<es.size)->(l.filterMap (es[·]?)).length=l.length:=by
    intro l
    induction l with
    | nil=>intro _;rfl
    | cons x l ih=>
     intro hl
     have hx:=hl x Bo
     rw[List.filterMap_cons,getElem?_pos es x hx,BI,BI,ih fun i hi=>hl i (Bl _ hi)]
   rw[key _ hall,Bi]
  ·rw[List.toList_toArray,lv2]
   exact List.Pairwise.filter _ List.pairwise_lt_range
  ·rw[hes]at e2
   rw[List.getElem?_toArray,Bk]at e1
   rw[Bk]at e2
   obtain⟨⟨j',x⟩,hx,rfl⟩:=Bt.mp e1
   rw[hx]at e2
   have hf:=lv1 _ (Br hx)
   have hx':o'.getD j' none=some x:=by
    obtain⟨y,hy,ey⟩:=Bt.mp hf
    cases ey
    exact hy
   have ho:o'[j']?=some (some x):=by
    rw[Array.getD_eq_getD_getElem?]at hx'
    cases q:o'[j']? with
    | none=>rw[q]at hx';cases hx'
    | some y=>rw[q]at hx';cases hx';rfl
   obtain⟨K,q1,q2,q3⟩:=f4 j' x ho
   have eF:((es[x]?).map (·.1)).getD 0=h:=by
    have:(es[x]?).map (·.1)=some h:=e2
    rw[this]
    rfl
   dsimp only at q2 q3
   rw[eF]at q2 q3
   exact⟨K,q1,q2,fun k hk=>mem _ (q3 k hk)⟩
end Tb
namespace L2
open PySem PySem.Spec PyProof.Rows
section
variable {P:Program} {w:World} {A:Around} {E:Value->Shared->Prop} {s:Shared} {K:Type} [DecidableEq K] {knd:KeyKind P w K}
theorem uL{ks:List K}{vs:List Value}(h:ItemsAre knd ks vs):∀v∈vs,∀b,v≠.ref b:=fun v hv b e=>by
 have:=h.byValue v hv
 subst e
 cases this
theorem y4(n:Nat){v:Value}(h:∀b,v≠.ref b):ofAClassStatement n v=pure false:=by
 cases v with
 | ref b=>exact absurd rfl (h b)
 | _=>unfold ofAClassStatement;rfl
theorem oa{ks:List K}{b:Addr}{Q:Bool->Shared->Prop}(hk:IsTupleKey knd s.heap ks b)(h:Q false s):wpAny (model P w) A (ofAClassStatement 8 (.ref b)) Q E s:=by
 have hT:=hk.typeIs
 obtain⟨o,items,n,ho,hc,hd,hi⟩:=hk
 unfold ofAClassStatement
 refine Bc (wpAny_typeOf hT ?_)
 dsimp only
 refine Bc (Bd ?_)
 simp only[Bool.not_true,Bool.false_eq_true,if_false]
 refine Bc (wpAny_seqItems ho hd ?_)
 dsimp only
 refine Bc ?_
 rw[←Array.forIn_toList]
 refine wpAny_forIn_list _ (fun rest r s'=>r.1=none/\s'=s/\∀v∈rest,∀b,v≠.ref b) _ ?_ ?_ _ _ ⟨rfl,rfl,uL hi⟩
 ·rintro v rest r s' ⟨hr,rfl,hall⟩
  rw[y4 _ (hall v Bo)]
  refine Bc (Bd ?_)
  simp only[Bool.false_eq_true,if_false]
  exact Bd ⟨rfl,rfl,fun u hu=>hall u (Bl _ hu)⟩
 ·rintro⟨r1,r2⟩ s' ⟨hr,rfl,_⟩
  simp only at hr
  subst hr
  exact Bd h
theorem oP{ks:List K}{b:Addr}{l:List Value}{Q:Bool->Shared->Prop}(hk:IsTupleKey knd s.heap ks b)(hl:∀y∈l,∃b' k',y=.ref b'/\IsTupleKey knd s.heap k' b')(h:Q false s):wpAny (model P w) A (searchCouldBeSeen (.ref b) l) Q E s:=by
 unfold searchCouldBeSeen
 refine Bc ?_
 refine wpAny_forIn_list _ (fun rest r s'=>r.1=none/\s'=s/\∀y∈rest,∃b' k',y=.ref b'/\IsTupleKey knd s.heap k' b') _ ?_ ?_ _ _ ⟨rfl,rfl,hl⟩
 ·rintro v rest r s' ⟨hr,rfl,hall⟩
  obtain⟨b',k',rfl,hk'⟩:=hall v Bo
  have next:∀y∈rest,∃b' k',y=.ref b'/\IsTupleKey knd s'.heap k' b':=fun y hy=>hall y (Bl _ hy)
  dsimp only
  split
  ·exact Bd ⟨rfl,rfl,next⟩
  ·refine Bc (wpAny_eqIsQuiet_tuple hk ?_)
   simp only[Bool.not_true,Bool.false_eq_true,if_false]
   refine Bc (wpAny_eqIsQuiet_tuple hk' ?_)
   simp only[Bool.not_true,Bool.false_eq_true,if_false]
   refine Bc (oa hk ?_)
   simp only[Bool.false_eq_true,if_false]
   refine Bc (oa hk' ?_)
   simp only[Bool.false_eq_true,if_false]
   exact Bd ⟨rfl,rfl,next⟩
 ·rintro⟨r1,r2⟩ s' ⟨hr,rfl,_⟩
  simp only at hr
  subst hr
  exact Bd h
theorem qB{t:SetTable}(hm:Tb.Mask t.mask):t.gaveWay=false:=by
 unfold SetTable.gaveWay
 rcases hm with e | e | e | e | e | e<;>rw[e]<;>rfl
theorem AI{a b:Addr}{k:List K}{h:Int}{o:Obj}{es:Array (Int×Value)}{ep:Nat}{t:SetTable}(hu:A.units<cLine)(hk:IsTupleKey knd s.heap k b)(ho:s.heap.get? a=some o)(hd:o.data=.set es ep t)(hf:t.fits es.size=true)(hm:Tb.Mask t.mask)(hdm:t.dummies = #[])
  (hall:∀e∈es.toList,∃b' k',e.2=.ref b'/\IsTupleKey knd s.heap k' b'/\k'≠k) {Q:SetFound->Shared->Prop} :
  ∀(K fuel:Nat) (stand:Option SetTable.Probe),K<fuel->K<10*SetTable.turns t.mask->(stand.getD (t.probeStart h)).dummy=none->(∀k',k'<K->t.slot (Tb.az t k' (stand.getD (t.probeStart h))).j≠.empty)->t.slot (Tb.az t K (stand.getD (t.probeStart h))).j=.empty →
   Q (.free (Tb.az t K (stand.getD (t.probeStart h))).j false) s->wpAny (model P w) A (setSearchFrom a (.ref b) h true fuel stand) Q E s:=by
 intro K
 induction K using Nat.strongRecOn with
 | ind K ih=>
  intro fuel stand hfu hK hdu hne hs hQ
  obtain⟨f,rfl⟩:∃f,fuel=f+1:=⟨fuel-1,by omega⟩
  unfold setSearchFrom
  refine Bc (wpAny_setState_of ho hd hf ?_)
  dsimp only
  have hg:=qB hm
  have hsz:t.place.size=es.size:=by
   simp only[SetTable.fits,BQ,beq_iff_eq]at hf
   exact hf.1
  have hsm:t.sameMemory t.moves t.mask=some true:=by
   unfold SetTable.sameMemory
   rw[if_pos (beq_self_eq_true _)]
  rw[hg]
  simp only[Bool.false_eq_true,if_false]
  generalize hr:t.probe _ h (stand.getD (t.probeStart h))=r
  obtain⟨g,hr⟩:∃g,SetTable.probe.go t g h (10*SetTable.turns t.mask) (stand.getD (t.probeStart h))=r:=⟨_,hr⟩
  rcases Tb.wX hdm g h hK hdu hne hs with⟨k',i,hk',e,hl⟩ | e
  ·rw[e]at hr
   subst hr
   have hpl:=Tb.jt hl
   have hi:i<es.size:=by
    rw[←hsz]
    exact(Array.getElem?_eq_some_iff.mp hpl).1
   have hmem:es[i]∈es.toList:=by simp
   obtain⟨b',k2,hy,hk2,hne2⟩:=hall _ hmem
   have hes:es[i]?=some (es[i].1,.ref b'):=by
    rw[Array.getElem?_eq_getElem hi,←hy]
   have hst:∀y∈((es.filter fun x=>x.1 == h).toList.map fun x=>x.2),∃b' k',y=Value.ref b'/\IsTupleKey knd s.heap k' b':=fun y hy=>by
    obtain⟨e0,he0,rfl⟩:=List.mem_map.mp hy
    have he1:e0∈es.toList:=by
     have:=Array.mem_toList_iff.mp he0
     exact Array.mem_toList_iff.mpr (Array.mem_filter.mp this).1
    obtain⟨b3,k3,h1,h2,_⟩:=hall e0 he1
    exact⟨b3,k3,h1,h2⟩
   have eK:∀x,Tb.az t (k'+1+x) (stand.getD (t.probeStart h))=Tb.az t x (Tb.az t (k'+1) (stand.getD (t.probeStart h))):=fun x=>Tb.fL t _ _ _
   have again:wpAny (model P w) A (setSearchFrom a (.ref b) h true f (some (Tb.az t (k'+1) (stand.getD (t.probeStart h))))) Q E s:=by
    refine ih (K-(k'+1)) (by omega) f _ (by omega) (by omega) ?_ (fun x hx=>?_) ?_ ?_
    ·show(Tb.az t (k'+1) _).dummy=none
     rw[Tb.iM]
     exact hdu
    ·show t.slot (Tb.az t x (Tb.az t (k'+1) _)).j≠_
     rw[←eK]
     exact hne _ (by omega)
    ·show t.slot (Tb.az t (K-(k'+1)) (Tb.az t (k'+1) _)).j=_
     rw[←eK,show k'+1+(K-(k'+1))=K by omega]
     exact hs
    ·show Q (.free (Tb.az t (K-(k'+1)) (Tb.az t (k'+1) _)).j false) s
     rw[←eK,show k'+1+(K-(k'+1))=K by omega]
     exact hQ
   have same:isSame (Value.ref b') (Value.ref b')=pure true:=by
    unfold isSame
    simp
   dsimp only
   cases hled:t.led
   ·simp only[Bool.not_false,if_true]
    refine Bc (oP hk hst ?_)
    simp only[Bool.false_eq_true,if_false]
    rw[hes]
    dsimp only
    refine Bc (wpAny_holding (wpAny_eqBool_tuple hu hk2 hk ?_))
    rw[decide_eq_false hne2]
    refine Bc (wpAny_setState_of ho hd hf ?_)
    dsimp only
    simp only[Bool.and_false,Bool.false_eq_true,if_false,hsm,if_true,hl,hes,same]
    exact Bc (Bd (Bc (Bd again)))
   ·simp only[Bool.not_true,Bool.false_eq_true,if_false]
    rw[hes]
    dsimp only
    refine Bc (wpAny_holding (wpAny_eqBool_tuple hu hk2 hk ?_))
    rw[decide_eq_false hne2]
    refine Bc (wpAny_setState_of ho hd hf ?_)
    dsimp only
    simp only[Bool.and_false,Bool.false_eq_true,if_false,hsm,if_true,hl,hes,same]
    exact Bc (Bd (Bc (Bd again)))
  ·rw[e]at hr
   subst hr
   exact Bd hQ
theorem yZ{a b:Addr}{k:List K}{h:Int}{o:Obj}{es:Array (Int×Value)}{ep i0:Nat}{t:SetTable}(hu:A.units<cLine)(hk:IsTupleKey knd s.heap k b)(ho:s.heap.get? a=some o)(hd:o.data=.set es ep t)(hf:t.fits es.size=true)(hm:Tb.Mask t.mask)(hdm:t.dummies = #[])
  (hall:∀e∈es.toList,∃b' k',e.2=.ref b'/\IsTupleKey knd s.heap k' b') (hi0:∃b0,es[i0]?=some (h,.ref b0)/\IsTupleKey knd s.heap k b0) {Q:SetFound->Shared->Prop} (hQ:Q (.there none) s) :
  ∀(K fuel:Nat) (stand:Option SetTable.Probe),K<fuel->K<10*SetTable.turns t.mask->(stand.getD (t.probeStart h)).dummy=none->(∀k',k'<K->t.slot (Tb.az t k' (stand.getD (t.probeStart h))).j≠.empty)->t.slot (Tb.az t K (stand.getD (t.probeStart h))).j=.live i0 →
   wpAny (model P w) A (setSearchFrom a (.ref b) h true fuel stand) Q E s:=by
 obtain⟨b0,hb0,hkb0⟩:=hi0
 intro K
 induction K using Nat.strongRecOn with
 | ind K ih=>
  intro fuel stand hfu hK hdu hne hs
  obtain⟨f,rfl⟩:∃f,fuel=f+1:=⟨fuel-1,by omega⟩
  unfold setSearchFrom
  refine Bc (wpAny_setState_of ho hd hf ?_)
  dsimp only
  have hg:=qB hm
  have hsz:t.place.size=es.size:=by
   simp only[SetTable.fits,BQ,beq_iff_eq]at hf
   exact hf.1
  have hsm:t.sameMemory t.moves t.mask=some true:=by
   unfold SetTable.sameMemory
   rw[if_pos (beq_self_eq_true _)]
  rw[hg]
  simp only[Bool.false_eq_true,if_false]
  generalize hr:t.probe _ h (stand.getD (t.probeStart h))=r
  obtain⟨g,hgi,hr⟩:∃g:Nat->Int,g i0=h/\SetTable.probe.go t g h (10*SetTable.turns t.mask) (stand.getD (t.probeStart h))=r:=⟨_,by show((es[i0]?).map (·.1)).getD 0=h;rw[hb0];rfl,hr⟩
  obtain⟨k',i,hk',e,hl⟩:=Tb.uR hdm g h hK hdu hne hs hgi
  rw[e]at hr
  subst hr
  have hpl:=Tb.jt hl
  have hi:i<es.size:=by
   rw[←hsz]
   exact(Array.getElem?_eq_some_iff.mp hpl).1
  have hmem:es[i]∈es.toList:=by simp
  obtain⟨b',k2,hy,hk2⟩:=hall _ hmem
  have hes:es[i]?=some (es[i].1,.ref b'):=by
   rw[Array.getElem?_eq_getElem hi,←hy]
  have hst:∀y∈((es.filter fun x=>x.1 == h).toList.map fun x=>x.2),∃b' k',y=Value.ref b'/\IsTupleKey knd s.heap k' b':=fun y hy=>by
   obtain⟨e0,he0,rfl⟩:=List.mem_map.mp hy
   have he1:e0∈es.toList:=by
    have:=Array.mem_toList_iff.mp he0
    exact Array.mem_toList_iff.mpr (Array.mem_filter.mp this).1
   obtain⟨b3,k3,h1,h2⟩:=hall e0 he1
   exact⟨b3,k3,h1,h2⟩
  have eK:∀x,Tb.az t (k'+1+x) (stand.getD (t.probeStart h))=Tb.az t x (Tb.az t (k'+1) (stand.getD (t.probeStart h))):=fun x=>Tb.fL t _ _ _
  have again:k2≠k->wpAny (model P w) A (setSearchFrom a (.ref b) h true f (some (Tb.az t (k'+1) (stand.getD (t.probeStart h))))) Q E s:=fun hne2=>by
   have hlt:k'<K:=by
    rcases Nat.lt_or_ge k' K with q | q
    ·exact q
    ·have:k'=K:=by omega
     subst this
     rw[hs]at hl
     cases hl
     rw[hb0]at hes
     cases hes
     obtain⟨o1,i1,n1,z1,_,z2,z3⟩:=hk2
     obtain⟨o2,i2,n2,y1,_,y2,y3⟩:=hkb0
     rw[z1]at y1
     cases y1
     rw[z2]at y2
     cases y2
     exact absurd (z3.inj y3) hne2
   refine ih (K-(k'+1)) (by omega) f _ (by omega) (by omega) ?_ (fun x hx=>?_) ?_
   ·show(Tb.az t (k'+1) _).dummy=none
    rw[Tb.iM]
    exact hdu
   ·show t.slot (Tb.az t x (Tb.az t (k'+1) _)).j≠_
    rw[←eK]
    exact hne _ (by omega)
   ·show t.slot (Tb.az t (K-(k'+1)) (Tb.az t (k'+1) _)).j=_
    rw[←eK,show k'+1+(K-(k'+1))=K by omega]
    exact hs
  have same:isSame (Value.ref b') (Value.ref b')=pure true:=by
   unfold isSame
   simp
  have fin:wpAny (model P w) A (do
    let equal ←holding [Value.ref b'] (eqBool (.ref b') (.ref b))
    let (es',_,t') ←setState a
    if(true && equal)=true then return SetFound.there none
    let some same:=t'.sameMemory t.moves t.mask | unsupported "set.changed-during-lookup:is-the-new-block-at-the-old-address"
    let still ←match (if same=true then t'.slot (Tb.az t k' (stand.getD (t.probeStart h))).j else .empty)with
     | .live i'=>match es'[i']? with
      | some (_,y')=>do pure (if ←isSame y' (.ref b')then some i' else none)
      | none=>pure none
     | _=>pure none
    match still with
    | none=>rule "set.search.anew";setSearchFrom a (.ref b) h true f none
    | some i'=>if equal=true then return .there (some i')else setSearchFrom a (.ref b) h true f (some (Tb.az t (k'+1) (stand.getD (t.probeStart h))))) Q E s:=by
   refine Bc (wpAny_holding (wpAny_eqBool_tuple hu hk2 hk ?_))
   refine Bc (wpAny_setState_of ho hd hf ?_)
   dsimp only
   by_cases hq:k2=k
   ·rw[decide_eq_true hq]
    simp only[Bool.and_self,if_true]
    exact Bd hQ
   ·rw[decide_eq_false hq]
    simp only[Bool.and_false,Bool.false_eq_true,if_false,hsm,if_true,hl,hes,same]
    exact Bc (Bd (Bc (Bd (again hq))))
  dsimp only
  cases hled:t.led
  ·simp only[Bool.not_false,if_true]
   refine Bc (oP hk hst ?_)
   simp only[Bool.false_eq_true,if_false]
   rw[hes]
   exact fin
  ·simp only[Bool.not_true,Bool.false_eq_true,if_false]
   rw[hes]
   exact fin
theorem g9{h h':Heap}{a b:Addr}{k:List K}{o:Obj}{es:Array (Int×Value)}{ep:Nat}{t:SetTable}(hk:IsTupleKey knd h k b)(ho:h.get? a=some o)(hd:o.data=.set es ep t)(hs:Heap.SameBut a h h'):IsTupleKey knd h' k b:=by
 obtain⟨o',items,n,ho',hc,hd',hi⟩:=hk
 have hne:b≠a:=by
  rintro rfl
  rw[ho]at ho'
  cases ho'
  rw[hd]at hd'
  cases hd'
 exact⟨o',items,n,(hs.2 b hne).trans ho',hc,hd',hi⟩
theorem xr(n:Nat){v:Value}(h:∀b,v≠.ref b):∃c,hashByValue n v=pure c:=by
 cases v with
 | ref b=>exact absurd rfl (h b)
 | _=>exact⟨_,by cases n<;>unfold hashByValue<;>rfl⟩
theorem wx{ks:List K}{b:Addr}{Q:Bool->Shared->Prop}(hk:IsTupleKey knd s.heap ks b)(h:∀c,Q c s):wpAny (model P w) A (hashByValue 8 (.ref b)) Q E s:=by
 have hT:=hk.typeIs
 obtain⟨o,items,n,ho,hc,hd,hi⟩:=hk
 unfold hashByValue
 refine Bc (wpAny_specialOf hT F.slot_tuple_hash.lookup ?_)
 dsimp only
 refine Bc (wpAny_seqItems ho hd ?_)
 dsimp only[Option.getD_some]
 refine Bc ?_
 rw[←Array.forIn_toList]
 refine wpAny_forIn_list _ (fun rest r s'=>(r.1=none\/∃c,r.1=some c)/\s'=s/\∀v∈rest,∀b,v≠.ref b) _ ?_ ?_ _ _ ⟨.inl rfl,rfl,uL hi⟩
 ·rintro v rest r s' ⟨hr,rfl,hall⟩
  obtain⟨c,hc'⟩:=xr 7 (hall v Bo)
  rw[hc']
  refine Bc (Bd ?_)
  cases c
  ·show wpAny _ _ (pure (ForInStep.done (some false,()))) _ _ _
   exact Bd (Bd (h false))
  ·simp only[Bool.not_true,Bool.false_eq_true,if_false]
   exact Bd ⟨.inl rfl,rfl,fun u hu=>hall u (Bl _ hu)⟩
 ·rintro⟨r1,r2⟩ s' ⟨hr,rfl,_⟩
  simp only at hr
  rcases hr with rfl | ⟨c,rfl⟩
  ·exact Bd (h true)
  ·exact Bd (h c)
theorem zR{α:Type}{es:Array α}{order:Array Nat}(h:order.toList.Perm (List.range es.size)):(order.filterMap (es[·]?)).size=es.size/\∀e∈(order.filterMap (es[·]?)).toList,e∈es.toList:=by
 have key:∀l:List Nat,(∀i∈l,i<es.size)->(l.filterMap (es[·]?)).length=l.length/\∀e∈l.filterMap (es[·]?),e∈es.toList:=by
  intro l
  induction l with
  | nil=>intro _;exact⟨rfl,fun e he=>by cases he⟩
  | cons x l ih=>
   intro hl
   obtain⟨i1,i2⟩:=ih fun i hi=>hl i (Bl _ hi)
   have hx:=hl x Bo
   have e:(x::l).filterMap (es[·]?)=es[x]::l.filterMap (es[·]?):=by
    rw[List.filterMap_cons]
    simp[hx]
   rw[e]
   refine⟨by rw[BI,BI,i1],fun y hy=>?_⟩
   rcases Bw.mp hy with rfl | hy
   ·simp
   ·exact i2 y hy
 have hlt:∀i∈order.toList,i<es.size:=fun i hi=>List.mem_range.mp (h.mem_iff.mp hi)
 obtain⟨k1,k2⟩:=key order.toList hlt
 rw[Array.toList_filterMap]
 refine⟨?_,k2⟩
 rw[←Bm,Array.toList_filterMap,k1,h.length_eq,List.length_range]
theorem wY{α:Type}{es:Array α}{order:Array Nat}(h:order.toList.Perm (List.range es.size)):(order.filterMap (es[·]?)).toList.Perm es.toList:=by
 rw[Array.toList_filterMap]
 have e:(List.range es.size).filterMap (es[·]?)=es.toList:=by
  apply List.ext_getElem?
  intro n
  have e0:es.toList[n]?=es[n]?:=Array.getElem?_toList
  rw[e0,Tb.ir es _ (fun i hi=>List.mem_range.mp hi)]
  by_cases hn:n<es.size
  ·rw[List.getElem?_range hn]
   rfl
  ·have e1:(List.range es.size)[n]?=none:=List.getElem?_eq_none (by rw[List.length_range];omega)
   rw[e1,Array.getElem?_eq_none (by omega)]
   rfl
 rw[←e]
 exact h.filterMap _
end
section
variable {P:Program} {w:World} {A:Around} {E:Value->Shared->Prop} {s:Shared}
end
section
variable {P:Program} {w:World} {A:Around} {I:Addr} {fp wr:List Addr} {G:Array GenState->Array GenState->Prop} {n:Nat} {Pz:Nat->Value->Prop} {St:Nat->Shared->Prop}
end
end L2
namespace L2
open PySem PySem.Spec PyProof.Rows
section
variable {P:Program} {w:World} {A:Around} {E:Value->Shared->Prop} {s:Shared}
abbrev bQ(led:Bool):Obj:={ cls:=.type "set",dict:=none,data:=.set #[] 0 (.fresh 0 0 led) }
theorem uX:isSubtype (.type "tuple") (.type "frozenset")=pure false:=by
 rw[isSubtype_type]
 kernel_rfl
end
end L2
namespace L2
open PySem PySem.Spec PyProof.Rows
namespace SF
theorem xS:entryFor table "set.__iter__" = some Builtin.«frozenset.__iter__»:=entryFor_alias (id':="frozenset.__iter__") (by kernel_rfl) rfl (by decide +kernel) (by kernel_rfl)
theorem Ap(a:Value):argsOk "set.__iter__" ⟨[a],[]⟩:=by unfold argsOk;kernel_rfl
theorem slot_next:Slot "set_iterator" "__next__" "set_iterator.__next__":=
 .of (owner:="set_iterator") (n:="__next__") (by rw[typeLookup_type,builtinLookup_eq_fast];kernel_rfl) (by decide +kernel) (by decide +kernel) (by decide +kernel)
  (by first | exact .inl (by decide +kernel) | exact .inr (by decide +kernel)) (by rw[isSubtype_type];kernel_rfl)
theorem entry_next:entryFor table "set_iterator.__next__" = some Builtin.«set_iterator.__next__»:=entryFor_of_fast (by kernel_rfl)
theorem args_next(a:Value):argsOk "set_iterator.__next__" ⟨[a],[]⟩:=by unfold argsOk;kernel_rfl
theorem qO:Slot "set_iterator" "__iter__" "set_iterator.__iter__":=
 .of (owner:="set_iterator") (n:="__iter__") (by rw[typeLookup_type,builtinLookup_eq_fast];kernel_rfl) (by decide +kernel) (by decide +kernel) (by decide +kernel)
  (by first | exact .inl (by decide +kernel) | exact .inr (by decide +kernel)) (by rw[isSubtype_type];kernel_rfl)
theorem vi:entryFor table "set_iterator.__iter__" = some Builtin.«dict_keyiterator.__iter__»:=entryFor_alias (id':="dict_keyiterator.__iter__") (by kernel_rfl) rfl (by decide +kernel) (by kernel_rfl)
theorem A2(a:Value):argsOk "set_iterator.__iter__" ⟨[a],[]⟩:=by unfold argsOk;kernel_rfl
end SF
section
variable {P:Program} {w:World} {A:Around} {E:Value->Shared->Prop} {s:Shared}
theorem uQ{n:Nat}{Q:Nat->Shared->Prop}(hn:n≠0)(h:∀i d,i<n->Q i { s with drawn:=d }):wpAny (model P w) A (choose .order n) Q E s:=fun Γ p hΓ=>by
 unfold choose
 rw[Sem.wp_choose]
 exact⟨hn,by rw[Sem.wp_pure];exact h _ _ (Nat.mod_lt _ (Nat.pos_of_ne_zero hn))⟩
theorem kB{α:Type}:∀{l:List α} {i:Nat} (h:i<l.length),(l[i]::l.eraseIdx i).Perm l
 | [],i,h=>by cases h
 | x::l,0,h=>.refl _
 | x::l,i+1,h=>by
  have:=kB (l:=l) (i:=i) (Nat.lt_of_succ_lt_succ h)
  exact(List.Perm.swap _ _ _).trans (this.cons x)
theorem rM{α:Type}:∀(n:Nat) (xs:List α) (s:Shared) {Q:List α->Shared->Prop},n=xs.length->(∀ys d,ys.Perm xs->Q ys { s with drawn:=d })->wpAny (model P w) A (drawOrder n xs) Q E s
 | 0,xs,s,Q,hn,h=>by
  obtain rfl:=List.length_eq_zero_iff.mp hn.symm
  unfold drawOrder
  exact Bd (h [] s.drawn (.refl _))
 | n+1,[],s,Q,hn,h=>by cases hn
 | n+1,x::xs,s,Q,hn,h=>by
  unfold drawOrder
  refine Bc (uQ (by simp) fun i d hi=>?_)
  have e:(x::xs)[i]?=some (x::xs)[i]:=Bj hi
  rw[e]
  dsimp only
  refine Bc (rM n _ { s with drawn:=d } (by rw[List.length_eraseIdx_of_lt hi,←hn];rfl) fun ys d' hp=>Bd (h _ d' ?_))
  exact(List.Perm.cons _ hp).trans (kB hi)
theorem qc{α:Type}(next:Nat->Nat):∀(fuel k:Nat) (left:List α) (out:Array α),fuel=left.length->(pickOrder.go next fuel k left out).toList.Perm (out.toList++left)
 | 0,k,left,out,h=>by
  obtain rfl:=List.length_eq_zero_iff.mp h.symm
  unfold pickOrder.go
  rw[List.append_nil]
 | fuel+1,k,left,out,h=>by
  unfold pickOrder.go
  have hlt:next k % left.length<left.length:=Nat.mod_lt _ (by omega)
  rw[Bj hlt]
  dsimp only
  refine(qc next fuel (k+1) _ _ (by rw[List.length_eraseIdx_of_lt hlt];omega)).trans ?_
  rw[Array.toList_push,List.append_assoc]
  exact(kB hlt).append_left _
theorem jj{α:Type}(next:Nat->Nat)(xs:Array α):(pickOrder next xs).toList.Perm xs.toList:=by
 have:=qc next xs.size 0 xs.toList #[] (by simp)
 rw[List.nil_append]at this
 exact this
end
end L2
namespace L2
open PySem PySem.Spec PyProof.Rows
section
variable {P:Program} {w:World} {A:Around} {E:Value->Shared->Prop} {s:Shared}
abbrev bG(a:Addr)(first:Value)(i n ep:Nat):Obj:={ cls:=.type "set_iterator",data:=.fields #[first,rawInt i,.ref a,rawInt n,rawInt ep] }
theorem nY{it:Addr}{h1:Heap}{Q:Option Value->Shared->Prop}(hh:A.handled=none)(he:Heap.ExtBut it s.heap h1)(hQ:∀h',Heap.ExtBut it s.heap h'->Q none { s with heap:=h' }):
  wpAny (model P w) A.in1 (newExc (.type "StopIteration") [] >>= raiseNew) (fun r s'=>∃v,r=Fin.done (.ret v)/\wpAny (model P w) A (pure (some v)) Q E s') (fun e s'=>wpAny (model P w) A (do if ←isInstance e (.type "StopIteration")then pure none else throw e) Q E s') { s with heap:=h1 }:=by
 refine Bc ?_
 simp only[newExc,newTuple]
 refine Bc (wpAny_newObj_type ?_ (by size_fits))
 refine Bc (m:=firstArgMember _ _) (wpAny_of_eq (a:=Value.none) (by first | rfl | (simp only[firstArgMember];rfl)) ?_)
 refine wpAny_newObj_type ?_ (by size_fits)
 simp only[raiseNew]
 refine Bc (wpAny_handled ?_)
 rw[show A.in1.handled=none from hh]
 refine Bc (Bd (wpAny_throw ?_))
 refine Bc (wpAny_isInstance (T:="StopIteration") (b:=true) ⟨_,Bg _ rfl,rfl⟩ isSubtype_stop ?_)
 exact Bd (hQ _ ((he.push _).push _))
theorem fY{it a:Addr}{first x:Value}{i n ep k:Nat}{f':Array Value}{h:Heap}(ho:h.get? it=some (bG a first i n ep))(hf:(#[first,rawInt i,.ref a,rawInt n,rawInt ep]:Array Value).setIfInBounds k x=f'):
  (h.update it (Obj.mapFields (·.setIfInBounds k x))).get? it=some { cls:=.type "set_iterator",data:=.fields f' }:=by
 have:=Heap.get?_update_self (Obj.mapFields (·.setIfInBounds k x)) ho (Obj.isFreed_of_fields (Obj.data_mapFields rfl _))
 rw[this,←hf]
 rfl
theorem Ak{it a:Addr}{i ep:Nat}{o:Obj}{es:Array (Int×Value)}{t:SetTable}{Q:Option Value->Shared->Prop}(hT:w.params.followText "set-order" = true)(hit:s.heap.get? it=some (bG a (rawInt 0) i es.size ep))(ho:s.heap.get? a=some o)(hd:o.data=.set es ep t)(hf:t.fits es.size=true)
  {x:Int×Value} (hx:(pickOrder (w.params.setOrder a ep) es)[i]?=some x) (hQ:∀h',h'.get? it=some (bG a (rawInt 0) (i+1) es.size ep)->Heap.SameBut it s.heap h'->Q (some x.2) { s with heap:=h' }):wpAny (model P w) A (pyNext (.ref it)) Q E s:=by
 have T:s.TypeIs (.ref it) "set_iterator":=⟨_,hit,rfl⟩
 unfold pyNext
 refine Bc (wpAny_attempt (wpAny_callSpecial?_slot (name:=Str.ofString "__next__") T SF.slot_next (wpAny_call_entry SF.slot_next T SF.entry_next ?_ (SF.args_next _))))
 show wpAny _ _ (fieldsOf (.ref it) >>= _) _ _ s
 refine Bc (wpAny_fieldsOf hit rfl ?_)
 show wpAny _ _ (setEntries a >>= _) _ _ s
 unfold setEntries
 refine Bc (Bc (wpAny_setState_of ho hd hf (Bd ?_)))
 rw[if_neg (by simp)]
 show wpAny _ _ (setNext a 0 _ _ >>= _) _ _ s
 unfold setNext
 refine Bc (Bc (wpAny_setState_of ho hd hf ?_))
 dsimp only
 unfold setsByText
 refine Bc (Bc (wpAny_askSetting (Bd ?_)))
 rw[show (model P w).w.params.followText "set-order" = true from hT]
 simp only[if_true]
 rw[if_neg (by simp)]
 unfold setWalk
 refine Bc (Bc (wpAny_setState_of ho hd hf ?_))
 dsimp only
 unfold setsByText
 refine Bc (Bc (wpAny_askSetting (Bd ?_)))
 rw[show (model P w).w.params.followText "set-order" = true from hT]
 simp only[if_true]
 refine Bc (wpAny_askSetting (Bd ?_))
 rw[Bu]
 have hx':(pickOrder ((model P w).w.params.setOrder a ep) es)[i]?=some x:=hx
 rw[hx']
 refine Bd ?_
 dsimp only[Option.map_some,Option.map_none]
 refine Bc (wpAny_setField hit rfl (by simp) ?_)
 have e1:=fY (k:=0) (x:=rawInt (0:Nat)) hit rfl
 have e1':(s.heap.update it (Obj.mapFields (·.setIfInBounds 0 (rawInt (0:Nat))))).get? it=some (bG a (rawInt 0) i es.size ep):=e1
 refine Bc (wpAny_setField (s:={ s with heap:=s.heap.update it (Obj.mapFields (·.setIfInBounds 0 (rawInt (0:Nat)))) }) e1' rfl (by simp) ?_)
 have e2:=fY (k:=1) (x:=rawInt ((i:Int)+1)) e1' rfl
 refine Bd ⟨_,rfl,Bd (hQ _ ?_ ((Heap.SameBut.update ..).trans (Heap.SameBut.update ..)))⟩
 exact e2
theorem zQ{it a:Addr}{i ep:Nat}{o:Obj}{es:Array (Int×Value)}{t:SetTable}{Q:Option Value->Shared->Prop}(hh:A.handled=none)(hT:w.params.followText "set-order" = true)(hit:s.heap.get? it=some (bG a (rawInt 0) i es.size ep))(ho:s.heap.get? a=some o)(hd:o.data=.set es ep t)(hf:t.fits es.size=true)
  (hx:(pickOrder (w.params.setOrder a ep) es)[i]?=none) (hQ:∀h',Heap.ExtBut it s.heap h'->Q none { s with heap:=h' }):wpAny (model P w) A (pyNext (.ref it)) Q E s:=by
 have T:s.TypeIs (.ref it) "set_iterator":=⟨_,hit,rfl⟩
 unfold pyNext
 refine Bc (wpAny_attempt (wpAny_callSpecial?_slot (name:=Str.ofString "__next__") T SF.slot_next (wpAny_call_entry SF.slot_next T SF.entry_next ?_ (SF.args_next _))))
 show wpAny _ _ (fieldsOf (.ref it) >>= _) _ _ s
 refine Bc (wpAny_fieldsOf hit rfl ?_)
 show wpAny _ _ (setEntries a >>= _) _ _ s
 unfold setEntries
 refine Bc (Bc (wpAny_setState_of ho hd hf (Bd ?_)))
 rw[if_neg (by simp)]
 show wpAny _ _ (setNext a 0 _ _ >>= _) _ _ s
 unfold setNext
 refine Bc (Bc (wpAny_setState_of ho hd hf ?_))
 dsimp only
 unfold setsByText
 refine Bc (Bc (wpAny_askSetting (Bd ?_)))
 rw[show (model P w).w.params.followText "set-order" = true from hT]
 simp only[if_true]
 rw[if_neg (by simp)]
 unfold setWalk
 refine Bc (Bc (wpAny_setState_of ho hd hf ?_))
 dsimp only
 unfold setsByText
 refine Bc (Bc (wpAny_askSetting (Bd ?_)))
 rw[show (model P w).w.params.followText "set-order" = true from hT]
 simp only[if_true]
 refine Bc (wpAny_askSetting (Bd ?_))
 rw[Bu]
 have hx':(pickOrder ((model P w).w.params.setOrder a ep) es)[i]?=none:=hx
 rw[hx']
 refine Bd ?_
 dsimp only[Option.map_some,Option.map_none]
 refine Bc (wpAny_setField hit rfl (by simp) ?_)
 exact nY (s:=s) (it:=it) hh (Heap.SameBut.update ..).extBut hQ
theorem vS{it a:Addr}{i ep:Nat}{o:Obj}{es:Array (Int×Value)}{t:SetTable}{Q:Option Value->Shared->Prop}{T0:Addr}{ys:List Nat}(hT0:s.heap.get? T0=some (seqObj "tuple" (ys.map fun(i:Nat)=>rawInt i).toArray 0))(hit:s.heap.get? it=some (bG a (.ref T0) i es.size ep))(ho:s.heap.get? a=some o)(hd:o.data=.set es ep t)(hf:t.fits es.size=true)
  {y:Nat} {x:Int×Value} (hy:ys[i]?=some y) (hx:es[y]?=some x) (hQ:∀h',h'.get? it=some (bG a (.ref T0) (i+1) es.size ep)->Heap.SameBut it s.heap h'->Q (some x.2) { s with heap:=h' }):wpAny (model P w) A (pyNext (.ref it)) Q E s:=by
 have T:s.TypeIs (.ref it) "set_iterator":=⟨_,hit,rfl⟩
 unfold pyNext
 refine Bc (wpAny_attempt (wpAny_callSpecial?_slot (name:=Str.ofString "__next__") T SF.slot_next (wpAny_call_entry SF.slot_next T SF.entry_next ?_ (SF.args_next _))))
 show wpAny _ _ (fieldsOf (.ref it) >>= _) _ _ s
 refine Bc (wpAny_fieldsOf hit rfl ?_)
 show wpAny _ _ (setEntries a >>= _) _ _ s
 unfold setEntries
 refine Bc (Bc (wpAny_setState_of ho hd hf (Bd ?_)))
 rw[if_neg (by simp)]
 show wpAny _ _ (seqItems? (.ref T0) >>= _) _ _ s
 refine Bc (wpAny_seqItems hT0 rfl ?_)
 dsimp only
 rw[Bu]
 have hpl:((ys.map fun(i:Nat)=>rawInt i).toArray:Array Value)[i]?=some (rawInt y):=by
  rw[List.getElem?_toArray,Bk,hy]
  rfl
 rw[hpl]
 show wpAny _ _ (setNextDrawn a _ _ >>= _) _ _ s
 unfold setNextDrawn
 refine Bc (Bc (wpAny_setState_of ho hd hf ?_))
 dsimp only
 rw[if_neg (by simp)]
 simp only[Bu]
 rw[hx]
 refine Bd ?_
 refine Bc (wpAny_setField hit rfl (by simp) ?_)
 have e2:=fY (k:=1) (x:=rawInt ((i:Int)+1)) hit rfl
 exact Bd ⟨_,rfl,Bd (hQ _ e2 (Heap.SameBut.update ..))⟩
theorem vw{it a:Addr}{i ep:Nat}{o:Obj}{es:Array (Int×Value)}{t:SetTable}{Q:Option Value->Shared->Prop}{T0:Addr}{ys:List Nat}(hh:A.handled=none)(hT0:s.heap.get? T0=some (seqObj "tuple" (ys.map fun(i:Nat)=>rawInt i).toArray 0))(hit:s.heap.get? it=some (bG a (.ref T0) i es.size ep))(ho:s.heap.get? a=some o)(hd:o.data=.set es ep t)(hf:t.fits es.size=true)
  (hy:ys[i]?=none) (hQ:∀h',Heap.ExtBut it s.heap h'->Q none { s with heap:=h' }):wpAny (model P w) A (pyNext (.ref it)) Q E s:=by
 have T:s.TypeIs (.ref it) "set_iterator":=⟨_,hit,rfl⟩
 unfold pyNext
 refine Bc (wpAny_attempt (wpAny_callSpecial?_slot (name:=Str.ofString "__next__") T SF.slot_next (wpAny_call_entry SF.slot_next T SF.entry_next ?_ (SF.args_next _))))
 show wpAny _ _ (fieldsOf (.ref it) >>= _) _ _ s
 refine Bc (wpAny_fieldsOf hit rfl ?_)
 show wpAny _ _ (setEntries a >>= _) _ _ s
 unfold setEntries
 refine Bc (Bc (wpAny_setState_of ho hd hf (Bd ?_)))
 rw[if_neg (by simp)]
 show wpAny _ _ (seqItems? (.ref T0) >>= _) _ _ s
 refine Bc (wpAny_seqItems hT0 rfl ?_)
 dsimp only
 rw[Bu]
 have hpl:((ys.map fun(i:Nat)=>rawInt i).toArray:Array Value)[i]?=none:=by
  rw[List.getElem?_toArray,Bk,hy]
  rfl
 rw[hpl]
 refine Bc (wpAny_setField hit rfl (by simp) ?_)
 have e1:=fY (k:=0) (x:=rawInt 0) hit rfl
 have e1':(s.heap.update it (Obj.mapFields (·.setIfInBounds 0 (rawInt 0)))).get? it=some (bG a (rawInt 0) i es.size ep):=e1
 refine Bc (wpAny_setField (s:={ s with heap:=s.heap.update it (Obj.mapFields (·.setIfInBounds 0 (rawInt 0))) }) e1' rfl (by simp) ?_)
 exact nY (s:=s) (it:=it) hh ((Heap.SameBut.update ..).trans (Heap.SameBut.update ..)).extBut hQ
theorem mW{it a:Addr}{first:Value}{i n ep:Nat}{Q:Value->Shared->Prop}(hit:s.heap.get? it=some (bG a first i n ep))(h:Q (.ref it) s):wpAny (model P w) A (pyIter (.ref it)) Q E s:=by
 have T:s.TypeIs (.ref it) "set_iterator":=⟨_,hit,rfl⟩
 refine wpAny_pyIter_slot T SF.qO (wpAny_call_entry SF.qO T SF.vi ?_ (SF.A2 _))
 show wpAny _ _ (ret (.ref it)) _ _ s
 exact Bd ⟨_,rfl,"set_iterator",_,T,SF.slot_next.lookup,h⟩
theorem u4(hh:A.handled=none)(hT:w.params.followText "set-order" = true)(I a:Addr)(hne:a≠I){o:Obj}{es:Array (Int×Value)}{ep:Nat}{t:SetTable}(hd:o.data=.set es ep t)(hf:t.fits es.size=true):
  Walks P w A I [I,a] [I] es.size (fun i v=>∃x,(pickOrder (w.params.setOrder a ep) es)[i]?=some x/\v=x.2) (fun i h=>h.get? I=some (bG a (rawInt 0) i es.size ep)/\h.get? a=some o) where
 sub:=fun b hb=>by simp at hb;simp[hb]
 frame:=fun _ _ _ st hk=>⟨hk I (by simp) _ st.1,hk a (by simp) _ st.2⟩
 item:=fun i s Q E hi st hQ=>by
  have hl:(pickOrder (w.params.setOrder a ep) es).size=es.size:=by
   rw[←Bm,(jj _ es).length_eq,Bm]
  have hx:=getElem?_pos (pickOrder (w.params.setOrder a ep) es) i (by omega)
  refine Ak hT st.1 st.2 hd hf hx fun h' hit' sb=>?_
  exact hQ _ h' s.toks ⟨_,hx,rfl⟩ ⟨hit',(sb.2 a hne).trans st.2⟩ fun b o hb e=>sb.extBut b o (fun h=>hb (by simp[h])) e
 done:=fun s Q E st hQ=>by
  have hl:(pickOrder (w.params.setOrder a ep) es).size=es.size:=by
   rw[←Bm,(jj _ es).length_eq,Bm]
  exact zQ hh hT st.1 st.2 hd hf (Array.getElem?_eq_none (by omega)) fun h' he'=>hQ h' s.toks fun b o hb e=>he' b o (fun h=>hb (by simp[h])) e
 self:=fun _ _ _ _ st hQ=>mW st.1 hQ
theorem yl(hh:A.handled=none)(I a T0:Addr)(hne:a≠I)(hneT:T0≠I){o:Obj}{es:Array (Int×Value)}{ep:Nat}{t:SetTable}{ys:List Nat}(hd:o.data=.set es ep t)(hf:t.fits es.size=true)(hy:ys.Perm (List.range es.size)):
  Walks P w A I [I,a,T0] [I] es.size (fun i v=>∃y x,ys[i]?=some y/\es[y]?=some x/\v=x.2) (fun i h=>h.get? I=some (bG a (.ref T0) i es.size ep)/\h.get? a=some o/\h.get? T0=some (seqObj "tuple" (ys.map fun(i:Nat)=>rawInt i).toArray 0)) where
 sub:=fun b hb=>by simp at hb;simp[hb]
 frame:=fun _ _ _ st hk=>⟨hk I (by simp) _ st.1,hk a (by simp) _ st.2.1,hk T0 (by simp) _ st.2.2⟩
 item:=fun i s Q E hi st hQ=>by
  have hl:ys.length=es.size:=by rw[hy.length_eq,List.length_range]
  have hyi:=Bj (l:=ys) (i:=i) (by omega)
  have hlt:ys[i]<es.size:=List.mem_range.mp (hy.mem_iff.mp (BH (by omega)))
  have hx:=getElem?_pos es ys[i] hlt
  refine vS st.2.2 st.1 st.2.1 hd hf hyi hx fun h' hit' sb=>?_
  exact hQ _ h' s.toks ⟨_,_,hyi,hx,rfl⟩ ⟨hit',(sb.2 a hne).trans st.2.1,(sb.2 T0 hneT).trans st.2.2⟩ fun b o hb e=>sb.extBut b o (fun h=>hb (by simp[h])) e
 done:=fun s Q E st hQ=>by
  have hl:ys.length=es.size:=by rw[hy.length_eq,List.length_range]
  exact vw hh st.2.2 st.1 st.2.1 hd hf (List.getElem?_eq_none (by omega)) fun h' he'=>hQ h' s.toks fun b o hb e=>he' b o (fun h=>hb (by simp[h])) e
 self:=fun _ _ _ _ st hQ=>mW st.1 hQ
end
end L2
namespace PyProof.Rows
open PySem
def eS:Bool->Keyed->Array Keyed->Nat->Nat->Nat->StateT SortSt Sem (Option Nat):=sortPriv% PySem.Builtin.gallop
def ka:Array Keyed->Array Keyed->StateT SortSt Sem (Array Keyed):=sortPriv% PySem.Builtin.mergeLo
def lh:Array Keyed->Array Keyed->StateT SortSt Sem (Array Keyed):=sortPriv% PySem.Builtin.mergeHi
abbrev sM(st:SortSt)(g:Nat):SortSt:=SortSt.mk' (kindOf st) (arrOf st) (pendingOf st) g (failedOf st)
def gw(left:Bool)(key:Keyed)(arr:Array Keyed)(base i:Nat):StateT SortSt Sem (Option Bool):=do
  let x ←elem' arr (base+i)
  if left then lt' x key else return (←lt' key x).map (!·)
theorem vU(left:Bool)(key:Keyed)(arr:Array Keyed)(base n hint:Nat):eS left key arr base n hint=(do
 let mut lastofs:=0
 let mut ofs:=1
 let mut lo:=0
 let mut hi:=0
 let some right ←gw left key arr base hint | return none
 if right then
  let maxofs:=n-hint
  for _ in [0:n] do
   if ofs ≥ maxofs then break
   let some more ←gw left key arr base (hint+ofs) | return none
   if !more then break
   lastofs:=ofs
   ofs:=2*ofs+1
  lo:=hint+lastofs+1
  hi:=hint+min ofs maxofs
 else
  let maxofs:=hint+1
  for _ in [0:n] do
   if ofs ≥ maxofs then break
   let some found ←gw left key arr base (hint-ofs) | return none
   if found then break
   lastofs:=ofs
   ofs:=2*ofs+1
  lo:=hint+1-min ofs maxofs
  hi:=hint-lastofs
 for _ in [0:n] do
  if lo ≥ hi then break
  let m:=lo+(hi-lo) / 2
  let some more ←gw left key arr base m | return none
  if more then lo:=m+1 else hi:=m
 return some hi):=rfl
section
variable {prog:Program} {w:World} {A:Around} {E:Value->Shared->Prop} {s:Shared} {κ:SortKind} {X:Keyed->Prop}
def aT(X:Keyed->Prop)(xs:Array Keyed):Prop:=∀p∈xs.toList,X p
theorem aT.at{xs:Array Keyed}(h:aT X xs){i:Nat}(hi:i<xs.size):X xs[i]:=h _ (by simp)
theorem aT.perm{xs ys:Array Keyed}(h:aT X xs)(hp:ys.Perm xs):aT X ys:=fun p hp'=>h p ((Array.perm_iff_toList_perm.mp hp).mem_iff.mp hp')
theorem aT.extract{xs:Array Keyed}(h:aT X xs)(i j:Nat):aT X (xs.extract i j):=fun p hp=>by
 rw[Array.toList_extract]at hp
 exact h p (List.mem_of_mem_drop (List.mem_of_mem_take hp))
theorem aB{st:SortSt}{arr:Array Keyed}{i:Nat}{Q:Keyed->SortSt->Prop}(hi:i<arr.size)(h:Q arr[i] st):wpS (model prog w) A E s (elem' arr i) Q st:=by
 rw[elem'_eq,getElem?_pos arr i hi]
 exact wpS_pure h
def f9:Nat->StateT SortSt Sem Unit:=sortPriv% PySem.Builtin.setMinGallop
theorem AL(g:Nat):f9 g=modify fun s=>sM s g:=rfl
def dg(a b out:Array Keyed)(ia ib:Nat):Array Keyed:=out++a.extract ia a.size++b.extract ib b.size
def eX(a b out:Array Keyed)(ia ib:Nat):Array Keyed:=out++b.extract ib b.size++a.extract ia a.size
theorem xh(a b:Array Keyed):ka a b=(do
 rule "list.sort.merge-lo"
 let total:=a.size+b.size
 let mut out:Array Keyed:=#[←elem' b 0]
 let mut ia:=0
 let mut ib:=1
 if ib == b.size then return dg a b out ia ib
 if ia+1 == a.size then return eX a b out ia ib
 let mut minGallop:=gallopOf (←get)
 for _ in [0:total] do
  let mut acount:=0
  let mut bcount:=0
  for _ in [0:total] do
   let some bWins ←lt' (←elem' b ib) (←elem' a ia) | return dg a b out ia ib
   if bWins then
    out:=out.push (←elem' b ib);ib:=ib+1;bcount:=bcount+1;acount:=0
    if ib == b.size then return dg a b out ia ib
    if bcount ≥ minGallop then break
   else
    out:=out.push (←elem' a ia);ia:=ia+1;acount:=acount+1;bcount:=0
    if ia+1 == a.size then return eX a b out ia ib
    if acount ≥ minGallop then break
  rule "list.sort.gallop"
  minGallop:=minGallop+1
  for _ in [0:total] do
   if minGallop>1 then minGallop:=minGallop-1
   f9 minGallop
   let some k ←eS false (←elem' b ib) a ia (a.size-ia) 0 | return dg a b out ia ib
   acount:=k
   if k>0 then
    out:=out++a.extract ia (ia+k);ia:=ia+k
    if ia+1 == a.size then return eX a b out ia ib
    if ia == a.size then return dg a b out ia ib
   out:=out.push (←elem' b ib);ib:=ib+1
   if ib == b.size then return dg a b out ia ib
   let some k ←eS true (←elem' a ia) b ib (b.size-ib) 0 | return dg a b out ia ib
   bcount:=k
   if k>0 then
    out:=out++b.extract ib (ib+k);ib:=ib+k
    if ib == b.size then return dg a b out ia ib
   out:=out.push (←elem' a ia);ia:=ia+1
   if ia+1 == a.size then return eX a b out ia ib
   if acount<7 && bcount<7 then break
  minGallop:=minGallop+1
  f9 minGallop
 unsupported "internal:list.sort.merge-bound"):=rfl
def dm(a b out:Array Keyed)(na nb:Nat):Array Keyed:=a.extract 0 na++b.extract 0 nb++out.reverse
def eQ(a b out:Array Keyed)(na nb:Nat):Array Keyed:=b.extract 0 nb++a.extract 0 na++out.reverse
theorem uU(a b:Array Keyed):lh a b=(do
 rule "list.sort.merge-hi"
 let total:=a.size+b.size
 let mut na:=a.size-1
 let mut nb:=b.size
 let mut out:Array Keyed:=#[←elem' a na]
 if na == 0 then return dm a b out na nb
 if nb == 1 then return eQ a b out na nb
 let mut minGallop:=gallopOf (←get)
 for _ in [0:total] do
  let mut acount:=0
  let mut bcount:=0
  for _ in [0:total] do
   let some aWins ←lt' (←elem' b (nb-1)) (←elem' a (na-1)) | return dm a b out na nb
   if aWins then
    na:=na-1;out:=out.push (←elem' a na);acount:=acount+1;bcount:=0
    if na == 0 then return dm a b out na nb
    if acount ≥ minGallop then break
   else
    nb:=nb-1;out:=out.push (←elem' b nb);bcount:=bcount+1;acount:=0
    if nb == 1 then return eQ a b out na nb
    if bcount ≥ minGallop then break
  rule "list.sort.gallop"
  minGallop:=minGallop+1
  for _ in [0:total] do
   if minGallop>1 then minGallop:=minGallop-1
   f9 minGallop
   let some at_ ←eS false (←elem' b (nb-1)) a 0 na (na-1) | return dm a b out na nb
   let k:=na-at_
   acount:=k
   if k>0 then
    out:=out++(a.extract at_ na).reverse;na:=at_
    if na == 0 then return dm a b out na nb
   nb:=nb-1;out:=out.push (←elem' b nb)
   if nb == 1 then return eQ a b out na nb
   let some at_ ←eS true (←elem' a (na-1)) b 0 nb (nb-1) | return dm a b out na nb
   let k:=nb-at_
   bcount:=k
   if k>0 then
    out:=out++(b.extract at_ nb).reverse;nb:=at_
    if nb == 1 then return eQ a b out na nb
    if nb == 0 then return dm a b out na nb
   na:=na-1;out:=out.push (←elem' a na)
   if na == 0 then return dm a b out na nb
   if acount<7 && bcount<7 then break
  minGallop:=minGallop+1
  f9 minGallop
 unsupported "internal:list.sort.merge-bound"):=rfl
theorem AK(i:Nat):mergeAt' i=(do
 let s ←get
 let (some (sa,na,power),some (sb,nb,_)):=((pendingOf s)[i]?,(pendingOf s)[i+1]?) | unsupported "internal:list.sort.pending"
 set (setPending s (((pendingOf s).setIfInBounds i (sa,na+nb,power)).eraseIdxIfInBounds (i+1)))
 let some k ←eS false (←elem' (arrOf s) sb) (arrOf s) sa na 0 | return false
 let (sa,na):=(sa+k,na-k)
 if na == 0 then return true
 let some nb ←eS true (←elem' (arrOf s) (sa+na-1)) (arrOf s) sb nb (nb-1) | return false
 if nb == 0 then return true
 let x:=(arrOf s).extract sa sb
 let y:=(arrOf s).extract sb (sb+nb)
 let merged ←if na<=nb then ka x y else lh x y
 modify fun s=>setArr s (merged.toList.zipIdx.foldl (fun a (p,j)=>a.setIfInBounds (sa+j) p) (arrOf s))
 return (failedOf (←get)).isNone):=rfl
open Classical in
theorem nA{α:Type}(p q r u:List α):(p++(q++(r++u))).Perm (p++(r++(q++u))):=by
 rw[List.perm_iff_count]
 intro x
 simp only[List.count_append]
 omega
def PL(a b out:Array Keyed)(ia ib:Nat):Prop:=(out.toList++(a.toList.drop ia++b.toList.drop ib)).Perm (a.toList++b.toList)
theorem fj(a:Array Keyed)(i:Nat):(a.extract i a.size).toList=a.toList.drop i:=by
 rw[Array.toList_extract]
 show List.take (a.size-i) (a.toList.drop i)=_
 rw[List.take_of_length_le]
 rw[List.length_drop,Bm]
 exact BB _
theorem cU{a b out:Array Keyed}{ia ib:Nat}(h:PL a b out ia ib):(dg a b out ia ib).toList.Perm (a.toList++b.toList):=by
 unfold dg
 rw[Array.toList_append,Array.toList_append,fj,fj,List.append_assoc]
 exact h
theorem cY{a b out:Array Keyed}{ia ib:Nat}(h:PL a b out ia ib):(eX a b out ia ib).toList.Perm (a.toList++b.toList):=by
 unfold eX
 rw[Array.toList_append,Array.toList_append,fj,fj,List.append_assoc]
 exact(List.perm_append_comm.append_left _).trans h
theorem PL.pushA{a b out:Array Keyed}{ia ib:Nat}(h:PL a b out ia ib)(hi:ia<a.size):PL a b (out.push a[ia]) (ia+1) ib:=by
 unfold PL at h ⊢
 rw[List.drop_eq_getElem_cons (by simpa using hi)]at h
 rw[Array.toList_push,List.append_assoc]
 simpa using h
theorem PL.pushB{a b out:Array Keyed}{ia ib:Nat}(h:PL a b out ia ib)(hi:ib<b.size):PL a b (out.push b[ib]) ia (ib+1):=by
 unfold PL at h ⊢
 rw[List.drop_eq_getElem_cons (l:=b.toList) (by simpa using hi)]at h
 rw[Array.toList_push,List.append_assoc]
 refine List.Perm.trans ?_ h
 have:=nA out.toList [b[ib]] (a.toList.drop ia) (b.toList.drop (ib+1))
 simpa using this
theorem pG(a:Array Keyed)(i k:Nat):(a.extract i (i+k)).toList++a.toList.drop (i+k)=a.toList.drop i:=by
 rw[Array.toList_extract]
 show List.take (i+k-i) (a.toList.drop i)++_=_
 rw[Nat.add_sub_cancel_left,←List.drop_drop,List.take_append_drop]
def Sm(st st':SortSt):Prop:=kindOf st'=kindOf st/\arrOf st'=arrOf st/\pendingOf st'=pendingOf st/\failedOf st'=failedOf st
theorem gW{st:SortSt}{g:Nat}{Q:Unit->SortSt->Prop}(h:Q () (sM st g)):wpS (model prog w) A E s (f9 g) Q st:=by
 rw[AL]
 exact wpS_modify h
def PH(a b out:Array Keyed)(na nb:Nat):Prop:=(a.toList.take na++(b.toList.take nb++out.toList.reverse)).Perm (a.toList++b.toList)
theorem eL(a:Array Keyed)(i:Nat):(a.extract 0 i).toList=a.toList.take i:=by
 rw[Array.toList_extract]
 rfl
theorem ck{a b out:Array Keyed}{na nb:Nat}(h:PH a b out na nb):(dm a b out na nb).toList.Perm (a.toList++b.toList):=by
 unfold dm
 rw[Array.toList_append,Array.toList_append,eL,eL,List.append_assoc,Array.toList_reverse]
 exact h
theorem dU{a b out:Array Keyed}{na nb:Nat}(h:PH a b out na nb):(eQ a b out na nb).toList.Perm (a.toList++b.toList):=by
 unfold eQ
 rw[Array.toList_append,Array.toList_append,eL,eL,List.append_assoc,Array.toList_reverse]
 exact(nA [] _ _ _).trans h
theorem take_one{l:List Keyed}{n:Nat}(h:n-1<l.length)(hn:1<=n):l.take n=l.take (n-1)++[l[n-1]]:=by
 have:=List.take_add_one (l:=l) (i:=n-1)
 rw[show n-1+1=n by omega,Bj h]at this
 exact this
theorem PH.pushA{a b out:Array Keyed}{na nb:Nat}(h:PH a b out na nb)(hi:na-1<a.size)(hn:1<=na):PH a b (out.push a[na-1]) (na-1) nb:=by
 unfold PH at h ⊢
 rw[take_one (by simpa using hi) hn,List.append_assoc]at h
 rw[Array.toList_push,List.reverse_append]
 refine List.Perm.trans ?_ h
 have:=nA (a.toList.take (na-1)) (b.toList.take nb) [a[na-1]] out.toList.reverse
 simpa using this
theorem PH.pushB{a b out:Array Keyed}{na nb:Nat}(h:PH a b out na nb)(hi:nb-1<b.size)(hn:1<=nb):PH a b (out.push b[nb-1]) na (nb-1):=by
 unfold PH at h ⊢
 rw[take_one (l:=b.toList) (by simpa using hi) hn,List.append_assoc]at h
 rw[Array.toList_push,List.reverse_append]
 simpa using h
theorem zt{σ:Type}{M:Model}{st st1:σ}{Q:PUnit->σ->Prop}(h:Q ⟨⟩ st1):wpS M A E s (set st1:StateT σ Sem PUnit) Q st:=by
 unfold wpS;rw[StateT.run_set];exact Bd ⟨rfl,h⟩
def bB:Nat->List (Nat×Nat×Nat)->Nat->Prop
 | a,[],b=>a=b
 | a,(u,n,_)::r,b=>u=a/\1<=n/\bB (a+n) r b
theorem bB.le:∀{l:List (Nat×Nat×Nat)} {a b:Nat},bB a l b->a<=b
 | [],_,_,h=>Nat.le_of_eq h
 | (u,n,_)::r,a,b,h=>BL (Nat.le_add_right a n) h.2.2.le
theorem bB.two:∀{l:List (Nat×Nat×Nat)} {a b i:Nat} {x y:Nat×Nat×Nat},bB a l b->(l[i]?:Option (Nat×Nat×Nat))=some x->(l[i+1]?:Option (Nat×Nat×Nat))=some y →
  y.1=x.1+x.2.1/\1<=x.2.1/\1<=y.2.1/\y.1+y.2.1<=b/\bB a ((l.set i (x.1,x.2.1+y.2.1,x.2.2)).eraseIdx (i+1)) b
 | [],_,_,_,_,_,_,h,_=>by simp at h
 | [z],a,b,0,x,y,hc,h1,h2=>by simp at h2
 | (u,n,p)::(u2,n2,p2)::r,a,b,0,x,y,hc,h1,h2=>by
  simp only[List.getElem?_cons_zero,List.getElem?_cons_succ,Option.some.injEq]at h1 h2
  subst h1 h2
  obtain⟨rfl,k1,rfl,k2,k3⟩:=hc
  refine⟨rfl,k1,k2,k3.le,?_⟩
  show bB u ((u,n+n2,p)::r) b
  exact⟨rfl,by omega,by rw[←Nat.add_assoc];exact k3⟩
 | (u,n,p)::r,a,b,i+1,x,y,hc,h1,h2=>by
  simp only[List.getElem?_cons_succ]at h1 h2
  obtain⟨k0,k1,k2⟩:=hc
  obtain⟨q1,q2,q3,q4,q5⟩:=k2.two h1 h2
  exact⟨q1,q2,q3,q4,k0,k1,q5⟩
theorem bB.snoc:∀{l:List (Nat×Nat×Nat)} {a b n p:Nat},bB a l b->1<=n->bB a (l++[(b,n,p)]) (b+n)
 | [],_,_,_,_,h,hn=>by cases h;exact⟨rfl,hn,rfl⟩
 | (u,m,q)::r,a,b,n,p,h,hn=>⟨h.1,h.2.1,h.2.2.snoc hn⟩
theorem bB.last:∀{l:List (Nat×Nat×Nat)} {a b:Nat} (f:Nat->Nat) (j:Nat),bB a l b->bB a (l.modify j fun x=>(x.1,x.2.1,f x.2.2)) b
 | [],_,_,_,j,h=>by cases j<;>exact h
 | (u,m,q)::r,a,b,f,0,h=>h
 | (u,m,q)::r,a,b,f,j+1,h=>⟨h.1,h.2.1,h.2.2.last f j⟩
theorem rR(sa:Nat):∀(l:List Keyed) (j:Nat) (xs:Array Keyed),sa+j+l.length<=xs.size →
  ((l.zipIdx j).foldl (fun(a:Array Keyed) (x:Keyed×Nat)=>a.setIfInBounds (sa+x.2) x.1) xs).toList=xs.toList.take (sa+j)++(l++xs.toList.drop (sa+j+l.length))
 | [],j,xs,_=>by simp
 | p::l,j,xs,h=>by
  rw[List.zipIdx_cons,List.foldl_cons,rR sa l (j+1) _ (by rw[Array.size_setIfInBounds];simp at h ⊢;omega),Array.toList_setIfInBounds]
  have hj:sa+j<xs.toList.length:=by simp at h ⊢;omega
  rw[List.drop_set_of_lt (by omega),show sa+(j+1)=(sa+j)+1 by omega,List.take_succ_eq_append_getElem (by rw[List.length_set];exact hj),List.take_set_of_le (BB _),List.getElem_set_self,List.append_assoc,BI,show sa+j+1+l.length=sa+j+(l.length+1) by omega]
  rfl
def SI(a₀:Array Keyed)(κ:SortKind)(lo:Nat)(st:SortSt):Prop:=(arrOf st).Perm a₀/\kindOf st=κ/\failedOf st=none/\bB 0 (pendingOf st).toList lo
def Kp(st st':SortSt):Prop:=kindOf st'=kindOf st/\(arrOf st').Perm (arrOf st)/\pendingOf st'=pendingOf st/\failedOf st'=failedOf st
theorem Kp.rfl'(st:SortSt):Kp st st:=⟨rfl,Array.Perm.refl _,rfl,rfl⟩
theorem Kp.arr{st st':SortSt}(h:Kp st st'){xs:Array Keyed}(hp:xs.Perm (arrOf st')):Kp st (setArr st' xs):=⟨h.1,hp.trans h.2.1,h.2.2.1,h.2.2.2⟩
theorem Kp.size{st st':SortSt}(h:Kp st st'):(arrOf st').size=(arrOf st).size:=h.2.1.size_eq
theorem SI.kp{a₀:Array Keyed}{lo:Nat}{st st':SortSt}(h:SI a₀ κ lo st)(hK:Kp st st'):SI a₀ κ lo st':=by
 obtain⟨h1,h2,h3,h4⟩:=h
 exact⟨hK.2.1.trans h1,hK.1.trans h2,hK.2.2.2.trans h3,by rw[hK.2.2.1];exact h4⟩
theorem xp{P:Prop}[Decidable P]{a b n:Nat}(h1:a+1<n)(h2:b+1<n):(if P then a else b)+1<n:=by
 split<;>assumption
end
end PyProof.Rows
namespace L2
open PySem PySem.Spec PyProof.Rows
section
variable {P:Program} {w:World} {A:Around} {E:Value->Shared->Prop} {s:Shared}
theorem yt:Slot "set" "__len__" "set.__len__":=
 .of (owner:="set") (n:="__len__") (by rw[typeLookup_type,builtinLookup_eq_fast];kernel_rfl) (by decide +kernel) (by decide +kernel) (by decide +kernel)
  (by first | exact .inl (by decide +kernel) | exact .inr (by decide +kernel)) (by rw[isSubtype_type];kernel_rfl)
theorem sub_set_set:isSubtype (.type "set") (.type "set")=pure true:=by rw[isSubtype_type];kernel_rfl
theorem split_len:splitId "set.__len__" = some ("set","__len__"):=by kernel_rfl
theorem u5{a:Addr}{Q:Bool->Shared->Prop}(T:s.TypeIs (.ref a) "set")(h:Q false s):wpAny (model P w) A (Builtin.List.listLengthHint (.ref a)) Q E s:=by
 unfold Builtin.List.listLengthHint
 refine Bc (wpAny_specialOf T yt.lookup ?_)
 dsimp only
 rw[split_len]
 dsimp only
 refine Bc (wpAny_isInstance (T:="set") (b:=true) T sub_set_set ?_)
 simp only[Bool.not_true,Bool.false_eq_true,if_false]
 rw[if_pos (by first | rfl | decide +kernel | kernel_rfl)]
 refine Bc (wpAny_typeOf T ?_)
 exact Bd h
end
end L2
namespace L2
open PySem PySem.Spec PyProof.Rows
section
variable {P:Program} {w:World} {A:Around} {E:Value->Shared->Prop} {s:Shared}
theorem qT{i:Int}{v:Value}(h:(aw P w).is (.inl i) v=true):∃t,v=.int i t:=by
 rcases ee (show fo (.inl i) v=true from h)with⟨j,t,e,rfl⟩ | ⟨y,t,e,rfl⟩
 ·cases e;exact⟨t,rfl⟩
 ·cases e
theorem xM{α β:Type}{f:α->β}{l m:List β}(h:l.Perm m):∀{es:List α},es.map f=l->∃es',es.Perm es'/\es'.map f=m:=by
 induction h with
 | nil=>intro es e;exact⟨es,.refl _,e⟩
 | cons x _ ih=>
  intro es e
  cases es with
  | nil=>cases e
  | cons y es=>
   rw[List.map_cons]at e
   obtain⟨e1,e2⟩:=List.cons.inj e
   obtain⟨es',h1,h2⟩:=ih e2
   exact⟨y::es',h1.cons y,by rw[List.map_cons,h2,e1]⟩
 | swap x y l=>
  intro es e
  match es,e with
  | a::b::r,e=>
   simp only[List.map_cons,List.cons.injEq]at e
   obtain⟨rfl,rfl,rfl⟩:=e
   exact⟨b::a::r,.swap _ _ _,rfl⟩
 | trans _ _ ih1 ih2=>
  intro es e
  obtain⟨es1,h1,h2⟩:=ih1 e
  obtain⟨es2,h3,h4⟩:=ih2 h2
  exact⟨es2,h1.trans h3,h4⟩
open Classical in
theorem nh{α:Type}{D ds:List α}(hd:D.Nodup)(hs:∀k∈D,k∈ds)(hl:ds.length=D.length):ds.Perm D:=by
 induction D generalizing ds with
 | nil=>
  rw[List.length_nil,List.length_eq_zero_iff]at hl
  subst hl
  exact .refl _
 | cons d D ih=>
  have hm:=hs d Bo
  have p1:=List.perm_cons_erase hm
  have hd':=List.nodup_cons.mp hd
  refine p1.trans ((ih hd'.2 (fun k hk=>?_) ?_).cons d)
  ·refine(List.mem_erase_of_ne ?_).mpr (hs k (Bl _ hk))
   rintro rfl
   exact hd'.1 hk
  ·rw[List.length_erase_of_mem hm,hl]
   rfl
theorem kW{B:Addr->List Key->Prop}{h:Heap}{D:List (List Key)}:∀{es:List (Int×Value)},(∀e∈es,∃b k,e=(tupleKeyHash (aw P w) k,Value.ref b)/\k∈D/\IsTupleKey (aw P w) h k b/\B b k)->∃(bs:List Addr) (ds:List (List Key)),es.map (·.2)=bs.map Value.ref/\bs.length=ds.length/\es.length=bs.length/\(∀k∈ds,k∈D)/\(∀(i:Nat) b k,bs[i]?=some b->ds[i]?=some k->IsTupleKey (aw P w) h k b/\B b k)/\(∀b,Value.ref b∈es.map (·.2)->∃(i:Nat),bs[i]?=some b)
 | [],_=>⟨[],[],rfl,rfl,rfl,fun k hk=>(by cases hk),fun i b k e=>(by simp at e),fun b hb=>(by cases hb)⟩
 | e::es,hall=>by
  obtain⟨bs,ds,h1,h2,h3,h4,h5,h6⟩:=kW (es:=es) fun x hx=>hall x (Bl _ hx)
  obtain⟨b,k,rfl,hk,hkb,hBb⟩:=hall e Bo
  refine⟨b::bs,k::ds,by rw[List.map_cons,List.map_cons,h1],by rw[BI,BI,h2],by rw[BI,BI,h3],fun x hx=>?_,fun i b' k' e1 e2=>?_,fun b' hb'=>?_⟩
  ·rcases Bw.mp hx with rfl | hx
   ·exact hk
   ·exact h4 x hx
  ·cases i with
   | zero=>
    cases e1
    cases e2
    exact⟨hkb,hBb⟩
   | succ i=>exact h5 i b' k' e1 e2
  ·rw[List.map_cons]at hb'
   rcases Bw.mp hb' with z | z
   ·cases z
    exact⟨0,rfl⟩
   ·obtain⟨i,hi⟩:=h6 b' z
    exact⟨i+1,hi⟩
theorem key_inj{h:Heap}{b:Addr}{k1 k2:List Key}(h1:IsTupleKey (aw P w) h k1 b)(h2:IsTupleKey (aw P w) h k2 b):k1=k2:=by
 obtain⟨o1,i1,n1,z1,_,z2,z3⟩:=h1
 obtain⟨o2,i2,n2,y1,_,y2,y3⟩:=h2
 rw[z1]at y1
 cases y1
 rw[z2]at y2
 cases y2
 exact z3.inj y3
end
end L2
namespace L2
open PySem PySem.Spec PyProof.Rows
section
variable {P:Program} {w:World}
end
section
variable {X:Cx} {pins:List (Addr×Obj)} {σ:St} {H:Hp} {s:Shared}
theorem Inv.dr(I:Inv X pins σ H s)(d:Drawn):Inv X pins σ H { s with drawn:=d }:=⟨I.ok,I.os,I.bare,I.base,I.loc,I.cell,I.free,I.freeC,I.pin,I.hok,I.len⟩
end
section
variable {X:Cx}
end
end L2
namespace L2
open PySem PySem.Spec PyProof.Rows
section
variable {X:Cx} {pins:List (Addr×Obj)} {σ:St} {H:Hp} {s:Shared}
end
open AutoSeq1 (wpAny_loadPart')in
section
variable {K:Be} {σ:St} {H:Hp} {Q:VK}
end
section
variable {X:Cx}
def mD(neg:Bool):R2:=fun x y H Q=>∃n p xs d ds,aV H n x d/\y=.ref p/\H p=some (.lst xs)/\Paired (aV H n) xs ds/\n<=50/\Q (.bl (if neg then !(ds.any fun e=>PyData.eqv e d)else ds.any fun e=>PyData.eqv e d)) H
theorem Bb{k:Nat}(hr:Room k X.A):bp X (compareOp .In) (mD false):=by
 intro pins s σ H x y v u Q I rx ry h
 obtain⟨n,p,xs,d,ds,h1,rfl,h2,h3,hn,q⟩:=h
 have h4:aV H (n+1) (.ref p) (.list ds):=.inr ⟨p,xs,ds,rfl,.inr ⟨h2,rfl⟩,h3⟩
 obtain⟨as,ra⟩:=aV.reads I n h1 rx
 obtain⟨bs,rb⟩:=aV.reads I (n+1) h4 ry
 have l1:=aV.lay n h1
 have l2:=jE (fun{x d}=>aV.lay (H:=H) n) h3
 have hu:=hr.units
 have hm:min (PyData.depthAll ds) d.depth<=50:=BL (Nat.min_le_right _ _) (BL l1.2 hn)
 exact SeqAt.in_list_reads rb ra l2.1 l1.1 (by omega) ⟨.bl _,H,I,rfl,q⟩
theorem AE{k:Nat}(hr:Room k X.A):bp X (compareOp .NotIn) (mD true):=by
 intro pins s σ H x y v u Q I rx ry h
 obtain⟨n,p,xs,d,ds,h1,rfl,h2,h3,hn,q⟩:=h
 have h4:aV H (n+1) (.ref p) (.list ds):=.inr ⟨p,xs,ds,rfl,.inr ⟨h2,rfl⟩,h3⟩
 obtain⟨as,ra⟩:=aV.reads I n h1 rx
 obtain⟨bs,rb⟩:=aV.reads I (n+1) h4 ry
 have l1:=aV.lay n h1
 have l2:=jE (fun{x d}=>aV.lay (H:=H) n) h3
 have hu:=hr.units
 have hm:min (PyData.depthAll ds) d.depth<=50:=BL (Nat.min_le_right _ _) (BL l1.2 hn)
 exact SeqAt.notIn_list_reads rb ra l2.1 l1.1 (by omega) ⟨.bl _,H,I,rfl,q⟩
theorem u7{neg:Bool}{n:Nat}{x:V}{p:Addr}{xs:List V}{d:PyData}{ds:List PyData}{H:Hp}{Q:VK}(h1:aV H n x d)(h2:H p=some (.lst xs))(h3:Paired (aV H n) xs ds)(hn:n<=50)(q:Q (.bl (if neg then !(ds.any fun e=>PyData.eqv e d)else ds.any fun e=>PyData.eqv e d)) H):mD neg x (.ref p) H Q:=
 ⟨n,p,xs,d,ds,h1,rfl,h2,h3,hn,q⟩
end
end L2
namespace L2
open PySem PySem.Spec PyProof.Rows
abbrev Row3:=Str×Tok×Value
def jx(w:World)(e:Row3):DictEntry:=⟨PyData.keyHash w.params e.1,.str e.1 e.2.1,e.2.2⟩
def i6(w:World)(l:List Row3)(ep:Nat):Obj:={ cls:=.type "dict",dict:=none,data:=.dict (l.map (jx w)).toArray ep,slots:=#[] }
structure GDict(w:World)(K:Be)(a:Addr)(kvs:List (Key×V)):Prop where
 has:∃l ep,K.lookup a=some (i6 w l ep)/\KV kvs (l.map fun e=>((Sum.inr e.1:Key),e.2.2))
 nd:(kvs.map (·.1)).Nodup
 sm:(a == sysModules)=false
theorem tE{P:Program}{w:World}:∀l:List Row3,Pairs (aw P w) (l.map (jx w)) (l.map fun e=>((Sum.inr e.1:Key),e.2.2))
 | []=>.nil
 | e::l=>.cons (nM P w e.1 e.2.1) rfl (tE l)
theorem zD{P:Program}{w:World}(l:List Row3):KeysOf (aw P w) (l.map (jx w)).toArray:=fun e he=>by
 have he':e∈l.map (jx w):=by simpa using he
 obtain⟨x,_,rfl⟩:=List.mem_map.mp he'
 exact⟨.inr x.1,nM P w x.1 x.2.1,rfl⟩
theorem GDict.at{X:Cx}{pins:List (Addr×Obj)}{σ:St}{H:Hp}{s:Shared}{a:Addr}{kvs:List (Key×V)}(D:GDict X.w X.K a kvs)(I:Inv X pins σ H s):∃vs,KV kvs vs/\s.heap.DictOf (aw X.prog X.w) a vs:=by
 obtain⟨l,ep,hl,r⟩:=D.has
 refine⟨_,r,i6 X.w l ep,_,ep,I.kIn _ _ hl,⟨rfl,rfl,rfl⟩,rfl,zD l,tE l,?_⟩
 rw[←r.keys]
 exact D.nd
section
variable {X:Cx} {x:Str} {a:Addr} {kvs:List (Key×V)} {i:Expr} {ty:TE} {p pos:Pos}
def sR(neg:Bool)(kvs:List (Key×V))(ty:TE):TE:=fun σ H Q=>ty σ H fun y H1=>∃k,y=kV k/\Q (.bl (if neg then !(aX kvs k).isSome else(aX kvs k).isSome)) H1
theorem uV(hg:Gl X x)(hm:X.mg x=some (.ref a))(D:GDict X.w X.K a kvs)(hi:PE X i ty)(hd:(x == ("__debug__":Str))=false:=by decide):PC X .In i (.Name x p) (sR false kvs ty):=by
 intro pins s σ H Q I h
 refine ah (hi pins s σ H _ I h) fun iv s1 ⟨y,H1,I1,ry,k,ey,q⟩=>ji I1 hg hm ?_ hd
 subst ey
 obtain⟨vs,rel,dd⟩:=D.at I1
 refine wpAny_in_of (fB ry) D.sm dd.mapOf ?_
 rw[←(rel.val k).isSome_eq]
 exact⟨.bl (aX kvs k).isSome,H1,I1.tok _,rfl,q⟩
theorem rd_gin{neg:Bool}{σ:St}{H:Hp}{Q:VK}(h:ty σ H fun y H1=>∃k,y=kV k/\Q (.bl (if neg then !(aX kvs k).isSome else(aX kvs k).isSome)) H1):sR neg kvs ty σ H Q:=h
def sW:R2:=fun x y H Q=>∃a b,x=.str a/\y=.str b/\Q (.bl (!decide (b.cps.toList<a.cps.toList))) H
theorem oC:bp X (compareOp .LtE) sW:=by
 intro pins s σ H x y v u Q I rx ry h
 obtain⟨a,b,rfl,rfl,q⟩:=h
 obtain⟨t,rfl⟩:=rx
 obtain⟨t',rfl⟩:=ry
 exact PySem.P.le_str ⟨.bl _,H,I,rfl,q⟩
theorem rd_leS{a b:Str}{H:Hp}{Q:VK}(h:Q (.bl (!decide (b.cps.toList<a.cps.toList))) H):sW (.str a) (.str b) H Q:=⟨a,b,rfl,rfl,h⟩
theorem ly{α β:Type}{f g:α->Option β}:∀{l:List α},(∀x∈l,f x=g x)->l.filterMap f=l.filterMap g
 | [],_=>rfl
 | x::l,h=>by
  rw[List.filterMap_cons,List.filterMap_cons,h x Bo,ly fun y hy=>h y (Bl _ hy)]
theorem xI(n:Nat)(xs:List Value)(h:xs.length=n):(List.range n).filterMap (fun i:Nat=>xs[((n:Int)-1+(i:Int)*(-1)).toNat]?)=xs.reverse:=by
 refine List.ext_getElem? fun i=>?_
 have e:(List.range n).filterMap (fun i:Nat=>xs[((n:Int)-1+(i:Int)*(-1)).toNat]?)=(List.range n).map (fun i:Nat=>xs.reverse.getD i .none):=by
  rw[←List.filterMap_eq_map]
  refine ly fun i hi=>?_
  have hi:=List.mem_range.mp hi
  have:((n:Int)-1+(i:Int)*(-1)).toNat=n-1-i:=by omega
  rw[this,Function.comp_apply,List.getD_eq_getElem?_getD,List.getElem?_reverse (by omega),h,Bj (show n-1-i<xs.length by omega)]
  rfl
 rw[e,Bk]
 by_cases hi:i<n
 ·rw[Bj (by simpa using hi),Bj (by simpa[h]using hi)]
  simp[List.getD_eq_getElem?_getD,h,hi]
 ·rw[List.getElem?_eq_none (by simpa using hi),List.getElem?_eq_none (by simpa[h]using hi)]
  rfl
theorem vT(its:List Value):slicePick its.toArray none none (some (-1))=its.reverse.toArray:=by
 unfold slicePick
 have e:sliceBounds none none (some (-1)) its.toArray.size=((its.length:Int)-1,-1,-1):=by
  unfold sliceBounds
  simp
 rw[e]
 refine congrArg List.toArray ?_
 rw[←xI its.length its rfl]
 unfold sliceRange
 simp only
 rw[if_neg (by decide),List.filterMap_map]
 have el:(if(its.length:Int)-1 > -1 then((its.length:Int)-1 - -1 - -1-1) / - -1 else 0).toNat=its.length:=by
  rw[show (- -1:Int)=1 by decide,Int.ediv_one]
  split<;>omega
 rw[el]
 refine ly fun i hi=>?_
 rw[Function.comp_apply,show (its.length:Int)-1 + -1*(i:Int)=(its.length:Int)-1+(i:Int) * -1 by omega]
 simp
theorem Vals.rev{xs:List V}{us:List Value}(r:Vals xs us):Vals xs.reverse us.reverse:=by
 induction r with
 | nil=>exact .nil
 | cons h t ih=>
  rw[List.reverse_cons,List.reverse_cons]
  exact Vals.append ih (.cons h .nil)
def mU(K:Be):V->Hp->VK->Prop:=fun x H Q=>∃a xs,x=.ref a/\ag K H a xs/\dO H (.lst xs.reverse) Q
def ow(K:Be)(te:TE)(ts:TO):TE:=fun σ H Q=>te σ H fun x H1=>ts σ H1 fun k H2=>k=some (-1)/\mU K x H2 Q
theorem xt{e st:Expr}{te:TE}{ts:TO}{p2:Pos}(K:Be)(he:PE X e te)(hs:PO X (some st) ts)(hK:X.K=K:=by rfl):PE X (.Subscript e (.Slice none none (some st) p2) pos) (ow K te ts):=by
 subst hK
 intro pins s σ H Q I h
 refine Subscript_ (ah (he pins s σ H _ I h) fun v s1 ⟨x,H1,I1,r1,q1⟩=>?_)
 refine wpAny_Slice ?_
 rw[evalPart_none]
 refine Bd (Bd ?_)
 refine ah (hs pins s1 σ H1 _ I1 q1) fun vs s2 ⟨k,H2,I2,pk,q2⟩=>?_
 obtain⟨rfl,a,xs,rfl,hx,q⟩:=q2
 cases pk with
 | int i tk=>
 cases r1
 have I3:Inv X pins σ H2 { s2 with heap:=s2.heap.push { cls:=.type "slice",data:=.fields #[.none,.none,.int (-1) tk] } }:=I2.kept (t':=s2.toks) fun b ob q=>Bf _ q
 obtain⟨its,r,ht,hz⟩:=I3.list hx
 have hlen:=r.length
 show wpAny (model X.prog X.w) X.A (subscriptTail e (.Slice none none (some st) p2) (.ref a) (.ref s2.heap.objs.size)) (EP X pins σ Q) X.xe { s2 with heap:=s2.heap.push { cls:=.type "slice",data:=.fields #[.none,.none,.int (-1) tk] } }
 refine tail_any (ops:=[.ref a,.ref s2.heap.objs.size]) ht.isList.typeIs slot_list_getitem.lookup (wpAny_getItem_list_slice ht.isList (Heap.IsSliceOf.new ..) .none .none (.int (-1) tk) (by decide) ?_ (by rw[Bn];omega)) (by with_unfolding_all rfl)
 rw[vT]
 exact⟨.ref _,_,I3.laid (t':=s2.toks) (o:=.lst xs.reverse) (fun b ob e=>Bf _ e) (BB _) ⟨by rw[List.length_reverse];exact hz,_,0,r.rev,Bg _ rfl⟩,rfl,q _ (I3.hok.fresh (BB _))⟩
theorem rd_revL{K:Be}{te:TE}{ts:TO}{σ:St}{H:Hp}{Q:VK}(h:te σ H fun x H1=>ts σ H1 fun k H2=>k=some (-1)/\mU K x H2 Q):ow K te ts σ H Q:=h
theorem wA{K:Be}{H:Hp}{Q:VK}{a:Addr}{xs:List V}(e:ag K H a xs)(h:dO H (.lst xs.reverse) Q):mU K (.ref a) H Q:=⟨a,xs,rfl,e,h⟩
theorem rd_disp{trs:List (TE×TE)}{σ:St}{H:Hp}{Q:VK}(h:∀p,H p=none->i9 trs σ (upd H p (.dK [])) fun ps H2=>H2 p=some (.dK [])/\∃kvs:List (Key×V),ps=kvs.map (fun kv=>(kV kv.1,kv.2))/\kvs.length<=15/\Q (.ref p) (upd H2 p (.dK (ez [] kvs)))):uv trs σ H Q:=h
theorem rd_dget{td:TE}{σ:St}{H:Hp}{Q:VK}(h:td σ H fun x H1=>ty σ H1 fun y H2=>∃a v,x=.ref a/\bM H2 a y (some v)/\Q v H2):oU td ty σ H Q:=h
end
end L2
namespace L2
open PySem PySem.Spec PyProof.Rows
section
variable {prog:Program} {w:World} {A:Around} {E:Value->Shared->Prop} {s:Shared} {r d:Addr}
end
section
variable {X:Cx}
def qD(tk tv:TE):TE:=fun σ H Q=>∀p,H p=none->tk σ (upd H p (.dT [])) fun x H1=>tv σ H1 fun v H2=>∃b k,x=.ref b/\H2 b=some (.tup (List.map kV k))/\H2 p=some (.dT [])/\Q (.ref p) (upd H2 p (.dT [(k,v)]))
theorem zq{ek ev:Expr}{tk tv:TE}{pos:Pos}(hu:X.A.units+1<cLine)(hk:PE X ek tk)(hv:PE X ev tv):PE X (.Dict [some ek] [ev] pos) (qD tk tv):=by
 intro pins s σ H Q I q
 have hn:=I.hok.fresh (BB s.heap.objs.size)
 have I1:=I.laid (a:=s.heap.objs.size) (o:=.dT []) (h':=s.heap.push { cls:=.type "dict",data:=.dict #[] }) (t':=s.toks) (fun _ _ q=>Bf _ q) (BB _) (xG s.heap I.big)
 refine wpAny_Dict_any rfl rfl (by simp) (by simp) ?_
 refine pairTrees_cons_walk (ah (hk pins _ σ _ _ I1 (q _ hn)) fun u s1 ⟨x,H1,I1,rx,q1⟩=>ah (hv pins s1 σ H1 _ I1 q1) fun w2 s2 ⟨v,H2,I2,ry,q2⟩=>pairTrees_nil_walk ?_)
 obtain⟨b,k,rfl,hb,e,q3⟩:=q2
 cases(show u=Value.ref b from rx)
 obtain⟨z,hd,xs,rel,dd⟩:=rJ I2.hok e
 have hz:xs.length<=sizeLine:=by rw[←Paired.length rel];exact Nat.zero_le _
 unfold storeAll
 rw[List.forIn_cons]
 refine Bc (Bc (wpAny_dictSet_heap (hsz:=hz) (show(tupleKind (aw X.prog X.w)).room X.A from Nat.lt_of_succ_lt hu) (gN I2.hok hb) dd fun h' dd' hs=>Bd ?_))
 dsimp only
 rw[List.forIn_nil]
 refine Bd ⟨.ref s.heap.objs.size,_,?_,rfl,q3⟩
 obtain⟨q,es,ep,hq,h2,h3,h4,_,h5⟩:=dd'
 refine jC I2 (by rw[e];exact True.intro) hs ⟨q,hq⟩ ⟨by rw[sizeLine_eq];simp,hd,_,(rel.put k hb ry).keeps fun c ys ec=>?_,q,es,ep,hq,h2,h3,h4,h5⟩
 rw[ay (cJ ec e (fun z=>nomatch z))]
 exact ec
theorem rd_disp1{tk tv:TE}{σ:St}{H:Hp}{Q:VK}(h:∀p,H p=none->tk σ (upd H p (.dT [])) fun x H1=>tv σ H1 fun v H2=>∃b k,x=.ref b/\H2 b=some (.tup (List.map kV k))/\H2 p=some (.dT [])/\Q (.ref p) (upd H2 p (.dT [(k,v)]))):qD tk tv σ H Q:=h
theorem rd_din{ty td:TE}{σ:St}{H:Hp}{Q:VK}(h:ty σ H fun y H1=>td σ H1 fun x H2=>∃a o,x=.ref a/\bM H2 a y o/\Q (.bl o.isSome) H2):sT ty td σ H Q:=h
theorem rd_dnin{ty td:TE}{σ:St}{H:Hp}{Q:VK}(h:ty σ H fun y H1=>td σ H1 fun x H2=>∃a o,x=.ref a/\bM H2 a y o/\Q (.bl (!o.isSome)) H2):nZ ty td σ H Q:=h
theorem rd_dput{td ty tv:TE}{D:Ends}{σ:St}{H:Hp}(h:tv σ H fun v H1=>td σ H1 fun x H2=>ty σ H2 fun y H3=>∃a H4,x=.ref a/\eA H3 a y v H4/\D.nx σ H4):r9 td ty tv D σ H:=h
end
end L2
namespace L2
open PySem PySem.Spec PyProof.Rows
section
variable {X:Cx}
end
end L2
namespace L2
open PySem PySem.Spec PyProof.Rows
section
variable {X:Cx} {tg:Expr}
end
section
variable {prog:Program} {w:World} {A:Around} {E:Value->Shared->Prop} {s:Shared}
end
section
variable {X:Cx} {tg:Expr}
end
end L2
namespace L2
open PySem PySem.Spec PyProof.Rows
section
variable {X:Cx}
theorem xk(K:Be){o:Expr}{to:TE}{name:Str}{apos cpos:Pos}{T id:String}{r:V->List V->Hp->VK->Prop}(pa:PlainAttrs T)(slot:Slot T name id)(hty:typeOf (.builtin id)=pure (.type "method_descriptor"))(hm:iW X id r)(ho:PE X o to)(h:X.K=K:=by rfl)
  (hbase:attributeBase o name X.env (eval o X.env)=eval o X.env:=by rfl) (hline:(apos.endLine == cpos.line)=true:=by rfl):PE X (.Call (.Attribute o name apos) [] [] cpos) (ke K T r to):=by
 subst h
 exact wg pa slot hty hm ho hbase hline
end
theorem rd_bm0{K:Be}{T:String}{r:V->List V->Hp->VK->Prop}{to:TE}{σ:St}{H:Hp}{Q:VK}(h:to σ H fun x H1=>fN K T x H1/\r x [] H1 Q):ke K T r to σ H Q:=h
def xY(K:Be):List V->Hp->VK->Prop:=fun xs H Q=>∃(p:Addr) (bs:List Bool),xs=[.ref p]/\ag K H p (bs.map V.bl)/\Q (.bl (bs.any id)) H
theorem any_range(bs:List Bool):((List.range bs.length).any fun i=>bs.getD i false)=bs.any id:=by
 rw[BP,BO,BO]
 constructor
 ·rintro⟨i,hi,h⟩
  have hi':=List.mem_range.mp hi
  rw[List.getD_eq_getElem?_getD,Bj hi']at h
  exact⟨_,BH hi',h⟩
 ·rintro⟨b,hb,h⟩
  obtain⟨i,hi,e⟩:=List.mem_iff_getElem.mp hb
  refine⟨i,List.mem_range.mpr hi,?_⟩
  rw[List.getD_eq_getElem?_getD,Bj hi,e]
  exact h
theorem oj{X:Cx}(K:Be)(hc:X.calm=true)(hK:X.K=K:=by rfl):cA X (.builtin "any") (xY K):=by
 subst hK
 intro pins s σ H xs us Q I r h
 obtain⟨p,bs,rfl,hq,q⟩:=h
 obtain⟨u,rfl,rx⟩:=vals1 r
 cases rx
 obtain⟨its,rv,pl,hz⟩:=I.list hq
 have eb:=ko rv
 have hne:p≠s.heap.objs.size:=BA (by obtain⟨o,n,e,_⟩:=pl;exact Bh e)
 refine call_any_walk (wpAny_pyIter_list pl.isList ?_)
 have I1:Inv X pins σ H { s with heap:=s.heap.push { cls:=.type "list_iterator",data:=.fields #[.ref p,.int 0 0] } }:=I.kept (t':=s.toks) fun b o e=>Bf _ e
 have hf:=I.fpOk (H':=H) (BB s.heap.objs.size) I.fresh
 refine⟨s.heap.objs.size,_,_,_,_,_,(fun i=>bs.getD i false),rfl,Walks.list (A:=X.A.in1) (I.ok.hd hc) _ p hne its.toArray,⟨⟨_,Bg _ rfl,rfl,rfl⟩,?_⟩,?_,fun h' tk hk=>?_⟩
 ·exact pl.isList.push _
 ·intro i v s' Q' E' hv hQ
  rw[eb]at hv
  have hv':(bs.map Value.bool)[i]?=some v:=by simpa using hv
  rw[Bk]at hv'
  cases eg:bs[i]? with
  | none=>rw[eg]at hv';cases hv'
  | some b=>
   rw[eg]at hv'
   cases hv'
   have eb':bs.getD i false=b:=by rw[List.getD_eq_getElem?_getD,eg];rfl
   have hQ':Q' (bs.getD i false) s':=hQ
   rw[eb']at hQ'
   exact wpAny_truthy_bool hQ'
 ·obtain⟨f0,f1,f2,f3,f4,f5⟩:=hf
  have hl:=rv.length
  rw[Bi]at hl
  refine⟨.bl (bs.any id),H,I1.turned (it:=s.heap.objs.size) (fun b o hb e=>hk b o (by simpa using hb) e) f0 f1 f3 f4 f5,?_,q⟩
  show Value.bool _=Value.bool _
  rw[Bn,←hl,any_range]
end L2
namespace L2
open PySem PySem.Spec PyProof.Rows
section
variable {X:Cx}
end
section
variable {X:Cx}
end
end L2
namespace L2
open PySem PySem.Spec PyProof.Rows
section
variable {X:Cx}
end
end L2
namespace L2
open PySem PySem.Spec PyProof.Rows
section
variable {P:Program} {w:World} {K:Be} {mg:Str->Option Value} {base:Heap}
end
section
variable {X:Cx}
end
end L2
namespace L2
open PySem PySem.Spec PyProof.Rows
abbrev bH(w:World):Bool:=!w.params.followText "set-order"
section
variable {P:Program} {w:World} {A:Around} {E:Value->Shared->Prop} {s:Shared}
end
section
variable {P:Program} {w:World} {A:Around} {E:Value->Shared->Prop} {s:Shared}
theorem rH(a:Value){Q₁:Value->Shared->Prop}(h:Q₁ (.ref s.heap.objs.size) { s with heap:=s.heap.push (bQ (bH w)) }):
  codeAny (model P w) A (.call (.builtin "set.__new__") ⟨[.type "set",a],[]⟩) (wants Q₁ E) s:=by
 refine codeAny_of_tree ?_
 show wpAny _ A.in1 (do checkBuiltinCall "set.__new__" ⟨[.type "set",a],[]⟩;again (.builtin "set.__new__" ⟨[.type "set",a],[]⟩)) _ _ s
 refine Bc (wpAny_of_eq (F.newCall_set_1 a) (Bd ⟨plainId_quiet F.plain_set_new _,codeAny_builtin F.entry_set_new ?_⟩))
 rw[Around.under_plainId F.plain_set_new _]
 unfold Builtin.«set.__new__» Builtin.Frozenset.newClass
 have hsub:=sub_set_self
 obtain⟨hp,g,d,tk,os⟩:=s
 dsimp only
 wp_walk
 refine wpAny_askSetting (Bd ?_)
 dsimp only
 simp only[newObj]
 refine Bc (wpAny_alloc (Bd ?_))
 exact Bd h
end
end L2
namespace L2
open PySem PySem.Spec PyProof.Rows
section
variable {P:Program} {w:World} {A:Around} {E:Value->Shared->Prop} {s:Shared}
end
end L2
namespace L2
open PySem PySem.Spec PyProof.Rows
section
variable {X:Cx} {pins:List (Addr×Obj)} {σ:St} {H:Hp} {s:Shared}
end
section
variable {X:Cx}
end
end L2
namespace L2
open PySem PySem.Spec PyProof.Rows
section
variable {P:Program} {w:World} {A:Around} {E:Value->Shared->Prop} {s:Shared}
end
section
variable {X:Cx}
end
end L2
namespace L2
open PySem PySem.Spec PyProof.Rows
section
variable {X:Cx}
end
end L2
namespace L2
open PySem PySem.Spec PyProof.Rows
section
variable {X:Cx} {pins:List (Addr×Obj)} {σ:St} {H:Hp} {s:Shared}
end
section
variable {X:Cx}
end
end L2
namespace L2
open PySem PySem.Spec PyProof.Rows
section
variable {X:Cx}
end
end L2
namespace L2
open PySem PySem.Spec PyProof.Rows
end L2
namespace L2
open PySem PySem.Spec PyProof.Rows
section
variable {X:Cx} {x:Addr} {oe:Obj}
end
end L2
namespace L2
open PySem PySem.Spec PyProof.Rows
section
variable {prog:Program} {w:World} {A:Around} {E:Value->Shared->Prop} {s:Shared} {dd:Option Addr}
end
section
variable {X:Cx} {x:Addr} {oe:Obj}
end
end L2
namespace L2
open PySem PySem.Spec PyProof.Rows
section
variable {X:Cx}
end
end L2
namespace L2
open PySem PySem.Spec PyProof.Rows
section
variable {prog:Program} {w:World} {A:Around} {E:Value->Shared->Prop} {K:Be} {x D:Addr} {ox:Obj} {h:Heap} {g:Array GenState} {dr:Drawn} {t:Nat} {os:OsState}
variable {nm q:Str} {N:Addr} {bs bm bmB:List Value} {sn:List Str} {sub:List Value} {ab:Bool} {col:Option Bool} {dd:Option Addr} {k0 k1 k2 k3 k5:Option Value} {newId:String} {name:Str} {v:Value}
end
section
variable {prog:Program} {w:World} {A:Around} {E:Value->Shared->Prop} {h:Heap} {g:Array GenState} {d:Drawn} {t:Nat} {os:OsState}
variable {nm q:Str} {C N:Addr} {bs bm bmB:List Value} {hdct:Bool} {sn:List Str} {sub:List Value} {ab:Bool} {col:Option Bool} {dd:Option Addr} {k0 k1 k2 k3 k5:Option Value} {B newId initId:String} {K:Be}
end
section
variable {P:Program} {w:World} {A:Around} {E:Value->Shared->Prop} {K:Be} {s:Shared} {e C:Addr} {oe:Obj} {v:Value}
end
section
variable {M:Model} {A:Around} {E:Value->Shared->Prop} {env:Env} {nm q:Str} {C N:Addr} {bs bm bmB:List Value} {hdct:Bool} {sn:List Str} {sub:List Value} {ab:Bool} {col:Option Bool} {dd:Option Addr} {k0 k1 k2 k3 k5:Option Value} {newId:String}
end
section
variable {prog:Program} {w:World} {A:Around} {E:Value->Shared->Prop} {s:Shared} {env:Env} {K:Be} {nm q:Str} {C N:Addr} {bs bm bmB:List Value} {hdct:Bool} {sn:List Str} {sub:List Value} {ab:Bool} {col:Option Bool} {dd:Option Addr} {k0 k1 k2 k3 k5:Option Value} {B newId initId:String}
end
section
variable {P:Program} {w:World} {K:Be} {mg:Str->Option Value} {base:Heap} {N:List Str} {qual:Str} {scope:Scope} {f:Addr} {cd:Value} {A:Around} {outer:List Env} {s₀:Shared} {H₀:Hp} {E:XK}
end
end L2
namespace L2
open PySem PySem.Spec PyProof.Rows
section
variable {P:Program} {w:World} {K:Be} {mg:Str->Option Value} {base:Heap}
end
section
variable {Y:Cx} {x:Addr} {oe:Obj}
end
end L2
namespace L2
open PySem PySem.Spec PyProof.Rows
section
variable {prog:Program} {w:World} {A:Around} {E:Value->Shared->Prop} {K:Be} {x D:Addr} {ox:Obj} {od:Option Obj} {name:Str} {v:Value}
end
section
variable {X:Cx} {x D:Addr} {oe:Obj} {da:Option Addr}
end
end L2
namespace L2
open PySem PySem.Spec PyProof.Rows
section
variable {P:Program} {w:World} {A:Around} {E:Value->Shared->Prop} {s:Shared}
end
section
variable {P:Program} {w:World} {A:Around} {E:Value->Shared->Prop} {s:Shared}
end
end L2
namespace L2
open PySem PySem.Spec PyProof.Rows
section
variable {P:Program} {w:World} {A:Around} {E:Value->Shared->Prop} {s:Shared}
end
section
variable {X:Cx}
end
end L2
namespace L2
open PySem PySem.Spec PyProof.Rows
section
variable {prog:Program} {w:World} {A:Around} {E:Value->Shared->Prop} {s:Shared}
end
section
variable {prog:Program} {w:World} {A:Around} {E:Value->Shared->Prop} {s:Shared}
end
section
variable {X:Cx}
end
end L2
namespace L2
open PySem PySem.Spec PyProof.Rows
theorem fD{x:Str}{c:Addr}:∀(names:List (Str×NameKind)) (n:Nat) (acc:List (Str×Addr)),(cellsFrom n names acc).lookup x=some c->acc.lookup x=some c\/(n<=c/\(x,NameKind.cell)∈names)
 | [],_,_,h=>.inl h
 | (y,k)::r,n,acc,h=>by
  unfold cellsFrom at h
  by_cases hk:(k == NameKind.cell)=true
  ·rw[if_pos hk]at h
   have hk':k=.cell:=by simpa using hk
   subst hk'
   rcases fD r (n+1) ((y,n)::acc) h with h | ⟨h1,h2⟩
   ·rw[List.lookup_cons]at h
    cases hb:x == y with
    | true=>
     rw[hb]at h
     cases h
     rw[beq_iff_eq.mp hb]
     exact .inr ⟨BB _,Bo⟩
    | false=>rw[hb]at h;exact .inl h
   ·exact .inr ⟨Nat.le_of_succ_le h1,Bl _ h2⟩
  ·rw[if_neg hk]at h
   rcases fD r n acc h with h | ⟨h1,h2⟩
   ·exact .inl h
   ·exact .inr ⟨h1,Bl _ h2⟩
theorem jr{x y:Str}{c:Addr}:∀(names:List (Str×NameKind)) (n:Nat) (acc:List (Str×Addr)),(∀x c,acc.lookup x=some c->@LT.lt Nat _ c n)->(∀x y c,acc.lookup x=some c->acc.lookup y=some c->x=y)->(cellsFrom n names acc).lookup x=some c->(cellsFrom n names acc).lookup y=some c->x=y
 | [],_,_,_,hi,h1,h2=>hi _ _ _ h1 h2
 | (z,k)::r,n,acc,hb,hi,h1,h2=>by
  unfold cellsFrom at h1 h2
  by_cases hk:(k == NameKind.cell)=true
  ·rw[if_pos hk]at h1 h2
   refine jr r (n+1) ((z,n)::acc) (fun x c h=>?_) (fun x y c h1 h2=>?_) h1 h2
   ·rw[List.lookup_cons]at h
    cases e:x == z with
    | true=>rw[e]at h;cases h;exact Nat.lt_succ_self _
    | false=>rw[e]at h;exact Nat.lt_succ_of_lt (hb x c h)
   ·rw[List.lookup_cons]at h1 h2
    cases e1:x == z with
    | true=>
     rw[e1]at h1
     cases h1
     cases e2:y == z with
     | true=>rw[beq_iff_eq.mp e1,beq_iff_eq.mp e2]
     | false=>rw[e2]at h2;exact absurd (hb _ _ h2) (Nat.lt_irrefl _)
    | false=>
     rw[e1]at h1
     cases e2:y == z with
     | true=>rw[e2]at h2;cases h2;exact absurd (hb _ _ h1) (Nat.lt_irrefl _)
     | false=>rw[e2]at h2;exact hi _ _ _ h1 h2
  ·rw[if_neg hk]at h1 h2
   exact jr r n acc hb hi h1 h2
theorem m7{x:Str}{c:Addr}:∀(names:List (Str×NameKind)) (h:Heap) (acc:List (Str×Addr)),(cellsFrom h.objs.size names acc).lookup x=some c->acc.lookup x=some c\/(pushCells h names).IsCell c none
 | [],_,_,e=>.inl e
 | (y,k)::r,h,acc,e=>by
  unfold cellsFrom at e
  unfold pushCells
  by_cases hk:(k == NameKind.cell)=true
  ·rw[if_pos hk]at e ⊢
   rw[←Heap.size_push h { cls:=.type "cell",data:=.cell none }]at e
   rcases m7 r (h.push { cls:=.type "cell",data:=.cell none }) ((y,h.objs.size)::acc) e with e | e
   ·rw[List.lookup_cons]at e
    cases hb:x == y with
    | true=>
     rw[hb]at e
     cases e
     exact .inr ⟨_,pushCells_keeps _ _ _ _ (Bg _ rfl),rfl⟩
    | false=>rw[hb]at e;exact .inl e
   ·exact .inr e
  ·rw[if_neg hk]at e ⊢
   exact m7 r h acc e
section
variable {M:Model} {A:Around} {E:Value->Shared->Prop} {s:Shared}
theorem zP{scope:Scope}{globals:Addr}{closure:List (Str×Addr)}{qual:Str}{func:Option Addr}{code:Value}{outer:Env}{builtins:Addr}{Q:Env->Shared->Prop}
  (hQ:Q (newEnv scope s.heap.objs.size globals (cellsFrom (s.heap.objs.size+1) scope.names closure) qual func code (some outer) builtins) { s with heap:=pushCells (s.heap.push { cls:=.type "dict",data:=.dict #[] }) scope.names }) :
  wpAny M A (newFunctionEnv scope globals closure [] qual func code (some outer) builtins) Q E s:=by
 simp only[newFunctionEnv,Option.isSome_some,if_true]
 refine Bc (wpAny_alloc ?_)
 refine Bc (wpAny_layCells _ (fun name kind cells=>by cases hkc:kind == NameKind.cell<;>simp[hkc]) _ _ _ _ ?_)
 rw[show ({ s with heap:=s.heap.push { cls:=.type "dict",data:=.dict #[] } }:Shared).heap.objs.size=s.heap.objs.size+1 from Heap.size_push ..]
 refine Bc ?_
 rw[List.forIn_nil]
 exact Bd (Bd hQ)
end
def fE(X:Cx)(sc:Scope)(C:Addr):List (Str×Addr):=cellsFrom (Nat.succ C) sc.names (cy sc.names X.env.cells)
def bN(X:Cx)(sc:Scope)(own:List Str)(js:List Nat)(z:Blk):Cx where
 prog:=X.prog
 w:=X.w
 K:=X.K
 mg:=X.mg
 base:=X.base
 A:=X.A
 N:=own++js.map fun j=>X.N.getD j ""
 s₀:=z.s
 H₀:=z.H
 env:=compEnvC sc (fE X sc z.C) z.C X.env
 outer:=X.stack
 stack:=X.stack
 ex:=z.fp
 fn:=fun x=>sc.names.lookup x == some .cell
 calm:=X.calm
 pn:=[]
 xe:=fun _ _=>False
def cV(sc out:Scope):Bool:=sc.names.all fun p=>(p.2 != .cell || sc.names.lookup p.1 == some .cell) && (p.2 != .local || sc.names.lookup p.1 == some .local) && (p.2 != .free || out.names.lookup p.1 == some .cell || out.names.lookup p.1 == some .free) && (p.2 != .free || sc.names.lookup p.1 == some .free)
theorem jb{sc out:Scope}(h:cV sc out=true){p:Str×NameKind}(hp:p∈sc.names)(hf:p.2=.free):out.names.lookup p.1=some .cell\/out.names.lookup p.1=some .free:=by
 have:=BN.mp h p hp
 simp[hf]at this
 exact this.1
theorem AQ{sc out:Scope}(h:cV sc out=true){x:Str}(hp:(x,NameKind.free)∈sc.names)(h2:sc.names.lookup x=some .cell):False:=by
 have:=BN.mp h _ hp
 simp[h2]at this
theorem vj{sc out:Scope}(h:cV sc out=true){p:Str×NameKind}(hp:p∈sc.names)(hf:p.2=.cell):sc.names.lookup p.1=some .cell:=by
 have:=BN.mp h p hp
 simp[hf]at this
 exact this
theorem qf{sc out:Scope}(h:cV sc out=true){p:Str×NameKind}(hp:p∈sc.names)(hf:p.2=.local):sc.names.lookup p.1=some .local:=by
 have:=BN.mp h p hp
 simp[hf]at this
 exact this
section
variable {X:Cx} {pins:List (Addr×Obj)} {σ:St} {H:Hp} {s:Shared}
theorem iO(ok:X.Ok){sc:Scope}(hb:cV sc X.env.scope=true){x:Str}{c:Addr}(h:(cy sc.names X.env.cells).lookup x=some c):X.env.cells.lookup x=some c:=by
 rcases jw X.env.cells sc.names [] x c h with⟨h1,h2⟩ | h1
 ·obtain⟨d,hd⟩:=ok.has x (jb hb h1 rfl)
  rw[hd]at h2 ⊢
  rw[h2]
  rfl
 ·simp at h1
theorem gC(ok:X.Ok){sc:Scope}(hb:cV sc X.env.scope=true){C:Addr}{x:Str}{c:Addr}(h:(fE X sc C).lookup x=some c):X.env.cells.lookup x=some c\/(@LT.lt Nat _ C c/\sc.names.lookup x=some .cell):=by
 rcases fD _ _ _ h with h | ⟨h1,h2⟩
 ·exact .inl (iO ok hb h)
 ·exact .inr ⟨h1,vj hb h2 rfl⟩
theorem m6{sc:Scope}{x:Str}{C:Addr}(h:(x,NameKind.free)∈sc.names):∃c,(fE X sc C).lookup x=some c:=by
 obtain⟨c,hc⟩:=qg (cells:=X.env.cells) h
 exact Option.isSome_iff_exists.mp (PySem.W.cellsFrom_some sc.names _ _ (.inr (by rw[hc];rfl)))
theorem An(I:Inv X pins σ H s){sc:Scope}(hb:cV sc X.env.scope=true){x:Str}{c:Addr}(h:(cy sc.names X.env.cells).lookup x=some c):@LT.lt Nat _ c s.heap.objs.size:=I.cell_lt (iO I.ok hb h)
theorem xm(I:Inv X pins σ H s){sc:Scope}{own:List Str}{js:List Nat}{fp:List Addr}{C:Nat}(hk:sc.kind=.function)(hb:cV sc X.env.scope=true)
  (hfp:∀b∈fp,bL X pins H b) (hC:s.heap.objs.size<=C) (hlt:∀b∈fp,b<s.heap.objs.size):(bN X sc own js ⟨s,H,fp,C⟩).Ok where
 mod:=I.ok.mod
 kind:=hk
 glob:=I.ok.glob
 blt:=I.ok.blt
 above:=hC
 inj:=fun x y c h1 h2=>jr sc.names _ _ (fun x c e=>Nat.lt_succ_of_le (BL (Nat.le_of_lt (An I hb e)) hC)) (fun x y c e1 e2=>I.ok.inj x y c (iO I.ok hb e1) (iO I.ok hb e2)) h1 h2
 has:=fun x hx=>by
  have hx':(relabel sc X.env).names.lookup x=some .cell\/(relabel sc X.env).names.lookup x=some .free:=hx
  have go:∀k,(relabel sc X.env).names.lookup x=some k->(k=.cell\/k=.free)->∃c,(fE X sc C).lookup x=some c:=fun k h hkk=>by
   obtain⟨k',h1,h2⟩:=jD (sc:=sc) (env:=X.env) h
   have m:=gK h1
   rcases h2 with h2 | ⟨h2,_⟩
   ·subst h2
    rcases hkk with e | e
    ·rw[e]at h1;exact Option.isSome_iff_exists.mp (PySem.W.cellsFrom_some sc.names _ _ (.inl h1))
    ·rw[e]at m;exact m6 m
   ·rw[h2]at m;exact m6 m
  rcases hx' with h | h
  ·exact go _ h (.inl rfl)
  ·exact go _ h (.inr rfl)
 cab:=fun x c h e=>by
  have hx:sc.names.lookup x=some .cell:=by simpa[bN]using h
  have e':(fE X sc C).lookup x=some c:=e
  rcases fD _ _ _ e' with e1 | ⟨e1,_⟩
  ·rcases jw X.env.cells sc.names [] x c e1 with⟨h1,_⟩ | h1
   ·exact(AQ hb h1 hx).elim
   ·simp at h1
  ·exact BL hC (Nat.le_of_succ_le e1)
 hd:=I.ok.hd
 frames:=I.ok.frames
 stk:=.inl rfl
 exf:=fun b hb'=>⟨BA (BK (hlt b hb') hC),fun x c e=>by
  rcases gC I.ok hb (C:=C) e with e | ⟨e,_⟩
  ·exact(hfp b hb').2.2.2.2.1 x c e
  ·exact Nat.ne_of_gt (Nat.lt_trans (BK (hlt b hb') hC) e)⟩
 bs:=I.bs
 bsz:=BL I.ok.bsz I.sz
 noex:=fun b o e hb'=>by
  rcases(hfp b hb').2.2.2.1 with z | z
  ·exact I.ok.noex b o e z
  ·exact absurd (BK (Bh e) (BL I.ok.bsz z)) (Nat.lt_irrefl _)
 exfs:=fun b hb' hm=>by
  rcases Bw.mp (I.stkSub b hm)with e | h
  ·exact(hfp b hb').2.1 e
  ·exact(hfp b hb').2.2.1 h
 funs:=I.stack
 frf:=I.stkFree
theorem AM(I:Inv X pins σ H s){sc:Scope}{own:List Str}{js:List Nat}{fp:List Addr}{C D:Nat}{h1:Heap}{tk:Nat}{o:Obj}{m:Str->Option Value}(hk:sc.kind=.function)(hb:cV sc X.env.scope=true)(hj:ja sc X.N js=true)
  (hfp:∀b∈fp,bL X pins H b) (hlt:∀b∈fp,b<s.heap.objs.size) (hD:D=s.heap.objs.size) (hC:C=s.heap.objs.size+1) (old:∀b o,s.heap.get? b=some o->h1.get? b=some o)
  (hDo:h1.get? D=some o) (hod:∀v,o.data≠.cell v) (hm:h1.Ns C m) (hcl:∀x c,(fE X sc C).lookup x=some c->(cy sc.names X.env.cells).lookup x=some c\/h1.IsCell c none) :
  Inv (bN X sc own js ⟨s,H,fp,C⟩) [(D,o)] (cE own.length js σ) H { s with heap:=h1,toks:=tk } where
 ok:=xm I hk hb hfp (show @LE.le Nat _ s.heap.objs.size C by omega) hlt
 os:=rfl
 bare:=I.bare
 base:=Un.kept old
 loc:=by
  refine⟨m,hm,fun i x v e1 e2 e3=>?_⟩
  obtain⟨k,j,rfl,ej,es⟩:=rX e2
  have e1':(own++js.map fun j=>X.N.getD j "")[own.length+k]?=some x:=e1
  rw[BF (by omega),Nat.add_sub_cancel_left,Bk,ej]at e1'
  have ex:X.N.getD j "" = x:=by simpa using e1'
  have hjj:=BN.mp hj j (Br ej)
  simp only[BQ,decide_eq_true_eq,beq_iff_eq]at hjj
  have exN:X.N[j]?=some x:=by
   rw[←ex,List.getD_eq_getElem?_getD,Bj hjj.1]
   rfl
  have hfree:sc.names.lookup x=some .free:=by rw[←ex];exact hjj.2
  have hmem:=gK hfree
  have hout:=jb hb hmem rfl
  obtain⟨m0,hn0,hl0⟩:=I.loc
  obtain⟨u,r,l⟩:=hl0 j x v exN es (by rcases hout with z | z;exact .inr (.inl z);exact .inr (.inr z))
  refine⟨u,r,?_⟩
  obtain⟨c,hc⟩:=m6 (X:=X) (C:=C) hmem
  have hc':X.env.cells.lookup x=some c:=by
   rcases gC I.ok hb hc with e | ⟨_,e⟩
   ·exact e
   ·rw[hfree]at e;cases e
  have hcell:s.heap.IsCell c (some u):=by
   rcases l with⟨z,_⟩ | ⟨_,c',e',q⟩
   ·have z':X.env.scope.names.lookup x=some .local:=z
    rcases hout with w | w<;>(rw[z']at w;cases w)
   ·rw[hc']at e';cases e';exact q
  have hcell1:h1.IsCell c (some u):=by
   obtain⟨oc,ho,hd⟩:=hcell
   exact⟨oc,old c oc ho,hd⟩
  right
  refine⟨?_,c,hc,hcell1⟩
  have e3':(relabel sc X.env).names.lookup x=some .local\/(relabel sc X.env).names.lookup x=some .cell\/(relabel sc X.env).names.lookup x=some .free:=e3
  rcases e3' with z | z
  ·obtain⟨k',z1,z2⟩:=jD (sc:=sc) (env:=X.env) z
   rw[hfree]at z1
   rcases z2 with z2 | ⟨_,z2⟩
   ·rw[z2]at z1;cases z1
   ·cases z2
  ·exact z
 cell:=fun x c e=>by
  rcases hcl x c e with e | e
  ·obtain⟨v,oc,ho,hd⟩:=I.cell x c (iO I.ok hb e)
   exact⟨v,oc,old c oc ho,hd⟩
  ·exact⟨none,e⟩
 free:=I.hok.fresh (show @LE.le Nat _ s.heap.objs.size C by omega)
 freeC:=fun x c e=>by
  rcases gC I.ok hb (C:=C) e with e | ⟨e,_⟩
  ·exact I.freeC x c e
  ·exact I.hok.fresh (show @LE.le Nat _ s.heap.objs.size c by omega)
 pin:=fun p hp=>by
  have e:p=(D,o):=by simpa[bN]using hp
  subst e
  refine⟨hDo,I.hok.fresh (show @LE.le Nat _ s.heap.objs.size D by omega),?_,fun z=>?_,hod⟩
  ·exact BA (show @LT.lt Nat _ D C by omega)
  ·have h9:@LT.lt Nat _ D s.heap.objs.size:=I.stk_lt (b:=D) z
   omega
 hok:=I.hok.kept old
 len:=by
  show(cE own.length js σ).length=(own++js.map fun j=>X.N.getD j "").length
  simp[cE]
theorem se{elt tg iter:Expr}{ifs:List Expr}{sc:Scope}{pos:Pos}{own:List Str}{js:List Nat}{g:TG}{tc:TT}{te:TE}{J:It}{it:Addr}{fp:List Addr}{tn:Nat->Heap->Prop}{RR:Value->Addr->Result->Shared->Prop}{E:Value->Shared->Prop}
  {Q:VK} {W:Nat->Nat->List V->Hp->Prop} (hk:sc.kind=.function) (hb:cV sc X.env.scope=true) (hj:ja sc X.N js=true)
  (hg:∀C,PG (bN X sc own js ⟨s,H,fp,C⟩) tg g) (ht:∀C,iR (bN X sc own js ⟨s,H,fp,C⟩) ifs tc) (he:∀C,PE (bN X sc own js ⟨s,H,fp,C⟩) elt te)
  (I:Inv X pins σ H s) (T:∀C,TurnAt (bN X sc own js ⟨s,H,fp,C⟩) tg J fp it tn) (st:tn 0 s.heap) (hfp:∀b∈fp,bL X pins H b) (w0:∃m,W 0 m [] H)
  (turn:∀i m ys H',W i m ys H'->(J.stop i H'/\∀p,H' p=none->Q (.ref p) (upd H' p (.lst ys))) ∨
   (J.go i H'/\ys.length<sizeLine/\∃N:List V->Hp->Prop,(∀ys' H2,N ys' H2->∃m',m'<m/\W (i+1) m' ys' H2)/\∀x H2,J.yld i H' x H2->g x (cE own.length js σ) H2 fun σ2 H3=>tc σ2 H3 fun b H4=>
    if b=true then te σ2 H4 fun v H5=>N (ys++[v]) H5 else N ys H4))
  (fin:∀D C s' ys H',H' D=none->Inv X pins σ (upd H' D (.lst ys)) s'->bL X pins (upd H' D (.lst ys)) C->(∃m,s'.heap.Ns C m)->s.heap.objs.size<=C->Q (.ref D) (upd H' D (.lst ys))->RR (.ref D) C (.ok .next) s') :
  wpAny (model X.prog X.w) X.A (newList []) (fun acc s₃=>wpAny (model X.prog X.w) X.A (newFunctionEnv sc X.env.globals (cy sc.names X.env.cells) [] X.env.qual none .none (some X.env)) (fun cenv s₄=>
   codeAny (model X.prog X.w) X.A (.compStart (.ListComp elt [⟨tg,iter,ifs,0⟩] sc pos) 0 (.ref it) acc { cenv with scope:=relabel sc X.env }) (RR acc cenv.locals) s₄) E s₃) E s:=by
 have hlt:∀b∈fp,b<s.heap.objs.size:=fun b hb'=>by
  obtain⟨o,e,_⟩:=(T 0).obj 0 s.heap st b hb'
  exact Bh e
 refine wpAny_newObj_type (zP ?_)
 dsimp only
 generalize hH2:s.heap.push { cls:=.type "list",dict:=none,data:=.seq ([]:List Value).toArray }=H2 at *
 have hCs:H2.objs.size=s.heap.objs.size+1:=by rw[←hH2,Heap.size_push]
 have hns₁:(pushCells (H2.push { cls:=.type "dict",data:=.dict #[] }) sc.names).Ns H2.objs.size (fun _=>none):=(Heap.Ns.new H2 (.type "dict")).keeps (pushCells_keeps _ _)
 have hcl₁:∀x c,(fE X sc H2.objs.size).lookup x=some c->(cy sc.names X.env.cells).lookup x=some c\/(pushCells (H2.push { cls:=.type "dict",data:=.dict #[] }) sc.names).IsCell c none:=fun x c e=>by
  have e':(cellsFrom (H2.objs.size+1) sc.names (cy sc.names X.env.cells)).lookup x=some c:=e
  rw[←Heap.size_push H2 { cls:=.type "dict",data:=.dict #[] }]at e'
  exact m7 _ _ _ e'
 have old:∀b o,s.heap.get? b=some o->(pushCells (H2.push { cls:=.type "dict",data:=.dict #[] }) sc.names).get? b=some o:=fun b o e=>pushCells_keeps _ _ b o (Bf _ (hH2 ▸ Bf _ e))
 have hDo:(pushCells (H2.push { cls:=.type "dict",data:=.dict #[] }) sc.names).get? s.heap.objs.size=some (df [] 0):=pushCells_keeps _ _ _ _ (Bf _ (hH2 ▸ Bg _ rfl))
 generalize pushCells (H2.push { cls:=.type "dict",data:=.dict #[] }) sc.names=h₁ at *
 generalize hCe:H2.objs.size=C at *
 have below:∀b:Nat,b<s.heap.objs.size->b≠C:=fun b hb'=>by omega
 generalize hDe:s.heap.objs.size=D at *
 -- the loop's word
 let Y:Cx:=bN X sc own js ⟨s,H,fp,C⟩
 have J0:Inv Y [(D,df [] 0)] (cE own.length js σ) H { s with heap:=h₁ }:=
  AM I hk hb hj hfp (by rw[hDe];exact hlt) hDe.symm (by rw[hDe];exact hCs) old hDo (fun v z=>by cases z) hns₁ hcl₁
 have ndC:@Ne Nat D C:=by omega
 have statF:∀{P':List (Addr×Obj)} {H':Hp},(∀b∈fp,H' b=none)->(∀p∈P',p.1∉fp)->∀b∈fp,bL Y P' H' b:=fun{P' H'} hn hp b hb'=>by
  obtain⟨f0,f1,f2,f3,f4,f5⟩:=hfp b hb'
  refine⟨hn b hb',fun z=>below b (hlt b hb') z,fun z=>?_,.inl hb',fun x c e=>?_,fun p hp' z=>?_⟩
  ·rcases Bw.mp (I.stkSub b z)with e | h
   ·exact f1 e
   ·exact f2 h
  ·rcases gC I.ok hb (C:=C) e with e | ⟨e,_⟩
   ·exact f4 x c e
   ·have h9:@LT.lt Nat _ b s.heap.objs.size:=by rw[hDe];exact hlt b hb'
    exact Nat.ne_of_gt (show @LT.lt Nat _ b c by omega)
  ·have:p∈P':=by simpa[Y,bN]using hp'
   exact hp p this (by rw[z];exact hb')
 have Dfp:D∉fp:=fun z=>by have h9:@LT.lt Nat _ D D:=hlt D z;omega
 have st1:tn 0 h₁:=(T 0).keep 0 s.heap h₁ st fun b _ o e=>old b o e
 have loop:∀s₃:Shared,s₃={ s with heap:=h₁ } →
   codeAny (model X.prog X.w) X.A (.compLoop (.ListComp elt [⟨tg,iter,ifs,0⟩] sc pos) 0 (.ref it) (.ref D) Y.env) (RR (.ref D) C) s₃:=by
  rintro s₃ rfl
  obtain⟨m0,w0⟩:=w0
  refine zu (fun n s'=>∃i ys its q H',Inv Y [(D,df its q)] (cE own.length js σ) H' s'/\Vals ys its/\ys.length<=sizeLine/\tn i s'.heap/\(∀b∈fp,H' b=none)/\W i n ys H') ?_ m0
   ⟨0,[],[],0,H,J0,.nil,Nat.zero_le _,st1,fun b hb'=>(hfp b hb').1,w0⟩
  rintro n s3 ⟨i,ys,its,q,H3,I3,rv,hz,st3,fr3,w3⟩
  have pD:∀p∈[(D,df its q)],p.1∉fp:=fun p hp=>by
   have e:p=(D,df its q):=by simpa using hp
   rw[e];exact Dfp
  rcases turn i n ys H3 w3 with⟨stop,qn⟩ | ⟨go,hlen,N,hN,step⟩
  ·-- the end
   refine ah ((T C).done i _ s3 _ H3 _ I3 (statF fr3 pD) st3 stop) fun r s4 ⟨hr,I4⟩=>?_
   subst hr
   show RR (.ref D) C (.ok .next) s4
   have hDp:=I4.pin (D,df its q) (List.mem_append_right _ (Bs.mpr rfl))
   have hD4:s4.heap.get? D=some (df its q):=hDp.1
   have nD:H3 D=none:=hDp.2.1
   have U:Un (cz X.stack) fp H H3 s.heap s4.heap:=I4.base
   have neD:∀b o,s.heap.get? b=some o->b≠D:=fun b o e=>BA (by have h9:@LT.lt Nat _ b s.heap.objs.size:=Bh e;omega)
   have neDH:∀b o,H b=some o->b≠D:=fun b o e=>BA (by have h9:@LT.lt Nat _ b s.heap.objs.size:=I.hok.lt e;omega)
   have U2:Un (cz X.stack) fp H (upd H3 D (.lst ys)) s.heap s4.heap:=
    ⟨U.keep,U.slot,fun b o e n hx=>by rw[ay (neD b o e)];exact U.free b o e n hx,U.there,fun b xs e=>by rw[ay (neDH b _ e)];exact U.tups b xs e,
     fun b o u e=>by rw[ay (neDH b _ e)];exact U.frzs b o u e,fun b ps e=>by rw[ay (neDH b _ e)];exact U.tbls b ps e⟩
   have hok2:aU X.prog X.w (upd H3 D (.lst ys)) s4.heap:=fun b o e=>by
    by_cases hb':b=D
    ·subst hb'
     rw[aG]at e
     cases e
     exact⟨hz,its,q,rv,hD4⟩
    ·rw[ay hb']at e
     exact(I4.hok b o e).stay (fun c u _ z=>z) (fun c z=>by rw[ay (cx z nD)];exact z) fun c xs z=>by rw[ay (cx z nD)];exact z
   have IX:Inv X pins σ (upd H3 D (.lst ys)) s4:=I.call' (ch:=fp) I4.os U2 hok2 I4.bare fun b hb'=>by
    obtain⟨f0,f1,f2,f3,f4,f5⟩:=hfp b hb'
    exact⟨f3,f1,f4,f5⟩
   obtain⟨m4,hn4,_⟩:=I4.loc
   have nC:H3 C=none:=I4.free
   refine fin D C s4 ys H3 nD IX ?_ ⟨m4,hn4⟩ (show @LE.le Nat _ D C by omega) (qn D nD)
   refine⟨by rw[ay (Ne.symm ndC)];exact nC,?_,?_,?_,?_,?_⟩
   ·have h9:@LT.lt Nat _ X.env.locals s.heap.objs.size:=I.lt
    exact Nat.ne_of_gt (show @LT.lt Nat _ X.env.locals C by omega)
   ·exact I.nofs (show @LE.le Nat _ s.heap.objs.size C by omega)
   ·right
    have h9:@LE.le Nat _ X.s₀.heap.objs.size s.heap.objs.size:=I.sz
    exact(show @LE.le Nat _ X.s₀.heap.objs.size C by omega)
   ·intro x c e
    have h9:@LT.lt Nat _ c s.heap.objs.size:=I.cell_lt e
    exact BA (show @LT.lt Nat _ c C by omega)
   ·intro p hp
    have h9:@LT.lt Nat _ p.1 s.heap.objs.size:=I.pin_lt hp
    exact BA (show @LT.lt Nat _ p.1 C by omega)
  ·-- a turn
   refine ah ((T C).item i _ s3 _ H3 _ I3 (statF fr3 pD) st3 go) fun r s4 ⟨u,hr,h4⟩=>?_
   subst hr
   refine ah h4 fun _ s5 ⟨x,H5,I5,r5,y5,st5,fr5⟩=>?_
   have I5':=I5.pinned (statF fr5 pD) ((T 0).obj _ _ st5)
   refine ah (hg _ _ s5 _ H5 x u _ I5' r5 (step x H5 y5)) fun _ s6 ⟨σ6,H6,I6,q6⟩=>?_
   refine ah (ht _ _ s6 σ6 H6 _ I6 q6) fun ok s7 ⟨H7,I7,q7⟩=>?_
   have back:∀{s':Shared} {σ':St} {H':Hp} {ys':List V} {its':List Value} {q':Nat},Inv Y ([(D,df its' q')]++fb fp s5.heap) σ' H' s'->Vals ys' its'->ys'.length<=sizeLine->N ys' H' →
     ∃m,m<n/\∃i ys its q H',Inv Y [(D,df its q)] (cE own.length js σ) H' s'/\Vals ys its/\ys.length<=sizeLine/\tn i s'.heap/\(∀b∈fp,H' b=none)/\W i m ys H':=by
    intro s' σ' H' ys' its' q' I' rv' hz' nn
    obtain⟨m',hm,w'⟩:=hN ys' H' nn
    have hpin:∀b∈fp,∀o,s5.heap.get? b=some o->s'.heap.get? b=some o/\H' b=none:=fun b hb' o e=>by
     have:=I'.pin (b,o) (List.mem_append_right _ (List.mem_append_right _ (ma hb' e)))
     exact⟨this.1,this.2.1⟩
    refine⟨m',hm,i+1,ys',its',q',H',?_,rv',hz',(T 0).keep _ _ _ st5 fun b hb' o e=>(hpin b hb' o e).1,fun b hb'=>?_,w'⟩
    ·have I'':=I'.unpinned
     obtain⟨mm,hmm,_⟩:=id I''.loc
     refine⟨I''.ok,I''.os,I''.bare,I''.base,⟨mm,hmm,fun k x v e1 e2 e3=>?_⟩,I''.cell,I''.free,I''.freeC,I''.pin,I''.hok,?_⟩
     ·-- the captured names: their cells are as they were at the block's beginning
      obtain⟨m1,hn1,hl1⟩:=J0.loc
      obtain⟨u1,r1,l1⟩:=hl1 k x v e1 e2 e3
      refine⟨u1,r1,?_⟩
      obtain⟨k',j,rfl,ej,es⟩:=rX e2
      have e1':(own++js.map fun j=>X.N.getD j "")[own.length+k']?=some x:=e1
      rw[BF (by omega),Nat.add_sub_cancel_left,Bk,ej]at e1'
      have ex:X.N.getD j "" = x:=by simpa using e1'
      have hjj:=BN.mp hj j (Br ej)
      simp only[BQ,decide_eq_true_eq,beq_iff_eq]at hjj
      have hfree:sc.names.lookup x=some .free:=by rw[←ex];exact hjj.2
      rcases l1 with⟨z,zz⟩ | ⟨z,c,e,zz⟩
      ·-- a captured name is no local one
       exfalso
       obtain⟨k2,z1,z2⟩:=jD (sc:=sc) (env:=X.env) (show(relabel sc X.env).names.lookup x=some .local from z)
       rw[hfree]at z1
       rcases z2 with z2 | ⟨_,z2⟩
       ·rw[z2]at z1;cases z1
       ·cases z2
      ·refine .inr ⟨z,c,e,?_⟩
       have hcs:X.env.cells.lookup x=some c:=by
        rcases gC I.ok hb (C:=C) e with e | ⟨_,e⟩
        ·exact e
        ·rw[hfree]at e;cases e
       obtain⟨ov,oc,hoc,hdc⟩:=I.cell x c hcs
       have hoc1:=old c oc hoc
       obtain⟨oz,hoz,hdz⟩:=zz
       have hoz':h₁.get? c=some oz:=hoz
       rw[hoc1]at hoz'
       cases hoz'
       have cnf:c∉fp:=fun z'=>(hfp c z').2.2.2.2.1 x c hcs rfl
       obtain⟨sl,hh⟩:=I''.base.any hoc (I.freeC x c hcs) cnf
       exact⟨_,hh,hdz⟩
     ·show(cE own.length js σ).length=_
      exact J0.len
    ·obtain⟨o,e,d⟩:=(T 0).obj _ _ st5 b hb'
     exact(hpin b hb' o e).2
   cases ok with
   | false=>
    rw[if_neg Bx]at q7 ⊢
    exact back I7 rv hz q7
   | true=>
    rw[if_pos rfl]at q7 ⊢
    refine ah (he _ _ s7 σ6 H7 _ I7 q7) fun xv s8 ⟨v,H8,I8,r8,q8⟩=>?_
    have hDp:=I8.pin (D,df its q) (List.mem_append_right _ (List.mem_append_left _ (Bs.mpr rfl)))
    have hD8:s8.heap.get? D=some { cls:=.type "list",data:=.seq its.toArray q }:=hDp.1
    have hl:=rv.length
    refine call_meets F.slot_list_append ⟨_,hD8,rfl⟩ F.entry_list_append (F.args_list_append_2 _ _) (PySem.list_append D its.toArray q xv (by rw[Bn];omega)) ⟨hD8,?_⟩
    have qq:=PySem.IsL.update hD8 (fun a=>a.push xv)
    have eqs:its.toArray.push xv=(its++[xv]).toArray:=by simp
    rw[eqs]at qq
    obtain⟨q2,hq2⟩:∃q2,(s8.heap.update D (Obj.mapSeq fun a=>a.push xv)).get? D=some (df (its++[xv]) q2):=⟨_,qq⟩
    -- without the pin of D,the record turns,then it is pinned again
    have I8a:Inv Y (fb fp s5.heap) σ6 H8 s8:=I8.pins_of fun p hp=>I8.pin p (List.mem_append_right _ (List.mem_append_right _ hp))
    have nD8:H8 D=none:=hDp.2.1
    have I9:Inv Y (fb fp s5.heap) σ6 H8 { s8 with heap:=s8.heap.update D (Obj.mapSeq fun a=>a.push xv),toks:=s8.toks }:=by
     refine I8a.turned (it:=D) (fun b o hb' e=>(Heap.get?_update_other s8.heap (Obj.mapSeq fun a=>a.push xv) (Ne.symm hb')).trans e) nD8 ndC (.inr (show @LE.le Nat _ s.heap.objs.size D by omega)) (fun x c e=>?_) fun p hp=>?_
     ·rcases gC I.ok hb (C:=C) e with e | ⟨e,_⟩
      ·have h9:@LT.lt Nat _ c s.heap.objs.size:=I.cell_lt e
       exact BA (show @LT.lt Nat _ c D by omega)
      ·exact Nat.ne_of_gt (show @LT.lt Nat _ D c by omega)
     ·have hp':p∈fb fp s5.heap:=by simpa[Y,bN]using hp
      obtain⟨h1,_⟩:=pb hp'
      exact fun z=>Dfp (z ▸ h1)
    refine back (ys':=ys++[v]) (its':=its++[xv]) (q':=q2) (I9.pins_of fun p hp=>?_) (rv.append (.cons r8 .nil)) (by rw[Bz,List.length_singleton];omega) q8
    rcases BE.mp hp with hp | hp
    ·have e:p=(D,df (its++[xv]) q2):=by simpa using hp
     subst e
     refine⟨hq2,nD8,ndC,fun z=>?_,fun v z=>by cases z⟩
     have h9:@LT.lt Nat _ D s.heap.objs.size:=I.stk_lt (b:=D) z
     omega
    ·exact I9.pin p (List.mem_append_right _ hp)
 exact codeAny_compStart_list (loop _ rfl) ((T 0).self X.A 0 { s with heap:=h₁ } _ _ st1 (loop _ rfl))
theorem cM{elt tg iter:Expr}{ifs:List Expr}{sc:Scope}{pos:Pos}(own:List Str)(js:List Nat){wi:TI}{g:TG}{tc:TT}{te:TE}(hi:PI X tg iter wi)(hg:∀z,PG (bN X sc own js z) tg g)(ht:∀z,iR (bN X sc own js z) ifs tc)
  (he:∀z,PE (bN X sc own js z) elt te) (hc:X.calm=true:=by rfl) (hk:sc.kind=.function:=by rfl) (hb:cV sc X.env.scope=true:=by rfl) (hj:ja sc X.N js=true:=by rfl)
  (hs:∀x,foldedSetIterable iter X.env x=pure x:=by intro _;rfl):PE X (.ListComp elt [⟨tg,iter,ifs,0⟩] sc pos) (nF own.length js wi g tc te):=by
 intro pins s σ H Q I h
 rw[eval_ListComp]
 refine wpAny_comprehension_free (use:=none) rfl hs (nU fun p hp hf=>I.ok.has p.1 (jb hb hp hf)) hk (fun p hp hl=>qf hb hp hl) (ah (hi pins s σ H _ I h) fun v s1 h1=>ah h1 fun itv s2 h2=>?_)
 obtain⟨it,fp,tn,J,H2,e,I2,T,st2,f2,W,w0,turn⟩:=h2
 subst e
 refine se (RR:=fun acc C=>compPost (model X.prog X.w) X.A X.xe none (EP X pins σ Q) acc C) hk hb hj (fun _=>hg _) (fun _=>ht _) (fun _=>he _) I2 (fun C=>Turn.at_ (Y:=bN X sc own js ⟨_,_,_,C⟩) T hc) st2 f2 w0 turn ?_
 intro D C s' ys H' nD I' hC ⟨m,hm⟩ _ q
 refine⟨m,hm,fun h' hs'=>?_⟩
 obtain⟨f0,f1,f2,f3,f4,f5⟩:=hC
 exact⟨.ref D,_,I'.turned (t':=s'.toks) (it:=C) (fun b o hb' e=>(hs'.2 b hb').trans e) f0 f1 f3 f4 f5,rfl,q⟩
end
end L2
namespace L2
open PySem PySem.Spec PyProof.Rows
def cn(c:Addr)(o:Obj):HO:=.ext fun h=>h.get? c=some o
theorem wQ{P:Program}{w:World}{H:Hp}{h:Heap}{c:Addr}{o:Obj}(r:h.get? c=some o):bh P w H h c (cn c o):=⟨r,⟨o,r⟩,fun h1 h2 r1 k=>k o r1⟩
def bw(cs:List (Addr×Obj))(H:Hp):Hp:=fun b=>match cs.lookup b with | some o=>some (cn b o) | none=>H b
def aR(cs:List (Addr×Obj))(H:Hp):Hp:=fun b=>match cs.lookup b with | some _=>none | none=>H b
section
variable {cs:List (Addr×Obj)} {H H':Hp} {b:Addr} {o:Obj} {P:Program} {w:World} {h h':Heap} {fs ex:List Addr}
theorem dY(q:cs.lookup b=some o):bw cs H b=some (cn b o):=by unfold bw;rw[q]
theorem cc(q:cs.lookup b=none):bw cs H b=H b:=by unfold bw;rw[q]
theorem fA(q:cs.lookup b=some o):aR cs H b=none:=by unfold aR;rw[q]
theorem bT(q:cs.lookup b=none):aR cs H b=H b:=by unfold aR;rw[q]
theorem yX{u:HO}(q:aR cs H b=some u):cs.lookup b=none/\H b=some u:=by
 cases e:cs.lookup b with
 | none=>rw[bT e]at q;exact⟨rfl,q⟩
 | some o=>rw[fA e]at q;cases q
theorem kJ{u:HO}(hc:∀b o,cs.lookup b=some o->H b=none)(q:H b=some u):bw cs H b=some u:=by
 cases e:cs.lookup b with
 | none=>rw[cc e];exact q
 | some o=>rw[hc b o e]at q;cases q
theorem pZ(hok:aU P w H h)(hc:∀b o,cs.lookup b=some o->h.get? b=some o)(hn:∀b o,cs.lookup b=some o->H b=none):aU P w (bw cs H) h:=fun b u e=>by
 cases q:cs.lookup b with
 | some o=>rw[dY q]at e;cases e;exact wQ (hc b o q)
 | none=>
  rw[cc q]at e
  exact(hok b u e).stay (fun d v _ g=>g) (fun d hd=>kJ hn hd) fun d xs hd=>kJ hn hd
theorem pf(hok:aU P w H h)(hc:∀b o,cs.lookup b=some o->H b=some (cn b o)):aU P w (aR cs H) h:=fun b u e=>by
 obtain⟨q,e⟩:=yX e
 have nt:∀d x,H d=some x->(∀f,x≠.ext f)->aR cs H d=some x:=fun d x hd nx=>by
  cases z:cs.lookup d with
  | none=>rw[bT z];exact hd
  | some o'=>rw[hc d o' z]at hd;cases hd;exact absurd rfl (nx _)
 exact(hok b u e).stay (fun d v _ g=>g) (fun d hd=>nt d _ hd fun f z=>by cases z) fun d xs hd=>nt d _ hd fun f z=>by cases z
theorem xi(u:Un fs ex (bw cs H) H' h h')(hok':aU P w H' h')(hc:∀b o,cs.lookup b=some o->h.get? b=some o)(hn:∀b o,cs.lookup b=some o->H b=none)(hc':∀b o,cs.lookup b=some o->H' b=some (cn b o)):Un fs ex H (aR cs H') h h' where
 keep:=fun b o e n nf nx=>by
  cases q:cs.lookup b with
  | none=>exact u.keep b o e (by rw[cc q];exact n) nf nx
  | some o'=>
   rw[hc b o' q]at e
   cases e
   exact(hok' b _ (hc' b _ q)).1
 slot:=fun b o e n nf nx=>by
  cases q:cs.lookup b with
  | none=>exact u.slot b o e (by rw[cc q];exact n) nf nx
  | some o'=>
   rw[hc b o' q]at e
   cases e
   exact⟨_,(hok' b _ (hc' b _ q)).1⟩
 free:=fun b o e n nx=>by
  cases q:cs.lookup b with
  | none=>rw[bT q];exact u.free b o e (by rw[cc q];exact n) nx
  | some o'=>exact fA q
 there:=u.there
 tups:=fun b xs e=>by
  cases q:cs.lookup b with
  | none=>rw[bT q];exact u.tups b xs (by rw[cc q];exact e)
  | some o'=>rw[hn b o' q]at e;cases e
 frzs:=fun b o x e=>by
  cases q:cs.lookup b with
  | none=>rw[bT q];exact u.frzs b o x (by rw[cc q];exact e)
  | some o'=>rw[hn b o' q]at e;cases e
 tbls:=fun b ps e=>by
  cases q:cs.lookup b with
  | none=>rw[bT q];exact u.tbls b ps (by rw[cc q];exact e)
  | some o'=>rw[hn b o' q]at e;cases e
theorem wJ(u:Un fs ex (aR cs H) H' h h')(hc:∀b o,cs.lookup b=some o->H b=some (cn b o)):Un fs ex H (bw cs H') h h' where
 keep:=fun b o e n nf nx=>by
  cases q:cs.lookup b with
  | none=>exact u.keep b o e (by rw[bT q];exact n) nf nx
  | some o'=>rw[hc b o' q]at n;cases n
 slot:=fun b o e n nf nx=>by
  cases q:cs.lookup b with
  | none=>exact u.slot b o e (by rw[bT q];exact n) nf nx
  | some o'=>rw[hc b o' q]at n;cases n
 free:=fun b o e n nx=>by
  cases q:cs.lookup b with
  | none=>rw[cc q];exact u.free b o e (by rw[bT q];exact n) nx
  | some o'=>rw[hc b o' q]at n;cases n
 there:=u.there
 tups:=fun b xs e=>by
  cases q:cs.lookup b with
  | none=>rw[cc q];exact u.tups b xs (by rw[bT q];exact e)
  | some o'=>rw[hc b o' q]at e;cases e
 frzs:=fun b o x e=>by
  cases q:cs.lookup b with
  | none=>rw[cc q];exact u.frzs b o x (by rw[bT q];exact e)
  | some o'=>rw[hc b o' q]at e;cases e
 tbls:=fun b ps e=>by
  cases q:cs.lookup b with
  | none=>rw[cc q];exact u.tbls b ps (by rw[bT q];exact e)
  | some o'=>rw[hc b o' q]at e;cases e
end
structure FunR(P:Program)(w:World)(K:Be)(mg:Str->Option Value)(base:Heap)(k:Nat)(f:Addr)(pre:Hp->Prop)(R:List V->Hp->VK->Prop):Prop where
 at_:∀H h,aU P w H h->pre H->PySem.W.FnAt f h
 run:∀(A:Around) (outer:List Env) (s:Shared) (H:Hp) (us:List Value) (vs:List V) (Q:VK),Room k A->Env0 P w K mg base A outer s H->pre H->Vals vs us->R vs H Q →
  codeAny (model P w) A (.call (.ref f) ⟨us,[]⟩) (CR cP outer P w H s Q E0) s
def qA(P:Program)(w:World)(K:Be)(mg:Str->Option Value)(base:Heap)(k:Nat)(tf:TE)(ta:TA):TE:=fun σ H Q=>tf σ H fun fv H1=>∃f pre R,fv=.ref f/\FunR P w K mg base k f pre R/\pre H1/\ta σ H1 fun vs H2=>pre H2/\R vs H2 Q
theorem zv{X:Cx}{P:Program}{w:World}{K:Be}{mg:Str->Option Value}{base:Heap}{k:Nat}{x:Str}{p pos:Pos}{e:Expr}{es:List Expr}{tf:TE}{ta:TA}{A0:Around}(hr:Room k A0)(hf:PE X (.Name x p) tf)(ha:PA X (e::es) ta)(hA:X.A=A0:=by rfl)(hP:X.prog=P:=by rfl)(hw:X.w=w:=by rfl)(hK:X.K=K:=by rfl)(hm:X.mg=mg:=by rfl)(hB:X.base=base:=by rfl)
  (he:starEach (e::es) X.env=(false,eval e X.env)::starEach es X.env:=by rfl) (hpl:(backTo pos (starEach es X.env)).any (·.1)=false:=by rfl):PE X (.Call (.Name x p) (e::es) [] pos) (qA P w K mg base k tf ta):=by
 subst hA
 subst hP
 subst hw
 subst hK
 subst hm
 subst hB
 intro pins s σ H Q I h
 refine wpAny_Call_Name_kw (ah (hf pins s σ H _ I h) fun fv s1 ⟨v,H1,I1,r1,⟨f,pre,R,ev,F,hp,q1⟩⟩=>?_)
 subst ev
 cases r1
 refine PySem.W.callWith_F (first:=[]) (F.at_ _ _ I1.hok hp) (ah (ha pos pins s1 σ H1 _ I1 q1) fun us s2 ⟨vs,H2,I2,r2,⟨hp2,q2⟩⟩=>?_) he hpl
 refine⟨F.at_ _ _ I2.hok hp2,?_⟩
 refine wpAny_call (codeAny_mono (F.run X.A X.stack s2 H2 us vs Q hr I2.env0 hp2 r2 q2) fun r s' hq=>?_)
 cases r with
 | error e=>exact False.elim hq
 | ok fl=>
  cases fl with
  | ret u=>exact I2.after hq
  | next=>exact False.elim hq
  | brk=>exact False.elim hq
  | cont=>exact False.elim hq
structure Cap where
 n:Str
 c:Addr
 o:Obj
 v:V
abbrev cellsOf(cp:List Cap):List (Addr×Obj):=cp.map fun e=>(e.c,e.o)
structure CapAt(X:Cx)(σ:St)(h:Heap)(js:List Nat)(cp:List Cap):Prop where
 len:cp.length=js.length
 at_:∀(i j:Nat) (e:Cap),js[i]?=some j->cp[i]?=some e->X.N[j]?=some e.n/\X.env.cells.lookup e.n=some e.c/\σ[j]?=some (some e.v)/\h.get? e.c=some e.o/\∃u,e.o.data=.cell (some u)/\RelV e.v u
theorem eV{cp:List Cap}{b:Addr}{o:Obj}(h:(cellsOf cp).lookup b=some o):∃e∈cp,e.c=b/\e.o=o:=by
 have hm:(b,o)∈cellsOf cp:=by
  have go:∀{l:List (Addr×Obj)},l.lookup b=some o->(b,o)∈l:=by
   intro l
   induction l with
   | nil=>intro h;cases h
   | cons x r ih=>
    intro h
    obtain⟨y,z⟩:=x
    rw[List.lookup_cons]at h
    cases hb:b == y with
    | true=>rw[hb]at h;cases h;rw[beq_iff_eq.mp hb];exact Bo
    | false=>rw[hb]at h;exact Bl _ (ih h)
  exact go h
 obtain⟨e,he,eq⟩:=List.mem_map.mp hm
 cases eq
 exact⟨e,he,rfl,rfl⟩
theorem zJ{cp:List Cap}{e:Cap}(h:e∈cp):∃o,(cellsOf cp).lookup e.c=some o:=by
 induction cp with
 | nil=>cases h
 | cons x r ih=>
  show ∃o,List.lookup e.c ((x.c,x.o)::cellsOf r)=some o
  rw[List.lookup_cons]
  cases hb:e.c == x.c with
  | true=>exact⟨_,rfl⟩
  | false=>
   rcases Bw.mp h with rfl | h
   ·simp at hb
   ·exact ih h
def ju(sc:Scope)(N:List Str)(js:List Nat):Bool:=js.all fun j=>decide (j<N.length) && (sc.names.lookup (N.getD j "") == some .cell)
section
variable {X:Cx} {pins:List (Addr×Obj)} {σ:St} {H:Hp} {s:Shared}
theorem Inv.capAt(I:Inv X pins σ H s):∀{js:List Nat},ju X.env.scope X.N js=true->(∀j∈js,∃v,σ[j]?=some (some v))->∃cp,CapAt X σ s.heap js cp
 | [],_,_=>⟨[],rfl,fun i j e h=>by simp at h⟩
 | j::js,hj,hv=>by
  have hj2:(decide (j<X.N.length) && (X.env.scope.names.lookup (X.N.getD j "") == some .cell))=true/\ju X.env.scope X.N js=true:=by
   simpa[ju]using hj
  obtain⟨cp,hcp⟩:=I.capAt (js:=js) hj2.2 fun i hi=>hv i (Bl _ hi)
  obtain⟨v,ev⟩:=hv j Bo
  have h1:=hj2.1
  simp only[BQ,decide_eq_true_eq,beq_iff_eq]at h1
  have eN:X.N[j]?=some (X.N.getD j ""):=by
   rw[List.getD_eq_getElem?_getD,Bj h1.1]
   rfl
  obtain⟨m,hn,hl⟩:=I.loc
  obtain⟨u,r,l⟩:=hl j _ v eN ev (.inr (.inl h1.2))
  rcases l with⟨z,_⟩ | ⟨_,c,hc,o,ho,hd⟩
  ·have z':X.env.scope.names.lookup (X.N.getD j "")=some .local:=z
   rw[h1.2]at z'
   cases z'
  ·refine⟨⟨X.N.getD j "",c,o,v⟩::cp,by simp[hcp.len],fun i k e h2 h3=>?_⟩
   cases i with
   | zero=>
    cases h2
    cases h3
    exact⟨eN,hc,ev,ho,u,hd,r⟩
   | succ i=>
    simp at h2 h3
    exact hcp.at_ i k e h2 h3
theorem CapAt.mem{js:List Nat}{cp:List Cap}{h:Heap}(C:CapAt X σ h js cp){e:Cap}(he:e∈cp):X.env.cells.lookup e.n=some e.c/\h.get? e.c=some e.o/\∃u,e.o.data=.cell (some u)/\RelV e.v u:=by
 obtain⟨i,hi⟩:=List.getElem?_of_mem he
 have hl:i<js.length:=by rw[←C.len];exact(Bq.mp hi).1
 obtain⟨_,h2,_,h4,h5⟩:=C.at_ i _ e (Bj hl) hi
 exact⟨h2,h4,h5⟩
theorem AR{k:Nat}{f:Addr}{fd:FuncData}{ps:List Str}{sp:Sp}{Q:VK}{us:List Value}{vs:List V}{js:List Nat}{cp:List Cap}(F:FnOk X.prog X.w X.K X.mg X.base cP k f fd ps sp)(hr:Room k X.A)(hb:Binds X.K fd ps [])
  (I:Inv X pins σ H s) (C:CapAt X σ s.heap js cp) (hfn:∀e∈cp,X.fn e.n=true) (r:Vals vs us)
  (h:sp vs (bw (cellsOf cp) H) (fun v H'=>(∀b o,(cellsOf cp).lookup b=some o->H' b=some (cn b o))/\Q v (aR (cellsOf cp) H')) E0):wpAny (model X.prog X.w) X.A (call (.ref f) us) (EP X pins σ Q) X.xe s:=by
 have hc:∀b o,(cellsOf cp).lookup b=some o->s.heap.get? b=some o:=fun b o e=>by
  obtain⟨x,hx,rfl,rfl⟩:=eV e
  exact(C.mem hx).2.1
 have hn:∀b o,(cellsOf cp).lookup b=some o->H b=none:=fun b o e=>by
  obtain⟨x,hx,rfl,rfl⟩:=eV e
  exact I.freeC _ _ (C.mem hx).1
 have hab:∀b o,(cellsOf cp).lookup b=some o->X.s₀.heap.objs.size<=b:=fun b o e=>by
  obtain⟨x,hx,rfl,rfl⟩:=eV e
  exact I.ok.cab _ _ (hfn x hx) (C.mem hx).1
 have e0:=I.env0
 have e1:Env0 X.prog X.w X.K X.mg X.base X.A X.stack s (bw (cellsOf cp) H):=by
  refine⟨e0.frames,e0.mod,fun b o e=>⟨(e0.bs b o e).1,?_⟩,e0.bsz,e0.funs,fun b hb'=>?_,pZ e0.hok hc hn,e0.bare⟩
  ·cases q:(cellsOf cp).lookup b with
   | none=>rw[cc q];exact(e0.bs b o e).2
   | some o'=>exact absurd (BK (Bh (I.ok.bs b o e).1) (hab b o' q)) (Nat.lt_irrefl _)
  ·cases q:(cellsOf cp).lookup b with
   | none=>rw[cc q];exact e0.frf b hb'
   | some o'=>
    exfalso
    rcases Bw.mp (I.stkSub b hb')with z | z
    ·obtain⟨m,⟨ob,es,ep,ho,hd,_⟩,_⟩:=I.loc
     obtain⟨x,hx,rfl,rfl⟩:=eV q
     obtain⟨_,g,u,hu,_⟩:=C.mem hx
     rw[←z,g]at ho
     cases ho
     rw[hu]at hd
     cases hd
    ·obtain⟨_,ob,ho,_⟩:=I.ok.funs.mem z
     exact absurd (BK (Bh ho) (hab b o' q)) (Nat.lt_irrefl _)
 have hl:us.length=ps.length:=by rw[←r.length];exact F.len _ _ _ _ h
 refine wpAny_call (codeAny_mono (F.run X.A X.stack s (bw (cellsOf cp) H) ⟨us,[]⟩ us vs _ E0 hr e1 (by have:=hb s us I.kIn (by simpa using hl);rw[List.append_nil]at this;exact this) r h) fun r s' hq=>?_)
 cases r with
 | error e=>exact False.elim hq
 | ok fl=>
  cases fl with
  | ret u=>
   obtain⟨v,H',os,bare,un,hok,rv,hc',q⟩:=hq
   exact I.after ⟨v,aR (cellsOf cp) H',os,bare,xi un hok hc hn hc',pf hok hc',rv,q⟩
  | next=>exact False.elim hq
  | brk=>exact False.elim hq
  | cont=>exact False.elim hq
def iU(sp:Sp)(js:List Nat)(cells:List (Str×Addr))(N:List Str)(ta:TA):TE:=fun σ H Q=>ta σ H fun vs H1=>(∀j∈js,∃v,σ[j]?=some (some v)) ∧
 ∀cp:List Cap,cp.length=js.length->(∀(i j:Nat) (e:Cap),js[i]?=some j->cp[i]?=some e->N[j]?=some e.n/\cells.lookup e.n=some e.c/\σ[j]?=some (some e.v)/\H1 e.c=none/\∃u,e.o.data=.cell (some u)/\RelV e.v u) →
  sp vs (bw (cellsOf cp) H1) (fun v H'=>(∀b o,(cellsOf cp).lookup b=some o->H' b=some (cn b o))/\Q v (aR (cellsOf cp) H')) E0
theorem nE{x:Str}{k j:Nat}{ps:List Str}{sp:Sp}{e:Expr}{es:List Expr}{t:TA}{p pos:Pos}(js:List Nat)(C:Cal X.prog X.w X.K X.mg X.base x j ps sp)(hr:Room k X.A)(ha:PA X (e::es) t)(hjk:j<=k:=by decide)(hg:Gl X x:=by rfl)(hdb:(x == ("__debug__":Str))=false:=by decide)
  (hj:ju X.env.scope X.N js=true:=by rfl) (hfn:∀y,X.fn y=true:=by intro _;rfl)
  (he:starEach (e::es) X.env=(false,eval e X.env)::starEach es X.env:=by rfl) (hpl:(backTo pos (starEach es X.env)).any (·.1)=false:=by rfl) :
  PE X (.Call (.Name x p) (e::es) [] pos) (iU sp js X.env.cells X.N t):=by
 obtain⟨f,fd,hm,hk,hb,F⟩:=C.ex
 intro pins s σ H Q I h
 refine wpAny_Call_Name_kw (ji I hg hm ?_ hdb)
 refine PySem.W.callWith_K (h₀:=X.base) I.ok.mod.kin hk (ah (ha pos pins s σ H _ I h) fun us s1 ⟨vs,H1,I1,r,hv,q⟩=>⟨I1.kIn,?_⟩) he hpl
 obtain⟨cp,hcp⟩:=I1.capAt hj hv
 refine AR F (hr.mono hjk) hb I1 hcp (fun e _=>hfn _) r (q cp hcp.len fun i j e h1 h2=>?_)
 obtain⟨a1,a2,a3,_,a5⟩:=hcp.at_ i j e h1 h2
 exact⟨a1,a2,a3,I1.freeC _ _ a2,a5⟩
end
end L2
namespace L2
open PySem PySem.Spec PyProof.Rows
def dI(f c:Addr)(q:Str)(params:Arguments)(body:Expr)(scope:Scope)(cl:List (Str×Addr)):HO:=.ext fun h=>∃pm ctv,h.get? f=some (PySem.W.kla_obj "<lambda>" q params body scope cl pm c ctv)
theorem qo{P:Program}{w:World}{H:Hp}{h:Heap}{f c:Addr}{q:Str}{params:Arguments}{body:Expr}{scope:Scope}{cl:List (Str×Addr)}{pm ctv:Value}(r:h.get? f=some (PySem.W.kla_obj "<lambda>" q params body scope cl pm c ctv)):bh P w H h f (dI f c q params body scope cl):=
 ⟨⟨pm,ctv,r⟩,⟨_,r⟩,fun h1 h2 ⟨a,b,g⟩ k=>⟨a,b,k _ g⟩⟩
def g7(sc:Scope):Bool:=sc.names.all fun p=>sc.names.lookup p.1 == some p.2
def kY(sc out:Scope):Bool:=sc.names.all fun p=>p.2 != .free || out.names.lookup p.1 == some .cell || out.names.lookup p.1 == some .free
theorem qW{sc:Scope}(h:g7 sc=true){p:Str×NameKind}(hp:p∈sc.names):sc.names.lookup p.1=some p.2:=by simpa using BN.mp h p hp
theorem oM{sc out:Scope}(h:kY sc out=true){p:Str×NameKind}(hp:p∈sc.names)(hf:p.2=.free):out.names.lookup p.1=some .cell\/out.names.lookup p.1=some .free:=by
 have:=BN.mp h p hp
 simp[hf]at this
 exact this
structure ClOk(sc:Scope)(cells cl:List (Str×Addr)):Prop where
 one:g7 sc=true
 fr:∀x c,cl.lookup x=some c->sc.names.lookup x=some .free/\cells.lookup x=some c
 has:∀x,sc.names.lookup x=some .free->∃c,cl.lookup x=some c
 inj:∀x y c,cl.lookup x=some c->cl.lookup y=some c->x=y
theorem yH{X:Cx}(ok:X.Ok){sc:Scope}(hsc:g7 sc=true)(ho:kY sc X.env.scope=true):ClOk sc X.env.cells (cy sc.names X.env.cells):=by
 have fr:∀x c,(cy sc.names X.env.cells).lookup x=some c->sc.names.lookup x=some .free/\X.env.cells.lookup x=some c:=fun x c h=>by
  rcases jw X.env.cells sc.names [] x c h with⟨h1,h2⟩ | h1
  ·obtain⟨d,hd⟩:=ok.has x (oM ho h1 rfl)
   refine⟨qW hsc h1,?_⟩
   rw[hd]at h2 ⊢
   rw[h2]
   rfl
  ·simp at h1
 exact⟨hsc,fr,fun x h=>qg (gK h),fun x y c h1 h2=>ok.inj x y c (fr x c h1).2 (fr y c h2).2⟩
section
variable {X:Cx} {pins:List (Addr×Obj)} {σ:St} {H:Hp} {s:Shared}
theorem xP{cl:List (Str×Addr)}{P c f:Addr}{ps more:Array Value}{q:Str}{params:Arguments}{body:Expr}{scope:Scope}{pm ctv:Value}{h':Heap}{tk:Nat}(I:Inv X pins σ H s)(hP:H P=some (.tbl ps))(b:Heap.ExtBut P s.heap h')(hc:s.heap.objs.size<=c)(hcf:c<f)(gP:h'.get? P=some { cls:=.none,data:=.fields (ps++more) })
  (gc:h'.CodeRec (.ref c) q) (gf:h'.get? f=some (PySem.W.kla_obj "<lambda>" q params body scope cl pm c ctv)) :
  Inv X pins σ (upd (upd (upd H P (.tbl (ps++more))) c (eJ c q)) f (dI f c q params body scope cl)) { s with heap:=h',toks:=tk }:=by
 have hf:@LE.le Nat _ s.heap.objs.size f:=BL hc (Nat.le_of_lt hcf)
 have nc:H c=none:=I.hok.fresh hc
 have nf:H f=none:=I.hok.fresh hf
 have cf:f≠c:=Nat.ne_of_gt hcf
 have Pc:c≠P:=fun z=>by rw[z,hP]at nc;cases nc
 have Pf:f≠P:=fun z=>by rw[z,hP]at nf;cases nf
 have old:∀b o,H b=some o->b≠P->upd (upd (upd H P (.tbl (ps++more))) c (eJ c q)) f (dI f c q params body scope cl) b=some o:=fun b o e n=>by
  rw[ay (cx e nf),ay (cx e nc),ay n];exact e
 have nP:∀b,H b=none->b≠P:=fun b e z=>by rw[z,hP]at e;cases e
 refine I.un ⟨fun b' o e n _ _=>b b' o (nP b' n) e,fun b' o e n _ _=>⟨o.slots,b b' o (nP b' n) e⟩,fun b' o e n _=>?_,fun b' o e _=>?_,fun b' xs e=>old b' _ e (fun z=>by rw[z,hP]at e;cases e),fun b' o u e=>old b' _ e (fun z=>by rw[z,hP]at e;cases e),fun b' qs e=>?_⟩ fun b' u e=>?_
 ·have lt:@LT.lt Nat _ b' s.heap.objs.size:=Bh e
  rw[ay (BA (BK lt hf)),ay (BA (BK lt hc)),ay (nP b' n)];exact n
 ·by_cases z:b'=P
  ·rw[z];exact⟨_,gP⟩
  ·exact⟨o,b b' o z e⟩
 ·by_cases z:b'=P
  ·subst z
   rw[hP]at e
   cases e
   exact⟨more,by rw[ay (Ne.symm Pf),ay (Ne.symm Pc),aG]⟩
  ·exact⟨#[],by rw[old b' _ e z];simp⟩
 ·by_cases z:b'=f
  ·subst z
   rw[aG]at e
   cases e
   exact qo gf
  ·rw[ay z]at e
   by_cases z2:b'=c
   ·subst z2
    rw[aG]at e
    cases e
    exact zj gc
   ·rw[ay z2]at e
    by_cases z3:b'=P
    ·subst z3
     rw[aG]at e
     cases e
     exact gP
    ·rw[ay z3]at e
     refine(I.hok b' u e).stay (fun d v hd g=>b d v ?_ g) (fun d hd=>old d _ hd (fun y=>by rw[y,hP]at hd;cases hd)) fun d xs hd=>old d _ hd (fun y=>by rw[y,hP]at hd;cases hd)
     rcases hd with rfl | hd
     ·exact z3
     ·exact fun y=>by rw[y,hP]at hd;cases hd
end
def lS(P:Addr)(pos:Pos)(q:Str)(params:Arguments)(body:Expr)(scope:Scope)(cells:List (Str×Addr))(H:Hp)(Q:VK):Prop:=∀cl,ClOk scope cells cl →
 (H P=some (.tbl #[])/\∀f c,H c=none->H f=none->c≠P->f≠P->f≠c->Q (.ref f) (upd (upd (upd H P (.tbl #[rawInt pos.line,rawInt pos.col,.ref c])) c (eJ c q)) f (dI f c q params body scope cl))) ∨
 ∃c,H P=some (.tbl #[rawInt pos.line,rawInt pos.col,.ref c])/\H c=some (eJ c q)/\∀f,H f=none->Q (.ref f) (upd H f (dI f c q params body scope cl))
def p8(P:Addr)(pos:Pos)(q:Str)(params:Arguments)(body:Expr)(scope:Scope)(cells:List (Str×Addr)):TE:=fun _ H Q=>lS P pos q params body scope cells H Q
theorem lZ{X:Cx}{params:Arguments}{body:Expr}{scope:Scope}{pos:Pos}{c P:Addr}(hcode:X.env.code=.ref c)(hgl:X.env.globals=mainGlobals)(C:PySem.W.CodeHd X.base c P)(hB:X.base.BuiltinsAt X.mg P)(hgP:mainGlobals≠P)(hsc:g7 scope=true)(hout:kY scope X.env.scope=true)
  (hd0:params.defaults=[]) (hk0:params.kw_defaults=[]):PE X (.Lambda params body scope pos) (p8 P pos (X.env.qual ++ "<lambda>") params body scope X.env.cells):=by
 intro pins s σ H Q I h
 rw[arm_eval_Lambda,PySem.defaultsOf_eq,hk0,hd0]
 refine Bc (Bd (Bc (wpAny_holding (Bd ?_))))
 have hcl:closureFor scope X.env=pure (cy scope.names X.env.cells):=nU fun p hp hf=>I.ok.has p.1 (oM hout hp hf)
 have h:=h _ (yH I.ok hsc hout)
 have C':PySem.W.CodeHd s.heap c P:=C.keeps fun b o e=>(I.bs b o e).1
 have hg:s.heap.Ns mainGlobals X.mg:=by
  obtain⟨o,es,ep,e,r⟩:=I.ok.mod.glob
  exact⟨o,es,ep,(I.bs _ _ e).1,r⟩
 have hb:s.heap.BuiltinsAt X.mg P:=by
  obtain⟨bm,o,a1,a2,a3,a4,a5,a6⟩:=hB
  exact⟨bm,o,a1,a2,a3,a4,(I.bs _ _ a5).1,a6⟩
 rcases h with⟨hP,q⟩ | ⟨c',hP,hc',q⟩
 ·have gP:s.heap.get? P=some (PySem.W.tabObj #[]):=I.hok P _ hP
  refine PySem.W.kla_makeFunction hcl hgl hg hcode C' gP trivial rfl hgP hb fun c' ctv h' tk hx hge hlt hrec htb=>?_
  have nc:H c'=none:=I.hok.fresh hge
  have hf:@LE.le Nat _ s.heap.objs.size h'.objs.size:=BL hge (Nat.le_of_lt hlt)
  have nf:H h'.objs.size=none:=I.hok.fresh hf
  have lP:@LT.lt Nat _ P s.heap.objs.size:=Bh gP
  have J:=xP (cl:=cy scope.names X.env.cells) (tk:=tk) (f:=h'.objs.size) (h':=h'.push (PySem.W.kla_obj "<lambda>" (X.env.qual ++ "<lambda>") params body scope (cy scope.names X.env.cells) ((X.mg "__name__").getD .none) c' ctv)) (more:=#[rawInt pos.line,rawInt pos.col,.ref c']) I hP (fun b o n e=>Bf _ (hx b o n e)) hge hlt (Bf _ htb) (hrec.push _) (Bg _ rfl)
  rw[Array.empty_append]at J
  exact⟨.ref h'.objs.size,_,J,rfl,q _ c' nc nf (Nat.ne_of_gt (BK lP hge)) (Nat.ne_of_gt (BK lP hf)) (Nat.ne_of_gt hlt)⟩
 ·have gP:s.heap.get? P=some (PySem.W.tabObj #[rawInt pos.line,rawInt pos.col,.ref c']):=I.hok P _ hP
  refine PySem.W.kla_makeFunctionHit (cv:=.ref c') hcl hgl hg hcode C' gP trivial (by simp[codeAmong,rawInt]) hb fun ctv h' tk hx hge=>?_
  exact⟨.ref h'.objs.size,_,I.laid (t':=tk) (o:=dI h'.objs.size c' (X.env.qual ++ "<lambda>") params body scope (cy scope.names X.env.cells)) (fun b o e=>Bf _ (hx b o e)) hge (qo (Bg _ rfl)),rfl,q _ (I.hok.fresh hge)⟩
theorem lG{cells:List (Str×Addr)}{K:Be}{x q:Str}{params:Arguments}{body:Expr}{scope:Scope}{H:Hp}{Q:VK}{c T:Addr}{pos:Pos}(ht:b9 K x q pos.line pos.col H)(e:PySem.W.tabIn K x=some (c,T))
  (h:∀f c' cl H',ClOk scope cells cl->Et H H'->b9 K x q pos.line pos.col H'->(∀y q2 l2 k2,(∀c2 T2,PySem.W.tabIn K y=some (c2,T2)->T2≠T)->b9 K y q2 l2 k2 H->b9 K y q2 l2 k2 H')->H' f=some (dI f c' q params body scope cl)->H' c'=some (eJ c' q)->Q (.ref f) H'):lS T pos q params body scope cells H Q:=by
 intro cl hcl
 rcases ht c T e with hT | ⟨c',hT,hc'⟩
 ·refine .inl ⟨hT,fun f c' nc nf cT fT fc=>?_⟩
  have old:∀b o,H b=some o->b≠T->upd (upd (upd H T (.tbl #[rawInt pos.line,rawInt pos.col,.ref c'])) c' (eJ c' q)) f (dI f c' q params body scope cl) b=some o:=fun b o hb n=>by
   rw[ay (cx hb nf),ay (cx hb nc),ay n]
   exact hb
  refine h f c' cl _ hcl (fun b o hb n=>old b o hb fun z=>by rw[z,hT]at hb;cases hb;exact n _ rfl) (fun c2 T2 e2=>.inr ⟨c',?_,?_⟩) (fun y q2 l2 k2 hn hy c2 T2 e2=>?_) aG ?_
  ·rw[e]at e2
   cases e2
   rw[ay (Ne.symm fT),ay (Ne.symm cT),aG]
  ·rw[ay (Ne.symm fc),aG]
  ·rcases hy c2 T2 e2 with g | ⟨c3,g1,g2⟩
   ·exact .inl (old _ _ g (hn c2 T2 e2))
   ·exact .inr ⟨c3,old _ _ g1 (hn c2 T2 e2),old _ _ g2 fun z=>by rw[z,hT]at g2;cases g2⟩
  ·rw[ay (Ne.symm fc),aG]
 ·refine .inr ⟨c',hT,hc',fun f nf=>?_⟩
  have ex:Ext H (upd H f (dI f c' q params body scope cl)):=bI nf
  exact h f c' cl _ hcl ex.et (b9.ext ex ht) (fun y q2 l2 k2 _ hy=>hy.ext ex) aG (ex _ _ hc')
theorem lV{P:Addr}{pos:Pos}{q:Str}{params:Arguments}{body:Expr}{scope:Scope}{cells:List (Str×Addr)}{σ:St}{H:Hp}{Q:VK}(h:lS P pos q params body scope cells H Q):p8 P pos q params body scope cells σ H Q:=h
end L2
namespace L2
open PySem PySem.Spec PyProof.Rows
theorem gY{x:Str}{c:Addr}:∀(names:List (Str×NameKind)) (n:Nat) (a acc:List (Str×Addr)),(cellsFrom n names (a++acc)).lookup x=some c->acc.lookup x=some c\/(cellsFrom n names a).lookup x=some c
 | [],_,a,acc,h=>by
  unfold cellsFrom at h ⊢
  rw[List.lookup_append]at h
  cases q:a.lookup x with
  | none=>rw[q]at h;exact .inl h
  | some d=>rw[q]at h;exact .inr h
 | (y,k)::r,n,a,acc,h=>by
  unfold cellsFrom at h ⊢
  by_cases hk:(k == NameKind.cell)=true
  ·rw[if_pos hk]at h ⊢
   exact gY r (n+1) ((y,n)::a) acc h
  ·rw[if_neg hk]at h ⊢
   exact gY r n a acc h
structure InL(s₀:Shared)(L:Addr)(m:Str->Option Value)(own:List (Str×Addr))(cm:Str->Option Value)(s:Shared):Prop where
 same:∃h' tk,s={ s₀ with heap:=h',toks:=tk }
 ns:s.heap.Ns L m
 keep:∀b o,s₀.heap.get? b=some o->s.heap.get? b=some o
 fresh:s₀.heap.objs.size<=L
 cell:∀n c,own.lookup n=some c->s.heap.IsCell c (cm n)
 apart:own.Pairwise fun x y=>x.2≠y.2
 above:∀n c,(n,c)∈own->L<c
section
variable {M:Model} {A:Around} {E:Value->Shared->Prop} {s₀ s:Shared} {m cm:Str->Option Value} {env:Env} {own:List (Str×Addr)}
theorem InL.st{n:Str}{v:Value}{Q:Unit->Shared->Prop}(x:InL s₀ env.locals m own cm s)(hk:env.scope.kind=.function)(hl:env.kindOf n=some .local)
  (h:∀s',InL s₀ env.locals (fun y=>if y=n then some v else m y) own cm s'->Q () s'):wpAny M A (storeName env n v) Q E s:=by
 refine wpAny_storeName_local hl x.ns (fun h' hn' hs'=>h _ ⟨?_,hn',fun b o e=>?_,x.fresh,fun k c hc=>?_,x.apart,x.above⟩) (by rw[hk];rfl)
 ·obtain⟨h₁,tk,rfl⟩:=x.same
  exact⟨h',_,rfl⟩
 ·exact hs'.extBut b o (BA (BK (Bh e) x.fresh)) (x.keep b o e)
 ·exact(x.cell k c hc).sameBut hs' (Nat.ne_of_gt (x.above k c (PySem.mem_of_lookup hc)))
theorem InL.stC{n:Str}{c:Addr}{v:Value}{Q:Unit->Shared->Prop}(x:InL s₀ env.locals m own cm s)(hk:env.scope.kind=.function)(hl:env.kindOf n=some .cell)
  (hc:env.cells.lookup n=some c) (ho:own.lookup n=some c)
  (h:∀s',InL s₀ env.locals m own (fun y=>if y=n then some v else cm y) s'->Q () s'):wpAny M A (storeName env n v) Q E s:=by
 have hLc:=x.above n c (PySem.mem_of_lookup ho)
 refine wpAny_storeName_cell hk hl hc (x.cell n c ho) fun h' hc' hs'=>h _ ⟨?_,x.ns.sameBut hs' (BA hLc),fun b o e=>?_,x.fresh,fun k c' hk'=>?_,x.apart,x.above⟩
 ·obtain⟨h₁,tk,rfl⟩:=x.same
  exact⟨h',_,rfl⟩
 ·exact hs'.extBut b o (BA (Nat.lt_trans (BK (Bh e) x.fresh) hLc)) (x.keep b o e)
 ·by_cases hkn:k=n
  ·subst hkn
   rw[ho]at hk';cases hk'
   simpa using hc'
  ·rw[if_neg hkn]
   exact(x.cell k c' hk').sameBut hs' fun e=>hkn (name_of_addr x.apart (PySem.mem_of_lookup hk') (e ▸ PySem.mem_of_lookup ho))
theorem InL.binds(f:Str×Value->PUnit->Sem (ForInStep PUnit))(hf:∀n v u,f (n,v) u=(do storeName env n v;pure (.yield ⟨⟩)))(hk:env.scope.kind=.function):
  ∀(binds:List (Str×Value)) (m cm:Str->Option Value) (s:Shared) (Q:PUnit->Shared->Prop),InL s₀ env.locals m own cm s →
   (∀x∈binds,env.kindOf x.1=some .local\/(env.kindOf x.1=some .cell/\∃c,env.cells.lookup x.1=some c/\own.lookup x.1=some c)) →
   (∀s',InL s₀ env.locals (bindL env.kindOf binds m) own (bindC env.kindOf binds cm) s'->Q ⟨⟩ s')->wpAny M A (forIn binds ⟨⟩ f) Q E s
 | [],m,cm,s,Q,x,_,h=>by rw[List.forIn_nil];exact Bd (h s x)
 | (n,v)::r,m,cm,s,Q,x,hkind,h=>by
  rw[List.forIn_cons,hf]
  have hr:∀y∈r,env.kindOf y.1=some .local\/(env.kindOf y.1=some .cell/\∃c,env.cells.lookup y.1=some c/\own.lookup y.1=some c):=fun y hy=>hkind y (Bl _ hy)
  rcases hkind (n,v) Bo with hl | ⟨hl,c,hc,ho⟩
  ·refine Bc (Bc (InL.st x hk hl fun s' x'=>Bd (InL.binds f hf hk r _ _ s' Q x' hr fun s'' x''=>h s'' ?_)))
   unfold bindL bindC;rw[if_pos hl,if_pos hl];exact x''
  ·have hnl:¬env.kindOf n=some .local:=by rw[hl];decide
   refine Bc (Bc (InL.stC x hk hl hc ho fun s' x'=>Bd (InL.binds f hf hk r _ _ s' Q x' hr fun s'' x''=>h s'' ?_)))
   unfold bindL bindC;rw[if_neg hnl,if_neg hnl];exact x''
end
def dv(q:Str)(scope:Scope)(L f:Addr)(cd:Value)(cl:List (Str×Addr)):Env:=
 { scope:=scope,locals:=L,globals:=mainGlobals,cells:=cellsFrom (L+1) scope.names cl,qual:=q ++ ".<locals>.",func:=some f,code:=cd,frame:=some L,builtins:=builtinsNs }
section
variable {M:Model} {A:Around} {E:Value->Shared->Prop} {s:Shared}
theorem Aq {scope : Scope} {cl : List (Str × Addr)} {binds : List (Str × Value)} {q : Str} {f : Addr} {cd : Value} {Q : Env → Shared → Prop} (hk : scope.kind = .function) (hsc : g7 scope = true) (hcl : ∀ x c, cl.lookup x = some c → scope.names.lookup x = some .free)
    (hkind : ∀ x ∈ binds, scope.names.lookup x.1 = some .local ∨ scope.names.lookup x.1 = some .cell)
    (hQ : ∀ s', InL s s.heap.objs.size (bindL (dv q scope s.heap.objs.size f cd cl).kindOf binds fun _ => none) (cellsFrom (s.heap.objs.size + 1) scope.names []) (bindC (dv q scope s.heap.objs.size f cd cl).kindOf binds fun _ => none) s' → Q (dv q scope s.heap.objs.size f cd cl) s') :
    wpAny M A (newFunctionEnv scope mainGlobals cl binds (q ++ ".<locals>.") (some f) cd none builtinsNs) Q E s := by
  simp only [newFunctionEnv, Option.isSome_none, Bool.false_eq_true, if_false]
  refine Bc (wpAny_alloc ?_)
  refine Bc (wpAny_layCells _ (fun name kind cells => by cases hkc : kind == NameKind.cell <;> simp [hkc]) _ _ _ _ ?_)
  have ok := cellsFrom_ok scope.names (s.heap.push { cls := .type "frame", data := .dict #[] }) (s.heap.objs.size + 1) [] ⟨fun _ _ hm => (nomatch hm), List.Pairwise.nil⟩ (by rw [Heap.size_push]; exact BB _)
  rw [Heap.size_push] at ok
  rw [show ({ s with heap := s.heap.push { cls := .type "frame", data := .dict #[] } } : Shared).heap.objs.size = s.heap.objs.size + 1 from Heap.size_push ..]
  refine Bc (InL.binds (s₀ := s) (env := dv q scope s.heap.objs.size f cd cl) (own := cellsFrom (s.heap.objs.size + 1) scope.names [])
    _ (fun _ _ _ => rfl) hk binds (fun _ => none) (fun _ => none) _ _
    ⟨⟨_, _, rfl⟩, (Heap.Ns.new s.heap (.type "frame")).keeps (pushCells_keeps _ _), fun b o e => pushCells_keeps _ _ b o (Bf _ e), BB _,
      fun n c hc => (ok.empty n c (PySem.mem_of_lookup hc)).1, ok.apart, fun n c hm => (ok.empty n c hm).2⟩
    (fun x hx => ?_) fun s' x => Bd (hQ s' x))
  rcases hkind x hx with h | h
  · exact .inl h
  · obtain ⟨c, hc⟩ := Option.isSome_iff_exists.mp (PySem.W.cellsFrom_some scope.names (s.heap.objs.size + 1) cl (.inl h))
    rcases gY scope.names (s.heap.objs.size + 1) [] cl hc with h2 | h2
    · rw [hcl _ _ h2] at h; cases h
    · exact .inr ⟨h, c, hc, h2⟩
end
def iu(P:Program)(w:World)(K:Be)(mg:Str->Option Value)(base:Heap)(N:List Str)(q:Str)(scope:Scope)(f:Addr)(cd:Value)(cl:List (Str×Addr))(A:Around)(outer:List Env)(s:Shared)(H:Hp):Cx where
 prog:=P
 w:=w
 K:=K
 mg:=mg
 base:=base
 A:=A.deeper (dv q scope s.heap.objs.size f cd cl)
 N:=N
 s₀:=s
 H₀:=H
 env:=dv q scope s.heap.objs.size f cd cl
 outer:=outer
 stack:=dv q scope s.heap.objs.size f cd cl::outer
 ex:=[]
 calm:=true
 fn:=fun x=>scope.names.lookup x == some .cell
 pn:=[]
 xe:=fun _ _=>False
structure Caps(H:Hp)(cl:List (Str×Addr))(cp:List Cap):Prop where
 at_:∀e∈cp,cl.lookup e.n=some e.c/\H e.c=some (cn e.c e.o)/\∃u,e.o.data=.cell (some u)/\RelV e.v u
 all:∀x c,cl.lookup x=some c->∃e∈cp,e.n=x/\e.c=c
theorem Caps.ext{H H':Hp}(e:Ext H H'){cl:List (Str×Addr)}{cp:List Cap}(h:Caps H cl cp):Caps H' cl cp:=⟨fun x hx=>⟨(h.at_ x hx).1,e _ _ (h.at_ x hx).2.1,(h.at_ x hx).2.2⟩,h.all⟩
theorem Caps.look{H:Hp}{cl:List (Str×Addr)}{cp:List Cap}(h:Caps H cl cp):∀b o,(cellsOf cp).lookup b=some o->H b=some (cn b o):=fun b o e=>by
 obtain⟨x,hx,rfl,rfl⟩:=eV e
 exact(h.at_ x hx).2.1
structure LamSc(ps:List Str)(sc:Scope):Prop where
 kind:sc.kind=.function
 co:sc.isCoroutine=false
 gen:sc.isGenerator=false
 nd:ps.Nodup
 par:∀x∈ps,sc.names.lookup x=some .local\/sc.names.lookup x=some .cell
theorem uS{P:Program}{w:World}{K:Be}{mg:Str->Option Value}{base:Heap}{ps:List Str}{q:Str}{scope:Scope}{f:Addr}{cd:Value}{cl cells:List (Str×Addr)}{cp:List Cap}{A:Around}{outer:List Env}{s s1:Shared}{H:Hp}{us:List Value}{vs:List V}
  (S:LamSc ps scope) (C:ClOk scope cells cl) (hcp:Caps H cl cp) (hd:A.handled=none) (e0:Env0 P w K mg base A outer s H) (hl:vs.length=ps.length) (r:Vals vs us)
  (x:InL s s.heap.objs.size (bindL (dv q scope s.heap.objs.size f cd cl).kindOf (ps.zip us) fun _=>none) (cellsFrom (s.heap.objs.size+1) scope.names []) (bindC (dv q scope s.heap.objs.size f cd cl).kindOf (ps.zip us) fun _=>none) s1) :
  Inv (iu P w K mg base (ps++cp.map (·.n)) q scope f cd cl A outer s (aR (cellsOf cp) H)) [] (vs.map some++cp.map fun e=>some e.v) (aR (cellsOf cp) H) s1:=by
 obtain⟨h1,tk,rfl⟩:=x.same
 have hk:=x.keep
 have noA:∀b:Addr,b∉(iu P w K mg base (ps++cp.map (·.n)) q scope f cd cl A outer s (aR (cellsOf cp) H)).ex:=fun b z=>absurd (show b∈([]:List Addr)from z) (by simp)
 have nn:∀b,H b=none->aR (cellsOf cp) H b=none:=fun b hb=>by
  cases z:(cellsOf cp).lookup b with
  | none=>rw[bT z];exact hb
  | some o=>exact fA z
 have obj:∀e∈cp,s.heap.get? e.c=some e.o:=fun e he=>(e0.hok _ _ (hcp.at_ e he).2.1).1
 have clt:∀y c,cl.lookup y=some c->@LT.lt Nat _ c s.heap.objs.size:=fun y c h=>by
  obtain⟨e,he,_,rfl⟩:=hcp.all y c h
  exact Bh (obj e he)
 have cinC:∀y c,cl.lookup y=some c->aR (cellsOf cp) H c=none:=fun y c h=>by
  obtain⟨e,he,_,rfl⟩:=hcp.all y c h
  obtain⟨o,ho⟩:=zJ he
  exact fA ho
 have hfr:∀y,scope.names.lookup y=some .free->∃c,cl.lookup y=some c/\(cellsFrom (s.heap.objs.size+1) scope.names cl).lookup y=some c:=fun y hy=>by
  obtain⟨c,hc⟩:=C.has y hy
  obtain⟨c',hc'⟩:=Option.isSome_iff_exists.mp (PySem.W.cellsFrom_some scope.names (s.heap.objs.size+1) cl (x:=y) (.inr (by rw[hc];rfl)))
  rcases fD _ _ _ hc' with h | ⟨_,h⟩
  ·rw[hc]at h;cases h;exact⟨c,hc,hc'⟩
  ·have:=qW C.one h
   rw[hy]at this
   cases this
 refine⟨⟨e0.mod,S.kind,rfl,rfl,BB _,fun y z c h1 h2=>?_,fun y hy=>?_,fun y c h hc=>?_,fun _=>hd,Around.frames_deeper e0.frames,.inr ⟨rfl,rfl⟩,fun b z=>absurd z (noA b),fun b o e=>⟨(e0.bs b o e).1,nn b (e0.bs b o e).2⟩,e0.bsz,fun b _ _=>noA b,fun b z=>absurd z (noA b),e0.funs,fun b hb=>nn b (e0.frf b hb)⟩,
  rfl,e0.bare,Un.kept hk,⟨_,x.ns,fun i y v h1 h2 h3=>?_⟩,fun y c h=>?_,nn _ (e0.hok.fresh (BB _)),fun y c h=>?_,fun p hp=>absurd (show p∈([]:List (Addr×Obj))from hp) (by simp),(pf e0.hok hcp.look).kept hk,?_⟩
 ·exact jr scope.names _ _ (fun x c e=>Nat.lt_succ_of_lt (clt x c e)) C.inj h1 h2
 ·have hy:scope.names.lookup y=some .cell\/scope.names.lookup y=some .free:=hy
  rcases hy with hy | hy
  ·exact Option.isSome_iff_exists.mp (PySem.W.cellsFrom_some scope.names _ _ (.inl hy))
  ·obtain⟨c,_,h⟩:=hfr y hy
   exact⟨c,h⟩
 ·have hy:scope.names.lookup y=some .cell:=by simpa[iu]using h
  have hc':(cellsFrom (s.heap.objs.size+1) scope.names cl).lookup y=some c:=hc
  rcases fD _ _ _ hc' with h2 | ⟨h2,_⟩
  ·rw[(C.fr y c h2).1]at hy;cases hy
  ·exact Nat.le_of_succ_le h2
 ·by_cases hi:i<vs.length
  ·have ha:vs[i]?=some v:=by
    rw[BG (by simpa using hi),Bk]at h2
    cases e:vs[i]? with
    | none=>rw[e]at h2;cases h2
    | some a=>rw[e]at h2;cases h2;rfl
   obtain⟨u,hu,rv⟩:=r.get ha
   have hp:ps[i]?=some y:=by
    have h1':(ps++cp.map (·.n))[i]?=some y:=h1
    rw[BG (by omega)]at h1'
    exact h1'
   refine⟨u,rv,?_⟩
   rcases S.par y (Br hp)with k | k
   ·exact .inl ⟨k,nk S.nd hp hu k⟩
   ·obtain⟨c,e⟩:=Option.isSome_iff_exists.mp (PySem.W.cellsFrom_some scope.names (s.heap.objs.size+1) cl (.inl k))
    refine .inr ⟨.inl k,c,e,?_⟩
    rcases gY scope.names (s.heap.objs.size+1) [] cl e with h4 | h4
    ·rw[(C.fr y c h4).1]at k;cases k
    ·have qq:=x.cell y c h4
     rw[kG S.nd hp hu (by show scope.names.lookup y≠_;rw[k];decide)]at qq
     exact qq
  ·have h1':(ps++cp.map (·.n))[i]?=some y:=h1
   rw[BF (by omega),Bk]at h1'
   rw[BF (by simpa using Nat.le_of_not_lt hi),Bi,Bk]at h2
   rw[hl]at h2
   cases he:cp[i-ps.length]? with
   | none=>rw[he]at h2;cases h2
   | some e=>
    rw[he]at h1' h2
    cases h1'
    cases h2
    have hm:=Br he
    obtain⟨a1,a2,u,hu,rv⟩:=hcp.at_ e hm
    have hf:=(C.fr _ _ a1).1
    obtain⟨c,b1,b2⟩:=hfr e.n hf
    rw[a1]at b1
    cases b1
    exact⟨u,rv,.inr ⟨.inr hf,e.c,b2,e.o,hk _ _ (obj e hm),hu⟩⟩
 ·have h':(cellsFrom (s.heap.objs.size+1) scope.names cl).lookup y=some c:=h
  rcases gY scope.names (s.heap.objs.size+1) [] cl h' with h2 | h2
  ·obtain⟨e,he,_,rfl⟩:=hcp.all y c h2
   obtain⟨_,_,u,hu,_⟩:=hcp.at_ e he
   exact⟨some u,e.o,hk _ _ (obj e he),hu⟩
  ·exact⟨_,x.cell y c h2⟩
 ·have h':(cellsFrom (s.heap.objs.size+1) scope.names cl).lookup y=some c:=h
  rcases fD _ _ _ h' with h2 | ⟨h2,_⟩
  ·exact cinC y c h2
  ·exact nn c (e0.hok.fresh (Nat.le_of_succ_le h2))
 ·show(vs.map some++cp.map fun e=>some e.v).length=(ps++cp.map (·.n)).length
  simp[hl]
def fJ(f c:Addr)(q:Str)(params:Arguments)(body:Expr)(scope:Scope)(cl:List (Str×Addr))(cp:List Cap)(H:Hp):Prop:=H f=some (dI f c q params body scope cl)/\H c=some (eJ c q)/\Caps H cl cp
theorem fJ.ext{H H':Hp}(e:Ext H H'){f c:Addr}{q:Str}{params:Arguments}{body:Expr}{scope:Scope}{cl:List (Str×Addr)}{cp:List Cap}(h:fJ f c q params body scope cl cp H):fJ f c q params body scope cl cp H':=⟨e _ _ h.1,e _ _ h.2.1,h.2.2.ext e⟩
theorem xc{P:Program}{w:World}{K:Be}{mg:Str->Option Value}{base:Heap}{k:Nat}{f c:Addr}{q:Str}{params:Arguments}{body:Expr}{scope:Scope}{cl cells:List (Str×Addr)}{cp:List Cap}{ps:List Str}{R:List V->Hp->VK->Prop}(I:Hp->Prop)
  (S:LamSc ps scope) (C:ClOk scope cells cl) (bind:∀(pm cv ctv:Value) (us:List Value),us.length=ps.length->bindArgs (PySem.W.kla_fn "<lambda>" q params body scope cl pm cv ctv) ⟨us,[]⟩=pure (ps.zip us))
  (hR:∀vs H Q,R vs H Q->vs.length=ps.length)
  (hbody:∀(A:Around) (outer:List Env) (s:Shared) (H:Hp) (vs:List V) (Q:VK),Room k (A.deeper (dv q scope s.heap.objs.size f (.ref c) cl))->fJ f c q params body scope cl cp H->I H->R vs H Q →
   ∃te,PE (iu P w K mg base (ps++cp.map (·.n)) q scope f (.ref c) cl A outer s (aR (cellsOf cp) H)) body te/\te (vs.map some++cp.map fun e=>some e.v) (aR (cellsOf cp) H) fun v H'=>(∀b o,(cellsOf cp).lookup b=some o->H' b=none)->Q v (bw (cellsOf cp) H')) :
  FunR P w K mg base (k+1) f (fun H=>fJ f c q params body scope cl cp H/\I H) R:=by
 refine⟨fun H h hok hp=>?_,fun A outer s H us vs Q hr e0 hp r hq=>?_⟩
 ·obtain⟨⟨pm,ctv,gf⟩,_⟩:=hok f _ hp.1.1
  exact⟨_,_,_,_,gf⟩
 ·obtain⟨⟨hf,hc,hcp⟩,hI⟩:=id hp
  obtain⟨⟨pm,ctv,gf⟩,_⟩:=e0.hok f _ hf
  obtain⟨gc,_⟩:=e0.hok c _ hc
  have lim:s.heap.NoLimit:=e0.mod.nolimit.keeps fun b o e=>(e0.bs b o e).1
  have hl:=hR vs H Q hq
  refine PySem.W.kla_callFunE hr.depth gf rfl S.co S.gen rfl gc ?_
  rw[bind _ _ _ us (by rw[←r.length];exact hl)]
  refine Bd ?_
  refine Aq (q:=q) (f:=f) (cd:=.ref c) S.kind C.one (fun x c h=>(C.fr x c h).1) (fun z hz=>?_) fun s1 z=>?_
  ·exact S.par z.1 (List.of_mem_zip hz).1
  refine⟨lim.keeps z.keep,PySem.W.kla_codeExpr ?_⟩
  have J:=uS S C hcp hr.hd e0 hl r z
  obtain⟨te,ht,hq'⟩:=hbody A outer s H vs Q (hr.deeper _) hp.1 hI hq
  refine wpAny_mono (ht [] s1 _ _ _ J hq') (fun u s' ⟨v,H',J',rv,q'⟩=>?_) fun e s' hs=>hs.elim
  have obj:∀b o,(cellsOf cp).lookup b=some o->s.heap.get? b=some o:=fun b o e=>(e0.hok _ _ (hcp.look b o e)).1
  have nfs:∀b o,(cellsOf cp).lookup b=some o->b∉cz outer:=fun b o e hb=>by
   have:=e0.frf b hb
   rw[hcp.look b o e]at this
   cases this
  have un:Un (cz outer) [] (aR (cellsOf cp) H) H' s.heap s'.heap:=J'.base
  exact⟨v,bw (cellsOf cp) H',J'.os,J'.bare,wJ un hcp.look,pZ J'.hok (fun b o e=>un.keep b o (obj b o e) (fA e) (nfs b o e) (by simp)) (fun b o e=>un.free b o (obj b o e) (fA e) (by simp)),rv,q' fun b o e=>un.free b o (obj b o e) (fA e) (by simp)⟩
end L2
namespace L2
open PySem PySem.Spec PyProof.Rows
section
variable {X:Cx}
end
end L2
namespace L2
open PySem PySem.Spec PyProof.Rows
open AutoSeq1 (wpAny_loadPart')in
section
variable {K:Be} {σ:St} {H:Hp} {Q:VK}
end
end L2
namespace L2
open PySem PySem.Spec PyProof.Rows
section
variable {X:Cx}
def rf:V->List V->Hp->VK->Prop:=fun x vs H Q=>∃l xs y,x=.ref l/\vs=[.int 0,y]/\H l=some (.lst xs)/\xs.length<sizeLine/\Q .non (upd H l (.lst (y::xs)))
theorem zY:jS X "list.insert" rf:=by
 intro pins s σ H x vs v us Q I rx rv h
 obtain⟨l,xs,y,rfl,rfl,hH,hz,q⟩:=h
 cases rx
 obtain⟨u0,u,rfl,r0,ru⟩:=rv.two
 obtain⟨tk,rfl⟩:=r0
 obtain⟨z,its,n,r,hl,e⟩:=I.lstM hH
 refine call_meets F.slot_list_insert ⟨_,e,rfl⟩ F.entry_list_insert (F.args_list_insert_3 _ _ _) (PySem.AutoSeq1.list_insert_list_int_val_1 l its.toArray n 0 tk u (by decide) (by rw[Bn];omega)) ⟨e,?_⟩
 refine⟨.non,_,I.lset (its':=u::its) hH e (by simp) (.cons ru r) ?_,rfl,q⟩
 rw[BI]
 omega
theorem yg{H:Hp}{Q:VK}{l:Addr}{xs:List V}{y:V}(e:H l=some (.lst xs))(hz:xs.length<sizeLine)(h:Q .non (upd H l (.lst (y::xs)))):rf (.ref l) [.int 0,y] H Q:=⟨l,xs,y,rfl,rfl,e,hz,h⟩
end
end L2
namespace PyProof.Rows
open PySem
structure Ordr(X:Keyed->Prop)(lt:Keyed->Keyed->Bool):Prop where
 asym:∀x y,X x->X y->lt x y=true->lt y x=false
 trans:∀x y z,X x->X y->X z->lt y x=false->lt z y=false->lt z x=false
section
variable {prog:Program} {w:World} {A:Around} {E:Value->Shared->Prop} {s:Shared} {κ:SortKind} {X:Keyed->Prop} {lt:Keyed->Keyed->Bool}
def dM(prog:Program)(w:World)(A:Around)(s:Shared)(κ:SortKind)(X:Keyed->Prop)(lt:Keyed->Keyed->Bool):Prop:=
 ∀x y,X x->X y->∀(Q:Bool->Shared->Prop) (E:Value->Shared->Prop),Q (lt x y) s->wpAny (model prog w) A (keyLt' κ x.1 y.1) Q E s
theorem iq{st:SortSt}{x y:Keyed}{Q:Option Bool->SortSt->Prop}(hc:dM prog w A s κ X lt)(hk:kindOf st=κ)(hx:X x)(hy:X y)(h:Q (some (lt x y)) st):wpS (model prog w) A E s (lt' x y) Q st:=by
 rw[lt'_eq]
 refine wpS_bind (wpS_get ?_)
 rw[hk]
 refine wpS_bind (wpS_lift (wpAny_attempt (hc x y hx hy _ _ ⟨rfl,?_⟩)))
 exact wpS_pure h
theorem zf{st:SortSt}{i j:Nat}{Q:Option Bool->SortSt->Prop}(hc:dM prog w A s κ X lt)(hk:kindOf st=κ)(ha:aT X (arrOf st))(hi:i<(arrOf st).size)(hj:j<(arrOf st).size)(h:Q (some (lt (arrOf st)[i] (arrOf st)[j])) st):wpS (model prog w) A E s (ltAt' i j) Q st:=by
 rw[ltAt'_eq]
 refine wpS_bind (wpS_get ?_)
 exact wpS_bind (aB hi (wpS_bind (aB hj (iq hc hk (ha.at hi) (ha.at hj) h))))
def aq(lt:Keyed->Keyed->Bool)(left:Bool)(key x:Keyed):Bool:=if left then lt x key else !lt key x
theorem ik{st:SortSt}{left:Bool}{key:Keyed}{arr:Array Keyed}{base i:Nat}{Q:Option Bool->SortSt->Prop}(hc:dM prog w A s κ X lt)(hk:kindOf st=κ)(hx:X key)(ha:aT X arr)(hi:base+i<arr.size)(h:Q (some (aq lt left key arr[base+i])) st):wpS (model prog w) A E s (gw left key arr base i) Q st:=by
 unfold gw
 refine wpS_bind (aB hi ?_)
 unfold aq at h
 cases left
 ·simp only[Bool.false_eq_true,if_false]at h ⊢
  exact wpS_bind (iq hc hk hx (ha.at hi) (wpS_pure h))
 ·simp only[if_true]at h ⊢
  exact iq hc hk (ha.at hi) hx h
theorem cI{st:SortSt}{left:Bool}{key:Keyed}{arr:Array Keyed}{base n hint:Nat}{Q:Option Nat->SortSt->Prop}(hc:dM prog w A s κ X lt)(hk:kindOf st=κ)(hx:X key)(ha:aT X arr)(hh:hint<n)(hb:base+n<=arr.size)
  (hm:∀(i j:Nat) (hij:i<=j) (hj:base+j<arr.size),j<n->aq lt left key arr[base+j]=true->aq lt left key (arr[base+i]'(by omega))=true)
  (h:∀k,k<=n->(∀i (hi:i<k) (hl:base+i<arr.size),aq lt left key arr[base+i]=true)->(∀i (hi:k<=i) (hn:i<n) (hl:base+i<arr.size),aq lt left key arr[base+i]=false)->Q (some k) st):wpS (model prog w) A E s (eS left key arr base n hint) Q st:=by
 rw[vU]
 dsimp only
 have up:∀(k:Nat) (hl:base+k<arr.size),k<n->aq lt left key arr[base+k]=true->∀i (hi:i<k+1) (hl:base+i<arr.size),aq lt left key arr[base+i]=true:=fun k hl hn e i hi hl'=>hm i k (by omega) hl hn e
 have dn:∀(k:Nat) (hl:base+k<arr.size),aq lt left key arr[base+k]=false->∀i (hi:k<=i) (hn:i<n) (hl:base+i<arr.size),aq lt left key arr[base+i]=false:=fun k hl e i hi hn hl'=>by
  cases q:aq lt left key arr[base+i]with
  | false=>rfl
  | true=>
   have:=hm k i hi hl' hn q
   rw[e]at this
   cases this
 refine wpS_bind (ik hc hk hx ha (by omega) ?_)
 cases e0:aq lt left key (arr[base+hint]'(by omega))with
 | false=>
  simp only[Bool.false_eq_true,if_false]
  refine wpS_bind (wpS_mono (wpS_forRange (I:=fun x c st'=>st'=st/\c.1=none/\c.2.1<c.2.2/\x<c.2.2/\c.2.1<=hint/\(∀hl:base+(hint-c.2.1)<arr.size,aq lt left key arr[base+(hint-c.2.1)]=false))
   (Q:=fun c st'=>st'=st/\c.1=none/\c.2.1<c.2.2/\c.2.1<=hint/\(∀hl:base+(hint-c.2.1)<arr.size,aq lt left key arr[base+(hint-c.2.1)]=false)/\(c.2.2 ≥ hint+1\/∀hl:base+(hint-c.2.2)<arr.size,aq lt left key arr[base+(hint-c.2.2)]=true)) ?_ ?_ ⟨rfl,rfl,by decide,by decide,Nat.zero_le _,fun _=>e0⟩) ?_)
  ·rintro x ⟨r,l,u⟩ st' _ hxn ⟨rfl,hr,q1,q2,q3,q4⟩
   dsimp only at hr q1 q2 q3 q4 ⊢
   by_cases hge:u ≥ hint+1
   ·rw[if_pos hge]
    exact wpS_pure ⟨rfl,rfl,q1,q3,q4,.inl hge⟩
   ·rw[if_neg hge]
    refine wpS_bind (ik hc hk hx ha (by omega) ?_)
    cases e:aq lt left key (arr[base+(hint-u)]'(by omega))with
    | false=>exact wpS_pure ⟨rfl,rfl,by dsimp only;omega,by dsimp only;omega,by dsimp only;omega,fun _=>e⟩
    | true=>exact wpS_pure ⟨rfl,rfl,q1,q3,q4,.inr fun _=>e⟩
  ·rintro⟨r,l,u⟩ st' ⟨rfl,hr,q1,q2,q3,q4⟩
   dsimp only at hr q1 q2 q3 q4 ⊢
   exact⟨rfl,hr,q1,q3,q4,.inl (by omega)⟩
  ·rintro⟨r,l,u⟩ st' ⟨rfl,hr,q1,q3,q4,q5⟩
   dsimp only at hr q1 q3 q4 q5 ⊢
   subst hr
   dsimp only
   have g1:hint-l<=n:=by omega
   have g2:hint+1-min u (hint+1)<=hint-l:=by omega
   have g4:=dn (hint-l) (by omega) (q4 (by omega))
   have g3:∀i (hi:i<hint+1-min u (hint+1)) (hl:base+i<arr.size),aq lt left key arr[base+i]=true:=by
    intro i hi hl
    rcases q5 with q5 | q5
    ·omega
    ·exact up (hint-u) (by omega) (by omega) (q5 (by omega)) i (by omega) hl
   refine wpS_bind (wpS_mono (wpS_forRange (I:=fun x c st2=>st2=st'/\c.1=none/\c.2.2<=n/\c.2.1<=c.2.2/\c.2.2-c.2.1<=n-x/\(∀i (hi:i<c.2.1) (hl:base+i<arr.size),aq lt left key arr[base+i]=true)/\(∀i (hi:c.2.2<=i) (hn:i<n) (hl:base+i<arr.size),aq lt left key arr[base+i]=false))
    (Q:=fun c st2=>st2=st'/\c.1=none/\c.2.2<=n/\(∀i (hi:i<c.2.2) (hl:base+i<arr.size),aq lt left key arr[base+i]=true)/\(∀i (hi:c.2.2<=i) (hn:i<n) (hl:base+i<arr.size),aq lt left key arr[base+i]=false)) ?_ ?_ ⟨rfl,rfl,g1,g2,by dsimp only;omega,g3,g4⟩) ?_)
   ·rintro x ⟨r,l,u⟩ st2 _ _ ⟨rfl,hr,q1,q2,q3,q4,q5⟩
    dsimp only at hr q1 q2 q3 q4 q5 ⊢
    by_cases hge:l ≥ u
    ·rw[if_pos hge]
     have:l=u:=by omega
     subst this
     exact wpS_pure ⟨rfl,rfl,q1,q4,q5⟩
    ·rw[if_neg hge]
     refine wpS_bind (ik hc hk hx ha (by omega) ?_)
     cases e:aq lt left key (arr[base+(l+(u-l) / 2)]'(by omega))with
     | false=>exact wpS_pure ⟨rfl,rfl,by dsimp only;omega,by dsimp only;omega,by dsimp only;omega,q4,dn (l+(u-l) / 2) (by omega) e⟩
     | true=>exact wpS_pure ⟨rfl,rfl,q1,by dsimp only;omega,by dsimp only;omega,up (l+(u-l) / 2) (by omega) (by omega) e,q5⟩
   ·rintro⟨r,l,u⟩ st2 ⟨rfl,hr,q1,q2,q3,q4,q5⟩
    dsimp only at hr q1 q2 q3 q4 q5 ⊢
    have:l=u:=by omega
    subst this
    exact⟨rfl,hr,q1,q4,q5⟩
   ·rintro⟨r,l,u⟩ st2 ⟨rfl,hr,q1,q4,q5⟩
    dsimp only at hr q1 q4 q5 ⊢
    subst hr
    exact wpS_pure (h u q1 q4 q5)
 | true=>
  simp only[if_true]
  refine wpS_bind (wpS_mono (wpS_forRange (I:=fun x c st'=>st'=st/\c.1=none/\c.2.1<c.2.2/\x<c.2.2/\hint+c.2.1<n/\(∀hl:base+(hint+c.2.1)<arr.size,aq lt left key arr[base+(hint+c.2.1)]=true))
   (Q:=fun c st'=>st'=st/\c.1=none/\c.2.1<c.2.2/\hint+c.2.1<n/\(∀hl:base+(hint+c.2.1)<arr.size,aq lt left key arr[base+(hint+c.2.1)]=true)/\(c.2.2 ≥ n-hint\/∀hl:base+(hint+c.2.2)<arr.size,aq lt left key arr[base+(hint+c.2.2)]=false)) ?_ ?_ ⟨rfl,rfl,by decide,by decide,by dsimp only;omega,fun _=>e0⟩) ?_)
  ·rintro x ⟨r,l,u⟩ st' _ hxn ⟨rfl,hr,q1,q2,q3,q4⟩
   dsimp only at hr q1 q2 q3 q4 ⊢
   by_cases hge:u ≥ n-hint
   ·rw[if_pos hge]
    exact wpS_pure ⟨rfl,rfl,q1,q3,q4,.inl hge⟩
   ·rw[if_neg hge]
    refine wpS_bind (ik hc hk hx ha (by omega) ?_)
    cases e:aq lt left key (arr[base+(hint+u)]'(by omega))with
    | false=>exact wpS_pure ⟨rfl,rfl,q1,q3,q4,.inr fun _=>e⟩
    | true=>exact wpS_pure ⟨rfl,rfl,by dsimp only;omega,by dsimp only;omega,by dsimp only;omega,fun _=>e⟩
  ·rintro⟨r,l,u⟩ st' ⟨rfl,hr,q1,q2,q3,q4⟩
   dsimp only at hr q1 q2 q3 q4 ⊢
   exact⟨rfl,hr,q1,q3,q4,.inl (by omega)⟩
  ·rintro⟨r,l,u⟩ st' ⟨rfl,hr,q1,q3,q4,q5⟩
   dsimp only at hr q1 q3 q4 q5 ⊢
   subst hr
   dsimp only
   have g1:hint+min u (n-hint)<=n:=by omega
   have g2:hint+l+1<=hint+min u (n-hint):=by omega
   have g3:=up (hint+l) (by omega) (by omega) (q4 (by omega))
   have g4:∀i (hi:hint+min u (n-hint)<=i) (hn:i<n) (hl:base+i<arr.size),aq lt left key arr[base+i]=false:=by
    intro i hi hn hl
    rcases q5 with q5 | q5
    ·omega
    ·exact dn (hint+u) (by omega) (q5 (by omega)) i (by omega) hn hl
   refine wpS_bind (wpS_mono (wpS_forRange (I:=fun x c st2=>st2=st'/\c.1=none/\c.2.2<=n/\c.2.1<=c.2.2/\c.2.2-c.2.1<=n-x/\(∀i (hi:i<c.2.1) (hl:base+i<arr.size),aq lt left key arr[base+i]=true)/\(∀i (hi:c.2.2<=i) (hn:i<n) (hl:base+i<arr.size),aq lt left key arr[base+i]=false))
    (Q:=fun c st2=>st2=st'/\c.1=none/\c.2.2<=n/\(∀i (hi:i<c.2.2) (hl:base+i<arr.size),aq lt left key arr[base+i]=true)/\(∀i (hi:c.2.2<=i) (hn:i<n) (hl:base+i<arr.size),aq lt left key arr[base+i]=false)) ?_ ?_ ⟨rfl,rfl,g1,g2,by dsimp only;omega,g3,g4⟩) ?_)
   ·rintro x ⟨r,l,u⟩ st2 _ _ ⟨rfl,hr,q1,q2,q3,q4,q5⟩
    dsimp only at hr q1 q2 q3 q4 q5 ⊢
    by_cases hge:l ≥ u
    ·rw[if_pos hge]
     have:l=u:=by omega
     subst this
     exact wpS_pure ⟨rfl,rfl,q1,q4,q5⟩
    ·rw[if_neg hge]
     refine wpS_bind (ik hc hk hx ha (by omega) ?_)
     cases e:aq lt left key (arr[base+(l+(u-l) / 2)]'(by omega))with
     | false=>exact wpS_pure ⟨rfl,rfl,by dsimp only;omega,by dsimp only;omega,by dsimp only;omega,q4,dn (l+(u-l) / 2) (by omega) e⟩
     | true=>exact wpS_pure ⟨rfl,rfl,q1,by dsimp only;omega,by dsimp only;omega,up (l+(u-l) / 2) (by omega) (by omega) e,q5⟩
   ·rintro⟨r,l,u⟩ st2 ⟨rfl,hr,q1,q2,q3,q4,q5⟩
    dsimp only at hr q1 q2 q3 q4 q5 ⊢
    have:l=u:=by omega
    subst this
    exact⟨rfl,hr,q1,q4,q5⟩
   ·rintro⟨r,l,u⟩ st2 ⟨rfl,hr,q1,q4,q5⟩
    dsimp only at hr q1 q4 q5 ⊢
    subst hr
    exact wpS_pure (h u q1 q4 q5)
def aI(lt:Keyed->Keyed->Bool)(l:List Keyed):Prop:=l.Pairwise fun x y=>lt y x=false
structure LO(lt:Keyed->Keyed->Bool)(a b out:Array Keyed)(ia ib:Nat):Prop where
 perm:PL a b out ia ib
 sa:aI lt (out.toList++a.toList.drop ia)
 sb:aI lt (out.toList++b.toList.drop ib)
theorem um{o r u:List Keyed}{x:Keyed}(O:Ordr X lt)(hX:∀y∈x::r,X y)(h1:aI lt (o++x::u))(h2:aI lt (o++r))(hle:∀y,r.head?=some y->lt y x=false):aI lt ((o++[x])++r):=by
 unfold aI at h1 h2 ⊢
 rw[List.append_assoc,List.pairwise_append]
 rw[List.pairwise_append]at h1 h2
 refine⟨h2.1,?_,fun y hy z hz=>?_⟩
 ·rw[List.singleton_append,List.pairwise_cons]
  refine⟨fun y hy=>?_,h2.2.1⟩
  cases r with
  | nil=>cases hy
  | cons r0 r=>
   have h0:=hle r0 rfl
   rcases Bw.mp hy with rfl | hy'
   ·exact h0
   ·have:=(List.pairwise_cons.mp h2.2.1).1 y hy'
    exact O.trans x r0 y (hX _ (by simp)) (hX _ (by simp)) (hX _ (by simp[hy'])) h0 this
 ·rw[List.singleton_append]at hz
  rcases Bw.mp hz with rfl | hz
  ·exact h1.2.2 y hy z (by simp)
  ·exact h2.2.2 y hy z hz
theorem LO.pushA{a b out:Array Keyed}{ia ib:Nat}(O:Ordr X lt)(ha:aT X a)(hb:aT X b)(h:LO lt a b out ia ib)(hi:ia<a.size)(hj:∀hj:ib<b.size,lt b[ib] a[ia]=false):LO lt a b (out.push a[ia]) (ia+1) ib:=by
 have e1:=List.drop_eq_getElem_cons (l:=a.toList) (i:=ia) (by simpa using hi)
 refine⟨h.perm.pushA hi,?_,?_⟩
 ·have:=h.sa
  rw[e1]at this
  rw[Array.toList_push,List.append_assoc]
  simpa using this
 ·rw[Array.toList_push]
  have h1:=h.sa
  rw[e1,Array.getElem_toList]at h1
  refine um O (fun y hy=>?_) h1 h.sb fun y hy=>?_
  ·rcases Bw.mp hy with rfl | hy
   ·exact ha.at hi
   ·exact hb y (List.mem_of_mem_drop hy)
  ·rw[List.head?_drop,Array.getElem?_toList]at hy
   obtain⟨q,rfl⟩:=Array.getElem?_eq_some_iff.mp hy
   exact hj q
theorem LO.pushB{a b out:Array Keyed}{ia ib:Nat}(O:Ordr X lt)(ha:aT X a)(hb:aT X b)(h:LO lt a b out ia ib)(hi:ib<b.size)(hj:∀hj:ia<a.size,lt a[ia] b[ib]=false):LO lt a b (out.push b[ib]) ia (ib+1):=by
 have e1:=List.drop_eq_getElem_cons (l:=b.toList) (i:=ib) (by simpa using hi)
 refine⟨h.perm.pushB hi,?_,?_⟩
 ·rw[Array.toList_push]
  have h1:=h.sb
  rw[e1,Array.getElem_toList]at h1
  refine um O (fun y hy=>?_) h1 h.sa fun y hy=>?_
  ·rcases Bw.mp hy with rfl | hy
   ·exact hb.at hi
   ·exact ha y (List.mem_of_mem_drop hy)
  ·rw[List.head?_drop,Array.getElem?_toList]at hy
   obtain⟨q,rfl⟩:=Array.getElem?_eq_some_iff.mp hy
   exact hj q
 ·have:=h.sb
  rw[e1]at this
  rw[Array.toList_push,List.append_assoc]
  simpa using this
theorem sP{a out:Array Keyed}{i k:Nat}(h:i+k<a.size):out++a.extract i (i+(k+1))=(out++a.extract i (i+k)).push a[i+k]:=by
 apply Array.toList_inj.mp
 rw[Array.toList_push,Array.toList_append,Array.toList_append,Array.toList_extract,Array.toList_extract]
 show out.toList++List.take (i+(k+1)-i) (a.toList.drop i)=out.toList++List.take (i+k-i) (a.toList.drop i)++[a[i+k]]
 rw[show i+(k+1)-i=k+1 by omega,show i+k-i=k by omega,List.take_add_one,List.getElem?_drop,List.append_assoc]
 have:a.toList[i+k]?=some a[i+k]:=by rw[Array.getElem?_toList,getElem?_pos a (i+k) h]
 rw[this]
 rfl
theorem LO.manyA{a b out:Array Keyed}{ia ib:Nat}(O:Ordr X lt)(ha:aT X a)(hb:aT X b)(h:LO lt a b out ia ib):∀k,ia+k<=a.size->(∀i (hi:i<k) (hl:ia+i<a.size) (hj:ib<b.size),lt b[ib] a[ia+i]=false)->LO lt a b (out++a.extract ia (ia+k)) (ia+k) ib
 | 0,_,_=>by
  have:out++a.extract ia (ia+0)=out:=by simp[Nat.min_le_left]
  rw[this]
  exact h
 | k+1,hl,hk=>by
  have:=LO.manyA O ha hb h k (by omega) fun i hi hl hj=>hk i (by omega) hl hj
  rw[sP (show ia+k<a.size by omega)]
  exact this.pushA O ha hb (show ia+k<a.size by omega) fun hj=>hk k (by omega) (by omega) hj
theorem LO.manyB{a b out:Array Keyed}{ia ib:Nat}(O:Ordr X lt)(ha:aT X a)(hb:aT X b)(h:LO lt a b out ia ib):∀k,ib+k<=b.size->(∀i (hi:i<k) (hl:ib+i<b.size) (hj:ia<a.size),lt a[ia] b[ib+i]=false)->LO lt a b (out++b.extract ib (ib+k)) ia (ib+k)
 | 0,_,_=>by
  have:out++b.extract ib (ib+0)=out:=by simp[Nat.min_le_left]
  rw[this]
  exact h
 | k+1,hl,hk=>by
  have:=LO.manyB O ha hb h k (by omega) fun i hi hl hj=>hk i (by omega) hl hj
  rw[sP (show ib+k<b.size by omega)]
  exact this.pushB O ha hb (show ib+k<b.size by omega) fun hj=>hk k (by omega) (by omega) hj
theorem eW{a:Array Keyed}{key:Keyed}{base n:Nat}(O:Ordr X lt)(ha:aT X a)(hs:aI lt a.toList)(hx:X key)(i j:Nat)(hij:i<=j)(hj:base+j<a.size)(_:j<n)(h:aq lt true key a[base+j]=true):aq lt true key (a[base+i]'(by omega))=true:=by
 unfold aq at h ⊢
 simp only[if_true]at h ⊢
 by_cases e:i=j
 ·subst e;exact h
 ·have h1:lt a[base+j] (a[base+i]'(by omega))=false:=by
   have:=List.pairwise_iff_getElem.mp hs (base+i) (base+j) (by simp;omega) (by simp;omega) (by omega)
   simpa using this
  cases q:lt (a[base+i]'(by omega)) key with
  | true=>rfl
  | false=>
   have:=O.trans key (a[base+i]'(by omega)) a[base+j] hx (ha.at _) (ha.at _) q h1
   rw[this]at h
   cases h
theorem jY{a:Array Keyed}{key:Keyed}{base n:Nat}(O:Ordr X lt)(ha:aT X a)(hs:aI lt a.toList)(hx:X key)(i j:Nat)(hij:i<=j)(hj:base+j<a.size)(_:j<n)(h:aq lt false key a[base+j]=true):aq lt false key (a[base+i]'(by omega))=true:=by
 unfold aq at h ⊢
 simp only[Bool.false_eq_true,if_false,Bool.not_eq_true']at h ⊢
 by_cases e:i=j
 ·subst e;exact h
 ·have h1:lt a[base+j] (a[base+i]'(by omega))=false:=by
   have:=List.pairwise_iff_getElem.mp hs (base+i) (base+j) (by simp;omega) (by simp;omega) (by omega)
   simpa using this
  exact O.trans (a[base+i]'(by omega)) a[base+j] key (ha.at _) (ha.at _) hx h1 h
theorem cW{a b out:Array Keyed}{ia ib:Nat}(h:LO lt a b out ia ib)(hq:ib=b.size\/ia=a.size):aI lt (dg a b out ia ib).toList:=by
 unfold dg
 rw[Array.toList_append,Array.toList_append,fj,fj]
 rcases hq with rfl | rfl
 ·rw[show b.toList.drop b.size=[] by rw[←Bm];exact List.drop_length,List.append_nil]
  exact h.sa
 ·rw[show a.toList.drop a.size=[] by rw[←Bm];exact List.drop_length,List.append_nil]
  exact h.sb
theorem dk{a b out:Array Keyed}{ia ib:Nat}(O:Ordr X lt)(ha:aT X a)(hb:aT X b)(h:LO lt a b out ia ib)(hq:ia+1=a.size)(hz:∀y∈b.toList,∀hl:a.size-1<a.size,lt a[a.size-1] y=false):aI lt (eX a b out ia ib).toList:=by
 unfold eX
 rw[Array.toList_append,Array.toList_append,fj,fj]
 have e1:a.toList.drop ia=[a[ia]'(by omega)]:=by
  rw[List.drop_eq_getElem_cons (by simp;omega),show ia+1=a.toList.length by simpa using hq,List.drop_length]
  simp
 have h1:=h.sa
 have h2:=h.sb
 rw[e1]at h1 ⊢
 unfold aI at h1 h2 ⊢
 rw[List.pairwise_append]at h1 ⊢
 refine⟨h2,List.pairwise_singleton _ _,fun y hy z hz'=>?_⟩
 rcases BE.mp hy with q | q
 ·exact h1.2.2 y q z hz'
 ·rw[Bs]at hz'
  subst hz'
  have:=hz y (List.mem_of_mem_drop q) (by omega)
  simpa[show a.size-1=ia by omega]using this
theorem vN{a b:Array Keyed}{st:SortSt}{Q:Array Keyed->SortSt->Prop}(O:Ordr X lt)(hc:dM prog w A s κ X lt)(hk:kindOf st=κ)(ha:aT X a)(hb:aT X b)(ha0:0<a.size)(hb0:0<b.size)(sa:aI lt a.toList)(sb:aI lt b.toList)(h0:lt b[0] a[0]=true)(hz:∀y∈b.toList,∀hl:a.size-1<a.size,lt a[a.size-1] y=false)
  (h:∀m st',Sm st st'->m.toList.Perm (a.toList++b.toList)->aI lt m.toList->Q m st'):wpS (model prog w) A E s (ka a b) Q st:=by
 rw[xh]
 dsimp only
 have p0:LO lt a b #[b[0]] 0 1:=by
  have:LO lt a b (#[]:Array Keyed) 0 0:=⟨by unfold PL;simp,by simpa using sa,by simpa using sb⟩
  simpa using this.pushB O ha hb hb0 fun hj=>O.asym _ _ (hb.at hb0) (ha.at hj) h0
 refine wpS_bind (wpS_lift (wpAny_rule ⟨rfl,wpS_bind (aB hb0 ?_)⟩))
 by_cases n1:(1 == b.size)=true
 ·rw[if_pos n1]
  exact wpS_pure (h _ _ ⟨rfl,rfl,rfl,rfl⟩ (cU p0.perm) (cW p0 (.inl (by simpa using n1))))
 rw[if_neg n1]
 by_cases n2:(0+1 == a.size)=true
 ·rw[if_pos n2]
  exact wpS_pure (h _ _ ⟨rfl,rfl,rfl,rfl⟩ (cY p0.perm) (dk O ha hb p0 (by simpa using n2) hz))
 rw[if_neg n2]
 have n1:¬1=b.size:=fun e=>n1 (by rw[←e];rfl)
 have n2:¬1=a.size:=fun e=>n2 (by rw[←e];rfl)
 refine wpS_bind (wpS_get (wpS_bind (wpS_mono (wpS_forRange (I:=fun x c st'=>Sm st st'/\c.1=none/\LO lt a b c.2.1 c.2.2.1 c.2.2.2.1/\c.2.2.1+1<a.size/\c.2.2.2.1<b.size/\x+1<=c.2.2.1+c.2.2.2.1)
  (Q:=fun c st'=>Sm st st'/\∃m,c.1=some m/\m.toList.Perm (a.toList++b.toList)/\aI lt m.toList) ?_ ?_ ⟨⟨rfl,rfl,rfl,rfl⟩,rfl,p0,by dsimp only;omega,by dsimp only;omega,BB _⟩) ?_)))
 ·rintro x ⟨r,out,ia,ib,mg⟩ st1 _ hx ⟨hS,hr,hP,h1,h2,h3⟩
  dsimp only at hr hP h1 h2 h3 ⊢
  refine wpS_bind (wpS_mono (wpS_forRange (I:=fun y c st'=>Sm st st'/\c.1=none/\LO lt a b c.2.1 c.2.2.1 c.2.2.2.1/\c.2.2.1+1<a.size/\c.2.2.2.1<b.size/\x+1+min y 1<=c.2.2.1+c.2.2.2.1)
   (Q:=fun c st'=>Sm st st'/\((∃m,c.1=some m/\m.toList.Perm (a.toList++b.toList)/\aI lt m.toList)\/(c.1=none/\LO lt a b c.2.1 c.2.2.1 c.2.2.2.1/\c.2.2.1+1<a.size/\c.2.2.2.1<b.size/\x+2<=c.2.2.1+c.2.2.2.1))) ?_ ?_ ⟨hS,rfl,hP,h1,h2,by simpa using h3⟩) ?_)
  ·clear hP h1 h2 h3 hS
   rintro y ⟨r,out,ia,ib,ac,bc⟩ st2 _ _ ⟨hS,hr,hP,h1,h2,h3⟩
   dsimp only at hr hP h1 h2 h3 ⊢
   refine wpS_bind (aB h2 (wpS_bind (aB (by omega) (wpS_bind (iq hc (hS.1.trans hk) (hb.at h2) (ha.at (by omega)) ?_)))))
   cases ec:lt b[ib] (a[ia]'(by omega))with
   | false=>
    simp only[Bool.false_eq_true,if_false]
    refine wpS_bind (aB (by omega) ?_)
    have hP':=hP.pushA O ha hb (show ia<a.size by omega) (fun _=>ec)
    by_cases hne:(ia+1+1 == a.size)=true
    ·rw[if_pos hne]
     exact wpS_pure ⟨hS,.inl ⟨_,rfl,cY hP'.perm,dk O ha hb hP' (by simpa using hne) hz⟩⟩
    rw[if_neg hne]
    have hne:¬ia+1+1=a.size:=fun e=>hne (by rw[e];exact beq_self_eq_true _)
    split
    ·exact wpS_pure ⟨hS,.inr ⟨rfl,hP',by dsimp only;omega,h2,by dsimp only;omega⟩⟩
    ·exact wpS_pure ⟨hS,rfl,hP',by dsimp only;omega,h2,by dsimp only;omega⟩
   | true=>
    simp only[if_true]
    refine wpS_bind (aB h2 ?_)
    have hP':=hP.pushB O ha hb h2 (fun hj=>O.asym _ _ (hb.at h2) (ha.at hj) ec)
    by_cases hne:(ib+1 == b.size)=true
    ·rw[if_pos hne]
     exact wpS_pure ⟨hS,.inl ⟨_,rfl,cU hP'.perm,cW hP' (.inl (by simpa using hne))⟩⟩
    rw[if_neg hne]
    have hne:¬ib+1=b.size:=fun e=>hne (by rw[e];exact beq_self_eq_true _)
    split
    ·exact wpS_pure ⟨hS,.inr ⟨rfl,hP',h1,by dsimp only;omega,by dsimp only;omega⟩⟩
    ·exact wpS_pure ⟨hS,rfl,hP',h1,by dsimp only;omega,by dsimp only;omega⟩
  ·rintro c st2 ⟨hS,hr,hP,h1,h2,h3⟩
   exact⟨hS,.inr ⟨hr,hP,h1,h2,by omega⟩⟩
  ·clear hP h1 h2 h3 hS
   rintro⟨r,out,ia,ib,ac,bc⟩ st2 ⟨hS,⟨m,hr,hm⟩ | ⟨hr,hP,h1,h2,h3⟩⟩
   ·dsimp only at hr ⊢
    subst hr
    exact wpS_pure ⟨hS,m,rfl,hm⟩
   dsimp only at hr hP h1 h2 h3 ⊢
   subst hr
   dsimp only
   refine wpS_bind (wpS_lift (wpAny_rule ⟨rfl,?_⟩))
   refine wpS_bind (wpS_mono (wpS_forRange (I:=fun y c st'=>Sm st st'/\c.1=none/\LO lt a b c.2.1 c.2.2.1 c.2.2.2.1/\c.2.2.1+1<a.size/\c.2.2.2.1<b.size/\x+2<=c.2.2.1+c.2.2.2.1)
    (Q:=fun c st'=>Sm st st'/\((∃m,c.1=some m/\m.toList.Perm (a.toList++b.toList)/\aI lt m.toList)\/(c.1=none/\LO lt a b c.2.1 c.2.2.1 c.2.2.2.1/\c.2.2.1+1<a.size/\c.2.2.2.1<b.size/\x+2<=c.2.2.1+c.2.2.2.1))) ?_ (fun c st2 z=>⟨z.1,.inr z.2⟩) ⟨hS,rfl,hP,h1,h2,h3⟩) ?_)
   ·clear hP h1 h2 h3 hS
    rintro y ⟨r,out,ia,ib,mg,ac,bc⟩ st2 _ _ ⟨hS,hr,hP,h1,h2,h3⟩
    dsimp only at hr hP h1 h2 h3 ⊢
    by_cases cg:mg>1
    ·rw[if_pos cg]
     refine wpS_bind (gW ?_)
     refine wpS_bind (aB h2 (wpS_bind (cI (left:=false) hc (hS.1.trans hk) (hb.at h2) ha (by omega) (by omega) (jY O ha sa (hb.at h2)) fun k hkk gl gr=>?_)))
     have hP1:=hP.manyA O ha hb k (by omega) (fun i hi hl hj=>by have:=gl i hi hl;simpa[aq]using this)
     dsimp only
     by_cases c0:k>0
     ·rw[if_pos c0]
      by_cases c1:(ia+k+1 == a.size)=true
      ·rw[if_pos c1]
       have c1':ia+k+1=a.size:=by simpa using c1
       exact wpS_pure ⟨hS,.inl ⟨_,rfl,cY hP1.perm,dk O ha hb hP1 c1' hz⟩⟩
      rw[if_neg c1]
      have c1:¬ia+k+1=a.size:=fun e=>c1 (by rw[e];exact beq_self_eq_true _)
      by_cases c7:(ia+k == a.size)=true
      ·rw[if_pos c7]
       have c7':ia+k=a.size:=by simpa using c7
       exact wpS_pure ⟨hS,.inl ⟨_,rfl,cU hP1.perm,cW hP1 (.inr c7')⟩⟩
      rw[if_neg c7]
      have c7:¬ia+k=a.size:=fun e=>c7 (by rw[e];exact beq_self_eq_true _)
      refine wpS_bind (aB h2 ?_)
      have hP2:=hP1.pushB O ha hb h2 (fun hj=>O.asym _ _ (hb.at h2) (ha.at hj) (by have:=gr k (by omega) (by omega) (by omega);simpa[aq]using this))
      by_cases c2:(ib+1 == b.size)=true
      ·rw[if_pos c2]
       have c2':ib+1=b.size:=by simpa using c2
       exact wpS_pure ⟨hS,.inl ⟨_,rfl,cU hP2.perm,cW hP2 (.inl c2')⟩⟩
      rw[if_neg c2]
      have c2:¬ib+1=b.size:=fun e=>c2 (by rw[e];exact beq_self_eq_true _)
      refine wpS_bind (aB (by omega) (wpS_bind (cI (left:=true) hc (hS.1.trans hk) (ha.at (by omega)) hb (by omega) (by omega) (eW O hb sb (ha.at (by omega))) fun k2 hk2 gl2 gr2=>?_)))
      dsimp only
      have hP3:=hP2.manyB O ha hb k2 (by omega) (fun i hi hl hj=>O.asym _ _ (hb.at hl) (ha.at hj) (by have:=gl2 i hi hl;simpa[aq]using this))
      by_cases c3:k2>0
      ·rw[if_pos c3]
       by_cases c4:(ib+1+k2 == b.size)=true
       ·rw[if_pos c4]
        have c4':ib+1+k2=b.size:=by simpa using c4
        exact wpS_pure ⟨hS,.inl ⟨_,rfl,cU hP3.perm,cW hP3 (.inl c4')⟩⟩
       rw[if_neg c4]
       have c4:¬ib+1+k2=b.size:=fun e=>c4 (by rw[e];exact beq_self_eq_true _)
       refine wpS_bind (aB (by omega) ?_)
       have hP4:=hP3.pushA O ha hb (show ia+k<a.size by omega) (fun hj=>by have:=gr2 k2 (by omega) (by omega) (by omega);simpa[aq]using this)
       by_cases c5:(ia+k+1+1 == a.size)=true
       ·rw[if_pos c5]
        have c5':ia+k+1+1=a.size:=by simpa using c5
        exact wpS_pure ⟨hS,.inl ⟨_,rfl,cY hP4.perm,dk O ha hb hP4 c5' hz⟩⟩
       rw[if_neg c5]
       have c5:¬ia+k+1+1=a.size:=fun e=>c5 (by rw[e];exact beq_self_eq_true _)
       split
       ·exact wpS_pure ⟨hS,.inr ⟨rfl,hP4,by dsimp only;omega,by dsimp only;omega,by dsimp only;omega⟩⟩
       ·exact wpS_pure ⟨hS,rfl,hP4,by dsimp only;omega,by dsimp only;omega,by dsimp only;omega⟩
      rw[if_neg c3]
      have k20:k2=0:=by omega
      subst k20
      refine wpS_bind (aB (by omega) ?_)
      have hP4:=hP2.pushA O ha hb (show ia+k<a.size by omega) (fun hj=>by have:=gr2 0 (by omega) (by omega) (by omega);simpa[aq]using this)
      by_cases c5:(ia+k+1+1 == a.size)=true
      ·rw[if_pos c5]
       have c5':ia+k+1+1=a.size:=by simpa using c5
       exact wpS_pure ⟨hS,.inl ⟨_,rfl,cY hP4.perm,dk O ha hb hP4 c5' hz⟩⟩
      rw[if_neg c5]
      have c5:¬ia+k+1+1=a.size:=fun e=>c5 (by rw[e];exact beq_self_eq_true _)
      split
      ·exact wpS_pure ⟨hS,.inr ⟨rfl,hP4,by dsimp only;omega,by dsimp only;omega,by dsimp only;omega⟩⟩
      ·exact wpS_pure ⟨hS,rfl,hP4,by dsimp only;omega,by dsimp only;omega,by dsimp only;omega⟩
     rw[if_neg c0]
     have k00:k=0:=by omega
     subst k00
     refine wpS_bind (aB h2 ?_)
     have hP2:=hP.pushB O ha hb h2 (fun hj=>O.asym _ _ (hb.at h2) (ha.at hj) (by have:=gr 0 (by omega) (by omega) (by omega);simpa[aq]using this))
     by_cases c2:(ib+1 == b.size)=true
     ·rw[if_pos c2]
      have c2':ib+1=b.size:=by simpa using c2
      exact wpS_pure ⟨hS,.inl ⟨_,rfl,cU hP2.perm,cW hP2 (.inl c2')⟩⟩
     rw[if_neg c2]
     have c2:¬ib+1=b.size:=fun e=>c2 (by rw[e];exact beq_self_eq_true _)
     refine wpS_bind (aB (by omega) (wpS_bind (cI (left:=true) hc (hS.1.trans hk) (ha.at (by omega)) hb (by omega) (by omega) (eW O hb sb (ha.at (by omega))) fun k2 hk2 gl2 gr2=>?_)))
     dsimp only
     have hP3:=hP2.manyB O ha hb k2 (by omega) (fun i hi hl hj=>O.asym _ _ (hb.at hl) (ha.at hj) (by have:=gl2 i hi hl;simpa[aq]using this))
     by_cases c3:k2>0
     ·rw[if_pos c3]
      by_cases c4:(ib+1+k2 == b.size)=true
      ·rw[if_pos c4]
       have c4':ib+1+k2=b.size:=by simpa using c4
       exact wpS_pure ⟨hS,.inl ⟨_,rfl,cU hP3.perm,cW hP3 (.inl c4')⟩⟩
      rw[if_neg c4]
      have c4:¬ib+1+k2=b.size:=fun e=>c4 (by rw[e];exact beq_self_eq_true _)
      refine wpS_bind (aB (by omega) ?_)
      have hP4:=hP3.pushA O ha hb (show ia<a.size by omega) (fun hj=>by have:=gr2 k2 (by omega) (by omega) (by omega);simpa[aq]using this)
      by_cases c5:(ia+1+1 == a.size)=true
      ·rw[if_pos c5]
       have c5':ia+1+1=a.size:=by simpa using c5
       exact wpS_pure ⟨hS,.inl ⟨_,rfl,cY hP4.perm,dk O ha hb hP4 c5' hz⟩⟩
      rw[if_neg c5]
      have c5:¬ia+1+1=a.size:=fun e=>c5 (by rw[e];exact beq_self_eq_true _)
      split
      ·exact wpS_pure ⟨hS,.inr ⟨rfl,hP4,by dsimp only;omega,by dsimp only;omega,by dsimp only;omega⟩⟩
      ·exact wpS_pure ⟨hS,rfl,hP4,by dsimp only;omega,by dsimp only;omega,by dsimp only;omega⟩
     rw[if_neg c3]
     have k20:k2=0:=by omega
     subst k20
     refine wpS_bind (aB (by omega) ?_)
     have hP4:=hP2.pushA O ha hb (show ia<a.size by omega) (fun hj=>by have:=gr2 0 (by omega) (by omega) (by omega);simpa[aq]using this)
     by_cases c5:(ia+1+1 == a.size)=true
     ·rw[if_pos c5]
      have c5':ia+1+1=a.size:=by simpa using c5
      exact wpS_pure ⟨hS,.inl ⟨_,rfl,cY hP4.perm,dk O ha hb hP4 c5' hz⟩⟩
     rw[if_neg c5]
     have c5:¬ia+1+1=a.size:=fun e=>c5 (by rw[e];exact beq_self_eq_true _)
     split
     ·exact wpS_pure ⟨hS,.inr ⟨rfl,hP4,by dsimp only;omega,by dsimp only;omega,by dsimp only;omega⟩⟩
     ·exact wpS_pure ⟨hS,rfl,hP4,by dsimp only;omega,by dsimp only;omega,by dsimp only;omega⟩
    ·rw[if_neg cg]
     refine wpS_bind (gW ?_)
     refine wpS_bind (aB h2 (wpS_bind (cI (left:=false) hc (hS.1.trans hk) (hb.at h2) ha (by omega) (by omega) (jY O ha sa (hb.at h2)) fun k hkk gl gr=>?_)))
     have hP1:=hP.manyA O ha hb k (by omega) (fun i hi hl hj=>by have:=gl i hi hl;simpa[aq]using this)
     dsimp only
     by_cases c0:k>0
     ·rw[if_pos c0]
      by_cases c1:(ia+k+1 == a.size)=true
      ·rw[if_pos c1]
       have c1':ia+k+1=a.size:=by simpa using c1
       exact wpS_pure ⟨hS,.inl ⟨_,rfl,cY hP1.perm,dk O ha hb hP1 c1' hz⟩⟩
      rw[if_neg c1]
      have c1:¬ia+k+1=a.size:=fun e=>c1 (by rw[e];exact beq_self_eq_true _)
      by_cases c7:(ia+k == a.size)=true
      ·rw[if_pos c7]
       have c7':ia+k=a.size:=by simpa using c7
       exact wpS_pure ⟨hS,.inl ⟨_,rfl,cU hP1.perm,cW hP1 (.inr c7')⟩⟩
      rw[if_neg c7]
      have c7:¬ia+k=a.size:=fun e=>c7 (by rw[e];exact beq_self_eq_true _)
      refine wpS_bind (aB h2 ?_)
      have hP2:=hP1.pushB O ha hb h2 (fun hj=>O.asym _ _ (hb.at h2) (ha.at hj) (by have:=gr k (by omega) (by omega) (by omega);simpa[aq]using this))
      by_cases c2:(ib+1 == b.size)=true
      ·rw[if_pos c2]
       have c2':ib+1=b.size:=by simpa using c2
       exact wpS_pure ⟨hS,.inl ⟨_,rfl,cU hP2.perm,cW hP2 (.inl c2')⟩⟩
      rw[if_neg c2]
      have c2:¬ib+1=b.size:=fun e=>c2 (by rw[e];exact beq_self_eq_true _)
      refine wpS_bind (aB (by omega) (wpS_bind (cI (left:=true) hc (hS.1.trans hk) (ha.at (by omega)) hb (by omega) (by omega) (eW O hb sb (ha.at (by omega))) fun k2 hk2 gl2 gr2=>?_)))
      dsimp only
      have hP3:=hP2.manyB O ha hb k2 (by omega) (fun i hi hl hj=>O.asym _ _ (hb.at hl) (ha.at hj) (by have:=gl2 i hi hl;simpa[aq]using this))
      by_cases c3:k2>0
      ·rw[if_pos c3]
       by_cases c4:(ib+1+k2 == b.size)=true
       ·rw[if_pos c4]
        have c4':ib+1+k2=b.size:=by simpa using c4
        exact wpS_pure ⟨hS,.inl ⟨_,rfl,cU hP3.perm,cW hP3 (.inl c4')⟩⟩
       rw[if_neg c4]
       have c4:¬ib+1+k2=b.size:=fun e=>c4 (by rw[e];exact beq_self_eq_true _)
       refine wpS_bind (aB (by omega) ?_)
       have hP4:=hP3.pushA O ha hb (show ia+k<a.size by omega) (fun hj=>by have:=gr2 k2 (by omega) (by omega) (by omega);simpa[aq]using this)
       by_cases c5:(ia+k+1+1 == a.size)=true
       ·rw[if_pos c5]
        have c5':ia+k+1+1=a.size:=by simpa using c5
        exact wpS_pure ⟨hS,.inl ⟨_,rfl,cY hP4.perm,dk O ha hb hP4 c5' hz⟩⟩
       rw[if_neg c5]
       have c5:¬ia+k+1+1=a.size:=fun e=>c5 (by rw[e];exact beq_self_eq_true _)
       split
       ·exact wpS_pure ⟨hS,.inr ⟨rfl,hP4,by dsimp only;omega,by dsimp only;omega,by dsimp only;omega⟩⟩
       ·exact wpS_pure ⟨hS,rfl,hP4,by dsimp only;omega,by dsimp only;omega,by dsimp only;omega⟩
      rw[if_neg c3]
      have k20:k2=0:=by omega
      subst k20
      refine wpS_bind (aB (by omega) ?_)
      have hP4:=hP2.pushA O ha hb (show ia+k<a.size by omega) (fun hj=>by have:=gr2 0 (by omega) (by omega) (by omega);simpa[aq]using this)
      by_cases c5:(ia+k+1+1 == a.size)=true
      ·rw[if_pos c5]
       have c5':ia+k+1+1=a.size:=by simpa using c5
       exact wpS_pure ⟨hS,.inl ⟨_,rfl,cY hP4.perm,dk O ha hb hP4 c5' hz⟩⟩
      rw[if_neg c5]
      have c5:¬ia+k+1+1=a.size:=fun e=>c5 (by rw[e];exact beq_self_eq_true _)
      split
      ·exact wpS_pure ⟨hS,.inr ⟨rfl,hP4,by dsimp only;omega,by dsimp only;omega,by dsimp only;omega⟩⟩
      ·exact wpS_pure ⟨hS,rfl,hP4,by dsimp only;omega,by dsimp only;omega,by dsimp only;omega⟩
     rw[if_neg c0]
     have k00:k=0:=by omega
     subst k00
     refine wpS_bind (aB h2 ?_)
     have hP2:=hP.pushB O ha hb h2 (fun hj=>O.asym _ _ (hb.at h2) (ha.at hj) (by have:=gr 0 (by omega) (by omega) (by omega);simpa[aq]using this))
     by_cases c2:(ib+1 == b.size)=true
     ·rw[if_pos c2]
      have c2':ib+1=b.size:=by simpa using c2
      exact wpS_pure ⟨hS,.inl ⟨_,rfl,cU hP2.perm,cW hP2 (.inl c2')⟩⟩
     rw[if_neg c2]
     have c2:¬ib+1=b.size:=fun e=>c2 (by rw[e];exact beq_self_eq_true _)
     refine wpS_bind (aB (by omega) (wpS_bind (cI (left:=true) hc (hS.1.trans hk) (ha.at (by omega)) hb (by omega) (by omega) (eW O hb sb (ha.at (by omega))) fun k2 hk2 gl2 gr2=>?_)))
     dsimp only
     have hP3:=hP2.manyB O ha hb k2 (by omega) (fun i hi hl hj=>O.asym _ _ (hb.at hl) (ha.at hj) (by have:=gl2 i hi hl;simpa[aq]using this))
     by_cases c3:k2>0
     ·rw[if_pos c3]
      by_cases c4:(ib+1+k2 == b.size)=true
      ·rw[if_pos c4]
       have c4':ib+1+k2=b.size:=by simpa using c4
       exact wpS_pure ⟨hS,.inl ⟨_,rfl,cU hP3.perm,cW hP3 (.inl c4')⟩⟩
      rw[if_neg c4]
      have c4:¬ib+1+k2=b.size:=fun e=>c4 (by rw[e];exact beq_self_eq_true _)
      refine wpS_bind (aB (by omega) ?_)
      have hP4:=hP3.pushA O ha hb (show ia<a.size by omega) (fun hj=>by have:=gr2 k2 (by omega) (by omega) (by omega);simpa[aq]using this)
      by_cases c5:(ia+1+1 == a.size)=true
      ·rw[if_pos c5]
       have c5':ia+1+1=a.size:=by simpa using c5
       exact wpS_pure ⟨hS,.inl ⟨_,rfl,cY hP4.perm,dk O ha hb hP4 c5' hz⟩⟩
      rw[if_neg c5]
      have c5:¬ia+1+1=a.size:=fun e=>c5 (by rw[e];exact beq_self_eq_true _)
      split
      ·exact wpS_pure ⟨hS,.inr ⟨rfl,hP4,by dsimp only;omega,by dsimp only;omega,by dsimp only;omega⟩⟩
      ·exact wpS_pure ⟨hS,rfl,hP4,by dsimp only;omega,by dsimp only;omega,by dsimp only;omega⟩
     rw[if_neg c3]
     have k20:k2=0:=by omega
     subst k20
     refine wpS_bind (aB (by omega) ?_)
     have hP4:=hP2.pushA O ha hb (show ia<a.size by omega) (fun hj=>by have:=gr2 0 (by omega) (by omega) (by omega);simpa[aq]using this)
     by_cases c5:(ia+1+1 == a.size)=true
     ·rw[if_pos c5]
      have c5':ia+1+1=a.size:=by simpa using c5
      exact wpS_pure ⟨hS,.inl ⟨_,rfl,cY hP4.perm,dk O ha hb hP4 c5' hz⟩⟩
     rw[if_neg c5]
     have c5:¬ia+1+1=a.size:=fun e=>c5 (by rw[e];exact beq_self_eq_true _)
     split
     ·exact wpS_pure ⟨hS,.inr ⟨rfl,hP4,by dsimp only;omega,by dsimp only;omega,by dsimp only;omega⟩⟩
     ·exact wpS_pure ⟨hS,rfl,hP4,by dsimp only;omega,by dsimp only;omega,by dsimp only;omega⟩
   ·clear hP h1 h2 h3 hS
    rintro⟨r,out,ia,ib,mg2,ac,bc⟩ st2 ⟨hS,⟨m,hr,hm⟩ | ⟨hr,hP,h1,h2,h3⟩⟩
    ·dsimp only at hr ⊢
     subst hr
     exact wpS_pure ⟨hS,m,rfl,hm⟩
    dsimp only at hr hP h1 h2 h3 ⊢
    subst hr
    dsimp only
    exact wpS_bind (gW (wpS_pure ⟨hS,rfl,hP,h1,h2,h3⟩))
 ·rintro⟨r,out,ia,ib,mg⟩ st1 ⟨hS,hr,hP,h1,h2,h3⟩
  dsimp only at h1 h2 h3
  omega
 ·rintro⟨r,out,ia,ib,mg⟩ st1 ⟨hS,m,hr,hm⟩
  dsimp only at hr ⊢
  subst hr
  exact wpS_pure (h m st1 hS hm.1 hm.2)
structure HI(lt:Keyed->Keyed->Bool)(a b out:Array Keyed)(na nb:Nat):Prop where
 perm:PH a b out na nb
 sa:aI lt (a.toList.take na++out.toList.reverse)
 sb:aI lt (b.toList.take nb++out.toList.reverse)
theorem ug{o r u:List Keyed}{x:Keyed}(O:Ordr X lt)(hX:∀y∈x::r,X y)(h1:aI lt (u++[x]++o))(h2:aI lt (r++o))(hle:∀y,r.getLast?=some y->lt x y=false):aI lt (r++(x::o)):=by
 unfold aI at h1 h2 ⊢
 rw[List.append_assoc,List.singleton_append]at h1
 rw[List.pairwise_append]at h1 h2 ⊢
 refine⟨h2.1,h1.2.1,fun y hy z hz=>?_⟩
 have hyx:lt x y=false:=by
  rcases List.eq_nil_or_concat r with rfl | ⟨r',l,rfl⟩
  ·cases hy
  ·have hl:=hle l (by simp)
   rw[List.concat_eq_append]at hy h2
   rcases BE.mp hy with q | q
   ·have:=(List.pairwise_append.mp h2.1).2.2 y q l (by simp)
    exact O.trans y l x (hX _ (by simp[q])) (hX _ (by simp)) (hX _ (by simp)) this hl
   ·rw[Bs]at q
    rw[q]
    exact hl
 rcases Bw.mp hz with rfl | hz
 ·exact hyx
 ·exact h2.2.2 y hy z hz
theorem tW{l:List Keyed}{n:Nat}{y:Keyed}(h:(l.take n).getLast?=some y)(hn:n<=l.length):∃hl:n-1<l.length,1<=n/\y=l[n-1]:=by
 rw[List.getLast?_eq_getElem?,List.length_take,Nat.min_eq_left hn,List.getElem?_take]at h
 split at h
 ·rename_i hq
  obtain⟨q,e⟩:=Bq.mp h
  exact⟨q,by omega,e.symm⟩
 ·cases h
theorem HI.pushA{a b out:Array Keyed}{na nb:Nat}(O:Ordr X lt)(ha:aT X a)(hb:aT X b)(h:HI lt a b out na nb)(hi:na-1<a.size)(hn:1<=na)(hj:∀(_:na-1<a.size) (hl:nb-1<b.size),lt a[na-1] b[nb-1]=false)(hnb:nb<=b.size:=by omega):HI lt a b (out.push a[na-1]) (na-1) nb:=by
 have e1:=take_one (l:=a.toList) (n:=na) (by simpa using hi) hn
 have h1:=h.sa
 rw[e1,Array.getElem_toList]at h1
 refine⟨h.perm.pushA hi hn,?_,?_⟩
 ·rw[Array.toList_push,List.reverse_append]
  simpa using h1
 ·rw[Array.toList_push,List.reverse_append]
  refine ug O (fun y hy=>?_) h1 h.sb fun y hy=>?_
  ·rcases Bw.mp hy with rfl | hy
   ·exact ha.at hi
   ·exact hb y (List.mem_of_mem_take hy)
  ·obtain⟨hl,_,rfl⟩:=tW hy (by simpa using hnb)
   rw[Array.getElem_toList]
   exact hj hi (by simpa using hl)
theorem HI.pushB{a b out:Array Keyed}{na nb:Nat}(O:Ordr X lt)(ha:aT X a)(hb:aT X b)(h:HI lt a b out na nb)(hi:nb-1<b.size)(hn:1<=nb)(hj:∀(hl:na-1<a.size) (_:nb-1<b.size),lt b[nb-1] a[na-1]=false)(hna:na<=a.size:=by omega):HI lt a b (out.push b[nb-1]) na (nb-1):=by
 have e1:=take_one (l:=b.toList) (n:=nb) (by simpa using hi) hn
 have h1:=h.sb
 rw[e1,Array.getElem_toList]at h1
 refine⟨h.perm.pushB hi hn,?_,?_⟩
 ·rw[Array.toList_push,List.reverse_append]
  refine ug O (fun y hy=>?_) h1 h.sa fun y hy=>?_
  ·rcases Bw.mp hy with rfl | hy
   ·exact hb.at hi
   ·exact ha y (List.mem_of_mem_take hy)
  ·obtain⟨hl,_,rfl⟩:=tW hy (by simpa using hna)
   rw[Array.getElem_toList]
   exact hj (by simpa using hl) hi
 ·rw[Array.toList_push,List.reverse_append]
  simpa using h1
theorem i7{a out:Array Keyed}{k n:Nat}(h:k<n)(hn:n<=a.size):out++(a.extract k n).reverse=(out++(a.extract (k+1) n).reverse).push a[k]:=by
 apply Array.toList_inj.mp
 rw[Array.toList_push,Array.toList_append,Array.toList_append,Array.toList_reverse,Array.toList_reverse,Array.toList_extract,Array.toList_extract]
 show out.toList++(List.take (n-k) (a.toList.drop k)).reverse=out.toList++(List.take (n-(k+1)) (a.toList.drop (k+1))).reverse++[a[k]]
 rw[List.drop_eq_getElem_cons (l:=a.toList) (i:=k) (by simp;omega),show n-k=(n-(k+1))+1 by omega,List.take_succ_cons,List.reverse_cons,List.append_assoc]
 simp
theorem HI.manyA{a b out:Array Keyed}{na nb:Nat}(O:Ordr X lt)(ha:aT X a)(hb:aT X b)(h:HI lt a b out na nb)(k:Nat)(hk:k<=na)(hna:na<=a.size)(hc:∀i (_:k<=i) (_:i<na) (hl:i<a.size) (hj:nb-1<b.size),lt a[i] b[nb-1]=false)(hnb:nb<=b.size:=by omega):HI lt a b (out++(a.extract k na).reverse) k nb:=by
 obtain⟨d,rfl⟩:∃d,na=k+d:=⟨na-k,by omega⟩
 induction d generalizing k with
 | zero=>
  have:out++(a.extract k (k+0)).reverse=out:=by simp[Nat.min_le_left]
  rw[this]
  exact h
 | succ d ih=>
  have e:k+(d+1)=k+1+d:=by omega
  rw[i7 (show k<k+(d+1) by omega) hna]
  have h':HI lt a b out (k+1+d) nb:=by rw[←e];exact h
  have:=ih (k+1) h' (by omega) (by omega) (fun i hi hi2 hl hj=>hc i (by omega) (by omega) hl hj)
  have e2:a.extract (k+1) (k+(d+1))=a.extract (k+1) (k+1+d):=by rw[e]
  rw[e2]
  exact this.pushA O ha hb (show k+1-1<a.size by omega) (by omega) fun h1 hl=>hc k (BB _) (by omega) (by omega) hl
theorem HI.manyB{a b out:Array Keyed}{na nb:Nat}(O:Ordr X lt)(ha:aT X a)(hb:aT X b)(h:HI lt a b out na nb)(k:Nat)(hk:k<=nb)(hnb:nb<=b.size)(hc:∀i (_:k<=i) (_:i<nb) (hl:i<b.size) (hj:na-1<a.size),lt b[i] a[na-1]=false)(hna:na<=a.size:=by omega):HI lt a b (out++(b.extract k nb).reverse) na k:=by
 obtain⟨d,rfl⟩:∃d,nb=k+d:=⟨nb-k,by omega⟩
 induction d generalizing k with
 | zero=>
  have:out++(b.extract k (k+0)).reverse=out:=by simp[Nat.min_le_left]
  rw[this]
  exact h
 | succ d ih=>
  have e:k+(d+1)=k+1+d:=by omega
  rw[i7 (show k<k+(d+1) by omega) hnb]
  have h':HI lt a b out na (k+1+d):=by rw[←e];exact h
  have:=ih (k+1) h' (by omega) (by omega) (fun i hi hi2 hl hj=>hc i (by omega) (by omega) hl hj)
  have e2:b.extract (k+1) (k+(d+1))=b.extract (k+1) (k+1+d):=by rw[e]
  rw[e2]
  exact this.pushB O ha hb (show k+1-1<b.size by omega) (by omega) fun hl h1=>hc k (BB _) (by omega) (by omega) hl
theorem cw{a b out:Array Keyed}{na nb:Nat}(h:HI lt a b out na nb)(hq:na=0\/nb=0):aI lt (dm a b out na nb).toList:=by
 unfold dm
 rw[Array.toList_append,Array.toList_append,eL,eL,Array.toList_reverse]
 rcases hq with rfl | rfl
 ·rw[List.take_zero,List.nil_append]
  exact h.sb
 ·rw[List.take_zero,List.append_nil]
  exact h.sa
theorem dS{a b out:Array Keyed}{na nb:Nat}(h:HI lt a b out na nb)(hq:nb=1)(hb0:0<b.size)(hz:∀x∈a.toList,∀hl:0<b.size,lt x b[0]=false):aI lt (eQ a b out na nb).toList:=by
 subst hq
 unfold eQ
 rw[Array.toList_append,Array.toList_append,eL,eL,Array.toList_reverse,List.append_assoc]
 have e1:b.toList.take 1=[b[0]]:=by
  have:=take_one (l:=b.toList) (n:=1) (by simpa using hb0) (by decide)
  simpa using this
 have h1:=h.sa
 have h2:=h.sb
 rw[e1]at h2 ⊢
 unfold aI at h1 h2 ⊢
 rw[List.singleton_append,List.pairwise_cons]at h2 ⊢
 refine⟨fun y hy=>?_,h1⟩
 rcases BE.mp hy with q | q
 ·exact hz y (List.mem_of_mem_take q) hb0
 ·exact h2.1 y q
theorem u9{a b:Array Keyed}{st:SortSt}{Q:Array Keyed->SortSt->Prop}(O:Ordr X lt)(hc:dM prog w A s κ X lt)(hk:kindOf st=κ)(ha:aT X a)(hb:aT X b)(ha0:0<a.size)(hb0:0<b.size)(sa:aI lt a.toList)(sb:aI lt b.toList)(hz:∀x∈a.toList,∀hl:0<b.size,lt x b[0]=false)(hy:∀y∈b.toList,∀hl:a.size-1<a.size,lt a[a.size-1] y=false)
  (h:∀m st',Sm st st'->m.toList.Perm (a.toList++b.toList)->aI lt m.toList->Q m st'):wpS (model prog w) A E s (lh a b) Q st:=by
 rw[uU]
 dsimp only
 have p0:HI lt a b #[a[a.size-1]] (a.size-1) b.size:=by
  have:HI lt a b (#[]:Array Keyed) a.size b.size:=⟨by unfold PH;simp[←Bm],by simpa[←Bm]using sa,by simpa[←Bm]using sb⟩
  simpa using this.pushA O ha hb (show a.size-1<a.size by omega) (by omega) fun h1 hl=>hy _ (by simp) h1
 refine wpS_bind (wpS_lift (wpAny_rule ⟨rfl,wpS_bind (aB (show a.size-1<a.size by omega) ?_)⟩))
 by_cases n1:(a.size-1 == 0)=true
 ·rw[if_pos n1]
  exact wpS_pure (h _ _ ⟨rfl,rfl,rfl,rfl⟩ (ck p0.perm) (cw p0 (.inl (by simpa using n1))))
 rw[if_neg n1]
 by_cases n2:(b.size == 1)=true
 ·rw[if_pos n2]
  exact wpS_pure (h _ _ ⟨rfl,rfl,rfl,rfl⟩ (dU p0.perm) (dS p0 (by simpa using n2) hb0 hz))
 rw[if_neg n2]
 have n1:¬a.size-1=0:=fun e=>n1 (by rw[e];rfl)
 have n2:¬b.size=1:=fun e=>n2 (by rw[e];rfl)
 refine wpS_bind (wpS_get (wpS_bind (wpS_mono (wpS_forRange (I:=fun x c st'=>Sm st st'/\c.1=none/\HI lt a b c.2.2.2.1 c.2.1 c.2.2.1/\1<=c.2.1/\2<=c.2.2.1/\c.2.1<=a.size/\c.2.2.1<=b.size/\c.2.1+c.2.2.1+(x+1)<=a.size+b.size)
  (Q:=fun c st'=>Sm st st'/\∃m,c.1=some m/\m.toList.Perm (a.toList++b.toList)/\aI lt m.toList) ?_ ?_ ⟨⟨rfl,rfl,rfl,rfl⟩,rfl,p0,by dsimp only;omega,by dsimp only;omega,by dsimp only;omega,by dsimp only;omega,by dsimp only;omega⟩) ?_)))
 ·rintro x ⟨r,na,nb,out,mg⟩ st1 _ hx ⟨hS,hr,hP,h1,h2,h4,h5,h3⟩
  dsimp only at hr hP h1 h2 h3 h4 h5 ⊢
  refine wpS_bind (wpS_mono (wpS_forRange (I:=fun y c st'=>Sm st st'/\c.1=none/\HI lt a b c.2.2.2.1 c.2.1 c.2.2.1/\1<=c.2.1/\2<=c.2.2.1/\c.2.1<=a.size/\c.2.2.1<=b.size/\c.2.1+c.2.2.1+(x+1+min y 1)<=a.size+b.size)
   (Q:=fun c st'=>Sm st st'/\((∃m,c.1=some m/\m.toList.Perm (a.toList++b.toList)/\aI lt m.toList)\/(c.1=none/\HI lt a b c.2.2.2.1 c.2.1 c.2.2.1/\1<=c.2.1/\2<=c.2.2.1/\c.2.1<=a.size/\c.2.2.1<=b.size/\c.2.1+c.2.2.1+(x+2)<=a.size+b.size))) ?_ ?_ ⟨hS,rfl,hP,h1,h2,h4,h5,by simpa using h3⟩) ?_)
  ·clear hP h1 h2 h3 h4 h5 hS
   rintro y ⟨r,na,nb,out,ac,bc⟩ st2 _ _ ⟨hS,hr,hP,h1,h2,h4,h5,h3⟩
   dsimp only at hr hP h1 h2 h3 h4 h5 ⊢
   refine wpS_bind (aB (by omega) (wpS_bind (aB (by omega) (wpS_bind (iq hc (hS.1.trans hk) (hb.at (by omega)) (ha.at (by omega)) ?_)))))
   cases ec:lt (b[nb-1]'(by omega)) (a[na-1]'(by omega))with
   | false=>
    simp only[Bool.false_eq_true,if_false]
    refine wpS_bind (aB (by omega) ?_)
    have hP':=hP.pushB O ha hb (show nb-1<b.size by omega) (by omega) (fun hj hl=>ec)
    by_cases c1:(nb-1 == 1)=true
    ·rw[if_pos c1]
     have c1':nb-1=1:=by simpa using c1
     exact wpS_pure ⟨hS,.inl ⟨_,rfl,dU hP'.perm,dS hP' c1' hb0 hz⟩⟩
    rw[if_neg c1]
    have c1:¬nb-1=1:=fun e=>c1 (by rw[e];rfl)
    split
    ·exact wpS_pure ⟨hS,.inr ⟨rfl,hP',by dsimp only;omega,by dsimp only;omega,by dsimp only;omega,by dsimp only;omega,by dsimp only;omega⟩⟩
    ·exact wpS_pure ⟨hS,rfl,hP',by dsimp only;omega,by dsimp only;omega,by dsimp only;omega,by dsimp only;omega,by dsimp only;omega⟩
   | true=>
    simp only[if_true]
    refine wpS_bind (aB (by omega) ?_)
    have hP':=hP.pushA O ha hb (show na-1<a.size by omega) (by omega) (fun hj hl=>O.asym _ _ (hb.at hl) (ha.at hj) ec)
    by_cases c1:(na-1 == 0)=true
    ·rw[if_pos c1]
     have c1':na-1=0:=by simpa using c1
     exact wpS_pure ⟨hS,.inl ⟨_,rfl,ck hP'.perm,cw hP' (.inl c1')⟩⟩
    rw[if_neg c1]
    have c1:¬na-1=0:=fun e=>c1 (by rw[e];rfl)
    split
    ·exact wpS_pure ⟨hS,.inr ⟨rfl,hP',by dsimp only;omega,by dsimp only;omega,by dsimp only;omega,by dsimp only;omega,by dsimp only;omega⟩⟩
    ·exact wpS_pure ⟨hS,rfl,hP',by dsimp only;omega,by dsimp only;omega,by dsimp only;omega,by dsimp only;omega,by dsimp only;omega⟩
  ·rintro c st2 ⟨hS,hr,hP,h1,h2,h4,h5,h3⟩
   exact⟨hS,.inr ⟨hr,hP,h1,h2,h4,h5,by omega⟩⟩
  ·clear hP h1 h2 h3 h4 h5 hS
   rintro⟨r,na,nb,out,ac,bc⟩ st2 ⟨hS,⟨m,hr,hm⟩ | ⟨hr,hP,h1,h2,h4,h5,h3⟩⟩
   ·dsimp only at hr ⊢
    subst hr
    exact wpS_pure ⟨hS,m,rfl,hm⟩
   dsimp only at hr hP h1 h2 h3 h4 h5 ⊢
   subst hr
   dsimp only
   refine wpS_bind (wpS_lift (wpAny_rule ⟨rfl,?_⟩))
   refine wpS_bind (wpS_mono (wpS_forRange (I:=fun y c st'=>Sm st st'/\c.1=none/\HI lt a b c.2.2.2.1 c.2.1 c.2.2.1/\1<=c.2.1/\2<=c.2.2.1/\c.2.1<=a.size/\c.2.2.1<=b.size/\c.2.1+c.2.2.1+(x+2)<=a.size+b.size)
    (Q:=fun c st'=>Sm st st'/\((∃m,c.1=some m/\m.toList.Perm (a.toList++b.toList)/\aI lt m.toList)\/(c.1=none/\HI lt a b c.2.2.2.1 c.2.1 c.2.2.1/\1<=c.2.1/\2<=c.2.2.1/\c.2.1<=a.size/\c.2.2.1<=b.size/\c.2.1+c.2.2.1+(x+2)<=a.size+b.size))) ?_ (fun c st2 z=>⟨z.1,.inr z.2⟩) ⟨hS,rfl,hP,h1,h2,h4,h5,h3⟩) ?_)
   ·clear hP h1 h2 h3 h4 h5 hS
    rintro y ⟨r,na,nb,out,mg,ac,bc⟩ st2 _ _ ⟨hS,hr,hP,h1,h2,h4,h5,h3⟩
    dsimp only at hr hP h1 h2 h3 h4 h5 ⊢
    by_cases cg:mg>1
    ·rw[if_pos cg]
     refine wpS_bind (gW ?_)
     refine wpS_bind (aB (by omega) (wpS_bind (cI (left:=false) hc (hS.1.trans hk) (hb.at (by omega)) ha (by omega) (by omega) (jY O ha sa (hb.at (by omega))) fun k hkk gl gr=>?_)))
     have hP1:=hP.manyA O ha hb k (by omega) (by omega) (fun i hi hi2 hl hj=>O.asym _ _ (hb.at hj) (ha.at hl) (by have:=gr i hi hi2 (by omega);simpa[aq]using this))
     dsimp only
     by_cases c0:na-k>0
     ·rw[if_pos c0]
      by_cases c1:(k == 0)=true
      ·rw[if_pos c1]
       have c1':k=0:=by simpa using c1
       exact wpS_pure ⟨hS,.inl ⟨_,rfl,ck hP1.perm,cw hP1 (.inl c1')⟩⟩
      rw[if_neg c1]
      have c1:¬k=0:=fun e=>c1 (by rw[e];rfl)
      refine wpS_bind (aB (by omega) ?_)
      have hP2:=hP1.pushB O ha hb (show nb-1<b.size by omega) (by omega) (fun hj hl=>by have:=gl (k-1) (by omega) (by omega);simpa[aq]using this)
      by_cases c2:(nb-1 == 1)=true
      ·rw[if_pos c2]
       have c2':nb-1=1:=by simpa using c2
       exact wpS_pure ⟨hS,.inl ⟨_,rfl,dU hP2.perm,dS hP2 c2' hb0 hz⟩⟩
      rw[if_neg c2]
      have c2:¬nb-1=1:=fun e=>c2 (by rw[e];rfl)
      refine wpS_bind (aB (by omega) (wpS_bind (cI (left:=true) hc (hS.1.trans hk) (ha.at (by omega)) hb (by omega) (by omega) (eW O hb sb (ha.at (by omega))) fun k2 hk2 gl2 gr2=>?_)))
      dsimp only
      have hP3:=hP2.manyB O ha hb k2 (by omega) (by omega) (fun i hi hi2 hl hj=>by have:=gr2 i hi hi2 (by omega);simpa[aq]using this)
      by_cases c3:nb-1-k2>0
      ·rw[if_pos c3]
       by_cases c4:(k2 == 1)=true
       ·rw[if_pos c4]
        have c4':k2=1:=by simpa using c4
        exact wpS_pure ⟨hS,.inl ⟨_,rfl,dU hP3.perm,dS hP3 c4' hb0 hz⟩⟩
       rw[if_neg c4]
       have c4:¬k2=1:=fun e=>c4 (by rw[e];rfl)
       by_cases c8:(k2 == 0)=true
       ·rw[if_pos c8]
        have c8':k2=0:=by simpa using c8
        exact wpS_pure ⟨hS,.inl ⟨_,rfl,ck hP3.perm,cw hP3 (.inr c8')⟩⟩
       rw[if_neg c8]
       have c8:¬k2=0:=fun e=>c8 (by rw[e];rfl)
       refine wpS_bind (aB (by omega) ?_)
       have hP4:=hP3.pushA O ha hb (show k-1<a.size by omega) (by omega) (fun hj hl=>O.asym _ _ (hb.at hl) (ha.at hj) (by have:=gl2 (k2-1) (by omega) (by omega);simpa[aq]using this))
       by_cases c5:(k-1 == 0)=true
       ·rw[if_pos c5]
        have c5':k-1=0:=by simpa using c5
        exact wpS_pure ⟨hS,.inl ⟨_,rfl,ck hP4.perm,cw hP4 (.inl c5')⟩⟩
       rw[if_neg c5]
       have c5:¬k-1=0:=fun e=>c5 (by rw[e];rfl)
       split
       ·exact wpS_pure ⟨hS,.inr ⟨rfl,hP4,by dsimp only;omega,by dsimp only;omega,by dsimp only;omega,by dsimp only;omega,by dsimp only;omega⟩⟩
       ·exact wpS_pure ⟨hS,rfl,hP4,by dsimp only;omega,by dsimp only;omega,by dsimp only;omega,by dsimp only;omega,by dsimp only;omega⟩
      rw[if_neg c3]
      have k20:k2=nb-1:=by omega
      subst k20
      refine wpS_bind (aB (by omega) ?_)
      have hP4:=hP2.pushA O ha hb (show k-1<a.size by omega) (by omega) (fun hj hl=>O.asym _ _ (hb.at hl) (ha.at hj) (by have:=gl2 ((nb-1)-1) (by omega) (by omega);simpa[aq]using this))
      by_cases c5:(k-1 == 0)=true
      ·rw[if_pos c5]
       have c5':k-1=0:=by simpa using c5
       exact wpS_pure ⟨hS,.inl ⟨_,rfl,ck hP4.perm,cw hP4 (.inl c5')⟩⟩
      rw[if_neg c5]
      have c5:¬k-1=0:=fun e=>c5 (by rw[e];rfl)
      split
      ·exact wpS_pure ⟨hS,.inr ⟨rfl,hP4,by dsimp only;omega,by dsimp only;omega,by dsimp only;omega,by dsimp only;omega,by dsimp only;omega⟩⟩
      ·exact wpS_pure ⟨hS,rfl,hP4,by dsimp only;omega,by dsimp only;omega,by dsimp only;omega,by dsimp only;omega,by dsimp only;omega⟩
     rw[if_neg c0]
     have k00:k=na:=by omega
     subst k00
     refine wpS_bind (aB (by omega) ?_)
     have hP2:=hP.pushB O ha hb (show nb-1<b.size by omega) (by omega) (fun hj hl=>by have:=gl (k-1) (by omega) (by omega);simpa[aq]using this)
     by_cases c2:(nb-1 == 1)=true
     ·rw[if_pos c2]
      have c2':nb-1=1:=by simpa using c2
      exact wpS_pure ⟨hS,.inl ⟨_,rfl,dU hP2.perm,dS hP2 c2' hb0 hz⟩⟩
     rw[if_neg c2]
     have c2:¬nb-1=1:=fun e=>c2 (by rw[e];rfl)
     refine wpS_bind (aB (by omega) (wpS_bind (cI (left:=true) hc (hS.1.trans hk) (ha.at (by omega)) hb (by omega) (by omega) (eW O hb sb (ha.at (by omega))) fun k2 hk2 gl2 gr2=>?_)))
     dsimp only
     have hP3:=hP2.manyB O ha hb k2 (by omega) (by omega) (fun i hi hi2 hl hj=>by have:=gr2 i hi hi2 (by omega);simpa[aq]using this)
     by_cases c3:nb-1-k2>0
     ·rw[if_pos c3]
      by_cases c4:(k2 == 1)=true
      ·rw[if_pos c4]
       have c4':k2=1:=by simpa using c4
       exact wpS_pure ⟨hS,.inl ⟨_,rfl,dU hP3.perm,dS hP3 c4' hb0 hz⟩⟩
      rw[if_neg c4]
      have c4:¬k2=1:=fun e=>c4 (by rw[e];rfl)
      by_cases c8:(k2 == 0)=true
      ·rw[if_pos c8]
       have c8':k2=0:=by simpa using c8
       exact wpS_pure ⟨hS,.inl ⟨_,rfl,ck hP3.perm,cw hP3 (.inr c8')⟩⟩
      rw[if_neg c8]
      have c8:¬k2=0:=fun e=>c8 (by rw[e];rfl)
      refine wpS_bind (aB (by omega) ?_)
      have hP4:=hP3.pushA O ha hb (show k-1<a.size by omega) (by omega) (fun hj hl=>O.asym _ _ (hb.at hl) (ha.at hj) (by have:=gl2 (k2-1) (by omega) (by omega);simpa[aq]using this))
      by_cases c5:(k-1 == 0)=true
      ·rw[if_pos c5]
       have c5':k-1=0:=by simpa using c5
       exact wpS_pure ⟨hS,.inl ⟨_,rfl,ck hP4.perm,cw hP4 (.inl c5')⟩⟩
      rw[if_neg c5]
      have c5:¬k-1=0:=fun e=>c5 (by rw[e];rfl)
      split
      ·exact wpS_pure ⟨hS,.inr ⟨rfl,hP4,by dsimp only;omega,by dsimp only;omega,by dsimp only;omega,by dsimp only;omega,by dsimp only;omega⟩⟩
      ·exact wpS_pure ⟨hS,rfl,hP4,by dsimp only;omega,by dsimp only;omega,by dsimp only;omega,by dsimp only;omega,by dsimp only;omega⟩
     rw[if_neg c3]
     have k20:k2=nb-1:=by omega
     subst k20
     refine wpS_bind (aB (by omega) ?_)
     have hP4:=hP2.pushA O ha hb (show k-1<a.size by omega) (by omega) (fun hj hl=>O.asym _ _ (hb.at hl) (ha.at hj) (by have:=gl2 ((nb-1)-1) (by omega) (by omega);simpa[aq]using this))
     by_cases c5:(k-1 == 0)=true
     ·rw[if_pos c5]
      have c5':k-1=0:=by simpa using c5
      exact wpS_pure ⟨hS,.inl ⟨_,rfl,ck hP4.perm,cw hP4 (.inl c5')⟩⟩
     rw[if_neg c5]
     have c5:¬k-1=0:=fun e=>c5 (by rw[e];rfl)
     split
     ·exact wpS_pure ⟨hS,.inr ⟨rfl,hP4,by dsimp only;omega,by dsimp only;omega,by dsimp only;omega,by dsimp only;omega,by dsimp only;omega⟩⟩
     ·exact wpS_pure ⟨hS,rfl,hP4,by dsimp only;omega,by dsimp only;omega,by dsimp only;omega,by dsimp only;omega,by dsimp only;omega⟩
    ·rw[if_neg cg]
     refine wpS_bind (gW ?_)
     refine wpS_bind (aB (by omega) (wpS_bind (cI (left:=false) hc (hS.1.trans hk) (hb.at (by omega)) ha (by omega) (by omega) (jY O ha sa (hb.at (by omega))) fun k hkk gl gr=>?_)))
     have hP1:=hP.manyA O ha hb k (by omega) (by omega) (fun i hi hi2 hl hj=>O.asym _ _ (hb.at hj) (ha.at hl) (by have:=gr i hi hi2 (by omega);simpa[aq]using this))
     dsimp only
     by_cases c0:na-k>0
     ·rw[if_pos c0]
      by_cases c1:(k == 0)=true
      ·rw[if_pos c1]
       have c1':k=0:=by simpa using c1
       exact wpS_pure ⟨hS,.inl ⟨_,rfl,ck hP1.perm,cw hP1 (.inl c1')⟩⟩
      rw[if_neg c1]
      have c1:¬k=0:=fun e=>c1 (by rw[e];rfl)
      refine wpS_bind (aB (by omega) ?_)
      have hP2:=hP1.pushB O ha hb (show nb-1<b.size by omega) (by omega) (fun hj hl=>by have:=gl (k-1) (by omega) (by omega);simpa[aq]using this)
      by_cases c2:(nb-1 == 1)=true
      ·rw[if_pos c2]
       have c2':nb-1=1:=by simpa using c2
       exact wpS_pure ⟨hS,.inl ⟨_,rfl,dU hP2.perm,dS hP2 c2' hb0 hz⟩⟩
      rw[if_neg c2]
      have c2:¬nb-1=1:=fun e=>c2 (by rw[e];rfl)
      refine wpS_bind (aB (by omega) (wpS_bind (cI (left:=true) hc (hS.1.trans hk) (ha.at (by omega)) hb (by omega) (by omega) (eW O hb sb (ha.at (by omega))) fun k2 hk2 gl2 gr2=>?_)))
      dsimp only
      have hP3:=hP2.manyB O ha hb k2 (by omega) (by omega) (fun i hi hi2 hl hj=>by have:=gr2 i hi hi2 (by omega);simpa[aq]using this)
      by_cases c3:nb-1-k2>0
      ·rw[if_pos c3]
       by_cases c4:(k2 == 1)=true
       ·rw[if_pos c4]
        have c4':k2=1:=by simpa using c4
        exact wpS_pure ⟨hS,.inl ⟨_,rfl,dU hP3.perm,dS hP3 c4' hb0 hz⟩⟩
       rw[if_neg c4]
       have c4:¬k2=1:=fun e=>c4 (by rw[e];rfl)
       by_cases c8:(k2 == 0)=true
       ·rw[if_pos c8]
        have c8':k2=0:=by simpa using c8
        exact wpS_pure ⟨hS,.inl ⟨_,rfl,ck hP3.perm,cw hP3 (.inr c8')⟩⟩
       rw[if_neg c8]
       have c8:¬k2=0:=fun e=>c8 (by rw[e];rfl)
       refine wpS_bind (aB (by omega) ?_)
       have hP4:=hP3.pushA O ha hb (show k-1<a.size by omega) (by omega) (fun hj hl=>O.asym _ _ (hb.at hl) (ha.at hj) (by have:=gl2 (k2-1) (by omega) (by omega);simpa[aq]using this))
       by_cases c5:(k-1 == 0)=true
       ·rw[if_pos c5]
        have c5':k-1=0:=by simpa using c5
        exact wpS_pure ⟨hS,.inl ⟨_,rfl,ck hP4.perm,cw hP4 (.inl c5')⟩⟩
       rw[if_neg c5]
       have c5:¬k-1=0:=fun e=>c5 (by rw[e];rfl)
       split
       ·exact wpS_pure ⟨hS,.inr ⟨rfl,hP4,by dsimp only;omega,by dsimp only;omega,by dsimp only;omega,by dsimp only;omega,by dsimp only;omega⟩⟩
       ·exact wpS_pure ⟨hS,rfl,hP4,by dsimp only;omega,by dsimp only;omega,by dsimp only;omega,by dsimp only;omega,by dsimp only;omega⟩
      rw[if_neg c3]
      have k20:k2=nb-1:=by omega
      subst k20
      refine wpS_bind (aB (by omega) ?_)
      have hP4:=hP2.pushA O ha hb (show k-1<a.size by omega) (by omega) (fun hj hl=>O.asym _ _ (hb.at hl) (ha.at hj) (by have:=gl2 ((nb-1)-1) (by omega) (by omega);simpa[aq]using this))
      by_cases c5:(k-1 == 0)=true
      ·rw[if_pos c5]
       have c5':k-1=0:=by simpa using c5
       exact wpS_pure ⟨hS,.inl ⟨_,rfl,ck hP4.perm,cw hP4 (.inl c5')⟩⟩
      rw[if_neg c5]
      have c5:¬k-1=0:=fun e=>c5 (by rw[e];rfl)
      split
      ·exact wpS_pure ⟨hS,.inr ⟨rfl,hP4,by dsimp only;omega,by dsimp only;omega,by dsimp only;omega,by dsimp only;omega,by dsimp only;omega⟩⟩
      ·exact wpS_pure ⟨hS,rfl,hP4,by dsimp only;omega,by dsimp only;omega,by dsimp only;omega,by dsimp only;omega,by dsimp only;omega⟩
     rw[if_neg c0]
     have k00:k=na:=by omega
     subst k00
     refine wpS_bind (aB (by omega) ?_)
     have hP2:=hP.pushB O ha hb (show nb-1<b.size by omega) (by omega) (fun hj hl=>by have:=gl (k-1) (by omega) (by omega);simpa[aq]using this)
     by_cases c2:(nb-1 == 1)=true
     ·rw[if_pos c2]
      have c2':nb-1=1:=by simpa using c2
      exact wpS_pure ⟨hS,.inl ⟨_,rfl,dU hP2.perm,dS hP2 c2' hb0 hz⟩⟩
     rw[if_neg c2]
     have c2:¬nb-1=1:=fun e=>c2 (by rw[e];rfl)
     refine wpS_bind (aB (by omega) (wpS_bind (cI (left:=true) hc (hS.1.trans hk) (ha.at (by omega)) hb (by omega) (by omega) (eW O hb sb (ha.at (by omega))) fun k2 hk2 gl2 gr2=>?_)))
     dsimp only
     have hP3:=hP2.manyB O ha hb k2 (by omega) (by omega) (fun i hi hi2 hl hj=>by have:=gr2 i hi hi2 (by omega);simpa[aq]using this)
     by_cases c3:nb-1-k2>0
     ·rw[if_pos c3]
      by_cases c4:(k2 == 1)=true
      ·rw[if_pos c4]
       have c4':k2=1:=by simpa using c4
       exact wpS_pure ⟨hS,.inl ⟨_,rfl,dU hP3.perm,dS hP3 c4' hb0 hz⟩⟩
      rw[if_neg c4]
      have c4:¬k2=1:=fun e=>c4 (by rw[e];rfl)
      by_cases c8:(k2 == 0)=true
      ·rw[if_pos c8]
       have c8':k2=0:=by simpa using c8
       exact wpS_pure ⟨hS,.inl ⟨_,rfl,ck hP3.perm,cw hP3 (.inr c8')⟩⟩
      rw[if_neg c8]
      have c8:¬k2=0:=fun e=>c8 (by rw[e];rfl)
      refine wpS_bind (aB (by omega) ?_)
      have hP4:=hP3.pushA O ha hb (show k-1<a.size by omega) (by omega) (fun hj hl=>O.asym _ _ (hb.at hl) (ha.at hj) (by have:=gl2 (k2-1) (by omega) (by omega);simpa[aq]using this))
      by_cases c5:(k-1 == 0)=true
      ·rw[if_pos c5]
       have c5':k-1=0:=by simpa using c5
       exact wpS_pure ⟨hS,.inl ⟨_,rfl,ck hP4.perm,cw hP4 (.inl c5')⟩⟩
      rw[if_neg c5]
      have c5:¬k-1=0:=fun e=>c5 (by rw[e];rfl)
      split
      ·exact wpS_pure ⟨hS,.inr ⟨rfl,hP4,by dsimp only;omega,by dsimp only;omega,by dsimp only;omega,by dsimp only;omega,by dsimp only;omega⟩⟩
      ·exact wpS_pure ⟨hS,rfl,hP4,by dsimp only;omega,by dsimp only;omega,by dsimp only;omega,by dsimp only;omega,by dsimp only;omega⟩
     rw[if_neg c3]
     have k20:k2=nb-1:=by omega
     subst k20
     refine wpS_bind (aB (by omega) ?_)
     have hP4:=hP2.pushA O ha hb (show k-1<a.size by omega) (by omega) (fun hj hl=>O.asym _ _ (hb.at hl) (ha.at hj) (by have:=gl2 ((nb-1)-1) (by omega) (by omega);simpa[aq]using this))
     by_cases c5:(k-1 == 0)=true
     ·rw[if_pos c5]
      have c5':k-1=0:=by simpa using c5
      exact wpS_pure ⟨hS,.inl ⟨_,rfl,ck hP4.perm,cw hP4 (.inl c5')⟩⟩
     rw[if_neg c5]
     have c5:¬k-1=0:=fun e=>c5 (by rw[e];rfl)
     split
     ·exact wpS_pure ⟨hS,.inr ⟨rfl,hP4,by dsimp only;omega,by dsimp only;omega,by dsimp only;omega,by dsimp only;omega,by dsimp only;omega⟩⟩
     ·exact wpS_pure ⟨hS,rfl,hP4,by dsimp only;omega,by dsimp only;omega,by dsimp only;omega,by dsimp only;omega,by dsimp only;omega⟩
   ·clear hP h1 h2 h3 h4 h5 hS
    rintro⟨r,na,nb,out,mg2,ac,bc⟩ st2 ⟨hS,⟨m,hr,hm⟩ | ⟨hr,hP,h1,h2,h4,h5,h3⟩⟩
    ·dsimp only at hr ⊢
     subst hr
     exact wpS_pure ⟨hS,m,rfl,hm⟩
    dsimp only at hr hP h1 h2 h3 h4 h5 ⊢
    subst hr
    dsimp only
    exact wpS_bind (gW (wpS_pure ⟨hS,rfl,hP,h1,h2,h4,h5,h3⟩))
 ·rintro⟨r,na,nb,out,mg⟩ st1 ⟨hS,hr,hP,h1,h2,h4,h5,h3⟩
  dsimp only at h1 h2 h3
  omega
 ·rintro⟨r,na,nb,out,mg⟩ st1 ⟨hS,m,hr,hm⟩
  dsimp only at hr ⊢
  subst hr
  exact wpS_pure (h m st1 hS hm.1 hm.2)
def Rn(lt:Keyed->Keyed->Bool)(l:List Keyed)(x:Nat×Nat×Nat):Prop:=aI lt ((l.drop x.1).take x.2.1)
theorem bB.ge:∀{l:List (Nat×Nat×Nat)} {a b:Nat},bB a l b->∀z∈l,a<=z.1
 | [],_,_,_,z,hz=>by cases hz
 | (u,n,p)::r,a,b,h,z,hz=>by
  rcases Bw.mp hz with rfl | hz
  ·exact Nat.le_of_eq h.1.symm
  ·have:=h.2.2.ge z hz
   omega
theorem bB.parts:∀{l:List (Nat×Nat×Nat)} {a b i:Nat} {x y:Nat×Nat×Nat} (v:Nat×Nat×Nat),bB a l b->(l[i]?:Option (Nat×Nat×Nat))=some x->(l[i+1]?:Option (Nat×Nat×Nat))=some y →
  ∀z∈(l.set i v).eraseIdx (i+1),z=v\/(z∈l/\(z.1+z.2.1<=x.1\/y.1+y.2.1<=z.1))
 | [],_,_,_,_,_,_,_,h,_=>by simp at h
 | [_],a,b,0,x,y,v,hc,h1,h2=>by simp at h2
 | (u,n,p)::(u2,n2,p2)::r,a,b,0,x,y,v,hc,h1,h2=>by
  simp only[List.getElem?_cons_zero,List.getElem?_cons_succ,Option.some.injEq]at h1 h2
  subst h1 h2
  intro z hz
  have hz':z∈v::r:=hz
  rcases Bw.mp hz' with rfl | hz'
  ·exact .inl rfl
  ·refine .inr ⟨by simp[hz'],.inr ?_⟩
   obtain⟨q0,q1,q2,q3,q4⟩:=hc
   have:=q4.ge z hz'
   dsimp only
   omega
 | (u,n,p)::r,a,b,i+1,x,y,v,hc,h1,h2=>by
  simp only[List.getElem?_cons_succ]at h1 h2
  intro z hz
  have hz':z∈(u,n,p)::((r.set i v).eraseIdx (i+1)):=hz
  rcases Bw.mp hz' with rfl | hz'
  ·refine .inr ⟨by simp,.inl ?_⟩
   have:=hc.2.2.ge x (Br h1)
   have:=hc.1
   dsimp only
   omega
  ·rcases hc.2.2.parts v h1 h2 z hz' with e | ⟨e1,e2⟩
   ·exact .inl e
   ·exact .inr ⟨Bl _ e1,e2⟩
theorem vY{l r:List Keyed}{p s n:Nat}(hp:p<=l.length)(h:s+n<=p):((l.take p++r).drop s).take n=(l.drop s).take n:=by
 rw[List.drop_append_of_le_length (by rw[List.length_take];omega),List.take_append_of_le_length (by rw[List.length_drop,List.length_take];omega),List.drop_take,List.take_take,Nat.min_eq_left (by omega)]
theorem q9{l m:List Keyed}{p q s:Nat}(hq:q<=l.length)(hpq:p+m.length=q)(h:q<=s):(l.take p++(m++l.drop q)).drop s=l.drop s:=by
 rw[←List.append_assoc,List.drop_append,List.drop_eq_nil_of_le (by rw[Bz,List.length_take];omega),List.nil_append,List.drop_drop]
 congr 1
 rw[Bz,List.length_take]
 omega
theorem w6{l m:List Keyed}{s k p q e:Nat}(hp:s+k=p)(hq:p+m.length=q)(he:q<=e)(hl:e<=l.length):((l.take p++(m++l.drop q)).drop s).take (e-s)=(l.drop s).take k++(m++(l.drop q).take (e-q)):=by
 rw[List.drop_append_of_le_length (by rw[List.length_take];omega),List.drop_take,show p-s=k by omega,List.take_append,List.length_take,List.length_drop]
 rw[List.take_of_length_le (l:=(l.drop s).take k) (by rw[List.length_take,List.length_drop];omega)]
 congr 1
 rw[show min k (l.length-s)=k by omega,List.take_append,List.take_of_length_le (l:=m) (by omega)]
 congr 2
 omega
theorem cO{arr:Array Keyed}{s n:Nat}{z:Keyed}(hz:z∈(arr.toList.drop s).take n):∃i,∃hl:s+i<arr.size,i<n/\z=arr[s+i]:=by
 obtain⟨i,hi,e⟩:=List.mem_iff_getElem.mp hz
 rw[List.length_take,List.length_drop,Bm]at hi
 rw[List.getElem_take,List.getElem_drop,Array.getElem_toList]at e
 exact⟨i,by omega,by omega,e.symm⟩
theorem gG{arr:Array Keyed}{s n i j:Nat}(h:aI lt ((arr.toList.drop s).take n))(hij:i<j)(hj:j<n)(hl:s+j<arr.size):lt arr[s+j] (arr[s+i]'(by omega))=false:=by
 have:=List.pairwise_iff_getElem.mp h i j (by simp;omega) (by simp;omega) hij
 simpa using this
theorem jH{p q:List Keyed}(h1:aI lt p)(h2:aI lt q)(h:∀x∈p,∀y∈q,lt y x=false):aI lt (p++q):=List.pairwise_append.mpr ⟨h1,h2,h⟩
theorem jZ{l:List Keyed}{s n s' n':Nat}(h:aI lt ((l.drop s).take n))(h1:s<=s')(h2:s'+n'<=s+n):aI lt ((l.drop s').take n'):=by
 have e:(l.drop s').take n'=(((l.drop s).take n).drop (s'-s)).take n':=by
  rw[List.drop_take,List.drop_drop,List.take_take,show s+(s'-s)=s' by omega,Nat.min_eq_left (by omega)]
 rw[e]
 exact(h.sublist (List.drop_sublist _ _)).sublist (List.take_sublist _ _)
theorem qR{l:List Keyed}{s n m:Nat}:(l.drop s).take (n+m)=(l.drop s).take n++(l.drop (s+n)).take m:=by
 rw[List.take_add,List.drop_drop]
theorem mw{a₀:Array Keyed}{lo i:Nat}{st:SortSt}{Q:Bool->SortSt->Prop}(O:Ordr X lt)(hc:dM prog w A s κ X lt)(ha:aT X a₀)(hI:SI a₀ κ lo st)(hR:∀x∈(pendingOf st).toList,Rn lt (arrOf st).toList x)(hlo:lo<=a₀.size)(hi:i+1<(pendingOf st).size)
  (h:∀st',SI a₀ κ lo st'->(∀x∈(pendingOf st').toList,Rn lt (arrOf st').toList x)->(pendingOf st').size+1=(pendingOf st).size->(arrOf st').toList.drop lo=(arrOf st).toList.drop lo->Q true st'):wpS (model prog w) A E s (mergeAt' i) Q st:=by
 obtain⟨hp,hk,hf,hch⟩:=hI
 rw[AK]
 refine wpS_bind (wpS_get ?_)
 obtain⟨⟨sa,na,p⟩,e1⟩:∃x,(pendingOf st)[i]?=some x:=⟨_,getElem?_pos (pendingOf st) i (by omega)⟩
 obtain⟨⟨sb,nb,q⟩,e2⟩:∃x,(pendingOf st)[i+1]?=some x:=⟨_,getElem?_pos (pendingOf st) (i+1) hi⟩
 rw[e1,e2]
 dsimp only
 have e1':(pendingOf st).toList[i]?=some (sa,na,p):=by rw[Array.getElem?_toList];exact e1
 have e2':(pendingOf st).toList[i+1]?=some (sb,nb,q):=by rw[Array.getElem?_toList];exact e2
 obtain⟨k1,k2,k3,k4,k5⟩:=hch.two (i:=i) e1' e2'
 have kp:=hch.parts (sa,na+nb,p) e1' e2'
 have rA:aI lt (((arrOf st).toList.drop sa).take na):=hR _ (Br e1')
 have rB:aI lt (((arrOf st).toList.drop sb).take nb):=hR _ (Br e2')
 dsimp only at k1 k2 k3 k4 k5 kp
 have hsz:(arrOf st).size=a₀.size:=hp.size_eq
 have hax:aT X (arrOf st):=ha.perm hp
 refine wpS_bind (zt ?_)
 have hk1:kindOf (setPending st (((pendingOf st).setIfInBounds i (sa,na+nb,p)).eraseIdxIfInBounds (i+1)))=κ:=hk
 have hP1:(((pendingOf st).setIfInBounds i (sa,na+nb,p)).eraseIdxIfInBounds (i+1)).toList=((pendingOf st).toList.set i (sa,na+nb,p)).eraseIdx (i+1):=by
  rw[Array.toList_eraseIdxIfInBounds,Array.toList_setIfInBounds]
 have hS1:SI a₀ κ lo (setPending st (((pendingOf st).setIfInBounds i (sa,na+nb,p)).eraseIdxIfInBounds (i+1))):=by
  refine⟨hp,hk,hf,?_⟩
  show bB 0 (((pendingOf st).setIfInBounds i (sa,na+nb,p)).eraseIdxIfInBounds (i+1)).toList lo
  rw[hP1]
  exact k5
 have hA1:arrOf (setPending st (((pendingOf st).setIfInBounds i (sa,na+nb,p)).eraseIdxIfInBounds (i+1)))=arrOf st:=rfl
 have hn1:(pendingOf (setPending st (((pendingOf st).setIfInBounds i (sa,na+nb,p)).eraseIdxIfInBounds (i+1)))).size+1=(pendingOf st).size:=by
  show(((pendingOf st).setIfInBounds i (sa,na+nb,p)).eraseIdxIfInBounds (i+1)).size+1=_
  rw[←Bm,hP1,List.length_eraseIdx_of_lt (by rw[List.length_set,Bm];exact hi),List.length_set,Bm]
  omega
 have hM1:∀z∈(pendingOf (setPending st (((pendingOf st).setIfInBounds i (sa,na+nb,p)).eraseIdxIfInBounds (i+1)))).toList,z=(sa,na+nb,p)\/(z∈(pendingOf st).toList/\(z.1+z.2.1<=sa\/sb+nb<=z.1)):=fun z hz=>kp z (by
  have hz':z∈(((pendingOf st).setIfInBounds i (sa,na+nb,p)).eraseIdxIfInBounds (i+1)).toList:=hz
  rw[hP1]at hz'
  exact hz')
 generalize setPending st (((pendingOf st).setIfInBounds i (sa,na+nb,p)).eraseIdxIfInBounds (i+1))=st1 at hk1 hS1 hA1 hn1 hM1
 have stay:aI lt (((arrOf st).toList.drop sa).take (na+nb))->∀x∈(pendingOf st1).toList,Rn lt (arrOf st1).toList x:=fun hs x hx=>by
  rw[hA1]
  rcases hM1 x hx with rfl | ⟨e,_⟩
  ·exact hs
  ·exact hR x e
 have hXi:∀j (hl:j<(arrOf st).size),X (arrOf st)[j]:=fun j hl=>hax.at hl
 have mB:∀(i j:Nat) (hij:i<=j) (hj:sb+j<(arrOf st).size),j<nb->aq lt true ((arrOf st)[sb-1]'(by omega)) (arrOf st)[sb+j]=true->aq lt true ((arrOf st)[sb-1]'(by omega)) ((arrOf st)[sb+i]'(by omega))=true:=by
  intro i j hij hj hn hb
  unfold aq at hb ⊢
  simp only[if_true]at hb ⊢
  by_cases e:i=j
  ·subst e;exact hb
  ·have h1:=gG rB (show i<j by omega) hn hj
   cases q:lt ((arrOf st)[sb+i]'(by omega)) ((arrOf st)[sb-1]'(by omega))with
   | true=>rfl
   | false=>
    have:=O.trans _ _ _ (hXi (sb-1) (by omega)) (hXi (sb+i) (by omega)) (hXi (sb+j) hj) q h1
    rw[this]at hb
    cases hb
 have mA:∀(i j:Nat) (hij:i<=j) (hj:sa+j<(arrOf st).size),j<na->aq lt false ((arrOf st)[sb]'(by omega)) (arrOf st)[sa+j]=true->aq lt false ((arrOf st)[sb]'(by omega)) ((arrOf st)[sa+i]'(by omega))=true:=by
  intro i j hij hj hn hb
  unfold aq at hb ⊢
  simp only[Bool.false_eq_true,if_false,Bool.not_eq_true']at hb ⊢
  by_cases e:i=j
  ·subst e;exact hb
  ·exact O.trans _ _ _ (hXi (sa+i) (by omega)) (hXi (sa+j) hj) (hXi sb (by omega)) (gG rA (show i<j by omega) hn hj) hb
 refine wpS_bind (aB (by omega) (wpS_bind (cI hc hk1 (hax.at (by omega)) hax (by omega) (by omega) mA fun k hkk gl gr=>?_)))
 dsimp only
 have leA:∀j (hj:j<k) (hl:sa+j<(arrOf st).size),lt ((arrOf st)[sb]'(by omega)) (arrOf st)[sa+j]=false:=fun j hj hl=>by
  have:=gl j hj hl
  simpa[aq]using this
 have leB:∀y∈((arrOf st).toList.drop sb).take nb,lt y ((arrOf st)[sb]'(by omega))=false:=fun y hy=>by
  obtain⟨j,hl,hj,rfl⟩:=cO hy
  by_cases e:j=0
  ·subst e
   cases q:lt (arrOf st)[sb+0] ((arrOf st)[sb]'(by omega))with
   | false=>rfl
   | true=>
    have t0:lt (arrOf st)[sb+0] ((arrOf st)[sb]'(by omega))=false:=O.asym _ _ (hXi _ _) (hXi _ _) q
    rw[q]at t0
    cases t0
  ·exact gG rB (show 0<j by omega) hj hl
 by_cases c1:(na-k == 0)=true
 ·rw[if_pos c1]
  have c1:na-k=0:=by simpa using c1
  refine wpS_pure (h _ hS1 (stay ?_) hn1 (by rw[hA1]))
  rw[qR,←k1]
  refine jH rA rB fun x hx y hy=>?_
  obtain⟨j,hl,hj,rfl⟩:=cO hx
  have hy':=leB y hy
  obtain⟨j2,hl2,hj2,rfl⟩:=cO hy
  exact O.trans _ _ _ (hXi _ _) (hXi sb (by omega)) (hXi _ _) (leA j (by omega) hl) hy'
 rw[if_neg c1]
 have c1:¬na-k=0:=fun e=>c1 (by rw[e];rfl)
 rw[show sa+k+(na-k)-1=sb-1 by omega]
 refine wpS_bind (aB (by omega) (wpS_bind (cI hc hk1 (hax.at (by omega)) hax (by omega) (by omega) mB fun nb' hnb' gl2 gr2=>?_)))
 dsimp only
 have geB:∀j (hj:nb'<=j) (hn:j<nb) (hl:sb+j<(arrOf st).size),lt (arrOf st)[sb+j] ((arrOf st)[sb-1]'(by omega))=false:=fun j hj hn hl=>by
  have:=gr2 j hj hn hl
  simpa[aq]using this
 have leL:∀x∈((arrOf st).toList.drop sa).take na,lt ((arrOf st)[sb-1]'(by omega)) x=false:=fun x hx=>by
  obtain⟨j,hl,hj,rfl⟩:=cO hx
  by_cases e:j=na-1
  ·have e':sa+j=sb-1:=by omega
   cases q:lt ((arrOf st)[sb-1]'(by omega)) (arrOf st)[sa+j]with
   | false=>rfl
   | true=>
    have:=O.asym _ _ (hXi _ _) (hXi _ _) q
    simp only[e']at this q
    rw[this]at q
    cases q
  ·have:=gG rA (show j<na-1 by omega) (show na-1<na by omega) (by omega)
   simpa[show sa+(na-1)=sb-1 by omega]using this
 by_cases c2:(nb' == 0)=true
 ·rw[if_pos c2]
  have c2:nb'=0:=by simpa using c2
  refine wpS_pure (h _ hS1 (stay ?_) hn1 (by rw[hA1]))
  rw[qR,←k1]
  refine jH rA rB fun x hx y hy=>?_
  have hx':=leL x hx
  obtain⟨j,hl,hj,rfl⟩:=cO hx
  obtain⟨j2,hl2,hj2,rfl⟩:=cO hy
  exact O.trans _ _ _ (hXi _ _) (hXi (sb-1) (by omega)) (hXi _ _) hx' (geB j2 (by omega) hj2 hl2)
 rw[if_neg c2]
 have c2:¬nb'=0:=fun e=>c2 (by rw[e];rfl)
 have hx:((arrOf st).extract (sa+k) sb).size=na-k:=by
  rw[Array.size_extract]
  omega
 have hy:((arrOf st).extract sb (sb+nb')).size=nb':=by
  rw[Array.size_extract]
  omega
 have ex:((arrOf st).extract (sa+k) sb).toList=((arrOf st).toList.drop (sa+k)).take (na-k):=by
  rw[Array.toList_extract]
  show List.take (sb-(sa+k)) _=_
  rw[show sb-(sa+k)=na-k by omega]
 have ey:((arrOf st).extract sb (sb+nb')).toList=((arrOf st).toList.drop sb).take nb':=by
  rw[Array.toList_extract]
  show List.take (sb+nb'-sb) _=_
  rw[show sb+nb'-sb=nb' by omega]
 have sx:aI lt ((arrOf st).extract (sa+k) sb).toList:=by rw[ex];exact jZ rA (by omega) (by omega)
 have sy:aI lt ((arrOf st).extract sb (sb+nb')).toList:=by rw[ey];exact jZ rB (by omega) (by omega)
 have gtA:∀j (hj:k<=j) (hn:j<na) (hl:sa+j<(arrOf st).size),lt ((arrOf st)[sb]'(by omega)) (arrOf st)[sa+j]=true:=fun j hj hn hl=>by
  have:=gr j hj hn hl
  simpa[aq]using this
 have ltB:∀j (hj:j<nb') (hl:sb+j<(arrOf st).size),lt (arrOf st)[sb+j] ((arrOf st)[sb-1]'(by omega))=true:=fun j hj hl=>by
  have:=gl2 j hj hl
  simpa[aq]using this
 have h00:lt (((arrOf st).extract sb (sb+nb'))[0]'(by omega)) (((arrOf st).extract (sa+k) sb)[0]'(by omega))=true:=by
  rw[Array.getElem_extract,Array.getElem_extract]
  exact gtA k (BB _) (by omega) (by omega)
 have hzL:∀y∈((arrOf st).extract sb (sb+nb')).toList,∀hl:((arrOf st).extract (sa+k) sb).size-1<((arrOf st).extract (sa+k) sb).size,lt ((arrOf st).extract (sa+k) sb)[((arrOf st).extract (sa+k) sb).size-1] y=false:=fun y hy' hl=>by
  rw[ey]at hy'
  obtain⟨j,hl',hj,rfl⟩:=cO hy'
  rw[Array.getElem_extract]
  have:=O.asym _ _ (hXi _ _) (hXi _ _) (ltB j hj hl')
  simpa[hx,show sa+k+(na-k-1)=sb-1 by omega]using this
 have hzH:∀x∈((arrOf st).extract (sa+k) sb).toList,∀hl:0<((arrOf st).extract sb (sb+nb')).size,lt x ((arrOf st).extract sb (sb+nb'))[0]=false:=fun x hx' hl=>by
  rw[ex]at hx'
  obtain⟨j,hl',hj,rfl⟩:=cO hx'
  rw[Array.getElem_extract]
  have:=O.asym _ _ (hXi _ _) (hXi _ _) (gtA (k+j) (by omega) (by omega) (by omega))
  simpa[Nat.add_assoc]using this
 have fin:∀(m:Array Keyed) (st2:SortSt),Sm st1 st2->m.toList.Perm (((arrOf st).extract (sa+k) sb).toList++((arrOf st).extract sb (sb+nb')).toList)->aI lt m.toList →
   wpS (model prog w) A E s (do
    modify fun s=>setArr s (m.toList.zipIdx.foldl (fun(a:Array Keyed) (x:Keyed×Nat)=>a.setIfInBounds (sa+k+x.2) x.1) (arrOf s))
    return (failedOf (←get)).isNone) Q st2:=by
  intro m st2 hS hm hms
  refine wpS_bind (wpS_modify (wpS_bind (wpS_get (wpS_pure ?_))))
  have e:(failedOf (setArr st2 (m.toList.zipIdx.foldl (fun(a:Array Keyed) (x:Keyed×Nat)=>a.setIfInBounds (sa+k+x.2) x.1) (arrOf st2)))).isNone=true:=by
   show(failedOf st2).isNone=true
   rw[hS.2.2.2,hS1.2.2.1]
   rfl
  rw[e]
  have hml:m.toList.length=(na-k)+nb':=by
   rw[hm.length_eq,Bz,Bm,Bm,hx,hy]
  have e4:(m.toList.zipIdx.foldl (fun(a:Array Keyed) (x:Keyed×Nat)=>a.setIfInBounds (sa+k+x.2) x.1) (arrOf st2)).toList=(arrOf st).toList.take (sa+k)++(m.toList++(arrOf st).toList.drop (sb+nb')):=by
   rw[hS.2.1,hA1,rR (sa+k) m.toList 0 _ (by omega),show sa+k+0=sa+k from rfl,show sa+k+m.toList.length=sb+nb' by omega]
  refine h _ ⟨?_,hS.1.trans hk1,hS.2.2.2.trans hS1.2.2.1,by show bB 0 (pendingOf st2).toList lo;rw[hS.2.2.1];exact hS1.2.2.2⟩ (fun z hz=>?_) (by show(pendingOf st2).size+1=_;rw[hS.2.2.1];exact hn1) (by
   show(m.toList.zipIdx.foldl (fun(a:Array Keyed) (x:Keyed×Nat)=>a.setIfInBounds (sa+k+x.2) x.1) (arrOf st2)).toList.drop lo=_
   rw[e4]
   exact q9 (by rw[Bm];omega) (by omega) (by omega))
  ·show(m.toList.zipIdx.foldl (fun(a:Array Keyed) (x:Keyed×Nat)=>a.setIfInBounds (sa+k+x.2) x.1) (arrOf st2)).Perm a₀
   refine Array.Perm.trans ?_ hp
   refine Array.perm_iff_toList_perm.mpr ?_
   rw[e4]
   have e3:(arrOf st).toList=(arrOf st).toList.take (sa+k)++((((arrOf st).extract (sa+k) sb).toList++((arrOf st).extract sb (sb+nb')).toList)++(arrOf st).toList.drop (sb+nb')):=by
    have d1:=pG (arrOf st) sb nb'
    have d2:=pG (arrOf st) (sa+k) (na-k)
    rw[show sa+k+(na-k)=sb by omega]at d2
    rw[List.append_assoc,d1,d2,List.take_append_drop]
   conv=>rhs;rw[e3]
   exact(hm.append_right _).append_left _
  ·show aI lt (((m.toList.zipIdx.foldl (fun(a:Array Keyed) (x:Keyed×Nat)=>a.setIfInBounds (sa+k+x.2) x.1) (arrOf st2)).toList.drop z.1).take z.2.1)
   rw[e4]
   have hz':z∈(pendingOf st1).toList:=by
    have:z∈(pendingOf st2).toList:=hz
    rwa [hS.2.2.1]at this
   have hll:(arrOf st).toList.length=(arrOf st).size:=Bm
   rcases hM1 z hz' with rfl | ⟨hzo,hq | hq⟩
   ·dsimp only
    have sn:=w6 (l:=(arrOf st).toList) (m:=m.toList) (s:=sa) (k:=k) (p:=sa+k) (q:=sb+nb') (e:=sa+(na+nb)) rfl (by omega) (by omega) (by omega)
    rw[show sa+(na+nb)-sa=na+nb by omega,show sa+(na+nb)-(sb+nb')=nb-nb' by omega]at sn
    rw[sn]
    have mm:∀y∈m.toList,(∃j,∃hl:sa+j<(arrOf st).size,k<=j/\j<na/\y=(arrOf st)[sa+j])\/(∃j,∃hl:sb+j<(arrOf st).size,j<nb'/\y=(arrOf st)[sb+j]):=fun y hy'=>by
     rcases BE.mp (hm.mem_iff.mp hy')with q | q
     ·rw[ex]at q
      obtain⟨j,hl,hj,rfl⟩:=cO q
      exact .inl ⟨k+j,by omega,by omega,by omega,by simp[Nat.add_assoc]⟩
     ·rw[ey]at q
      obtain⟨j,hl,hj,rfl⟩:=cO q
      exact .inr ⟨j,hl,hj,rfl⟩
    have toB:∀j (hj:j<k) (hl:sa+j<(arrOf st).size) j2 (hj2:j2<nb) (hl2:sb+j2<(arrOf st).size),lt (arrOf st)[sb+j2] (arrOf st)[sa+j]=false:=fun j hj hl j2 hj2 hl2=>by
     have b1:lt (arrOf st)[sb+j2] ((arrOf st)[sb]'(by omega))=false:=leB _ (by
      have:(((arrOf st).toList.drop sb).take nb)[j2]?=some (arrOf st)[sb+j2]:=by
       rw[List.getElem?_take_of_lt hj2,List.getElem?_drop,Array.getElem?_toList,getElem?_pos (arrOf st) (sb+j2) hl2]
      exact Br this)
     exact O.trans _ _ _ (hXi _ _) (hXi sb (by omega)) (hXi _ _) (leA j hj hl) b1
    refine jH (jZ rA (BB _) (by omega)) (jH hms (jZ rB (by omega) (by omega)) fun x hx' y hy'=>?_) fun x hx' y hy'=>?_
    ·obtain⟨j2,hl2,hj2,rfl⟩:=cO hy'
     rcases mm x hx' with⟨j,hl,q1,q2,rfl⟩ | ⟨j,hl,q1,rfl⟩
     ·have a1:lt ((arrOf st)[sb-1]'(by omega)) (arrOf st)[sa+j]=false:=leL _ (by
       have:(((arrOf st).toList.drop sa).take na)[j]?=some (arrOf st)[sa+j]:=by
        rw[List.getElem?_take_of_lt q2,List.getElem?_drop,Array.getElem?_toList,getElem?_pos (arrOf st) (sa+j) hl]
       exact Br this)
      have a2:=geB (nb'+j2) (by omega) (by omega) (by omega)
      have:=O.trans _ _ _ (hXi (sa+j) hl) (hXi (sb-1) (by omega)) (hXi (sb+(nb'+j2)) (by omega)) a1 a2
      simpa[Nat.add_assoc]using this
     ·have:=gG rB (show j<nb'+j2 by omega) (by omega) (by omega)
      simpa[Nat.add_assoc]using this
    ·obtain⟨j,hl,hj,rfl⟩:=cO hx'
     rcases BE.mp hy' with q | q
     ·rcases mm y q with⟨j2,hl2,q1,q2,rfl⟩ | ⟨j2,hl2,q1,rfl⟩
      ·exact gG rA (show j<j2 by omega) q2 hl2
      ·exact toB j hj hl j2 (by omega) hl2
     ·obtain⟨j2,hl2,hj2,rfl⟩:=cO q
      have:=toB j hj hl (nb'+j2) (by omega) (by omega)
      simpa[Nat.add_assoc]using this
   ·rw[vY (by omega) (by omega)]
    exact hR z hzo
   ·rw[q9 (by omega) (by omega) (by omega)]
    exact hR z hzo
 split
 ·exact wpS_bind (vN O hc hk1 (hax.extract _ _) (hax.extract _ _) (by omega) (by omega) sx sy h00 hzL fin)
 ·exact wpS_bind (u9 O hc hk1 (hax.extract _ _) (hax.extract _ _) (by omega) (by omega) sx sy hzH hzL fin)
end
end PyProof.Rows
namespace PyProof.Rows
open PySem
def kd(xs:Array Keyed)(i:Nat):Keyed:=(xs[i]?).getD (.none,.none)
theorem ef{xs:Array Keyed}{i:Nat}(h:i<xs.size):xs[i]=kd xs i:=by
 unfold kd
 rw[getElem?_pos xs i h]
 rfl
theorem nL{xs:Array Keyed}{i j:Nat}(hj:j<=xs.size)(k:Nat):kd (mirror xs i j ((j-i) / 2)) k=if i<=k/\k<j then kd xs (i+j-1-k)else kd xs k:=by
 unfold kd
 rw[getElem?_mirror_all hj]
 split<;>rfl
theorem nX{xs:Array Keyed}{src d:Nat}(hs:src<xs.size)(hd:d<=src)(k:Nat):kd (bubble xs src d) k=if k=src-d then kd xs src else if src-d<k/\k<=src then kd xs (k-1)else kd xs k:=by
 unfold kd
 rw[getElem?_bubble hs d hd]
 split
 ·rfl
 ·split<;>rfl
section
variable {prog:Program} {w:World} {A:Around} {E:Value->Shared->Prop} {s:Shared} {κ:SortKind} {X:Keyed->Prop} {lt:Keyed->Keyed->Bool}
structure Unl(X:Keyed->Prop)(lt:Keyed->Keyed->Bool)(a₀:Array Keyed):Prop where
 o:Ordr X lt
 t:∀x y,X x->X y->x≠y->lt x y=true\/lt y x=true
 a:aT X a₀
 n:a₀.toList.Nodup
theorem Unl.x{a₀ xs:Array Keyed}(h:Unl X lt a₀)(hp:xs.Perm a₀){i:Nat}(hi:i<xs.size):X (kd xs i):=by
 rw[←ef hi]
 exact(h.a.perm hp).at hi
theorem Unl.ne{a₀ xs:Array Keyed}(h:Unl X lt a₀)(hp:xs.Perm a₀){i j:Nat}(hi:i<xs.size)(hj:j<xs.size)(hij:i≠j):kd xs i≠kd xs j:=by
 have hn:xs.toList.Nodup:=(Array.perm_iff_toList_perm.mp hp).nodup_iff.mpr h.n
 rw[←ef hi,←ef hj]
 intro e
 have hi':i<xs.toList.length:=hi
 have hj':j<xs.toList.length:=hj
 rcases Nat.lt_or_gt_of_ne hij with z | z
 ·exact List.pairwise_iff_getElem.mp hn i j hi' hj' z e
 ·exact List.pairwise_iff_getElem.mp hn j i hj' hi' z e.symm
theorem Unl.or{a₀ xs:Array Keyed}(h:Unl X lt a₀)(hp:xs.Perm a₀){i j:Nat}(hi:i<xs.size)(hj:j<xs.size)(hij:i≠j):lt (kd xs i) (kd xs j)=true\/lt (kd xs j) (kd xs i)=true:=
 h.t _ _ (h.x hp hi) (h.x hp hj) (h.ne hp hi hj hij)
theorem gQ{a₀:Array Keyed}{st:SortSt}{i j:Nat}{Q:Option Bool->SortSt->Prop}(hc:dM prog w A s κ X lt)(hU:Unl X lt a₀)(hk:kindOf st=κ)(hp:(arrOf st).Perm a₀)(hi:i<(arrOf st).size)(hj:j<(arrOf st).size)
  (h:Q (some (lt (kd (arrOf st) i) (kd (arrOf st) j))) st):wpS (model prog w) A E s (ltAt' i j) Q st:=by
 rw[←ef hi,←ef hj]at h
 exact zf hc hk (hU.a.perm hp) hi hj h
def Sg(lt:Keyed->Keyed->Bool)(xs:Array Keyed)(lo n:Nat):Prop:=∀i j,i<j->j<n->lt (kd xs (lo+j)) (kd xs (lo+i))=false
theorem Sg.srt{xs:Array Keyed}{lo n:Nat}(h:Sg lt xs lo n)(hn:lo+n<=xs.size):aI lt ((xs.toList.drop lo).take n):=by
 unfold aI
 rw[List.pairwise_iff_getElem]
 intro i j hi hj hij
 rw[List.length_take,List.length_drop,Bm]at hi hj
 rw[List.getElem_take,List.getElem_take,List.getElem_drop,List.getElem_drop,Array.getElem_toList,Array.getElem_toList,ef,ef]
 exact h i j hij (by omega)
theorem Sg.more{a₀ xs:Array Keyed}{lo n:Nat}(hU:Unl X lt a₀)(hp:xs.Perm a₀)(h:Sg lt xs lo n)(h1:1<=n)(hn:lo+n<xs.size)(hl:lt (kd xs (lo+n)) (kd xs (lo+n-1))=false):Sg lt xs lo (n+1):=fun i j hij hj=>by
 rcases Nat.lt_or_ge j n with z | z
 ·exact h i j hij z
 ·have:j=n:=by omega
  subst this
  rcases Nat.lt_or_ge i (j-1)with z1 | z1
  ·have h2:=h i (j-1) z1 (by omega)
   rw[show lo+(j-1)=lo+j-1 by omega]at h2
   exact hU.o.trans _ _ _ (hU.x hp (by omega)) (hU.x hp (by omega)) (hU.x hp (by omega)) h2 hl
  ·rw[show lo+i=lo+j-1 by omega]
   exact hl
def KL(lo:Nat)(st st':SortSt):Prop:=Kp st st'/\∀i,i<lo->kd (arrOf st') i=kd (arrOf st) i
theorem KL.rfl'(lo:Nat)(st:SortSt):KL lo st st:=⟨Kp.rfl' st,fun _ _=>rfl⟩
theorem vL{a₀:Array Keyed}{st:SortSt}{lo nrem:Nat}{Q:Option Nat->SortSt->Prop}(hc:dM prog w A s κ X lt)(hU:Unl X lt a₀)(hk:kindOf st=κ)(hp:(arrOf st).Perm a₀)(hn:lo+nrem<=(arrOf st).size)(h1:1<=nrem)
  (h:∀m st',KL lo st st'->1<=m->m<=nrem->Sg lt (arrOf st') lo m->Q (some m) st'):wpS (model prog w) A E s (countRun' lo nrem) Q st:=by
 rw[countRun'_eq]
 dsimp only
 have s1:Sg lt (arrOf st) lo 1:=fun i j hij hj=>by omega
 refine wpS_bind (wpS_mono (wpS_forRange (I:=fun x c st'=>st'=st/\c=(none,x)/\Sg lt (arrOf st) lo x) (Q:=fun c st'=>st'=st/\∃n,c=(none,n)/\1<=n/\n<=nrem/\Sg lt (arrOf st) lo n/\(n=nrem\/lt (kd (arrOf st) (lo+n)) (kd (arrOf st) (lo+n-1))=true)) ?_ ?_ ⟨rfl,rfl,s1⟩) ?_)
 ·rintro x c st1 hx1 hx2 ⟨rfl,rfl,hS⟩
  dsimp only
  refine wpS_bind (gQ hc hU hk hp (by omega) (by omega) ?_)
  cases hb:lt (kd (arrOf st1) (lo+x)) (kd (arrOf st1) (lo+x-1))
  ·exact wpS_pure ⟨rfl,rfl,hS.more hU hp hx1 (by omega) hb⟩
  ·exact wpS_pure ⟨rfl,x,rfl,hx1,by omega,hS,.inr hb⟩
 ·rintro c st1 ⟨rfl,rfl,hS⟩
  have e:max 1 nrem=nrem:=by omega
  rw[e]at hS
  exact⟨rfl,_,by rw[e],by omega,BB _,hS,.inl rfl⟩
 rintro c st1 ⟨rfl,n,rfl,hn1,hn2,hS,hlast⟩
 dsimp only
 by_cases c1:(n == nrem)=true
 ·rw[if_pos c1]
  exact wpS_pure (h n _ (KL.rfl' _ _) hn1 hn2 hS)
 rw[if_neg c1]
 have c1:¬n=nrem:=fun e=>c1 (by rw[e];exact beq_self_eq_true _)
 have hlast:=hlast.resolve_left c1
 by_cases c2:n>1
 ·rw[if_pos c2]
  refine wpS_bind (gQ hc hU hk hp (by omega) (by omega) ?_)
  have hl:=hS 0 (n-1) (by omega) (by omega)
  rw[Nat.add_zero,show lo+(n-1)=lo+n-1 by omega]at hl
  have:lt (kd (arrOf st1) lo) (kd (arrOf st1) (lo+n-1))=true:=(hU.or hp (by omega) (by omega) (by omega)).resolve_right (by rw[hl];exact Bx)
  rw[this]
  simp only[if_true]
  exact wpS_pure (h n _ (KL.rfl' _ _) hn1 hn2 hS)
 rw[if_neg c2]
 have hn1':n=1:=by omega
 subst hn1'
 refine wpS_bind (wpS_lift (wpAny_rule ⟨rfl,?_⟩))
 have d2:∀i j,i<j->j<2->lt (kd (arrOf st1) (lo+j)) (kd (arrOf st1) (lo+i))=true:=fun i j h1 h2=>by
  have:i=0/\j=1:=by omega
  rw[this.1,this.2]
  exact hlast
 refine wpS_bind (wpS_mono (wpS_forRange (I:=fun x c st'=>st'=st1/\c=(none,x,0)/\∀i j,i<j->j<x->lt (kd (arrOf st1) (lo+j)) (kd (arrOf st1) (lo+i))=true) (Q:=fun c st'=>st'=st1/\∃m,c=(none,m,0)/\1<=m/\m<=nrem/\∀i j,i<j->j<m->lt (kd (arrOf st1) (lo+j)) (kd (arrOf st1) (lo+i))=true) ?_ ?_ ⟨rfl,rfl,d2⟩) ?_)
 ·rintro x c st3 hx1 hx2 ⟨rfl,rfl,hD⟩
  dsimp only
  refine wpS_bind (gQ hc hU hk hp (by omega) (by omega) ?_)
  cases hb:lt (kd (arrOf st3) (lo+x)) (kd (arrOf st3) (lo+x-1))
  ·simp only[Bool.false_eq_true,if_false]
   refine wpS_bind (gQ hc hU hk hp (by omega) (by omega) ?_)
   rw[(hU.or hp (i:=lo+x) (j:=lo+x-1) (by omega) (by omega) (by omega)).resolve_left (by rw[hb];exact Bx)]
   exact wpS_pure ⟨rfl,x,rfl,by omega,by omega,hD⟩
  ·simp only[if_true]
   rw[if_neg (by decide)]
   refine wpS_pure ⟨rfl,rfl,fun i j hij hj=>?_⟩
   rcases Nat.lt_or_ge j x with z | z
   ·exact hD i j hij z
   ·have:j=x:=by omega
    subst this
    rcases Nat.lt_or_ge i (j-1)with z1 | z1
    ·have h2:=hD i (j-1) z1 (by omega)
     rw[show lo+(j-1)=lo+j-1 by omega]at h2
     refine(hU.or hp (i:=lo+j) (j:=lo+i) (by omega) (by omega) (by omega)).resolve_right fun z=>?_
     have x1:=hU.x hp (i:=lo+j) (by omega)
     have x2:=hU.x hp (i:=lo+j-1) (by omega)
     have x3:=hU.x hp (i:=lo+i) (by omega)
     have:=hU.o.trans _ _ _ x1 x2 x3 (hU.o.asym _ _ x1 x2 hb) (hU.o.asym _ _ x2 x3 h2)
     rw[this]at z
     cases z
    ·rw[show lo+i=lo+j-1 by omega]
     exact hb
 ·rintro c st3 ⟨rfl,rfl,hD⟩
  exact⟨rfl,_,rfl,by omega,by omega,hD⟩
 rintro c st3 ⟨rfl,m,rfl,hm1,hm2,hD⟩
 dsimp only
 rw[if_neg (by decide)]
 refine wpS_bind (wpS_reverse ?_)
 have hK5:KL lo st3 (setArr st3 (mirror (arrOf st3) lo (lo+m) ((lo+m-lo) / 2))):=⟨(Kp.rfl' _).arr (mirror_perm _ _ _ _),fun i hi=>by
  show kd (mirror (arrOf st3) lo (lo+m) ((lo+m-lo) / 2)) i=_
  rw[nL (by omega),if_neg (by omega)]⟩
 have hS5:Sg lt (mirror (arrOf st3) lo (lo+m) ((lo+m-lo) / 2)) lo m:=fun i j hij hj=>by
  rw[nL (by omega),nL (by omega),if_pos (by omega),if_pos (by omega)]
  have:=hD (m-1-j) (m-1-i) (by omega) (by omega)
  rw[show lo+(m-1-j)=lo+(lo+m)-1-(lo+j) by omega,show lo+(m-1-i)=lo+(lo+m)-1-(lo+i) by omega]at this
  exact hU.o.asym _ _ (hU.x hp (by omega)) (hU.x hp (by omega)) this
 have hp5:(arrOf (setArr st3 (mirror (arrOf st3) lo (lo+m) ((lo+m-lo) / 2)))).Perm a₀:=(mirror_perm _ _ _ _).trans hp
 have hz5:(arrOf (setArr st3 (mirror (arrOf st3) lo (lo+m) ((lo+m-lo) / 2)))).size=(arrOf st3).size:=mirror_size _ _ _ _
 have hk5:kindOf (setArr st3 (mirror (arrOf st3) lo (lo+m) ((lo+m-lo) / 2)))=κ:=hk
 have hS5:Sg lt (arrOf (setArr st3 (mirror (arrOf st3) lo (lo+m) ((lo+m-lo) / 2)))) lo m:=hS5
 generalize setArr st3 (mirror (arrOf st3) lo (lo+m) ((lo+m-lo) / 2))=st5 at hK5 hS5 hp5 hz5 hk5 ⊢
 refine wpS_bind (wpS_mono (wpS_forRange (I:=fun x c st'=>st'=st5/\c=(none,x)/\Sg lt (arrOf st5) lo x) (Q:=fun c st'=>st'=st5/\∃n,c=(none,n)/\1<=n/\n<=nrem/\Sg lt (arrOf st5) lo n) ?_ ?_ ⟨rfl,rfl,hS5⟩) ?_)
 ·rintro x c st6 hx1 hx2 ⟨rfl,rfl,hS⟩
  dsimp only
  refine wpS_bind (gQ hc hU hk5 hp5 (by omega) (by omega) ?_)
  cases hb:lt (kd (arrOf st6) (lo+x)) (kd (arrOf st6) (lo+x-1))
  ·exact wpS_pure ⟨rfl,rfl,hS.more hU hp5 (by omega) (by omega) hb⟩
  ·exact wpS_pure ⟨rfl,x,rfl,by omega,by omega,hS⟩
 ·rintro c st6 ⟨rfl,rfl,hS⟩
  exact⟨rfl,_,rfl,by omega,by omega,hS⟩
 rintro c st6 ⟨rfl,n',rfl,hn1,hn2,hS⟩
 exact wpS_pure (h n' _ hK5 hn1 hn2 hS)
theorem xT{a₀:Array Keyed}{st:SortSt}{lo n ok:Nat}{Q:Bool->SortSt->Prop}(hc:dM prog w A s κ X lt)(hU:Unl X lt a₀)(hk:kindOf st=κ)(hp:(arrOf st).Perm a₀)(hn:lo+n<=(arrOf st).size)(hok:ok<=n)(hs:Sg lt (arrOf st) lo ok)
  (h:∀st',KL lo st st'->Sg lt (arrOf st') lo n->Q true st'):wpS (model prog w) A E s (binarySort' lo n ok) Q st:=by
 rw[binarySort'_eq]
 refine wpS_bind (wpS_mono (wpS_forRange (I:=fun k c st'=>c=(none,())/\KL lo st st'/\Sg lt (arrOf st') lo (min k n)) (Q:=fun c st'=>c=(none,())/\KL lo st st'/\Sg lt (arrOf st') lo n) ?step ?fin ?init) ?post)
 case post=>
  rintro c st' ⟨rfl,hK,hs'⟩
  exact wpS_pure (h st' hK hs')
 case init=>exact⟨rfl,KL.rfl' _ _,fun i j hij hj=>by
  rcases Nat.lt_or_ge j ok with z | z
  ·exact hs i j hij z
  ·omega⟩
 case fin=>
  rintro c st' ⟨hc',hK,hs'⟩
  refine⟨hc',hK,?_⟩
  rwa [show min (max (max ok 1) n) n=n by omega]at hs'
 case step=>
  rintro k c st' hak hkn ⟨rfl,hK,hs'⟩
  rw[show min k n=k by omega]at hs'
  have hp':(arrOf st').Perm a₀:=hK.1.2.1.trans hp
  have hk':kindOf st'=κ:=hK.1.1.trans hk
  have hz:(arrOf st').size=(arrOf st).size:=hK.1.size
  have hx:∀i,i<=k->X (kd (arrOf st') (lo+i)):=fun i hi=>hU.x hp' (by omega)
  refine wpS_bind (wpS_mono (wpS_forRange (I:=fun x c st''=>st''=st'/\∃l r,c=(none,l,r)/\l<=r/\r<=k/\r-l<=k-x ∧
    (∀i,i<l->lt (kd (arrOf st') (lo+k)) (kd (arrOf st') (lo+i))=false)/\(∀i,r<=i->i<k->lt (kd (arrOf st') (lo+k)) (kd (arrOf st') (lo+i))=true))
   (Q:=fun c st''=>st''=st'/\∃l r,c=(none,l,r)/\l<=k ∧
    (∀i,i<l->lt (kd (arrOf st') (lo+k)) (kd (arrOf st') (lo+i))=false)/\(∀i,l<=i->i<k->lt (kd (arrOf st') (lo+k)) (kd (arrOf st') (lo+i))=true)) ?istep ?ifin ?iinit) ?ipost)
  case iinit=>exact⟨rfl,0,k,rfl,by omega,by omega,by omega,fun i hi=>by omega,fun i h1 h2=>by omega⟩
  case ifin=>
   rintro c st'' ⟨rfl,l,r,rfl,hlr,hrk,hm,hlo,hhi⟩
   have:l=r:=by omega
   subst this
   exact⟨rfl,l,l,rfl,hrk,hlo,hhi⟩
  case istep=>
   rintro x c st'' _ hxk ⟨rfl,l,r,rfl,hlr,hrk,hm,hlo,hhi⟩
   dsimp only
   by_cases hge:l ≥ r
   ·rw[if_pos hge]
    have:l=r:=by omega
    subst this
    exact wpS_pure ⟨rfl,l,l,rfl,hrk,hlo,hhi⟩
   ·rw[if_neg hge]
    refine wpS_bind (gQ hc hU hk' hp' (by omega) (by omega) ?_)
    cases hless:lt (kd (arrOf st'') (lo+k)) (kd (arrOf st'') (lo+(l+r) / 2))
    case true=>
     simp only[if_true]
     refine wpS_pure ⟨rfl,l,(l+r) / 2,rfl,by omega,by omega,by omega,hlo,fun i h1 h2=>?_⟩
     rcases Nat.lt_or_ge ((l+r) / 2) i with z | z
     ·have h3:=hs' _ _ z h2
      refine(hU.or hp' (i:=lo+k) (j:=lo+i) (by omega) (by omega) (by omega)).resolve_right fun z=>?_
      have:=hU.o.trans _ _ _ (hx _ (by omega)) (hx i (by omega)) (hx k (BB _)) h3 (hU.o.asym _ _ (hx i (by omega)) (hx k (BB _)) z)
      rw[hless]at this
      cases this
     ·rw[show i=(l+r) / 2 by omega]
      exact hless
    case false=>
     simp only[Bool.false_eq_true,if_false]
     refine wpS_pure ⟨rfl,(l+r) / 2+1,r,rfl,by omega,by omega,by omega,fun i h1=>?_,hhi⟩
     rcases Nat.lt_or_ge i ((l+r) / 2)with z | z
     ·exact hU.o.trans _ _ _ (hx i (by omega)) (hx _ (by omega)) (hx k (BB _)) (hs' i ((l+r) / 2) z (by omega)) hless
     ·rw[show i=(l+r) / 2 by omega]
      exact hless
  case ipost=>
   rintro c st'' ⟨rfl,l,r,rfl,hlk,hlo,hhi⟩
   show wpS _ _ _ _ (do moveDown' (lo+k) (lo+l);pure (ForInStep.yield (none,()))) _ _
   rw[moveDown'_eq]
   refine wpS_bind (wpS_modify (wpS_pure ⟨rfl,⟨hK.1.arr (bubble_perm _ _ _),fun i hi=>?_⟩,?_⟩))
   ·show kd (bubble (arrOf st'') (lo+k) (lo+k-(lo+l))) i=_
    rw[nX (by omega) (by omega),if_neg (by omega),if_neg (by omega)]
    exact hK.2 i hi
   rw[show min (k+1) n=k+1 by omega]
   intro i j hij hj
   show lt (kd (bubble (arrOf st'') (lo+k) (lo+k-(lo+l))) (lo+j)) (kd (bubble (arrOf st'') (lo+k) (lo+k-(lo+l))) (lo+i))=false
   rw[nX (by omega) (by omega),nX (by omega) (by omega),show lo+k-(lo+k-(lo+l))=lo+l by omega]
   have pr:∀z,1<=z->lo+z-1=lo+(z-1):=fun z hz=>by omega
   by_cases a1:lo+j=lo+l
   ·rw[if_pos a1,if_neg (by omega),if_neg (by omega)]
    exact hlo i (by omega)
   ·rw[if_neg a1]
    by_cases a2:lo+l<lo+j/\lo+j<=lo+k
    ·rw[if_pos a2,pr j (by omega)]
     by_cases b1:lo+i=lo+l
     ·rw[if_pos b1]
      exact hU.o.asym _ _ (hx k (BB _)) (hx _ (by omega)) (hhi (j-1) (by omega) (by omega))
     ·rw[if_neg b1]
      by_cases b2:lo+l<lo+i/\lo+i<=lo+k
      ·rw[if_pos b2,pr i (by omega)]
       exact hs' (i-1) (j-1) (by omega) (by omega)
      ·rw[if_neg b2]
       exact hs' i (j-1) (by omega) (by omega)
    ·rw[if_neg a2,if_neg (by omega),if_neg (by omega)]
     exact hs' i j hij (by omega)
theorem Sg.of{xs:Array Keyed}{lo n:Nat}(h:aI lt ((xs.toList.drop lo).take n))(hn:lo+n<=xs.size):Sg lt xs lo n:=fun i j hij hj=>by
 have hl:((xs.toList.drop lo).take n).length=n:=by rw[List.length_take,List.length_drop,Bm];omega
 have:=List.pairwise_iff_getElem.mp h i j (by omega) (by omega) hij
 rw[List.getElem_take,List.getElem_take,List.getElem_drop,List.getElem_drop,Array.getElem_toList,Array.getElem_toList,ef,ef]at this
 exact this
theorem bB.in_:∀{l:List (Nat×Nat×Nat)} {a b:Nat},bB a l b->∀z∈l,z.1+z.2.1<=b
 | [],_,_,_,z,hz=>by cases hz
 | (u,n,p)::r,a,b,h,z,hz=>by
  rcases Bw.mp hz with rfl | hz
  ·have:=h.2.2.le
   have:=h.1
   show u+n<=b
   omega
  ·exact h.2.2.in_ z hz
theorem bB.len:∀{l:List (Nat×Nat×Nat)} {a b:Nat},bB a l b->a+l.length<=b
 | [],_,_,h=>by rw[show _=_ from h];exact BB _
 | (u,n,p)::r,a,b,h=>by
  have:=h.2.2.len
  have:=h.2.1
  rw[BI]
  omega
theorem Sg.same{xs ys:Array Keyed}{lo n:Nat}(h:Sg lt xs lo n)(hn:lo+n<=xs.size)(hz:ys.size=xs.size)(e:ys.toList.drop lo=xs.toList.drop lo):Sg lt ys lo n:=by
 refine Sg.of ?_ (by omega)
 rw[e]
 exact h.srt hn
def SJ(lt:Keyed->Keyed->Bool)(a₀:Array Keyed)(κ:SortKind)(lo:Nat)(st:SortSt):Prop:=SI a₀ κ lo st/\∀x∈(pendingOf st).toList,Rn lt (arrOf st).toList x
theorem SJ.kl{a₀:Array Keyed}{lo:Nat}{st st':SortSt}(h:SJ lt a₀ κ lo st)(hlo:lo<=a₀.size)(hK:KL lo st st'):SJ lt a₀ κ lo st':=by
 have hz:(arrOf st').size=(arrOf st).size:=hK.1.size
 have hz0:(arrOf st).size=a₀.size:=h.1.1.size_eq
 refine⟨h.1.kp hK.1,fun x hx=>?_⟩
 rw[hK.1.2.2.1]at hx
 have hin:=h.1.2.2.2.in_ x hx
 have hs:=Sg.of (h.2 x hx) (by omega)
 refine Sg.srt (lo:=x.1) (n:=x.2.1) (fun i j hij hj=>?_) (by omega)
 rw[hK.2 _ (by omega),hK.2 _ (by omega)]
 exact hs i j hij hj
theorem SJ.push{a₀:Array Keyed}{lo n:Nat}{st:SortSt}(h:SJ lt a₀ κ lo st)(hn:1<=n)(hlo:lo+n<=a₀.size)(hS:Sg lt (arrOf st) lo n):SJ lt a₀ κ (lo+n) (setPending st ((pendingOf st).push (lo,n,0))):=by
 have hz0:(arrOf st).size=a₀.size:=h.1.1.size_eq
 refine⟨⟨h.1.1,h.1.2.1,h.1.2.2.1,?_⟩,fun x hx=>?_⟩
 ·show bB 0 ((pendingOf st).push (lo,n,0)).toList (lo+n)
  rw[Array.toList_push]
  exact h.1.2.2.2.snoc hn
 ·have hx:x∈((pendingOf st).push (lo,n,0)).toList:=hx
  rw[Array.toList_push]at hx
  rcases BE.mp hx with z | z
  ·exact h.2 x z
  ·rw[Bs.mp z]
   exact hS.srt (by omega)
theorem SJ.pw{a₀:Array Keyed}{lo pw:Nat}{st:SortSt}(h:SJ lt a₀ κ lo st):SJ lt a₀ κ lo (setPending st ((pendingOf st).modify ((pendingOf st).size-1) fun(st,len,_)=>(st,len,pw))):=by
 refine⟨⟨h.1.1,h.1.2.1,h.1.2.2.1,?_⟩,fun x hx=>?_⟩
 ·show bB 0 ((pendingOf st).modify ((pendingOf st).size-1) fun(st,len,_)=>(st,len,pw)).toList lo
  rw[Array.toList_modify]
  exact h.1.2.2.2.last (fun _=>pw) _
 ·have hx:x∈((pendingOf st).modify ((pendingOf st).size-1) fun(st,len,_)=>(st,len,pw)).toList:=hx
  rw[Array.toList_modify]at hx
  obtain⟨i,hi⟩:=List.getElem?_of_mem hx
  rw[List.getElem?_modify]at hi
  obtain⟨y,hy,e⟩:=Bt.mp hi
  have hr:=h.2 y (Br hy)
  have e1:x.1=y.1/\x.2.1=y.2.1:=by
   rw[←e]
   split<;>exact⟨rfl,rfl⟩
  unfold Rn at hr ⊢
  rw[e1.1,e1.2]
  exact hr
theorem wo{a₀:Array Keyed}{st:SortSt}{Q:Unit->SortSt->Prop}(hc:dM prog w A s κ X lt)(hU:Unl X lt a₀)(hI:SI a₀ κ 0 st)(hP:pendingOf st = #[])
  (h:∀st',(arrOf st').Perm a₀->failedOf st'=none->Sg lt (arrOf st') 0 a₀.size->Q () st'):wpS (model prog w) A E s sortRuns' Q st:=by
 rw[sortRuns'_eq]
 refine wpS_bind (wpS_get ?_)
 dsimp only
 have hsz:(arrOf st).size=a₀.size:=hI.1.size_eq
 rw[hsz]
 have hJ:SJ lt a₀ κ 0 st:=⟨hI,fun x hx=>by rw[hP]at hx;simp at hx⟩
 generalize minRun' a₀.size a₀.size 0=mr
 refine wpS_bind (wpS_mono (wpS_forRange (I:=fun x c st'=>c.1=none/\c.2<=a₀.size/\min x a₀.size<=c.2/\SJ lt a₀ κ c.2 st') (Q:=fun c st'=>c.1=none/\c.2=a₀.size/\SJ lt a₀ κ c.2 st') ?_ ?_ ⟨rfl,Nat.zero_le _,by omega,hJ⟩) ?_)
 ·rintro x ⟨r,lo⟩ st1 _ hxs ⟨hr,hlo,hxl,h1⟩
  dsimp only at hr hlo h1 hxl ⊢
  subst hr
  by_cases c0:lo ≥ a₀.size
  ·rw[if_pos c0]
   exact wpS_pure ⟨rfl,by dsimp only;omega,h1⟩
  rw[if_neg c0]
  have hs1:(arrOf st1).size=a₀.size:=h1.1.1.size_eq
  refine wpS_bind (vL hc hU h1.1.2.1 h1.1.1 (by omega) (by omega) fun m st2 hK2 hm1 hm2 hS2=>?_)
  dsimp only
  have h2:=h1.kl hlo hK2
  by_cases c1:m<mr
  ·rw[if_pos c1]
   refine wpS_bind (wpS_lift (wpAny_rule ⟨rfl,?_⟩))
   have hs2:(arrOf st2).size=a₀.size:=h2.1.1.size_eq
   refine wpS_bind (xT hc hU h2.1.2.1 h2.1.1 (by omega) (by omega) hS2 fun st3 hK3 hS3=>?_)
   simp only[Bool.not_true,Bool.false_eq_true,if_false]
   have h3:=h2.kl hlo hK3
   refine wpS_bind (wpS_get ?_)
   cases hb:(pendingOf st3).back? with
   | none=>
    dsimp only
    exact wpS_bind (wpS_modify (wpS_pure ⟨rfl,by dsimp only;omega,by dsimp only;omega,h3.push (by omega) (by omega) hS3⟩))
   | some bk=>
    obtain⟨s1,n1,p1⟩:=bk
    dsimp only
    generalize power' a₀.size (2*s1+n1) (2*s1+n1+n1+min (a₀.size-lo) mr) a₀.size=pw
    refine wpS_bind (wpS_mono (wpS_forRange (I:=fun _ c st'=>c=(none,())/\SJ lt a₀ κ lo st'/\Sg lt (arrOf st') lo (min (a₀.size-lo) mr)) (Q:=fun c st'=>c=(none,())/\SJ lt a₀ κ lo st'/\Sg lt (arrOf st') lo (min (a₀.size-lo) mr)) ?_ (fun _ _ z=>z) ⟨rfl,h3,hS3⟩) ?_)
    ·rintro y c st4 _ _ ⟨rfl,h4,hS4⟩
     refine wpS_bind (wpS_get ?_)
     by_cases c1:(pendingOf st4).size>1
     ·rw[if_pos c1,getElem?_pos (pendingOf st4) ((pendingOf st4).size-2) (by omega)]
      generalize (pendingOf st4)[(pendingOf st4).size-2]'_=o
      obtain⟨o1,o2,older⟩:=o
      dsimp only
      by_cases c2:older<=pw
      ·rw[if_pos c2]
       exact wpS_pure ⟨rfl,h4,hS4⟩
      rw[if_neg c2]
      have hz4:(arrOf st4).size=a₀.size:=h4.1.1.size_eq
      refine wpS_bind (mw hU.o hc hU.a h4.1 h4.2 hlo (by omega) fun st5 h5 hR5 _ hd5=>?_)
      have hz5:(arrOf st5).size=a₀.size:=h5.1.size_eq
      exact wpS_pure ⟨rfl,⟨h5,hR5⟩,hS4.same (by omega) (by omega) hd5⟩
     ·rw[if_neg c1]
      exact wpS_pure ⟨rfl,h4,hS4⟩
    ·rintro c st4 ⟨rfl,h4,hS4⟩
     exact wpS_bind (wpS_modify (wpS_bind (wpS_modify (wpS_pure ⟨rfl,by dsimp only;omega,by dsimp only;omega,h4.pw.push (by omega) (by omega) hS4⟩))))
  ·rw[if_neg c1]
   refine wpS_bind (wpS_get ?_)
   cases hb:(pendingOf st2).back? with
   | none=>
    dsimp only
    exact wpS_bind (wpS_modify (wpS_pure ⟨rfl,by dsimp only;omega,by dsimp only;omega,h2.push hm1 (by omega) hS2⟩))
   | some bk=>
    obtain⟨s1,n1,p1⟩:=bk
    dsimp only
    generalize power' a₀.size (2*s1+n1) (2*s1+n1+n1+m) a₀.size=pw
    refine wpS_bind (wpS_mono (wpS_forRange (I:=fun _ c st'=>c=(none,())/\SJ lt a₀ κ lo st'/\Sg lt (arrOf st') lo (m)) (Q:=fun c st'=>c=(none,())/\SJ lt a₀ κ lo st'/\Sg lt (arrOf st') lo (m)) ?_ (fun _ _ z=>z) ⟨rfl,h2,hS2⟩) ?_)
    ·rintro y c st4 _ _ ⟨rfl,h4,hS4⟩
     refine wpS_bind (wpS_get ?_)
     by_cases c1:(pendingOf st4).size>1
     ·rw[if_pos c1,getElem?_pos (pendingOf st4) ((pendingOf st4).size-2) (by omega)]
      generalize (pendingOf st4)[(pendingOf st4).size-2]'_=o
      obtain⟨o1,o2,older⟩:=o
      dsimp only
      by_cases c2:older<=pw
      ·rw[if_pos c2]
       exact wpS_pure ⟨rfl,h4,hS4⟩
      rw[if_neg c2]
      have hz4:(arrOf st4).size=a₀.size:=h4.1.1.size_eq
      refine wpS_bind (mw hU.o hc hU.a h4.1 h4.2 hlo (by omega) fun st5 h5 hR5 _ hd5=>?_)
      have hz5:(arrOf st5).size=a₀.size:=h5.1.size_eq
      exact wpS_pure ⟨rfl,⟨h5,hR5⟩,hS4.same (by omega) (by omega) hd5⟩
     ·rw[if_neg c1]
      exact wpS_pure ⟨rfl,h4,hS4⟩
    ·rintro c st4 ⟨rfl,h4,hS4⟩
     exact wpS_bind (wpS_modify (wpS_bind (wpS_modify (wpS_pure ⟨rfl,by dsimp only;omega,by dsimp only;omega,h4.pw.push (by omega) (by omega) hS4⟩))))
 ·rintro c st1 ⟨hr,hlo,hxl,h1⟩
  refine⟨hr,?_,h1⟩
  rw[show max 0 a₀.size=a₀.size by omega]at hxl
  omega
 ·rintro⟨r,lo⟩ st1 ⟨hr,hlo,h1⟩
  dsimp only at hr hlo h1 ⊢
  subst hr
  dsimp only
  have hl1:=h1.1.2.2.2.len
  rw[Bm,hlo]at hl1
  refine wpS_bind (wpS_mono (wpS_forRange (I:=fun x c st'=>c=(none,())/\SJ lt a₀ κ lo st'/\(pendingOf st').size<=max 1 (a₀.size-x)) (Q:=fun c st'=>c=(none,())/\SJ lt a₀ κ lo st'/\(pendingOf st').size<=1) ?_ ?_ ⟨rfl,h1,by omega⟩) ?_)
  ·rintro y c st4 _ _ ⟨rfl,h4,hy⟩
   refine wpS_bind (wpS_get ?_)
   by_cases c1:(pendingOf st4).size<=1
   ·rw[if_pos c1]
    exact wpS_pure ⟨rfl,h4,c1⟩
   rw[if_neg c1]
   refine wpS_bind (mw hU.o hc hU.a h4.1 h4.2 (by omega) ?_ fun st5 h5 hR5 hz5 _=>?_)
   ·exact xp (by omega) (by omega)
   ·exact wpS_pure ⟨rfl,⟨h5,hR5⟩,by omega⟩
  ·rintro c st4 ⟨hc',h4,hy⟩
   exact⟨hc',h4,by rw[show max 0 a₀.size=a₀.size by omega]at hy;omega⟩
  ·rintro c st4 ⟨rfl,h4,hy⟩
   refine wpS_pure (h _ h4.1.1 h4.1.2.2.1 ?_)
   have hz4:(arrOf st4).size=a₀.size:=h4.1.1.size_eq
   have hch:=h4.1.2.2.2
   have hR4:=h4.2
   have hyl:(pendingOf st4).toList.length<=1:=hy
   match hq:(pendingOf st4).toList,hch,hR4,hyl with
   | [],hch,_,_=>
    have:0=lo:=hch
    intro i j hij hj
    omega
   | [(u,n,p)],hch,hR,_=>
    obtain⟨rfl,_,hn⟩:=hch
    have hn:0+n=lo:=hn
    have:=Sg.of (hR _ (Bs.mpr rfl)) (by dsimp only;omega)
    dsimp only at this
    rw[show n=a₀.size by omega]at this
    exact this
   | _::_::_,_,_,hl=>exact absurd hl (by simp)
end
end PyProof.Rows
namespace L2.Ti
open PySem PySem.Spec PyProof.Rows
theorem below_at{xs:Array Nat}(hs:xs.toList.Pairwise (· < ·)){i j:Nat}(h:xs[i]?=some j):SetTable.below xs (j+1)=i+1:=by
 obtain⟨h1,h2,h3⟩:=Tb.ic hs (j+1)
 have hi:i<SetTable.below xs (j+1):=by
  rcases Nat.lt_or_ge i (SetTable.below xs (j+1))with z | z
  ·exact z
  ·have:=h3 i j z h
   omega
 rcases Nat.lt_or_ge (i+1) (SetTable.below xs (j+1))with z | z
 ·have hx:xs[i+1]?=some xs[i+1]:=getElem?_pos xs (i+1) (by omega)
  have a:=h2 (i+1) _ z hx
  have b:=Tb.jT hs h hx (Nat.lt_succ_self i)
  omega
 ·omega
theorem wD{xs:Array Nat}(hs:xs.toList.Pairwise (· < ·)):SetTable.below xs 0=0:=by
 obtain⟨h1,h2,h3⟩:=Tb.ic hs 0
 rcases Nat.eq_zero_or_pos (SetTable.below xs 0)with z | z
 ·exact z
 ·have:=h2 0 _ z (getElem?_pos xs 0 (by omega))
  omega
section
variable {P:Program} {w:World} {A:Around} {E:Value->Shared->Prop} {s:Shared}
theorem vQ{it a:Addr}{i ep slot:Nat}{o:Obj}{es:Array (Int×Value)}{t:SetTable}{Q:Option Value->Shared->Prop}(hT:w.params.followText "set-order" = false)(hit:s.heap.get? it=some (bG a (rawInt (slot:Int)) i es.size ep))(ho:s.heap.get? a=some o)(hd:o.data=.set es ep t)(hf:t.fits es.size=true)(h1:(!t.plain && decide (es.size>1))=false)(hl:t.led=true)
  {x:Int×Value} {j:Nat} (hx:es[SetTable.below t.place slot]?=some x) (hj:t.place[SetTable.below t.place slot]?=some j) (hQ:∀h',h'.get? it=some (bG a (rawInt ((j+1:Nat):Int)) (i+1) es.size ep)->Heap.SameBut it s.heap h'->Q (some x.2) { s with heap:=h' }):wpAny (model P w) A (pyNext (.ref it)) Q E s:=by
 have T:s.TypeIs (.ref it) "set_iterator":=⟨_,hit,rfl⟩
 unfold pyNext
 refine Bc (wpAny_attempt (wpAny_callSpecial?_slot (name:=Str.ofString "__next__") T SF.slot_next (wpAny_call_entry SF.slot_next T SF.entry_next ?_ (SF.args_next _))))
 show wpAny _ _ (fieldsOf (.ref it) >>= _) _ _ s
 refine Bc (wpAny_fieldsOf hit rfl ?_)
 show wpAny _ _ (setEntries a >>= _) _ _ s
 unfold setEntries
 refine Bc (Bc (wpAny_setState_of ho hd hf (Bd ?_)))
 rw[if_neg (by simp)]
 show wpAny _ _ (setNext a slot _ _ >>= _) _ _ s
 unfold setNext
 refine Bc (Bc (wpAny_setState_of ho hd hf ?_))
 dsimp only
 unfold setsByText
 refine Bc (Bc (wpAny_askSetting (Bd ?_)))
 rw[show (model P w).w.params.followText "set-order" = false from hT]
 simp only[Bool.false_eq_true,if_false]
 have hdr:¬((!t.plain && decide (es.size>1))=true):=by
  rw[h1]
  exact Bx
 split
 ·rename_i hh
  exact absurd hh hdr
 ·refine Bc ?_
  show wpAny _ _ (if(!t.led && !es.isEmpty)=true then unsupported _ else pure ()) _ _ _
  rw[if_neg (by rw[hl];exact Bx)]
  refine Bd (Bd ?_)
  rw[hx,hj]
  dsimp only
  refine Bc (wpAny_setField hit rfl (by simp) ?_)
  have e1':(s.heap.update it (Obj.mapFields (·.setIfInBounds 0 (rawInt ((j+1:Nat):Int))))).get? it=some (bG a (rawInt ((j+1:Nat):Int)) i es.size ep):=fY (k:=0) (x:=rawInt ((j+1:Nat):Int)) hit rfl
  refine Bc (wpAny_setField (s:={ s with heap:=s.heap.update it (Obj.mapFields (·.setIfInBounds 0 (rawInt ((j+1:Nat):Int)))) }) e1' rfl (by simp) ?_)
  have e2:=fY (k:=1) (x:=rawInt ((i:Int)+1)) e1' rfl
  refine Bd ⟨_,rfl,Bd (hQ _ ?_ ((Heap.SameBut.update ..).trans (Heap.SameBut.update ..)))⟩
  exact e2
theorem AW{it a:Addr}{i ep slot:Nat}{o:Obj}{es:Array (Int×Value)}{t:SetTable}{Q:Option Value->Shared->Prop}(hh:A.handled=none)(hT:w.params.followText "set-order" = false)(hit:s.heap.get? it=some (bG a (rawInt (slot:Int)) i es.size ep))(ho:s.heap.get? a=some o)(hd:o.data=.set es ep t)(hf:t.fits es.size=true)(h1:(!t.plain && decide (es.size>1))=false)(hl:t.led=true)
  (hx:es[SetTable.below t.place slot]?=none) (hQ:∀h',Heap.ExtBut it s.heap h'->Q none { s with heap:=h' }):wpAny (model P w) A (pyNext (.ref it)) Q E s:=by
 have T:s.TypeIs (.ref it) "set_iterator":=⟨_,hit,rfl⟩
 unfold pyNext
 refine Bc (wpAny_attempt (wpAny_callSpecial?_slot (name:=Str.ofString "__next__") T SF.slot_next (wpAny_call_entry SF.slot_next T SF.entry_next ?_ (SF.args_next _))))
 show wpAny _ _ (fieldsOf (.ref it) >>= _) _ _ s
 refine Bc (wpAny_fieldsOf hit rfl ?_)
 show wpAny _ _ (setEntries a >>= _) _ _ s
 unfold setEntries
 refine Bc (Bc (wpAny_setState_of ho hd hf (Bd ?_)))
 rw[if_neg (by simp)]
 show wpAny _ _ (setNext a slot _ _ >>= _) _ _ s
 unfold setNext
 refine Bc (Bc (wpAny_setState_of ho hd hf ?_))
 dsimp only
 unfold setsByText
 refine Bc (Bc (wpAny_askSetting (Bd ?_)))
 rw[show (model P w).w.params.followText "set-order" = false from hT]
 simp only[Bool.false_eq_true,if_false]
 have hdr:¬((!t.plain && decide (es.size>1))=true):=by
  rw[h1]
  exact Bx
 split
 ·rename_i hh
  exact absurd hh hdr
 ·refine Bc ?_
  show wpAny _ _ (if(!t.led && !es.isEmpty)=true then unsupported _ else pure ()) _ _ _
  rw[if_neg (by rw[hl];exact Bx)]
  refine Bd (Bd ?_)
  rw[hx]
  dsimp only
  refine Bc (wpAny_setField hit rfl (by simp) ?_)
  exact nY (s:=s) (it:=it) hh (Heap.SameBut.update ..).extBut hQ
theorem wc(hh:A.handled=none)(hT:w.params.followText "set-order" = false)(I a:Addr)(hne:a≠I){o:Obj}{es:Array (Int×Value)}{ep:Nat}{t:SetTable}(hd:o.data=.set es ep t)(hf:t.fits es.size=true)(h1:(!t.plain && decide (es.size>1))=false)(hl:t.led=true)(hp:t.place.size=es.size)(hinc:t.place.toList.Pairwise (· < ·)):
  Walks P w A I [I,a] [I] es.size (fun i v=>∃x,es[i]?=some x/\v=x.2) (fun i h=>(∃slot:Nat,h.get? I=some (bG a (rawInt (slot:Int)) i es.size ep)/\SetTable.below t.place slot=i)/\h.get? a=some o) where
 sub:=fun b hb=>by simp at hb;simp[hb]
 frame:=fun _ _ _ st hk=>by
  obtain⟨⟨slot,h1,h2⟩,h3⟩:=st
  exact⟨⟨slot,hk I (by simp) _ h1,h2⟩,hk a (by simp) _ h3⟩
 item:=fun i s Q E hi st hQ=>by
  obtain⟨⟨slot,q1,q2⟩,q3⟩:=st
  have hx:=getElem?_pos es i hi
  have hj:=getElem?_pos t.place i (by omega)
  refine vQ hT q1 q3 hd hf h1 hl (by rw[q2];exact hx) (by rw[q2];exact hj) fun h' hit' sb=>?_
  refine hQ _ h' s.toks ⟨_,hx,rfl⟩ ⟨⟨_,hit',?_⟩,(sb.2 a hne).trans q3⟩ fun b o hb e=>sb.extBut b o (fun h=>hb (by simp[h])) e
  exact below_at hinc hj
 done:=fun s Q E st hQ=>by
  obtain⟨⟨slot,q1,q2⟩,q3⟩:=st
  exact AW hh hT q1 q3 hd hf h1 hl (by rw[q2];exact Array.getElem?_eq_none (BB _)) fun h' he'=>hQ h' s.toks fun b o hb e=>he' b o (fun h=>hb (by simp[h])) e
 self:=fun i s Q E st hQ=>by
  obtain⟨⟨slot,q1,q2⟩,q3⟩:=st
  exact mW q1 hQ
theorem zS{a:Addr}{o:Obj}{es:Array (Int×Value)}{ep:Nat}{t:SetTable}{Q:Value->Shared->Prop}(ho:s.heap.get? a=some o)(hex:o.ExactSet)(hd:o.data=.set es ep t)(hf:t.fits es.size=true)(hsz:es.size<=sizeLine)
  (hT:w.params.followText "set-order" = true\/(!t.plain && decide (es.size>1))=false->Q (.ref s.heap.objs.size) { s with heap:=s.heap.push (bG a (rawInt 0) 0 es.size ep) })
  (hD:∀(ys:List Nat) d,ys.Perm (List.range es.size)->Q (.ref (s.heap.objs.size+1)) { s with heap:=(s.heap.push (seqObj "tuple" (ys.map fun(i:Nat)=>rawInt i).toArray 0)).push (bG a (.ref s.heap.objs.size) 0 es.size ep),drawn:=d }) :
  wpAny (model P w) A (pyIter (.ref a)) Q E s:=by
 have T:s.TypeIs (.ref a) "set":=⟨o,ho,hex.1⟩
 refine wpAny_pyIter_slot T F.slot_set_iter (wpAny_call_entry F.slot_set_iter T SF.xS ?_ (SF.Ap _))
 show wpAny _ _ (Builtin.Frozenset.sizeOf a >>= _) _ _ s
 unfold Builtin.Frozenset.sizeOf setEntries
 refine Bc (Bc (Bc (wpAny_setState_of ho hd hf (Bd (Bd ?_)))))
 show wpAny _ _ (setDrawn a >>= _) _ _ s
 unfold setDrawn
 refine Bc (Bc (wpAny_setState_of ho hd hf ?_))
 dsimp only
 unfold setsByText
 refine Bc (Bc (wpAny_askSetting (Bd (Bd ?_))))
 by_cases hq:(!(w.params.followText "set-order") && (!t.plain && decide (es.size>1)))=true
 ·rw[if_pos (by exact hq)]
  refine Bc (rM _ _ s (by rw[List.length_range]) fun ys d hp=>?_)
  have hyl:ys.length=es.size:=by rw[hp.length_eq,List.length_range]
  simp only[newTuple]
  refine Bc (wpAny_newObj_type ?_ (by show(List.map _ ys).toArray.size<=sizeLine;rw[Bn,Bi,hyl];exact hsz))
  unfold setEpoch
  refine Bc (Bc (wpAny_setState_of (s:={ s with heap:=s.heap.push (seqObj "tuple" (ys.map fun(i:Nat)=>rawInt i).toArray 0),drawn:=d }) (Bf _ ho) hd hf (Bd ?_)))
  simp only[newFields]
  have hs1:(s.heap.push (seqObj "tuple" (ys.map fun(i:Nat)=>rawInt i).toArray 0)).objs.size=s.heap.objs.size+1:=Heap.size_push _ _
  refine Bc (wpAny_newObj_type (Bd ⟨_,rfl,"set_iterator",_,⟨_,Bg _ rfl,rfl⟩,SF.slot_next.lookup,?_⟩) (by size_fits))
  have:=hD ys d hp
  rw[←hs1]at this
  exact this
 ·rw[if_neg (by exact hq)]
  refine Bc (Bd ?_)
  unfold setEpoch
  refine Bc (Bc (wpAny_setState_of ho hd hf (Bd ?_)))
  simp only[newFields]
  refine Bc (wpAny_newObj_type (Bd ⟨_,rfl,"set_iterator",_,⟨_,Bg _ rfl,rfl⟩,SF.slot_next.lookup,?_⟩) (by size_fits))
  refine hT ?_
  cases hf':w.params.followText "set-order" with
  | true=>exact .inl rfl
  | false=>
   rw[hf',Bool.not_false,Bool.true_and]at hq
   exact .inr (Bool.eq_false_iff.mpr hq)
theorem zT{a:Addr}{o:Obj}{es:Array (Int×Value)}{ep:Nat}{t:SetTable}{Q:Value->Shared->Prop}(hA:A.handled=none)(ho:s.heap.get? a=some o)(hex:o.ExactSet)(hd:o.data=.set es ep t)(hf:t.fits es.size=true)(hled:t.led=bH w)(hp:t.place.size=es.size)(hinc:t.place.toList.Pairwise (· < ·))(hsz:es.size<=sizeLine)
  (h:∀(I:Addr) (h1:Heap) d (fp:List Addr) (Pz:Nat->Value->Prop) (St:Nat->Heap->Prop),Walks P w A I fp [I] es.size Pz St->St 0 h1->s.heap.objs.size<=I->(∀c∈fp,c=a\/s.heap.objs.size<=c)->(∀b o',s.heap.get? b=some o'->h1.get? b=some o')->(∀acc:Array Value,acc.size=es.size->(∀i v,acc[i]?=some v->Pz i v)->acc.toList.Perm (es.toList.map (·.2)))->Q (.ref I) { s with heap:=h1,drawn:=d }):wpAny (model P w) A (pyIter (.ref a)) Q E s:=by
 have hlt:a<s.heap.objs.size:=Bh ho
 have inOrder:∀{xs:Array (Int×Value)} {acc:Array Value},acc.size=xs.size->(∀i v,acc[i]?=some v->∃x:Int×Value,xs[i]?=some x/\v=x.2)->acc.toList=xs.toList.map (·.2):=fun{xs acc} e1 e2=>by
  apply List.ext_getElem
  ·rw[Bm,Bi,Bm,e1]
  ·intro i q1 q2
   rw[Bm]at q1
   obtain⟨x,hx,hv⟩:=e2 i acc[i] (getElem?_pos acc i q1)
   rw[Array.getElem_toList,hv,List.getElem_map,Array.getElem_toList]
   obtain⟨_,e⟩:=Array.getElem?_eq_some_iff.mp hx
   rw[e]
 refine zS ho hex hd hf hsz (fun hT=>?_) (fun ys d hq=>?_)
 ·have hfp:∀c∈[s.heap.objs.size,a],c=a\/s.heap.objs.size<=c:=fun c hc=>by
   rcases Bw.mp hc with z | z
   ·exact .inr (Nat.le_of_eq z.symm)
   ·exact .inl (Bs.mp z)
  have g1:(s.heap.push (bG a (rawInt 0) 0 es.size ep)).get? s.heap.objs.size=some (bG a (rawInt 0) 0 es.size ep):=Bg _ rfl
  have g2:=Bf (bG a (rawInt 0) 0 es.size ep) ho
  cases hq:w.params.followText "set-order" with
  | true=>
   refine h _ _ s.drawn _ _ _ (u4 hA hq s.heap.objs.size a (BA hlt) hd hf) ⟨g1,g2⟩ (BB _) hfp (fun b o' e=>Bf _ e) fun acc a1 a2=>?_
   have hl:(pickOrder (w.params.setOrder a ep) es).size=es.size:=by
    rw[←Bm,(jj _ es).length_eq,Bm]
   rw[inOrder (a1.trans hl.symm) a2]
   exact(jj (w.params.setOrder a ep) es).map (·.2)
  | false=>
   have hl:t.led=true:=by
    rw[hled]
    show(!w.params.followText "set-order")=true
    rw[hq]
    rfl
   refine h _ _ s.drawn _ _ _ (wc hA hq s.heap.objs.size a (BA hlt) hd hf (hT.resolve_left (by rw[hq];decide)) hl hp hinc) ⟨⟨0,g1,wD hinc⟩,g2⟩ (BB _) hfp (fun b o' e=>Bf _ e) fun acc a1 a2=>?_
   rw[inOrder a1 a2]
 ·have hs2:(s.heap.push (seqObj "tuple" (ys.map fun(i:Nat)=>rawInt i).toArray 0)).objs.size=s.heap.objs.size+1:=Heap.size_push _ _
  have g1:((s.heap.push (seqObj "tuple" (ys.map fun(i:Nat)=>rawInt i).toArray 0)).push (bG a (.ref s.heap.objs.size) 0 es.size ep)).get? (s.heap.objs.size+1)=some (bG a (.ref s.heap.objs.size) 0 es.size ep):=by
   rw[←hs2]
   exact Bg _ rfl
  refine h _ _ d _ _ _ (yl hA (s.heap.objs.size+1) a s.heap.objs.size (BA (Nat.lt_succ_of_lt hlt)) (BA (Nat.lt_succ_self _)) hd hf hq) ⟨g1,Bf _ (Bf _ ho),Bf _ (Bg _ rfl)⟩ (Nat.le_succ _) (fun c hc=>?_) (fun b o' e=>Bf _ (Bf _ e)) fun acc h1 h2=>?_
  ·rcases Bw.mp hc with z | z
   ·exact .inr (by rw[z];exact Nat.le_succ _)
   ·rcases Bw.mp z with z | z
    ·exact .inl z
    ·exact .inr (Nat.le_of_eq (Bs.mp z).symm)
  ·have hyl:ys.length=es.size:=by rw[hq.length_eq,List.length_range]
   have e0:acc.toList=(ys.filterMap (es[·]?)).map (·.2):=by
    apply List.ext_getElem?
    intro i
    rw[Bk,Tb.ir es ys (fun y hy=>List.mem_range.mp (hq.mem_iff.mp hy))]
    by_cases q1:i<acc.size
    ·have e1:=getElem?_pos acc i q1
     obtain⟨y,x,hy,hx,hv⟩:=h2 i acc[i] e1
     have e2:acc.toList[i]?=some acc[i]:=by rw[Array.getElem?_toList];exact e1
     rw[e2,hy,Option.bind_some,hx,hv]
     rfl
    ·have e2:acc.toList[i]?=none:=List.getElem?_eq_none (by rw[Bm];omega)
     rw[e2,List.getElem?_eq_none (by rw[hyl,←h1];omega)]
     rfl
   rw[e0]
   refine List.Perm.map _ ?_
   have e3:(List.range es.size).filterMap (es[·]?)=es.toList:=by
    apply List.ext_getElem?
    intro n
    have e4:es.toList[n]?=es[n]?:=Array.getElem?_toList
    rw[e4,Tb.ir es _ (fun i hi=>List.mem_range.mp hi)]
    by_cases hn:n<es.size
    ·rw[List.getElem?_range hn]
     rfl
    ·have e5:(List.range es.size)[n]?=none:=List.getElem?_eq_none (by rw[List.length_range];omega)
     rw[e5,Array.getElem?_eq_none (by omega)]
     rfl
   rw[←e3]
   exact hq.filterMap _
theorem collect_walk{a:Addr}{o:Obj}{es:Array (Int×Value)}{ep:Nat}{t:SetTable}{Q:List Value->Shared->Prop}(hA:A.handled=none)(ho:s.heap.get? a=some o)(hex:o.ExactSet)(hd:o.data=.set es ep t)(hf:t.fits es.size=true)(hled:t.led=bH w)(hp:t.place.size=es.size)
  (hinc:t.place.toList.Pairwise (· < ·)) (hsz:es.size<=sizeLine) (hQ:∀(h':Heap) (tk:Nat) d (vs:List Value),vs.Perm (es.toList.map (·.2))->s.toks<=tk->s.heap.objs.size<h'.objs.size->(∀b o,b<s.heap.objs.size->s.heap.get? b=some o->h'.get? b=some o)->Q vs { s with heap:=h',toks:=tk,drawn:=d }):wpAny (model P w) A (collect (.ref a)) Q E s:=by
 have hlt:a<s.heap.objs.size:=Bh ho
 unfold collect
 refine Bc (wpAny_runValue (codeAny_builtin F.entry_proto_collect ?_))
 rw[Around.under_plainId F.plain_proto_collect _]
 show wpAny _ A.in1 (newList [] >>= fun l=>again (.builtin "list.__iadd__" ⟨[l,.ref a],[]⟩)) _ _ s
 refine Bc (wpAny_newObj_type ?_)
 refine Bd ⟨plainId_quiet F.plain_list_iadd _,codeAny_builtin F.entry_list_iadd ?_⟩
 rw[Around.under_plainId F.plain_list_iadd _]
 show wpAny _ A.in1 (Builtin.List.listExtendWith (.ref s.heap.objs.size) (.ref a) (.ref s.heap.objs.size)) _ _ { s with heap:=s.heap.push (seqObj "list" #[] 0) }
 unfold Builtin.List.listExtendWith
 have ho1:(s.heap.push (seqObj "list" #[] 0)).get? a=some o:=Bf _ ho
 have hs1:(s.heap.push (seqObj "list" #[] 0)).objs.size=s.heap.objs.size+1:=Heap.size_push _ _
 refine Bc (wpAny_typeOf (T:="set") ⟨o,ho1,hex.1⟩ ?_)
 have q1:Builtin.List.listSameRef (.ref s.heap.objs.size) (.ref a)=false:=by
  have:s.heap.objs.size≠a:=Nat.ne_of_gt hlt
  simp[Builtin.List.listSameRef,this]
 have q2:(Value.type "set" == Value.type "list")=false:=by decide
 have q3:(Value.type "set" == Value.type "tuple")=false:=by decide
 simp only[q1,q2,q3,Bool.or_false,Bool.false_eq_true,if_false]
 refine Bc (zT (s:={ s with heap:=s.heap.push (seqObj "list" #[] 0) }) (by simp[hA]) ho1 hex hd hf hled hp hinc hsz fun I h1 d fp Pz St W hst hI hfp hold hPm=>?_)
 have hI':s.heap.objs.size+1<=I:=by rw[←hs1];exact hI
 refine Bc (wpAny_holding (u5 (s:={ s with heap:=h1,drawn:=d }) ⟨o,hold _ _ ho1,hex.1⟩ ?_))
 rw[if_pos (by first | rfl | decide +kernel | kernel_rfl)]
 refine Bc (wpAny_rule ?_)
 have hS₁:h1.get? s.heap.objs.size=some (seqObj "list" #[] 0):=hold _ _ (Bg _ rfl)
 refine Bc ?_
 show wpAny _ A.in1 (updateSeq s.heap.objs.size (·.push .none) >>= fun _=>updateSeq s.heap.objs.size (·.pop)) _ _ { s with heap:=h1,drawn:=d }
 refine Bc (wpAny_updateSeq hS₁ rfl ?_)
 have hS₂:=Heap.get?_update_self (Obj.mapSeq (·.push Value.none)) hS₁ rfl
 refine wpAny_updateSeq (s:={ s with heap:=h1.update s.heap.objs.size (Obj.mapSeq (·.push Value.none)),drawn:=d }) hS₂ rfl ?_
 have hS₃:=Heap.get?_update_self (Obj.mapSeq (·.pop)) hS₂ rfl
 have oth:∀b o,b≠s.heap.objs.size->h1.get? b=some o →
   ((h1.update s.heap.objs.size (Obj.mapSeq (·.push Value.none))).update s.heap.objs.size (Obj.mapSeq (·.pop))).get? b=some o:=
  fun b o hb e=>(Heap.get?_update_other _ _ (Ne.symm hb)).trans ((Heap.get?_update_other _ _ (Ne.symm hb)).trans e)
 refine Bd ⟨plainId_quiet F.plain_extend_loop _,codeAny_extend_loopS W.toS hsz _ (fun z=>by
  rcases hfp _ z with e | e
  ·exact Nat.ne_of_gt hlt e
  ·rw[hs1]at e
   exact absurd e (Nat.not_succ_le_self _)) _ es.size 0 { s with heap:=(h1.update s.heap.objs.size (Obj.mapSeq (·.push Value.none))).update s.heap.objs.size (Obj.mapSeq (·.pop)),drawn:=d } _ _ rfl (Nat.zero_le _)
  (W.frame _ _ _ hst fun c hc o' e=>oth c o' (fun z=>by
   rcases hfp c hc with e | e
   ·rw[z]at e;exact Nat.ne_of_gt hlt e
   ·rw[z,hs1]at e;exact absurd e (Nat.not_succ_le_self _)) e) hS₃ (ItemsOf.nil _) fun s' acc' c' hm hS' hacc=>?_⟩
 show wpAny _ A (load s.heap.objs.size >>= _) _ _ s'
 refine Bc (wpAny_load hS' ?_)
 obtain⟨h',g',d',tk',os'⟩:=s'
 have z1:g'=s.gens:=hm.gens
 have z2:d'=d:=hm.drawn
 have z3:os'=s.os:=hm.os
 subst z1 z2 z3
 refine Bd (hQ h' tk' _ _ (hPm acc' hacc.1 hacc.2) hm.toks (Bh hS') fun b o' hb e=>hm.heap b o' (fun z=>?_) (oth b o' (BA hb) ?_))
 ·rcases Bw.mp z with z | z
  ·exact BA hb z
  ·have z:=Bs.mp z
   rw[z]at hb
   exact absurd hb (Nat.not_lt.mpr (Nat.le_of_succ_le hI'))
 ·exact hold _ _ (Bf _ e)
end
section
variable {P:Program} {w:World} {A:Around} {E:Value->Shared->Prop} {s:Shared}
end
section
variable {P:Program} {w:World} {A:Around} {E:Value->Shared->Prop} {s:Shared}
end
section
variable {X:Cx}
end
end L2.Ti
namespace L2
open PySem PySem.Spec PyProof.Rows
section
variable {X:Cx} {pins:List (Addr×Obj)} {σ:St} {H:Hp} {s:Shared}
theorem wa{i:Nat}{y:Str}{py:Pos}{elt tg iter:Expr}{ifs:List Expr}{sc:Scope}{pos spos:Pos}(own:List Str)(js:List Nat){wi:TI}{g:TG}{tc:TT}{te:TE}(hN:X.N.Nodup)(hi':X.N[i]?=some y)(hx:Loc X.env.scope y)
  (hi:PI X tg iter wi) (hg:∀z,PG (bN X sc own js z) tg g) (ht:∀z,iR (bN X sc own js z) ifs tc)
  (he:∀z,PE (bN X sc own js z) elt te) (hsw:swapsWith (.ListComp elt [⟨tg,iter,ifs,0⟩] sc pos) (some (.Name y py)) spos.line X.env=pure true:=by rfl) (hc:X.calm=true:=by rfl) (hk:sc.kind=.function:=by rfl) (hb:cV sc X.env.scope=true:=by rfl) (hj:ja sc X.N js=true:=by rfl)
  (hs:∀x,foldedSetIterable iter X.env x=pure x:=by intro _;rfl) (hf:X.fn y=true\/X.env.scope.names.lookup y=some .local:=by first | exact .inl rfl | exact .inr rfl | assumption) :
  PS X (.Assign [.Name y py] (.ListComp elt [⟨tg,iter,ifs,0⟩] sc pos) spos) (jW (nF own.length js wi g tc te) (fU i)):=by
 intro pins s σ H D' I h
 rw[exec_Assign_Name_used _ _ _ _ hsw]
 refine Bc (wpAny_standAt (Bc ?_))
 show wpAny _ X.A (do let _ ←comprehension (.ListComp elt [⟨tg,iter,ifs,0⟩] sc pos) sc X.env _ (newList []) false (eval iter X.env) (some (assign (.Name y py) X.env))) _ _ s
 refine Bc (wpAny_mono (wpAny_comprehension_free (use:=some (assign (.Name y py) X.env)) (Q:=fun _ s'=>SP X pins D' .next s') rfl hs (nU fun p hp hf=>I.ok.has p.1 (jb hb hp hf)) hk (fun p hp hl=>qf hb hp hl)
  (ah (hi pins s σ H _ I h) fun v s1 h1=>ah h1 fun itv s2 h2=>?_)) (fun _ s' hq=>Bd (Bd hq)) fun _ _ e=>e)
 obtain⟨it,fp,tn,J,H2,e,I2,T,st2,f2,W,w0,turn⟩:=h2
 subst e
 refine se (Q:=fun x H1=>fU i x σ H1 D'.nx) (RR:=fun acc C=>compPost (model X.prog X.w) X.A X.xe (some (assign (.Name y py) X.env)) (fun _ s'=>SP X pins D' .next s') acc C) hk hb hj (fun _=>hg _) (fun _=>ht _) (fun _=>he _) I2 (fun C=>Turn.at_ (Y:=bN X sc own js ⟨_,_,_,C⟩) T hc) st2 f2 w0 turn ?_
 intro D C s' ys H' nD I' hC ⟨m,hm⟩ hCs q
 show wpAny _ X.A (assign (.Name y py) X.env (.ref D)) _ _ _
 refine wpAny_assign_Name (pX I' hN hi' hx (v:=.ref D) rfl (fun s'' I'' ⟨a,hsb,ha⟩=>?_) hf)
 obtain⟨f0,f1,f2,f3,f4,f5⟩:=hC
 have hac:a≠C:=by
  rcases ha with rfl | ha
  ·exact Ne.symm f1
  ·exact f4 y a ha
 refine⟨m,hm.sameBut hsb (Ne.symm hac),fun h' hs'=>?_⟩
 exact⟨_,_,I''.turned (t':=s''.toks) (it:=C) (fun b o hb' e=>(hs'.2 b hb').trans e) f0 f1 f3 f4 f5,q⟩
end
end L2
namespace L2.Tp
open PySem PySem.Spec PyProof.Rows
section
variable {P:Program} {w:World} {A:Around} {E:Value->Shared->Prop} {s:Shared}
theorem A6{mask finger moves:Nat}{led plain:Bool}{hashes:Array Int}{t':SetTable}{order:Array Nat}(h:SetTable.laid mask finger moves led plain hashes=some (t',order)):t'.led=led:=by
 unfold SetTable.laid at h
 obtain⟨owner,_,h⟩:=Option.bind_eq_some_iff.mp h
 have h:=Option.some.inj h
 have h1:=(congrArg Prod.fst h).symm
 dsimp only at h1
 rw[h1]
def cK(P:Program)(w:World)(B:Addr->List Key->Prop)(h:Heap)(a:Addr)(ks:List (List Key)):Prop:=ks.Nodup ∧
 ∃o es ep t,h.get? a=some o/\o.ExactSet/\o.data=.set es ep t/\t.dummies = #[]/\Tb.Mask t.mask/\es.size*5<t.mask*3/\es.size=ks.length/\Tb.TOk t.mask t.place (es.map (·.1)) ∧
  (∀e∈es.toList,∃b k,e=(tupleKeyHash (aw P w) k,.ref b)/\k∈ks/\IsTupleKey (aw P w) h k b/\B b k)/\(∀k∈ks,∃b,(tupleKeyHash (aw P w) k,.ref b)∈es.toList/\IsTupleKey (aw P w) h k b)/\t.led=bH w
theorem xQ{B:Addr->List Key->Prop}{a:Addr}{o:Obj}{es es1:Array (Int×Value)}{ep n:Nat}{t t1:SetTable}{ks1:List (List Key)}{Q:Bool->Shared->Prop}(hnd:ks1.Nodup)(ho:s.heap.get? a=some o)(hex:o.ExactSet)(hd:o.data=.set es ep t)(hs1:es1.size=n+1)(hdm1:t1.dummies = #[])
  (hm1:Tb.Mask t1.mask) (hfull:n*5<t1.mask*3) (hn:n<1400) (hlen:ks1.length=n+1) (hT1:Tb.TOk t1.mask t1.place (es1.map (·.1))) (hall1:∀e∈es1.toList,∃b k,e=(tupleKeyHash (aw P w) k,.ref b)/\k∈ks1/\IsTupleKey (aw P w) s.heap k b/\B b k)
  (hin1:∀k∈ks1,∃b,(tupleKeyHash (aw P w) k,.ref b)∈es1.toList/\IsTupleKey (aw P w) s.heap k b) (hpl1:t1.led=bH w)
  (h:∀h',Heap.SameBut a s.heap h'->cK P w B h' a ks1->Q true { s with heap:=h' }) :
  wpAny (model P w) A (do
   storeSet a es1 t1
   if(!false && t1.tooFull)=true then do
    setRelay a (SetTable.grown (n+1))
    pure true
   else pure true) Q E s:=by
 have hline:n+1<=sizeLine:=BL (show n+1<=10000 by omega) (by decide)
 have hp1:t1.place.size=es1.size:=by rw[hT1.len,Array.size_map]
 refine Bc (wpAny_storeSet_of ho hd ?_ (by omega))
 have ho1:(s.heap.update a (Obj.putSet es1 t1)).get? a=some { o with data:=.set es1 (ep+1) t1 }:=by
  have:=Heap.get?_update_self (Obj.putSet es1 t1) ho (by rw[putSet_of es1 t1 hd];rfl)
  rw[putSet_of es1 t1 hd]at this
  exact this
 have hsb1:=Heap.SameBut.update s.heap a (Obj.putSet es1 t1)
 generalize s.heap.update a (Obj.putSet es1 t1)=h1 at ho1 hsb1
 have hall2:∀e∈es1.toList,∃b k,e=(tupleKeyHash (aw P w) k,.ref b)/\k∈ks1/\IsTupleKey (aw P w) h1 k b/\B b k:=fun e he=>by
  obtain⟨b,k,z1,z2,z3,z4⟩:=hall1 e he
  exact⟨b,k,z1,z2,g9 z3 ho hd hsb1,z4⟩
 have hin2:∀k∈ks1,∃b,(tupleKeyHash (aw P w) k,.ref b)∈es1.toList/\IsTupleKey (aw P w) h1 k b:=fun k hk=>by
  obtain⟨b,z1,z2⟩:=hin1 k hk
  exact⟨b,z1,g9 z2 ho hd hsb1⟩
 have hfill:t1.fill=n+1:=by
  unfold SetTable.fill
  rw[hdm1,hp1,hs1]
  rfl
 by_cases hq:t1.tooFull=true
 ·rw[hq]
  simp only[Bool.not_false,Bool.and_self,if_true]
  have hq':t1.mask*3<=(n+1)*5:=by
   unfold SetTable.tooFull at hq
   rw[hfill]at hq
   simpa using hq
  obtain⟨m,hm,hw,hmn,hlt⟩:∃m,Tb.Mask m/\SetTable.sizeAbove (SetTable.grown (n+1))-1=m/\n+1<=m/\(n+1)*5<m*3/\SetTable.sizeAbove (SetTable.grown (n+1))<=sizeLine:=by
   have hg:SetTable.grown (n+1)=(n+1)*4:=by
    unfold SetTable.grown
    rw[if_neg (by omega)]
   rw[hg]
   rcases hm1 with e | e | e | e | e | e<;>rw[e]at hfull hq'
   ·obtain rfl:n=4:=by omega
    exact⟨31,.inr (.inl rfl),Tb.wN,by omega,by omega,by decide +kernel⟩
   ·obtain rfl:n=18:=by omega
    exact⟨127,.inr (.inr (.inl rfl)),Tb.Am,by omega,by omega,by decide +kernel⟩
   ·obtain rfl:n=76:=by omega
    exact⟨511,.inr (.inr (.inr (.inl rfl))),Tb.w9,by omega,by omega,by decide +kernel⟩
   ·obtain rfl:n=306:=by omega
    exact⟨2047,.inr (.inr (.inr (.inr (.inl rfl)))),Tb.ye,by omega,by omega,by decide +kernel⟩
   ·obtain rfl:n=1228:=by omega
    exact⟨8191,.inr (.inr (.inr (.inr (.inr rfl)))),Tb.yk,by omega,by omega,by decide +kernel⟩
   ·omega
  have hfit1:t1.fits es1.size=true:=by
   simp only[SetTable.fits,BQ,beq_iff_eq,decide_eq_true_eq]
   refine⟨hp1,?_⟩
   rw[hfill]
   rcases hm1 with e | e | e | e | e | e<;>omega
  obtain⟨t2,order,hrel,hp2,hd2,hm2,hperm,_,hpl2,hT2⟩:=Tb.zh t1 (es:=es1) hm hw (by omega)
  obtain⟨r1,r2⟩:=zR hperm
  have r3:=wY hperm
  refine Bc ?_
  unfold setRelay
  refine Bc (wpAny_setState_of (s:={ s with heap:=h1 }) ho1 rfl hfit1 ?_)
  dsimp only
  rw[if_neg (Nat.not_lt.mpr hlt.2),hrel]
  refine Bc ?_
  show wpAny _ _ (do
   if(order.filterMap (es1[·]?)).size != es1.size then unsupported "internal:set-table-lost-an-element"
   pure (order.filterMap (es1[·]?),t2)) _ _ _
  rw[r1]
  simp only[bne_self_eq_false,Bool.false_eq_true,if_false]
  refine Bd ?_
  dsimp only
  refine wpAny_storeSet_of (s:={ s with heap:=h1 }) ho1 rfl ?_ (by rw[r1];omega)
  have ho2:(h1.update a (Obj.putSet (order.filterMap (es1[·]?)) t2)).get? a=some { o with data:=.set (order.filterMap (es1[·]?)) (ep+1+1) t2 }:=by
   have:=Heap.get?_update_self (Obj.putSet (order.filterMap (es1[·]?)) t2) ho1 (by rw[putSet_of _ _ (o:={ o with data:=.set es1 (ep+1) t1 }) rfl];rfl)
   rw[putSet_of _ _ (o:={ o with data:=.set es1 (ep+1) t1 }) rfl]at this
   exact this
  have hsb2:=Heap.SameBut.update h1 a (Obj.putSet (order.filterMap (es1[·]?)) t2)
  refine Bd (h _ (hsb1.trans hsb2) ⟨hnd,_,_,_,t2,ho2,hex,rfl,hd2,by rw[hm2];exact hm,by rw[r1,hm2,hs1];exact hlt.1,by rw[r1,hs1,hlen],by rw[hm2];exact hT2,fun e he=>?_,fun k hk=>?_,(A6 hrel).trans hpl1⟩)
  ·obtain⟨b,k,z1,z2,z3,z4⟩:=hall2 e (r2 e he)
   exact⟨b,k,z1,z2,g9 z3 ho1 rfl hsb2,z4⟩
  ·obtain⟨b,z1,z2⟩:=hin2 k hk
   exact⟨b,r3.mem_iff.mpr z1,g9 z2 ho1 rfl hsb2⟩
 ·have hq0:t1.tooFull=false:=by simpa using hq
  rw[hq0]
  simp only[Bool.and_false,Bool.false_eq_true,if_false]
  have hq':(n+1)*5<t1.mask*3:=by
   unfold SetTable.tooFull at hq0
   rw[hfill]at hq0
   simpa using hq0
  exact Bd (h h1 hsb1 ⟨hnd,_,es1,_,t1,ho1,hex,rfl,hdm1,hm1,by rw[hs1];exact hq',by rw[hs1,hlen],hT1,hall2,hin2,hpl1⟩)
theorem sI{α:Type}{xs:Array α}{p:Nat}{x e:α}(h:e=x\/e∈xs.toList):e∈(SetTable.insertAt xs p x).toList:=by
 rw[Tb.gH]
 rcases h with rfl | h
 ·exact List.mem_append_right _ Bo
 ·rw[←List.take_append_drop p xs.toList]at h
  rcases BE.mp h with a | a
  ·exact List.mem_append_left _ a
  ·exact List.mem_append_right _ (Bl _ a)
theorem ins_map{α β:Type}(f:α->β)(xs:Array α)(p:Nat)(x:α):(SetTable.insertAt xs p x).map f=SetTable.insertAt (xs.map f) p (f x):=by
 apply Array.toList_inj.mp
 rw[Array.toList_map,Tb.gH,Tb.gH,Array.toList_map]
 simp
theorem ve{B:Addr->List Key->Prop}{a b:Addr}{k:List Key}{ks:List (List Key)}{Q:Bool->Shared->Prop}(hu:A.units<cLine)(hk:IsTupleKey (aw P w) s.heap k b)(hB:B b k)(hS:cK P w B s.heap a ks)(hsz:ks.length<1400)
  (h:∀h' r ks',Heap.SameBut a s.heap h'->cK P w B h' a ks'->ks'.length<=ks.length+1->(∀x,x∈ks'↔x∈ks\/x=k)->Q r { s with heap:=h' }):wpAny (model P w) A (setAddHashed a (.ref b) (tupleKeyHash (aw P w) k)) Q E s:=by
 obtain⟨hnd,o,es,ep,t,ho,hex,hd,hdm,hm,hfull,hlen,hT,hall,hin,hpl⟩:=id hS
 have hp:t.place.size=es.size:=by rw[hT.len,Array.size_map]
 have hle:es.size<=t.mask:=by omega
 have hf:t.fits es.size=true:=by
  simp only[SetTable.fits,BQ,beq_iff_eq,decide_eq_true_eq]
  refine⟨hp,?_⟩
  unfold SetTable.fill
  rw[hdm,hp]
  simpa using hle
 have hturn:10*SetTable.turns t.mask<100000:=by
  unfold SetTable.turns
  rcases hm with e | e | e | e | e | e<;>rw[e]<;>decide
 have hst:∀x,(Tb.az t x (Option.getD none (t.probeStart (tupleKeyHash (aw P w) k)))).j=Tb.pm t.mask (tupleKeyHash (aw P w) k) x:=fun x=>Tb.qM t _ x
 unfold setAddHashed setAddHashedIn
 refine wpAny_holding (Bc (wpAny_setState_of ho hd hf ?_))
 dsimp only
 have hsc:byScan (.ref b) es=false:=rfl
 rw[hsc]
 simp only[Bool.false_eq_true,if_false]
 unfold setSearch
 rcases Classical.em (k∈ks)with hold | hold
 ·obtain⟨b0,hb0,hkb0⟩:=hin k hold
  obtain⟨i0,hi0⟩:=List.getElem?_of_mem hb0
  rw[Array.getElem?_toList]at hi0
  have hi0s:=(Array.getElem?_eq_some_iff.mp hi0).1
  obtain⟨j0,hj0⟩:∃j0,t.place[i0]?=some j0:=⟨_,getElem?_pos t.place i0 (by omega)⟩
  obtain⟨K,q1,q2,q3⟩:=hT.rch i0 j0 (tupleKeyHash (aw P w) k) hj0 (by rw[Array.getElem?_map,hi0];rfl)
  refine Bc (yZ hu hk ho hd hf hm hdm (fun e he=>?_) ⟨b0,hi0,hkb0⟩ ?_ K 100000 none (by omega) q1 rfl (fun x hx=>?_) ?_)
  ·obtain⟨b',k',e1,_,e3,_⟩:=hall e he
   exact⟨b',k',by rw[e1],e3⟩
  ·dsimp only
   refine Bd ?_
   have e:s={ s with heap:=s.heap }:=by cases s;rfl
   rw[e]
   exact h s.heap _ ks (Heap.SameBut.refl a s.heap) hS (Nat.le_succ _) fun x=>⟨.inl,fun z=>z.elim id fun e=>e ▸ hold⟩
  ·rw[hst]
   obtain⟨i,e,_⟩:=Tb.oR hT.inc (q3 x hx)
   rw[e]
   intro z
   cases z
  ·rw[hst,q2]
   exact Tb.slot_mem hT.inc hj0
 ·obtain⟨K,q1,q2,q3⟩:=Tb.zy hdm hm (by rw[hp];exact hle) (tupleKeyHash (aw P w) k)
  have hall':∀e∈es.toList,∃b' k',e.2=.ref b'/\IsTupleKey (aw P w) s.heap k' b'/\k'≠k:=fun e he=>by
   obtain⟨b',k',h1,h2,h3,_⟩:=hall e he
   exact⟨b',k',by rw[h1],h3,fun z=>hold (z ▸ h2)⟩
  refine Bc (AI hu hk ho hd hf hm hdm hall' K 100000 none (by omega) q1 rfl (fun x hx=>by rw[hst];exact q3 x hx) (by rw[hst];exact q2) ?_)
  rw[hst]
  dsimp only
  refine Bc (wpAny_setState_of ho hd hf ?_)
  dsimp only
  have hnm:=Tb.zZ hT.inc q2
  have hTp:=hT.put q1 hnm (fun x hx=>Tb.zx hdm (q3 x hx))
  have hput:(t.put (Tb.pm t.mask (tupleKeyHash (aw P w) k) K)).1.dummies = #[]:=by
   show(if SetTable.has t.dummies _=true then _ else t.dummies) = #[]
   rw[hdm,Tb.oX]
   rfl
  generalize Tb.pm t.mask (tupleKeyHash (aw P w) k) K=j at hTp hput
  have hT1:Tb.TOk t.mask (t.put j).1.place ((SetTable.insertAt es (t.put j).2 (tupleKeyHash (aw P w) k,Value.ref b)).map (·.1)):=by
   rw[ins_map]
   exact hTp
  have hins:∀e∈(SetTable.insertAt es (t.put j).2 (tupleKeyHash (aw P w) k,Value.ref b)).toList,∃b' k',e=(tupleKeyHash (aw P w) k',.ref b')/\k'∈k::ks/\IsTupleKey (aw P w) s.heap k' b'/\B b' k':=fun e he=>by
   rcases Tb.wW he with rfl | he
   ·exact⟨b,k,rfl,Bo,hk,hB⟩
   ·obtain⟨b',k',z1,z2,z3,z4⟩:=hall e he
    exact⟨b',k',z1,Bl _ z2,z3,z4⟩
  have hin':∀k'∈k::ks,∃b',(tupleKeyHash (aw P w) k',Value.ref b')∈(SetTable.insertAt es (t.put j).2 (tupleKeyHash (aw P w) k,Value.ref b)).toList/\IsTupleKey (aw P w) s.heap k' b':=fun k' hk'=>by
   rcases Bw.mp hk' with rfl | hk'
   ·exact⟨b,sI (.inl rfl),hk⟩
   ·obtain⟨b',z1,z2⟩:=hin k' hk'
    exact⟨b',sI (.inr z1),z2⟩
  have hnd':(k::ks).Nodup:=List.nodup_cons.mpr ⟨hold,hnd⟩
  have h':∀h',Heap.SameBut a s.heap h'->cK P w B h' a (k::ks)->Q true { s with heap:=h' }:=fun h2 sb hS'=>h h2 true _ sb hS' (BB _) fun x=>by rw[Bw];exact⟨fun z=>z.symm,fun z=>z.symm⟩
  have fin:∀c:Bool,wpAny (model P w) A (do
    storeSet a (SetTable.insertAt es (t.put j).2 (tupleKeyHash (aw P w) k,Value.ref b)) (if c=true then(t.put j).1 else{ (t.put j).1 with plain:=false })
    if(!false && (if c=true then(t.put j).1 else{ (t.put j).1 with plain:=false }).tooFull)=true then do
     setRelay a (SetTable.grown (es.size+1))
     pure true
    else pure true) Q E s:=fun c=>by
   refine xQ (ks1:=k::ks) hnd' ho hex hd (Tb.ni _ _ _) ?_ ?_ ?_ (by omega) (by rw[BI,hlen]) ?_ hins hin' ?_ h'
   ·cases c<;>exact hput
   ·cases c<;>exact hm
   ·cases c<;>exact hfull
   ·cases c<;>exact hT1
   ·cases c<;>exact hpl
  cases hpl':(t.put j).1.plain
  ·simp only[Bool.false_eq_true,if_false]
   exact Bc (Bd (fin true))
  ·simp only[if_true]
   exact Bc (wx hk fun c=>fin c)
end
section
variable {P:Program} {w:World} {A:Around} {I:Addr} {fp wr:List Addr} {G:Array GenState->Array GenState->Prop} {n:Nat} {Pz:Nat->Value->Prop} {St:Nat->Shared->Prop}
theorem cK.moved{B:Addr->List Key->Prop}{h h':Heap}{a:Addr}{ks:List (List Key)}{wr:List Addr}(hS:cK P w B h a ks)(hk:∀b o,b∉wr->h.get? b=some o->h'.get? b=some o)(ha:a∉wr)(hw:∀b∈wr,∀o,h.get? b=some o->∃vs,o.data=.fields vs):cK P w B h' a ks:=by
 obtain⟨hnd,o,es,ep,t,ho,hex,hd,h1,h2,h3,h4,h5,hall,hin,hpl⟩:=hS
 have mv:∀k b,IsTupleKey (aw P w) h k b->IsTupleKey (aw P w) h' k b:=fun k b ⟨o',items,m,ho',hc,hd',hi⟩=>⟨o',items,m,hk b o' (fun hb=>by
   obtain⟨vs,hv⟩:=hw b hb o' ho'
   rw[hd']at hv
   cases hv) ho',hc,hd',hi⟩
 refine⟨hnd,o,es,ep,t,hk a o ha ho,hex,hd,h1,h2,h3,h4,h5,fun e he=>?_,fun k hk=>?_,hpl⟩
 ·obtain⟨b,k,z1,z2,z3,z4⟩:=hall e he
  exact⟨b,k,z1,z2,mv k b z3,z4⟩
 ·obtain⟨b,z1,z2⟩:=hin k hk
  exact⟨b,z1,mv k b z2⟩
theorem pj{B:Addr->List Key->Prop}(W:WalksS P w A.in1 I fp wr G n Pz St)(S:Addr)(hS:S∉fp)(hu:A.in1.units<cLine)(bs:List Addr)(kk:List (List Key))(hnk:kk.length=n)(hBk:∀(j:Nat) b k,bs[j]?=some b->kk[j]?=some k->B b k)(hsz:n<1400)
  (hval:∀i v,Pz i v->∃b,v=.ref b/\bs[i]?=some b) (hwr:∀i s,St i s->∀b∈wr,∀o,s.heap.get? b=some o->∃vs,o.data=.fields vs) {R:Result->Shared->Prop} :
  ∀(m i:Nat) (s:Shared) (D:List (List Key)),n-i=m->i<=n->St i s->cK P w B s.heap S D->D.length<=i->(∀k,k∈D↔k∈kk.take i)->(∀(j:Nat) (b:Addr) (k:List Key),bs[j]?=some b->kk[j]?=some k->IsTupleKey (aw P w) s.heap k b) →
   (∀s' D,Moved (S::wr) G s s'->cK P w B s'.heap S D->(∀k,k∈D↔k∈kk)->R (.ok (.ret .none)) s') →
   codeAny (model P w) A (.builtin "set.update.loop" ⟨[.ref S,.ref I],[]⟩) R s:=by
 have hSw:S∉wr:=fun z=>hS (W.sub _ z)
 have more:∀b∈wr,b∈S::wr:=fun b z=>Bl _ z
 intro m
 induction m with
 | zero=>
  intro i s D hm hi hst hset _ hD hkeys hR
  obtain rfl:i=n:=by omega
  refine codeAny_builtin F.entry_set_update_loop ?_
  rw[Around.under_plainId F.plain_set_update_loop _]
  show wpAny _ A.in1 (pyNext (.ref I) >>= _) _ _ s
  refine Bc (W.done s _ _ hst fun s' mv=>?_)
  rw[←hnk,BJ]at hD
  exact Bd (hR s' D (mv.mono more) (hset.moved mv.heap hSw (hwr _ s hst)) hD)
 | succ m ih=>
  intro i s D hm hi hst hset hDl hD hkeys hR
  have hlt:i<n:=by omega
  refine codeAny_builtin F.entry_set_update_loop ?_
  rw[Around.under_plainId F.plain_set_update_loop _]
  show wpAny _ A.in1 (pyNext (.ref I) >>= _) _ _ s
  refine Bc (W.item i s _ _ hlt hst fun v s' hP hst' mv=>?_)
  obtain⟨b,rfl,hb⟩:=hval i v hP
  have hki:kk[i]?=some kk[i]:=Bj (by omega)
  have hset':=hset.moved mv.heap hSw (hwr _ s hst)
  have hkeys':∀(j:Nat) (b:Addr) (k:List Key),bs[j]?=some b->kk[j]?=some k->IsTupleKey (aw P w) s'.heap k b:=fun j b k e1 e2=>by
   obtain⟨o',items,q,ho',hc,hd',hi'⟩:=hkeys j b k e1 e2
   refine⟨o',items,q,mv.heap b o' (fun hbw=>?_) ho',hc,hd',hi'⟩
   obtain⟨vs,hv⟩:=hwr _ s hst b hbw o' ho'
   rw[hd']at hv
   cases hv
  show wpAny _ A.in1 (holding [Value.ref b] (setAdd S (.ref b)) >>= _) _ _ s'
  refine Bc (wpAny_holding ?_)
  unfold setAdd
  refine wpAny_holding (Bc (wpAny_pyHash_tuple hu (hkeys' i b _ hb hki) ?_))
  refine ve (s:={ s' with toks:=s'.toks+(kk[i].length+1) }) hu (hkeys' i b _ hb hki) (hBk i b _ hb hki) hset' (by omega) fun h' r D1 sb hset2 hD1l hD1=>?_
  have htk:∀k,k∈D1↔k∈kk.take (i+1):=fun k=>by
   rw[hD1,hD k,List.take_add_one,hki,BE]
   simp
  obtain⟨_,oS,esS,epS,tS,hoS,_,hdS,_⟩:=id hset'
  refine Bd ⟨plainId_quiet F.plain_set_update_loop _,ih (i+1) _ _ (by omega) hlt (W.frame _ s' _ _ hst' (Nat.le_add_right _ _) fun c hc o e=>?_) hset2 (by omega) htk (fun j c k e1 e2=>g9 (hkeys' j c k e1 e2) hoS hdS sb) fun s'' D2 mv2 hS2=>?_⟩
  ·rw[sb.2 c (fun z:c=S=>hS (z ▸ hc))]
   exact e
  ·refine hR s'' D2 (Moved.trans W.gtrans ((mv.mono more).then_heap (Nat.le_add_right _ _) fun c o hc e=>?_) mv2) hS2
   rw[sb.2 c (fun z:c=S=>hc (by rw[z];exact Bo))]
   exact e
end
section
variable {P:Program} {w:World} {A:Around} {E:Value->Shared->Prop} {s:Shared}
def iC(P:Program)(w:World)(s:Shared)(bs:List Addr)(kk D:List (List Key))(h':Heap):Prop:=
 cK P w (fun b k=>∃j:Nat,bs[j]?=some b/\kk[j]?=some k) h' s.heap.objs.size D/\(∀k,k∈D↔k∈kk)/\∀b o,b<s.heap.objs.size->s.heap.get? b=some o->h'.get? b=some o
theorem vx{t:Addr}{ys:Array Value}{bs:List Addr}{kk:List (List Key)}{Q:Value->Shared->Prop}(hA:A.handled=none)(hu:A.units+5<cLine)(gt:s.heap.IsList t ys)(hb:ys.toList=bs.map Value.ref)
  (hn:kk.length=ys.size) (hz:ys.size<1400) (hkey:∀(j:Nat) (b:Addr) (k:List Key),bs[j]?=some b->kk[j]?=some k->IsTupleKey (aw P w) s.heap k b)
  (h:∀(h':Heap) (tk:Nat) (D:List (List Key)),iC P w s bs kk D h'->Q (.ref s.heap.objs.size) { s with heap:=h',toks:=tk }):wpAny (model P w) A (call (.type "set") [.ref t]) Q E s:=by
 have x1:=F.called_set.notType
 have x2:=F.called_set.canCreate
 have x3:=F.typeCall_set_1 (.ref t)
 have x4:=F.called_set.made
 have x5:=F.called_set.sub
 obtain⟨c,tl,x6⟩:=F.called_set.mro
 refine wpAny_call (codeAny_of_tree ?_)
 show wpAny _ _ (callAny (.type "set") _) _ _ _
 refine Bd ⟨Code.quiet_builtin _ (by decide +kernel),codeAny_builtin F.entry_type_call ?_⟩
 rw[Around.under_plain (weight_type_call_type "set" [.ref t] []) rfl]
 repeat (any_goals (first | assumption | wp_step))
 refine codeAny_mono (rH (.ref t) (E:=E) (Q₁:=fun v s1=>v=.ref s.heap.objs.size/\s1={ s with heap:=s.heap.push (bQ (bH w)) }) ⟨rfl,rfl⟩) fun r s1 hr=>?_
 cases r with
 | error e=>exact hr
 | ok fl=>
  cases fl with
  | ret v=>
   obtain⟨rfl,rfl⟩:=hr
   have gS:(s.heap.push (bQ (bH w))).get? s.heap.objs.size=some (bQ (bH w)):=Bg _ rfl
   have hT:Shared.TypeIs { s with heap:=s.heap.push (bQ (bH w)) } (.ref s.heap.objs.size) "set":=⟨_,gS,rfl⟩
   have x7:=F.called_set.init.lookup
   have x8:=F.called_set.init.bind (.ref s.heap.objs.size)
   repeat (any_goals (first | assumption | wp_step))
   refine codeAny_mono (codeAny_call_builtin (R:=wants (fun r s2=>r=.none/\∃h' tk D,s2={ s with heap:=h',toks:=tk }/\iC P w s bs kk D h') E) F.called_set.init.plain F.entry_set_init (check_set_init_1 hT ?_)) fun r2 s2 hr2=>?_
   ·have g1:(s.heap.push (bQ (bH w))).IsList t ys:=gt.push _
    have hlt:t<s.heap.objs.size:=by
     obtain⟨o,ho,_⟩:=gt
     exact Bh ho
    obtain⟨ol,hol,hcl,nl,hdl⟩:=id g1
    obtain⟨c0,d0,dt,sl⟩:=ol
    simp only at hcl hdl
    subst hcl hdl
    have y1:=F.sub_list_set
    have y2:=F.sub_list_frozenset
    have y3:(Value.type "list" == Value.type "dict")=false:=by decide
    unfold Builtin.«set.__init__» noKeywords Builtin.Frozenset.updateFrom
    generalize hit:pyIter=PI
    wp_walk
    subst hit
    refine wpAny_pyIter_list g1 ?_
    refine Bc (wpAny_runValue ?_)
    have e1:(s.heap.push (bQ (bH w))).objs.size=s.heap.objs.size+1:=Heap.size_push _ _
    have hA3:A.in1.in1.in1.handled=none:=by simp[hA]
    have hne:t≠(s.heap.push (bQ (bH w))).objs.size:=by
     rw[e1]
     exact BA (Nat.lt_succ_of_lt hlt)
    have hSf:s.heap.objs.size∉[(s.heap.push (bQ (bH w))).objs.size,t]:=by
     intro z
     rcases Bw.mp z with z | z
     ·rw[e1]at z
      exact BA (Nat.lt_succ_self _) z
     ·exact Nat.ne_of_gt hlt (Bs.mp z)
    have hbs:∀i:Nat,ys[i]?=(bs[i]?).map Value.ref:=fun i=>by
     rw[←Array.getElem?_toList,hb,Bk]
    refine pj (B:=fun b k=>∃j:Nat,bs[j]?=some b/\kk[j]?=some k) ((Walks.list hA3 _ t hne ys).toS) s.heap.objs.size hSf (by simp only[Around.in1_units];omega) bs kk hn (fun j b k q1 q2=>⟨j,q1,q2⟩) hz (fun i v hv=>?_) (fun i s' hs b hb' o ho=>?_) (ys.size-0) 0 _ [] (by omega) (Nat.zero_le _) ⟨⟨_,Bg _ rfl,rfl,rfl⟩,g1.push _⟩ ⟨List.nodup_nil,bQ (bH w),#[],0,_,Bf _ gS,⟨rfl,rfl,rfl⟩,rfl,rfl,.inl rfl,(show 0*5<7*3 by decide),rfl,(by rw[Array.map_empty];exact Tb.TOk.nil 7),fun e he=>(by simp at he),fun k hk=>(by cases hk),rfl⟩ (BB _) (fun k=>by simp) (fun j b k e1 e2=>?_) fun s' D mv hS' hD=>?_
    ·have hv':ys[i]?=some v:=hv
     rw[hbs i]at hv'
     obtain⟨b,e,rfl⟩:=Bt.mp hv'
     exact⟨b,rfl,e⟩
    ·cases Bs.mp hb'
     obtain⟨o',ho',_,hd'⟩:=hs.1
     rw[ho']at ho
     cases ho
     exact⟨_,hd'⟩
    ·obtain⟨o,items,q,ho,r⟩:=hkey j b k e1 e2
     exact⟨o,items,q,Bf _ (Bf _ ho),r⟩
    ·obtain⟨h',g',d',tk',os'⟩:=s'
     have q1:g'=s.gens:=mv.gens
     have q2:d'=s.drawn:=mv.drawn
     have q3:os'=s.os:=mv.os
     subst q1 q2 q3
     show wpAny _ _ _ _ _ _
     refine Bd ?_
     show wpAny _ _ (ret Value.none) _ _ _
     refine Bd ⟨rfl,h',tk',D,rfl,hS',hD,fun b o hb e=>mv.heap b o (fun z=>?_) (Bf _ (Bf _ e))⟩
     rcases Bw.mp z with z | z
     ·exact BA hb z
     ·have z:=Bs.mp z
      rw[e1]at z
      exact BA (Nat.lt_succ_of_lt hb) z
   ·cases r2 with
    | error e=>exact hr2
    | ok f2=>
     cases f2 with
     | ret r=>
      obtain⟨rfl,h',tk,D,rfl,hS'⟩:=hr2
      repeat (any_goals (first | assumption | wp_step))
      exact h _ _ D hS'
     | _=>exact hr2.elim
  | _=>exact hr.elim
end
end L2.Tp
namespace L2.Tp
open PySem PySem.Spec PyProof.Rows
theorem tP:∀vs:List Value,vs.zip vs=vs.map fun v=>(v,v)
 | []=>rfl
 | v::vs=>by
  show(v,v)::vs.zip vs=_
  rw[tP vs]
  rfl
def kp:List Key->Int×Int
 | [.inl a,.inl b]=>(a,b)
 | _=>(0,0)
section
variable {P:Program} {w:World} {A:Around} {E:Value->Shared->Prop} {s:Shared}
abbrev fk(a b:Int):List Key:=[.inl a,.inl b]
def fF(k:List Key):Prop:=∃a b:Int,k=fk a b
theorem ki{h:Heap}{a c:Int}{b:Addr}(hk:IsTupleKey (aw P w) h (fk a c) b):∃o xs n t1 t2,h.get? b=some o/\o.cls=.type "tuple"/\o.data=.seq xs n/\xs.toList=[.int a t1,.int c t2]:=by
 obtain⟨o,xs,n,ho,hc,hd,hi⟩:=hk
 generalize hv:xs.toList=vs at hi
 cases hi with
 | cons q1 r1=>
  cases r1 with
  | cons q2 r2=>
   cases r2
   obtain⟨t1,rfl⟩:=qT q1
   obtain⟨t2,rfl⟩:=qT q2
   exact⟨o,xs,n,t1,t2,ho,hc,hd,hv⟩
def ltP(a b c d:Int):Bool:=if a == c then(if b == d then false else decide (b<d))else decide (a<c)
theorem Ag{x y:Addr}{a b c d:Int}{Q:Bool->Shared->Prop}(h1:IsTupleKey (aw P w) s.heap (fk a b) x)(h2:IsTupleKey (aw P w) s.heap (fk c d) y)(h:Q (ltP a b c d) s):wpAny (model P w) A (keyLt' (tuples' true) (.ref x) (.ref y)) Q E s:=by
 obtain⟨o,xs,n,t1,t2,ho,_,hd,hv⟩:=ki h1
 obtain⟨o',ys,n',u1,u2,ho',_,hd',hv'⟩:=ki h2
 refine W.kat_lt ho hd ho' hd' ?_
 rw[hv,hv']
 have hz:decide (xs.size<ys.size)=false:=by
  rw[←Bm,←Bm,hv,hv']
  rfl
 rw[hz]
 unfold ltP at h
 refine W.kat_cons (wpAny_eqBool_int ?_)
 cases e1:(a == c)
 ·rw[e1,if_neg Bx]at h
  exact W.kat_no (oneLt_int h)
 ·rw[e1,if_pos rfl]at h
  refine W.kat_yes (W.kat_cons (wpAny_eqBool_int ?_))
  cases e2:(b == d)
  ·rw[e2,if_neg Bx]at h
   exact W.kat_no (W.kat_one _ _ (PyProof.Rows.lt_int h))
  ·rw[e2,if_pos rfl]at h
   exact W.kat_yes (W.kat_nil h)
def kQ(P:Program)(w:World)(h:Heap)(vs:List Value):Prop:=∀v∈vs,∃b a c,v=.ref b/\IsTupleKey (aw P w) h (fk a c) b
theorem rT{h:Heap}:∀{vs:List Value},kQ P w h vs->∃fs:List Value,W.KatTups h vs fs/\fs.length=vs.length/\∀v∈fs,∃i t,v=.int i t
 | [],_=>⟨[],W.KatTups.nil,rfl,fun v hv=>by cases hv⟩
 | v::vs,hw=>by
  obtain⟨fs,h1,h2,h3⟩:=rT (vs:=vs) fun u hu=>hw u (Bl _ hu)
  obtain⟨b,a,c,rfl,hk⟩:=hw v Bo
  obtain⟨o,xs,n,t1,t2,ho,hc,hd,hv⟩:=ki hk
  refine⟨.int a t1::fs,W.KatTups.cons ho hc hd (by rw[←Array.getElem?_toList,hv];rfl) h1,by rw[BI,BI,h2],fun u hu=>?_⟩
  rcases Bw.mp hu with rfl | hu
  ·exact⟨_,_,rfl⟩
  ·exact h3 u hu
theorem xD{vs:List Value}{Q:SortKind->Shared->Prop}(hw:kQ P w s.heap vs)(hne:0<vs.length)(h:Q (tuples' true) s):wpAny (model P w) A (keyKind' vs.toArray) Q E s:=by
 obtain⟨fs,h1,h2,h3⟩:=rT hw
 refine W.kat_kind (T:=.type "int") h1 (by omega) (fun v hv=>?_) (by decide) ?_
 ·obtain⟨i,t,rfl⟩:=h3 v hv
  exact fun A Q E s k q=>wpAny_typeOf (typeIs_int s i t) q
 ·exact h
def bX(kf:Value->Int×Int)(u v:Value):Bool:=ltP (kf u).1 (kf u).2 (kf v).1 (kf v).2
theorem jv{a b c d:Int}:ltP a b c d=true↔a<c\/(a=c/\b<d):=by
 unfold ltP
 by_cases e1:a=c
 ·rw[if_pos (by simpa using e1)]
  by_cases e2:b=d
  ·rw[if_pos (by simpa using e2)]
   simp
   omega
  ·rw[if_neg (by simpa using e2),decide_eq_true_iff]
   omega
 ·rw[if_neg (by simpa using e1),decide_eq_true_iff]
  omega
theorem ltP_no{a b c d:Int}:ltP a b c d=false↔¬(a<c\/(a=c/\b<d)):=by
 rw[←jv,Bool.not_eq_true]
theorem uP{kf:Value->Int×Int}{u v:Value}(h:bX kf u v=true):bX kf v u=false:=by
 unfold bX at *
 rw[jv]at h
 rw[ltP_no]
 omega
theorem Au{kf:Value->Int×Int}{u v z:Value}(h:bX kf v u=false)(g:bX kf z v=false):bX kf z u=false:=by
 unfold bX at *
 rw[ltP_no]at *
 omega
theorem wM{kf:Value->Int×Int}{u v:Value}(h:kf u≠kf v):bX kf u v=true\/bX kf v u=true:=by
 unfold bX
 rw[jv,jv]
 have:¬((kf u).1=(kf v).1/\(kf u).2=(kf v).2):=fun z=>h (Prod.ext z.1 z.2)
 omega
def iJ(P:Program)(w:World)(kf:Value->Int×Int)(h:Heap)(vs:List Value):Prop:=∀v∈vs,∃b,v=.ref b/\IsTupleKey (aw P w) h (fk (kf v).1 (kf v).2) b
theorem iJ.prs{kf:Value->Int×Int}{h:Heap}{vs:List Value}(hw:iJ P w kf h vs):kQ P w h vs:=fun v hv=>by
 obtain⟨b,e,hk⟩:=hw v hv
 exact⟨b,_,_,e,hk⟩
theorem wq{kf:Value->Int×Int}{a:Addr}{vs:List Value}{n:Nat}{R:PySem.Fin->Shared->Prop}(ho:s.heap.get? a=some (seqObj "list" vs.toArray n))(hw:iJ P w kf s.heap vs)(hnd:vs.Nodup)(hinj:∀u∈vs,∀v∈vs,kf u=kf v->u=v)(hsz:vs.length<=100000)
  (h:∀out:Array Value,out.toList.Perm vs->out.toList.Pairwise (fun u v=>bX kf v u=false)->R (.done (.ret .none)) { s with heap:=sortedHeap s.heap a vs out }) :
  wpAny (model P w) A (Builtin.«list.sort» ⟨[.ref a],[]⟩) R E s:=by
 rw[list_sort_plain]
 have hline:vs.length<=sizeLine:=BL hsz (by decide)
 have ha:a<s.heap.objs.size:=Bh ho
 refine Bc (listItems_at ho rfl ?_)
 refine Bc (listUpdate_at ho rfl ?_ (by rw[Bn];exact hline) (Nat.zero_le _))
 obtain⟨e1,ho1⟩:∃e1,(s.heap.update a (Obj.mapSeq fun _=>#[])).get? a=some (seqObj "list" #[] e1):=⟨_,get?_update_seq ho (fun _=>#[])⟩
 refine Bc (seqEpoch_at ho1 rfl ?_)
 refine Bc (wpAny_newTuple ?_ (by rw[List.toList_toArray];exact hline))
 refine Bc (wpAny_newList ?_)
 refine wpAny_holding ?_
 have ho6:(((s.heap.update a (Obj.mapSeq fun _=>#[])).push (seqObj "tuple" vs.toArray 0)).push (seqObj "list" #[] 0)).get? a=some (seqObj "list" #[] e1):=by
  rw[Heap.get?_push_ne _ _ _ (by rw[size_push',Heap.size_update];exact BA (Nat.lt_succ_of_lt ha)),Heap.get?_push_ne _ _ _ (by rw[Heap.size_update];exact BA ha)]
  exact ho1
 have hw6:iJ P w kf (((s.heap.update a (Obj.mapSeq fun _=>#[])).push (seqObj "tuple" vs.toArray 0)).push (seqObj "list" #[] 0)) vs:=fun v hv=>by
  obtain⟨b,rfl,o,xs,m,hb,hc,hd,hi⟩:=hw v hv
  refine⟨b,rfl,o,xs,m,?_,hc,hd,hi⟩
  have hne:a≠b:=by
   rintro rfl
   rw[ho]at hb
   cases hb
   exact absurd (show Value.type "list" = Value.type "tuple" from hc) (by decide)
  exact Bf _ (Bf _ ((Heap.get?_update_other _ _ hne).trans hb))
 show wpAny (model P w) A _ R E { s with heap:=((s.heap.update a (Obj.mapSeq fun _=>#[])).push (seqObj "tuple" vs.toArray 0)).push (seqObj "list" #[] 0) }
 dsimp only
 have hsz':vs.toArray.size=vs.length:=by simp
 have e0:pairsOf vs=(vs.map fun v=>(v,v)).toArray:=by
  apply Array.toList_inj.mp
  rw[pairsOf_toList]
  exact tP vs
 have fin:∀st':SortSt,(arrOf st').Perm (pairsOf vs)->Sg (fun x y=>bX kf x.1 y.1) (arrOf st') 0 (pairsOf vs).size->R (.done (.ret .none)) { s with heap:=sortedHeap s.heap a vs ((arrOf st').map (·.2)) }:=by
  intro st' hp hs
  have hpl:=Array.perm_iff_toList_perm.mp hp
  have hal:∀p∈(arrOf st').toList,p.2=p.1:=fun p hq=>by
   have:=hpl.mem_iff.mp hq
   rw[e0]at this
   obtain⟨v,_,rfl⟩:=List.mem_map.mp (by simpa using this)
   rfl
  have em:((arrOf st').map (·.2)).toList=(arrOf st').toList.map (·.1):=by
   rw[Array.toList_map]
   exact List.map_congr_left hal
  refine h _ ?_ ?_
  ·rw[em]
   refine(hpl.map _).trans (List.Perm.of_eq ?_)
   rw[e0]
   show List.map _ (List.map _ vs)=vs
   rw[List.map_map]
   exact List.map_id vs
  ·rw[em,List.pairwise_map]
   have hz:(arrOf st').size=(pairsOf vs).size:=hp.size_eq
   have:=Sg.srt hs (by omega)
   rw[List.drop_zero,←hz,←Bm,BJ]at this
   exact this
 by_cases h2:vs.toArray.size<2
 ·rw[if_pos h2,if_pos h2]
  refine Bc (Bd ?_)
  rw[StateT.run_pure]
  refine Bc (Bd ?_)
  dsimp only
  refine Bc (seqEpoch_at ho6 rfl ?_)
  refine Bc (listUpdate_at ho6 rfl ?_ (hsz2:=by rw[Array.size_map];show(pairsOf vs).size<=_;rw[e0,Bn,Bi];exact Nat.le_succ_of_le hline))
  simp only[bne_self_eq_false,Bool.false_eq_true,if_false]
  refine Bd (fin (SortSt.mk' general' (vs.toArray.zip vs.toArray) #[] 7 none) (Array.Perm.refl _) fun i j hij hj=>?_)
  have:(pairsOf vs).size=vs.length:=by rw[e0];simp
  rw[hsz']at h2
  omega
 rw[hsz']at h2
 rw[if_neg (by rw[hsz'];omega),if_neg (by rw[hsz'];omega)]
 refine Bc (xD (s:={ s with heap:=((s.heap.update a (Obj.mapSeq fun _=>#[])).push (seqObj "tuple" vs.toArray 0)).push (seqObj "list" #[] 0) }) (hw6.prs) (by omega) ?_)
 have hU:Unl (fun p:Keyed=>p.1∈vs/\p.2=p.1) (fun x y=>bX kf x.1 y.1) (pairsOf vs):=by
  refine⟨⟨fun x y _ _ e=>uP e,fun x y z _ _ _ e1 e2=>Au e1 e2⟩,fun x y hx hy hne=>?_,fun p hp=>?_,?_⟩
  ·refine wM fun e=>hne ?_
   have:=hinj _ hx.1 _ hy.1 e
   exact Prod.ext this (by rw[hx.2,hy.2];exact this)
  ·rw[e0]at hp
   obtain⟨v,hv,rfl⟩:=List.mem_map.mp (by simpa using hp)
   exact⟨hv,rfl⟩
  ·rw[e0]
   show(List.map _ vs).Nodup
   unfold List.Nodup
   rw[List.pairwise_map]
   exact hnd.imp fun hn e=>hn (congrArg Prod.fst e)
 refine Bc (wpAny_mono (wo (prog:=P) (w:=w) (A:=A) (E:=E) (s:={ s with heap:=((s.heap.update a (Obj.mapSeq fun _=>#[])).push (seqObj "tuple" vs.toArray 0)).push (seqObj "list" #[] 0) }) (κ:=tuples' true) (X:=fun p:Keyed=>p.1∈vs/\p.2=p.1) (lt:=fun x y=>bX kf x.1 y.1) (a₀:=pairsOf vs) (st:=SortSt.mk' (tuples' true) (vs.toArray.zip vs.toArray) #[] 7 none)
  (Q:=fun _ st'=>(arrOf st').Perm (pairsOf vs)/\failedOf st'=none/\Sg (fun x y=>bX kf x.1 y.1) (arrOf st') 0 (pairsOf vs).size) (fun x y hx hy Q' E' hq=>?_) hU ⟨Array.Perm.refl _,rfl,rfl,rfl⟩ rfl fun st' a1 a2 a3=>⟨a1,a2,a3⟩) ?_ fun _ _ e=>e)
 ·obtain⟨b1,e1,q1⟩:=hw6 _ hx.1
  obtain⟨b2,e2,q2⟩:=hw6 _ hy.1
  have q1':=q1
  have q2':=q2
  unfold bX at hq
  dsimp only at hq
  generalize kf x.1=k1 at q1' hq
  generalize kf y.1=k2 at q2' hq
  rw[e1,e2]
  exact Ag q1' q2' hq
 ·rintro⟨⟨⟩,st'⟩ s' ⟨rfl,hp,hf,hs⟩
  dsimp only
  refine Bc (seqEpoch_at ho6 rfl ?_)
  have hpm:((arrOf st').map (·.2)).toList.Perm vs:=by
   rw[Array.toList_map]
   refine((Array.perm_iff_toList_perm.mp hp).map _).trans ?_
   rw[pairsOf_toList]
   refine List.Perm.of_eq ?_
   exact List.map_snd_zip (BB _)
  refine Bc (listUpdate_at ho6 rfl ?_ (hsz2:=by rw[←Bm,hpm.length_eq];exact Nat.le_succ_of_le hline))
  rw[hf]
  simp only[bne_self_eq_false,Bool.false_eq_true,if_false]
  exact Bd (fin st' hp hs)
theorem fF.eq{k:List Key}(h:fF k):fk (kp k).1 (kp k).2=k:=by
 obtain⟨a,b,rfl⟩:=h
 rfl
open Classical in
def f6(P:Program)(w:World)(h:Heap):Value->Int×Int
 | .ref b=>if z:∃k,fF k/\IsTupleKey (aw P w) h k b then kp z.choose else(0,0)
 | _=>(0,0)
theorem iG{h:Heap}{b:Addr}{k:List Key}(hp:fF k)(hk:IsTupleKey (aw P w) h k b):f6 P w h (.ref b)=kp k:=by
 have z:∃k,fF k/\IsTupleKey (aw P w) h k b:=⟨k,hp,hk⟩
 unfold f6
 dsimp only
 rw[dif_pos z,key_inj z.choose_spec.2 hk]
theorem yi{B:Addr->List Key->Prop}{a:Addr}{D:List (List Key)}{Q:Value->Shared->Prop}(hA:A.handled=none)(hS:cK P w B s.heap a D)(hD:∀k∈D,fF k)(hsz:D.length<1401)
  (h:∀(h':Heap) (tk:Nat) d (l:Addr) (bs:List Addr) (ds:List (List Key)),s.heap.objs.size<=l->(∃e,h'.get? l=some (seqObj "list" (bs.map Value.ref).toArray e))->ds.Perm D->bs.length=ds.length->(∀(i:Nat) b k,bs[i]?=some b->ds[i]?=some k->IsTupleKey (aw P w) s.heap k b/\B b k)->ds.Pairwise (fun x y=>ltP (kp y).1 (kp y).2 (kp x).1 (kp x).2=false)->s.toks<=tk →
   (∀b o,b<s.heap.objs.size->s.heap.get? b=some o->h'.get? b=some o)->Q (.ref l) { s with heap:=h',toks:=tk,drawn:=d }) :
  wpAny (model P w) A (call (.builtin "sorted") [.ref a]) Q E s:=by
 obtain⟨hnd,o,es,ep,t,ho,hex,hd,hdm,hm,hfull,hlen,hT,hall,hin,hled⟩:=id hS
 have hp:t.place.size=es.size:=by rw[hT.len,Array.size_map]
 have hf:t.fits es.size=true:=by
  simp only[SetTable.fits,BQ,beq_iff_eq,decide_eq_true_eq]
  refine⟨hp,?_⟩
  unfold SetTable.fill
  rw[hdm,hp]
  have:es.size<=t.mask:=by omega
  simpa using this
 refine Calls.call_function_entry kind_sorted plain_sorted entry_sorted (args_sorted1 _) ?_
 unfold Builtin.«sorted»
 refine Bc (m:=checkCount "sorted" 1 1 _) (Bd ?_)
 refine Bc (Ti.collect_walk (by simp[hA]) ho hex hd hf hled hp hT.inc (BL (show es.size<=10000 by omega) (by decide)) fun h1 tk d vs hvp htk hsz1 hk1=>?_)
 have hvl:vs.length=es.size:=by rw[hvp.length_eq,Bi,Bm]
 have hline:vs.length<=sizeLine:=BL (show vs.length<=10000 by omega) (by decide)
 refine Bc (wpAny_newList ?_ hline)
 have hoL:(h1.push (seqObj "list" vs.toArray 0)).get? h1.objs.size=some (seqObj "list" vs.toArray 0):=Bg _ rfl
 have hkey1:∀k b,IsTupleKey (aw P w) s.heap k b->IsTupleKey (aw P w) (h1.push (seqObj "list" vs.toArray 0)) k b:=fun k b ⟨o',is,n,q1,q2,q3,q4⟩=>⟨o',is,n,Bf _ (hk1 b o' (Bh q1) q1),q2,q3,q4⟩
 have hval:∀v∈vs,∃b k,v=.ref b/\k∈D/\IsTupleKey (aw P w) s.heap k b:=fun v hv=>by
  obtain⟨e,he,rfl⟩:=List.mem_map.mp (hvp.mem_iff.mp hv)
  obtain⟨b,k,rfl,hk,hkb,_⟩:=hall e he
  exact⟨b,k,rfl,hk,hkb⟩
 have hw:iJ P w (f6 P w s.heap) (h1.push (seqObj "list" vs.toArray 0)) vs:=fun v hv=>by
  obtain⟨b,k,rfl,hk,hkb⟩:=hval v hv
  rw[iG (hD k hk) hkb,(hD k hk).eq]
  exact⟨b,rfl,hkey1 k b hkb⟩
 -- the same key lies at one place alone
 obtain⟨bs0,ds0,o1,o2,o3,o4,o5,o6⟩:=kW (P:=P) (w:=w) (B:=B) (h:=s.heap) (D:=D) (es:=es.toList) hall
 have hfind:∀k∈D,k∈ds0:=fun k hk=>by
  obtain⟨b,hb,hkb⟩:=hin k hk
  obtain⟨i,hi⟩:=o6 b (List.mem_map.mpr ⟨_,hb,rfl⟩)
  have hil:i<ds0.length:=by
   rw[←o2]
   exact(Bq.mp hi).1
  have:=(o5 i b _ hi (Bj hil)).1
  rw[key_inj hkb this]
  exact BH hil
 have hd0l:ds0.length=D.length:=by rw[←o2,←o3,Bm,hlen]
 have hd0:ds0.Nodup:=(nh hnd hfind hd0l).nodup_iff.mpr hnd
 have one:∀i j b c k,bs0[i]?=some b->ds0[i]?=some k->bs0[j]?=some c->ds0[j]?=some k->i=j:=fun i j b c k e1 e2 e3 e4=>by
  obtain⟨g1,r1⟩:=Bq.mp e2
  obtain⟨g2,r2⟩:=Bq.mp e4
  rcases Nat.lt_trichotomy i j with z | z | z
  ·exact absurd (r1.trans r2.symm) (List.pairwise_iff_getElem.mp hd0 i j g1 g2 z)
  ·exact z
  ·exact absurd (r2.trans r1.symm) (List.pairwise_iff_getElem.mp hd0 j i g2 g1 z)
 have hat:∀v∈vs,∃i b k,v=.ref b/\bs0[i]?=some b/\ds0[i]?=some k/\k∈D/\IsTupleKey (aw P w) s.heap k b:=fun v hv=>by
  have hv':=hvp.mem_iff.mp hv
  rw[o1]at hv'
  obtain⟨b,hb,rfl⟩:=List.mem_map.mp hv'
  obtain⟨i,hi⟩:=List.getElem?_of_mem hb
  have hil:i<ds0.length:=by
   rw[←o2]
   exact(Bq.mp hi).1
  have hk:=Bj hil
  exact⟨i,b,_,rfl,hi,hk,o4 _ (Br hk),(o5 i b _ hi hk).1⟩
 have hvn:vs.Nodup:=by
  refine hvp.nodup_iff.mpr ?_
  rw[o1]
  unfold List.Nodup
  rw[List.pairwise_map,List.pairwise_iff_getElem]
  intro i j hi hj hij e
  have e':bs0[i]=bs0[j]:=by injection e
  have hil:i<ds0.length:=by omega
  have hjl:j<ds0.length:=by omega
  have k1:=(o5 i _ _ (Bj hi) (Bj hil)).1
  have k2:=(o5 j _ _ (Bj hj) (Bj hjl)).1
  rw[e']at k1
  have:=one i j _ _ _ (Bj hi) (Bj hil) (Bj hj) (by rw[Bj hjl,key_inj k1 k2])
  omega
 have hinj:∀u∈vs,∀v∈vs,f6 P w s.heap u=f6 P w s.heap v->u=v:=fun u hu v hv e=>by
  obtain⟨i,b,k,rfl,i1,i2,i3,i4⟩:=hat u hu
  obtain⟨j,c,k',rfl,j1,j2,j3,j4⟩:=hat v hv
  rw[iG (hD k i3) i4,iG (hD k' j3) j4]at e
  have ek:k=k':=by rw[←(hD k i3).eq,←(hD k' j3).eq,e]
  subst ek
  have:=one i j b c k i1 i2 j1 j2
  subst this
  rw[i1]at j1
  cases j1
  rfl
 refine Bc (wpAny_holding (wpAny_call_entry slot_list_sort ⟨_,hoL,rfl⟩ entry_list_sort (wq (s:={ s with heap:=h1.push (seqObj "list" vs.toArray 0),toks:=tk,drawn:=d }) (kf:=f6 P w s.heap) hoL hw hvn hinj (by omega) fun out hpo hso=>⟨_,rfl,?_⟩) (args_list_sort _)))
 refine Bd ⟨_,rfl,?_⟩
 obtain⟨es',he1,he2⟩:=xM (hvp.symm.trans hpo.symm) (es:=es.toList) rfl
 obtain⟨bs,ds,p1,p2,p3,p4,p5,p6⟩:=kW (P:=P) (w:=w) (B:=B) (h:=s.heap) (D:=D) (es:=es') fun e he=>hall e (he1.mem_iff.mpr he)
 have hout:out=(bs.map Value.ref).toArray:=by
  rw[←p1,he2]
 have hdl:ds.length=D.length:=by rw[←p2,←p3,←he1.length_eq,Bm,hlen]
 refine h _ tk d h1.objs.size bs ds (Nat.le_of_lt hsz1) ?_ (nh hnd (fun k hk=>?_) hdl) p2 p5 ?_ htk fun b o' hb e=>?_
 ·have hne1:h1.objs.size≠(h1.push (seqObj "list" vs.toArray 0)).objs.size:=by
   rw[size_push']
   exact BA (Nat.lt_succ_self _)
  obtain⟨e1,q1⟩:∃e1,((h1.push (seqObj "list" vs.toArray 0)).update h1.objs.size (Obj.mapSeq fun _=>#[])).get? h1.objs.size=some (seqObj "list" #[] e1):=⟨_,get?_update_seq hoL (fun _=>#[])⟩
  have q2:(((((h1.push (seqObj "list" vs.toArray 0)).update h1.objs.size (Obj.mapSeq fun _=>#[])).push (seqObj "tuple" vs.toArray 0)).push (seqObj "list" #[] 0))).get? h1.objs.size=some (seqObj "list" #[] e1):=Bf _ (Bf _ q1)
  have q3:=get?_update_seq q2 (fun _=>out)
  subst hout
  exact⟨_,q3⟩
 ·obtain⟨b,hb,hkb⟩:=hin k hk
  obtain⟨i,hi⟩:=p6 b (List.mem_map.mpr ⟨_,he1.mem_iff.mp hb,rfl⟩)
  have hil:i<ds.length:=by
   rw[←p2]
   exact(Bq.mp hi).1
  have:=(p5 i b _ hi (Bj hil)).1
  rw[key_inj hkb this]
  exact BH hil
 ·rw[hout,List.toList_toArray,List.pairwise_map,List.pairwise_iff_getElem]at hso
  rw[List.pairwise_iff_getElem]
  intro i j hi hj hij
  have hib:i<bs.length:=by omega
  have hjb:j<bs.length:=by omega
  have:=hso i j hib hjb hij
  unfold bX at this
  have k1:=(p5 i _ _ (Bj hib) (Bj hi)).1
  have k2:=(p5 j _ _ (Bj hjb) (Bj hj)).1
  rw[iG (hD _ (p4 _ (BH hi))) k1,iG (hD _ (p4 _ (BH hj))) k2]at this
  exact this
 ·have hb1:b<h1.objs.size:=Nat.lt_trans hb hsz1
  have e1:=hk1 b o' hb e
  unfold sortedHeap
  refine(Heap.get?_update_other _ _ (Nat.ne_of_gt hb1)).trans (Bf _ (Bf _ ((Heap.get?_update_other _ _ (Nat.ne_of_gt hb1)).trans (Bf _ e1))))
end
abbrev qX(P:Program)(w:World)(x:Addr×List Key):Int×Value:=(tupleKeyHash (aw P w) x.2,.ref x.1)
def eU(P:Program)(w:World)(h:Heap)(a:Addr)(L:List (Addr×List Key)):Prop:=∃o es ep t,h.get? a=some o/\o.ExactSet/\o.data=.set es ep t/\t.dummies = #[]/\Tb.Mask t.mask/\es.size*5<t.mask*3/\Tb.TOk t.mask t.place (es.map (·.1))/\es.toList=L.map (qX P w)/\t.led=bH w
def setK(P:Program)(w:World)(a:Addr)(L:List (Addr×List Key)):HO:=.ext fun h=>eU P w h a L
section
variable {P:Program} {w:World}
theorem uJ{h:Heap}{B:Addr->List Key->Prop}{D:List (List Key)}:∀{es:List (Int×Value)},(∀e∈es,∃b k,e=(tupleKeyHash (aw P w) k,Value.ref b)/\k∈D/\IsTupleKey (aw P w) h k b/\B b k)->∃L:List (Addr×List Key),es=L.map (qX P w)/\∀x∈L,x.2∈D/\IsTupleKey (aw P w) h x.2 x.1/\B x.1 x.2
 | [],_=>⟨[],rfl,fun x hx=>by cases hx⟩
 | e::es,hall=>by
  obtain⟨L,h1,h2⟩:=uJ (es:=es) fun x hx=>hall x (Bl _ hx)
  obtain⟨b,k,rfl,hk,hkb,hBb⟩:=hall e Bo
  refine⟨(b,k)::L,by rw[h1];rfl,fun x hx=>?_⟩
  rcases Bw.mp hx with rfl | hx
  ·exact⟨hk,hkb,hBb⟩
  ·exact h2 x hx
theorem cK.obj{B:Addr->List Key->Prop}{h:Heap}{a:Addr}{D:List (List Key)}(hS:cK P w B h a D):∃L,eU P w h a L/\(L.map (·.2)).Perm D/\∀x∈L,B x.1 x.2:=by
 obtain⟨hnd,o,es,ep,t,ho,hex,hd,hdm,hm,hfull,hlen,hT,hall,hin,hpl⟩:=hS
 obtain⟨L,h1,h2⟩:=uJ hall
 have hl:L.length=D.length:=by
  rw[←hlen,←Bm,h1,Bi]
 refine⟨L,⟨o,es,ep,t,ho,hex,hd,hdm,hm,hfull,hT,h1,hpl⟩,nh hnd (fun k hk=>?_) (by rw[Bi,hl]),fun x hx=>(h2 x hx).2.2⟩
 ·obtain⟨b,hb,hkb⟩:=hin k hk
  rw[h1]at hb
  obtain⟨x,hx',e⟩:=List.mem_map.mp hb
  have e2:Value.ref x.1=Value.ref b:=congrArg Prod.snd e
  cases e2
  rw[key_inj hkb (h2 x hx').2.1]
  exact List.mem_map.mpr ⟨x,hx',rfl⟩
theorem eU.set{B:Addr->List Key->Prop}{h:Heap}{a:Addr}{L:List (Addr×List Key)}(hS:eU P w h a L)(hnd:(L.map (·.2)).Nodup)(hk:∀x∈L,IsTupleKey (aw P w) h x.2 x.1/\B x.1 x.2):cK P w B h a (L.map (·.2)):=by
 obtain⟨o,es,ep,t,ho,hex,hd,hdm,hm,hfull,hT,h1,hpl⟩:=hS
 refine⟨hnd,o,es,ep,t,ho,hex,hd,hdm,hm,hfull,?_,hT,fun e he=>?_,fun k hk'=>?_,hpl⟩
 ·rw[←Bm,h1,Bi,Bi]
 ·rw[h1]at he
  obtain⟨x,hx,rfl⟩:=List.mem_map.mp he
  exact⟨x.1,x.2,rfl,List.mem_map.mpr ⟨x,hx,rfl⟩,hk x hx⟩
 ·obtain⟨x,hx,rfl⟩:=List.mem_map.mp hk'
  exact⟨x.1,by rw[h1];exact List.mem_map.mpr ⟨x,hx,rfl⟩,(hk x hx).1⟩
theorem pU{H:Hp}{h:Heap}{a:Addr}{L:List (Addr×List Key)}(S:eU P w h a L):bh P w H h a (setK P w a L):=by
 refine⟨S,?_,fun h1 h2 z k=>?_⟩
 ·obtain⟨o,es,ep,t,ho,_⟩:=S
  exact⟨o,ho⟩
 ·obtain⟨o',es',ep',t',ho',r⟩:=z
  exact⟨o',es',ep',t',k _ ho',r⟩
end
section
variable {X:Cx} {pins:List (Addr×Obj)} {σ:St} {H:Hp} {s:Shared}
theorem kT:∀{bs:List Addr} {us:List Value},Vals (bs.map V.ref) us->us=bs.map Value.ref
 | [],_,.nil=>rfl
 | b::bs,_,.cons r t=>by
  rw[List.map_cons,←kT (bs:=bs) t]
  exact congrArg (· :: _) r
theorem lF(I:Inv X pins σ H s){b:Addr}{k:List Key}(e:H b=some (.tup (k.map kV))):IsTupleKey (aw X.prog X.w) s.heap k b:=by
 obtain⟨_,is,rk,o,ho,hc,n,hd⟩:=I.hok b _ e
 exact⟨o,_,n,ho,hc,hd,lJ rk⟩
def KeysAt(H:Hp)(bs:List Addr)(kk:List (List Key)):Prop:=bs.length=kk.length/\∀(j:Nat) (b:Addr) (k:List Key),bs[j]?=some b->kk[j]?=some k->H b=some (.tup (k.map kV))
end
section
variable {X:Cx}
def rSetP(P:Program)(w:World):List V->Hp->VK->Prop:=fun xs H Q=>∃p bs kk,xs=[.ref p]/\H p=some (.lst (bs.map V.ref))/\KeysAt H bs kk/\kk.length<1400 ∧
 ∀l L,H l=none->(L.map Prod.snd).Nodup->(∀k,k∈L.map Prod.snd↔k∈kk)->(∀x∈L,H x.1=some (.tup (x.2.map kV)))->Q (.ref l) (upd H l (setK P w l L))
theorem call_setP{k:Nat}(hr:Room k X.A):cA X (.type "set") (rSetP X.prog X.w):=by
 intro pins s σ H xs us Q I r h
 obtain⟨p,bs,kk,rfl,hp,⟨h2,h3⟩,hz,q⟩:=h
 obtain⟨u,rfl,rx⟩:=vals1 r
 cases rx
 have hu:=hr.units
 have hA:=hr.hd
 have keys:∀(j:Nat) (b:Addr) (k:List Key),bs[j]?=some b->kk[j]?=some k->IsTupleKey (aw X.prog X.w) s.heap k b:=fun j b k e1 e2=>lF I (h3 j b k e1 e2)
 have fin:∀(h':Heap) (tk:Nat) (D:List (List Key)),iC X.prog X.w s bs kk D h'->∃v H',Inv X pins σ H' { s with heap:=h',toks:=tk }/\RelV v (.ref s.heap.objs.size)/\Q v H':=fun h' tk D hm=>by
  obtain⟨hS,hD,hk⟩:=hm
  obtain⟨L,hO,hLp,hLB⟩:=hS.obj
  have hfr:=I.hok.fresh (BB _)
  refine⟨.ref s.heap.objs.size,_,I.laid (t':=tk) (fun b o e=>hk b o (Bh e) e) (BB _) (pU hO),rfl,q _ L hfr (hLp.nodup_iff.mpr hS.1) (fun k=>(hLp.mem_iff.trans (hD k))) fun x hx=>?_⟩
  obtain⟨j,e1,e2⟩:=hLB x hx
  exact h3 j _ _ e1 e2
 obtain⟨_,its,n,rv,gt⟩:=I.hok p _ hp
 have ei:=kT rv
 subst ei
 refine vx (kk:=kk) (bs:=bs) hA (by omega) (show s.heap.IsList p _ from⟨_,gt,rfl,n,rfl⟩) rfl (by simp[h2]) (by simp[h2];exact hz) keys fin
def rSortP(P:Program)(w:World):List V->Hp->VK->Prop:=fun xs H Q=>∃p L,xs=[.ref p]/\H p=some (setK P w p L)/\(L.map Prod.snd).Nodup/\(∀x∈L,fF x.2/\H x.1=some (.tup (x.2.map kV)))/\L.length<1401 ∧
 ∀l bs ds,H l=none->ds.Perm (L.map Prod.snd)->KeysAt H bs ds->ds.Pairwise (fun x y=>ltP (kp y).1 (kp y).2 (kp x).1 (kp x).2=false)->Q (.ref l) (upd H l (.lst (bs.map V.ref)))
theorem call_sortP{k:Nat}(hr:Room k X.A):cA X (.builtin "sorted") (rSortP X.prog X.w):=by
 intro pins s σ H xs us Q I r h
 obtain⟨p,L,rfl,hp,hnd,hL,hl3,q⟩:=h
 obtain⟨u,rfl,rx⟩:=vals1 r
 cases rx
 have hA:=hr.hd
 obtain⟨hO,_⟩:=I.hok p _ hp
 have hS:=eU.set (B:=fun b k=>H b=some (.tup (k.map kV))) (show eU X.prog X.w s.heap p L from hO) hnd fun x hx=>⟨lF I (hL x hx).2,(hL x hx).2⟩
 refine yi hA hS (fun k hk=>?_) (by rw[Bi];exact hl3) fun h' tk d l bs ds hle hlst hdp hbl hkeys hord htk hk=>?_
 ·obtain⟨x,hx,rfl⟩:=List.mem_map.mp hk
  exact(hL x hx).1
 ·have hfr:=I.hok.fresh hle
  refine⟨.ref l,_,((I.dr d).laid (t':=tk) (o:=.lst (bs.map V.ref)) (fun b o e=>hk b o (Bh e) e) hle ?_),rfl,q l bs ds hfr hdp ⟨hbl,fun j b k e1 e2=>(hkeys j b k e1 e2).2⟩ hord⟩
  obtain⟨e,he⟩:=hlst
  have hbd:bs.length<=10000:=by
   rw[hbl,hdp.length_eq,Bi]
   omega
  refine⟨by rw[Bi];exact BL hbd (by decide),bs.map Value.ref,e,?_,he⟩
  clear hbl hkeys hdp he hbd
  induction bs with
  | nil=>exact .nil
  | cons b bs ih=>exact .cons rfl ih
end
end L2.Tp
namespace L2.Tp
open PySem PySem.Spec PyProof.Rows
section
variable {P:Program} {w:World} {A:Around} {E:Value->Shared->Prop} {s:Shared}
theorem zb{t:Addr}{ys:Array Value}{bs:List Addr}{kk:List (List Key)}{Q:Value->Shared->Prop}(hA:A.handled=none)(hu:A.units+5<cLine)(gt:s.heap.IsTuple t ys)(hb:ys.toList=bs.map Value.ref)
  (hn:kk.length=ys.size) (hz:ys.size<1400) (hkey:∀(j:Nat) (b:Addr) (k:List Key),bs[j]?=some b->kk[j]?=some k->IsTupleKey (aw P w) s.heap k b)
  (h:∀(h':Heap) (tk:Nat) (D:List (List Key)),iC P w s bs kk D h'->Q (.ref s.heap.objs.size) { s with heap:=h',toks:=tk }):wpAny (model P w) A (call (.type "set") [.ref t]) Q E s:=by
 have x1:=F.called_set.notType
 have x2:=F.called_set.canCreate
 have x3:=F.typeCall_set_1 (.ref t)
 have x4:=F.called_set.made
 have x5:=F.called_set.sub
 obtain⟨c,tl,x6⟩:=F.called_set.mro
 refine wpAny_call (codeAny_of_tree ?_)
 show wpAny _ _ (callAny (.type "set") _) _ _ _
 refine Bd ⟨Code.quiet_builtin _ (by decide +kernel),codeAny_builtin F.entry_type_call ?_⟩
 rw[Around.under_plain (weight_type_call_type "set" [.ref t] []) rfl]
 repeat (any_goals (first | assumption | wp_step))
 refine codeAny_mono (rH (.ref t) (E:=E) (Q₁:=fun v s1=>v=.ref s.heap.objs.size/\s1={ s with heap:=s.heap.push (bQ (bH w)) }) ⟨rfl,rfl⟩) fun r s1 hr=>?_
 cases r with
 | error e=>exact hr
 | ok fl=>
  cases fl with
  | ret v=>
   obtain⟨rfl,rfl⟩:=hr
   have gS:(s.heap.push (bQ (bH w))).get? s.heap.objs.size=some (bQ (bH w)):=Bg _ rfl
   have hT:Shared.TypeIs { s with heap:=s.heap.push (bQ (bH w)) } (.ref s.heap.objs.size) "set":=⟨_,gS,rfl⟩
   have x7:=F.called_set.init.lookup
   have x8:=F.called_set.init.bind (.ref s.heap.objs.size)
   repeat (any_goals (first | assumption | wp_step))
   refine codeAny_mono (codeAny_call_builtin (R:=wants (fun r s2=>r=.none/\∃h' tk D,s2={ s with heap:=h',toks:=tk }/\iC P w s bs kk D h') E) F.called_set.init.plain F.entry_set_init (check_set_init_1 hT ?_)) fun r2 s2 hr2=>?_
   ·have g1:(s.heap.push (bQ (bH w))).IsTuple t ys:=gt.push _
    have hlt:t<s.heap.objs.size:=by
     obtain⟨o,ho,_⟩:=gt
     exact Bh ho
    obtain⟨ol,hol,hcl,nl,hdl⟩:=id g1
    obtain⟨c0,d0,dt,sl⟩:=ol
    simp only at hcl hdl
    subst hcl hdl
    have y1:=F.sub_tuple_set
    have y2:=uX
    have y3:(Value.type "tuple" == Value.type "dict")=false:=by decide
    unfold Builtin.«set.__init__» noKeywords Builtin.Frozenset.updateFrom
    generalize hit:pyIter=PI
    wp_walk
    subst hit
    refine wpAny_pyIter_tuple g1 ?_
    refine Bc (wpAny_runValue ?_)
    have e1:(s.heap.push (bQ (bH w))).objs.size=s.heap.objs.size+1:=Heap.size_push _ _
    have hA3:A.in1.in1.in1.handled=none:=by simp[hA]
    have hne:t≠(s.heap.push (bQ (bH w))).objs.size:=by
     rw[e1]
     exact BA (Nat.lt_succ_of_lt hlt)
    have hSf:s.heap.objs.size∉[(s.heap.push (bQ (bH w))).objs.size,t]:=by
     intro z
     rcases Bw.mp z with z | z
     ·rw[e1]at z
      exact BA (Nat.lt_succ_self _) z
     ·exact Nat.ne_of_gt hlt (Bs.mp z)
    have hbs:∀i:Nat,ys[i]?=(bs[i]?).map Value.ref:=fun i=>by
     rw[←Array.getElem?_toList,hb,Bk]
    refine pj (B:=fun b k=>∃j:Nat,bs[j]?=some b/\kk[j]?=some k) ((Walks.tuple hA3 _ t hne ys).toS) s.heap.objs.size hSf (by simp only[Around.in1_units];omega) bs kk hn (fun j b k q1 q2=>⟨j,q1,q2⟩) hz (fun i v hv=>?_) (fun i s' hs b hb' o ho=>?_) (ys.size-0) 0 _ [] (by omega) (Nat.zero_le _) ⟨⟨_,Bg _ rfl,rfl,rfl⟩,g1.push _⟩ ⟨List.nodup_nil,bQ (bH w),#[],0,_,Bf _ gS,⟨rfl,rfl,rfl⟩,rfl,rfl,.inl rfl,(show 0*5<7*3 by decide),rfl,(by rw[Array.map_empty];exact Tb.TOk.nil 7),fun e he=>(by simp at he),fun k hk=>(by cases hk),rfl⟩ (BB _) (fun k=>by simp) (fun j b k e1 e2=>?_) fun s' D mv hS' hD=>?_
    ·have hv':ys[i]?=some v:=hv
     rw[hbs i]at hv'
     obtain⟨b,e,rfl⟩:=Bt.mp hv'
     exact⟨b,rfl,e⟩
    ·cases Bs.mp hb'
     obtain⟨o',ho',_,hd'⟩:=hs.1
     rw[ho']at ho
     cases ho
     exact⟨_,hd'⟩
    ·obtain⟨o,items,q,ho,r⟩:=hkey j b k e1 e2
     exact⟨o,items,q,Bf _ (Bf _ ho),r⟩
    ·obtain⟨h',g',d',tk',os'⟩:=s'
     have q1:g'=s.gens:=mv.gens
     have q2:d'=s.drawn:=mv.drawn
     have q3:os'=s.os:=mv.os
     subst q1 q2 q3
     show wpAny _ _ _ _ _ _
     refine Bd ?_
     show wpAny _ _ (ret Value.none) _ _ _
     refine Bd ⟨rfl,h',tk',D,rfl,hS',hD,fun b o hb e=>mv.heap b o (fun z=>?_) (Bf _ (Bf _ e))⟩
     rcases Bw.mp z with z | z
     ·exact BA hb z
     ·have z:=Bs.mp z
      rw[e1]at z
      exact BA (Nat.lt_succ_of_lt hb) z
   ·cases r2 with
    | error e=>exact hr2
    | ok f2=>
     cases f2 with
     | ret r=>
      obtain⟨rfl,h',tk,D,rfl,hS'⟩:=hr2
      repeat (any_goals (first | assumption | wp_step))
      exact h _ _ D hS'
     | _=>exact hr2.elim
  | _=>exact hr.elim
end
section
variable {X:Cx}
def xA(P:Program)(w:World):List V->Hp->VK->Prop:=fun xs H Q=>∃p bs kk,xs=[.ref p]/\H p=some (.tup (bs.map V.ref))/\KeysAt H bs kk/\kk.length<1400 ∧
 ∀l L,H l=none->(L.map Prod.snd).Nodup->(∀k,k∈L.map Prod.snd↔k∈kk)->Q (.ref l) (upd H l (setK P w l L))
theorem call_setQ{k:Nat}(hr:Room k X.A):cA X (.type "set") (xA X.prog X.w):=by
 intro pins s σ H xs us Q I r h
 obtain⟨p,bs,kk,rfl,hp,⟨h2,h3⟩,hz,q⟩:=h
 obtain⟨u,rfl,rx⟩:=vals1 r
 cases rx
 have hu:=hr.units
 have hA:=hr.hd
 obtain⟨_,its,rv,gt⟩:=I.hok p _ hp
 have ei:=kT rv
 subst ei
 refine zb (kk:=kk) (bs:=bs) hA (by omega) (show s.heap.IsTuple p _ from gt) rfl (by simp[h2]) (by simp[h2];exact hz) (fun j b k e1 e2=>lF I (h3 j b k e1 e2)) fun h' tk D hm=>?_
 obtain⟨hS,hD,hk⟩:=hm
 obtain⟨L,hO,hLp,_⟩:=hS.obj
 exact⟨.ref s.heap.objs.size,_,I.laid (t':=tk) (fun b o e=>hk b o (Bh e) e) (BB _) (pU hO),rfl,q _ L (I.hok.fresh (BB _)) (hLp.nodup_iff.mpr hS.1) fun k=>(hLp.mem_iff.trans (hD k))⟩
def w4(P:Program)(w:World):List V->Hp->VK->Prop:=fun xs H Q=>∃p L,xs=[.ref p]/\H p=some (setK P w p L)/\L.length<1401/\Q (.int L.length) H
theorem call_lenP:cA X (.builtin "len") (w4 X.prog X.w):=by
 intro pins s σ H xs us Q I r h
 obtain⟨p,L,rfl,hp,hn,q⟩:=h
 obtain⟨u,rfl,rx⟩:=vals1 r
 cases rx
 obtain⟨⟨o,es,ep,t,ho,hex,hd,hdm,hm,hfull,hT,hes,_⟩,_⟩:=I.hok p _ hp
 have hs:es.size=L.length:=by rw[←Bm,hes,Bi]
 have hp:t.place.size=es.size:=by rw[hT.len,Array.size_map]
 have hf:t.fits es.size=true:=by
  simp only[SetTable.fits,BQ,beq_iff_eq,decide_eq_true_eq]
  refine⟨hp,?_⟩
  unfold SetTable.fill
  rw[hdm,hp]
  have:es.size<=t.mask:=by omega
  simpa using this
 exact call_len_set ho hex hd hf (by omega) ⟨.int L.length,H,I.tok _,⟨s.toks+1,by rw[hs]⟩,q⟩
end
end L2.Tp
namespace St
section
variable {b s:Int} {o a:List Int}
end
end St
namespace St
def row(f:Nat->Bool)(lo n:Nat):List Int:=((List.range n).filter fun i=>f (lo+i)).map fun i=>((lo+i:Nat):Int)
end St
namespace St
theorem qr(f:Nat->Bool)(lo n:Nat):row f lo (n+1)=row f lo n++if f (lo+n)then[((lo+n:Nat):Int)]else[]:=by
 unfold row
 rw[List.range_succ,List.filter_append,By]
 congr 1
 by_cases h:f (lo+n)=true<;>simp[h]
theorem jF(f:Nat->Bool)(lo n:Nat):(row f lo n).length<=n:=by
 unfold row
 rw[Bi]
 exact BL (List.length_filter_le _ _) (by simp)
theorem yd{f:Nat->Bool}{lo n:Nat}{x:Int}:x∈row f lo n↔(lo:Int)<=x/\x<lo+n/\f x.toNat=true:=by
 unfold row
 simp only[List.mem_map,List.mem_filter,List.mem_range]
 constructor
 ·rintro⟨i,⟨hi,hf⟩,rfl⟩
  refine⟨by omega,by omega,?_⟩
  rw[Bu];exact hf
 ·rintro⟨h1,h2,h3⟩
  refine⟨x.toNat-lo,⟨by omega,?_⟩,by omega⟩
  rw[show lo+(x.toNat-lo)=x.toNat by omega];exact h3
end St
namespace St
end St
namespace St
end St
namespace Bfs
theorem lI:∀(N:Nat) (l:List Nat),l.Nodup->(∀x∈l,x<N)->l.length<=N
 | 0,l,_,h=>by
  cases l with
  | nil=>exact BB _
  | cons x l=>exact absurd (h x Bo) (Nat.not_lt_zero _)
 | N+1,l,hn,h=>by
  have ih:=lI N (l.erase N) (hn.erase N) (fun x hx=>by
   have:=h x (List.mem_of_mem_erase hx)
   have hne:x≠N:=fun e=>by
    subst e
    exact(List.Nodup.not_mem_erase hn) hx
   omega)
  by_cases hm:N∈l
  ·rw[List.length_erase_of_mem hm]at ih
   omega
  ·rw[List.erase_of_not_mem hm]at ih
   omega
abbrev Pl:=Int×Int
def inR(T:Int)(x:Pl):Prop:=0<=x.1/\x.1<12/\0<=x.2/\x.2<=T
theorem A4{T:Int}{l:List Pl}(hT:T<=2000)(hn:l.Nodup)(h:∀x∈l,inR T x):l.length<=24012:=by
 have hmap:(l.map fun x=>(x.1*2001+x.2).toNat).Nodup:=by
  unfold List.Nodup at hn ⊢
  rw[List.pairwise_map]
  refine List.Pairwise.imp_of_mem ?_ hn
  intro a b ha hb hab e
  obtain⟨a1,a2,a3,a4⟩:=h a ha
  obtain⟨b1,b2,b3,b4⟩:=h b hb
  refine hab (Prod.ext ?_ ?_)<;>omega
 have:=lI 24012 _ hmap (fun y hy=>by
  obtain⟨x,hx,rfl⟩:=List.mem_map.mp hy
  obtain⟨a1,a2,a3,a4⟩:=h x hx
  omega)
 rwa [Bi]at this
section
variable (nx:Pl->Nat->Option Pl) (s:Pl)
variable {nx s}
end
end Bfs
namespace Bfs
inductive Rw(S:Pl->Pl->Prop):Nat->Pl->Pl->Prop
 | nil {x:Pl}:Rw S 0 x x
 | snoc {n:Nat} {x y z:Pl}:Rw S n x y->S y z->Rw S (n+1) x z
theorem Rw.trans{S:Pl->Pl->Prop}{n k:Nat}{x y z:Pl}(h:Rw S n x y)(g:Rw S k y z):Rw S (n+k) x z:=by
 induction g with
 | nil=>exact h
 | snoc _ hs ih=>exact .snoc (ih h) hs
theorem Rw.imp{S S':Pl->Pl->Prop}(hS:∀a c,S a c->S' a c){n:Nat}{x y:Pl}(h:Rw S n x y):Rw S' n x y:=by
 induction h with
 | nil=>exact .nil
 | snoc _ hs ih=>exact .snoc ih (hS _ _ hs)
theorem Rw.fn{S:Pl->Pl->Prop}{n:Nat}{x y:Pl}(h:Rw S n x y):∃w:Nat->Pl,w 0=x/\w n=y/\∀i,i<n->S (w i) (w (i+1)):=by
 induction h with
 | @nil x=>exact⟨fun _=>x,rfl,rfl,fun i hi=>absurd hi (Nat.not_lt_zero _)⟩
 | @snoc n x y z _ hs ih=>
  obtain⟨w,h0,hn,hw⟩:=ih
  refine⟨fun i=>if i<=n then w i else z,by simp[h0],(by show(if n+1<=n then w (n+1)else z)=z;rw[if_neg (by omega)]),fun i hi=>?_⟩
  try dsimp only
  rcases Nat.lt_or_ge i n with l | l
  ·rw[if_pos (by omega),if_pos (by omega)]
   exact hw i l
  ·have:i=n:=by omega
   subst this
   rw[if_pos (BB _),if_neg (by omega),hn]
   exact hs
theorem qx{S:Pl->Pl->Prop}{w:Nat->Pl}{i:Nat}:∀(k:Nat),(∀j,i<=j->j<i+k->S (w j) (w (j+1)))->Rw S k (w i) (w (i+k))
 | 0,_=>.nil
 | k+1,h=>.snoc (qx k fun j h1 h2=>h j h1 (by omega)) (h (i+k) (by omega) (by omega))
theorem j5{S:Pl->Pl->Prop}{w:Nat->Pl}{i j:Nat}(hij:i<=j)(h:∀k,i<=k->k<j->S (w k) (w (k+1))):Rw S (j-i) (w i) (w j):=by
 have:=qx (S:=S) (w:=w) (i:=i) (j-i) (fun k h1 h2=>h k h1 (by omega))
 rwa [show i+(j-i)=j by omega]at this
theorem lU{h:Nat->Int}{l:Int}:∀(P:Nat),(∀i,i<P->h (i+1)<=h i+1)->h 0<=l->l<=h P->∃u,u<=P/\h u=l/\∀i,u<i->i<=P->l<h i
 | 0,_,h0,hP=>⟨0,BB _,by omega,fun i h1 h2=>by omega⟩
 | P+1,hs,h0,hP=>by
  by_cases e:h (P+1)=l
  ·exact⟨P+1,BB _,e,fun i h1 h2=>by omega⟩
  ·have:=hs P (by omega)
   obtain⟨u,hu,hl,hi⟩:=lU P (fun i hi=>hs i (by omega)) h0 (by omega)
   refine⟨u,by omega,hl,fun i h1 h2=>?_⟩
   rcases Nat.lt_or_ge P i with g | g
   ·have:i=P+1:=by omega
    subst this
    omega
   ·exact hi i h1 g
theorem rF{h:Nat->Int}{l:Int}{P n:Nat}(hP:P<=n)(hs:∀i,P<=i->i<n->h i<=h (i+1)+1)(h0:h n<=l)(hl:l<=h P):∃d,P<=d/\d<=n/\h d=l/\∀i,P<=i->i<d->l<h i:=by
 obtain⟨u,hu,hul,hui⟩:=lU (h:=fun i=>h (n-i)) (l:=l) (n-P) (fun i hi=>by
  have:=hs (n-(i+1)) (by omega) (by omega)
  rwa [show n-(i+1)+1=n-i by omega]at this) (by simpa using h0) (by
  try dsimp only
  rw[show n-(n-P)=P by omega];exact hl)
 refine⟨n-u,by omega,by omega,hul,fun i h1 h2=>?_⟩
 have:=hui (n-i) (by omega) (by omega)
 (try dsimp only at this)
 rwa [show n-(n-i)=i by omega]at this
theorem code_inj{m r s r' s':Int}(hs:0<=s)(hs1:s<m)(hs':0<=s')(hs1':s'<m)(e:r*m+s=r'*m+s'):r=r'/\s=s':=by
 have h1:s=s':=by
  have:=congrArg (· % m) e
  (try dsimp only at this)
  rw[Int.add_comm,Int.add_mul_emod_self_right,Int.add_comm (r'*m),Int.add_mul_emod_self_right,Int.emod_eq_of_lt hs hs1,Int.emod_eq_of_lt hs' hs1']at this
  exact this
 refine⟨?_,h1⟩
 have h2:r*m=r'*m:=by omega
 exact Int.eq_of_mul_eq_mul_right (by omega) h2
theorem nS{m r s:Int}(hr:0<=r)(hr1:r<m)(hs:0<=s)(hs1:s<m):0<=r*m+s/\r*m+s<m*m:=by
 have h1:0<=r*m:=Int.mul_nonneg hr (by omega)
 have h2:(r+1)*m<=m*m:=Int.mul_le_mul_of_nonneg_right (by omega) (by omega)
 rw[Int.add_mul,Int.one_mul]at h2
 omega
theorem twice{K:Nat}(code:Nat->Nat)(h:∀j,j<=K->code j<K):∃i j,i<j/\j<=K/\code i=code j:=by
 refine Classical.byContradiction fun no=>?_
 have hn:((List.range (K+1)).map code).Nodup:=by
  unfold List.Nodup
  rw[List.pairwise_map]
  refine List.Pairwise.imp_of_mem ?_ (List.pairwise_lt_range (n:=K+1))
  intro a b ha hb hab e
  exact no ⟨a,b,hab,by have:=List.mem_range.mp hb;omega,e⟩
 have:=lI K _ hn (fun x hx=>by
  obtain⟨j,hj,rfl⟩:=List.mem_map.mp hx
  exact h j (by have:=List.mem_range.mp hj;omega))
 rw[Bi,List.length_range]at this
 omega
theorem cut{S:Pl->Pl->Prop}{m:Int}(hm:0<m)(h1:∀x y,S x y->y.2<=x.2+1/\x.2<=y.2+1)(h2:∀x y c,S x y->0<=c->1<=x.2-c->1<=y.2-c->S (x.1,x.2-c) (y.1,y.2-c))
  (h3:∀x y,S x y->0<=y.1/\y.1<m) {b:Int} (hb:0<=b):∀(n:Nat) (x g:Pl),Rw S n x g->0<=x.1->x.1<m->x.2<=b->g.2<=b->∃n',n'<=n/\Rw (fun a c=>S a c/\c.2<=b+m*m) n' x g:=by
 intro n
 induction n using Nat.strongRecOn with
 | _ n ih=>
  intro x g hw x0 x1 xb gb
  obtain⟨w,hw0,hwn,hws⟩:=hw.fn
  by_cases hall:∀i,i<=n->(w i).2<=b+m*m
  ·refine⟨n,BB _,?_⟩
   have:=j5 (S:=fun a c=>S a c/\c.2<=b+m*m) (w:=w) (Nat.zero_le n) (fun k _ hk=>⟨hws k hk,hall (k+1) (by omega)⟩)
   rw[hw0,hwn]at this
   exact this
  ·obtain⟨P,hP⟩:=Classical.not_forall.mp hall
   obtain⟨hPn,hPh⟩:P<=n/\b+m*m<(w P).2:=by
    by_cases c:P<=n
    ·exact⟨c,by
      by_cases d:(w P).2<=b+m*m
      ·exact absurd (fun _=>d) hP
      ·omega⟩
    ·exact absurd (fun z=>absurd z c) hP
   have hmm:0<=m*m:=Int.mul_nonneg (by omega) (by omega)
   have room:∀i,i<=n->0<=(w i).1/\(w i).1<m:=by
    intro i hi
    cases i with
    | zero=>rw[hw0];exact⟨x0,x1⟩
    | succ i=>exact h3 _ _ (hws i (by omega))
   have hu:∀j:Nat,∃u,(j<=(m*m).toNat->u<=P/\(w u).2=b+1+j/\∀i,u<i->i<=P->b+1+j<(w i).2):=by
    intro j
    by_cases hj:j<=(m*m).toNat
    ·obtain⟨u,a1,a2,a3⟩:=lU (h:=fun i=>(w i).2) (l:=b+1+j) P (fun i hi=>(h1 _ _ (hws i (by omega))).1) (by(try dsimp only);rw[hw0];omega) (by(try dsimp only);omega)
     exact⟨u,fun _=>⟨a1,a2,a3⟩⟩
    ·exact⟨0,fun z=>absurd z hj⟩
   have hd:∀j:Nat,∃d,(j<=(m*m).toNat->P<=d/\d<=n/\(w d).2=b+1+j/\∀i,P<=i->i<d->b+1+j<(w i).2):=by
    intro j
    by_cases hj:j<=(m*m).toNat
    ·obtain⟨d,a1,a2,a3,a4⟩:=rF (h:=fun i=>(w i).2) (l:=b+1+j) hPn (fun i _ hi=>(h1 _ _ (hws i hi)).2) (by(try dsimp only);rw[hwn];omega) (by(try dsimp only);omega)
     exact⟨d,fun _=>⟨a1,a2,a3,a4⟩⟩
    ·exact⟨0,fun z=>absurd z hj⟩
   obtain⟨u,hu⟩:=Classical.axiomOfChoice hu
   obtain⟨d,hd⟩:=Classical.axiomOfChoice hd
   obtain⟨i,j,hij,hjK,hcode⟩:=twice (K:=(m*m).toNat) (fun j=>((w (u j)).1*m+(w (d j)).1).toNat) (fun j hj=>by
    have a1:=hu j hj
    have a2:=hd j hj
    have r1:=room (u j) (by omega)
    have r2:=room (d j) (by omega)
    have:=nS r1.1 r1.2 r2.1 r2.2
    try dsimp only
    omega)
   obtain⟨ui1,ui2,ui3⟩:=hu i (by omega)
   obtain⟨uj1,uj2,uj3⟩:=hu j hjK
   obtain⟨di0,di1,di2,di3⟩:=hd i (by omega)
   obtain⟨dj0,dj1,dj2,dj3⟩:=hd j hjK
   have hr:(w (u i)).1=(w (u j)).1/\(w (d i)).1=(w (d j)).1:=by
    have r1:=room (u i) (by omega)
    have r2:=room (d i) (by omega)
    have r3:=room (u j) (by omega)
    have r4:=room (d j) (by omega)
    have c1:=nS r1.1 r1.2 r2.1 r2.2
    have c2:=nS r3.1 r3.2 r4.1 r4.2
    (try dsimp only at hcode)
    exact code_inj r2.1 r2.2 r4.1 r4.2 (by omega)
   have huu:u i<u j:=by
    rcases Nat.lt_trichotomy (u i) (u j)with z | z | z
    ·exact z
    ·rw[z]at ui2;omega
    ·have:=uj3 (u i) z ui1;omega
   have hdd:d j<d i:=by
    rcases Nat.lt_trichotomy (d j) (d i)with z | z | z
    ·exact z
    ·rw[z]at dj2;omega
    ·have:=dj3 (d i) di0 z;omega
   have s1:Rw S (u i-0) (w 0) (w (u i)):=j5 (Nat.zero_le _) (fun k _ hk=>hws k (by omega))
   have s3:Rw S (n-d i) (w (d i)) (w n):=j5 di1 (fun k _ hk=>hws k hk)
   have hi:∀k,u j<=k->k<=d j->b+1+j<=(w k).2:=by
    intro k k1 k2
    rcases Nat.lt_or_ge k P with z | z
    ·rcases Nat.lt_or_ge (u j) k with y | y
     ·have:=uj3 k y (by omega);omega
     ·have:k=u j:=by omega
      subst this;omega
    ·rcases Nat.lt_or_ge k (d j)with y | y
     ·have:=dj3 k z y;omega
     ·have:k=d j:=by omega
      subst this;omega
   have s2:Rw S (d j-u j) ((w (u j)).1,(w (u j)).2-(j-i:Nat)) ((w (d j)).1,(w (d j)).2-(j-i:Nat)):=
    j5 (S:=S) (w:=fun k=>((w k).1,(w k).2-(j-i:Nat))) (show u j<=d j by omega) (fun k k1 k2=>h2 _ _ _ (hws k (by omega)) (by omega) (by have:=hi k k1 (by omega);omega) (by have:=hi (k+1) (by omega) (by omega);omega))
   have e1:((w (u j)).1,(w (u j)).2-((j-i:Nat):Int))=w (u i):=Prod.ext hr.1.symm (by(try dsimp only);omega)
   have e2:((w (d j)).1,(w (d j)).2-((j-i:Nat):Int))=w (d i):=Prod.ext hr.2.symm (by(try dsimp only);omega)
   rw[e1,e2]at s2
   have s:=(s1.trans s2).trans s3
   rw[hw0,hwn]at s
   obtain⟨n',hn',hr'⟩:=ih _ (by omega) x g s x0 x1 xb gb
   exact⟨n',by omega,hr'⟩
end Bfs
namespace Bfs
end Bfs
namespace My
open PySem L2 St
def stq (i : Nat) : Stmt := PySem.Challenge.pw_stairrooms_k25_kept_risen_fallen.main.body.getD i (.Pass ⟨0, 0, 0, 0⟩)
local macro_rules | `(tactic| walk_at "cond") => `(tactic| first | decide | omega | (dsimp only; omega) | (unfold i8; omega) | (unfold uj; exact ⟨by decide, by decide, by decide⟩) | (dsimp only; exact ⟨by omega, by omega⟩) | exact .inr ⟨by decide, by decide⟩ | exact .inl ⟨by decide, by decide⟩ | (unfold SmallR; omega))
local macro_rules | `(tactic| walk_at "r") => do
 let ts ← ("seq ret retN asg drop ifS next name var c op un CB cons nil ints test B exb not and or andV orV notV ifE yes I0 I U EqI NeI EqB NeB call BM tup lst sl noPart part exi chain comp iL iT i1 i2 i3 for tTru intB max2 min2 sub gcons gnil aug ipI zip rev par par2 lam calV raise fs try bseq bnext bplain bif bcall enum gget gin revL leS disp dget lrev disp1 din dnin dput min3 iS iD bm0 revS iD2 iLT thaw iD3 iDL dgt2 fs3 fs5".splitOn " ").toArray.mapM fun n =>
  let i := Lean.mkIdent (.mkSimple ("rd_" ++ n))
  if n == "var" || n == "aug" then `(tacticSeq| ((with_reducible apply $i); (exact rfl)))
  else if n == "I" then `(tacticSeq| ((with_reducible apply $i); (walk_at "cond")))
  else `(tacticSeq| with_reducible refine $i ?_)
 `(tactic| repeat (first $[| $ts]* | dsimp only))
def cj(H:Hp)(p:Addr)(kk:List (List Key)):Prop:=∃bs:List Addr,H p=some (.tup (bs.map V.ref))/\bs.length=kk.length/\∀(j:Nat) (b:Addr) (k:List Key),bs[j]?=some b->kk[j]?=some k->H b=some (.tup (k.map kV))
theorem cj.ext{H H':Hp}{p:Addr}{kk:List (List Key)}(e:Ext H H')(h:cj H p kk):cj H' p kk:=by
 obtain⟨bs,h1,h2,h3⟩:=h
 exact⟨bs,e _ _ h1,h2,fun j b k e1 e2=>e _ _ (h3 j b k e1 e2)⟩
structure Blt(mg:Str->Option Value):Prop where
 len_:mg "len" = none
 isinstance_:mg "isinstance" = none
 tuple_:mg "tuple" = none
 list_:mg "list" = none
 int_:mg "int" = none
 bool_:mg "bool" = none
 range_:mg "range" = none
 zip_:mg "zip" = none
 max_:mg "max" = none
 min_:mg "min" = none
 abs_:mg "abs" = none
 all_:mg "all" = none
 set_:mg "set" = none
 str_:mg "str" = none
 any_:mg "any" = none
 sorted_:mg "sorted" = none
def isInt:V->Bool
 | .int _=>true
 | _=>false
theorem wk{H:Hp}{v:V}{n:String}(h:eR H v n):∃b c,fS n "int" = some b/\fS n "bool" = some c/\(b && !c)=isInt v:=by
 cases v with
 | non=>cases(show n = "NoneType" from h);exact⟨_,_,rfl,rfl,rfl⟩
 | bl b=>cases(show n = "bool" from h);exact⟨_,_,rfl,rfl,rfl⟩
 | int i=>cases(show n = "int" from h);exact⟨_,_,rfl,rfl,rfl⟩
 | str z=>cases(show n = "str" from h);exact⟨_,_,rfl,rfl,rfl⟩
 | ref a=>rcases h with⟨rfl,xs,e⟩ | ⟨rfl,xs,e⟩<;>exact⟨_,_,rfl,rfl,rfl⟩
 | _=>exact False.elim h
def kP(K:Be):Sp:=fun vs H Q _=>∃v n,vs=[v]/\eR H v n/\Q (.bl (isInt v)) H
abbrev m5:Stmt:=stq 4
theorem uF:FnScope ["thing"] ["thing"] (aO m5):=⟨rfl,rfl,rfl,by decide +kernel,rfl,by decide +kernel,by decide +kernel⟩
theorem w5{P:Program}{w:World}{K:Be}{mg:Str->Option Value}{base:Heap}(D:Dfn K mg "is_whole" m5 ["thing"])(T:Blt mg):Cal P w K mg base "is_whole" 1 ["thing"] (kP K):=by
 have nd:=(uF).nd
 refine D.ok uF (fun vs H Q E h=>?_) (fun X hX H vs Q E h=>?_)
 ·obtain⟨v,n,rfl,_⟩:=h;rfl
 ·obtain⟨f,cdv,A,outer,s,H0,E0,rfl,hr⟩:=hX
  obtain⟨v,n,rfl,hk,q⟩:=h
  obtain⟨b,c,hb,hc,e⟩:=wk hk
  refine⟨_,(ax (aQ (cH (bj dG rfl T.isinstance_ PyProof.Rows.boot_isinstance (aa (pv 0) (aa (dC (v:=.ty "int") rfl T.int_ PyProof.Rows.boot_int rfl) ae))) (dA (rK (bj dG rfl T.isinstance_ PyProof.Rows.boot_isinstance (aa (pv 0) (aa (dC (v:=.ty "bool") rfl T.bool_ PyProof.Rows.boot_bool rfl) ae)))))))),?_⟩
  walk_at "r"
  refine dH hk hb ?_
  walk_at "r"
  cases b with
  | false=>refine aP ?_;rw[←e]at q;exact q
  | true=>
   refine aK ?_
   walk_at "r"
   refine dH hk hc ?_
   walk_at "r"
   rw[←e]at q;exact q
structure Way where
 room:Int
 deed:Str
 other:Int
 sign:Str
 deriving DecidableEq
abbrev Way.key(w:Way):List Key:=[.inl w.room,.inr w.deed,.inl w.other,.inr w.sign]
abbrev Way.vs(w:Way):List V:=[.int w.room,.str w.deed,.int w.other,.str w.sign]
theorem Way.key_inj{w u:Way}(h:w.key=u.key):w=u:=by
 cases w;cases u
 simp only[Way.key,List.cons.injEq,Sum.inl.injEq,Sum.inr.injEq]at h
 obtain⟨rfl,rfl,rfl,rfl,_⟩:=h
 rfl
def r6(z:Str):Prop:=∃c:Nat,97<=c/\c<=122/\z=⟨#[c]⟩
def cF(z:Str):Prop:=z = "up"\/z = "down"\/z = "stay"\/z = "zero"
structure Way.Ok(m:Int)(w:Way):Prop where
 r0:0<=w.room
 r1:w.room<m
 o0:0<=w.other
 o1:w.other<m
 dd:cF w.deed
 sg:r6 w.sign
structure HOuse(m:Int)(ws:List Way):Prop where
 m1:1<=m
 m12:m<=12
 few:ws.length<=100
 ok:∀w∈ws,w.Ok m
 nd:ws.Nodup
theorem HOuse.keys{m:Int}{ws:List Way}(h:HOuse m ws):(ws.map Way.key).Nodup:=by
 have:=h.nd
 unfold List.Nodup at this ⊢
 rw[List.pairwise_map]
 exact this.imp fun ne e=>ne (Way.key_inj e)
def bD(H:Hp)(v:V)(m:Int)(ws:List Way):Prop:=∃p q,v=.ref p/\H p=some (.tup [.int m,.ref q])/\cj H q (ws.map Way.key)
theorem bD.ext{H H':Hp}{v:V}{m:Int}{ws:List Way}(e:Ext H H')(h:bD H v m ws):bD H' v m ws:=by
 obtain⟨p,q,rfl,h1,h2⟩:=h
 exact⟨p,q,rfl,e _ _ h1,h2.ext e⟩
theorem jO{n:Nat}(h:n<=1000):n<=sizeLine:=BL h (by decide)
def pY(K:Be):Sp:=fun vs H Q _=>∃i m,vs=[.int i,.int m]/\0<=i/\i<m/\Q (.bl true) H
abbrev kn:Stmt:=stq 9
theorem pS:FnScope ["thing","many"] ["thing","many"] (aO kn):=⟨rfl,rfl,rfl,by decide +kernel,rfl,by decide +kernel,by decide +kernel⟩
theorem xN{P:Program}{w:World}{K:Be}{mg:Str->Option Value}{base:Heap}(D:Dfn K mg "is_room" kn ["thing","many"])(T:Blt mg)(C_is_whole:Cal P w K mg base "is_whole" 1 ["thing"] (kP K)):Cal P w K mg base "is_room" 2 ["thing","many"] (pY K):=by
 have nd:=(pS).nd
 refine D.ok pS (fun vs H Q E h=>?_) (fun X hX H vs Q E h=>?_)
 ·obtain⟨i,m,rfl,_⟩:=h;rfl
 ·obtain⟨f,cdv,A,outer,s,H0,E0,rfl,hr⟩:=hX
  obtain⟨i,m,rfl,h0,h1,q⟩:=h
  refine⟨_,(ax (aQ (cH (aL C_is_whole hr (aa (pv 0) ae)) (dA (nI iz tR af (pv 0) (pv 1)))))),?_⟩
  walk_at "r"
  refine⟨_,"int",rfl,rfl,?_⟩
  refine rd_exb ?_
  refine aK ?_
  walk_at "r"
  rw[decide_eq_true h0]
  refine aK ?_
  walk_at "r"
  rw[decide_eq_true h1]
  exact q
def my:List (Key×V):=[(.inr "up",.str "down"),(.inr "down",.str "up"),(.inr "stay",.str "stay"),(.inr "zero",.str "zero")]
theorem Ar{w:World}{K:Be}{a:Addr}{t1 t2 t3 t4 t5 t6 t7 t8:Tok}{ep:Nat}(h:K.lookup a=some (i6 w [("up",t1,.str "down" t2),("down",t3,.str "up" t4),("stay",t5,.str "stay" t6),("zero",t7,.str "zero" t8)] ep))(hs:(a == sysModules)=false):GDict w K a my:=
 ⟨⟨_,_,h,.cons ⟨rfl,⟨_,rfl⟩⟩ (.cons ⟨rfl,⟨_,rfl⟩⟩ (.cons ⟨rfl,⟨_,rfl⟩⟩ (.cons ⟨rfl,⟨_,rfl⟩⟩ .nil)))⟩,by decide +kernel,hs⟩
def xR(z:Str):Str:=if z = "up" then "down" else if z = "down" then "up" else z
theorem vA{z:Str}(h:cF z):aX my (.inr z)=some (.str (xR z)):=by
 rcases h with rfl | rfl | rfl | rfl<;>decide +kernel
def oB(K:Be):Sp:=fun vs H Q _=>∃z,vs=[.str z]/\cF z/\Q (.bl true) H
abbrev kC:Stmt:=stq 10
theorem pL:FnScope ["thing"] ["thing"] (aO kC):=⟨rfl,rfl,rfl,by decide +kernel,rfl,by decide +kernel,by decide +kernel⟩
theorem yP{P:Program}{w:World}{K:Be}{mg:Str->Option Value}{base:Heap}(D:Dfn K mg "is_deed" kC ["thing"])(T:Blt mg)(g_TURNED:∃a,mg "TURNED" = some (.ref a)/\GDict w K a my):Cal P w K mg base "is_deed" 1 ["thing"] (oB K):=by
 have nd:=(pL).nd
 refine D.ok pL (fun vs H Q E h=>?_) (fun X hX H vs Q E h=>?_)
 ·obtain⟨z,rfl,_⟩:=h;rfl
 ·obtain⟨f,cdv,A,outer,s,H0,E0,rfl,hr⟩:=hX
  obtain⟨a_TURNED,m_TURNED,d_TURNED⟩:=g_TURNED
  obtain⟨z,rfl,hz,q⟩:=h
  refine⟨_,(ax (aQ (cH (bj dG rfl T.isinstance_ PyProof.Rows.boot_isinstance (aa (pv 0) (aa (dC (v:=.ty "str") rfl T.str_ PyProof.Rows.boot_str rfl) ae))) (dA (w8 (uV rfl m_TURNED d_TURNED (pv 0)) (by with_unfolding_all rfl)))))),?_⟩
  walk_at "r"
  refine dH (n:="str") rfl (b:=true) rfl ?_
  walk_at "r"
  refine aK ?_
  walk_at "r"
  refine⟨.inr z,rfl,?_⟩
  rw[vA hz]
  exact q
theorem vR {c : Nat} (h : 97 ≤ c) : (!decide (([c] : List Nat) < (Str.ofString "a").cps.toList)) = true := by
  have e : (Str.ofString "a").cps.toList = [97] := by decide +kernel
  rw [e, decide_eq_false (fun z => by rw [List.cons_lt_cons_iff] at z; rcases z with z | ⟨_, z⟩; · omega
                                      · cases z)]
  rfl
theorem zX {c : Nat} (h : c ≤ 122) : (!decide ((Str.ofString "z").cps.toList < ([c] : List Nat))) = true := by
  have e : (Str.ofString "z").cps.toList = [122] := by decide +kernel
  rw [e, decide_eq_false (fun z => by rw [List.cons_lt_cons_iff] at z; rcases z with z | ⟨_, z⟩; · omega
                                      · cases z)]
  rfl
def qN(K:Be):Sp:=fun vs H Q _=>∃z,vs=[.str z]/\r6 z/\Q (.bl true) H
abbrev lx:Stmt:=stq 11
theorem tZ:FnScope ["thing"] ["thing"] (aO lx):=⟨rfl,rfl,rfl,by decide +kernel,rfl,by decide +kernel,by decide +kernel⟩
theorem xX{P:Program}{w:World}{K:Be}{mg:Str->Option Value}{base:Heap}(D:Dfn K mg "is_sign" lx ["thing"])(T:Blt mg):Cal P w K mg base "is_sign" 1 ["thing"] (qN K):=by
 have nd:=(tZ).nd
 refine D.ok tZ (fun vs H Q E h=>?_) (fun X hX H vs Q E h=>?_)
 ·obtain⟨z,rfl,_⟩:=h;rfl
 ·obtain⟨f,cdv,A,outer,s,H0,E0,rfl,hr⟩:=hX
  obtain⟨z,rfl,⟨c,hc1,hc2,rfl⟩,q⟩:=h
  refine⟨_,(ax (aQ (cH (bj dG rfl T.isinstance_ PyProof.Rows.boot_isinstance (aa (pv 0) (aa (dC (v:=.ty "str") rfl T.str_ PyProof.Rows.boot_str rfl) ae))) (cH (fK bY (bj zC rfl T.len_ PySem.boot_len (aa (pv 0) ae)) af (bo _)) (dA (nI oC oC aJ (pv 0) aJ)))))),?_⟩
  walk_at "r"
  refine dH (n:="str") rfl (b:=true) rfl ?_
  walk_at "r"
  refine aK ?_
  walk_at "r"
  refine⟨_,rfl,jO (show 1<=1000 by decide),?_⟩
  walk_at "r"
  refine aK ?_
  walk_at "r"
  rw[vR hc1]
  refine aK ?_
  walk_at "r"
  rw[zX hc2]
  exact q
theorem jh{H:Hp}{p:Addr}{xs:List V}(h:H p=some (.tup xs)):eR H (.ref p) "tuple":=.inr ⟨rfl,xs,h⟩
def sj(K:Be):Sp:=fun vs H Q _=>∃p w m,vs=[.ref p,.int m]/\H p=some (.tup (Way.vs w))/\w.Ok m/\Q (.bl true) H
abbrev kg:Stmt:=stq 12
theorem qC:FnScope ["thing","many"] ["thing","many"] (aO kg):=⟨rfl,rfl,rfl,by decide +kernel,rfl,by decide +kernel,by decide +kernel⟩
theorem vk{P:Program}{w:World}{K:Be}{mg:Str->Option Value}{base:Heap}(D:Dfn K mg "is_way" kg ["thing","many"])(T:Blt mg)(C_is_sign:Cal P w K mg base "is_sign" 1 ["thing"] (qN K))(C_is_deed:Cal P w K mg base "is_deed" 1 ["thing"] (oB K))(C_is_room:Cal P w K mg base "is_room" 2 ["thing","many"] (pY K)):Cal P w K mg base "is_way" 3 ["thing","many"] (sj K):=by
 have nd:=(qC).nd
 refine D.ok qC (fun vs H Q E h=>?_) (fun X hX H vs Q E h=>?_)
 ·obtain⟨p,w,m,rfl,_⟩:=h;rfl
 ·obtain⟨f,cdv,A,outer,s,H0,E0,rfl,hr⟩:=hX
  obtain⟨p,w,m,rfl,hp,ok,q⟩:=h
  refine⟨_,(aj (cL (PW.pt (iI (eB (cN (bj dG rfl T.isinstance_ PyProof.Rows.boot_isinstance (aa (pv 0) (aa (dC (v:=.ty "tuple") rfl T.tuple_ PyProof.Rows.boot_tuple rfl) ae))))) (h8 (bC jl (bj (dy K) rfl T.len_ PySem.boot_len (aa (pv 0) ae)) af (bo _))))) (ax (aQ cZ)) bJ)
    (aj (cL (PW.pt (iI (eB (cN (aL C_is_room hr (aa (ai (aN K) (pv 0) af (fun _ _=>rfl)) (aa (pv 1) ae))))) (h8 (eB (cN (aL C_is_room hr (aa (ai (aN K) (pv 0) af (fun _ _=>rfl)) (aa (pv 1) ae)))))))) (ax (aQ cZ)) bJ)
    (ax (aQ (cH (aL C_is_deed hr (aa (ai (aN K) (pv 0) af (fun _ _=>rfl)) ae)) (dA (aL C_is_sign hr (aa (ai (aN K) (pv 0) af (fun _ _=>rfl)) ae)))))))),?_⟩
  walk_at "r"
  refine dH (jh hp) (b:=true) rfl ?_
  walk_at "r"
  refine aP ?_
  walk_at "r"
  refine ij (ao.of hp) ?_
  walk_at "r"
  refine aP ?_
  walk_at "r"
  refine aM (ao.of hp) (v:=.int w.room) rfl ?_
  walk_at "r"
  refine⟨_,_,rfl,ok.r0,ok.r1,?_⟩
  walk_at "r"
  refine aP ?_
  walk_at "r"
  refine aM (ao.of hp) (v:=.int w.other) rfl ?_
  walk_at "r"
  refine⟨_,_,rfl,ok.o0,ok.o1,?_⟩
  walk_at "r"
  refine aP ?_
  walk_at "r"
  refine aM (ao.of hp) (v:=.str w.deed) rfl ?_
  walk_at "r"
  refine⟨_,rfl,ok.dd,?_⟩
  walk_at "r"
  refine aK ?_
  walk_at "r"
  refine aM (ao.of hp) (v:=.str w.sign) rfl ?_
  walk_at "r"
  exact⟨_,rfl,ok.sg,q⟩
theorem cj.item{H:Hp}{ws:List Way}{bs:List Addr}(h:∀(j:Nat) (b:Addr) (k:List Key),bs[j]?=some b->(ws.map Way.key)[j]?=some k->H b=some (.tup (k.map kV))){j:Nat}{b:Addr}{w:Way}(e1:bs[j]?=some b)(e2:ws[j]?=some w):H b=some (.tup w.vs):=
 h j b w.key e1 (by rw[Bk,e2];rfl)
def qH(K:Be):Sp:=fun vs H Q _=>∃q ws m,vs=[.ref q,.int m]/\cj H q (ws.map Way.key)/\HOuse m ws/\∀H',Ext H H'->Q (.bl true) H'
abbrev lN:Stmt:=stq 13
theorem ua:FnScope ["thing","many"] ["thing","many"] (aO lN):=⟨rfl,rfl,rfl,by decide +kernel,rfl,by decide +kernel,by decide +kernel⟩
theorem Ah{P:Program}{w:World}{K:Be}{mg:Str->Option Value}{base:Heap}(D:Dfn K mg "are_ways" lN ["thing","many"])(T:Blt mg)(g_GREATEST_WAYS:∃t,mg "GREATEST_WAYS" = some (.int 100 t))(C_is_way:Cal P w K mg base "is_way" 3 ["thing","many"] (sj K)):Cal P w K mg base "are_ways" 4 ["thing","many"] (qH K):=by
 have nd:=(ua).nd
 refine D.ok ua (fun vs H Q E h=>?_) (fun X hX H vs Q E h=>?_)
 ·obtain⟨p,w,m,rfl,_⟩:=h;rfl
 ·obtain⟨f,cdv,A,outer,s,H0,E0,rfl,hr⟩:=hX
  obtain⟨t_GREATEST_WAYS,c_GREATEST_WAYS⟩:=g_GREATEST_WAYS
  obtain⟨q,ws,m,rfl,hw,ok,qq⟩:=h
  obtain⟨bs,h1,h2,h3⟩:=id hw
  rw[Bi]at h2
  have hfew:=ok.few
  refine⟨_,(aj (cL (PW.pt (iI (eB (cN (bj dG rfl T.isinstance_ PyProof.Rows.boot_isinstance (aa (pv 0) (aa (dC (v:=.ty "tuple") rfl T.tuple_ PyProof.Rows.boot_tuple rfl) ae))))) (h8 (bC kr (bj (dy K) rfl T.len_ PySem.boot_len (aa (pv 0) ae)) (pH (v:=.int 100) rfl c_GREATEST_WAYS ⟨_,rfl⟩) (bo _))))) (ax (aQ cZ)) bJ)
    (ax (aQ (cH (bj (mC K rfl) rfl T.all_ PyProof.Rows.boot_all (aa (cM ["way"] [1] (iH K (pv 0)) (fun _=>(aS (i:=0) (show(["way","many"]:List Str).Nodup from by decide +kernel) rfl (Or.inl rfl) (Or.inr rfl))) (fun _=>fg) (fun _=>(aL C_is_way hr (aa (pv 0) (aa (pv 1) ae))))) ae)) (dA (fK bY (bj Tp.call_lenP rfl T.len_ PySem.boot_len (aa (hZ (Tp.call_setQ hr) rfl T.set_ PyProof.Rows.boot_set (aa (pv 0) ae)) ae)) (bj (dy K) rfl T.len_ PySem.boot_len (aa (pv 0) ae)) (bo _))))))),?_⟩
  walk_at "r"
  refine dH (jh h1) (b:=true) rfl ?_
  walk_at "r"
  refine aP ?_
  walk_at "r"
  refine ij (ao.of h1) ?_
  walk_at "r"
  rw[decide_eq_false (show ¬((100:Int)<((bs.map V.ref).length:Nat)) by rw[Bi];omega)]
  refine aP ?_
  walk_at "r"
  refine iw (ao.of h1) ?_
  refine jf (xs:=bs.map V.ref) (fun i ys H'=>Ext H H'/\ys=(List.replicate i true).map V.bl) (jO (by rw[Bi];omega)) ⟨fun _ _ z=>z,rfl⟩ (fun i ys H' hi h=>⟨ao.of (h.1 _ _ h1),by rw[h.2];simp⟩) ?_ ?_
  ·rintro i x ys H' hx ⟨e,rfl⟩
   rw[Bk]at hx
   obtain⟨b,hb,rfl⟩:=Bt.mp hx
   have hi:i<ws.length:=by
    rw[←h2]
    exact(Bq.mp hb).1
   have hwi:ws[i]?=some ws[i]:=Bj hi
   walk_at "r"
   refine aK ?_
   walk_at "r"
   refine⟨b,ws[i],m,rfl,e _ _ (cj.item h3 hb hwi),ok.ok _ (BH hi),e,?_⟩
   rw[List.replicate_succ',By]
   rfl
  ·rintro ys H' p ⟨e,rfl⟩ hp
   walk_at "r"
   have eN:Ext H (upd H' p (.lst ((List.replicate (bs.map V.ref).length true).map V.bl))):=e.trans (bI hp)
   refine⟨p,List.replicate (bs.map V.ref).length true,rfl,ag.of aG,?_⟩
   rw[show (List.replicate (bs.map V.ref).length true).all id=true by simp]
   walk_at "r"
   refine aK ?_
   walk_at "r"
   obtain⟨bs',h1',h2',h3'⟩:=hw.ext eN
   refine⟨q,bs',_,rfl,h1',⟨h2',h3'⟩,by rw[Bi];omega,fun l L hl hnd hmem=>?_⟩
   have hLl:L.length=ws.length:=by
    have:=((List.perm_ext_iff_of_nodup hnd ok.keys).mpr hmem).length_eq
    rw[Bi,Bi]at this
    exact this
   have e2:=bI (o:=Tp.setK P w l L) hl
   walk_at "r"
   refine⟨l,L,rfl,aG,by omega,?_⟩
   walk_at "r"
   refine ij (ao.of ((eN.trans e2) _ _ h1)) ?_
   walk_at "r"
   rw[show decide (((L.length:Nat):Int)=((bs.map V.ref).length:Nat))=true by rw[Bi,h2,hLl];simp]
   exact qq _ (eN.trans e2)
def rO(K:Be):Sp:=fun vs H Q _=>∃v m ws,vs=[v]/\bD H v m ws/\HOuse m ws/\∀H',Ext H H'->Q (.bl true) H'
abbrev kF:Stmt:=stq 14
theorem oE:FnScope ["thing"] ["thing"] (aO kF):=⟨rfl,rfl,rfl,by decide +kernel,rfl,by decide +kernel,by decide +kernel⟩
theorem Ao{P:Program}{w:World}{K:Be}{mg:Str->Option Value}{base:Heap}(D:Dfn K mg "is_house" kF ["thing"])(T:Blt mg)(g_GREATEST_MANY:∃t,mg "GREATEST_MANY" = some (.int 12 t))(C_are_ways:Cal P w K mg base "are_ways" 4 ["thing","many"] (qH K))(C_is_whole:Cal P w K mg base "is_whole" 1 ["thing"] (kP K)):Cal P w K mg base "is_house" 5 ["thing"] (rO K):=by
 have nd:=(oE).nd
 refine D.ok oE (fun vs H Q E h=>?_) (fun X hX H vs Q E h=>?_)
 ·obtain⟨p,w,m,rfl,_⟩:=h;rfl
 ·obtain⟨f,cdv,A,outer,s,H0,E0,rfl,hr⟩:=hX
  obtain⟨t_GREATEST_MANY,c_GREATEST_MANY⟩:=g_GREATEST_MANY
  obtain⟨v,m,ws,rfl,⟨p,r,rfl,h1,h2⟩,ok,q⟩:=h
  have m1:=ok.m1
  have m2:=ok.m12
  refine⟨_,(aj (cL (PW.pt (iI (eB (cN (bj dG rfl T.isinstance_ PyProof.Rows.boot_isinstance (aa (pv 0) (aa (dC (v:=.ty "tuple") rfl T.tuple_ PyProof.Rows.boot_tuple rfl) ae))))) (h8 (bC jl (bj (dy K) rfl T.len_ PySem.boot_len (aa (pv 0) ae)) af (bo _))))) (ax (aQ cZ)) bJ)
    (ax (aQ (cH (aL C_is_whole hr (aa (ai (aN K) (pv 0) af (fun _ _=>rfl)) ae)) (cH (nI iz iz af (ai (aN K) (pv 0) af (fun _ _=>rfl)) (pH (v:=.int 12) rfl c_GREATEST_MANY ⟨_,rfl⟩)) (dA (aL C_are_ways hr (aa (ai (aN K) (pv 0) af (fun _ _=>rfl)) (aa (ai (aN K) (pv 0) af (fun _ _=>rfl)) ae))))))))),?_⟩
  walk_at "r"
  refine dH (jh h1) (b:=true) rfl ?_
  walk_at "r"
  refine aP ?_
  walk_at "r"
  refine ij (ao.of h1) ?_
  walk_at "r"
  refine aP ?_
  walk_at "r"
  refine aM (ao.of h1) (v:=.int m) rfl ?_
  walk_at "r"
  refine⟨_,"int",rfl,rfl,?_⟩
  refine rd_exb (aK ?_)
  walk_at "r"
  refine aM (ao.of h1) (v:=.int m) rfl ?_
  walk_at "r"
  rw[decide_eq_true m1]
  refine aK ?_
  walk_at "r"
  rw[decide_eq_true m2]
  refine aK ?_
  walk_at "r"
  refine aM (ao.of h1) (v:=.ref r) rfl ?_
  walk_at "r"
  refine aM (ao.of h1) (v:=.int m) rfl ?_
  walk_at "r"
  exact⟨r,ws,m,rfl,h2,ok,q⟩
def jP(K:Be):Sp:=fun vs H Q _=>∃v m ws,vs=[v]/\bD H v m ws/\HOuse m ws/\∀H',Ext H H'->Q .non H'
abbrev nB:Stmt:=stq 15
theorem sY:FnScope ["thing"] ["thing"] (aO nB):=⟨rfl,rfl,rfl,by decide +kernel,rfl,by decide +kernel,by decide +kernel⟩
theorem A3{P:Program}{w:World}{K:Be}{mg:Str->Option Value}{base:Heap}(D:Dfn K mg "refuse_no_house" nB ["thing"])(T:Blt mg)(C_is_house:Cal P w K mg base "is_house" 5 ["thing"] (rO K)):Cal P w K mg base "refuse_no_house" 6 ["thing"] (jP K):=by
 have nd:=(sY).nd
 refine D.ok sY (fun vs H Q E h=>?_) (fun X hX H vs Q E h=>?_)
 ·obtain⟨p,w,m,rfl,_⟩:=h;rfl
 ·obtain⟨f,cdv,A,outer,s,H0,E0,rfl,hr⟩:=hX
  obtain⟨v,m,ws,rfl,h1,ok,q⟩:=h
  refine⟨_,(ax (cL (eB (cN (aL C_is_house hr (aa (pv 0) ae)))) (ax yG) bJ)),?_⟩
  walk_at "r"
  refine⟨v,m,ws,rfl,h1,ok,fun H' e=>?_⟩
  refine rd_exb (aP ?_)
  walk_at "r"
  exact q H' e
theorem bW{n:Nat}(h:n<=1000000):n<=sizeLine:=BL h (by decide)
theorem aE{xs:List V}{H:Hp}{o:HO}{Q:VK}(h:∀p H',Ext H H'->H' p=some o->H p=none->Q (.ref p) H')(hz:xs.length<=1000000:=by simp):xs.length<=sizeLine/\dO H o Q:=⟨bW hz,eO h⟩
def qz(K:Be):Sp:=fun vs H Q _=>∃(a:Addr) (ns:List Int) (k:Int),vs=[.ref a,.int k]/\ag K H a (ns.map V.int)/\ns.length<=63/\0<=k/\∀z,Q (.int z) H
theorem sN{ns:List Int}{i:Int}(h0:0<=i)(h:i<ns.length):∃z,br (ns.map V.int) i=some (.int z)/\ns[i.toNat]?=some z:=by
 have hi:i.toNat<ns.length:=by omega
 refine⟨ns[i.toNat],fm h0 ?_,Bj hi⟩
 rw[Bk,Bj hi]
 rfl
abbrev lq:Stmt:=stq 37
theorem qF:FnScope ["_law_script","_law_k"] ["_law_script","_law_k"] (aO lq):=⟨rfl,rfl,rfl,by decide +kernel,rfl,by decide +kernel,by decide +kernel⟩
theorem wK{P:Program}{w:World}{K:Be}{mg:Str->Option Value}{base:Heap}(D:Dfn K mg "_law_cell" lq ["_law_script","_law_k"])(T:Blt mg):Cal P w K mg base "_law_cell" 1 ["_law_script","_law_k"] (qz K):=by
 have nd:=(qF).nd
 refine D.ok qF (fun vs H Q E h=>?_) (fun X hX H vs Q E h=>?_)
 ·obtain⟨a,ns,k,rfl,_⟩:=h;rfl
 ·obtain⟨f,cdv,A,outer,s,H0,E0,rfl,hr⟩:=hX
  obtain⟨a,ns,k,rfl,ha,hl,hk,q⟩:=h
  refine⟨_,(aj (cL (bC bY (bj (dy K) rfl T.len_ PySem.boot_len (aa (pv 0) ae)) af (bo _)) (ax (aQ (av dB af (av aW (pv 1) af)))) bJ)
    (aj (cL (bC tR (pv 1) (bj (dy K) rfl T.len_ PySem.boot_len (aa (pv 0) ae)) (bo _)) (ax (aQ (ai (aC K) (pv 0) (pv 1) (fun _ _=>rfl)))) bJ)
    (ax (aQ (av aW (ai (aC K) (pv 0) (av cC (pv 1) (bj (dy K) rfl T.len_ PySem.boot_len (aa (pv 0) ae))) (fun _ _=>rfl)) (av dB af (pv 1))))))),?_⟩
  walk_at "r"
  refine gn ha ?_
  walk_at "r"
  rw[Bi]
  by_cases h0:(ns.length:Int)=0
  ·rw[decide_eq_true h0]
   refine aK ?_
   walk_at "r"
   exact q _
  ·rw[decide_eq_false h0]
   refine aP ?_
   walk_at "r"
   refine gn ha ?_
   walk_at "r"
   rw[Bi]
   by_cases h1:k<ns.length
   ·rw[decide_eq_true h1]
    refine aK ?_
    obtain⟨z,hz,_⟩:=sN hk h1
    walk_at "r"
    refine aD ha hz ?_
    exact q _
   ·rw[decide_eq_false h1]
    refine aP ?_
    walk_at "r"
    refine gn ha ?_
    rw[Bi]
    have hp:(0:Int)<ns.length:=by omega
    refine rd_I hp ?_
    obtain⟨z,hz,_⟩:=sN (ns:=ns) (Int.emod_nonneg k (by omega)) (Int.emod_lt_of_pos k hp)
    refine aD ha hz ?_
    walk_at "r"
    exact q _
def tG(K:Be):Sp:=fun vs H Q _=>∃c k p,vs=[.int c,.int k,.int p]/\0<=k/\k<100000/\0<p/\∀z,0<=z->z<p->Q (.int z) H
abbrev lj:Stmt:=stq 29
theorem pJ:FnScope ["_law_cell_here","_law_k","_law_prime","_law_far"] ["_law_cell_here","_law_k","_law_prime"] (aO lj):=⟨rfl,rfl,rfl,by decide +kernel,rfl,by decide +kernel,by decide +kernel⟩
theorem yL{P:Program}{w:World}{K:Be}{mg:Str->Option Value}{base:Heap}(D:Dfn K mg "_law_mixed" lj ["_law_cell_here","_law_k","_law_prime"])(T:Blt mg):Cal P w K mg base "_law_mixed" 1 ["_law_cell_here","_law_k","_law_prime"] (tG K):=by
 have nd:=(pJ).nd
 refine D.ok pJ (fun vs H Q E h=>?_) (fun X hX H vs Q E h=>?_)
 ·obtain⟨c,k,p,rfl,_⟩:=h;rfl
 ·obtain⟨f,cdv,A,outer,s,H0,E0,rfl,hr⟩:=hX
  obtain⟨c,k,p,rfl,hk,hk2,hp,q⟩:=h
  refine⟨_,(aj (aF (i:=3) nd rfl (Or.inl rfl) (av cC (av dB (av aW (av aW (av aW (pv 0) (av dB (av dB af (pv 1)) (pv 1))) (av dB af (pv 1))) af) af) af))
    (aj (aF (i:=3) nd rfl (Or.inl rfl) (av cC (av dB (pv 3) (pv 3)) af))
    (ax (aQ (av cC (av dB (pv 3) af) (pv 2)))))),?_⟩
  walk_at "r"
  exact q _ (Int.emod_nonneg _ (by omega)) (Int.emod_lt_of_pos _ hp)
theorem cD{H H2:Hp}{q:Addr}{o:HO}(e:Ext H H2)(hq:H q=none):Ext H (upd H2 q o):=fun b u hb=>by
 rw[ay (cx hb hq)]
 exact e b u hb
def fP(K:Be):Sp:=fun vs H Q _=>∃(c:Int) (w:Addr) (ws:List Int) (p:Int),vs=[.int c,.ref w,.int p]/\H w=some (.lst (ws.map V.int))/\(∀x∈ws,0<x/\x<2 ^ 40)/\ws.length<=10000/\0<p ∧
 ∀(q:Addr) (ds:List Int) (H':Hp),Ext H H'->H' q=some (.lst (ds.map V.int))->H q=none->ds.length=ws.length->(∀(i:Nat) d x,ds[i]?=some d->ws[i]?=some x->0<=d/\d<x)->Q (.ref q) H'
theorem jU{K:Be}{H:Hp}{c:Int}{w:Addr}{p:Int}{Q:VK}{xe:XK}(ws:List Int)(h1:H w=some (.lst (ws.map V.int)))(h2:∀x∈ws,0<x/\x<2 ^ 40)(h3:ws.length<=10000)(h4:0<p)
  (k:∀(q:Addr) (ds:List Int) (H':Hp),Ext H H'->H' q=some (.lst (ds.map V.int))->H q=none->ds.length=ws.length->(∀(i:Nat) d x,ds[i]?=some d->ws[i]?=some x->0<=d/\d<x)->Q (.ref q) H'):fP K [.int c,.ref w,.int p] H Q xe:=⟨c,w,ws,p,rfl,h1,h2,h3,h4,k⟩
abbrev kX:Stmt:=stq 30
theorem ui:FnScope ["_law_cell_here","_law_widths","_law_prime","_law_left","_law_found","_law_k"] ["_law_cell_here","_law_widths","_law_prime"] (aO kX):=⟨rfl,rfl,rfl,by decide +kernel,rfl,by decide +kernel,by decide +kernel⟩
theorem vp{P:Program}{w:World}{K:Be}{mg:Str->Option Value}{base:Heap}(D:Dfn K mg "_law_draws" kX ["_law_cell_here","_law_widths","_law_prime"])(T:Blt mg)(C__law_mixed:Cal P w K mg base "_law_mixed" 1 ["_law_cell_here","_law_k","_law_prime"] (tG K)):Cal P w K mg base "_law_draws" 2 ["_law_cell_here","_law_widths","_law_prime"] (fP K):=by
 have nd:=(ui).nd
 refine D.ok ui (fun vs H Q E h=>?_) (fun X hX H vs Q E h=>?_)
 ·obtain⟨c,w,ws,p,rfl,_⟩:=h;rfl
 ·obtain⟨f,cdv,A,outer,s,H0,E0,rfl,hr⟩:=hX
  obtain⟨c,w,ws,p,rfl,hw,hpos,hlen,hp,q⟩:=h
  refine⟨_,(aj (aF (i:=3) nd rfl (Or.inl rfl) af)
    (aj (di (bC uw (pv 0) (av gX af af) (bo _)) (ax (aF (i:=3) nd rfl (Or.inl rfl) (av dN (pv 0) (av gX af af)))) bJ)
    (aj (aF (i:=4) nd rfl (Or.inl rfl) (bF ae))
    (aj (bP PassesOwn.never rfl (cb rfl T.range_ (aa (bj (dy K) rfl T.len_ PySem.boot_len (aa (pv 1) ae)) ae)) (aS (i:=5) nd rfl (Or.inl rfl)) (ax (di (bC kr (pv 3) af (bo _)) (aj (bA (bK K Bp BC BD bS (pv 4) (aa (av cC (pv 3) (ai (aC K) (pv 1) (pv 5) (fun _ _=>rfl))) ae)))
    (ax (aF (i:=3) nd rfl (Or.inl rfl) (av qw (pv 3) (ai (aC K) (pv 1) (pv 5) (fun _ _=>rfl)))))) (ax (bA (bK K Bp BC BD bS (pv 4) (aa (av cC (aL C__law_mixed hr (aa (pv 0) (aa (pv 5) (aa (pv 2) ae)))) (ai (aC K) (pv 1) (pv 5) (fun _ _=>rfl))) ae)))))))
    (ax (aQ (pv 4))))))),?_⟩
  walk_at "r"
  refine fQ (fun σ' H'=>H'=H/\∃l,σ'=[some (.int c),some (.ref w),some (.int p),some (.int l),none,none]) ?_ ?_
  ·walk_at "r"
   refine eu (fun h=>?_) (fun h=>?_)
   ·walk_at "r"
    exact⟨rfl,_,rfl⟩
   ·walk_at "r"
    exact⟨rfl,_,rfl⟩
  rintro σ' H' ⟨rfl,l,rfl⟩
  walk_at "r"
  refine aE fun f H1 e1 hf hfn=>?_
  walk_at "r"
  refine gn (ag.of (e1 _ _ hw)) ?_
  rw[Bi]
  walk_at "r"
  refine b6 (by omega) ?_
  refine forR (fun i σ H2=>Ext H' H2/\∃(l:Int) (k:Option V) (ds:List Int),σ=[some (.int c),some (.ref w),some (.int p),some (.int l),some (.ref f),k]/\H2 f=some (.lst (ds.map V.int))/\ds.length=i/\∀(i:Nat) d x,ds[i]?=some d->ws[i]?=some x->0<=d/\d<x)
   ⟨e1,l,none,[],rfl,hf,rfl,fun i d x hd=>by simp at hd⟩ ?_ ?_
  ·rintro i σ H2 hi ⟨e2,l,k,ds,rfl,hf2,hds,hb⟩
   rw[Bu]at hi
   have hwi:ws[i]?=some ws[i]:=Bj hi
   have hx:=hpos ws[i] (BH hi)
   have hat:br (ws.map V.int) (0+(i:Int))=some (.int ws[i]):=by
    rw[Int.zero_add]
    exact eT (by rw[Bk,hwi];rfl)
   have next:∀d,0<=d->d<ws[i]->∀(j:Nat) (d' x:Int),(ds++[d])[j]?=some d'->ws[j]?=some x->0<=d'/\d'<x:=fun d h0 h1 j d' x hj hx'=>by
    rcases Nat.lt_or_ge j ds.length with h | h
    ·rw[BG h]at hj
     exact hb j d' x hj hx'
    ·rw[BF h]at hj
     have hj0:j-ds.length=0:=by
      rcases Nat.eq_zero_or_pos (j-ds.length)with h | h
      ·exact h
      ·rw[List.getElem?_eq_none (by simp;omega)]at hj;cases hj
     rw[hj0]at hj
     have hji:j=i:=by omega
     subst hji
     rw[hwi]at hx'
     cases hx'
     have:d=d':=by simpa using hj
     rw[←this]
     exact⟨h0,h1⟩
   walk_at "r"
   refine gL ?_
   walk_at "r"
   refine eu (fun h=>?_) (fun h=>?_)
   ·have h':1<l:=by simpa using h
    walk_at "r"
    refine⟨cS (ag.of hf2),?_⟩
    walk_at "r"
    refine aD (ag.of (e2 _ _ hw)) hat ?_
    refine rd_I (show 0<ws[i] by omega) ?_
    walk_at "r"
    refine bO hf2 (by rw[Bi];exact Nat.lt_of_le_of_lt (show ds.length<=10000 by omega) (by decide)) ?_
    walk_at "r"
    refine aD (ag.of (cD e2 hfn _ _ hw)) hat ?_
    refine rd_I (show 0<ws[i]/\ws[i]<2 ^ 64 by omega) ?_
    walk_at "r"
    refine⟨cD e2 hfn,_,_,ds++[l % ws[i]],rfl,?_,by rw[Bz,hds];rfl,next _ (Int.emod_nonneg _ (by omega)) (Int.emod_lt_of_pos _ (by omega))⟩
    rw[aG,By]
    rfl
   ·walk_at "r"
    refine⟨cS (ag.of hf2),?_⟩
    walk_at "r"
    refine⟨c,0+(i:Int),p,rfl,by omega,by omega,hp,fun z hz0 hz1=>?_⟩
    walk_at "r"
    refine aD (ag.of (e2 _ _ hw)) hat ?_
    refine rd_I (show 0<ws[i] by omega) ?_
    walk_at "r"
    refine bO hf2 (by rw[Bi];exact Nat.lt_of_le_of_lt (show ds.length<=10000 by omega) (by decide)) ?_
    walk_at "r"
    refine⟨cD e2 hfn,_,_,ds++[z % ws[i]],rfl,?_,by rw[Bz,hds];rfl,next _ (Int.emod_nonneg _ (by omega)) (Int.emod_lt_of_pos _ (by omega))⟩
    rw[aG,By]
    rfl
  ·rintro σ H2 ⟨e2,l,k,ds,rfl,hf2,hds,hb⟩
   walk_at "r"
   exact q f ds H2 e2 hf2 hfn (by rw[hds,Bu]) hb
def rg(K:Be):Sp:=fun vs H Q _=>∃c w,vs=[.int c,.int w]/\0<w/\w<2 ^ 64/\∀z,Q (.int z) H
abbrev nQ:Stmt:=stq 31
theorem oW:FnScope ["_law_cell_here","_law_width"] ["_law_cell_here","_law_width"] (aO nQ):=⟨rfl,rfl,rfl,by decide +kernel,rfl,by decide +kernel,by decide +kernel⟩
theorem A1{P:Program}{w:World}{K:Be}{mg:Str->Option Value}{base:Heap}(D:Dfn K mg "_law_spare" nQ ["_law_cell_here","_law_width"])(T:Blt mg):Cal P w K mg base "_law_spare" 1 ["_law_cell_here","_law_width"] (rg K):=by
 have nd:=(oW).nd
 refine D.ok oW (fun vs H Q E h=>?_) (fun X hX H vs Q E h=>?_)
 ·obtain⟨c,w,rfl,_⟩:=h;rfl
 ·obtain⟨f,cdv,A,outer,s,H0,E0,rfl,hr⟩:=hX
  obtain⟨c,w,rfl,h1,h2,q⟩:=h
  refine⟨_,(aj (cL (bC uw (pv 0) (av gX af af) (bo _)) (ax (aQ (av aW (av qw (av dN (pv 0) (av gX af af)) (pv 1)) (av gX af af)))) bJ)
    (ax (aQ (av aW (pv 0) af)))),?_⟩
  walk_at "r"
  refine eu (fun h=>?_) (fun h=>?_)
  ·walk_at "r"
   exact q _
  ·walk_at "r"
   exact q _
def aA(H:Hp)(bs:List Addr)(ws:List Way):Prop:=bs.length=ws.length/\∀(j:Nat) (b:Addr) (w:Way),bs[j]?=some b->ws[j]?=some w->H b=some (.tup w.vs)
theorem aA.ext{H H':Hp}{bs:List Addr}{ws:List Way}(e:Ext H H')(h:aA H bs ws):aA H' bs ws:=⟨h.1,fun j b w e1 e2=>e _ _ (h.2 j b w e1 e2)⟩
theorem aA.put{H:Hp}{f:Addr}{xs ys:List V}{bs:List Addr}{ws:List Way}(hf:H f=some (.lst xs))(h:aA H bs ws):aA (upd H f (.lst ys)) bs ws:=⟨h.1,fun j b w e1 e2=>by
 have:=h.2 j b w e1 e2
 rw[ay (cJ this hf (by intro z;cases z))]
 exact this⟩
theorem aA.nil(H:Hp):aA H [] []:=⟨rfl,fun j b w e=>by simp at e⟩
theorem aA.snoc{H:Hp}{bs:List Addr}{ws:List Way}{b:Addr}{w:Way}(h:aA H bs ws)(hb:H b=some (.tup w.vs)):aA H (bs++[b]) (ws++[w]):=by
 refine⟨by simp[h.1],fun j b' w' e1 e2=>?_⟩
 rcases Nat.lt_or_ge j bs.length with hj | hj
 ·rw[BG hj]at e1
  rw[BG (by rw[←h.1];exact hj)]at e2
  exact h.2 j b' w' e1 e2
 ·rw[BF hj]at e1
  rw[BF (by rw[←h.1];exact hj),←h.1]at e2
  cases hk:j-bs.length with
  | zero=>
   rw[hk]at e1 e2
   cases e1;cases e2
   exact hb
  | succ k=>rw[hk]at e1;simp at e1
theorem aA.ways{H:Hp}{p:Addr}{bs:List Addr}{ws:List Way}(h:aA H bs ws)(hp:H p=some (.tup (bs.map V.ref))):cj H p (ws.map Way.key):=
 ⟨bs,hp,by rw[Bi];exact h.1,fun j b k e1 e2=>by
  rw[Bk]at e2
  obtain⟨w,hw,rfl⟩:=Bt.mp e2
  exact h.2 j b w e1 hw⟩
theorem cj.al{H:Hp}{p:Addr}{ws:List Way}(h:cj H p (ws.map Way.key)):∃bs:List Addr,H p=some (.tup (bs.map V.ref))/\aA H bs ws:=by
 obtain⟨bs,h1,h2,h3⟩:=h
 rw[Bi]at h2
 exact⟨bs,h1,h2,fun j b w e1 e2=>cj.item h3 e1 e2⟩
abbrev Way.D(w:Way):PyData:=.tuple [.int w.room,.str w.deed,.int w.other,.str w.sign]
structure Way.Lay(w:Way):Prop where
 d:(PyData.str w.deed).canLay0=true
 s:(PyData.str w.sign).canLay0=true
theorem vV:∀c:Fin 123,97<=c.1->(PyData.str ⟨#[c.1]⟩).canLay0=true:=by decide +kernel
theorem Way.Ok.lay{m:Int}{w:Way}(h:w.Ok m):w.Lay:=by
 constructor
 ·rcases h.dd with e | e | e | e<;>rw[e]<;>decide +kernel
 ·obtain⟨c,h1,h2,e⟩:=h.sg
  rw[e]
  exact vV ⟨c,Nat.lt_succ_of_le h2⟩ h1
theorem Way.rep{H:Hp}{b:Addr}{w:Way}(h:H b=some (.tup w.vs))(l:w.Lay):aV H 1 (.ref b) w.D:=
 .inr ⟨b,w.vs,_,rfl,.inl ⟨h,rfl⟩,.cons rfl (.cons ⟨rfl,l.d⟩ (.cons rfl (.cons ⟨rfl,l.s⟩ .nil)))⟩
theorem Way.eqv(w u:Way):PyData.eqv w.D u.D=decide (w=u):=by
 simp only[PyData.eqv,PyData.eqvAll]
 by_cases h:w=u
 ·subst h;simp
 ·rw[decide_eq_false h]
  obtain⟨a,b,c,d⟩:=w
  obtain⟨a',b',c',d'⟩:=u
  simp only[Way.mk.injEq,not_and]at h
  simp only[Bool.and_true,Bool.and_eq_false_iff,beq_eq_false_iff_ne]
  by_cases h1:a=a'
  ·by_cases h2:b=b'
   ·by_cases h3:c=c'
    ·exact .inr (.inr (.inr (h h1 h2 h3)))
    ·exact .inr (.inr (.inl h3))
   ·exact .inr (.inl h2)
  ·exact .inl h1
theorem aA.reps{H:Hp}:∀{bs:List Addr} {ws:List Way},aA H bs ws->(∀w∈ws,w.Lay)->Paired (aV H 1) (bs.map V.ref) (ws.map Way.D)
 | [],[],_,_=>.nil
 | [],_::_,h,_=>by cases h.1
 | _::_,[],h,_=>by cases h.1
 | b::bs,w::ws,h,l=>.cons (Way.rep (h.2 0 b w rfl rfl) (l w Bo)) (aA.reps ⟨Nat.succ.inj h.1,fun j b w e1 e2=>h.2 (j+1) b w e1 e2⟩ fun u hu=>l u (Bl _ hu))
theorem zc(ws:List Way)(w:Way):((ws.map Way.D).any fun e=>PyData.eqv e w.D)=decide (w∈ws):=by
 rw[List.any_map]
 induction ws with
 | nil=>rfl
 | cons u ws ih=>
  rw[List.any_cons,ih,Function.comp_apply,Way.eqv]
  by_cases h:w∈ws
  ·simp[h]
  ·by_cases e:u=w
   ·simp[e]
   ·have:¬w=u:=fun z=>e z.symm
    simp[h,e,this]
def mz(K:Be):Sp:=fun vs H Q _=>∃l bs ws,vs=[.ref l]/\H l=some (.lst (bs.map V.ref))/\aA H bs ws/\(∀w∈ws,Way.Lay w)/\ws.length<=200 ∧
 ∀q H' us,Ext H H'->cj H' q (List.map Way.key us)->us.Nodup->(∀u∈us,u∈ws)->us.length<=ws.length->Q (.ref q) H'
abbrev kz:Stmt:=stq 33
theorem qS:FnScope ["_law_ways","_law_found","_law_way"] ["_law_ways"] (aO kz):=⟨rfl,rfl,rfl,by decide +kernel,rfl,by decide +kernel,by decide +kernel⟩
theorem yU{P:Program}{w:World}{K:Be}{mg:Str->Option Value}{base:Heap}(D:Dfn K mg "_law_unlike" kz ["_law_ways"])(T:Blt mg):Cal P w K mg base "_law_unlike" 1 ["_law_ways"] (mz K):=by
 have nd:=(qS).nd
 refine D.ok qS (fun vs H Q E h=>?_) (fun X hX H vs Q E h=>?_)
 ·obtain⟨l,bs,ws,rfl,_⟩:=h;rfl
 ·obtain⟨f,cdv,A,outer,s,H0,E0,rfl,hr⟩:=hX
  obtain⟨l,bs,ws,rfl,hl,al,lay,hlen,q⟩:=h
  refine⟨_,(aj (aF (i:=1) nd rfl (Or.inl rfl) (bF ae))
    (aj (bP PassesOwn.never rfl (dZ K (pv 0)) (aS (i:=2) nd rfl (Or.inl rfl)) (ax (di (bC (AE hr) (pv 2) (pv 1) (by with_unfolding_all rfl)) (ax (bA (bK K Bp BC BD bS (pv 1) (aa (pv 2) ae)))) bJ)))
    (ax (aQ (hZ (ph K) rfl T.tuple_ PyProof.Rows.boot_tuple (aa (pv 1) ae)))))),?_⟩
  walk_at "r"
  refine aE fun f H1 e1 hf hfn=>?_
  walk_at "r"
  refine ed (ag.of (e1 _ _ hl)) ?_
  refine forL (xs:=bs.map V.ref) (fun i σ H2=>Ext H H2/\∃(k:Option V) (cs:List Addr) (us:List Way),σ=[some (.ref l),some (.ref f),k]/\H2 f=some (.lst (cs.map V.ref))/\aA H2 cs us/\us.Nodup/\(∀u∈us,u∈ws)/\us.length<=i)
   ⟨e1,none,[],[],rfl,hf,aA.nil _,List.nodup_nil,fun u hu=>by simp at hu,BB _⟩ (fun i σ H2 _ h=>ag.of (h.1 _ _ hl)) ?_ ?_
  ·rintro i x σ H2 hx ⟨e2,k,cs,us,rfl,hf2,al2,nd2,sub2,len2⟩
   rw[Bk]at hx
   obtain⟨b,hb,rfl⟩:=Bt.mp hx
   have hi:i<ws.length:=by
    rw[←al.1]
    exact(Bq.mp hb).1
   have hwi:ws[i]?=some ws[i]:=Bj hi
   have hbw:=e2 _ _ (al.2 i b _ hb hwi)
   walk_at "r"
   refine gL ?_
   walk_at "r"
   refine u7 (Way.rep hbw (lay _ (BH hi))) hf2 (al2.reps fun u hu=>lay u (sub2 u hu)) (by decide) ?_
   simp only[if_true,zc]
   refine rd_exb ?_
   by_cases hm:ws[i]∈us
   ·rw[decide_eq_true hm]
    refine aP ?_
    walk_at "r"
    exact⟨e2,_,cs,us,rfl,hf2,al2,nd2,sub2,by omega⟩
   ·rw[decide_eq_false hm]
    refine aK ?_
    walk_at "r"
    refine⟨cS (ag.of hf2),?_⟩
    walk_at "r"
    refine bO hf2 (by rw[Bi,al2.1];exact Nat.lt_of_le_of_lt (show us.length<=1000 by omega) (by decide)) ?_
    walk_at "r"
    refine⟨cD e2 hfn,_,cs++[b],us++[ws[i]],rfl,by rw[aG,By];rfl,(al2.put hf2).snoc ?_,?_,?_,by simp;omega⟩
    ·rw[ay (cJ hbw hf2 (by intro z;cases z))]
     exact hbw
    ·rw[List.nodup_append]
     exact⟨nd2,by simp,fun a ha c hc=>by rw[Bs.mp hc];exact fun z=>hm (z ▸ ha)⟩
    ·intro u hu
     rcases BE.mp hu with hu | hu
     ·exact sub2 u hu
     ·rw[Bs.mp hu];exact BH hi
  ·rintro σ H2 ⟨e2,k,cs,us,rfl,hf2,al2,nd2,sub2,len2⟩
   walk_at "r"
   refine oY (ag.of hf2) (eO fun p H3 e3 hp _=>?_)
   exact q p H3 us (e2.trans e3) ((al2.ext e3).ways hp) nd2 sub2 (by rw[Bi,al.1]at len2;exact len2)
def jL(z:Str):Prop:=∃c:Nat,97<=c/\c<=99/\z=⟨#[c]⟩
structure Way.Ok3(m:Int)(w:Way):Prop where
 r0:0<=w.room
 r1:w.room<m
 o0:0<=w.other
 o1:w.other<m
 dd:cF w.deed
 sg:jL w.sign
structure HOuse3(m:Int)(ws:List Way):Prop where
 m1:1<=m
 m12:m<=12
 few:ws.length<=100
 ok:∀w∈ws,w.Ok3 m
 nd:ws.Nodup
theorem Way.Ok3.ok{m:Int}{w:Way}(h:w.Ok3 m):w.Ok m:=by
 obtain⟨c,h1,h2,h3⟩:=h.sg
 exact⟨h.r0,h.r1,h.o0,h.o1,h.dd,c,h1,by omega,h3⟩
theorem Way.Ok3.lay{m:Int}{w:Way}(h:w.Ok3 m):w.Lay:=h.ok.lay
theorem HOuse3.house{m:Int}{ws:List Way}(h:HOuse3 m ws):HOuse m ws:=⟨h.m1,h.m12,h.few,fun w hw=>(h.ok w hw).ok,h.nd⟩
theorem vH{ds:List Int}{i:Nat}(h:i+4<=ds.length):∃a b c d,fu (ds.map V.int) (some (i:Int)) (some ((i+4:Nat):Int))=[.int a,.int b,.int c,.int d]/\ds[i]?=some a/\ds[i+1]?=some b/\ds[i+2]?=some c/\ds[i+3]?=some d:=by
 refine⟨ds[i],ds[i+1],ds[i+2],ds[i+3],?_,Bj _,Bj _,Bj _,Bj _⟩
 unfold fu
 rw[HT.oA,HT.oA,Bi,Nat.min_eq_left (by omega),Nat.min_eq_left (by omega),show i+4-i=4 by omega,←List.map_drop,←List.map_take]
 rw[List.drop_eq_getElem_cons (show i<ds.length by omega),List.drop_eq_getElem_cons (show i+1<ds.length by omega),List.drop_eq_getElem_cons (show i+1+1<ds.length by omega),List.drop_eq_getElem_cons (show i+1+1+1<ds.length by omega)]
 rfl
def dP:List Int:=[8,12,13,31]++(List.replicate 30 ([12,6,12,3]:List Int)).flatten
theorem va{k:Nat}(h:k<30):dP[4+4*k]?=some 12/\dP[4+4*k+1]?=some 6/\dP[4+4*k+2]?=some 12/\dP[4+4*k+3]?=some 3:=by
 have:∀k:Fin 30,dP[4+4*k.val]?=some 12/\dP[4+4*k.val+1]?=some 6/\dP[4+4*k.val+2]?=some 12/\dP[4+4*k.val+3]?=some 3:=by decide +kernel
 exact this ⟨k,h⟩
def uG(K:Be):Sp:=fun vs H Q _=>∃c p,vs=[.int c,.int p]/\0<p/\∀v m ws H',Ext H H'->bD H' v m ws->HOuse3 m ws->Q v H'
theorem zK{e:Int}(h0:0<=e)(h1:e<6):∃z,br ([.str "up",.str "down",.str "stay",.str "zero",.str "up",.str "down"]:List V) e=some (.str z)/\cF z:=by
 have:e=0\/e=1\/e=2\/e=3\/e=4\/e=5:=by omega
 rcases this with rfl | rfl | rfl | rfl | rfl | rfl
 ·exact⟨_,rfl,.inl rfl⟩
 ·exact⟨_,rfl,.inr (.inl rfl)⟩
 ·exact⟨_,rfl,.inr (.inr (.inl rfl))⟩
 ·exact⟨_,rfl,.inr (.inr (.inr rfl))⟩
 ·exact⟨_,rfl,.inl rfl⟩
 ·exact⟨_,rfl,.inr (.inl rfl)⟩
theorem y8:(Str.ofString "abc").cps.toList=[97,98,99]:=by decide +kernel
theorem xE{e:Int}(h0:0<=e)(h1:e<3):∃c,br (Str.ofString "abc").cps.toList e=some c/\97<=c/\c<=99:=by
 rw[y8]
 have:e=0\/e=1\/e=2:=by omega
 rcases this with rfl | rfl | rfl
 ·exact⟨97,rfl,by decide,by decide⟩
 ·exact⟨98,rfl,by decide,by decide⟩
 ·exact⟨99,rfl,by decide,by decide⟩
theorem Ax{e:Int}(h0:0<=e)(h1:e<8):∃w:Int,br (([4,4,4,5,3,2,5,12]:List Int).map V.int) e=some (.int w)/\1<=w/\w<=12:=by
 have:e=0\/e=1\/e=2\/e=3\/e=4\/e=5\/e=6\/e=7:=by omega
 rcases this with rfl | rfl | rfl | rfl | rfl | rfl | rfl | rfl<;>exact⟨_,rfl,by decide,by decide⟩
theorem bD.mk{H:Hp}{p q:Addr}{m:Int}{ws:List Way}(h1:H p=some (.tup [.int m,.ref q]))(h2:cj H q (ws.map Way.key)):bD H (.ref p) m ws:=⟨p,q,rfl,h1,h2⟩
abbrev kE:Stmt:=stq 35
theorem oZ:FnScope ["_law_cell_here","_law_prime","_law_draws_here","_law_many","_law_often","_law_ways","_law_k","_law_room","_law_deed","_law_other","_law_sign","_law_word"] ["_law_cell_here","_law_prime"] (aO kE):=⟨rfl,rfl,rfl,by decide +kernel,rfl,by decide +kernel,by decide +kernel⟩
theorem AU{P:Program}{w:World}{K:Be}{mg:Str->Option Value}{base:Heap}(D:Dfn K mg "_law_drawn_house" kE ["_law_cell_here","_law_prime"])(T:Blt mg)(C__law_unlike:Cal P w K mg base "_law_unlike" 1 ["_law_ways"] (mz K))(C__law_draws:Cal P w K mg base "_law_draws" 2 ["_law_cell_here","_law_widths","_law_prime"] (fP K)):Cal P w K mg base "_law_drawn_house" 3 ["_law_cell_here","_law_prime"] (uG K):=by
 have nd:=(oZ).nd
 refine D.ok oZ (fun vs H Q E h=>?_) (fun X hX H vs Q E h=>?_)
 ·obtain⟨c,p,rfl,_⟩:=h;rfl
 ·obtain⟨f,cdv,A,outer,s,H0,E0,rfl,hr⟩:=hX
  obtain⟨c,p,rfl,hp,q⟩:=h
  refine⟨_,(@aj _ _ _ _ _ (@aF _ _ 2 _ _ _ _ nd rfl (Or.inl rfl) (aL C__law_draws hr (@aa _ _ _ _ _ (pv 0) (@aa _ _ _ _ _ (av lC (@bF _ _ _ _ (ix (.c (.c (.c (.c .n)))))) (av yT (@bF _ _ _ _ (ix (.c (.c (.c (.c .n)))))) af)) (@aa _ _ _ _ _ (pv 1) ae rfl) rfl) rfl)) rfl (Or.inl rfl))
    (@aj _ _ _ _ _ (@aF _ _ 3 _ _ _ _ nd rfl (Or.inl rfl) (av aW af (av cC (@ai _ _ _ _ _ _ _ (aC K) (pv 2) af (fun _ _=>rfl)) (@ai _ _ _ _ _ _ _ (aC K) (@bF _ _ _ _ (ix (.c (.c (.c (.c (.c (.c (.c (.c .n)))))))))) (@ai _ _ _ _ _ _ _ (aC K) (pv 2) af (fun _ _=>rfl)) (fun _ _=>rfl)))) rfl (Or.inl rfl))
    (@aj _ _ _ _ _ (@aF _ _ 4 _ _ _ _ nd rfl (Or.inl rfl) (@ai _ _ _ _ _ _ _ (aC K) (pv 2) af (fun _ _=>rfl)) rfl (Or.inl rfl))
    (@aj _ _ _ _ _ (di (bC bY (@ai _ _ _ _ _ _ _ (aC K) (pv 2) af (fun _ _=>rfl)) af (bo _)) (@ax _ _ _ (@aF _ _ 4 _ _ _ _ nd rfl (Or.inl rfl) (@ai _ _ _ _ _ _ _ (aC K) (pv 2) af (fun _ _=>rfl)) rfl (Or.inl rfl))) bJ)
    (@aj _ _ _ _ _ (@aF _ _ 5 _ _ _ _ nd rfl (Or.inl rfl) (@bF _ _ _ _ ae) rfl (Or.inl rfl))
    (@aj _ _ _ _ _ (bP PassesOwn.never rfl (cb rfl T.range_ (@aa _ _ _ _ _ (pv 4) ae rfl)) (aS (i:=6) nd rfl (Or.inl rfl)) (@aj _ _ _ _ _ (@jk _ _ _ _ _ _ (vy (zl K) (pv 2) (mX (av aW af (av dB af (pv 6)))) (mX (av aW af (av dB af (pv 6))))) (yj (n:=4) K rfl (gJ (aS (i:=7) nd rfl (Or.inl rfl)) (gJ (aS (i:=8) nd rfl (Or.inl rfl)) (gJ (aS (i:=9) nd rfl (Or.inl rfl)) (gJ (aS (i:=10) nd rfl (Or.inl rfl)) qe))))) rfl rfl rfl)
    (@aj _ _ _ _ _ (@aF _ _ 11 _ _ _ _ nd rfl (Or.inl rfl) (@ai _ _ _ _ _ _ _ (aC K) (@bF _ _ _ _ (@aa _ _ _ _ _ aJ (@aa _ _ _ _ _ aJ (@aa _ _ _ _ _ aJ (@aa _ _ _ _ _ aJ (@aa _ _ _ _ _ aJ (@aa _ _ _ _ _ aJ ae rfl) rfl) rfl) rfl) rfl) rfl)) (pv 8) (fun _ _=>rfl)) rfl (Or.inl rfl))
    (@ax _ _ _ (bA (bK K Bp BC BD bS (pv 5) (@aa _ _ _ _ _ (@bx _ _ _ _ _ (@aa _ _ _ _ _ (av cC (pv 7) (pv 3)) (@aa _ _ _ _ _ (pv 11) (@aa _ _ _ _ _ (av cC (pv 9) (pv 3)) (@aa _ _ _ _ _ (@ai _ _ _ _ _ _ _ sk aJ (pv 10) (fun _ _=>rfl)) ae rfl) rfl) rfl) rfl)) ae rfl)))))))
    (@ax _ _ _ (@aQ _ _ _ _ (@bx _ _ _ _ _ (@aa _ _ _ _ _ (pv 3) (@aa _ _ _ _ _ (aL C__law_unlike hr (@aa _ _ _ _ _ (pv 5) ae rfl)) ae rfl) rfl)))))))))),?_⟩
  walk_at "r"
  refine aE fun w0 G1 f1 hw0 _=>?_
  walk_at "r"
  refine aE fun w1 G2 f2 hw1 _=>?_
  walk_at "r"
  refine wy hw1 (by omega) (bW (by decide)) (eO fun w2 G3 f3 hw2 _=>?_)
  walk_at "r"
  refine pK (f3 _ _ (f2 _ _ hw0)) hw2 (bW (by decide)) (eO fun w3 G4 f4 hw3 _=>?_)
  walk_at "r"
  refine jU dP hw3 (by decide +kernel) (by decide +kernel) (hp) fun dq ds H1 e1 hd hdn hl hb=>?_
  have eH:Ext H H1:=f1.trans (f2.trans (f3.trans (f4.trans e1)))
  have hl':ds.length=124:=hl
  have at_:∀(i:Nat) (x:Int),dP[i]?=some x->∃d,ds[i]?=some d/\0<=d/\d<x:=fun i x hx=>by
   have hi:i<ds.length:=by
    rw[hl]
    exact(Bq.mp hx).1
   exact⟨ds[i],Bj hi,hb i _ x (Bj hi) hx⟩
  obtain⟨d0,g0,b00,b01⟩:=at_ 0 8 rfl
  obtain⟨d1,g1,b10,b11⟩:=at_ 1 12 rfl
  obtain⟨d2,g2,b20,b21⟩:=at_ 2 13 rfl
  obtain⟨d3,g3,b30,b31⟩:=at_ 3 31 rfl
  have pick:∀{i:Nat} {d:Int},ds[i]?=some d->br (ds.map V.int) (i:Int)=some (.int d):=fun{i d} h=>eT (by rw[Bk,h];rfl)
  walk_at "r"
  refine aD (ag.of hd) (pick (i:=1) g1) ?_
  walk_at "r"
  refine aE fun mq H2 e2 hmq _=>?_
  walk_at "r"
  refine aD (ag.of (e2 _ _ hd)) (pick (i:=0) g0) ?_
  obtain⟨w,hw,hw1',hw2'⟩:=Ax b00 b01
  refine aD (ag.of hmq) hw ?_
  try refine rd_I (show(0:Int)<w by omega) ?_
  walk_at "r"
  have r0:0<=d1 % w:=Int.emod_nonneg _ (by omega)
  have r1:d1 % w<w:=Int.emod_lt_of_pos _ (by omega)
  obtain⟨m,hm,m1,m2⟩:∃m,1+d1 % w=m/\1<=m/\m<=12:=⟨_,rfl,by omega,by omega⟩
  rw[hm]
  refine aD (ag.of (e2 _ _ hd)) (pick (i:=2) g2) ?_
  walk_at "r"
  have eH2:Ext H H2:=eH.trans e2
  have hd2:=e2 _ _ hd
  refine fQ (fun σ' H'=>H'=H2/\∃o:Nat,o<=30/\σ'=[some (.int c),some (.int p),some (.ref dq),some (.int m),some (.int o),none,none,none,none,none,none,none]) ?_ ?_
  ·walk_at "r"
   refine aD (ag.of hd2) (pick (i:=0) g0) ?_
   walk_at "r"
   refine eu (fun h=>?_) (fun h=>?_)
   ·walk_at "r"
    refine aD (ag.of hd2) (pick (i:=3) g3) ?_
    walk_at "r"
    exact⟨rfl,d3.toNat,by omega,by rw[Bv b30];rfl⟩
   ·walk_at "r"
    exact⟨rfl,d2.toNat,by omega,by rw[Bv b20];rfl⟩
  rintro σ' H' ⟨rfl,o,ho,rfl⟩
  clear hw hw1' hw2' r0 r1 b00 b01 b10 b11 b20 b21 b30 b31
  walk_at "r"
  refine aE fun f H3 e3 hf hfn=>?_
  walk_at "r"
  refine b6 (by omega) ?_
  refine forR (fun i σ H4=>Ext H' H4/\∃(k1 k2 k3 k4 k5 k6:Option V) (cs:List Addr) (us:List Way),σ=[some (.int c),some (.int p),some (.ref dq),some (.int m),some (.int o),some (.ref f),k1,k2,k3,k4,k5,k6]/\H4 f=some (.lst (cs.map V.ref))/\aA H4 cs us/\(∀u∈us,u.Ok3 m)/\us.length=i)
   ⟨e3,none,none,none,none,none,none,[],[],rfl,hf,aA.nil _,fun u hu=>by simp at hu,rfl⟩ ?_ ?_
  ·rintro i σ H4 hi ⟨e4,k1,k2,k3,k4,k5,k6,cs,us,rfl,hf4,al,ok,len⟩
   rw[Bu]at hi
   have hi30:i<30:=by omega
   obtain⟨a,b,c',d,hcut,ga,gb,gc,gd⟩:=vH (ds:=ds) (i:=4+4*i) (by omega)
   obtain⟨y0,y1,y2,y3⟩:=va hi30
   have ba:=hb _ _ _ ga y0
   have bb:=hb _ _ _ gb y1
   have bc:=hb _ _ _ gc y2
   have bd:=hb _ _ _ gd y3
   have hd4:=e4 _ _ hd2
   walk_at "r"
   refine Aj (ag.of hd4) (eO fun t H5 e5 ht htn=>?_)
   rw[show (4:Int)+4*(0+(i:Int))=((4+4*i:Nat):Int) by omega,show (8:Int)+4*(0+(i:Int))=((4+4*i+4:Nat):Int) by omega,hcut]at ht
   walk_at "r"
   refine yA (ag.of ht) rfl ?_
   walk_at "r"
   refine aE fun u1 H6 e6 hu1 _=>?_
   walk_at "r"
   obtain⟨z,hz,okz⟩:=zK bb.1 bb.2
   refine aD (ag.of hu1) hz ?_
   walk_at "r"
   have hf6:=e6 _ _ (e5 _ _ hf4)
   refine⟨cS (ag.of hf6),?_⟩
   walk_at "r"
   try refine rd_I (show(0:Int)<m by omega) ?_
   walk_at "r"
   try refine rd_I (show(0:Int)<m by omega) ?_
   walk_at "r"
   obtain⟨s,hs,s1,s2⟩:=xE bd.1 bd.2
   refine⟨_,_,s,rfl,rfl,jO (by decide +kernel),hs,?_⟩
   walk_at "r"
   refine aE fun v H7 e7 hv _=>?_
   have hf7:=e7 _ _ hf6
   walk_at "r"
   refine bO hf7 (by rw[Bi,al.1,len];exact Nat.lt_of_le_of_lt (show i<=1000 by omega) (by decide)) ?_
   walk_at "r"
   have al7:aA H7 cs us:=((al.ext e5).ext e6).ext e7
   have hv7:H7 v=some (.tup (Way.vs ⟨a % m,z,c' % m,⟨#[s]⟩⟩)):=hv
   refine⟨cD (e4.trans (e5.trans (e6.trans e7))) hfn,_,_,_,_,_,_,cs++[v],us++[⟨a % m,z,c' % m,⟨#[s]⟩⟩],rfl,by rw[aG,By];rfl,(al7.put hf7).snoc ?_,?_,by simp[len]⟩
   ·rw[ay (cJ hv7 hf7 (by intro z;cases z))]
    exact hv7
   ·intro u hu
    rcases BE.mp hu with hu | hu
    ·exact ok u hu
    ·rw[Bs.mp hu]
     exact⟨Int.emod_nonneg _ (by omega),Int.emod_lt_of_pos _ (by omega),Int.emod_nonneg _ (by omega),Int.emod_lt_of_pos _ (by omega),okz,s,s1,s2,rfl⟩
  ·rintro σ H4 ⟨e4,k1,k2,k3,k4,k5,k6,cs,us,rfl,hf4,al,ok,len⟩
   rw[Bu]at len
   walk_at "r"
   refine⟨f,cs,us,rfl,hf4,al,fun u hu=>(ok u hu).lay,by omega,fun r H5 ws e5 hws nd sub ln=>?_⟩
   walk_at "r"
   refine aE fun t H6 e6 ht _=>?_
   exact q _ m ws H6 (eH2.trans (e4.trans (e5.trans e6))) (bD.mk ht (hws.ext e6)) ⟨m1,m2,by omega,fun u hu=>ok u (sub u hu),nd⟩
structure WL(H0 H:Hp)(f:Addr)(us:List Way):Prop where
 ext:Ext H0 H
 at_:∃cs:List Addr,H f=some (.lst (cs.map V.ref))/\aA H cs us
theorem WL.nil{H0 H:Hp}{f:Addr}(e:Ext H0 H)(hf:H f=some (.lst [])):WL H0 H f []:=⟨e,[],hf,aA.nil _⟩
theorem WL.push{H0 H H1:Hp}{f v:Addr}{us:List Way}{w:Way}(h:WL H0 H f us)(hfn:H0 f=none)(e:Ext H H1)(hv:H1 v=some (.tup w.vs)):
  ∃xs,H1 f=some (.lst xs)/\xs.length=us.length/\WL H0 (upd H1 f (.lst (xs++[.ref v]))) f (us++[w]):=by
 obtain⟨e0,cs,hf,al⟩:=h
 have hf1:=e _ _ hf
 refine⟨cs.map V.ref,hf1,by rw[Bi];exact al.1,cD (e0.trans e) hfn,cs++[v],by rw[aG,By];rfl,((al.ext e).put hf1).snoc ?_⟩
 rw[ay (cJ hv hf1 (by intro z;cases z))]
 exact hv
theorem WL.ty{K:Be}{H0 H H1:Hp}{f:Addr}{us:List Way}(h:WL H0 H f us)(e:Ext H H1):fN K "list" (.ref f) H1:=by
 obtain⟨_,cs,hf,al⟩:=h
 exact cS (ag.of (e _ _ hf))
theorem iX:jL "a":=⟨97,by decide,by decide,by decide +kernel⟩
theorem iP:jL "b":=⟨98,by decide,by decide,by decide +kernel⟩
theorem mj:jL "c":=⟨99,by decide,by decide,by decide +kernel⟩
theorem jo:cF "up":=.inl rfl
theorem j9:cF "down":=.inr (.inl rfl)
theorem gm:cF "stay":=.inr (.inr (.inl rfl))
theorem mV:cF "zero":=.inr (.inr (.inr rfl))
theorem dz{n:Nat}(h:n<=1000):n<sizeLine:=Nat.lt_of_le_of_lt h (by decide)
theorem iV{a b:V}{e:Int}(h0:0<=e)(h1:e<2):∃v,br [a,b] e=some v/\(v=a\/v=b):=by
 have:e=0\/e=1:=by omega
 rcases this with rfl | rfl
 ·exact⟨a,rfl,.inl rfl⟩
 ·exact⟨b,rfl,.inr rfl⟩
theorem dJ{m:Int}{us:List Way}{w:Way}(h:∀u∈us,u.Ok3 m)(hw:w.Ok3 m):∀u∈us++[w],u.Ok3 m:=fun u hu=>by
 rcases BE.mp hu with hu | hu
 ·exact h u hu
 ·rw[Bs.mp hu];exact hw
theorem wL:(Str.ofString "ab").cps.toList=[97,98]:=by decide +kernel
theorem yN{e:Int}(h0:0<=e)(h1:e<2):∃c,br (Str.ofString "ab").cps.toList e=some c/\97<=c/\c<=99:=by
 rw[wL]
 have:e=0\/e=1:=by omega
 rcases this with rfl | rfl
 ·exact⟨97,rfl,by decide,by decide⟩
 ·exact⟨98,rfl,by decide,by decide⟩
theorem cB{ws ds:List Int}(hl:ds.length=ws.length)(hb:∀(i:Nat) (d x:Int),ds[i]?=some d->ws[i]?=some x->0<=d/\d<x)(i:Nat){x:Int}(hx:ws[i]?=some x):∃d,br (ds.map V.int) (i:Int)=some (.int d)/\0<=d/\d<x:=by
 have hi:i<ds.length:=by
  rw[hl]
  exact(Bq.mp hx).1
 have g:ds[i]?=some ds[i]:=Bj hi
 exact⟨ds[i],eT (by rw[Bk,g];rfl),hb i _ x g hx⟩
def uO(K:Be):Sp:=fun vs H Q _=>∃c p,vs=[.int c,.int p]/\0<p/\∀v m ws H',Ext H H'->bD H' v m ws->HOuse3 m ws->Q v H'
abbrev kL:Stmt:=stq 34
theorem tI:FnScope ["_law_cell_here","_law_prime","_law_draws_here","_law_up","_law_down","_law_many","_law_ways","_law_k"] ["_law_cell_here","_law_prime"] (aO kL):=⟨rfl,rfl,rfl,by decide +kernel,rfl,by decide +kernel,by decide +kernel⟩
theorem yQ{P:Program}{w:World}{K:Be}{mg:Str->Option Value}{base:Heap}(D:Dfn K mg "_law_gate_house" kL ["_law_cell_here","_law_prime"])(T:Blt mg)(C__law_unlike:Cal P w K mg base "_law_unlike" 1 ["_law_ways"] (mz K))(C__law_draws:Cal P w K mg base "_law_draws" 2 ["_law_cell_here","_law_widths","_law_prime"] (fP K)):Cal P w K mg base "_law_gate_house" 3 ["_law_cell_here","_law_prime"] (uO K):=by
 have nd:=(tI).nd
 refine D.ok tI (fun vs H Q E h=>?_) (fun X hX H vs Q E h=>?_)
 ·obtain⟨c,p,rfl,_⟩:=h;rfl
 ·obtain⟨f,cdv,A,outer,s,H0,E0,rfl,hr⟩:=hX
  obtain⟨c,p,rfl,hp,q⟩:=h
  refine⟨_,(@aj _ _ _ _ _ (@aF _ _ 2 _ _ _ _ nd rfl (Or.inl rfl) (aL C__law_draws hr (@aa _ _ _ _ _ (pv 0) (@aa _ _ _ _ _ (@bF _ _ _ _ (ix (.c (.c (.c (.c (.c (.c (.c .n))))))))) (@aa _ _ _ _ _ (pv 1) ae rfl) rfl) rfl)) rfl (Or.inl rfl))
    (@aj _ _ _ _ _ (tT (i:=3) (j:=4) rfl nd rfl rfl (by decide) rfl rfl (@aa _ _ _ _ _ (av aW af (@ai _ _ _ _ _ _ _ (aC K) (pv 2) af (fun _ _=>rfl))) (@aa _ _ _ _ _ (av aW af (@ai _ _ _ _ _ _ _ (aC K) (pv 2) af (fun _ _=>rfl))) ae rfl) rfl) rfl)
    (@aj _ _ _ _ _ (@aF _ _ 5 _ _ _ _ nd rfl (Or.inl rfl) (av aW (av aW (pv 3) (pv 4)) af) rfl (Or.inl rfl))
    (@aj _ _ _ _ _ (@aF _ _ 6 _ _ _ _ nd rfl (Or.inl rfl) (@bF _ _ _ _ ae) rfl (Or.inl rfl))
    (@aj _ _ _ _ _ (bP PassesOwn.never rfl (cb rfl T.range_ (@aa _ _ _ _ _ (pv 3) ae rfl)) (aS (i:=7) nd rfl (Or.inl rfl)) (@ax _ _ _ (bA (bK K Bp BC BD bS (pv 6) (@aa _ _ _ _ _ (@bx _ _ _ _ _ (@aa _ _ _ _ _ (pv 7) (@aa _ _ _ _ _ aJ (@aa _ _ _ _ _ (av cC (av aW (pv 7) af) (pv 3)) (@aa _ _ _ _ _ (@ai _ _ _ _ _ _ _ sk aJ (@ai _ _ _ _ _ _ _ (aC K) (pv 2) af (fun _ _=>rfl)) (fun _ _=>rfl)) ae rfl) rfl) rfl) rfl)) ae rfl)))))
    (@aj _ _ _ _ _ (bA (bK K Bp BC BD bS (pv 6) (@aa _ _ _ _ _ (@bx _ _ _ _ _ (@aa _ _ _ _ _ (av cC (@ai _ _ _ _ _ _ _ (aC K) (pv 2) af (fun _ _=>rfl)) (pv 3)) (@aa _ _ _ _ _ aJ (@aa _ _ _ _ _ (pv 3) (@aa _ _ _ _ _ aJ ae rfl) rfl) rfl) rfl)) ae rfl)))
    (@aj _ _ _ _ _ (bP PassesOwn.never rfl (cb rfl T.range_ (@aa _ _ _ _ _ (pv 4) ae rfl)) (aS (i:=7) nd rfl (Or.inl rfl)) (@ax _ _ _ (bA (bK K Bp BC BD bS (pv 6) (@aa _ _ _ _ _ (@bx _ _ _ _ _ (@aa _ _ _ _ _ (av aW (pv 3) (pv 7)) (@aa _ _ _ _ _ aJ (@aa _ _ _ _ _ (av aW (pv 3) (av cC (av aW (pv 7) af) (pv 4))) (@aa _ _ _ _ _ aJ ae rfl) rfl) rfl) rfl)) ae rfl)))))
    (@aj _ _ _ _ _ (bA (bK K Bp BC BD bS (pv 6) (@aa _ _ _ _ _ (@bx _ _ _ _ _ (@aa _ _ _ _ _ (av aW (pv 3) (av cC (@ai _ _ _ _ _ _ _ (aC K) (pv 2) af (fun _ _=>rfl)) (pv 4))) (@aa _ _ _ _ _ aJ (@aa _ _ _ _ _ (av dN (pv 5) af) (@aa _ _ _ _ _ aJ ae rfl) rfl) rfl) rfl)) ae rfl)))
    (@aj _ _ _ _ _ (bA (bK K Bp BC BD bS (pv 6) (@aa _ _ _ _ _ (@bx _ _ _ _ _ (@aa _ _ _ _ _ (av dN (pv 5) af) (@aa _ _ _ _ _ (@ai _ _ _ _ _ _ _ (aC K) (@bF _ _ _ _ (@aa _ _ _ _ _ aJ (@aa _ _ _ _ _ aJ ae rfl) rfl)) (@ai _ _ _ _ _ _ _ (aC K) (pv 2) af (fun _ _=>rfl)) (fun _ _=>rfl)) (@aa _ _ _ _ _ (@ai _ _ _ _ _ _ _ (aC K) (@bF _ _ _ _ (@aa _ _ _ _ _ af (@aa _ _ _ _ _ (av dN (pv 5) af) ae rfl) rfl)) (@ai _ _ _ _ _ _ _ (aC K) (pv 2) af (fun _ _=>rfl)) (fun _ _=>rfl)) (@aa _ _ _ _ _ aJ ae rfl) rfl) rfl) rfl)) ae rfl)))
    (@ax _ _ _ (@aQ _ _ _ _ (@bx _ _ _ _ _ (@aa _ _ _ _ _ (pv 5) (@aa _ _ _ _ _ (aL C__law_unlike hr (@aa _ _ _ _ _ (pv 6) ae rfl)) ae rfl) rfl))))))))))))),?_⟩
  walk_at "r"
  refine aE fun w0 G1 f1 hw0 _=>?_
  walk_at "r"
  refine jU [6,5,6,5,2,2,2] hw0 (by decide) (by decide) (hp) fun dq ds H1 e1 hd hdn hl hb=>?_
  have eH:Ext H H1:=f1.trans e1
  obtain⟨d0,g0,b00,b01⟩:=cB hl hb 0 rfl
  obtain⟨d1,g1,b10,b11⟩:=cB hl hb 1 rfl
  obtain⟨d2,g2,b20,b21⟩:=cB hl hb 2 rfl
  obtain⟨d3,g3,b30,b31⟩:=cB hl hb 3 rfl
  obtain⟨d4,g4,b40,b41⟩:=cB hl hb 4 rfl
  obtain⟨d5,g5,b50,b51⟩:=cB hl hb 5 rfl
  obtain⟨d6,g6,b60,b61⟩:=cB hl hb 6 rfl
  clear hb hl
  walk_at "r"
  refine aD (ag.of hd) g0 ?_
  walk_at "r"
  refine aD (ag.of hd) g1 ?_
  walk_at "r"
  obtain⟨U,hU⟩:∃U:Nat,1+d0=(U:Int):=⟨(1+d0).toNat,by omega⟩
  obtain⟨D,hD⟩:∃D:Nat,1+d1=(D:Int):=⟨(1+d1).toNat,by omega⟩
  rw[hU,hD]
  have u1:1<=U:=by omega
  have u6:U<=6:=by omega
  have v1:1<=D:=by omega
  have v5:D<=5:=by omega
  clear b00 b01 b10 b11 hU hD
  obtain⟨m,hm⟩:∃m:Int,(U:Int)+(D:Int)+1=m:=⟨_,rfl⟩
  rw[hm]
  refine aE fun f H2 e2 hf hfn=>?_
  walk_at "r"
  refine b6 (by omega) ?_
  have hfn0:H1 f=none:=hfn
  refine forR (fun i σ H3=>∃(k:Option V) (us:List Way),σ=[some (.int c),some (.int p),some (.ref dq),some (.int U),some (.int D),some (.int m),some (.ref f),k]/\WL H1 H3 f us/\(∀u∈us,u.Ok3 m)/\us.length=i)
   ⟨none,[],rfl,WL.nil e2 hf,fun u hu=>by simp at hu,rfl⟩ ?_ ?_
  ·rintro i σ H3 hi ⟨k,us,rfl,wl,ok,len⟩
   rw[Bu]at hi
   walk_at "r"
   refine⟨wl.ty (Ext.rfl' _),?_⟩
   walk_at "r"
   try refine rd_I (show(0:Int)<(U:Int) by omega) ?_
   walk_at "r"
   refine aD (ag.of (wl.ext _ _ hd)) g4 ?_
   obtain⟨s,hs,s1,s2⟩:=yN b40 b41
   refine⟨_,_,s,rfl,rfl,jO (by decide +kernel),hs,?_⟩
   walk_at "r"
   refine aE fun v H4 e4 hv _=>?_
   walk_at "r"
   obtain⟨xs,hx,hlx,wl'⟩:=wl.push (w:=⟨0+(i:Int),"up",(0+(i:Int)+1) % (U:Int),⟨#[s]⟩⟩) hfn0 e4 hv
   refine bO hx (dz (by omega)) ?_
   walk_at "r"
   exact⟨_,_,rfl,wl',dJ ok ⟨by show 0<=0+(i:Int);omega,by show 0+(i:Int)<m;omega,Int.emod_nonneg _ (by omega),Int.lt_trans (Int.emod_lt_of_pos _ (by omega)) (by omega),jo,s,s1,s2,rfl⟩,by simp[len]⟩
  rintro σ H3 ⟨k,us,rfl,wl,ok,len⟩
  rw[Bu]at len
  walk_at "r"
  refine⟨wl.ty (Ext.rfl' _),?_⟩
  walk_at "r"
  refine aD (ag.of (wl.ext _ _ hd)) g2 ?_
  try refine rd_I (show(0:Int)<(U:Int) by omega) ?_
  walk_at "r"
  refine aE fun v H4 e4 hv _=>?_
  walk_at "r"
  have r0:0<=d2 % (U:Int):=Int.emod_nonneg _ (by omega)
  have r1:d2 % (U:Int)<U:=Int.emod_lt_of_pos _ (by omega)
  obtain⟨xs,hx,hlx,wl2⟩:=wl.push (w:=⟨d2 % (U:Int),"stay",(U:Int),"b"⟩) hfn0 e4 hv
  have ok2:=dJ ok (w:=⟨d2 % (U:Int),"stay",(U:Int),"b"⟩) ⟨r0,by show d2 % (U:Int)<m;omega,by show 0<=(U:Int);omega,by show(U:Int)<m;omega,gm,iP⟩
  refine bO hx (dz (by omega)) ?_
  generalize upd H4 f _=H5 at wl2 ⊢
  generalize hus2:us++[_]=us2 at wl2 ok2
  have len2:us2.length=U+1:=by rw[←hus2];simp[len]
  clear hus2 hx hlx hv e4 r0 r1 wl ok len
  walk_at "r"
  refine b6 (by omega) ?_
  refine forR (fun i σ H3=>∃(k:Option V) (us:List Way),σ=[some (.int c),some (.int p),some (.ref dq),some (.int U),some (.int D),some (.int m),some (.ref f),k]/\WL H1 H3 f us/\(∀u∈us,u.Ok3 m)/\us.length=U+1+i)
   ⟨_,us2,rfl,wl2,ok2,len2⟩ ?_ ?_
  ·rintro i σ H3 hi ⟨k,us,rfl,wl,ok,len⟩
   rw[Bu]at hi
   walk_at "r"
   refine⟨wl.ty (Ext.rfl' _),?_⟩
   walk_at "r"
   try refine rd_I (show(0:Int)<(D:Int) by omega) ?_
   walk_at "r"
   refine aE fun v H4 e4 hv _=>?_
   walk_at "r"
   have r0:0<=(0+(i:Int)+1) % (D:Int):=Int.emod_nonneg _ (by omega)
   have r1:(0+(i:Int)+1) % (D:Int)<D:=Int.emod_lt_of_pos _ (by omega)
   obtain⟨xs,hx,hlx,wl'⟩:=wl.push (w:=⟨(U:Int)+(0+(i:Int)),"down",(U:Int)+(0+(i:Int)+1) % (D:Int),"a"⟩) hfn0 e4 hv
   refine bO hx (dz (by omega)) ?_
   walk_at "r"
   exact⟨_,_,rfl,wl',dJ ok ⟨by show 0<=(U:Int)+(0+(i:Int));omega,by show(U:Int)+(0+(i:Int))<m;omega,by show 0<=(U:Int)+(0+(i:Int)+1) % (D:Int);omega,by show(U:Int)+(0+(i:Int)+1) % (D:Int)<m;omega,j9,iX⟩,by simp[len];omega⟩
  clear wl2 ok2 len2
  rintro σ H3 ⟨k,us,rfl,wl,ok,len⟩
  rw[Bu]at len
  walk_at "r"
  refine⟨wl.ty (Ext.rfl' _),?_⟩
  walk_at "r"
  refine aD (ag.of (wl.ext _ _ hd)) g3 ?_
  try refine rd_I (show(0:Int)<(D:Int) by omega) ?_
  walk_at "r"
  refine aE fun v H4 e4 hv _=>?_
  walk_at "r"
  have r0:0<=d3 % (D:Int):=Int.emod_nonneg _ (by omega)
  have r1:d3 % (D:Int)<D:=Int.emod_lt_of_pos _ (by omega)
  obtain⟨xs,hx,hlx,wl2⟩:=wl.push (w:=⟨(U:Int)+d3 % (D:Int),"zero",m-1,"c"⟩) hfn0 e4 hv
  have ok2:=dJ ok (w:=⟨(U:Int)+d3 % (D:Int),"zero",m-1,"c"⟩) ⟨by show 0<=(U:Int)+d3 % (D:Int);omega,by show(U:Int)+d3 % (D:Int)<m;omega,by show 0<=m-1;omega,by show m-1<m;omega,mV,mj⟩
  refine bO hx (dz (by omega)) ?_
  generalize upd H4 f _=H5 at wl2 ⊢
  generalize hus2:us++[_]=us2 at wl2 ok2
  have len2:us2.length=U+D+2:=by rw[←hus2];simp[len];omega
  clear hus2 hx hlx hv e4 r0 r1 wl ok len
  walk_at "r"
  refine⟨wl2.ty (Ext.rfl' _),?_⟩
  walk_at "r"
  refine aE fun t1 H6 e6 ht1 _=>?_
  walk_at "r"
  refine aD (ag.of (e6 _ _ (wl2.ext _ _ hd))) g5 ?_
  obtain⟨x5,hx5,ax5⟩:=iV (a:=V.str "up") (b:=V.str "stay") b50 b51
  refine aD (ag.of ht1) hx5 ?_
  walk_at "r"
  refine aE fun t2 H7 e7 ht2 _=>?_
  walk_at "r"
  refine aD (ag.of (e7 _ _ (e6 _ _ (wl2.ext _ _ hd)))) g6 ?_
  obtain⟨x6,hx6,ax6⟩:=iV (a:=V.int 0) (b:=V.int (m-1)) b60 b61
  refine aD (ag.of ht2) hx6 ?_
  walk_at "r"
  refine aE fun v H8 e8 hv _=>?_
  walk_at "r"
  obtain⟨z,rfl,oz⟩:∃z,x5=.str z/\cF z:=by
   rcases ax5 with rfl | rfl
   ·exact⟨_,rfl,jo⟩
   ·exact⟨_,rfl,gm⟩
  obtain⟨y,rfl,y0,y1⟩:∃y:Int,x6=.int y/\0<=y/\y<m:=by
   rcases ax6 with rfl | rfl
   ·exact⟨_,rfl,by omega,by omega⟩
   ·exact⟨_,rfl,by omega,by omega⟩
  obtain⟨xs,hx,hlx,wl3⟩:=wl2.push (w:=⟨m-1,z,y,"b"⟩) hfn0 (e6.trans (e7.trans e8)) hv
  have ok3:=dJ ok2 (w:=⟨m-1,z,y,"b"⟩) ⟨by show 0<=m-1;omega,by show m-1<m;omega,y0,y1,oz,iP⟩
  refine bO hx (dz (by omega)) ?_
  generalize upd H8 f _=H9 at wl3 ⊢
  generalize hus3:us2++[_]=us3 at wl3 ok3
  have len3:us3.length=U+D+3:=by rw[←hus3];simp[len2]
  walk_at "r"
  obtain⟨ew,cs,hcs,al⟩:=wl3
  refine⟨f,cs,us3,rfl,hcs,al,fun u hu=>(ok3 u hu).lay,by omega,fun r I1 ws e5 hws nd sub ln=>?_⟩
  walk_at "r"
  refine aE fun t I2 e6' ht _=>?_
  exact q _ m ws I2 (eH.trans (ew.trans (e5.trans e6'))) (bD.mk ht (hws.ext e6')) ⟨by omega,by omega,by omega,fun u hu=>ok3 u (sub u hu),nd⟩
theorem aA.rev{H:Hp}{bs:List Addr}{ws:List Way}(h:aA H bs ws):aA H bs.reverse ws.reverse:=by
 refine⟨by rw[List.length_reverse,List.length_reverse];exact h.1,fun j b w e1 e2=>?_⟩
 have hj:j<bs.length:=by
  have:=(Bq.mp e1).1
  simpa using this
 rw[List.getElem?_reverse hj]at e1
 rw[List.getElem?_reverse (by rw[←h.1];exact hj),←h.1]at e2
 exact h.2 _ b w e1 e2
theorem gR{us:List Way}{w:Way}(h:us.Nodup)(hw:w∉us):(us++[w]).Nodup:=by
 rw[List.nodup_append]
 exact⟨h,by simp,fun a ha c hc=>by rw[Bs.mp hc];exact fun z=>hw (z ▸ ha)⟩
theorem ie{P:Way->Prop}{us:List Way}{w:Way}(h:∀u∈us,P u)(hw:P w):∀u∈us++[w],P u:=fun u hu=>by
 rcases BE.mp hu with hu | hu
 ·exact h u hu
 ·rw[Bs.mp hu];exact hw
theorem pR:(Str.ofString "a")≠"b":=by decide +kernel
theorem oo:(Str.ofString "a")≠"c":=by decide +kernel
theorem mK:(Str.ofString "b")≠"c":=by decide +kernel
def rd(K:Be):Sp:=fun vs H Q _=>∃c p,vs=[.int c,.int p]/\0<p/\∀v m ws H',Ext H H'->bD H' v m ws->HOuse3 m ws->Q v H'
abbrev lg:Stmt:=stq 32
theorem sH:FnScope ["_law_cell_here","_law_prime","_law_draws_here","_law_one","_law_two","_law_many","_law_ways","_law_k"] ["_law_cell_here","_law_prime"] (aO lg):=⟨rfl,rfl,rfl,by decide +kernel,rfl,by decide +kernel,by decide +kernel⟩
theorem yz{P:Program}{w:World}{K:Be}{mg:Str->Option Value}{base:Heap}(D:Dfn K mg "_law_ring_house" lg ["_law_cell_here","_law_prime"])(T:Blt mg)(C__law_draws:Cal P w K mg base "_law_draws" 2 ["_law_cell_here","_law_widths","_law_prime"] (fP K)):Cal P w K mg base "_law_ring_house" 3 ["_law_cell_here","_law_prime"] (rd K):=by
 have nd:=(sH).nd
 refine D.ok sH (fun vs H Q E h=>?_) (fun X hX H vs Q E h=>?_)
 ·obtain⟨c,p,rfl,_⟩:=h;rfl
 ·obtain⟨f,cdv,A,outer,s,H0,E0,rfl,hr⟩:=hX
  obtain⟨c,p,rfl,hp,q⟩:=h
  refine⟨_,(@aj _ _ _ _ _ (@aF _ _ 2 _ _ _ _ nd rfl (Or.inl rfl) (aL C__law_draws hr (@aa _ _ _ _ _ (pv 0) (@aa _ _ _ _ _ (@bF _ _ _ _ (ix (.c (.c (.c (.c (.c (.c (.c .n))))))))) (@aa _ _ _ _ _ (pv 1) ae rfl) rfl) rfl)) rfl (Or.inl rfl))
    (@aj _ _ _ _ _ (tT (i:=3) (j:=4) rfl nd rfl rfl (by decide) rfl rfl (@aa _ _ _ _ _ (av aW af (@ai _ _ _ _ _ _ _ (aC K) (pv 2) af (fun _ _=>rfl))) (@aa _ _ _ _ _ (av aW af (@ai _ _ _ _ _ _ _ (aC K) (pv 2) af (fun _ _=>rfl))) ae rfl) rfl) rfl)
    (@aj _ _ _ _ _ (@aF _ _ 5 _ _ _ _ nd rfl (Or.inl rfl) (av aW (av aW (pv 3) (pv 4)) af) rfl (Or.inl rfl))
    (@aj _ _ _ _ _ (@aF _ _ 6 _ _ _ _ nd rfl (Or.inl rfl) (@bF _ _ _ _ (@aa _ _ _ _ _ (@bx _ _ _ _ _ (@aa _ _ _ _ _ af (@aa _ _ _ _ _ aJ (@aa _ _ _ _ _ af (@aa _ _ _ _ _ aJ ae rfl) rfl) rfl) rfl)) (@aa _ _ _ _ _ (@bx _ _ _ _ _ (@aa _ _ _ _ _ af (@aa _ _ _ _ _ (@ai _ _ _ _ _ _ _ (aC K) (@bF _ _ _ _ (@aa _ _ _ _ _ aJ (@aa _ _ _ _ _ aJ ae rfl) rfl)) (@ai _ _ _ _ _ _ _ (aC K) (pv 2) af (fun _ _=>rfl)) (fun _ _=>rfl)) (@aa _ _ _ _ _ (av aW af (pv 3)) (@aa _ _ _ _ _ aJ ae rfl) rfl) rfl) rfl)) ae rfl) rfl)) rfl (Or.inl rfl))
    (@aj _ _ _ _ _ (bP PassesOwn.never rfl (cb rfl T.range_ (@aa _ _ _ _ _ (pv 3) ae rfl)) (aS (i:=7) nd rfl (Or.inl rfl)) (@ax _ _ _ (bA (bK K Bp BC BD bS (pv 6) (@aa _ _ _ _ _ (@bx _ _ _ _ _ (@aa _ _ _ _ _ (av aW af (pv 7)) (@aa _ _ _ _ _ aJ (@aa _ _ _ _ _ (av aW af (av cC (av aW (pv 7) af) (pv 3))) (@aa _ _ _ _ _ aJ ae rfl) rfl) rfl) rfl)) ae rfl)))))
    (@aj _ _ _ _ _ (bP PassesOwn.never rfl (cb rfl T.range_ (@aa _ _ _ _ _ (pv 4) ae rfl)) (aS (i:=7) nd rfl (Or.inl rfl)) (@ax _ _ _ (bA (bK K Bp BC BD bS (pv 6) (@aa _ _ _ _ _ (@bx _ _ _ _ _ (@aa _ _ _ _ _ (av aW (av aW af (pv 3)) (pv 7)) (@aa _ _ _ _ _ (@ai _ _ _ _ _ _ _ (aC K) (@bF _ _ _ _ (@aa _ _ _ _ _ aJ (@aa _ _ _ _ _ aJ ae rfl) rfl)) (@ai _ _ _ _ _ _ _ (aC K) (pv 2) af (fun _ _=>rfl)) (fun _ _=>rfl)) (@aa _ _ _ _ _ (av aW (av aW af (pv 3)) (av cC (av aW (pv 7) af) (pv 4))) (@aa _ _ _ _ _ aJ ae rfl) rfl) rfl) rfl)) ae rfl)))))
    (@aj _ _ _ _ _ (bA (bK K Bp BC BD bS (pv 6) (@aa _ _ _ _ _ (@bx _ _ _ _ _ (@aa _ _ _ _ _ af (@aa _ _ _ _ _ aJ (@aa _ _ _ _ _ (av dN (pv 5) af) (@aa _ _ _ _ _ aJ ae rfl) rfl) rfl) rfl)) ae rfl)))
    (@aj _ _ _ _ _ (bA (bK K Bp BC BD bS (pv 6) (@aa _ _ _ _ _ (@bx _ _ _ _ _ (@aa _ _ _ _ _ (av aW af (pv 3)) (@aa _ _ _ _ _ aJ (@aa _ _ _ _ _ (av dN (pv 5) af) (@aa _ _ _ _ _ aJ ae rfl) rfl) rfl) rfl)) ae rfl)))
    (@aj _ _ _ _ _ (di (bC bY (@ai _ _ _ _ _ _ _ (aC K) (pv 2) af (fun _ _=>rfl)) af (bo _)) (@ax _ _ _ (bA (bK K Bp BC BD bS (pv 6) (@aa _ _ _ _ _ (@bx _ _ _ _ _ (@aa _ _ _ _ _ (av dN (pv 5) af) (@aa _ _ _ _ _ aJ (@aa _ _ _ _ _ (av dN (pv 5) af) (@aa _ _ _ _ _ aJ ae rfl) rfl) rfl) rfl)) ae rfl)))) bJ)
    (@aj _ _ _ _ _ (di (bC bY (@ai _ _ _ _ _ _ _ (aC K) (pv 2) af (fun _ _=>rfl)) af (bo _)) (@ax _ _ _ (bA (bK K Bp BC BD bS (pv 6) (@aa _ _ _ _ _ (@bx _ _ _ _ _ (@aa _ _ _ _ _ (av dN (pv 5) af) (@aa _ _ _ _ _ aJ (@aa _ _ _ _ _ af (@aa _ _ _ _ _ aJ ae rfl) rfl) rfl) rfl)) ae rfl)))) bJ)
    (@aj _ _ _ _ _ (di (bC bY (@ai _ _ _ _ _ _ _ (aC K) (pv 2) af (fun _ _=>rfl)) af (bo _)) (@ax _ _ _ (@aF _ _ 6 _ _ _ _ nd rfl (Or.inl rfl) (xt K (pv 6) (mX (nG mS af))) rfl (Or.inl rfl))) bJ)
    (@ax _ _ _ (@aQ _ _ _ _ (@bx _ _ _ _ _ (@aa _ _ _ _ _ (pv 5) (@aa _ _ _ _ _ (hZ (ph K) rfl T.tuple_ PyProof.Rows.boot_tuple (@aa _ _ _ _ _ (pv 6) ae rfl)) ae rfl) rfl))))))))))))))),?_⟩
  walk_at "r"
  refine aE fun w0 G1 f1 hw0 _=>?_
  walk_at "r"
  refine jU [5,5,2,2,4,4,2] hw0 (by decide) (by decide) (hp) fun dq ds H1 e1 hd hdn hl hb=>?_
  have eH:Ext H H1:=f1.trans e1
  obtain⟨d0,g0,b00,b01⟩:=cB hl hb 0 rfl
  obtain⟨d1,g1,b10,b11⟩:=cB hl hb 1 rfl
  obtain⟨d2,g2,b20,b21⟩:=cB hl hb 2 rfl
  obtain⟨d3,g3,b30,b31⟩:=cB hl hb 3 rfl
  obtain⟨d4,g4,_⟩:=cB hl hb 4 rfl
  obtain⟨d5,g5,_⟩:=cB hl hb 5 rfl
  obtain⟨d6,g6,_⟩:=cB hl hb 6 rfl
  clear hb hl
  walk_at "r"
  refine aD (ag.of hd) g0 ?_
  walk_at "r"
  refine aD (ag.of hd) g1 ?_
  walk_at "r"
  obtain⟨U,hU⟩:∃U:Nat,1+d0=(U:Int):=⟨(1+d0).toNat,by omega⟩
  obtain⟨D,hD⟩:∃D:Nat,1+d1=(D:Int):=⟨(1+d1).toNat,by omega⟩
  rw[hU,hD]
  have u1:1<=U:=by omega
  have u6:U<=5:=by omega
  have v1:1<=D:=by omega
  have v5:D<=5:=by omega
  clear b00 b01 b10 b11 hU hD
  obtain⟨m,hm⟩:∃m:Int,(U:Int)+(D:Int)+2=m:=⟨_,rfl⟩
  rw[hm]
  -- the first two ways
  refine aE fun a1 H2 e2 ha1 _=>?_
  walk_at "r"
  refine aE fun t1 H3 e3 ht1 _=>?_
  walk_at "r"
  refine aD (ag.of (e3 _ _ (e2 _ _ hd))) g2 ?_
  obtain⟨x2,hx2,ax2⟩:=iV (a:=V.str "stay") (b:=V.str "zero") b20 b21
  refine aD (ag.of ht1) hx2 ?_
  walk_at "r"
  obtain⟨z2,rfl,oz2⟩:∃z,x2=.str z/\cF z:=by
   rcases ax2 with rfl | rfl
   ·exact⟨_,rfl,gm⟩
   ·exact⟨_,rfl,mV⟩
  refine aE fun a2 H4 e4 ha2 _=>?_
  walk_at "r"
  refine aE fun f H5 e5 hf hfn=>?_
  have e15:Ext H1 H5:=e2.trans (e3.trans (e4.trans e5))
  have hfn0:H1 f=none:=(e2.trans (e3.trans e4)).none hfn
  obtain⟨y1,hy1⟩:∃y:Way,y=⟨0,"stay",1,"a"⟩:=⟨_,rfl⟩
  obtain⟨y2,hy2⟩:∃y:Way,y=⟨0,z2,1+(U:Int),"b"⟩:=⟨_,rfl⟩
  have wl0:WL H1 H5 f [y1,y2]:=by
   refine⟨e15,[a1,a2],hf,?_⟩
   have k1:H5 a1=some (.tup y1.vs):=by rw[hy1];exact e5 _ _ (e4 _ _ (e3 _ _ ha1))
   have k2:H5 a2=some (.tup y2.vs):=by rw[hy2];exact e5 _ _ ha2
   exact((aA.nil H5).snoc k1).snoc k2
  have ok0:∀u∈[y1,y2],u.Ok3 m:=by
   intro u hu
   rcases Bw.mp hu with rfl | hu
   ·subst hy1;exact⟨Int.le_refl _,by show(0:Int)<m;omega,by show(0:Int)<=1;decide,by show(1:Int)<m;omega,gm,iX⟩
   ·rw[Bs.mp hu];subst hy2;exact⟨Int.le_refl _,by show(0:Int)<m;omega,by show(0:Int)<=1+(U:Int);omega,by show 1+(U:Int)<m;omega,oz2,iP⟩
  have nd0:[y1,y2].Nodup:=by
   subst hy1 hy2
   refine List.nodup_cons.mpr ⟨fun z=>?_,by simp⟩
   have:=congrArg Way.sign (Bs.mp z)
   exact pR this
  have pr0:∀u∈[y1,y2],u.room<=((0:Nat):Int)/\u.sign≠"c":=by
   intro u hu
   rcases Bw.mp hu with rfl | hu
   ·subst hy1;exact⟨Int.le_refl _,oo⟩
   ·rw[Bs.mp hu];subst hy2;exact⟨Int.le_refl _,mK⟩
  have ln0:[y1,y2].length=2:=rfl
  generalize [y1,y2]=us0 at wl0 ok0 nd0 pr0 ln0
  clear hy1 hy2 ha1 ha2 ht1 hf e2 e3 e4 e5
  walk_at "r"
  refine b6 (by omega) ?_
  refine forR (fun i σ H3=>∃(k:Option V) (us:List Way),σ=[some (.int c),some (.int p),some (.ref dq),some (.int U),some (.int D),some (.int m),some (.ref f),k]/\WL H1 H3 f us/\(∀u∈us,u.Ok3 m)/\us.Nodup/\(∀u∈us,u.room<=(i:Int)/\u.sign≠"c")/\us.length=2+i)
   ⟨none,us0,rfl,wl0,ok0,nd0,pr0,ln0⟩ ?_ ?_
  ·rintro i σ H3 hi ⟨k,us,rfl,wl,ok,nd',pr,len⟩
   rw[Bu]at hi
   walk_at "r"
   refine⟨wl.ty (Ext.rfl' _),?_⟩
   walk_at "r"
   try refine rd_I (show(0:Int)<(U:Int) by omega) ?_
   walk_at "r"
   refine aE fun v H4 e4 hv _=>?_
   walk_at "r"
   have r0:0<=(0+(i:Int)+1) % (U:Int):=Int.emod_nonneg _ (by omega)
   have r1:(0+(i:Int)+1) % (U:Int)<U:=Int.emod_lt_of_pos _ (by omega)
   obtain⟨xs,hx,hlx,wl'⟩:=wl.push (w:=⟨1+(0+(i:Int)),"up",1+(0+(i:Int)+1) % (U:Int),"a"⟩) hfn0 e4 hv
   refine bO hx (dz (by omega)) ?_
   walk_at "r"
   refine⟨_,_,rfl,wl',dJ ok ⟨by show 0<=1+(0+(i:Int));omega,by show 1+(0+(i:Int))<m;omega,by show 0<=1+(0+(i:Int)+1) % (U:Int);omega,by show 1+(0+(i:Int)+1) % (U:Int)<m;omega,jo,iX⟩,gR nd' fun z=>?_,ie (fun u hu=>⟨by have:=(pr u hu).1;omega,(pr u hu).2⟩) ⟨by show 1+(0+(i:Int))<=_;omega,oo⟩,by simp[len];omega⟩
   have:=(pr _ z).1
   have:1+(0+(i:Int))<=(i:Int):=this
   omega
  clear wl0 ok0 nd0 pr0 ln0
  rintro σ H3 ⟨k,us,rfl,wl,ok,nd',pr,len⟩
  rw[Bu]at pr len
  walk_at "r"
  refine b6 (by omega) ?_
  refine forR (fun i σ H3=>∃(k:Option V) (us:List Way),σ=[some (.int c),some (.int p),some (.ref dq),some (.int U),some (.int D),some (.int m),some (.ref f),k]/\WL H1 H3 f us/\(∀u∈us,u.Ok3 m)/\us.Nodup/\(∀u∈us,u.room<=(U:Int)+(i:Int)/\u.sign≠"c"/\(u.room=1+(U:Int)->u.sign = "b"))/\us.length=2+U+i)
   ⟨_,us,rfl,wl,ok,nd',fun u hu=>⟨by have:=(pr u hu).1;omega,(pr u hu).2,fun z=>by have:=(pr u hu).1;omega⟩,len⟩ ?_ ?_
  ·clear wl ok nd' pr len
   rintro i σ H3 hi ⟨k,us,rfl,wl,ok,nd',pr,len⟩
   rw[Bu]at hi
   walk_at "r"
   refine⟨wl.ty (Ext.rfl' _),?_⟩
   walk_at "r"
   refine aE fun t1 H6 e6 ht1 _=>?_
   walk_at "r"
   refine aD (ag.of (e6 _ _ (wl.ext _ _ hd))) g3 ?_
   obtain⟨x3,hx3,ax3⟩:=iV (a:=V.str "up") (b:=V.str "down") b30 b31
   refine aD (ag.of ht1) hx3 ?_
   walk_at "r"
   obtain⟨z3,rfl,oz3⟩:∃z,x3=.str z/\cF z:=by
    rcases ax3 with rfl | rfl
    ·exact⟨_,rfl,jo⟩
    ·exact⟨_,rfl,j9⟩
   try refine rd_I (show(0:Int)<(D:Int) by omega) ?_
   walk_at "r"
   refine aE fun v H4 e4 hv _=>?_
   walk_at "r"
   have r0:0<=(0+(i:Int)+1) % (D:Int):=Int.emod_nonneg _ (by omega)
   have r1:(0+(i:Int)+1) % (D:Int)<D:=Int.emod_lt_of_pos _ (by omega)
   obtain⟨xs,hx,hlx,wl'⟩:=wl.push (w:=⟨1+(U:Int)+(0+(i:Int)),z3,1+(U:Int)+(0+(i:Int)+1) % (D:Int),"b"⟩) hfn0 (e6.trans e4) hv
   refine bO hx (dz (by omega)) ?_
   walk_at "r"
   refine⟨_,_,rfl,wl',dJ ok ⟨by show 0<=1+(U:Int)+(0+(i:Int));omega,by show 1+(U:Int)+(0+(i:Int))<m;omega,by show 0<=1+(U:Int)+(0+(i:Int)+1) % (D:Int);omega,by show 1+(U:Int)+(0+(i:Int)+1) % (D:Int)<m;omega,oz3,iP⟩,gR nd' fun z=>?_,ie (fun u hu=>⟨by have:=(pr u hu).1;omega,(pr u hu).2⟩) ⟨by show 1+(U:Int)+(0+(i:Int))<=_;omega,mK,fun _=>rfl⟩,by simp[len];omega⟩
   have:=(pr _ z).1
   have:1+(U:Int)+(0+(i:Int))<=(U:Int)+(i:Int):=this
   omega
  clear wl ok nd' pr len
  rintro σ H3 ⟨k,us,rfl,wl,ok,nd',pr,len⟩
  rw[Bu]at pr len
  walk_at "r"
  -- (1,stay,m-1,c)
  refine⟨wl.ty (Ext.rfl' _),?_⟩
  walk_at "r"
  refine aE fun v H4 e4 hv _=>?_
  walk_at "r"
  obtain⟨xs,hx,hlx,wl2⟩:=wl.push (w:=⟨1,"stay",m-1,"c"⟩) hfn0 e4 hv
  have ok2:=dJ ok (w:=⟨1,"stay",m-1,"c"⟩) ⟨by show(0:Int)<=1;decide,by show(1:Int)<m;omega,by show 0<=m-1;omega,by show m-1<m;omega,gm,mj⟩
  have nd2:=gR nd' (w:=⟨1,"stay",m-1,"c"⟩) fun z=>(pr _ z).2.1 rfl
  have pr2:=ie (P:=fun u=>u.room<=(U:Int)+(D:Int)/\(u.room=1+(U:Int)->u.sign = "b")) (fun u hu=>⟨(pr u hu).1,(pr u hu).2.2⟩) (w:=⟨1,"stay",m-1,"c"⟩) ⟨by show(1:Int)<=_;omega,fun z=>by have:(1:Int)=1+(U:Int):=z;omega⟩
  refine bO hx (dz (by omega)) ?_
  generalize upd H4 f _=H5 at wl2 ⊢
  generalize hus2:us++[_]=us2 at wl2 ok2 nd2 pr2
  have len2:us2.length=3+U+D:=by rw[←hus2];simp[len];omega
  clear hus2 hx hlx hv e4 wl ok nd' pr len
  walk_at "r"
  -- (1+U,stay,m-1,a)
  refine⟨wl2.ty (Ext.rfl' _),?_⟩
  walk_at "r"
  refine aE fun v H4 e4 hv _=>?_
  walk_at "r"
  obtain⟨xs,hx,hlx,wl3⟩:=wl2.push (w:=⟨1+(U:Int),"stay",m-1,"a"⟩) hfn0 e4 hv
  have ok3:=dJ ok2 (w:=⟨1+(U:Int),"stay",m-1,"a"⟩) ⟨by show(0:Int)<=1+(U:Int);omega,by show 1+(U:Int)<m;omega,by show 0<=m-1;omega,by show m-1<m;omega,gm,iX⟩
  have nd3:=gR nd2 (w:=⟨1+(U:Int),"stay",m-1,"a"⟩) fun z=>pR ((pr2 _ z).2 rfl)
  have pr3:=ie (P:=fun u=>u.room<=(U:Int)+(D:Int)) (fun u hu=>(pr2 u hu).1) (w:=⟨1+(U:Int),"stay",m-1,"a"⟩) (by show 1+(U:Int)<=_;omega)
  refine bO hx (dz (by omega)) ?_
  generalize upd H4 f _=H6 at wl3 ⊢
  generalize hus3:us2++[_]=us3 at wl3 ok3 nd3 pr3
  have len3:us3.length=4+U+D:=by rw[←hus3];simp[len2];omega
  clear hus3 hx hlx hv e4 wl2 ok2 nd2 pr2 len2
  walk_at "r"
  -- the two that may be left out
  refine fQ (fun σ' H'=>∃(k:Option V) (us:List Way),σ'=[some (.int c),some (.int p),some (.ref dq),some (.int U),some (.int D),some (.int m),some (.ref f),k]/\WL H1 H' f us/\(∀u∈us,u.Ok3 m)/\us.Nodup/\(∀u∈us,u.room<=(U:Int)+(D:Int)\/u.sign = "c")/\us.length<=5+U+D) ?_ ?_
  ·walk_at "r"
   refine aD (ag.of (wl3.ext _ _ hd)) g4 ?_
   walk_at "r"
   refine eu (fun h=>?_) (fun h=>?_)
   ·walk_at "r"
    refine⟨wl3.ty (Ext.rfl' _),?_⟩
    walk_at "r"
    refine aE fun v H4 e4 hv _=>?_
    walk_at "r"
    obtain⟨xs,hx,hlx,wl4⟩:=wl3.push (w:=⟨m-1,"down",m-1,"c"⟩) hfn0 e4 hv
    refine bO hx (dz (by omega)) ?_
    walk_at "r"
    exact⟨_,_,rfl,wl4,dJ ok3 ⟨by show 0<=m-1;omega,by show m-1<m;omega,by show 0<=m-1;omega,by show m-1<m;omega,j9,mj⟩,gR nd3 fun z=>by have:m-1<=(U:Int)+(D:Int):=pr3 _ z;omega,ie (fun u hu=>.inl (pr3 u hu)) (.inr rfl),by simp[len3];omega⟩
   ·walk_at "r"
    exact⟨_,us3,rfl,wl3,ok3,nd3,fun u hu=>.inl (pr3 u hu),by omega⟩
  clear wl3 ok3 nd3 pr3 len3
  rintro σ' H7 ⟨k,us,rfl,wl,ok,nd',pr,len⟩
  walk_at "r"
  refine fQ (fun σ' H'=>∃(k:Option V) (us:List Way),σ'=[some (.int c),some (.int p),some (.ref dq),some (.int U),some (.int D),some (.int m),some (.ref f),k]/\WL H1 H' f us/\(∀u∈us,u.Ok3 m)/\us.Nodup/\us.length<=6+U+D) ?_ ?_
  ·walk_at "r"
   refine aD (ag.of (wl.ext _ _ hd)) g5 ?_
   walk_at "r"
   refine eu (fun h=>?_) (fun h=>?_)
   ·walk_at "r"
    refine⟨wl.ty (Ext.rfl' _),?_⟩
    walk_at "r"
    refine aE fun v H4 e4 hv _=>?_
    walk_at "r"
    obtain⟨xs,hx,hlx,wl4⟩:=wl.push (w:=⟨m-1,"zero",0,"b"⟩) hfn0 e4 hv
    refine bO hx (dz (by omega)) ?_
    walk_at "r"
    exact⟨_,_,rfl,wl4,dJ ok ⟨by show 0<=m-1;omega,by show m-1<m;omega,by show(0:Int)<=0;decide,by show(0:Int)<m;omega,mV,iP⟩,gR nd' (fun z=>(pr _ z).elim (fun y=>by have:m-1<=(U:Int)+(D:Int):=y;omega) fun y=>mK y),by simp;omega⟩
   ·walk_at "r"
    exact⟨_,us,rfl,wl,ok,nd',by omega⟩
  clear wl ok nd' pr len
  rintro σ' H8 ⟨k,us,rfl,wl,ok,nd',len⟩
  walk_at "r"
  -- backward or not
  refine fQ (fun σ' H'=>∃(k:Option V) (f:Addr) (cs:List Addr) (us:List Way),σ'=[some (.int c),some (.int p),some (.ref dq),some (.int U),some (.int D),some (.int m),some (.ref f),k]/\Ext H1 H'/\H' f=some (.lst (cs.map V.ref))/\aA H' cs us/\(∀u∈us,u.Ok3 m)/\us.Nodup/\us.length<=6+U+D) ?_ ?_
  ·walk_at "r"
   refine aD (ag.of (wl.ext _ _ hd)) g6 ?_
   walk_at "r"
   obtain⟨ew,cs,hcs,al⟩:=wl
   refine eu (fun h=>?_) (fun h=>?_)
   ·walk_at "r"
    refine⟨rfl,wA (ag.of hcs) (eO fun r H9 e9 hr9 _=>?_)⟩
    walk_at "r"
    exact⟨_,r,cs.reverse,us.reverse,rfl,ew.trans e9,by rw[hr9,List.map_reverse],(al.ext e9).rev,fun u hu=>ok u (List.mem_reverse.mp hu),List.pairwise_reverse.mpr (nd'.imp fun h=>Ne.symm h),by rw[List.length_reverse];omega⟩
   ·walk_at "r"
    exact⟨_,f,cs,us,rfl,ew,hcs,al,ok,nd',by omega⟩
  clear wl ok nd' len
  rintro σ' H9 ⟨k,g,cs,us,rfl,ew,hcs,al,ok,nd',len⟩
  walk_at "r"
  refine oY (ag.of hcs) (eO fun r I1 i1 hr1 _=>?_)
  walk_at "r"
  refine aE fun t I2 i2 ht _=>?_
  exact q _ m us I2 (eH.trans (ew.trans (i1.trans i2))) (bD.mk ht (((al.ext i1).ways hr1).ext i2)) ⟨by omega,by omega,by omega,ok,nd'⟩
def pN(K:Be):Sp:=fun vs H Q _=>∃c p,vs=[.int c,.int p]/\0<p/\∀v m ws H',Ext H H'->bD H' v m ws->HOuse3 m ws->Q v H'
abbrev nv:Stmt:=stq 36
theorem tK:FnScope ["_law_cell_here","_law_prime","_law_kind","_law_left"] ["_law_cell_here","_law_prime"] (aO nv):=⟨rfl,rfl,rfl,by decide +kernel,rfl,by decide +kernel,by decide +kernel⟩
theorem AO{P:Program}{w:World}{K:Be}{mg:Str->Option Value}{base:Heap}(D:Dfn K mg "_law_house" nv ["_law_cell_here","_law_prime"])(T:Blt mg)(C__law_drawn_house:Cal P w K mg base "_law_drawn_house" 3 ["_law_cell_here","_law_prime"] (uG K))(C__law_gate_house:Cal P w K mg base "_law_gate_house" 3 ["_law_cell_here","_law_prime"] (uO K))(C__law_ring_house:Cal P w K mg base "_law_ring_house" 3 ["_law_cell_here","_law_prime"] (rd K))(C__law_spare:Cal P w K mg base "_law_spare" 1 ["_law_cell_here","_law_width"] (rg K))(C__law_draws:Cal P w K mg base "_law_draws" 2 ["_law_cell_here","_law_widths","_law_prime"] (fP K)):Cal P w K mg base "_law_house" 4 ["_law_cell_here","_law_prime"] (pN K):=by
 have nd:=(tK).nd
 refine D.ok tK (fun vs H Q E h=>?_) (fun X hX H vs Q E h=>?_)
 ·obtain⟨c,p,rfl,_⟩:=h;rfl
 ·obtain⟨f,cdv,A,outer,s,H0,E0,rfl,hr⟩:=hX
  obtain⟨c,p,rfl,hp,q⟩:=h
  refine⟨_,(aj (aF (i:=2) nd rfl (Or.inl rfl) (ai (aC K) (aL C__law_draws hr (aa (pv 0) (aa (bF (aa af ae)) (aa (pv 1) ae)))) af (fun _ _=>rfl)))
    (aj (aF (i:=3) nd rfl (Or.inl rfl) (aL C__law_spare hr (aa (pv 0) (aa af ae))))
    (aj (cL (bC bY (pv 2) af (bo _)) (ax (aQ (aL C__law_ring_house hr (aa (pv 3) (aa (pv 1) ae))))) bJ)
    (aj (cL (bC bY (pv 2) af (bo _)) (ax (aQ (aL C__law_gate_house hr (aa (pv 3) (aa (pv 1) ae))))) bJ)
    (ax (aQ (aL C__law_drawn_house hr (aa (pv 3) (aa (pv 1) ae))))))))),?_⟩
  walk_at "r"
  refine aE fun w0 G1 f1 hw0 _=>?_
  walk_at "r"
  refine jU [8] hw0 (by decide) (by decide) (hp) fun dq ds H1 e1 hd hdn hl hb=>?_
  have eH:Ext H H1:=f1.trans e1
  obtain⟨d0,g0,_⟩:=cB hl hb 0 rfl
  walk_at "r"
  refine aD (ag.of hd) g0 ?_
  walk_at "r"
  refine⟨c,8,rfl,by decide,by decide,fun z=>?_⟩
  walk_at "r"
  refine eu (fun h=>?_) (fun h=>?_)
  ·walk_at "r"
   exact⟨z,p,rfl,hp,fun v m ws H' e hv ok=>q v m ws H' (eH.trans e) hv ok⟩
  ·walk_at "r"
   refine eu (fun h=>?_) (fun h=>?_)
   ·walk_at "r"
    exact⟨z,p,rfl,hp,fun v m ws H' e hv ok=>q v m ws H' (eH.trans e) hv ok⟩
   ·walk_at "r"
    exact⟨z,p,rfl,hp,fun v m ws H' e hv ok=>q v m ws H' (eH.trans e) hv ok⟩
theorem il{a b:Str}:decide (V.str a=V.str b)=decide (a=b):=by
 by_cases h:a=b
 ·subst h;simp
 ·rw[decide_eq_false h,decide_eq_false (fun z=>h (V.str.inj z))]
theorem lD{a b:Str}{H:Hp}{Q:VK}(h:Q (.bl (decide (a=b))) H):mP (.str a) (.str b) H Q:=⟨rfl,by rw[il];exact h⟩
theorem wH{a b:Str}{H:Hp}{Q:VK}(h:Q (.bl (!decide (a=b))) H):lW (.str a) (.str b) H Q:=⟨rfl,by rw[il];exact h⟩
theorem zH{α β:Type}{F:α->β->Prop}{cs:List α}{ts:List β}(h:Paired F cs ts):∀{i:Nat} {c:α},cs[i]?=some c->∃t,ts[i]?=some t/\F c t:=by
 induction h with
 | nil=>intro i c e;simp at e
 | cons h t ih=>
  intro i c e
  cases i with
  | zero=>cases e;exact⟨_,rfl,h⟩
  | succ i=>exact ih e
abbrev aH(H:Hp)(a:Addr)(x:Bfs.Pl):Prop:=H a=some (.tup [.int x.1,.int x.2])
abbrev bf(x:Bfs.Pl):List Key:=[.inl x.1,.inl x.2]
theorem mT{x y:Bfs.Pl}(h:bf x=bf y):x=y:=by
 simp only[bf,List.cons.injEq,Sum.inl.injEq,and_true]at h
 exact Prod.ext h.1 h.2
theorem aH.put{H:Hp}{f a:Addr}{x:Bfs.Pl}{o o':HO}(hf:H f=some o)(hn:∀xs,o≠.tup xs)(h:aH H a x):aH (upd H f o') a x:=by
 show upd H f o' a=_
 rw[ay (cJ h hf (fun z=>hn _ z.symm))]
 exact h
def ft(w:Way)(r n:Int):Bool:=decide (w.room=r) && (if decide (w.deed = "down")=true then decide (0<n)else(!decide (w.deed = "zero") || decide (n=0)))
def rz(z:Str):Int:=if z = "up" then 1 else if z = "down" then -1 else 0
theorem vP(z:Str):-1<=rz z:=by
 unfold rz
 split
 ·decide
 ·split<;>decide
theorem v8(z:Str):rz z<=1:=by
 unfold rz
 split
 ·decide
 ·split<;>decide
theorem nW:rz "up" = 1:=by decide +kernel
theorem me:rz "down" = -1:=by decide +kernel
theorem mN:rz "stay" = 0:=by decide +kernel
theorem AX:rz "zero" = 0:=by decide +kernel
section
variable {β:Type} {F:List Key×V->β->Prop} {key:β->Bfs.Pl} {kvs:List (List Key×V)} {q:List β}
theorem tN(hF:∀kv e,F kv e->kv.1=bf (key e))(h:Paired F kvs q){x:Bfs.Pl}(hx:x∉q.map key):aX kvs (bf x)=none:=by
 induction h with
 | nil=>rfl
 | @cons a b as bs h t ih=>
  rw[List.map_cons,Bw,not_or]at hx
  rw[cR (fun z=>hx.1 (mT (z.symm.trans (hF _ _ h))))]
  exact ih hx.2
theorem xw(hF:∀kv e,F kv e->kv.1=bf (key e))(h:Paired F kvs q)(nd:(q.map key).Nodup){e:β}(he:e∈q):∃v,aX kvs (bf (key e))=some v/\F (bf (key e),v) e:=by
 induction h with
 | nil=>cases he
 | @cons a b as bs h t ih=>
  rw[List.map_cons,List.nodup_cons]at nd
  rcases Bw.mp he with z | z
  ·subst z
   have e1:=hF _ _ h
   refine⟨a.2,de e1,?_⟩
   rw[←e1]
   exact h
  ·obtain⟨v,h1,h2⟩:=ih nd.2 z
   refine⟨v,?_,h2⟩
   rw[cR (fun w=>nd.1 ?_)]
   ·exact h1
   ·rw[mT ((hF _ _ h).symm.trans w)]
    exact List.mem_map.mpr ⟨e,z,rfl⟩
end
def fI(m T:Int)(x:Bfs.Pl):Prop:=0<=x.1/\x.1<m/\0<=x.2/\x.2<=T
theorem fI.few{m T:Int}{l:List Bfs.Pl}(hm:m<=12)(hT:T<=2000)(hn:l.Nodup)(h:∀x∈l,fI m T x):l.length<=24012:=
 Bfs.A4 hT hn fun x hx=>by
  obtain⟨a,b,c,d⟩:=h x hx
  exact⟨a,by omega,c,d⟩
theorem gq{n:Nat}(h:n<=24100):n<sizeLine:=Nat.lt_of_le_of_lt h (by decide)
def bz(n:Nat)(f:Nat->Bool):List V:=(List.range n).map fun i=>V.bl (f i)
theorem fM(n:Nat)(f:Nat->Bool):(bz n f).length=n:=by simp[bz]
theorem mO{n i:Nat}(f:Nat->Bool)(h:i<n):(bz n f)[i]?=some (.bl (f i)):=by
 unfold bz
 rw[Bk,List.getElem?_range h]
 rfl
theorem fG{n:Nat}{f g:Nat->Bool}(h:∀i,i<n->f i=g i):bz n f=bz n g:=by
 unfold bz
 apply List.map_congr_left
 intro i hi
 rw[h i (List.mem_range.mp hi)]
theorem mh(n:Nat)(f:Nat->Bool):bz (n+1) f=bz n f++[V.bl (f n)]:=by
 unfold bz
 rw[List.range_succ,By]
 rfl
theorem wu{n k:Nat}(f:Nat->Bool)(c:Bool)(hk:k<n):(bz n f).set k (.bl c)=bz n fun i=>if i=k then c else f i:=by
 apply List.ext_getElem?
 intro i
 rcases Nat.lt_or_ge i n with hi | hi
 ·rw[List.getElem?_set,fM,mO _ hi,mO _ hi]
  by_cases h:k=i
  ·subst h
   simp[hi]
  ·rw[if_neg h,if_neg (Ne.symm h)]
 ·rw[List.getElem?_eq_none (by rw[List.length_set,fM];exact hi),List.getElem?_eq_none (by rw[fM];exact hi)]
theorem fi{n:Nat}{f:Nat->Bool}{i:Int}(h0:0<=i)(h:i<n):br (bz n f) i=some (.bl (f i.toNat)):=fm h0 (mO f (by omega))
def Rows(H:Hp)(q:Addr)(rs:List Addr)(n:Nat)(M:Nat->Nat->Bool):Prop:=H q=some (.lst (rs.map V.ref))/\∀(i:Nat) (r:Addr),rs[i]?=some r->H r=some (.lst (bz n (M i)))
theorem Rows.ext{H H':Hp}(e:Ext H H'){q:Addr}{rs:List Addr}{n:Nat}{M:Nat->Nat->Bool}(h:Rows H q rs n M):Rows H' q rs n M:=⟨e _ _ h.1,fun i r hi=>e _ _ (h.2 i r hi)⟩
def iE(K:Be):Sp:=fun vs H Q _=>∃vh m ws d,vs=[vh,.str d]/\bD H vh m ws/\HOuse m ws/\∀l cs us H',Ext H H'->H l=none->H' l=some (.lst (List.map V.ref cs))->aA H' cs us->us=ws.filter (fun w=>decide (w.deed=d))->Q (.ref l) H'
abbrev nJ:Stmt:=stq 17
theorem rq:FnScope ["house","deed"] ["house","deed"] (aO nJ):=⟨rfl,rfl,rfl,by decide +kernel,rfl,by decide +kernel,by decide +kernel⟩
theorem wm{P:Program}{w:World}{K:Be}{mg:Str->Option Value}{base:Heap}(D:Dfn K mg "ways_of_deed" nJ ["house","deed"])(T:Blt mg):Cal P w K mg base "ways_of_deed" 1 ["house","deed"] (iE K):=by
 have nd:=(rq).nd
 refine D.ok rq (fun vs H Q E h=>?_) (fun X hX H vs Q E h=>?_)
 ·obtain⟨vh,m,ws,d,rfl,_⟩:=h;rfl
 ·obtain⟨f,cdv,A,outer,s,H0,E0,rfl,hr⟩:=hX
  obtain⟨vh,m,ws,d,rfl,hv,ok,q⟩:=h
  have few:=ok.few
  obtain⟨hp0,hq0,rfl,hh,hw⟩:=id hv
  obtain⟨bs,hq,hal⟩:=cj.al hw
  have hbl:=hal.1
  refine⟨_,(@ax _ _ _ (@aQ _ _ _ _ (cM ["way"] [1] (iH K (@ai _ _ _ _ _ _ _ (aN K) (pv 0) af (fun _ _=>rfl))) (fun _=>(aS (i:=0) (show(["way","deed"]:List Str).Nodup from by decide +kernel) rfl (Or.inl rfl) (Or.inr rfl))) (fun _=>(gg (bC bY (@ai _ _ _ _ _ _ _ (aN K) (pv 0) af (fun _ _=>rfl)) (pv 1) (bo _)))) (fun _=>(pv 0))))),?_⟩
  walk_at "r"
  refine aM (ao.of hh) (v:=.ref hq0) rfl ?_
  walk_at "r"
  refine iw (ao.of hq) ?_
  refine jf (xs:=bs.map V.ref) (fun i ys H'=>H'=H/\∃cs us,ys=List.map V.ref cs/\aA H cs us/\us=(ws.take i).filter fun w=>decide (w.deed=d)) (bW (by rw[Bi];omega)) ⟨rfl,[],[],rfl,aA.nil _,rfl⟩ ?_ ?_ ?_
  ·rintro i ys H' _ ⟨rfl,cs,us,rfl,hau,rfl⟩
   refine⟨ao.of hq,?_⟩
   rw[Bi,hau.1]
   exact BL (List.length_filter_le _ _) (by rw[List.length_take];omega)
  ·rintro i v ys H' hx ⟨rfl,cs,us,rfl,hau,hus⟩
   rw[Bk]at hx
   obtain⟨b,hb,rfl⟩:=Bt.mp hx
   have hiw:i<ws.length:=by
    have:=(Bq.mp hb).1
    omega
   have hwi:ws[i]?=some ws[i]:=Bj hiw
   have hbw:=hal.2 i b _ hb hwi
   generalize ws[i]=w0 at hwi hbw
   walk_at "r"
   refine aM (ao.of hbw) (v:=.str w0.deed) rfl ?_
   walk_at "r"
   refine lD (rd_exb ?_)
   cases hc:decide (w0.deed=d)with
   | true=>
    refine aK ?_
    walk_at "r"
    refine⟨rfl,cs++[b],us++[w0],?_,hau.snoc hbw,?_⟩
    ·rw[By];rfl
    ·rw[hus,List.take_add_one,hwi,List.filter_append]
     congr 1
     show[w0]=List.filter _ [w0]
     rw[List.filter_cons,if_pos hc]
     rfl
   | false=>
    refine aP ⟨rfl,cs,us,rfl,hau,?_⟩
    rw[hus,List.take_add_one,hwi,List.filter_append]
    have:List.filter (fun w:Way=>decide (w.deed=d)) [w0]=[]:=by
     rw[List.filter_cons,if_neg (by rw[hc];exact Bx)]
     rfl
    show _=_++List.filter _ [w0]
    rw[this,List.append_nil]
  ·rintro ys H' pc ⟨hH,cs,us,rfl,hau,hus⟩ hpc
   subst hH
   rw[Bi,hbl,BJ]at hus
   have e:=bI (o:=.lst (List.map V.ref cs)) hpc
   exact q pc cs us _ e hpc aG (hau.ext e) hus
theorem rS{x:Addr}:∀{l:List Addr} {i:Nat},l.Nodup->x∉l->(l.set i x).Nodup
 | [],_,_,_=>List.nodup_nil
 | a::l,0,h,hx=>by
  rw[List.nodup_cons]at h
  exact List.nodup_cons.mpr ⟨fun z=>hx (Bl _ z),h.2⟩
 | a::l,i+1,h,hx=>by
  rw[List.nodup_cons]at h
  refine List.nodup_cons.mpr ⟨fun z=>?_,rS h.2 fun z=>hx (Bl _ z)⟩
  rcases List.mem_or_eq_of_mem_set z with z | z
  ·exact h.1 z
  ·exact hx (by rw[z];exact Bo)
structure TB(H H':Hp)(q:Addr)(rs rs':List Addr)(n:Nat)(M:Nat->Nat->Bool):Prop where
 keep:∀b o,b≠q->H b=some o->H' b=some o
 len:rs'.length=n
 nd:rs'.Nodup
 nq:q∉rs'
 old:∀r∈rs',r∈rs\/H r=none
 rows:Rows H' q rs' n M
theorem TB.congr{H H':Hp}{q:Addr}{rs rs':List Addr}{n:Nat}{M M':Nat->Nat->Bool}(h:TB H H' q rs rs' n M)(e:∀i j,i<n->j<n->M i j=M' i j):TB H H' q rs rs' n M':=
 ⟨h.keep,h.len,h.nd,h.nq,h.old,h.rows.1,fun i r hi=>by
  rw[h.rows.2 i r hi]
  have hl:i<n:=by rw[←h.len];exact(Bq.mp hi).1
  congr 2
  exact fG fun j hj=>e i j hl hj⟩
theorem TB.set{H H1:Hp}{q p9:Addr}{rs rs1:List Addr}{n i:Nat}{M:Nat->Nat->Bool}{f:Nat->Bool}(h:TB H H1 q rs rs1 n M)(hi:i<n)(hp:H1 p9=none):TB H (upd (upd H1 p9 (.lst (bz n f))) q (.lst ((rs1.map V.ref).set i (.ref p9)))) q rs (rs1.set i p9) n (fun a b=>if a=i then f b else M a b):=by
 have hq:H1 q=some (.lst (rs1.map V.ref)):=h.rows.1
 have nqp:q≠p9:=fun z=>by rw[z,hp]at hq;cases hq
 have nin:p9∉rs1:=fun z=>by
  obtain⟨j,hj⟩:=List.getElem?_of_mem z
  rw[h.rows.2 j p9 hj]at hp
  cases hp
 refine⟨fun b o nb e=>?_,by rw[List.length_set];exact h.len,rS h.nd nin,fun z=>?_,fun r hr=>?_,?_,fun a r ha=>?_⟩
 ·have e1:=h.keep b o nb e
  rw[ay nb,ay (cx e1 hp)]
  exact e1
 ·rcases List.mem_or_eq_of_mem_set z with z | z
  ·exact h.nq z
  ·exact nqp z
 ·rcases List.mem_or_eq_of_mem_set hr with hr | rfl
  ·exact h.old r hr
  ·right
   cases e:H r with
   | none=>rfl
   | some o=>rw[h.keep r o (Ne.symm nqp) e]at hp;cases hp
 ·rw[aG,List.map_set]
 ·rw[List.getElem?_set]at ha
  by_cases hai:i=a
  ·subst hai
   rw[if_pos rfl,if_pos (by rw[h.len];exact hi)]at ha
   cases ha
   rw[ay (Ne.symm nqp),aG]
   congr 2
   exact fG fun j _=>by dsimp only;rw[if_pos rfl]
  ·rw[if_neg hai]at ha
   have e:=h.rows.2 a r ha
   have nrq:r≠q:=fun z=>h.nq (z ▸ Br ha)
   rw[ay nrq,ay (cx e hp),e]
   congr 2
   exact fG fun j _=>by dsimp only;rw[if_neg (Ne.symm hai)]
def jn(M:Nat->Nat->Bool)(k:Nat):Nat->Nat->Bool:=fun i j=>M i j || (M i k && M k j)
def bt(M:Nat->Nat->Bool):Nat->Nat->Nat->Bool
 | 0=>M
 | k+1=>jn (bt M k) k
structure Joined(n:Nat)(M M':Nat->Nat->Bool):Prop where
 le:∀i j,M i j=true->M' i j=true
 tr:∀i a j,a<n->M' i a=true->M' a j=true->M' i j=true
 least:∀S:Nat->Nat->Prop,(∀i a j,S i a->S a j->S i j)->(∀i j,M i j=true->S i j)->∀i j,M' i j=true->S i j
theorem qm(M:Nat->Nat->Bool):∀k,Joined k M (bt M k)
 | 0=>⟨fun _ _ h=>h,fun _ _ _ h=>absurd h (Nat.not_lt_zero _),fun _ _ h=>h⟩
 | k+1=>by
  have ih:=qm M k
  have up:∀i j,bt M (k+1) i j=true↔(bt M k i j=true\/(bt M k i k=true/\bt M k k j=true)):=fun i j=>by
   show(bt M k i j || (bt M k i k && bt M k k j))=true↔_
   simp
  refine⟨fun i j h=>(up i j).mpr (.inl (ih.le i j h)),fun i a j ha h1 h2=>?_,fun S ht hm i j h=>?_⟩
  ·rw[up]at h1 h2 ⊢
   by_cases hak:a=k
   ·subst hak
    have x1:bt M a i a=true:=by rcases h1 with h | h;exact h;exact h.1
    have x2:bt M a a j=true:=by rcases h2 with h | h;exact h;exact h.2
    exact .inr ⟨x1,x2⟩
   ·have hlt:a<k:=by omega
    rcases h1 with h1 | ⟨h1,h1'⟩<;>rcases h2 with h2 | ⟨h2,h2'⟩
    ·exact .inl (ih.tr i a j hlt h1 h2)
    ·exact .inr ⟨ih.tr i a k hlt h1 h2,h2'⟩
    ·exact .inr ⟨h1,ih.tr k a j hlt h1' h2⟩
    ·exact .inr ⟨h1,h2'⟩
  ·rcases(up i j).mp h with h | ⟨h1,h2⟩
   ·exact ih.least S ht hm i j h
   ·exact ht i k j (ih.least S ht hm i k h1) (ih.least S ht hm k j h2)
def uK(K:Be):Sp:=fun vs H Q _=>∃q rs n M,vs=[.ref q]/\TB H H q rs rs n M/\n<=12/\∀rs' M' H',TB H H' q rs rs' n M'->Joined n M M'->Q .non H'
abbrev m9:Stmt:=stq 20
theorem oH:FnScope ["table","many","middle","p"] ["table"] (aO m9):=⟨rfl,rfl,rfl,by decide +kernel,rfl,by decide +kernel,by decide +kernel⟩
theorem vm{P:Program}{w:World}{K:Be}{mg:Str->Option Value}{base:Heap}(D:Dfn K mg "join_walks" m9 ["table"])(T:Blt mg):Cal P w K mg base "join_walks" 1 ["table"] (uK K):=by
 have nd:=(oH).nd
 refine D.ok oH (fun vs H Q E h=>?_) (fun X hX H vs Q E h=>?_)
 ·obtain⟨q,rs,n,M,rfl,_⟩:=h;rfl
 ·obtain⟨f,cdv,A,outer,s,H0,E0,rfl,hr⟩:=hX
  obtain⟨qt,rs,n,M,rfl,ht,hn,q⟩:=h
  refine⟨_,(@aj _ _ _ _ _ (@aF _ _ 1 _ _ _ _ nd rfl (Or.inl rfl) (bj (dy K) rfl T.len_ PySem.boot_len (@aa _ _ _ _ _ (pv 0) ae rfl)) rfl (Or.inl rfl))
    (@ax _ _ _ (bP PassesOwn.never rfl (cb rfl T.range_ (@aa _ _ _ _ _ (pv 1) ae rfl)) (aS (i:=2) nd rfl (Or.inr rfl)) (@ax _ _ _ (bP PassesOwn.never rfl (cb rfl T.range_ (@aa _ _ _ _ _ (pv 1) ae rfl)) (aS (i:=3) nd rfl (Or.inr rfl)) (@ax _ _ _ (di (cN (@ai _ _ _ _ _ _ _ (aC K) (@ai _ _ _ _ _ _ _ (aC K) (pv 0) (pv 3) (fun _ _=>rfl)) (pv 2) (fun _ _=>rfl))) (@ax _ _ _ (@jk _ _ _ _ _ _ (cM ["q"] [0,3,2] (cb rfl T.range_ (@aa _ _ _ _ _ (pv 1) ae rfl)) (fun _=>(aS (i:=0) (show(["q","table","p","middle"]:List Str).Nodup from by decide +kernel) rfl (Or.inl rfl) (Or.inr rfl))) (fun _=>fg) (fun _=>(zO (@ai _ _ _ _ _ _ _ (aC K) (@ai _ _ _ _ _ _ _ (aC K) (pv 1) (pv 2) (fun _ _=>rfl)) (pv 0) (fun _ _=>rfl)) (dA (@ai _ _ _ _ _ _ _ (aC K) (@ai _ _ _ _ _ _ _ (aC K) (pv 1) (pv 3) (fun _ _=>rfl)) (pv 0) (fun _ _=>rfl)))))) (kH (pv 0) (pv 3) set_list) rfl rfl rfl)) bJ))))))),?_⟩
  walk_at "r"
  refine gn (ag.of ht.rows.1) ?_
  rw[Bi,ht.len]
  walk_at "r"
  refine b6 (by omega) ?_
  rw[Bu]
  refine forR (fun k σ H'=>∃rs1 k1 k2,TB H H' qt rs rs1 n (bt M k)/\σ=[some (.ref qt),some (.int (n:Nat)),k1,k2]) ⟨rs,_,_,ht,rfl⟩ ?_ ?_
  ·rintro k σ H1 hk ⟨rs1,k1,k2,tb,rfl⟩
   rw[show (0:Int)+(k:Int)=((k:Nat):Int) by omega]
   walk_at "r"
   refine b6 (by omega) ?_
   rw[Bu]
   refine forR (fun p σ H'=>∃rs2 k2,TB H H' qt rs rs2 n (fun i j=>if i<p then jn (bt M k) k i j else bt M k i j)/\σ=[some (.ref qt),some (.int (n:Nat)),some (.int (k:Nat)),k2]) ⟨rs1,_,tb,rfl⟩ ?_ ?_
   ·rintro p σ H2 hp ⟨rs2,k2,tb2,rfl⟩
    rw[show (0:Int)+(p:Int)=((p:Nat):Int) by omega]
    have hp2:p<rs2.length:=by rw[tb2.len];exact hp
    have hk2:k<rs2.length:=by rw[tb2.len];exact hk
    have gp:rs2[p]?=some rs2[p]:=Bj hp2
    have gk:rs2[k]?=some rs2[k]:=Bj hk2
    have rp:=tb2.rows.2 p _ gp
    have rk:=tb2.rows.2 k _ gk
    generalize rs2[p]=ap at gp rp
    generalize rs2[k]=ak at gk rk
    have ap1:br (rs2.map V.ref) ((p:Nat):Int)=some (.ref ap):=eT (by rw[Bk,gp];rfl)
    have ak1:br (rs2.map V.ref) ((k:Nat):Int)=some (.ref ak):=eT (by rw[Bk,gk];rfl)
    have rp':H2 ap=some (.lst (bz n (bt M k p))):=by
     rw[rp]
     congr 2
     exact fG fun j _=>by dsimp only;rw[if_neg (Nat.lt_irrefl _)]
    have rk':H2 ak=some (.lst (bz n (bt M k k))):=by
     rw[rk]
     congr 2
     refine fG fun j _=>?_
     dsimp only
     by_cases hkp:k<p
     ·rw[if_pos hkp]
      unfold jn
      cases bt M k k j<;>simp
     ·rw[if_neg hkp]
    walk_at "r"
    refine gL ?_
    walk_at "r"
    refine aD (ag.of tb2.rows.1) ap1 ?_
    walk_at "r"
    refine aD (ag.of rp') (fi (by omega) (by omega)) ?_
    rw[Bu]
    walk_at "r"
    cases hc:bt M k p k with
    | false=>
     refine aP ?_
     walk_at "r"
     refine⟨rs2,_,tb2.congr fun i j hi hj=>?_,rfl⟩
     try dsimp only
     by_cases h1:i<p
     ·rw[if_pos h1,if_pos (by omega)]
     ·rw[if_neg h1]
      by_cases h2:i<p+1
      ·have:i=p:=by omega
       subst this
       rw[if_pos h2]
       unfold jn
       rw[hc]
       simp
      ·rw[if_neg h2]
    | true=>
     refine aK ?_
     walk_at "r"
     refine b6 (by omega) ?_
     rw[Bu]
     refine iL (fun i ys H'=>H'=H2/\ys=bz i (jn (bt M k) k p)) (bW (by omega)) ⟨rfl,rfl⟩ ?_ ?_ ?_
     ·rintro i ys H' _ ⟨_,rfl⟩
      rw[fM];exact BB _
     ·rintro i ys H3 hi ⟨rfl,rfl⟩
      rw[show (0:Int)+(i:Int)=((i:Nat):Int) by omega]
      walk_at "r"
      refine aK ?_
      walk_at "r"
      refine aD (ag.of tb2.rows.1) ap1 ?_
      walk_at "r"
      refine aD (ag.of rp') (fi (by omega) (by omega)) ?_
      rw[Bu]
      refine rd_exb ?_
      cases hv:bt M k p i with
      | true=>
       refine aK ⟨rfl,?_⟩
       rw[mh]
       congr 1
       show[V.bl true]=[V.bl (bt M k p i || _)]
       rw[hv]
       rfl
      | false=>
       refine aP ?_
       walk_at "r"
       refine aD (ag.of tb2.rows.1) ak1 ?_
       walk_at "r"
       refine aD (ag.of rk') (fi (by omega) (by omega)) ?_
       rw[Bu]
       refine⟨rfl,?_⟩
       rw[mh]
       congr 1
       show[V.bl (bt M k k i)]=[V.bl (bt M k p i || (bt M k p k && bt M k k i))]
       rw[hv,hc]
       simp
     ·rintro ys H3 p9 ⟨hH,rfl⟩ hp9
      subst hH
      have hq2:(upd H3 p9 (.lst (bz n (jn (bt M k) k p)))) qt=some (.lst (rs2.map V.ref)):=(bI hp9) _ _ tb2.rows.1
      walk_at "r"
      refine lX hq2 (mL (by omega) (by rw[Bi,tb2.len];omega)) ?_
      rw[Bu]
      refine⟨_,_,(tb2.set (f:=jn (bt M k) k p) hp hp9).congr fun i j hi hj=>?_,rfl⟩
      try dsimp only
      by_cases h1:i=p
      ·subst h1
       rw[if_pos rfl,if_pos (by omega)]
      ·rw[if_neg h1]
       by_cases h2:i<p
       ·rw[if_pos h2,if_pos (by omega)]
       ·rw[if_neg h2,if_neg (by omega)]
   ·rintro σ H2 ⟨rs2,k2,tb2,rfl⟩
    exact⟨rs2,_,_,tb2.congr (fun i j hi hj=>by rw[if_pos hi];rfl),rfl⟩
  ·rintro σ H1 ⟨rs1,k1,k2,tb,rfl⟩
   walk_at "r"
   exact q rs1 _ H1 tb (qm M n)
def put2(M:Nat->Nat->Bool)(i x:Nat):Nat->Nat->Bool:=fun j y=>if j=i/\y=x then true else M j y
structure TW(H H':Hp)(q:Addr)(rs:List Addr)(n:Nat)(M:Nat->Nat->Bool):Prop where
 keep:∀b o,b∉rs->H b=some o->H' b=some o
 len:rs.length=n
 nd:rs.Nodup
 nq:q∉rs
 rows:Rows H' q rs n M
theorem TW.mark{H H1:Hp}{q r:Addr}{rs:List Addr}{n i j:Nat}{M:Nat->Nat->Bool}(h:TW H H1 q rs n M)(hi:rs[i]?=some r)(hj:j<n):TW H (upd H1 r (.lst ((bz n (M i)).set j (.bl true)))) q rs n (put2 M i j):=by
 have hm:=Br hi
 have nqr:q≠r:=fun z=>h.nq (z ▸ hm)
 refine⟨fun b o nb e=>?_,h.len,h.nd,h.nq,?_,fun a r' ha=>?_⟩
 ·have nbr:b≠r:=fun z=>nb (by rw[z];exact hm)
  rw[ay nbr]
  exact h.keep b o nb e
 ·rw[ay nqr]
  exact h.rows.1
 ·by_cases hai:a=i
  ·subst hai
   rw[hi]at ha
   cases ha
   rw[aG,wu _ _ hj]
   congr 2
   refine fG fun y _=>?_
   unfold put2
   by_cases hy:y=j
   ·rw[if_pos hy,if_pos ⟨rfl,hy⟩]
   ·rw[if_neg hy,if_neg fun z=>hy z.2]
  ·have nr:r'≠r:=fun z=>hai ((List.getElem?_inj (by rw[h.len];exact(by rw[←h.len];exact(Bq.mp ha).1)) h.nd).mp (by rw[ha,hi,z]))
   rw[ay nr,h.rows.2 a r' ha]
   congr 2
   exact fG fun y _=>by unfold put2;rw[if_neg fun z=>hai z.1]
structure ArchR(n:Nat)(us ds:List Way)(M M':Nat->Nat->Bool)(ad:Bool):Prop where
 le:∀i j,M i j=true->M' i j=true
 same:ad=false->∀i j,M' i j=M i j
 more:ad=true->∃i j,i<n/\j<n/\M i j=false/\M' i j=true
 least:∀S:Nat->Nat->Prop,(∀u∈us,∀d∈ds,S u.other.toNat d.room.toNat->S u.room.toNat d.other.toNat)->(∀i j,M i j=true->S i j)->∀i j,M' i j=true->S i j
theorem ArchR.refl{n:Nat}{us ds:List Way}{M:Nat->Nat->Bool}:ArchR n us ds M M false:=⟨fun _ _ h=>h,fun _ _ _=>rfl,fun h=>(nomatch h),fun _ _ h=>h⟩
theorem ArchR.put{n:Nat}{us ds:List Way}{M M':Nat->Nat->Bool}{ad:Bool}(h:ArchR n us ds M M' ad){u d:Way}(hu:u∈us)(hd:d∈ds)(h1:M' u.other.toNat d.room.toNat=true)(h2:M' u.room.toNat d.other.toNat=false)(hn1:u.room.toNat<n)(hn2:d.other.toNat<n):ArchR n us ds M (put2 M' u.room.toNat d.other.toNat) true:=by
 have le:∀i j,M i j=true->put2 M' u.room.toNat d.other.toNat i j=true:=fun i j hm=>by
  unfold put2
  split
  ·rfl
  ·exact h.le i j hm
 refine⟨le,fun z=>(nomatch z),fun _=>⟨_,_,hn1,hn2,?_,by unfold put2;rw[if_pos ⟨rfl,rfl⟩]⟩,fun S hS hm i j hp=>?_⟩
 ·rw[Bool.eq_false_iff]
  intro z
  rw[h.le _ _ z]at h2
  cases h2
 ·unfold put2 at hp
  split at hp
  ·rename_i z
   rw[z.1,z.2]
   exact hS u hu d hd (h.least S hS hm _ _ h1)
  ·exact h.least S hS hm i j hp
def oD(K:Be):Sp:=fun vs H Q _=>∃q rs n M lu cu us ld cd ds,vs=[.ref q,.ref lu,.ref ld]/\TW H H q rs n M/\H lu=some (.lst (List.map V.ref cu))/\aA H cu us/\H ld=some (.lst (List.map V.ref cd))/\aA H cd ds/\lu∉rs/\ld∉rs/\(∀w∈us++ds,0<=w.room/\w.room<(n:Int)/\0<=w.other/\w.other<(n:Int)) ∧
 ∀M' ad H',TW H H' q rs n M'->ArchR n us ds M M' ad->(ad=false->∀u∈us,∀d∈ds,M u.other.toNat d.room.toNat=true->M u.room.toNat d.other.toNat=true)->Q (.bl ad) H'
abbrev kS:Stmt:=stq 21
theorem tX:FnScope ["table","ups","downs","added","rise","fall"] ["table","ups","downs"] (aO kS):=⟨rfl,rfl,rfl,by decide +kernel,rfl,by decide +kernel,by decide +kernel⟩
theorem vB{P:Program}{w:World}{K:Be}{mg:Str->Option Value}{base:Heap}(D:Dfn K mg "add_arches" kS ["table","ups","downs"])(T:Blt mg):Cal P w K mg base "add_arches" 1 ["table","ups","downs"] (oD K):=by
 have nd:=(tX).nd
 refine D.ok tX (fun vs H Q E h=>?_) (fun X hX H vs Q E h=>?_)
 ·obtain⟨q,rs,n,M,lu,cu,us,ld,cd,ds,rfl,_⟩:=h;rfl
 ·obtain⟨f,cdv,A,outer,s,H0,E0,rfl,hr⟩:=hX
  obtain⟨qt,rs,n,M,lu,cu,us,ld,cd,ds,rfl,tw,hlu,hau,hld,had,nlu,nld,hin,q⟩:=h
  have hcu:=hau.1
  have hcd:=had.1
  refine⟨_,(@aj _ _ _ _ _ (@aF _ _ 3 _ _ _ _ nd rfl (Or.inl rfl) cZ rfl (Or.inl rfl))
    (@aj _ _ _ _ _ (bP PassesOwn.never rfl (dZ K (pv 1)) (aS (i:=4) nd rfl (Or.inl rfl)) (@ax _ _ _ (bP PassesOwn.never rfl (dZ K (pv 2)) (aS (i:=5) nd rfl (Or.inl rfl)) (@ax _ _ _ (di (PW.pt (gZ (cN (@ai _ _ _ _ _ _ _ (aC K) (@ai _ _ _ _ _ _ _ (aC K) (pv 0) (@ai _ _ _ _ _ _ _ (aN K) (pv 4) af (fun _ _=>rfl)) (fun _ _=>rfl)) (@ai _ _ _ _ _ _ _ (aN K) (pv 5) af (fun _ _=>rfl)) (fun _ _=>rfl))) (iS (eB (cN (@ai _ _ _ _ _ _ _ (aC K) (@ai _ _ _ _ _ _ _ (aC K) (pv 0) (@ai _ _ _ _ _ _ _ (aN K) (pv 4) af (fun _ _=>rfl)) (fun _ _=>rfl)) (@ai _ _ _ _ _ _ _ (aN K) (pv 5) af (fun _ _=>rfl)) (fun _ _=>rfl))))))) (@aj _ _ _ _ _ (@jk _ _ _ _ _ _ cZ (kH (@ai _ _ _ _ _ _ _ (aC K) (pv 0) (@ai _ _ _ _ _ _ _ (aN K) (pv 4) af (fun _ _=>rfl)) (fun _ _=>rfl)) (@ai _ _ _ _ _ _ _ (aN K) (pv 5) af (fun _ _=>rfl)) set_list) rfl rfl rfl)
    (@ax _ _ _ (@aF _ _ 3 _ _ _ _ nd rfl (Or.inl rfl) cZ rfl (Or.inl rfl)))) bJ)))))
    (@ax _ _ _ (@aQ _ _ _ _ (pv 3))))),?_⟩
  have tupN:∀(b:Addr) (w:Way),H b=some (.tup w.vs)->b∉rs:=fun b w hb z=>by
   obtain⟨j,hj⟩:=List.getElem?_of_mem z
   rw[tw.rows.2 j b hj]at hb
   cases hb
  walk_at "r"
  refine ed (ag.of hlu) ?_
  refine forL (xs:=List.map V.ref cu) (fun i σ H'=>∃M' ad k1 k2,TW H H' qt rs n M'/\ArchR n us ds M M' ad/\(ad=false->∀a,a<i->∀u,us[a]?=some u->∀d∈ds,M u.other.toNat d.room.toNat=true->M u.room.toNat d.other.toNat=true)/\σ=[some (.ref qt),some (.ref lu),some (.ref ld),some (.bl ad),k1,k2]) ⟨M,false,_,_,tw,.refl,fun _ a ha=>absurd ha (Nat.not_lt_zero _),rfl⟩ (fun i σ H' _ h=>by obtain⟨M',ad,k1,k2,t,_⟩:=h;exact ag.of (t.keep _ _ nlu hlu)) ?_ ?_
  ·rintro i v σ H1 hx ⟨M1,ad,k1,k2,tw1,ar1,cl1,rfl⟩
   rw[Bk]at hx
   obtain⟨bu,hbu,rfl⟩:=Bt.mp hx
   have hiu:i<us.length:=by rw[←hcu];exact(Bq.mp hbu).1
   have gu:us[i]?=some us[i]:=Bj hiu
   have hbu0:=hau.2 i bu _ hbu gu
   generalize us[i]=u at gu hbu0
   have hum:=Br gu
   obtain⟨u0,u1,u2,u3⟩:=hin u (List.mem_append_left _ hum)
   walk_at "r"
   refine ed (ag.of (tw1.keep _ _ nld hld)) ?_
   refine forL (xs:=List.map V.ref cd) (fun j σ H'=>∃M' ad k2,TW H H' qt rs n M'/\ArchR n us ds M M' ad/\(ad=false->(∀a,a<i->∀u,us[a]?=some u->∀d∈ds,M u.other.toNat d.room.toNat=true->M u.room.toNat d.other.toNat=true)/\∀b,b<j->∀d,ds[b]?=some d->M u.other.toNat d.room.toNat=true->M u.room.toNat d.other.toNat=true)/\σ=[some (.ref qt),some (.ref lu),some (.ref ld),some (.bl ad),some (.ref bu),k2]) ⟨M1,ad,_,tw1,ar1,fun h=>⟨cl1 h,fun b hb=>absurd hb (Nat.not_lt_zero _)⟩,rfl⟩ (fun j σ H' _ h=>by obtain⟨M',ad,k2,t,_⟩:=h;exact ag.of (t.keep _ _ nld hld)) ?_ ?_
   ·rintro j v σ H2 hx2 ⟨M2,ad2,k2,tw2,ar2,cl2,rfl⟩
    rw[Bk]at hx2
    obtain⟨bd,hbd,rfl⟩:=Bt.mp hx2
    have hid:j<ds.length:=by rw[←hcd];exact(Bq.mp hbd).1
    have gd:ds[j]?=some ds[j]:=Bj hid
    have hbd0:=had.2 j bd _ hbd gd
    generalize ds[j]=d at gd hbd0
    have hdm:=Br gd
    obtain⟨d0,d1,d2,d3⟩:=hin d (List.mem_append_right _ hdm)
    have ku:=tw2.keep _ _ (tupN bu u hbu0) hbu0
    have kd:=tw2.keep _ _ (tupN bd d hbd0) hbd0
    have x1:u.other.toNat<rs.length:=by rw[tw2.len];omega
    have x2:u.room.toNat<rs.length:=by rw[tw2.len];omega
    have r1:rs[u.other.toNat]?=some rs[u.other.toNat]:=Bj x1
    have r2:rs[u.room.toNat]?=some rs[u.room.toNat]:=Bj x2
    have w1:=tw2.rows.2 _ _ r1
    have w2:=tw2.rows.2 _ _ r2
    generalize rs[u.other.toNat]=a1 at r1 w1
    generalize rs[u.room.toNat]=a2 at r2 w2
    have at1:br (rs.map V.ref) u.other=some (.ref a1):=fm u2 (by rw[Bk,r1];rfl)
    have at2:br (rs.map V.ref) u.room=some (.ref a2):=fm u0 (by rw[Bk,r2];rfl)
    have step:(M u.other.toNat d.room.toNat=true->M u.room.toNat d.other.toNat=true)->ad2=false->∀b,b<j+1->∀d',ds[b]?=some d'->M u.other.toNat d'.room.toNat=true->M u.room.toNat d'.other.toNat=true:=fun hs hf b hb d' hd'=>by
     by_cases hbj:b<j
     ·exact(cl2 hf).2 b hbj d' hd'
     ·have:b=j:=by omega
      subst this
      rw[gd]at hd'
      cases hd'
      exact hs
    walk_at "r"
    refine gL ?_
    walk_at "r"
    refine aM (ao.of ku) (v:=.int u.other) rfl ?_
    walk_at "r"
    refine aD (ag.of tw2.rows.1) at1 ?_
    walk_at "r"
    refine aM (ao.of kd) (v:=.int d.room) rfl ?_
    walk_at "r"
    refine aD (ag.of w1) (fi d0 (by omega)) ?_
    walk_at "r"
    cases hm1:M2 u.other.toNat d.room.toNat with
    | false=>
     refine aP ?_
     walk_at "r"
     refine⟨M2,ad2,_,tw2,ar2,fun hf=>⟨(cl2 hf).1,step (fun z=>?_) hf⟩,rfl⟩
     rw[ar2.same hf]at hm1
     rw[hm1]at z
     cases z
    | true=>
     refine aK ?_
     walk_at "r"
     refine aM (ao.of ku) (v:=.int u.room) rfl ?_
     walk_at "r"
     refine aD (ag.of tw2.rows.1) at2 ?_
     walk_at "r"
     refine aM (ao.of kd) (v:=.int d.other) rfl ?_
     walk_at "r"
     refine aD (ag.of w2) (fi d2 (by omega)) ?_
     walk_at "r"
     cases hm2:M2 u.room.toNat d.other.toNat with
     | true=>
      refine aP ?_
      walk_at "r"
      refine⟨M2,ad2,_,tw2,ar2,fun hf=>⟨(cl2 hf).1,step (fun _=>?_) hf⟩,rfl⟩
      rw[ar2.same hf]at hm2
      exact hm2
     | false=>
      refine aK ?_
      walk_at "r"
      refine aM (ao.of ku) (v:=.int u.room) rfl ?_
      walk_at "r"
      refine aD (ag.of tw2.rows.1) at2 ?_
      walk_at "r"
      refine aM (ao.of kd) (v:=.int d.other) rfl ?_
      walk_at "r"
      refine lX w2 (mL d2 (by rw[fM];omega)) ?_
      walk_at "r"
      exact⟨_,true,_,tw2.mark r2 (by omega),ar2.put hum hdm hm1 hm2 (by omega) (by omega),fun z=>(nomatch z),rfl⟩
   ·rintro σ H2 ⟨M2,ad2,k2,tw2,ar2,cl2,rfl⟩
    rw[Bi,hcd]at cl2
    refine⟨M2,ad2,_,_,tw2,ar2,fun hf a ha u' hu'=>?_,rfl⟩
    by_cases hai:a<i
    ·exact(cl2 hf).1 a hai u' hu'
    ·have:a=i:=by omega
     subst this
     rw[gu]at hu'
     cases hu'
     intro d hd
     obtain⟨b,hb⟩:=List.getElem?_of_mem hd
     exact(cl2 hf).2 b (Bq.mp hb).1 d hb
  ·rintro σ H1 ⟨M1,ad,k1,k2,tw1,ar1,cl1,rfl⟩
   rw[Bi,hcu]at cl1
   walk_at "r"
   refine q M1 ad H1 tw1 ar1 fun hf u hu d hd=>?_
   obtain⟨a,ha⟩:=List.getElem?_of_mem hu
   exact cl1 hf a (Bq.mp ha).1 u ha d hd
inductive Kpt(ws:List Way)(n:Nat):Nat->Nat->Prop
 | refl {i:Nat}:i<n->Kpt ws n i i
 | stay {w:Way}:w∈ws->w.deed = "stay"->Kpt ws n w.room.toNat w.other.toNat
 | trans {i a j:Nat}:Kpt ws n i a->Kpt ws n a j->Kpt ws n i j
 | arch {u d:Way}:u∈ws->u.deed = "up"->d∈ws->d.deed = "down"->Kpt ws n u.other.toNat d.room.toNat->Kpt ws n u.room.toNat d.other.toNat
theorem eP{m:Int}{ws:List Way}(ok:∀w∈ws,w.Ok m){w:Way}(hw:w∈ws):w.room.toNat<m.toNat/\w.other.toNat<m.toNat:=by
 have h:=ok w hw
 have:=h.r0
 have:=h.r1
 have:=h.o0
 have:=h.o1
 omega
theorem Kpt.lt{m:Int}{ws:List Way}(ok:∀w∈ws,w.Ok m){i j:Nat}(h:Kpt ws m.toNat i j):i<m.toNat/\j<m.toNat:=by
 induction h with
 | refl h=>exact⟨h,h⟩
 | stay h _=>exact eP ok h
 | trans _ _ h1 h2=>exact⟨h1.1,h2.2⟩
 | arch h1 _ h2 _ _ _=>exact⟨(eP ok h1).1,(eP ok h2).2⟩
def x9(ws:List Way)(M:Nat->Nat->Bool):Prop:=∀i j,M i j=true↔(i=j\/∃w∈ws,w.deed = "stay"/\w.room.toNat=i/\w.other.toNat=j)
def gF(n:Nat)(M:Nat->Nat->Bool):Nat:=((List.range n).flatMap fun i=>(List.range n).map fun j=>(i,j)).countP fun z=>!M z.1 z.2
theorem uE{α:Type}{p p':α->Bool}(hi:∀y,p' y=true->p y=true){a:α}(ha:p a=true)(ha':p' a=false):∀{L:List α},a∈L->L.countP p'<L.countP p
 | b::L,hm=>by
  have hle:L.countP p'<=L.countP p:=List.countP_mono_left fun y _=>hi y
  rw[List.countP_cons,List.countP_cons]
  rcases Bw.mp hm with rfl | hm
  ·rw[ha,ha']
   simp
   omega
  ·have:=uE hi ha ha' hm
   cases h1:p' b with
   | false=>simp[h1];split<;>omega
   | true=>rw[hi b h1];simp;omega
theorem xJ{n i j:Nat}{M M':Nat->Nat->Bool}(hi:i<n)(hj:j<n)(le:∀a b,M a b=true->M' a b=true)(h1:M i j=false)(h2:M' i j=true):gF n M'<gF n M:=by
 refine uE (a:=(i,j)) (fun y hy=>?_) (by simp[h1]) (by simp[h2]) (by simp;exact⟨hi,hj⟩)
 have hy':M' y.1 y.2=false:=by simpa using hy
 have:M y.1 y.2=false:=by
  rw[Bool.eq_false_iff]
  intro z
  rw[le _ _ z]at hy'
  cases hy'
 simp[this]
structure KT(H H':Hp)(q:Addr)(rs:List Addr)(n:Nat)(M:Nat->Nat->Bool):Prop where
 ext:Ext H H'
 fq:H q=none
 fr:∀r∈rs,H r=none
 len:rs.length=n
 nd:rs.Nodup
 nq:q∉rs
 rows:Rows H' q rs n M
theorem KT.tw{H H':Hp}{q:Addr}{rs:List Addr}{n:Nat}{M:Nat->Nat->Bool}(h:KT H H' q rs n M):TW H' H' q rs n M:=⟨fun _ _ _ e=>e,h.len,h.nd,h.nq,h.rows⟩
theorem KT.tb{H H':Hp}{q:Addr}{rs:List Addr}{n:Nat}{M:Nat->Nat->Bool}(h:KT H H' q rs n M):TB H' H' q rs rs n M:=⟨fun _ _ _ e=>e,h.len,h.nd,h.nq,fun _ h=>.inl h,h.rows⟩
theorem KT.more{H H1 H2:Hp}{q:Addr}{rs:List Addr}{n:Nat}{M:Nat->Nat->Bool}(h:KT H H1 q rs n M)(e:Ext H1 H2):KT H H2 q rs n M:=⟨h.ext.trans e,h.fq,h.fr,h.len,h.nd,h.nq,h.rows.ext e⟩
theorem KT.byW{H H1 H2:Hp}{q:Addr}{rs:List Addr}{n:Nat}{M M':Nat->Nat->Bool}(h:KT H H1 q rs n M)(t:TW H1 H2 q rs n M'):KT H H2 q rs n M':=
 ⟨fun b o e=>t.keep b o (fun z=>by rw[h.fr b z]at e;cases e) (h.ext b o e),h.fq,h.fr,h.len,h.nd,h.nq,t.rows⟩
theorem KT.byB{H H1 H2:Hp}{q:Addr}{rs rs':List Addr}{n:Nat}{M M':Nat->Nat->Bool}(h:KT H H1 q rs n M)(t:TB H1 H2 q rs rs' n M'):KT H H2 q rs' n M':=
 ⟨fun b o e=>t.keep b o (fun z=>by rw[z,h.fq]at e;cases e) (h.ext b o e),h.fq,fun r hr=>by
  rcases t.old r hr with z | z
  ·exact h.fr r z
  ·cases e:H r with
   | none=>rfl
   | some o=>exact absurd ((h.ext r o e).symm.trans z) (by simp),t.len,t.nd,t.nq,t.rows⟩
def pE(K:Be):Sp:=fun vs H Q _=>∃vh m ws,vs=[vh]/\bD H vh m ws/\HOuse m ws/\∀q rs M H',KT H H' q rs m.toNat M->x9 ws M->Q (.ref q) H'
abbrev lT:Stmt:=stq 19
theorem pz:FnScope ["house","table","p","way"] ["house"] (aO lT):=⟨rfl,rfl,rfl,by decide +kernel,rfl,by decide +kernel,by decide +kernel⟩
theorem wt{P:Program}{w:World}{K:Be}{mg:Str->Option Value}{base:Heap}(D:Dfn K mg "beginning_table" lT ["house"])(T:Blt mg)(C_ways_of_deed:Cal P w K mg base "ways_of_deed" 1 ["house","deed"] (iE K)):Cal P w K mg base "beginning_table" 2 ["house"] (pE K):=by
 have nd:=(pz).nd
 refine D.ok pz (fun vs H Q E h=>?_) (fun X hX H vs Q E h=>?_)
 ·obtain⟨vh,m,ws,rfl,_⟩:=h;rfl
 ·obtain⟨f,cdv,A,outer,s,H0,E0,rfl,hr⟩:=hX
  obtain⟨vh,m,ws,rfl,hv,ok,q⟩:=h
  have m1:=ok.m1
  have m12:=ok.m12
  obtain⟨hp0,hq0,rfl,hh,_⟩:=id hv
  refine⟨_,(@aj _ _ _ _ _ (@aF _ _ 1 _ _ _ _ nd rfl (Or.inl rfl) (@bF _ _ _ _ ae) rfl (Or.inl rfl))
    (@aj _ _ _ _ _ (bP PassesOwn.never rfl (cb rfl T.range_ (@aa _ _ _ _ _ (@ai _ _ _ _ _ _ _ (aN K) (pv 0) af (fun _ _=>rfl)) ae rfl)) (aS (i:=2) nd rfl (Or.inr rfl)) (@ax _ _ _ (bA (bK K Bp BC BD bS (pv 1) (@aa _ _ _ _ _ (cM ["q"] [2] (cb rfl T.range_ (@aa _ _ _ _ _ (@ai _ _ _ _ _ _ _ (aN K) (pv 0) af (fun _ _=>rfl)) ae rfl)) (fun _=>(aS (i:=0) (show(["q","p"]:List Str).Nodup from by decide +kernel) rfl (Or.inl rfl) (Or.inr rfl))) (fun _=>fg) (fun _=>(fK bY (pv 1) (pv 0) (bo _)))) ae rfl)))))
    (@aj _ _ _ _ _ (bP PassesOwn.never rfl (dZ K (aL C_ways_of_deed hr (@aa _ _ _ _ _ (pv 0) (@aa _ _ _ _ _ aJ ae rfl) rfl))) (aS (i:=3) nd rfl (Or.inl rfl)) (@ax _ _ _ (@jk _ _ _ _ _ _ cZ (kH (@ai _ _ _ _ _ _ _ (aC K) (pv 1) (@ai _ _ _ _ _ _ _ (aN K) (pv 3) af (fun _ _=>rfl)) (fun _ _=>rfl)) (@ai _ _ _ _ _ _ _ (aN K) (pv 3) af (fun _ _=>rfl)) set_list) rfl rfl rfl)))
    (@ax _ _ _ (@aQ _ _ _ _ (pv 1)))))),?_⟩
  walk_at "r"
  refine aE fun tq H1 e1 htq hfq=>?_
  walk_at "r"
  refine aM (ao.of (e1 _ _ hh)) (v:=.int m) rfl ?_
  walk_at "r"
  refine b6 (by omega) ?_
  refine forR (fun p σ H'=>∃rs k1 k2,Ext H H'/\H' tq=some (.lst (List.map V.ref rs))/\(∀r∈rs,H r=none)/\rs.length=p/\rs.Nodup/\tq∉rs/\(∀(a:Nat) (r:Addr),rs[a]?=some r->H' r=some (.lst (bz m.toNat fun j=>decide (a=j))))/\σ=[some (.ref hp0),some (.ref tq),k1,k2]) ⟨[],_,_,e1,htq,fun r hr=>(by cases hr),rfl,List.nodup_nil,by simp,fun a r h=>by simp at h,rfl⟩ ?_ ?_
  ·rintro p σ H2 hp ⟨rs,k1,k2,e2,hq2,hfr,hln,hnd,hnq,hrs,rfl⟩
   rw[show (0:Int)+(p:Int)=((p:Nat):Int) by omega]
   walk_at "r"
   refine⟨cS (ag.of hq2),?_⟩
   walk_at "r"
   refine aM (ao.of (e2 _ _ hh)) (v:=.int m) rfl ?_
   walk_at "r"
   refine b6 (by omega) ?_
   refine iL (fun i ys H'=>H'=H2/\ys=bz i (fun j=>decide (p=j))) (bW (by omega)) ⟨rfl,rfl⟩ ?_ ?_ ?_
   ·rintro i ys H' _ ⟨_,rfl⟩
    rw[fM];exact BB _
   ·rintro i ys H3 hi ⟨rfl,rfl⟩
    rw[show (0:Int)+(i:Int)=((i:Nat):Int) by omega]
    walk_at "r"
    refine aK ?_
    walk_at "r"
    refine⟨rfl,?_⟩
    rw[mh]
    congr 3
    rw[BP]
    simp
    omega
   ·rintro ys H3 p9 ⟨hH,rfl⟩ hp9
    subst hH
    have e3:=bI (o:=.lst (bz m.toNat fun j=>decide (p=j))) hp9
    have hq3:=e3 _ _ hq2
    have h9:(upd H3 p9 (.lst (bz m.toNat fun j=>decide (p=j)))) p9=_:=aG
    have e03:=e2.trans e3
    have hrs3:∀(a:Nat) (r:Addr),rs[a]?=some r->(upd H3 p9 (.lst (bz m.toNat fun j=>decide (p=j)))) r=some (.lst (bz m.toNat fun j=>decide (a=j))):=fun a r h=>e3 _ _ (hrs a r h)
    have n9:H p9=none:=by
     cases z:H p9 with
     | none=>rfl
     | some o=>rw[e2 _ _ z]at hp9;cases hp9
    have nin:p9∉rs:=fun z=>by
     obtain⟨j,hj⟩:=List.getElem?_of_mem z
     rw[hrs j p9 hj]at hp9
     cases hp9
    have nqp:tq≠p9:=fun z=>by rw[z,hp9]at hq2;cases hq2
    generalize upd H3 p9 (.lst (bz m.toNat fun j=>decide (p=j)))=H4 at e3 hq3 h9 e03 hrs3 ⊢
    walk_at "r"
    refine bO hq3 (by rw[Bi];exact Nat.lt_of_le_of_lt (show rs.length<=12 by omega) (by decide)) ?_
    walk_at "r"
    have keep:∀b o,b≠tq->H4 b=some o->upd H4 tq (.lst (List.map V.ref rs++[.ref p9])) b=some o:=fun b o nb e=>by rw[ay nb];exact e
    refine⟨rs++[p9],_,_,cD e03 hfq,?_,fun r hr=>?_,by rw[Bz,hln];rfl,?_,fun z=>?_,fun a r ha=>?_,rfl⟩
    ·rw[aG,By];rfl
    ·rcases BE.mp hr with hr | hr
     ·exact hfr r hr
     ·rw[Bs.mp hr];exact n9
    ·rw[List.nodup_append]
     refine⟨hnd,by simp,fun a ha c hc z=>?_⟩
     rw[Bs.mp hc]at z
     exact nin (z ▸ ha)
    ·rcases BE.mp z with z | z
     ·exact hnq z
     ·exact nqp (Bs.mp z)
    ·by_cases hal:a<rs.length
     ·rw[BG hal]at ha
      exact keep r _ (fun z=>hnq (z ▸ Br ha)) (hrs3 a r ha)
     ·rw[BF (by omega)]at ha
      have hz:a-rs.length=0:=by
       have:=(Bq.mp ha).1
       simp at this
       omega
      rw[hz]at ha
      cases ha
      have:a=p:=by omega
      subst this
      exact keep p9 _ (Ne.symm nqp) h9
  ·rintro σ H2 ⟨rs,k1,k2,e2,hq2,hfr,hln,hnd,hnq,hrs,rfl⟩
   have tw:TW H2 H2 tq rs m.toNat (fun i j=>decide (i=j)):=⟨fun _ _ _ e=>e,hln,hnd,hnq,hq2,hrs⟩
   have kt:KT H H2 tq rs m.toNat (fun i j=>decide (i=j)):=⟨e2,hfq,hfr,hln,hnd,hnq,hq2,hrs⟩
   walk_at "r"
   refine⟨.ref hp0,m,ws,_,rfl,hv.ext e2,ok,fun l cs us H3 e3 hl3 hl hau hus=>?_⟩
   have kt3:=kt.more e3
   have nl:l∉rs:=fun z=>by
    obtain⟨j,hj⟩:=List.getElem?_of_mem z
    rw[hrs j l hj]at hl3
    cases hl3
   have hcs:=hau.1
   have tupN:∀(b:Addr) (w:Way),H3 b=some (.tup w.vs)->b∉rs:=fun b w hb z=>by
    obtain⟨j,hj⟩:=List.getElem?_of_mem z
    rw[kt3.rows.2 j b hj]at hb
    cases hb
   refine ed (ag.of hl) ?_
   refine forL (xs:=List.map V.ref cs) (fun i σ H'=>∃M k1 k2,TW H3 H' tq rs m.toNat M/\(∀a b,M a b=true↔(a=b\/∃w∈us.take i,w.room.toNat=a/\w.other.toNat=b))/\σ=[some (.ref hp0),some (.ref tq),k1,k2]) ⟨_,_,_,kt3.tw,fun a b=>by simp,rfl⟩ (fun i σ H' _ h=>by obtain⟨M,k1,k2,t,_⟩:=h;exact ag.of (t.keep _ _ nl hl)) ?_ ?_
   ·rintro i v σ H4 hx ⟨M,k1,k2,tw4,hM,rfl⟩
    rw[Bk]at hx
    obtain⟨b,hb,rfl⟩:=Bt.mp hx
    have hi:i<us.length:=by rw[←hcs];exact(Bq.mp hb).1
    have gu:us[i]?=some us[i]:=Bj hi
    have hb0:=hau.2 i b _ hb gu
    generalize us[i]=u at gu hb0
    have hum:u∈ws:=by
     have:=Br gu
     rw[hus]at this
     exact(List.mem_filter.mp this).1
    have oku:=ok.ok u hum
    have u0:=oku.r0
    have u1:=oku.r1
    have u2:=oku.o0
    have u3:=oku.o1
    have kb:=tw4.keep _ _ (tupN b u hb0) hb0
    have x2:u.room.toNat<rs.length:=by rw[tw4.len];omega
    have r2:rs[u.room.toNat]?=some rs[u.room.toNat]:=Bj x2
    have w2:=tw4.rows.2 _ _ r2
    generalize rs[u.room.toNat]=a2 at r2 w2
    have at2:br (rs.map V.ref) u.room=some (.ref a2):=fm u0 (by rw[Bk,r2];rfl)
    walk_at "r"
    refine aM (ao.of kb) (v:=.int u.room) rfl ?_
    walk_at "r"
    refine aD (ag.of tw4.rows.1) at2 ?_
    walk_at "r"
    refine aM (ao.of kb) (v:=.int u.other) rfl ?_
    walk_at "r"
    refine lX w2 (mL u2 (by rw[fM];omega)) ?_
    refine⟨_,_,_,tw4.mark r2 (by omega),fun a c=>?_,rfl⟩
    rw[List.take_add_one,gu]
    unfold put2
    split
    ·rename_i z
     simp only[true_iff]
     exact .inr ⟨u,List.mem_append_right _ (by simp),z.1.symm,z.2.symm⟩
    ·rename_i z
     rw[hM]
     constructor
     ·rintro(h | ⟨w,hw,h⟩)
      ·exact .inl h
      ·exact .inr ⟨w,List.mem_append_left _ hw,h⟩
     ·rintro(h | ⟨w,hw,h1,h2⟩)
      ·exact .inl h
      ·rcases BE.mp hw with hw | hw
       ·exact .inr ⟨w,hw,h1,h2⟩
       ·have:w=u:=by simpa using hw
        subst this
        exact absurd ⟨h1.symm,h2.symm⟩ z
   ·rintro σ H4 ⟨M,k1,k2,tw4,hM,rfl⟩
    rw[Bi,hcs,BJ]at hM
    walk_at "r"
    refine q tq rs M H4 (kt3.byW tw4) fun a b=>?_
    rw[hM,hus]
    constructor
    ·rintro(h | ⟨w,hw,h⟩)
     ·exact .inl h
     ·obtain⟨h1,h2⟩:=List.mem_filter.mp hw
      exact .inr ⟨w,h1,of_decide_eq_true h2,h⟩
    ·rintro(h | ⟨w,hw,hd,h⟩)
     ·exact .inl h
     ·exact .inr ⟨w,List.mem_filter.mpr ⟨hw,decide_eq_true hd⟩,h⟩
structure UD(H:Hp)(tq:Addr)(rs:List Addr)(lu ld:Addr)(cu cd:List Addr)(us ds:List Way):Prop where
 u:H lu=some (.lst (List.map V.ref cu))
 au:aA H cu us
 d:H ld=some (.lst (List.map V.ref cd))
 ad:aA H cd ds
 nu:lu∉rs
 nd:ld∉rs
 qu:lu≠tq
 qd:ld≠tq
theorem aA.byW{H H':Hp}{q:Addr}{rs:List Addr}{n:Nat}{M M':Nat->Nat->Bool}(r:Rows H q rs n M)(t:TW H H' q rs n M'){bs:List Addr}{ws:List Way}(h:aA H bs ws):aA H' bs ws:=⟨h.1,fun j b w e1 e2=>by
 have hb:=h.2 j b w e1 e2
 refine t.keep b _ (fun z=>?_) hb
 obtain⟨j,hj⟩:=List.getElem?_of_mem z
 rw[r.2 j b hj]at hb
 cases hb⟩
theorem aA.byB{H H':Hp}{q:Addr}{rs rs':List Addr}{n:Nat}{M M':Nat->Nat->Bool}(r:Rows H q rs n M)(t:TB H H' q rs rs' n M'){bs:List Addr}{ws:List Way}(h:aA H bs ws):aA H' bs ws:=⟨h.1,fun j b w e1 e2=>by
 have hb:=h.2 j b w e1 e2
 refine t.keep b _ (fun z=>?_) hb
 rw[z,r.1]at hb
 cases hb⟩
theorem UD.byW{H H':Hp}{tq:Addr}{rs:List Addr}{lu ld:Addr}{cu cd:List Addr}{us ds:List Way}{n:Nat}{M M':Nat->Nat->Bool}(r:Rows H tq rs n M)(t:TW H H' tq rs n M')(h:UD H tq rs lu ld cu cd us ds):UD H' tq rs lu ld cu cd us ds:=
 ⟨t.keep _ _ h.nu h.u,h.au.byW r t,t.keep _ _ h.nd h.d,h.ad.byW r t,h.nu,h.nd,h.qu,h.qd⟩
theorem UD.byB{H H':Hp}{tq:Addr}{rs rs':List Addr}{lu ld:Addr}{cu cd:List Addr}{us ds:List Way}{n:Nat}{M M':Nat->Nat->Bool}(r:Rows H tq rs n M)(t:TB H H' tq rs rs' n M')(h:UD H tq rs lu ld cu cd us ds):UD H' tq rs' lu ld cu cd us ds:=by
 have no:∀l o,H l=some o->l∉rs->l∉rs':=fun l o hl hn z=>by
  rcases t.old l z with y | y
  ·exact hn y
  ·rw[hl]at y;cases y
 exact⟨t.keep _ _ h.qu h.u,h.au.byB r t,t.keep _ _ h.qd h.d,h.ad.byB r t,no _ _ h.u h.nu,no _ _ h.d h.nd,h.qu,h.qd⟩
def nR(ws:List Way)(n:Nat)(M:Nat->Nat->Bool):Prop:=∀i j,i<n->j<n->(M i j=true↔Kpt ws n i j)
structure KJ(ws:List Way)(n:Nat)(M:Nat->Nat->Bool):Prop where
 beg:∀i j,(i=j\/∃w∈ws,w.deed = "stay"/\w.room.toNat=i/\w.other.toNat=j)->M i j=true
 snd:∀i j,M i j=true->i=j\/Kpt ws n i j
theorem ya{m:Int}{ws:List Way}{M:Nat->Nat->Bool}(ok:∀w∈ws,w.Ok m)(h:KJ ws m.toNat M)(tr:∀i a j,a<m.toNat->M i a=true->M a j=true->M i j=true)(ar:∀u∈ws.filter (fun w=>decide (w.deed=Str.ofString "up")),∀d∈ws.filter (fun w=>decide (w.deed=Str.ofString "down")),M u.other.toNat d.room.toNat=true->M u.room.toNat d.other.toNat=true):nR ws m.toNat M:=by
 intro i j hi hj
 constructor
 ·intro hm
  rcases h.snd i j hm with rfl | h
  ·exact .refl hi
  ·exact h
 ·intro hk
  clear hi hj
  induction hk with
  | refl _=>exact h.beg _ _ (.inl rfl)
  | stay h1 h2=>exact h.beg _ _ (.inr ⟨_,h1,h2,rfl,rfl⟩)
  | trans h1 h2 i1 i2=>exact tr _ _ _ (Kpt.lt ok h1).2 i1 i2
  | arch h1 h2 h3 h4 h5 ih=>exact ar _ (List.mem_filter.mpr ⟨h1,decide_eq_true h2⟩) _ (List.mem_filter.mpr ⟨h3,decide_eq_true h4⟩) ih
theorem KJ.join{m:Int}{ws:List Way}{M M':Nat->Nat->Bool}(h:KJ ws m.toNat M)(j:Joined m.toNat M M'):KJ ws m.toNat M':=by
 refine⟨fun a b hb=>j.le _ _ (h.beg a b hb),fun a b hm=>j.least (fun a b=>a=b\/Kpt ws m.toNat a b) (fun i a j h1 h2=>?_) h.snd a b hm⟩
 rcases h1 with rfl | h1
 ·exact h2
 ·rcases h2 with rfl | h2
  ·exact .inr h1
  ·exact .inr (.trans h1 h2)
theorem KJ.arch{m:Int}{ws:List Way}{M M':Nat->Nat->Bool}{ad:Bool}(ok:∀w∈ws,w.Ok m)(h:KJ ws m.toNat M)(a:ArchR m.toNat (ws.filter fun w=>decide (w.deed=Str.ofString "up")) (ws.filter fun w=>decide (w.deed=Str.ofString "down")) M M' ad):KJ ws m.toNat M':=by
 refine⟨fun i j hb=>a.le _ _ (h.beg i j hb),fun i j hm=>a.least (fun a b=>a=b\/Kpt ws m.toNat a b) (fun u hu d hd hs=>?_) h.snd i j hm⟩
 obtain⟨u1,u2⟩:=List.mem_filter.mp hu
 obtain⟨d1,d2⟩:=List.mem_filter.mp hd
 have u2:=of_decide_eq_true u2
 have d2:=of_decide_eq_true d2
 right
 refine .arch u1 u2 d1 d2 ?_
 rcases hs with hs | hs
 ·rw[hs]
  exact .refl (eP ok d1).1
 ·exact hs
def jX(K:Be):Sp:=fun vs H Q _=>∃vh m ws,vs=[vh]/\bD H vh m ws/\HOuse m ws/\∀q rs M H',KT H H' q rs m.toNat M->nR ws m.toNat M->Q (.ref q) H'
abbrev ml:Stmt:=stq 22
theorem uB:FnScope ["house","table","ups","downs"] ["house"] (aO ml):=⟨rfl,rfl,rfl,by decide +kernel,rfl,by decide +kernel,by decide +kernel⟩
theorem AG{P:Program}{w:World}{K:Be}{mg:Str->Option Value}{base:Heap}(D:Dfn K mg "kept_table" ml ["house"])(T:Blt mg)(C_add_arches:Cal P w K mg base "add_arches" 1 ["table","ups","downs"] (oD K))(C_join_walks:Cal P w K mg base "join_walks" 1 ["table"] (uK K))(C_ways_of_deed:Cal P w K mg base "ways_of_deed" 1 ["house","deed"] (iE K))(C_beginning_table:Cal P w K mg base "beginning_table" 2 ["house"] (pE K)):Cal P w K mg base "kept_table" 3 ["house"] (jX K):=by
 have nd:=(uB).nd
 refine D.ok uB (fun vs H Q E h=>?_) (fun X hX H vs Q E h=>?_)
 ·obtain⟨vh,m,ws,rfl,_⟩:=h;rfl
 ·obtain⟨f,cdv,A,outer,s,H0,E0,rfl,hr⟩:=hX
  obtain⟨vh,m,ws,rfl,hv,ok,q⟩:=h
  have m1:=ok.m1
  have m12:=ok.m12
  refine⟨_,(aj (aF (i:=1) nd rfl (Or.inl rfl) (aL C_beginning_table hr (aa (pv 0) ae)))
    (aj (aF (i:=2) nd rfl (Or.inl rfl) (aL C_ways_of_deed hr (aa (pv 0) (aa aJ ae))))
    (aj (aF (i:=3) nd rfl (Or.inl rfl) (aL C_ways_of_deed hr (aa (pv 0) (aa aJ ae))))
    (aj (bA (aL C_join_walks hr (aa (pv 1) ae)))
    (aj (ue PassesOwn.never (cN (aL C_add_arches hr (aa (pv 1) (aa (pv 2) (aa (pv 3) ae))))) (ax (bA (aL C_join_walks hr (aa (pv 1) ae)))))
    (ax (aQ (pv 1)))))))),?_⟩
  walk_at "r"
  refine⟨vh,m,ws,rfl,hv,ok,fun tq rs M H1 kt bg=>?_⟩
  walk_at "r"
  refine⟨vh,m,ws,_,rfl,hv.ext kt.ext,ok,fun lu cu us H2 e2 hlu hlu2 hau hus=>?_⟩
  walk_at "r"
  refine⟨vh,m,ws,_,rfl,hv.ext (kt.ext.trans e2),ok,fun ld cd ds H3 e3 hld hld2 had hds=>?_⟩
  have kt3:=kt.more (e2.trans e3)
  have kj:KJ ws m.toNat M:=⟨fun i j h=>(bg i j).mpr h,fun i j h=>by
   rcases(bg i j).mp h with h | ⟨w,hw,hd,rfl,rfl⟩
   ·exact .inl h
   ·exact .inr (.stay hw hd)⟩
  have nin:∀l,H1 l=none->l∉rs/\l≠tq:=fun l hl=>by
   refine⟨fun z=>?_,fun z=>?_⟩
   ·obtain⟨j,hj⟩:=List.getElem?_of_mem z
    rw[kt.rows.2 j l hj]at hl
    cases hl
   ·rw[z,kt.rows.1]at hl
    cases hl
  have hld1:H1 ld=none:=by
   cases z:H1 ld with
   | none=>rfl
   | some o=>rw[e2 _ _ z]at hld;cases hld
  have ud:UD H3 tq rs lu ld cu cd us ds:=⟨e3 _ _ hlu2,hau.ext e3,hld2,had,(nin lu hlu).1,(nin ld hld1).1,(nin lu hlu).2,(nin ld hld1).2⟩
  have hin:∀w∈us++ds,0<=w.room/\w.room<(m.toNat:Int)/\0<=w.other/\w.other<(m.toNat:Int):=fun w hw=>by
   have hw':w∈ws:=by
    rcases BE.mp hw with h | h
    ·rw[hus]at h;exact(List.mem_filter.mp h).1
    ·rw[hds]at h;exact(List.mem_filter.mp h).1
   have h:=ok.ok w hw'
   have h1:=h.r0
   have h2:=h.r1
   have h3:=h.o0
   have h4:=h.o1
   omega
  clear hlu2 hau hld2 had nin hld1
  walk_at "r"
  refine⟨tq,rs,m.toNat,M,rfl,kt3.tb,by omega,fun rs1 M1 H4 tb jd=>?_⟩
  have kt4:=kt3.byB tb
  have ud4:=ud.byB kt3.rows tb
  have kj4:=kj.join jd
  walk_at "r"
  refine tJ (fun mm σ H'=>∃rs M,KT H H' tq rs m.toNat M/\UD H' tq rs lu ld cu cd us ds/\KJ ws m.toNat M/\(∀i a j,a<m.toNat->M i a=true->M a j=true->M i j=true)/\mm=gF m.toNat M/\σ=[some vh,some (.ref tq),some (.ref lu),some (.ref ld)]) (fun σ H'=>∃rs M,KT H H' tq rs m.toNat M/\nR ws m.toNat M/\σ=[some vh,some (.ref tq),some (.ref lu),some (.ref ld)]) (gF m.toNat M1) ⟨rs1,M1,kt4,ud4,kj4,jd.tr,rfl,rfl⟩ ?_ ?_
  ·rintro mm σ H5 ⟨rs5,M5,kt5,ud5,kj5,tr5,rfl,rfl⟩
   walk_at "r"
   refine⟨tq,rs5,m.toNat,M5,lu,cu,us,ld,cd,ds,rfl,kt5.tw,ud5.u,ud5.au,ud5.d,ud5.ad,ud5.nu,ud5.nd,hin,fun M6 ad H6 tw ar cl=>?_⟩
   have kt6:=kt5.byW tw
   have ud6:=ud5.byW kt5.rows tw
   rw[hus,hds]at ar
   have kj6:=kj5.arch ok.ok ar
   walk_at "r"
   cases ad with
   | false=>
    refine aP ⟨rs5,M6,kt6,ya ok.ok kj6 (fun i a j ha h1 h2=>?_) (fun u hu d hd hm=>?_),rfl⟩
    ·rw[ar.same rfl]at h1 h2 ⊢
     exact tr5 i a j ha h1 h2
    ·rw[ar.same rfl]at hm ⊢
     exact cl rfl u (by rw[hus];exact hu) d (by rw[hds];exact hd) hm
   | true=>
    refine aK ⟨fun σ' H'=>∃rs M,KT H H' tq rs m.toNat M/\UD H' tq rs lu ld cu cd us ds/\KJ ws m.toNat M/\(∀i a j,a<m.toNat->M i a=true->M a j=true->M i j=true)/\gF m.toNat M<gF m.toNat M5/\σ'=[some vh,some (.ref tq),some (.ref lu),some (.ref ld)],fun σ' H' ⟨rs,M,a1,a2,a3,a4,a5,a6⟩=>⟨_,a5,rs,M,a1,a2,a3,a4,rfl,a6⟩,?_⟩
    walk_at "r"
    refine⟨tq,rs5,m.toNat,M6,rfl,kt6.tb,by omega,fun rs7 M7 H7 tb7 jd7=>?_⟩
    walk_at "r"
    obtain⟨i,j,hi,hj,hf,ht⟩:=ar.more rfl
    exact⟨rs7,M7,kt6.byB tb7,ud6.byB kt6.rows tb7,kj6.join jd7,jd7.tr,xJ hi hj (fun a b h=>jd7.le _ _ (ar.le _ _ h)) hf (jd7.le _ _ ht),rfl⟩
  ·rintro σ H5 ⟨rs5,M5,kt5,hk5,rfl⟩
   walk_at "r"
   exact q tq rs5 M5 H5 kt5 hk5
theorem nK{sp:Sp}{js:List Nat}{cells:List (Str×Addr)}{N:List Str}{ta:TA}{σ:St}{H:Hp}{Q:VK} (h:ta σ H fun vs H1=>(∀j∈js,∃v,σ[j]?=some (some v)) ∧
 ∀cp:List Cap,cp.length=js.length->(∀(i j:Nat) (e:Cap),js[i]?=some j->cp[i]?=some e->N[j]?=some e.n/\cells.lookup e.n=some e.c/\σ[j]?=some (some e.v)/\H1 e.c=none/\∃u,e.o.data=.cell (some u)/\RelV e.v u) →
  sp vs (bw (cellsOf cp) H1) (fun v H'=>(∀b o,(cellsOf cp).lookup b=some o->H' b=some (cn b o))/\Q v (aR (cellsOf cp) H')) E0):iU sp js cells N ta σ H Q:=h
theorem AH{P:Program}{w:World}{K:Be}{mg:Str->Option Value}{base:Heap}{k:Nat}{tf:TE}{ta:TA}{σ:St}{H:Hp}{Q:VK}(h:tf σ H fun fv H1=>∃f pre R,fv=.ref f/\FunR P w K mg base k f pre R/\pre H1/\ta σ H1 fun vs H2=>pre H2/\R vs H2 Q):qA P w K mg base k tf ta σ H Q:=h
theorem mf{cs:List (Addr×Obj)}{H:Hp}(hn:∀b o,cs.lookup b=some o->H b=none):Ext H (bw cs H):=fun b o e=>kJ hn e
theorem dw{cs:List (Addr×Obj)}{H:Hp}(hc:∀b o,cs.lookup b=some o->H b=some (cn b o)){b:Addr}{x:HO}(hb:H b=some x)(nx:∀f,x≠.ext f):aR cs H b=some x:=by
 cases q:cs.lookup b with
 | none=>rw[bT q];exact hb
 | some o=>rw[hc b o q]at hb;cases hb;exact absurd rfl (nx _)
theorem i7{cs:List (Addr×Obj)}{H:Hp}(hc:∀b o,cs.lookup b=some o->H b=some (cn b o)):Ext H (bw cs (aR cs H)):=fun b x e=>by
 cases q:cs.lookup b with
 | none=>rw[cc q,bT q];exact e
 | some o=>rw[dY q,←hc b o q];exact e
theorem yR{cs:List (Addr×Obj)}{H H':Hp}(hn:∀b o,cs.lookup b=some o->H b=none)(e:Ext (bw cs H) H'):Ext H (aR cs H'):=fun b x hb=>by
 cases q:cs.lookup b with
 | none=>rw[bT q];exact e b x (by rw[cc q];exact hb)
 | some o=>rw[hn b o q]at hb;cases hb
def aY(n:Nat)(g:Nat->Nat->Bool):Nat->List Bfs.Pl
 | 0=>[]
 | p+1=>aY n g p++((List.range n).filter (g p)).map fun q:Nat=>(((p:Nat):Int),((q:Nat):Int))
theorem mF{n:Nat}{g:Nat->Nat->Bool}{x:Bfs.Pl}:∀{k:Nat},x∈aY n g k↔∃p q:Nat,p<k/\q<n/\g p q=true/\x=(((p:Nat):Int),((q:Nat):Int))
 | 0=>⟨fun h=>(nomatch h),fun⟨p,_,h,_⟩=>absurd h (Nat.not_lt_zero _)⟩
 | k+1=>by
  show x∈aY n g k++_↔_
  rw[BE,mF (k:=k)]
  constructor
  ·rintro(⟨p,q,h1,h2⟩ | h)
   ·exact⟨p,q,by omega,h2⟩
   ·obtain⟨q,hq,rfl⟩:=List.mem_map.mp h
    obtain⟨h1,h2⟩:=List.mem_filter.mp hq
    exact⟨k,q,by omega,List.mem_range.mp h1,h2,rfl⟩
  ·rintro⟨p,q,h1,h2,h3,rfl⟩
   by_cases hp:p<k
   ·exact .inl ⟨p,q,hp,h2,h3,rfl⟩
   ·have:p=k:=by omega
    subst this
    exact .inr (List.mem_map.mpr ⟨q,List.mem_filter.mpr ⟨List.mem_range.mpr h2,h3⟩,rfl⟩)
theorem mx(n:Nat)(g:Nat->Bool):((List.range n).filter g).length<=n:=BL (List.length_filter_le _ _) (by rw[List.length_range];exact BB _)
theorem fW{n:Nat}{g:Nat->Nat->Bool}:∀k:Nat,(aY n g k).length<=k*n
 | 0=>by simp[aY]
 | k+1=>by
  show(aY n g k++_).length<=_
  rw[Bz,Bi,Nat.succ_mul]
  have:=fW (n:=n) (g:=g) k
  have:=mx n (g k)
  omega
theorem bV{H H':Hp}(f:∀a x,aH H a x->aH H' a x){as:List Addr}{xs:List Bfs.Pl}(h:Paired (aH H) as xs):Paired (aH H') as xs:=by
 induction h with
 | nil=>exact .nil
 | cons h t ih=>exact .cons (f _ _ h) ih
theorem vD{H:Hp}{as:List Addr}{xs:List Bfs.Pl}{a:Addr}{x:Bfs.Pl}(h:Paired (aH H) as xs)(ht:aH H a x):Paired (aH H) (as++[a]) (xs++[x]):=by
 induction h with
 | nil=>exact .cons ht .nil
 | cons h _ ih=>exact .cons h ih
theorem vK{H:Hp}{as bs:List Addr}{xs ys:List Bfs.Pl}(h:Paired (aH H) as xs)(h':Paired (aH H) bs ys):Paired (aH H) (as++bs) (xs++ys):=by
 induction h with
 | nil=>exact h'
 | cons h _ ih=>exact .cons h ih
theorem mJ{H:Hp}{as:List Addr}{xs:List Bfs.Pl}(h:Paired (aH H) as xs):as.length=xs.length:=by
 induction h with
 | nil=>rfl
 | cons _ _ ih=>rw[BI,BI,ih]
def jB(P:Program)(w:World)(K:Be)(mg:Str->Option Value)(base:Heap):Sp:=fun vs H Q _=>∃vh m ws f pre g,vs=[vh,.ref f]/\bD H vh m ws/\HOuse m ws/\FunR P w K mg base 1 f pre (fun vs H Q=>∃p q:Nat,vs=[.int (p:Nat),.int (q:Nat)]/\(p:Int)<m/\(q:Int)<m/\∀H',Ext H H'->Q (.bl (g p q)) H')/\pre H/\(∀H H',Ext H H'->pre H->pre H') ∧
 ∀l ps H',Ext H H'->H l=none->H' l=some (.lst (List.map V.ref ps))->Paired (aH H') ps (aY m.toNat g m.toNat)->Q (.ref l) H'
abbrev kK:Stmt:=stq 18
theorem sv:FnScope ["house","choice","pairs","p"] ["house","choice"] (aO kK):=⟨rfl,rfl,rfl,by decide +kernel,rfl,by decide +kernel,by decide +kernel⟩
theorem wZ{P:Program}{w:World}{K:Be}{mg:Str->Option Value}{base:Heap}(D:Dfn K mg "told_pairs" kK ["house","choice"])(T:Blt mg):Cal P w K mg base "told_pairs" 2 ["house","choice"] (jB P w K mg base):=by
 have nd:=(sv).nd
 refine D.ok sv (fun vs H Q E h=>?_) (fun X hX H vs Q E h=>?_)
 ·obtain⟨vh,m,ws,f,pre,g,rfl,_⟩:=h;rfl
 ·obtain⟨f,cdv,A,outer,s,H0,E0,rfl,hr⟩:=hX
  obtain⟨vh,m,ws,ff,pre,g,rfl,hv,ok,hF,hpre,hmono,q⟩:=h
  have m1:=ok.m1
  have m12:=ok.m12
  obtain⟨hp0,hq0,rfl,hh,_⟩:=id hv
  refine⟨_,(@aj _ _ _ _ _ (@aF _ _ 2 _ _ _ _ nd rfl (Or.inl rfl) (@bF _ _ _ _ ae) rfl (Or.inl rfl))
    (@aj _ _ _ _ _ (bP PassesOwn.never rfl (cb rfl T.range_ (@aa _ _ _ _ _ (@ai _ _ _ _ _ _ _ (aN K) (pv 0) af (fun _ _=>rfl)) ae rfl)) (aS (i:=3) nd rfl (Or.inr rfl)) (@ax _ _ _ (bA (bK K Bp PySem.F.slot_list_extend PySem.F.type_list_extend AB (pv 2) (@aa _ _ _ _ _ (cM ["q"] [3,1] (cb rfl T.range_ (@aa _ _ _ _ _ (@ai _ _ _ _ _ _ _ (aN K) (pv 0) af (fun _ _=>rfl)) ae rfl)) (fun _=>(aS (i:=0) (show(["q","p","choice"]:List Str).Nodup from by decide +kernel) rfl (Or.inl rfl) (Or.inr rfl))) (fun _=>(gg (cN (zv (P:=P) (w:=w) (K:=K) (mg:=mg) (base:=base) hr (pv 2) (@aa _ _ _ _ _ (pv 1) (@aa _ _ _ _ _ (pv 0) ae rfl) rfl))))) (fun _=>(@bx _ _ _ _ _ (@aa _ _ _ _ _ (pv 1) (@aa _ _ _ _ _ (pv 0) ae rfl) rfl)))) ae rfl)))))
    (@ax _ _ _ (@aQ _ _ _ _ (pv 2))))),?_⟩
  walk_at "r"
  refine aE fun l H1 e1 hl hfl=>?_
  walk_at "r"
  refine aM (ao.of (e1 _ _ hh)) (v:=.int m) rfl ?_
  walk_at "r"
  refine b6 (by omega) ?_
  refine forR (fun p σ H'=>∃ps k1,Ext H H'/\H' l=some (.lst (List.map V.ref ps))/\Paired (aH H') ps (aY m.toNat g p)/\σ=[some (.ref hp0),some (.ref ff),some (.ref l),k1]) ⟨[],_,e1,hl,.nil,rfl⟩ ?_ ?_
  ·rintro p σ H2 hp ⟨ps,k1,e2,hl2,hps,rfl⟩
   rw[show (0:Int)+(p:Int)=((p:Nat):Int) by omega]
   have hpl:=mJ hps
   have hpn:=fW (n:=m.toNat) (g:=g) p
   have hpm:p*m.toNat<=12*12:=Nat.mul_le_mul (by omega) (by omega)
   walk_at "r"
   refine⟨cS (ag.of hl2),?_⟩
   walk_at "r"
   refine aM (ao.of (e2 _ _ hh)) (v:=.int m) rfl ?_
   walk_at "r"
   refine b6 (by omega) ?_
   refine iL (fun i ys H'=>Ext H2 H'/\∃cs,ys=List.map V.ref cs/\Paired (aH H') cs (((List.range i).filter (g p)).map fun q:Nat=>(((p:Nat):Int),((q:Nat):Int)))) (bW (by omega)) ⟨Ext.rfl' _,[],rfl,.nil⟩ ?_ ?_ ?_
   ·rintro i ys H' _ ⟨_,cs,rfl,hcs⟩
    rw[Bi,mJ hcs,Bi]
    exact mx i (g p)
   ·rintro i ys H3 hi ⟨e3,cs,rfl,hcs⟩
    rw[show (0:Int)+(i:Int)=((i:Nat):Int) by omega]
    have e23:=e2.trans e3
    walk_at "r"
    refine AH ?_
    walk_at "r"
    refine⟨ff,pre,_,rfl,hF,hmono _ _ e23 hpre,?_⟩
    walk_at "r"
    refine⟨hmono _ _ e23 hpre,p,i,rfl,by omega,by omega,fun H4 e4=>?_⟩
    have e24:=e3.trans e4
    cases hg:g p i with
    | false=>
     refine rd_exb (aP ⟨e24,cs,rfl,?_⟩)
     rw[List.range_succ,List.filter_append]
     have:List.filter (g p) [i]=[]:=by
      rw[List.filter_cons,if_neg (by rw[hg];exact Bx)]
      rfl
     rw[this,List.append_nil]
     exact bV (fun a x h=>e4 _ _ h) hcs
    | true=>
     refine rd_exb (aK ?_)
     walk_at "r"
     refine aE fun t H5 e5 ht _=>?_
     refine⟨e24.trans e5,cs++[t],?_,?_⟩
     ·rw[By];rfl
     ·rw[List.range_succ,List.filter_append,By]
      have:List.filter (g p) [i]=[i]:=by
       rw[List.filter_cons,if_pos hg]
       rfl
      rw[this]
      exact vD (bV (fun a x h=>(e4.trans e5) _ _ h) hcs) ht
   ·rintro ys H3 p9 ⟨e3,cs,rfl,hcs⟩ hp9
    have e4:=bI (o:=.lst (List.map V.ref cs)) hp9
    have h9:(upd H3 p9 (.lst (List.map V.ref cs))) p9=_:=aG
    have hcs4:=bV (fun a x h=>e4 _ _ h) hcs
    have e24:=e3.trans e4
    have hl4:=e24 _ _ hl2
    have hps4:=bV (fun a x h=>e24 _ _ h) hps
    generalize upd H3 p9 (.lst (List.map V.ref cs))=H4 at e4 h9 hcs4 e24 hl4 hps4 ⊢
    have hcl:=mJ hcs
    rw[Bi]at hcl
    have hfl2:=mx m.toNat (g p)
    walk_at "r"
    refine⟨l,p9,_,_,rfl,rfl,hl4,h9,bW (by rw[Bi,Bi];omega),?_⟩
    walk_at "r"
    refine⟨ps++cs,_,cD (e2.trans e24) hfl,?_,?_,rfl⟩
    ·rw[aG,By]
    ·exact vK (bV (fun a x h=>aH.put hl4 (fun xs z=>by cases z) h) hps4) (bV (fun a x h=>aH.put hl4 (fun xs z=>by cases z) h) hcs4)
  ·rintro σ H2 ⟨ps,k1,e2,hl2,hps,rfl⟩
   walk_at "r"
   exact q l ps H2 e2 hfl hl2 hps
def gD(K:Be):Prop:=∀x∈(["fallen","kept","risen"]:List Str),∀y∈(["fallen","kept","risen"]:List Str),x≠y->∀c T c' T',PySem.W.tabIn K x=some (c,T)->PySem.W.tabIn K y=some (c',T')->T'≠T
def ym(K:Be):Bool:=(["fallen","kept","risen"]:List Str).all fun x=>(["fallen","kept","risen"]:List Str).all fun y=>x == y || (match PySem.W.tabIn K x,PySem.W.tabIn K y with | some a,some b=>b.2 != a.2 | _,_=>true)
theorem wj{K:Be}(h:ym K=true):gD K:=fun x hx y hy hn c T c' T' e1 e2=>by
 have h1:=BN.mp (BN.mp h x hx) y hy
 rw[e1,e2,Bool.or_eq_true]at h1
 rcases h1 with h1 | h1
 ·exact absurd (eq_of_beq h1) hn
 ·exact bne_iff_ne.mp h1
structure Tbs(K:Be)(H:Hp):Prop where
 kept:b9 K "kept" ("kept" ++ ".<locals>." ++ "<lambda>") 76 29 H
 low:b9 K "fallen" ("fallen" ++ ".<locals>." ++ "<lambda>") 86 29 H
 risen:b9 K "risen" ("risen" ++ ".<locals>." ++ "<lambda>") 81 29 H
theorem Tbs.ext{K:Be}{H H':Hp}(e:Ext H H')(h:Tbs K H):Tbs K H':=⟨h.kept.ext e,h.low.ext e,h.risen.ext e⟩
theorem cj.et{H H':Hp}{p:Addr}{kk:List (List Key)}(e:Et H H')(h:cj H p kk):cj H' p kk:=by
 obtain⟨bs,h1,h2,h3⟩:=h
 exact⟨bs,e _ _ h1 (fun ps z=>by cases z),h2,fun j b k e1 e2=>e _ _ (h3 j b k e1 e2) (fun ps z=>by cases z)⟩
theorem bD.et{H H':Hp}{v:V}{m:Int}{ws:List Way}(e:Et H H')(h:bD H v m ws):bD H' v m ws:=by
 obtain⟨p,q,rfl,h1,h2⟩:=h
 exact⟨p,q,rfl,e _ _ h1 (fun ps z=>by cases z),h2.et e⟩
theorem Rows.et{H H':Hp}(e:Et H H'){q:Addr}{rs:List Addr}{n:Nat}{M:Nat->Nat->Bool}(h:Rows H q rs n M):Rows H' q rs n M:=⟨e _ _ h.1 (fun ps z=>by cases z),fun i r hi=>e _ _ (h.2 i r hi) (fun ps z=>by cases z)⟩
theorem aA.et{H H':Hp}{bs:List Addr}{ws:List Way}(e:Et H H')(h:aA H bs ws):aA H' bs ws:=⟨h.1,fun j b w e1 e2=>e _ _ (h.2 j b w e1 e2) (fun ps z=>by cases z)⟩
theorem aH.et{H H':Hp}(e:Et H H'){p:Addr}{x:Bfs.Pl}(h:aH H p x):aH H' p x:=e _ _ h (fun ps z=>by cases z)
def iN(H:Hp)(l:Addr)(n:Nat)(R:Nat->Nat->Prop):Prop:=∃ps g,H l=some (.lst (List.map V.ref ps))/\Paired (aH H) ps (aY n g n)/\∀i j,i<n->j<n->(g i j=true↔R i j)
theorem held{cs:List (Addr×Obj)}{H3 H4:Hp}(hn:∀b o,cs.lookup b=some o->H3 b=none)(e4:Ext (bw cs H3) H4):(∀b o,cs.lookup b=some o->H4 b=some (cn b o))/\Ext H3 (aR cs H4)/\(∀l,bw cs H3 l=none->aR cs H4 l=H4 l)/\∀b x,H4 b=some x->(∀f,x≠.ext f)->aR cs H4 b=some x:=by
 have hc:∀b o,cs.lookup b=some o->H4 b=some (cn b o):=fun b o q=>e4 _ _ (dY q)
 refine⟨hc,yR hn e4,fun l hl=>?_,fun b x hb nx=>dw hc hb nx⟩
 cases q:cs.lookup l with
 | none=>exact bT q
 | some o=>rw[dY q]at hl;cases hl
theorem pM{α:Type}{cp:List α}(h:cp.length=1):∃e,cp=[e]:=by
 cases cp with
 | nil=>exact absurd h (by simp)
 | cons e r=>
  cases r with
  | nil=>exact⟨e,rfl⟩
  | cons _ _=>exact absurd h (by simp)
theorem iB{α:Type}{cp:List α}(h:cp.length=2):∃e e',cp=[e,e']:=by
 cases cp with
 | nil=>exact absurd h (by simp)
 | cons e r=>
  obtain⟨e',rfl⟩:=pM (cp:=r) (by simpa using h)
  exact⟨e,e',rfl⟩
theorem nN{P:Program}{w:World}{K:Be}{mg:Str->Option Value}{base:Heap}{k:Nat}{f c:Addr}{q:Str}{params:Arguments}{body:Expr}{scope:Scope}{cl cells:List (Str×Addr)}{H0:Hp}(hf:H0 f=some (dI f c q params body scope cl))(C:ClOk scope cells cl)(ps:List Str)(cp:List Cap)(R:List V->Hp->VK->Prop)(I:Hp->Prop)
  (S:LamSc ps scope) (bind:∀(pm cv ctv:Value) (us:List Value),us.length=ps.length->bindArgs (PySem.W.kla_fn "<lambda>" q params body scope cl pm cv ctv) ⟨us,[]⟩=pure (ps.zip us))
  (hR:∀vs H Q,R vs H Q->vs.length=ps.length)
  (hbody:∀(A:Around) (outer:List Env) (s:Shared) (H:Hp) (vs:List V) (Q:VK),Room k (A.deeper (dv q scope s.heap.objs.size f (.ref c) cl))->fJ f c q params body scope cl cp H->I H->R vs H Q →
   ∃te,PE (iu P w K mg base (ps++cp.map (·.n)) q scope f (.ref c) cl A outer s (aR (cellsOf cp) H)) body te/\te (vs.map some++cp.map fun e=>some e.v) (aR (cellsOf cp) H) fun v H'=>(∀b o,(cellsOf cp).lookup b=some o->H' b=none)->Q v (bw (cellsOf cp) H')) :
  FunR P w K mg base (k+1) f (fun H=>fJ f c q params body scope cl cp H/\I H) R:=xc I S C bind hR hbody
def mQ(K:Be):Sp:=fun vs H Q _=>∃vh m ws,vs=[vh]/\bD H vh m ws/\HOuse m ws/\gD K/\Tbs K H/\∀l H',Et H H'->Tbs K H'->(∀o,H l=some o->∃ps,o=.tbl ps)->iN H' l m.toNat (Kpt ws m.toNat)->Q (.ref l) H'
abbrev lO:Stmt:=stq 23
theorem qZ:FnScope ["house","table"] ["house"] (aO lO):=⟨rfl,rfl,rfl,by decide +kernel,rfl,by decide +kernel,by decide +kernel⟩
theorem y7{P:Program}{w:World}{K:Be}{mg:Str->Option Value}{base:Heap}(D:Dfn K mg "kept" lO ["house"])(T:Blt mg){c9 T9:Addr}(B:Tab K mg base "kept" c9 T9)(C_told_pairs:Cal P w K mg base "told_pairs" 2 ["house","choice"] (jB P w K mg base))(C_kept_table:Cal P w K mg base "kept_table" 3 ["house"] (jX K))(C_refuse_no_house:Cal P w K mg base "refuse_no_house" 6 ["thing"] (jP K)):Cal P w K mg base "kept" 7 ["house"] (mQ K):=by
 have nd:=(qZ).nd
 refine D.okL B qZ (fun vs H Q E h=>?_) (fun X hX H vs Q E h=>?_)
 ·obtain⟨vh,m,ws,rfl,_⟩:=h;rfl
 ·obtain⟨f,A,outer,s,H0,E0,rfl,hr⟩:=hX
  obtain⟨vh,m,ws,rfl,hv,ok,dis,htb,q⟩:=h
  have m1:=ok.m1
  have m12:=ok.m12
  refine⟨_,(aj (bA (aL C_refuse_no_house hr (aa (pv 0) ae)))
    (aj (aF (i:=1) nd rfl (Or.inr rfl) (aL C_kept_table hr (aa (pv 0) ae)))
    (ax (aQ (nE [1] C_told_pairs hr (aa (pv 0) (aa (lZ rfl rfl B.hd B.blt B.gl (by decide +kernel) rfl rfl rfl) ae))))))),?_⟩
  walk_at "r"
  refine⟨vh,m,ws,rfl,hv,ok,fun H1 e1=>?_⟩
  walk_at "r"
  refine⟨vh,m,ws,rfl,hv.ext e1,ok,fun tq rs M H2 kt km=>?_⟩
  have e02:=e1.trans kt.ext
  have hrows:=kt.rows
  have hrl:=kt.len
  walk_at "r"
  show iU _ [1] _ (["house","table"]:List Str) _ _ _ _
  generalize PySem.Env.cells _=cells0
  refine nK ?_
  walk_at "r"
  refine lV ?_
  refine lG (x:="kept") (htb.ext e02).kept B.tin fun fl c' cl H3 hcl e3 ht3 ot hf hc'=>?_
  have t3:Tbs K H3:=⟨ht3,ot "fallen" _ _ _ (fun c2 T2 e2=>dis "kept" (by simp) "fallen" (by simp) (by decide +kernel) _ _ _ _ B.tin e2) (htb.ext e02).low,ot "risen" _ _ _ (fun c2 T2 e2=>dis "kept" (by simp) "risen" (by simp) (by decide +kernel) _ _ _ _ B.tin e2) (htb.ext e02).risen⟩
  walk_at "r"
  refine⟨fun j hj=>?_,fun cp hlen hcp=>?_⟩
  ·rw[Bs.mp hj]
   exact⟨_,rfl⟩
  obtain⟨⟨n,c,o,v⟩,rfl⟩:=pM hlen
  obtain⟨hN,hcc,hσ,hnone,u,hdat,hrel⟩:=hcp 0 1 _ rfl rfl
  clear hcp hlen
  dsimp only at hN hcc hσ hnone hdat hrel
  have hN':(Str.ofString "table")=n:=Option.some.inj hN
  have hσ':(V.ref tq)=v:=Option.some.inj (Option.some.inj hσ)
  clear hN hσ
  subst hN'
  subst hσ'
  have hn3:∀b o',(cellsOf [⟨Str.ofString "table",c,o,V.ref tq⟩]).lookup b=some o'->H3 b=none:=fun b o' hb=>by
   obtain⟨e,he,rfl,rfl⟩:=eV hb
   rw[Bs.mp he]
   exact hnone
  have ex:=mf hn3
  have hrows3:=(hrows.et e3).ext ex
  have hv3:=((hv.ext e02).et e3).ext ex
  have hcaps:Caps (bw (cellsOf [⟨Str.ofString "table",c,o,V.ref tq⟩]) H3) cl [⟨Str.ofString "table",c,o,V.ref tq⟩]:=by
   obtain⟨c2,hc2⟩:=hcl.has (Str.ofString "table") rfl
   have hc3:=(hcl.fr _ _ hc2).2
   rw[hcc]at hc3
   cases hc3
   refine⟨fun e he=>?_,fun x d hx=>?_⟩
   ·rw[Bs.mp he]
    exact⟨hc2,dY (by simp[cellsOf]),u,hdat,hrel⟩
   ·have hm:=gK (hcl.fr x d hx).1
    simp at hm
    subst hm
    rw[hc2]at hx
    cases hx
    exact⟨_,Bs.mpr rfl,rfl,rfl⟩
  have hF:=nN (P:=P) (w:=w) (K:=K) (mg:=mg) (base:=base) (k:=0) hf hcl (["p","q"]:List Str) [⟨Str.ofString "table",c,o,V.ref tq⟩] (fun vs H Q=>∃p q:Nat,vs=[.int (p:Nat),.int (q:Nat)]/\(p:Int)<m/\(q:Int)<m/\∀H',Ext H H'->Q (.bl (M p q)) H') (fun H=>Rows H tq rs m.toNat M) ⟨rfl,rfl,rfl,by decide +kernel,by decide +kernel⟩ (fun _ _ _ us hl=>by obtain⟨u1,u2,rfl⟩:=iB hl;rfl) (fun vs H Q h=>by obtain⟨p,q,rfl,_⟩:=h;rfl) (fun A outer s H vs Q hrL hpre hI hR=>by
   obtain⟨p,q,rfl,hp,hq,hQ⟩:=hR
   have hlk:=hpre.2.2.look
   have hI':Rows (aR (cellsOf [⟨Str.ofString "table",c,o,V.ref tq⟩]) H) tq rs m.toNat M:=⟨dw hlk hI.1 (fun f z=>by cases z),fun i r hi=>dw hlk (hI.2 i r hi) (fun f z=>by cases z)⟩
   refine⟨_,(ai (aC K) (ai (aC K) (pv 2) (pv 0) (fun _ _=>rfl)) (pv 1) (fun _ _=>rfl)),?_⟩
   have hb:=i7 hlk
   generalize aR (cellsOf [⟨Str.ofString "table",c,o,V.ref tq⟩]) H=HU at hI' hb ⊢
   have hp2:p<rs.length:=by omega
   have gp:rs[p]?=some rs[p]:=Bj hp2
   have rp:=hI'.2 p _ gp
   generalize rs[p]=ap at gp rp
   show gj _ _ _ [some (.int (p:Nat)),some (.int (q:Nat)),some (.ref tq)] _ _
   walk_at "r"
   refine aD (ag.of hI'.1) (v:=.ref ap) (eT (by rw[Bk,gp];rfl)) ?_
   walk_at "r"
   refine aD (ag.of rp) (fi (by omega) (by omega)) ?_
   rw[Bu]
   exact fun _=>hQ _ hb)
  refine⟨vh,m,ws,fl,_,M,rfl,hv3,ok,hF,⟨⟨ex _ _ hf,ex _ _ hc',hcaps⟩,hrows3⟩,fun H H' e h=>⟨h.1.ext e,h.2.ext e⟩,fun l ps H4 e4 hl hl4 hps=>?_⟩
  obtain⟨a1,a2,a3,a4⟩:=held hn3 e4
  exact⟨a1,q l _ ((e02.et.trans e3).trans a2.et) (t3.ext a2) (fun o ho=>Classical.byContradiction fun z=>by
   have:=ex _ _ ((e02.et.trans e3) l o ho (fun ps w=>z ⟨ps,w⟩))
   rw[hl]at this
   cases this) ⟨ps,M,a4 _ _ hl4 (fun f z=>by cases z),bV (fun a x h=>a4 _ _ h (fun f z=>by cases z)) hps,km⟩⟩
def eG(ws:List Way)(n:Nat)(i j:Nat):Prop:=∃u∈ws,u.deed = "up"/\u.room.toNat=i/\Kpt ws n u.other.toNat j
theorem tD{cs:List (Addr×Obj)}{H H':Hp}(hc:∀b o,cs.lookup b=some o->H b=some (cn b o))(e:Ext (aR cs H) H'):Ext H (bw cs H'):=fun b x hb=>by
 cases q:cs.lookup b with
 | none=>rw[cc q];exact e b x (by rw[bT q];exact hb)
 | some o=>rw[dY q,←hc b o q];exact hb
def jG(us:List Way)(M:Nat->Nat->Bool)(p q:Nat):Bool:=((us.filter fun u=>decide (u.room=(p:Int))).map fun u=>M u.other.toNat q).any id
def kh(K:Be):Sp:=fun vs H Q _=>∃vh m ws,vs=[vh]/\bD H vh m ws/\HOuse m ws/\gD K/\Tbs K H/\∀l H',Et H H'->Tbs K H'->(∀o,H l=some o->∃ps,o=.tbl ps)->iN H' l m.toNat (eG ws m.toNat)->Q (.ref l) H'
abbrev nz:Stmt:=stq 24
theorem rN:FnScope ["house","table","ups"] ["house"] (aO nz):=⟨rfl,rfl,rfl,by decide +kernel,rfl,by decide +kernel,by decide +kernel⟩
theorem yf{P:Program}{w:World}{K:Be}{mg:Str->Option Value}{base:Heap}(D:Dfn K mg "risen" nz ["house"])(T:Blt mg){c9 T9:Addr}(B:Tab K mg base "risen" c9 T9)(C_told_pairs:Cal P w K mg base "told_pairs" 2 ["house","choice"] (jB P w K mg base))(C_ways_of_deed:Cal P w K mg base "ways_of_deed" 1 ["house","deed"] (iE K))(C_kept_table:Cal P w K mg base "kept_table" 3 ["house"] (jX K))(C_refuse_no_house:Cal P w K mg base "refuse_no_house" 6 ["thing"] (jP K)):Cal P w K mg base "risen" 7 ["house"] (kh K):=by
 have nd:=(rN).nd
 refine D.okL B rN (fun vs H Q E h=>?_) (fun X hX H vs Q E h=>?_)
 ·obtain⟨vh,m,ws,rfl,_⟩:=h;rfl
 ·obtain⟨f,A,outer,s,H0,E0,rfl,hr⟩:=hX
  obtain⟨vh,m,ws,rfl,hv,ok,dis,htb,q⟩:=h
  have m1:=ok.m1
  have m12:=ok.m12
  have few:=ok.few
  refine⟨_,(aj (bA (aL C_refuse_no_house hr (aa (pv 0) ae)))
    (aj (aF (i:=1) nd rfl (Or.inr rfl) (aL C_kept_table hr (aa (pv 0) ae)))
    (aj (aF (i:=2) nd rfl (Or.inr rfl) (aL C_ways_of_deed hr (aa (pv 0) (aa aJ ae))))
    (ax (aQ (nE [2,1] C_told_pairs hr (aa (pv 0) (aa (lZ rfl rfl B.hd B.blt B.gl (by decide +kernel) rfl rfl rfl) ae)))))))),?_⟩
  walk_at "r"
  refine⟨vh,m,ws,rfl,hv,ok,fun H1 e1=>?_⟩
  walk_at "r"
  refine⟨vh,m,ws,rfl,hv.ext e1,ok,fun tq rs M H1b kt km=>?_⟩
  walk_at "r"
  refine⟨vh,m,ws,_,rfl,hv.ext (e1.trans kt.ext),ok,fun lu cu us H2 e2 hlu hlu2 hau hus=>?_⟩
  have e02:=(e1.trans kt.ext).trans e2
  have hrows:=kt.rows.ext e2
  have hrl:=kt.len
  have hcu:=hau.1
  have hul:us.length<=100:=by rw[hus];exact BL (List.length_filter_le _ _) few
  have hin:∀u∈us,u∈ws/\u.deed=Str.ofString "up":=fun u hu=>by
   rw[hus]at hu
   obtain⟨h1,h2⟩:=List.mem_filter.mp hu
   exact⟨h1,of_decide_eq_true h2⟩
  walk_at "r"
  show iU _ [2,1] _ (["house","table","ups"]:List Str) _ _ _ _
  generalize PySem.Env.cells _=cells0
  refine nK ?_
  walk_at "r"
  refine lV ?_
  refine lG (x:="risen") (htb.ext e02).risen B.tin fun fl c' cl H3 hcl e3 ht3 ot hf hc'=>?_
  have t3:Tbs K H3:=⟨ot "kept" _ _ _ (fun c2 T2 e2=>dis "risen" (by simp) "kept" (by simp) (by decide +kernel) _ _ _ _ B.tin e2) (htb.ext e02).kept,ot "fallen" _ _ _ (fun c2 T2 e2=>dis "risen" (by simp) "fallen" (by simp) (by decide +kernel) _ _ _ _ B.tin e2) (htb.ext e02).low,ht3⟩
  walk_at "r"
  refine⟨fun j hj=>?_,fun cp hlen hcp=>?_⟩
  ·rcases Bw.mp hj with rfl | hj
   ·exact⟨_,rfl⟩
   ·rw[Bs.mp hj]
    exact⟨_,rfl⟩
  obtain⟨⟨n,c,o,v⟩,⟨n',d,o',v'⟩,rfl⟩:=iB hlen
  obtain⟨hN,hcc,hσ,hnone,u,hdat,hrel⟩:=hcp 0 2 _ rfl rfl
  obtain⟨hN2,hcc2,hσ2,hnone2,u2,hdat2,hrel2⟩:=hcp 1 1 _ rfl rfl
  clear hcp hlen
  dsimp only at hN hcc hσ hnone hdat hrel hN2 hcc2 hσ2 hnone2 hdat2 hrel2
  have hN':(Str.ofString "ups")=n:=Option.some.inj hN
  have hσ':(V.ref lu)=v:=Option.some.inj (Option.some.inj hσ)
  have hN2':(Str.ofString "table")=n':=Option.some.inj hN2
  have hσ2':(V.ref tq)=v':=Option.some.inj (Option.some.inj hσ2)
  clear hN hσ hN2 hσ2
  subst hN'
  subst hσ'
  subst hN2'
  subst hσ2'
  obtain⟨c2,hc2⟩:=hcl.has (Str.ofString "ups") rfl
  obtain⟨d2,hd2⟩:=hcl.has (Str.ofString "table") rfl
  have hc3:=(hcl.fr _ _ hc2).2
  have hd3:=(hcl.fr _ _ hd2).2
  rw[hcc]at hc3
  rw[hcc2]at hd3
  cases hc3
  cases hd3
  have ncd:c≠d:=fun z=>by
   have:=hcl.inj _ _ _ hc2 (z ▸ hd2)
   exact absurd this (by decide +kernel)
  have hn3:∀b o9,(cellsOf [⟨Str.ofString "ups",c,o,V.ref lu⟩,⟨Str.ofString "table",d,o',V.ref tq⟩]).lookup b=some o9->H3 b=none:=fun b o9 hb=>by
   obtain⟨e,he,rfl,rfl⟩:=eV hb
   rcases Bw.mp he with rfl | he
   ·exact hnone
   ·rw[Bs.mp he]
    exact hnone2
  have ex:=mf hn3
  have hrows3:=(hrows.et e3).ext ex
  have hlu3:=ex _ _ (e3 _ _ hlu2 (fun ps z=>by cases z))
  have hau3:=(hau.et e3).ext ex
  have hv3:=((hv.ext e02).et e3).ext ex
  have hcaps:Caps (bw (cellsOf [⟨Str.ofString "ups",c,o,V.ref lu⟩,⟨Str.ofString "table",d,o',V.ref tq⟩]) H3) cl [⟨Str.ofString "ups",c,o,V.ref lu⟩,⟨Str.ofString "table",d,o',V.ref tq⟩]:=by
   refine⟨fun e he=>?_,fun x g hx=>?_⟩
   ·rcases Bw.mp he with rfl | he
    ·exact⟨hc2,dY (by simp[cellsOf]),u,hdat,hrel⟩
    ·rw[Bs.mp he]
     refine⟨hd2,dY ?_,u2,hdat2,hrel2⟩
     show List.lookup d ((c,o)::[(d,o')])=some o'
     rw[List.lookup_cons,show (d == c)=false from beq_eq_false_iff_ne.mpr (Ne.symm ncd),List.lookup_cons,beq_self_eq_true]
   ·have hm:=gK (hcl.fr x g hx).1
    simp at hm
    rcases hm with rfl | rfl
    ·first | (rw[hc2]at hx;cases hx;exact⟨_,Bo,rfl,rfl⟩) | (rw[hd2]at hx;cases hx;exact⟨_,Bl _ (Bs.mpr rfl),rfl,rfl⟩)
    ·first | (rw[hc2]at hx;cases hx;exact⟨_,Bo,rfl,rfl⟩) | (rw[hd2]at hx;cases hx;exact⟨_,Bl _ (Bs.mpr rfl),rfl,rfl⟩)
  have hF:=nN (P:=P) (w:=w) (K:=K) (mg:=mg) (base:=base) (k:=0) hf hcl (["p","q"]:List Str) [⟨Str.ofString "ups",c,o,V.ref lu⟩,⟨Str.ofString "table",d,o',V.ref tq⟩] (fun vs H Q=>∃p q:Nat,vs=[.int (p:Nat),.int (q:Nat)]/\(p:Int)<m/\(q:Int)<m/\∀H',Ext H H'->Q (.bl (jG us M p q)) H') (fun H=>Rows H tq rs m.toNat M/\H lu=some (.lst (List.map V.ref cu))/\aA H cu us) ⟨rfl,rfl,rfl,by decide +kernel,by decide +kernel⟩ (fun _ _ _ us hl=>by obtain⟨u1,u2,rfl⟩:=iB hl;rfl) (fun vs H Q h=>by obtain⟨p,q,rfl,_⟩:=h;rfl) (fun A outer s H vs Q hrL hpre hI hR=>by
   obtain⟨p,q,rfl,hp,hq,hQ⟩:=hR
   have hlk:=hpre.2.2.look
   obtain⟨hI1,hI2,hI3⟩:=hI
   have hI1':Rows (aR (cellsOf [⟨Str.ofString "ups",c,o,V.ref lu⟩,⟨Str.ofString "table",d,o',V.ref tq⟩]) H) tq rs m.toNat M:=⟨dw hlk hI1.1 (fun f z=>by cases z),fun i r hi=>dw hlk (hI1.2 i r hi) (fun f z=>by cases z)⟩
   have hI2':=dw hlk hI2 (fun f z=>by cases z)
   have hI3':aA (aR (cellsOf [⟨Str.ofString "ups",c,o,V.ref lu⟩,⟨Str.ofString "table",d,o',V.ref tq⟩]) H) cu us:=⟨hI3.1,fun j b w e1 e2=>dw hlk (hI3.2 j b w e1 e2) (fun f z=>by cases z)⟩
   refine⟨_,(bj (oj K rfl) rfl T.any_ PyProof.Rows.boot_any (aa (cM ["way"] [3,1,0] (dZ K (pv 2)) (fun _=>(aS (i:=0) (show(["way","table","q","p"]:List Str).Nodup from by decide +kernel) rfl (Or.inl rfl) (Or.inr rfl))) (fun _=>(gg (bC bY (ai (aN K) (pv 0) af (fun _ _=>rfl)) (pv 3) (bo _)))) (fun _=>(ai (aC K) (ai (aC K) (pv 1) (ai (aN K) (pv 0) af (fun _ _=>rfl)) (fun _ _=>rfl)) (pv 2) (fun _ _=>rfl)))) ae)),?_⟩
   have hb:∀H',Ext (aR (cellsOf [⟨Str.ofString "ups",c,o,V.ref lu⟩,⟨Str.ofString "table",d,o',V.ref tq⟩]) H) H'->Ext H (bw (cellsOf [⟨Str.ofString "ups",c,o,V.ref lu⟩,⟨Str.ofString "table",d,o',V.ref tq⟩]) H'):=fun H' e=>tD hlk e
   generalize aR (cellsOf [⟨Str.ofString "ups",c,o,V.ref lu⟩,⟨Str.ofString "table",d,o',V.ref tq⟩]) H=HU at hI1' hI2' hI3' hb ⊢
   show ig _ _ [some (.int (p:Nat)),some (.int (q:Nat)),some (.ref lu),some (.ref tq)] _ _
   walk_at "r"
   refine ed (ag.of hI2') ?_
   refine jJ (xs:=List.map V.ref cu) (fun i ys H'=>H'=HU/\ys=(((us.take i).filter fun u=>decide (u.room=(p:Int))).map fun u=>M u.other.toNat q).map V.bl) (bW (by rw[Bi];omega)) ⟨rfl,rfl⟩ (fun i ys H' _ h=>⟨by rw[h.1];exact ag.of hI2',by rw[h.2,Bi,Bi];exact BL (List.length_filter_le _ _) (by rw[List.length_take];omega)⟩) ?_ ?_
   ·rintro i v ys H4 hx ⟨rfl,rfl⟩
    rw[Bk]at hx
    obtain⟨b,hb',rfl⟩:=Bt.mp hx
    have hi:i<us.length:=by rw[←hcu];exact(Bq.mp hb').1
    have gu:us[i]?=some us[i]:=Bj hi
    have hb0:=hI3'.2 i b _ hb' gu
    generalize us[i]=uu at gu hb0
    have oku:=ok.ok uu (hin uu (Br gu)).1
    have v0:=oku.r0
    have v1:=oku.r1
    have v2:=oku.o0
    have v3:=oku.o1
    have x2:uu.other.toNat<rs.length:=by omega
    have r2:rs[uu.other.toNat]?=some rs[uu.other.toNat]:=Bj x2
    have w2:=hI1'.2 _ _ r2
    generalize rs[uu.other.toNat]=a2 at r2 w2
    have at2:br (rs.map V.ref) uu.other=some (.ref a2):=fm v2 (by rw[Bk,r2];rfl)
    walk_at "r"
    refine aM (ao.of hb0) (v:=.int uu.room) rfl ?_
    walk_at "r"
    cases hc:decide (uu.room=(p:Int))with
    | true=>
     refine aK ?_
     walk_at "r"
     refine aM (ao.of hb0) (v:=.int uu.other) rfl ?_
     walk_at "r"
     refine aD (ag.of hI1'.1) at2 ?_
     walk_at "r"
     refine aD (ag.of w2) (fi (by omega) (by omega)) ?_
     rw[Bu]
     refine⟨rfl,?_⟩
     rw[List.take_add_one,gu,List.filter_append,By,By]
     congr 1
     show[V.bl _]=List.map V.bl (List.map _ (List.filter _ [uu]))
     rw[List.filter_cons,if_pos hc]
     rfl
    | false=>
     refine aP ⟨rfl,?_⟩
     have hno:List.filter (fun u:Way=>decide (u.room=(p:Int))) [uu]=[]:=by
      rw[List.filter_cons,if_neg (by rw[hc];exact Bx)]
      rfl
     rw[List.take_add_one,gu,List.filter_append]
     show _=List.map V.bl (List.map _ (_++List.filter _ [uu]))
     rw[hno,List.append_nil]
   ·rintro ys H4 p9 ⟨hH,rfl⟩ hp9
    subst hH
    rw[Bi,hcu,BJ]
    have e9:=bI (o:=.lst (((us.filter fun u=>decide (u.room=(p:Int))).map fun u=>M u.other.toNat q).map V.bl)) hp9
    walk_at "r"
    refine⟨p9,_,rfl,ag.of aG,?_⟩
    exact fun _=>hQ _ (hb _ e9))
  refine⟨vh,m,ws,fl,_,jG us M,rfl,hv3,ok,hF,⟨⟨ex _ _ hf,ex _ _ hc',hcaps⟩,hrows3,hlu3,hau3⟩,fun H H' e h=>⟨h.1.ext e,h.2.1.ext e,e _ _ h.2.2.1,h.2.2.2.ext e⟩,fun l ps H4 e4 hl hl4 hps=>?_⟩
  obtain⟨a1,a2,a3,a4⟩:=held hn3 e4
  refine⟨a1,q l _ ((e02.et.trans e3).trans a2.et) (t3.ext a2) (fun o ho=>Classical.byContradiction fun z=>by
   have:=ex _ _ ((e02.et.trans e3) l o ho (fun ps w=>z ⟨ps,w⟩))
   rw[hl]at this
   cases this) ⟨ps,jG us M,a4 _ _ hl4 (fun f z=>by cases z),bV (fun a x h=>a4 _ _ h (fun f z=>by cases z)) hps,fun i j hi hj=>?_⟩⟩
  unfold jG eG
  rw[List.any_map,BO]
  constructor
  ·rintro⟨x,hx,hm⟩
   obtain⟨x1,x2⟩:=List.mem_filter.mp hx
   have x2:=of_decide_eq_true x2
   obtain⟨y1,y2⟩:=hin x x1
   exact⟨x,y1,y2,by omega,(km _ _ (eP ok.ok y1).2 hj).mp hm⟩
  ·rintro⟨x,h1,h2,h3,h4⟩
   have r0:=(ok.ok x h1).r0
   refine⟨x,List.mem_filter.mpr ⟨by rw[hus];exact List.mem_filter.mpr ⟨h1,decide_eq_true h2⟩,decide_eq_true (by omega)⟩,?_⟩
   exact(km _ _ (eP ok.ok h1).2 hj).mpr h4
def fH(ws:List Way)(n:Nat)(i j:Nat):Prop:=∃u∈ws,u.deed = "down"/\u.other.toNat=j/\Kpt ws n i u.room.toNat
def j7(us:List Way)(M:Nat->Nat->Bool)(p q:Nat):Bool:=((us.filter fun u=>decide (u.other=(q:Int))).map fun u=>M p u.room.toNat).any id
def lR(K:Be):Sp:=fun vs H Q _=>∃vh m ws,vs=[vh]/\bD H vh m ws/\HOuse m ws/\gD K/\Tbs K H/\∀l H',Et H H'->Tbs K H'->(∀o,H l=some o->∃ps,o=.tbl ps)->iN H' l m.toNat (fH ws m.toNat)->Q (.ref l) H'
abbrev kI:Stmt:=stq 25
theorem uA:FnScope ["house","table","downs"] ["house"] (aO kI):=⟨rfl,rfl,rfl,by decide +kernel,rfl,by decide +kernel,by decide +kernel⟩
theorem yM{P:Program}{w:World}{K:Be}{mg:Str->Option Value}{base:Heap}(D:Dfn K mg "fallen" kI ["house"])(T:Blt mg){c9 T9:Addr}(B:Tab K mg base "fallen" c9 T9)(C_told_pairs:Cal P w K mg base "told_pairs" 2 ["house","choice"] (jB P w K mg base))(C_ways_of_deed:Cal P w K mg base "ways_of_deed" 1 ["house","deed"] (iE K))(C_kept_table:Cal P w K mg base "kept_table" 3 ["house"] (jX K))(C_refuse_no_house:Cal P w K mg base "refuse_no_house" 6 ["thing"] (jP K)):Cal P w K mg base "fallen" 7 ["house"] (lR K):=by
 have nd:=(uA).nd
 refine D.okL B uA (fun vs H Q E h=>?_) (fun X hX H vs Q E h=>?_)
 ·obtain⟨vh,m,ws,rfl,_⟩:=h;rfl
 ·obtain⟨f,A,outer,s,H0,E0,rfl,hr⟩:=hX
  obtain⟨vh,m,ws,rfl,hv,ok,dis,htb,q⟩:=h
  have m1:=ok.m1
  have m12:=ok.m12
  have few:=ok.few
  refine⟨_,(aj (bA (aL C_refuse_no_house hr (aa (pv 0) ae)))
    (aj (aF (i:=1) nd rfl (Or.inr rfl) (aL C_kept_table hr (aa (pv 0) ae)))
    (aj (aF (i:=2) nd rfl (Or.inr rfl) (aL C_ways_of_deed hr (aa (pv 0) (aa aJ ae))))
    (ax (aQ (nE [2,1] C_told_pairs hr (aa (pv 0) (aa (lZ rfl rfl B.hd B.blt B.gl (by decide +kernel) rfl rfl rfl) ae)))))))),?_⟩
  walk_at "r"
  refine⟨vh,m,ws,rfl,hv,ok,fun H1 e1=>?_⟩
  walk_at "r"
  refine⟨vh,m,ws,rfl,hv.ext e1,ok,fun tq rs M H1b kt km=>?_⟩
  walk_at "r"
  refine⟨vh,m,ws,_,rfl,hv.ext (e1.trans kt.ext),ok,fun lu cu us H2 e2 hlu hlu2 hau hus=>?_⟩
  have e02:=(e1.trans kt.ext).trans e2
  have hrows:=kt.rows.ext e2
  have hrl:=kt.len
  have hcu:=hau.1
  have hul:us.length<=100:=by rw[hus];exact BL (List.length_filter_le _ _) few
  have hin:∀u∈us,u∈ws/\u.deed=Str.ofString "down":=fun u hu=>by
   rw[hus]at hu
   obtain⟨h1,h2⟩:=List.mem_filter.mp hu
   exact⟨h1,of_decide_eq_true h2⟩
  walk_at "r"
  show iU _ [2,1] _ (["house","table","downs"]:List Str) _ _ _ _
  generalize PySem.Env.cells _=cells0
  refine nK ?_
  walk_at "r"
  refine lV ?_
  refine lG (x:="fallen") (htb.ext e02).low B.tin fun fl c' cl H3 hcl e3 ht3 ot hf hc'=>?_
  have t3:Tbs K H3:=⟨ot "kept" _ _ _ (fun c2 T2 e2=>dis "fallen" (by simp) "kept" (by simp) (by decide +kernel) _ _ _ _ B.tin e2) (htb.ext e02).kept,ht3,ot "risen" _ _ _ (fun c2 T2 e2=>dis "fallen" (by simp) "risen" (by simp) (by decide +kernel) _ _ _ _ B.tin e2) (htb.ext e02).risen⟩
  walk_at "r"
  refine⟨fun j hj=>?_,fun cp hlen hcp=>?_⟩
  ·rcases Bw.mp hj with rfl | hj
   ·exact⟨_,rfl⟩
   ·rw[Bs.mp hj]
    exact⟨_,rfl⟩
  obtain⟨⟨n,c,o,v⟩,⟨n',d,o',v'⟩,rfl⟩:=iB hlen
  obtain⟨hN,hcc,hσ,hnone,u,hdat,hrel⟩:=hcp 0 2 _ rfl rfl
  obtain⟨hN2,hcc2,hσ2,hnone2,u2,hdat2,hrel2⟩:=hcp 1 1 _ rfl rfl
  clear hcp hlen
  dsimp only at hN hcc hσ hnone hdat hrel hN2 hcc2 hσ2 hnone2 hdat2 hrel2
  have hN':(Str.ofString "downs")=n:=Option.some.inj hN
  have hσ':(V.ref lu)=v:=Option.some.inj (Option.some.inj hσ)
  have hN2':(Str.ofString "table")=n':=Option.some.inj hN2
  have hσ2':(V.ref tq)=v':=Option.some.inj (Option.some.inj hσ2)
  clear hN hσ hN2 hσ2
  subst hN'
  subst hσ'
  subst hN2'
  subst hσ2'
  obtain⟨c2,hc2⟩:=hcl.has (Str.ofString "downs") rfl
  obtain⟨d2,hd2⟩:=hcl.has (Str.ofString "table") rfl
  have hc3:=(hcl.fr _ _ hc2).2
  have hd3:=(hcl.fr _ _ hd2).2
  rw[hcc]at hc3
  rw[hcc2]at hd3
  cases hc3
  cases hd3
  have ncd:c≠d:=fun z=>by
   have:=hcl.inj _ _ _ hc2 (z ▸ hd2)
   exact absurd this (by decide +kernel)
  have hn3:∀b o9,(cellsOf [⟨Str.ofString "downs",c,o,V.ref lu⟩,⟨Str.ofString "table",d,o',V.ref tq⟩]).lookup b=some o9->H3 b=none:=fun b o9 hb=>by
   obtain⟨e,he,rfl,rfl⟩:=eV hb
   rcases Bw.mp he with rfl | he
   ·exact hnone
   ·rw[Bs.mp he]
    exact hnone2
  have ex:=mf hn3
  have hrows3:=(hrows.et e3).ext ex
  have hlu3:=ex _ _ (e3 _ _ hlu2 (fun ps z=>by cases z))
  have hau3:=(hau.et e3).ext ex
  have hv3:=((hv.ext e02).et e3).ext ex
  have hcaps:Caps (bw (cellsOf [⟨Str.ofString "downs",c,o,V.ref lu⟩,⟨Str.ofString "table",d,o',V.ref tq⟩]) H3) cl [⟨Str.ofString "downs",c,o,V.ref lu⟩,⟨Str.ofString "table",d,o',V.ref tq⟩]:=by
   refine⟨fun e he=>?_,fun x g hx=>?_⟩
   ·rcases Bw.mp he with rfl | he
    ·exact⟨hc2,dY (by simp[cellsOf]),u,hdat,hrel⟩
    ·rw[Bs.mp he]
     refine⟨hd2,dY ?_,u2,hdat2,hrel2⟩
     show List.lookup d ((c,o)::[(d,o')])=some o'
     rw[List.lookup_cons,show (d == c)=false from beq_eq_false_iff_ne.mpr (Ne.symm ncd),List.lookup_cons,beq_self_eq_true]
   ·have hm:=gK (hcl.fr x g hx).1
    simp at hm
    rcases hm with rfl | rfl
    ·first | (rw[hc2]at hx;cases hx;exact⟨_,Bo,rfl,rfl⟩) | (rw[hd2]at hx;cases hx;exact⟨_,Bl _ (Bs.mpr rfl),rfl,rfl⟩)
    ·first | (rw[hc2]at hx;cases hx;exact⟨_,Bo,rfl,rfl⟩) | (rw[hd2]at hx;cases hx;exact⟨_,Bl _ (Bs.mpr rfl),rfl,rfl⟩)
  have hF:=nN (P:=P) (w:=w) (K:=K) (mg:=mg) (base:=base) (k:=0) hf hcl (["p","q"]:List Str) [⟨Str.ofString "downs",c,o,V.ref lu⟩,⟨Str.ofString "table",d,o',V.ref tq⟩] (fun vs H Q=>∃p q:Nat,vs=[.int (p:Nat),.int (q:Nat)]/\(p:Int)<m/\(q:Int)<m/\∀H',Ext H H'->Q (.bl (j7 us M p q)) H') (fun H=>Rows H tq rs m.toNat M/\H lu=some (.lst (List.map V.ref cu))/\aA H cu us) ⟨rfl,rfl,rfl,by decide +kernel,by decide +kernel⟩ (fun _ _ _ us hl=>by obtain⟨u1,u2,rfl⟩:=iB hl;rfl) (fun vs H Q h=>by obtain⟨p,q,rfl,_⟩:=h;rfl) (fun A outer s H vs Q hrL hpre hI hR=>by
   obtain⟨p,q,rfl,hp,hq,hQ⟩:=hR
   have hlk:=hpre.2.2.look
   obtain⟨hI1,hI2,hI3⟩:=hI
   have hI1':Rows (aR (cellsOf [⟨Str.ofString "downs",c,o,V.ref lu⟩,⟨Str.ofString "table",d,o',V.ref tq⟩]) H) tq rs m.toNat M:=⟨dw hlk hI1.1 (fun f z=>by cases z),fun i r hi=>dw hlk (hI1.2 i r hi) (fun f z=>by cases z)⟩
   have hI2':=dw hlk hI2 (fun f z=>by cases z)
   have hI3':aA (aR (cellsOf [⟨Str.ofString "downs",c,o,V.ref lu⟩,⟨Str.ofString "table",d,o',V.ref tq⟩]) H) cu us:=⟨hI3.1,fun j b w e1 e2=>dw hlk (hI3.2 j b w e1 e2) (fun f z=>by cases z)⟩
   refine⟨_,(bj (oj K rfl) rfl T.any_ PyProof.Rows.boot_any (aa (cM ["way"] [3,0,1] (dZ K (pv 2)) (fun _=>(aS (i:=0) (show(["way","table","p","q"]:List Str).Nodup from by decide +kernel) rfl (Or.inl rfl) (Or.inr rfl))) (fun _=>(gg (bC bY (ai (aN K) (pv 0) af (fun _ _=>rfl)) (pv 3) (bo _)))) (fun _=>(ai (aC K) (ai (aC K) (pv 1) (pv 2) (fun _ _=>rfl)) (ai (aN K) (pv 0) af (fun _ _=>rfl)) (fun _ _=>rfl)))) ae)),?_⟩
   have hb:∀H',Ext (aR (cellsOf [⟨Str.ofString "downs",c,o,V.ref lu⟩,⟨Str.ofString "table",d,o',V.ref tq⟩]) H) H'->Ext H (bw (cellsOf [⟨Str.ofString "downs",c,o,V.ref lu⟩,⟨Str.ofString "table",d,o',V.ref tq⟩]) H'):=fun H' e=>tD hlk e
   generalize aR (cellsOf [⟨Str.ofString "downs",c,o,V.ref lu⟩,⟨Str.ofString "table",d,o',V.ref tq⟩]) H=HU at hI1' hI2' hI3' hb ⊢
   show ig _ _ [some (.int (p:Nat)),some (.int (q:Nat)),some (.ref lu),some (.ref tq)] _ _
   walk_at "r"
   refine ed (ag.of hI2') ?_
   refine jJ (xs:=List.map V.ref cu) (fun i ys H'=>H'=HU/\ys=(((us.take i).filter fun u=>decide (u.other=(q:Int))).map fun u=>M p u.room.toNat).map V.bl) (bW (by rw[Bi];omega)) ⟨rfl,rfl⟩ (fun i ys H' _ h=>⟨by rw[h.1];exact ag.of hI2',by rw[h.2,Bi,Bi];exact BL (List.length_filter_le _ _) (by rw[List.length_take];omega)⟩) ?_ ?_
   ·rintro i v ys H4 hx ⟨rfl,rfl⟩
    rw[Bk]at hx
    obtain⟨b,hb',rfl⟩:=Bt.mp hx
    have hi:i<us.length:=by rw[←hcu];exact(Bq.mp hb').1
    have gu:us[i]?=some us[i]:=Bj hi
    have hb0:=hI3'.2 i b _ hb' gu
    generalize us[i]=uu at gu hb0
    have oku:=ok.ok uu (hin uu (Br gu)).1
    have v0:=oku.r0
    have v1:=oku.r1
    have v2:=oku.o0
    have v3:=oku.o1
    have x2:p<rs.length:=by omega
    have r2:rs[p]?=some rs[p]:=Bj x2
    have w2:=hI1'.2 _ _ r2
    generalize rs[p]=a2 at r2 w2
    have at2:br (rs.map V.ref) ((p:Nat):Int)=some (.ref a2):=eT (by rw[Bk,r2];rfl)
    walk_at "r"
    refine aM (ao.of hb0) (v:=.int uu.other) rfl ?_
    walk_at "r"
    cases hc:decide (uu.other=(q:Int))with
    | true=>
     refine aK ?_
     walk_at "r"
     refine aD (ag.of hI1'.1) at2 ?_
     walk_at "r"
     refine aM (ao.of hb0) (v:=.int uu.room) rfl ?_
     walk_at "r"
     refine aD (ag.of w2) (fi (by omega) (by omega)) ?_
     refine⟨rfl,?_⟩
     rw[List.take_add_one,gu,List.filter_append,By,By]
     congr 1
     show[V.bl _]=List.map V.bl (List.map _ (List.filter _ [uu]))
     rw[List.filter_cons,if_pos hc]
     rfl
    | false=>
     refine aP ⟨rfl,?_⟩
     have hno:List.filter (fun u:Way=>decide (u.other=(q:Int))) [uu]=[]:=by
      rw[List.filter_cons,if_neg (by rw[hc];exact Bx)]
      rfl
     rw[List.take_add_one,gu,List.filter_append]
     show _=List.map V.bl (List.map _ (_++List.filter _ [uu]))
     rw[hno,List.append_nil]
   ·rintro ys H4 p9 ⟨hH,rfl⟩ hp9
    subst hH
    rw[Bi,hcu,BJ]
    have e9:=bI (o:=.lst (((us.filter fun u=>decide (u.other=(q:Int))).map fun u=>M p u.room.toNat).map V.bl)) hp9
    walk_at "r"
    refine⟨p9,_,rfl,ag.of aG,?_⟩
    exact fun _=>hQ _ (hb _ e9))
  refine⟨vh,m,ws,fl,_,j7 us M,rfl,hv3,ok,hF,⟨⟨ex _ _ hf,ex _ _ hc',hcaps⟩,hrows3,hlu3,hau3⟩,fun H H' e h=>⟨h.1.ext e,h.2.1.ext e,e _ _ h.2.2.1,h.2.2.2.ext e⟩,fun l ps H4 e4 hl hl4 hps=>?_⟩
  obtain⟨a1,a2,a3,a4⟩:=held hn3 e4
  refine⟨a1,q l _ ((e02.et.trans e3).trans a2.et) (t3.ext a2) (fun o ho=>Classical.byContradiction fun z=>by
   have:=ex _ _ ((e02.et.trans e3) l o ho (fun ps w=>z ⟨ps,w⟩))
   rw[hl]at this
   cases this) ⟨ps,j7 us M,a4 _ _ hl4 (fun f z=>by cases z),bV (fun a x h=>a4 _ _ h (fun f z=>by cases z)) hps,fun i j hi hj=>?_⟩⟩
  unfold j7 fH
  rw[List.any_map,BO]
  constructor
  ·rintro⟨x,hx,hm⟩
   obtain⟨x1,x2⟩:=List.mem_filter.mp hx
   have x2:=of_decide_eq_true x2
   obtain⟨y1,y2⟩:=hin x x1
   exact⟨x,y1,y2,by omega,(km _ _ hi (eP ok.ok y1).1).mp hm⟩
  ·rintro⟨x,h1,h2,h3,h4⟩
   have o0:=(ok.ok x h1).o0
   refine⟨x,List.mem_filter.mpr ⟨by rw[hus];exact List.mem_filter.mpr ⟨h1,decide_eq_true h2⟩,decide_eq_true (by omega)⟩,?_⟩
   exact(km _ _ hi (eP ok.ok h1).1).mpr h4
theorem rP{w:Way}{r n:Int}(h:ft w r n=true):w.room=r:=by
 unfold ft at h
 rw[BQ]at h
 exact of_decide_eq_true h.1
def nT(ws:List Way)(a b:Bfs.Pl):Prop:=∃w∈ws,ft w a.1 a.2=true/\b=(w.other,a.2+rz w.deed)
theorem vo{w:Way}{r n:Int}(hr:w.room=r)(h:w.deed = "up"\/w.deed = "stay"\/(w.deed = "down"/\0<n)\/(w.deed = "zero"/\n=0)):ft w r n=true:=by
 unfold ft
 rw[decide_eq_true hr,Bool.true_and]
 rcases h with h | h | ⟨h,hn⟩ | ⟨h,hn⟩
 ·rw[h,if_neg (by decide +kernel)]
  have:decide ((Str.ofString "up") = "zero")=false:=by decide +kernel
  rw[this]
  rfl
 ·rw[h,if_neg (by decide +kernel)]
  have:decide ((Str.ofString "stay") = "zero")=false:=by decide +kernel
  rw[this]
  rfl
 ·rw[h,if_pos (by decide +kernel)]
  exact decide_eq_true hn
 ·rw[h,if_neg (by decide +kernel),hn]
  simp
theorem mM{w:Way}{r n:Int}(hd:cF w.deed)(h:ft w r n=true):(w.deed = "up"/\rz w.deed=1)\/(w.deed = "stay"/\rz w.deed=0)\/(w.deed = "down"/\0<n/\rz w.deed = -1)\/(w.deed = "zero"/\n=0/\rz w.deed=0):=by
 unfold ft at h
 rw[BQ]at h
 rcases hd with hd | hd | hd | hd
 ·exact .inl ⟨hd,by rw[hd];exact nW⟩
 ·rw[hd,if_pos (by decide +kernel)]at h
  exact .inr (.inr (.inl ⟨hd,of_decide_eq_true h.2,by rw[hd];exact me⟩))
 ·exact .inr (.inl ⟨hd,by rw[hd];exact mN⟩)
 ·rw[hd,if_neg (by decide +kernel)]at h
  have h2:decide ((Str.ofString "zero") = "zero")=true:=by decide +kernel
  rw[h2]at h
  refine .inr (.inr (.inr ⟨hd,?_,by rw[hd];exact AX⟩))
  simpa using h.2
section
variable {m:Int} {ws:List Way} (ok:∀w∈ws,w.Ok m)
include ok
theorem lH{a b:Bfs.Pl}(h:nT ws a b)(ha:0<=a.2):0<=b.1/\b.1<m/\0<=b.2/\b.2<=a.2+1/\a.2<=b.2+1:=by
 obtain⟨w,hw,ho,rfl⟩:=h
 have okw:=ok w hw
 refine⟨okw.o0,okw.o1,?_⟩
 rcases mM okw.dd ho with⟨_,h⟩ | ⟨_,h⟩ | ⟨_,h1,h⟩ | ⟨_,h1,h⟩<;>(show 0<=a.2+rz w.deed/\a.2+rz w.deed<=a.2+1/\a.2<=a.2+rz w.deed+1;omega)
theorem vC:∀(n:Nat) (w:Nat->Bfs.Pl) (i:Nat) (L:Int),1<=L->(∀k,i<=k->k<i+n->nT ws (w k) (w (k+1)))->(∀k,i<=k->k<=i+n->L<=(w k).2)->(w i).2=L->(w (i+n)).2=L->0<=(w i).1->(w i).1<m->Kpt ws m.toNat (w i).1.toNat (w (i+n)).1.toNat:=by
 intro n
 induction n using Nat.strongRecOn with
 | ind n ih=>
  intro w i L hL hS hh h0 h1 r0 r1
  cases n with
  | zero=>exact .refl (by show(w i).1.toNat<m.toNat;omega)
  | succ n=>
   have s0:=hS i (BB _) (by omega)
   have in1:=lH ok s0 (by omega)
   obtain⟨v,hv,ho,hw1⟩:=id s0
   have okv:=ok v hv
   have hroom:=rP ho
   have e1:(w (i+1)).1=v.other:=by rw[hw1]
   have e2:(w (i+1)).2=(w i).2+rz v.deed:=by rw[hw1]
   have hge:=hh (i+1) (by omega) (by omega)
   rcases mM okv.dd ho with⟨hd,hz⟩ | ⟨hd,hz⟩ | ⟨hd,_,hz⟩ | ⟨hd,h00,hz⟩
   ·obtain⟨d,hd1,hd2,hd3,hd4⟩:=Bfs.rF (h:=fun k=>(w k).2) (l:=L) (P:=i+1) (n:=i+(n+1)) (by omega) (fun k hk1 hk2=>(lH ok (hS k (by omega) hk2) (by have:=hh k (by omega) (by omega);omega)).2.2.2.2) (by show(w (i+(n+1))).2<=L;omega) (by show L<=(w (i+1)).2;omega)
    try dsimp only at hd3 hd4
    have hdi:d≠i+1:=fun z=>by rw[z]at hd3;omega
    have sd:=hS (d-1) (by omega) (by omega)
    rw[show d-1+1=d by omega]at sd
    obtain⟨v2,hv2,ho2,hw2⟩:=id sd
    have okv2:=ok v2 hv2
    have hroom2:=rP ho2
    have f1:(w d).1=v2.other:=by rw[hw2]
    have f2:(w d).2=(w (d-1)).2+rz v2.deed:=by rw[hw2]
    have hgt:=hd4 (d-1) (by omega) (by omega)
    have hdown:v2.deed = "down"/\rz v2.deed = -1:=by
     rcases mM okv2.dd ho2 with⟨_,hz⟩ | ⟨_,hz⟩ | ⟨hd,_,hz⟩ | ⟨_,_,hz⟩
     ·omega
     ·omega
     ·exact⟨hd,hz⟩
     ·omega
    have inner:=ih (d-1-(i+1)) (by omega) w (i+1) (L+1) (by omega) (fun k hk1 hk2=>hS k (by omega) (by omega)) (fun k hk1 hk2=>by have:=hd4 k hk1 (by omega);omega) (by omega) (by rw[show i+1+(d-1-(i+1))=d-1 by omega];omega) in1.1 in1.2.1
    rw[show i+1+(d-1-(i+1))=d-1 by omega,e1,←hroom2]at inner
    have ar:=Kpt.arch hv hd hv2 hdown.1 inner
    rw[hroom,←f1]at ar
    have ind:=lH ok sd (by omega)
    have rest:=ih (i+(n+1)-d) (by omega) w d L hL (fun k hk1 hk2=>hS k (by omega) (by omega)) (fun k hk1 hk2=>hh k (by omega) (by omega)) hd3 (by rw[show d+(i+(n+1)-d)=i+(n+1) by omega];exact h1) ind.1 ind.2.1
    rw[show d+(i+(n+1)-d)=i+(n+1) by omega]at rest
    exact .trans ar rest
   ·have rest:=ih n (by omega) w (i+1) L hL (fun k hk1 hk2=>hS k (by omega) (by omega)) (fun k hk1 hk2=>hh k (by omega) (by omega)) (by omega) (by rw[show i+1+n=i+(n+1) by omega];exact h1) in1.1 in1.2.1
    rw[show i+1+n=i+(n+1) by omega,e1]at rest
    have st:=Kpt.stay (n:=m.toNat) hv hd
    rw[hroom]at st
    exact .trans st rest
   ·omega
   ·omega
end
theorem Ai{f:Nat->Bool}{lo i:Nat}{ys:List V}(h:ys=(row f lo i).map V.int)(hf:f (lo+i)=true):ys++[V.int ((lo+i:Nat):Int)]=(row f lo (i+1)).map V.int:=by
 rw[qr,if_pos hf,By,h]
 rfl
theorem vb{f:Nat->Bool}{lo i:Nat}{ys:List V}(h:ys=(row f lo i).map V.int)(hf:f (lo+i)=false):ys=(row f lo (i+1)).map V.int:=by
 rw[qr,if_neg (by rw[hf];decide),List.append_nil,h]
def Sk(ws:List Way)(a b:Bfs.Pl):Prop:=1<=b.2/\∃w∈ws,w.room=a.1/\w.deed≠"zero"/\b=(w.other,a.2+rz w.deed)
def RK(ws:List Way)(x y:Bfs.Pl):Prop:=∃n,Bfs.Rw (Sk ws) n x y
theorem RK.trans{ws:List Way}{x y z:Bfs.Pl}(h:RK ws x y)(g:RK ws y z):RK ws x z:=by
 obtain⟨n,h⟩:=h
 obtain⟨k,g⟩:=g
 exact⟨_,h.trans g⟩
theorem RK.one{ws:List Way}{x y:Bfs.Pl}(h:Sk ws x y):RK ws x y:=⟨1,.snoc .nil h⟩
section
variable {m:Int} {ws:List Way} (ok:∀w∈ws,w.Ok m)
include ok
theorem Sk.stp{a b:Bfs.Pl}(h:Sk ws a b)(ha:1<=a.2):nT ws a b:=by
 obtain⟨_,w,hw,hr,hz,rfl⟩:=h
 refine⟨w,hw,vo hr ?_,rfl⟩
 rcases(ok w hw).dd with e | e | e | e
 ·exact .inl e
 ·exact .inr (.inr (.inl ⟨e,by omega⟩))
 ·exact .inr (.inl e)
 ·exact absurd e hz
theorem wG{i j:Nat}(h:Kpt ws m.toNat i j):∀L:Int,1<=L->RK ws ((i:Int),L) ((j:Int),L):=by
 induction h with
 | refl _=>exact fun _ _=>⟨0,.nil⟩
 | @stay w hw hd=>
  intro L hL
  have r0:=(ok w hw).r0
  have o0:=(ok w hw).o0
  refine .one ⟨hL,w,hw,by show w.room=((w.room.toNat:Nat):Int);omega,by rw[hd];decide +kernel,?_⟩
  rw[hd,mN]
  exact Prod.ext (by show((w.other.toNat:Nat):Int)=w.other;omega) (by show L=L+0;omega)
 | trans _ _ h1 h2=>exact fun L hL=>(h1 L hL).trans (h2 L hL)
 | @arch u d hu hud hd hdd _ ih=>
  intro L hL
  have u0:=(ok u hu).r0
  have u1:=(ok u hu).o0
  have d0:=(ok d hd).r0
  have d1:=(ok d hd).o0
  have s1:Sk ws (((u.room.toNat:Nat):Int),L) (((u.other.toNat:Nat):Int),L+1):=⟨by show 1<=L+1;omega,u,hu,by show u.room=((u.room.toNat:Nat):Int);omega,by rw[hud];decide +kernel,by rw[hud,nW];exact Prod.ext (by show((u.other.toNat:Nat):Int)=u.other;omega) rfl⟩
  have s2:Sk ws (((d.room.toNat:Nat):Int),L+1) (((d.other.toNat:Nat):Int),L):=⟨hL,d,hd,by show d.room=((d.room.toNat:Nat):Int);omega,by rw[hdd];decide +kernel,by rw[hdd,me];exact Prod.ext (by show((d.other.toNat:Nat):Int)=d.other;omega) (by show L=L+1 + -1;omega)⟩
  exact((RK.one s1).trans (ih (L+1) (by omega))).trans (.one s2)
theorem zV{i j:Nat}(hi:i<m.toNat)(h:RK ws ((i:Int),1) ((j:Int),1)):Kpt ws m.toNat i j:=by
 obtain⟨n,h⟩:=h
 obtain⟨w,w0,wn,hS⟩:=h.fn
 have hl:∀k,k<=n->1<=(w k).2:=fun k hk=>by
  cases k with
  | zero=>rw[w0];exact Int.le_refl _
  | succ k=>exact(hS k (by omega)).1
 have:=vC ok n w 0 1 (Int.le_refl _) (fun k _ hk=>(hS k (by omega)).stp ok (hl k (by omega))) (fun k _ hk=>hl k (by omega)) (by rw[w0]) (by rw[Nat.zero_add,wn]) (by rw[w0];show(0:Int)<=(i:Int);omega) (by rw[w0];show(i:Int)<m;omega)
 rw[Nat.zero_add,w0,wn]at this
 exact this
def Sc(ws:List Way)(m:Int)(a b:Bfs.Pl):Prop:=Sk ws a b/\b.2<=1+m*m
theorem A5{i j:Nat}(hi:i<m.toNat):Kpt ws m.toNat i j↔∃n,Bfs.Rw (Sc ws m) n ((i:Int),1) ((j:Int),1):=by
 constructor
 ·intro h
  obtain⟨n,h⟩:=wG ok h 1 (Int.le_refl _)
  obtain⟨n',_,r'⟩:=Bfs.cut (S:=Sk ws) (m:=m) (by omega) (fun p q h=>by
    obtain⟨_,w,hw,_,_,rfl⟩:=h
    have r1:=vP w.deed
    have r2:=v8 w.deed
    show p.2+rz w.deed<=p.2+1/\p.2<=p.2+rz w.deed+1
    omega) (fun p q c h _ _ h2=>by
    obtain⟨_,w,hw,hr,hz,rfl⟩:=h
    exact⟨h2,w,hw,hr,hz,Prod.ext rfl (by show p.2+rz w.deed-c=p.2-c+rz w.deed;omega)⟩) (fun p q h=>by
    obtain⟨_,w,hw,_,_,rfl⟩:=h
    exact⟨(ok w hw).o0,(ok w hw).o1⟩) (b:=1) (by decide) n _ _ h (by show(0:Int)<=(i:Int);omega) (by show(i:Int)<m;omega) (Int.le_refl _) (Int.le_refl _)
  exact⟨n',r'⟩
 ·rintro⟨n,h⟩
  exact zV ok hi ⟨n,h.imp fun a c h=>h.1⟩
end
structure Ds(ws:List Way)(m:Int)(x:Bfs.Pl)(F W:List Bfs.Pl):Prop where
 nd:F.Nodup
 sub:∀y∈W,y∈F
 ok:∀y∈F,∃n,Bfs.Rw (Sc ws m) n x y
 box:∀y∈F,fI m (1+m*m) y
 st:x∈F
 few:W.length<=F.length
theorem Ds.all{ws:List Way}{m:Int}{x:Bfs.Pl}{F:List Bfs.Pl}(h:Ds ws m x F [])(cl:∀y∈F,∀z,Sc ws m y z->z∈F){y:Bfs.Pl}:y∈F↔∃n,Bfs.Rw (Sc ws m) n x y:=by
 refine⟨h.ok y,?_⟩
 rintro⟨n,hr⟩
 have:∀(n:Nat) (z y:Bfs.Pl),Bfs.Rw (Sc ws m) n z y->z=x->y∈F:=by
  intro n z y hr
  induction hr with
  | nil=>intro e;rw[e];exact h.st
  | snoc _ hs ih=>intro e;exact cl _ (ih e) _ hs
 exact this n x y hr rfl
theorem Ds.add{ws:List Way}{m:Int}{x y:Bfs.Pl}{F W:List Bfs.Pl}(h:Ds ws m x F W)(hn:y∉F)(hr:∃n,Bfs.Rw (Sc ws m) n x y)(hb:fI m (1+m*m) y):Ds ws m x (F++[y]) (W++[y]) where
 nd:=by
  rw[List.nodup_append]
  refine⟨h.nd,by simp,fun a ha b hb e=>?_⟩
  rw[Bs.mp hb]at e
  exact hn (e ▸ ha)
 sub:=fun z hz=>by
  rcases BE.mp hz with a | a
  ·exact List.mem_append_left _ (h.sub z a)
  ·exact List.mem_append_right _ a
 ok:=fun z hz=>by
  rcases BE.mp hz with a | a
  ·exact h.ok z a
  ·rw[Bs.mp a];exact hr
 box:=fun z hz=>by
  rcases BE.mp hz with a | a
  ·exact h.box z a
  ·rw[Bs.mp a];exact hb
 st:=List.mem_append_left _ h.st
 few:=by rw[Bz,Bz];exact Nat.add_le_add_right h.few _
def bR(r:Int)(w:Way):Bool:=decide (w.room=r) && !decide (w.deed = "zero")
def jm(H:Hp)(rs:List Addr)(ws:List Way)(n:Nat):Prop:=rs.length=n/\∀(r:Nat) (a:Addr),rs[r]?=some a->∃cs,H a=some (.lst (List.map V.ref cs))/\aA H cs (ws.filter (bR (r:Int)))
theorem jm.ext{H H':Hp}(e:Ext H H'){rs:List Addr}{ws:List Way}{n:Nat}(h:jm H rs ws n):jm H' rs ws n:=⟨h.1,fun r a ha=>by
 obtain⟨cs,h1,h2⟩:=h.2 r a ha
 exact⟨cs,e _ _ h1,h2.ext e⟩⟩
structure DsAt(H:Hp)(f l:Addr)(F W:List Bfs.Pl):Prop where
 d:∃kvs,H f=some (.dT kvs)/\Paired (fun kv e=>kv.1=bf e) kvs F
 r:∃as,H l=some (.lst (List.map V.ref as))/\Paired (aH H) as W
theorem DsAt.ext{H H':Hp}{f l:Addr}{F W:List Bfs.Pl}(e:Ext H H')(h:DsAt H f l F W):DsAt H' f l F W:=by
 obtain⟨⟨kvs,h1,h2⟩,as,h3,h4⟩:=h
 exact⟨⟨kvs,e _ _ h1,h2⟩,as,e _ _ h3,Paired.mapP h4 fun _ _ z=>e _ _ z⟩
theorem o8{kvs:List (List Key×V)}{F:List Bfs.Pl}(h:Paired (fun kv e=>kv.1=bf e) kvs F)(nd:F.Nodup)(y:Bfs.Pl):(aX kvs (bf y)).isSome=decide (y∈F):=by
 by_cases hy:y∈F
 ·obtain⟨v,hv,_⟩:=xw (key:=id) (fun _ _ z=>z) h (by rw[List.map_id];exact nd) hy
  rw[decide_eq_true hy]
  have hv:aX kvs (bf y)=some v:=hv
  rw[hv]
  rfl
 ·rw[tN (key:=id) (fun _ _ z=>z) h (by rw[List.map_id];exact hy),decide_eq_false hy]
  rfl
theorem DsAt.push{H:Hp}{f l th:Addr}{F W:List Bfs.Pl}{y:Bfs.Pl}(h:DsAt H f l F W)(hy:y∉F)(hth:aH H th y):∃kvs as,H f=some (.dT kvs)/\kvs.length=F.length/\upd H f (.dT (putK kvs (bf y) (.bl true))) l=some (.lst (List.map V.ref as))/\as.length=W.length ∧
  DsAt (upd (upd H f (.dT (putK kvs (bf y) (.bl true)))) l (.lst (List.map V.ref as++[.ref th]))) f l (F++[y]) (W++[y]):=by
 obtain⟨⟨kvs,h4,h5⟩,as,h6,h7⟩:=h
 have ne:l≠f:=cJ h6 h4 (by intro z;cases z)
 have nf:∀xs,(HO.dT kvs)≠.tup xs:=fun xs z=>by cases z
 have nr:∀xs,(HO.lst (List.map V.ref as))≠.tup xs:=fun xs z=>by cases z
 have h6':upd H f (.dT (putK kvs (bf y) (.bl true))) l=some (.lst (List.map V.ref as)):=by rw[ay ne];exact h6
 refine⟨kvs,as,h4,Paired.length h5,h6',Paired.length h7,⟨kvs++[(bf y,.bl true)],?_,Paired.snoc h5 rfl⟩,as++[th],?_,?_⟩
 ·rw[ay ne.symm,aG,oi _ (tN (key:=id) (fun _ _ z=>z) h5 (by rw[List.map_id];exact hy))]
 ·rw[aG,By];rfl
 ·exact Paired.snoc (Paired.mapP h7 fun _ _ z=>aH.put h6' nr (aH.put h4 nf z)) (aH.put h6' nr (aH.put h4 nf hth))
theorem oK{α β:Type}{F:α->β->Prop}:∀{ts:List β} {as:List α} {t:β},Paired F as (ts++[t])->∃as' a,as=as'++[a]/\Paired F as' ts/\F a t
 | [],_,_,.cons h .nil=>⟨[],_,rfl,.nil,h⟩
 | _::_,_,_,.cons h r=>by
  obtain⟨as',a,rfl,h1,h2⟩:=oK r
  exact⟨_::as',a,rfl,.cons h h1,h2⟩
def fZ:List (Key×V):=[(.inr "up",.int 1),(.inr "down",.int (-1)),(.inr "stay",.int 0)]
theorem zg{z:Str}(h:cF z)(hz:z≠"zero"):aX fZ (.inr z)=some (.int (rz z)):=by
 rcases h with rfl | rfl | rfl | rfl
 ·rw[nW];rfl
 ·rw[me];rfl
 ·rw[mN];rfl
 ·exact absurd rfl hz
def hV(m:Int)(y u:Bfs.Pl)(w:Way):Prop:=u=(w.other,y.2+rz w.deed)/\1<=u.2/\u.2<=1+m*m
def sX(K:Be):Sp:=fun vs H Q _=>∃(vh:V) (m:Int) (ws:List Way) (i:Nat),vs=[vh,.int (i:Int)]/\bD H vh m ws/\HOuse m ws/\i<m.toNat/\∀l (G:Nat->Bool) H',Ext H H'->H' l=some (.lst ((row G 0 m.toNat).map V.int))->(∀j,j<m.toNat->(G j=true↔Kpt ws m.toNat i j))->Q (.ref l) H'
abbrev lL:Stmt:=stq 38
theorem sQ:FnScope ["_law_house_here","_law_room","_law_rows","_law_raised","_law_found","_law_waiting","_law_here","_law_way","_law_there"] ["_law_house_here","_law_room"] (aO lL):=⟨rfl,rfl,rfl,by decide +kernel,rfl,by decide +kernel,by decide +kernel⟩
theorem yE{P:Program}{w:World}{K:Be}{mg:Str->Option Value}{base:Heap}(D:Dfn K mg "_law_keeps" lL ["_law_house_here","_law_room"])(T:Blt mg):Cal P w K mg base "_law_keeps" 1 ["_law_house_here","_law_room"] (sX K):=by
 have nd:=(sQ).nd
 refine D.ok sQ (fun vs H Q E h=>?_) (fun X hX H vs Q E h=>?_)
 ·obtain⟨vh,m,ws,i,rfl,_⟩:=h;rfl
 ·obtain⟨f,cdv,A,outer,s,H0,E0,rfl,hr⟩:=hX
  obtain⟨vh,m,ws,i,rfl,hv,ok,hi,q⟩:=h
  have m1:=ok.m1
  have m12:=ok.m12
  have hfew:=ok.few
  have hmm:m*m<=12*12:=Int.mul_le_mul m12 m12 (by omega) (by decide)
  have hmm0:0<=m*m:=Int.mul_nonneg (by omega) (by omega)
  obtain⟨hp,hq,rfl,h1,h2⟩:=id hv
  obtain⟨bs,hb,al⟩:=h2.al
  have hbl:=al.1
  refine⟨_,(@aj _ _ _ _ _ (wa (i:=2) ["_law_here"] [0] nd rfl (Or.inl rfl) (cb rfl T.range_ (@aa _ _ _ _ _ (@ai _ _ _ _ _ _ _ (aN K) (pv 0) af (fun _ _=>rfl)) ae rfl)) (fun _=>(aS (i:=0) (show(["_law_here","_law_house_here"]:List Str).Nodup from by decide +kernel) rfl (Or.inr rfl) (Or.inl rfl))) (fun _=>fg) (fun _=>(cM ["_law_way"] [0] (iH K (@ai _ _ _ _ _ _ _ (aN K) (pv 1) af (fun _ _=>rfl))) (fun _=>(aS (i:=0) (show(["_law_way","_law_here"]:List Str).Nodup from by decide +kernel) rfl (Or.inl rfl) (Or.inr rfl))) (fun _=>(gg (PW.pt (gZ (bC bY (@ai _ _ _ _ _ _ _ (aN K) (pv 0) af (fun _ _=>rfl)) (pv 1) (bo _)) (iS (bC jl (@ai _ _ _ _ _ _ _ (aN K) (pv 0) af (fun _ _=>rfl)) aJ (bo _))))))) (fun _=>(pv 0)))))
    (@aj _ _ _ _ _ (@aF _ _ 3 _ _ _ _ nd rfl (Or.inl rfl) (xj (kR aJ af (kR aJ (nG mS af) (kR aJ af zU))) rfl rfl (by decide) (by decide)) rfl (Or.inl rfl))
    (@aj _ _ _ _ _ (@aF _ _ 4 _ _ _ _ nd rfl (Or.inr rfl) (zq (eE hr) (@bx _ _ _ _ _ (@aa _ _ _ _ _ (pv 1) (@aa _ _ _ _ _ af ae rfl) rfl)) cZ) rfl (Or.inl rfl))
    (@aj _ _ _ _ _ (@aF _ _ 5 _ _ _ _ nd rfl (Or.inl rfl) (@bF _ _ _ _ (@aa _ _ _ _ _ (@bx _ _ _ _ _ (@aa _ _ _ _ _ (pv 1) (@aa _ _ _ _ _ af ae rfl) rfl)) ae rfl)) rfl (Or.inl rfl))
    (@aj _ _ _ _ _ (ue PassesOwn.never (bC kr (bj (dy K) rfl T.len_ PySem.boot_len (@aa _ _ _ _ _ (pv 5) ae rfl)) af (bo _)) (@aj _ _ _ _ _ (@aF _ _ 6 _ _ _ _ nd rfl (Or.inl rfl) (xk K Bp PySem.F.slot_list_pop PySem.F.type_list_pop zE (pv 5)) rfl (Or.inl rfl))
    (@ax _ _ _ (bP PassesOwn.never rfl (dZ K (@ai _ _ _ _ _ _ _ (aC K) (pv 2) (@ai _ _ _ _ _ _ _ (aN K) (pv 6) af (fun _ _=>rfl)) (fun _ _=>rfl))) (aS (i:=7) nd rfl (Or.inl rfl)) (@aj _ _ _ _ _ (@aF _ _ 8 _ _ _ _ nd rfl (Or.inl rfl) (@bx _ _ _ _ _ (@aa _ _ _ _ _ (@ai _ _ _ _ _ _ _ (aN K) (pv 7) af (fun _ _=>rfl)) (@aa _ _ _ _ _ (av aW (@ai _ _ _ _ _ _ _ (aN K) (pv 6) af (fun _ _=>rfl)) (jy (eE hr) (pv 3) (@ai _ _ _ _ _ _ _ (aN K) (pv 7) af (fun _ _=>rfl)) (fun _ _=>rfl))) ae rfl) rfl)) rfl (Or.inl rfl))
    (@ax _ _ _ (di (PW.pt (gZ (yw iz iz af (@ai _ _ _ _ _ _ _ (aN K) (pv 8) af (fun _ _=>rfl)) (av aW af (av dB (@ai _ _ _ _ _ _ _ (aN K) (pv 0) af (fun _ _=>rfl)) (@ai _ _ _ _ _ _ _ (aN K) (pv 0) af (fun _ _=>rfl))))) (iS (uD (Av (eE hr) (pv 8) (pv 4)) (by with_unfolding_all rfl))))) (@aj _ _ _ _ _ (pP (eE hr) (pv 4) (pv 8) cZ rfl)
    (@ax _ _ _ (bA (bK K Bp BC BD bS (pv 5) (@aa _ _ _ _ _ (pv 8) ae rfl))))) bJ)))))))
    (@ax _ _ _ (@aQ _ _ _ _ (cM ["_law_q"] [4] (cb rfl T.range_ (@aa _ _ _ _ _ (@ai _ _ _ _ _ _ _ (aN K) (pv 0) af (fun _ _=>rfl)) ae rfl)) (fun _=>(aS (i:=0) (show(["_law_q","_law_found"]:List Str).Nodup from by decide +kernel) rfl (Or.inl rfl) (Or.inr rfl))) (fun _=>(gg (uD (yV (eE hr) (@bx _ _ _ _ _ (@aa _ _ _ _ _ (pv 0) (@aa _ _ _ _ _ af ae rfl) rfl)) (pv 1)) (by with_unfolding_all rfl)))) (fun _=>(pv 0)))))))))),?_⟩
  walk_at "r"
  refine aM (ao.of h1) (v:=.int m) rfl ?_
  walk_at "r"
  refine b6 (by omega) ?_
  refine iL (fun r ys H'=>Ext H H'/\∃rs,ys=List.map V.ref rs/\jm H' rs ws r) (bW (by omega)) ⟨Ext.rfl' _,[],rfl,rfl,fun r a h=>by simp at h⟩ (fun r ys H' _ h=>by obtain⟨_,rs,rfl,hr⟩:=h;rw[Bi,hr.1];exact BB _) ?_ ?_
  ·rintro r ys H1 hr' ⟨e1,rs,rfl,hrs⟩
   rw[show (0:Int)+(r:Int)=((r:Nat):Int) by omega]
   have hb1:=e1 _ _ hb
   have al1:=al.ext e1
   walk_at "r"
   refine aK ?_
   walk_at "r"
   refine aM (ao.of (e1 _ _ h1)) (v:=.ref hq) rfl ?_
   walk_at "r"
   refine iw (ao.of hb1) ?_
   refine jf (xs:=List.map V.ref bs) (fun j zs H'=>H'=H1/\∃cs,zs=List.map V.ref cs/\aA H1 cs ((ws.take j).filter (bR (r:Int)))/\cs.length<=j) (bW (by rw[Bi];omega)) ⟨rfl,[],rfl,aA.nil _,BB _⟩ (fun j zs H' _ h=>by obtain⟨rfl,cs,rfl,_,hc⟩:=h;exact⟨ao.of hb1,by rw[Bi];exact hc⟩) ?_ ?_
   ·rintro j u zs H2 hu ⟨rfl,cs,rfl,hcs,hcl⟩
    rw[Bk]at hu
    obtain⟨b,hbj,rfl⟩:=Bt.mp hu
    have hjl:j<ws.length:=by rw[←hbl];exact(Bq.mp hbj).1
    have hwj:ws[j]?=some ws[j]:=Bj hjl
    generalize ws[j]=w at hwj
    have hbw:=al1.2 j b w hbj hwj
    have htk:(ws.take (j+1)).filter (bR (r:Int))=(ws.take j).filter (bR (r:Int))++(if bR (r:Int) w then[w]else[]):=by
     rw[List.take_succ,hwj,List.filter_append]
     congr 1
     show List.filter _ [w]=_
     rw[List.filter_cons,List.filter_nil]
    walk_at "r"
    refine aM (ao.of hbw) (v:=.int w.room) rfl ?_
    walk_at "r"
    have skip:bR (r:Int) w=false->H2=H2/\∃cs',List.map V.ref cs=List.map V.ref cs'/\aA H2 cs' ((ws.take (j+1)).filter (bR (r:Int)))/\cs'.length<=j+1:=fun z=>⟨rfl,cs,rfl,by rw[htk,z,if_neg Bx,List.append_nil];exact hcs,by omega⟩
    by_cases hr0:w.room=(r:Int)
    ·rw[decide_eq_true hr0]
     refine aK ?_
     walk_at "r"
     refine aM (ao.of hbw) (v:=.str w.deed) rfl ?_
     walk_at "r"
     refine wH ?_
     by_cases hz:w.deed = "zero"
     ·rw[decide_eq_true hz]
      refine rd_exb (aP ?_)
      exact skip (by unfold bR;rw[decide_eq_true hz,Bool.not_true,Bool.and_false])
     ·rw[decide_eq_false hz]
      refine rd_exb (aK ?_)
      walk_at "r"
      refine⟨rfl,cs++[b],by rw[By];rfl,?_,by rw[Bz];simp;omega⟩
      rw[htk,if_pos (by unfold bR;rw[decide_eq_true hr0,decide_eq_false hz];rfl)]
      exact hcs.snoc hbw
    ·rw[decide_eq_false hr0]
     refine aP (aP ?_)
     exact skip (by unfold bR;rw[decide_eq_false hr0,Bool.false_and])
   ·rintro zs H2 pr ⟨rfl,cs,rfl,hcs,hcl⟩ hpr
    rw[Bi,hbl,BJ]at hcs
    walk_at "r"
    have e2:=bI (o:=.lst (List.map V.ref cs)) hpr
    refine⟨e1.trans e2,rs++[pr],by rw[By];rfl,by rw[Bz,hrs.1];rfl,fun k a ha=>?_⟩
    rcases Nat.lt_or_ge k rs.length with hk | hk
    ·rw[BG hk]at ha
     exact(hrs.ext e2).2 k a ha
    ·rw[BF hk]at ha
     have hz:k-rs.length=0:=by
      have:=(Bq.mp ha).1
      simp at this
      omega
     rw[hz]at ha
     cases ha
     have:k=r:=by have:=hrs.1;omega
     subst this
     exact⟨cs,aG,hcs.ext e2⟩
  rintro ys H1 rl ⟨e1,rs,rfl,hrs⟩ hrl
  have e2:=e1.trans (bI (o:=.lst (List.map V.ref rs)) hrl)
  have hrs2:=hrs.ext (bI (o:=.lst (List.map V.ref rs)) hrl)
  have hrl2:(upd H1 rl (.lst (List.map V.ref rs))) rl=_:=aG
  generalize upd H1 rl (.lst (List.map V.ref rs))=H2 at e2 hrs2 hrl2 ⊢
  walk_at "r"
  refine fun dp hdp=>?_
  walk_at "r"
  refine⟨_,rfl,?_⟩
  refine⟨aG,fZ,rfl,by decide,?_⟩
  have hD:upd (upd H2 dp (.dK [])) dp (.dK (ez [] fZ)) dp=some (.dK fZ):=aG
  have eD:Ext H2 (upd (upd H2 dp (.dK [])) dp (.dK (ez [] fZ))):=cD (bI hdp) hdp
  generalize upd (upd H2 dp (.dK [])) dp (.dK (ez [] fZ))=H3 at hD eD ⊢
  have e3:=e2.trans eD
  have hrs3:=hrs2.ext eD
  have hrl3:=eD _ _ hrl2
  have h13:=e3 _ _ h1
  clear hrl2 hrs2 e2 eD hdp hrl hrs e1 hb al hbl h2 hv h1
  walk_at "r"
  refine fun f hfn=>?_
  walk_at "r"
  refine aE fun t0 H4 e4 ht0 _=>?_
  walk_at "r"
  refine⟨t0,bf ((i:Int),1),rfl,ht0,e4 _ _ aG,?_⟩
  have hf5:upd H4 f (.dT [(bf ((i:Int),1),.bl true)]) f=some (.dT [(bf ((i:Int),1),.bl true)]):=aG
  have e5:Ext H3 (upd H4 f (.dT [(bf ((i:Int),1),.bl true)])):=cD ((bI hfn).trans e4) hfn
  generalize upd H4 f (.dT [(bf ((i:Int),1),.bl true)])=H5 at hf5 e5 ⊢
  clear ht0 e4
  walk_at "r"
  refine aE fun t1 H6 e6 ht1 _=>?_
  walk_at "r"
  refine aE fun wl H7 e7 hwl hwn=>?_
  have hwl3:H3 wl=none:=(e5.trans e6).none hwn
  have e37:=e5.trans (e6.trans e7)
  have ds0:DsAt H7 f wl [((i:Int),1)] [((i:Int),1)]:=⟨⟨_,e7 _ _ (e6 _ _ hf5),.cons rfl .nil⟩,[t1],hwl,.cons (e7 _ _ ht1) .nil⟩
  have hx0:fI m (1+m*m) ((i:Int),1):=⟨by show(0:Int)<=(i:Int);omega,by show(i:Int)<m;omega,by show(0:Int)<=1;decide,by show(1:Int)<=1+m*m;omega⟩
  have dq0:Ds ws m ((i:Int),1) [((i:Int),1)] [((i:Int),1)]:=⟨by simp,fun y h=>h,fun y h=>⟨0,by rw[Bs.mp h];exact .nil⟩,fun y h=>by rw[Bs.mp h];exact hx0,Bs.mpr rfl,BB _⟩
  clear hx0 hwl hwn ht1 e7 e6 e5 hf5
  walk_at "r"
  refine tJ (fun M σ H'=>∃F W k6 k7 k8,σ=[some (.ref hp),some (.int (i:Int)),some (.ref rl),some (.ref dp),some (.ref f),some (.ref wl),k6,k7,k8]/\Ext H3 H'/\DsAt H' f wl F W/\Ds ws m ((i:Int),1) F W/\(∀y∈F,y∉W->∀z,Sc ws m y z->z∈F)/\2*(24013-F.length)+W.length=M)
   (fun σ H'=>∃F k6 k7 k8,σ=[some (.ref hp),some (.int (i:Int)),some (.ref rl),some (.ref dp),some (.ref f),some (.ref wl),k6,k7,k8]/\Ext H3 H'/\DsAt H' f wl F []/\Ds ws m ((i:Int),1) F []/\∀y∈F,∀z,Sc ws m y z->z∈F) (2*(24013-1)+1)
   ⟨_,_,_,_,_,rfl,e37,ds0,dq0,fun y h1 h2=>absurd h1 h2,rfl⟩ ?_ ?_
  ·clear ds0 dq0 e37 H7
   rintro M σ H7 ⟨F,W,k6,k7,k8,rfl,e7,ds,dq,cl,hM⟩
   obtain⟨as,hwl,pas⟩:=ds.r
   have hal:=Paired.length pas
   walk_at "r"
   refine gn (ag.of hwl) ?_
   walk_at "r"
   rw[Bi,hal]
   rcases List.eq_nil_or_concat W with rfl | ⟨W',y,rfl⟩
   ·refine aP ?_
    exact⟨F,_,_,_,rfl,e7,ds,dq,fun y hy z hz=>cl y hy (by simp) z hz⟩
   ·rw[List.concat_eq_append]at *
    rw[decide_eq_true (show(0:Int)<(((W'++[y]).length:Nat):Int) by rw[Bz,List.length_singleton];omega)]
    refine aK ⟨_,fun _ _ h=>h,?_⟩
    obtain⟨as',a,rfl,pas',hay⟩:=oK pas
    walk_at "r"
    refine⟨cS (ag.of hwl),?_⟩
    refine⟨wl,_,.ref a,rfl,rfl,hwl,by simp,?_⟩
    rw[By,show List.map V.ref [a]=[V.ref a]from rfl,List.dropLast_concat]
    rw[By]at hwl
    have hyF:y∈F:=dq.sub y (List.mem_append_right _ (Bs.mpr rfl))
    have hyb:=dq.box y hyF
    obtain⟨kvs0,hf0,pk0⟩:=ds.d
    have nef:f≠wl:=cJ hf0 hwl (by intro z;cases z)
    have nt:∀xs,(HO.lst (List.map V.ref as'++List.map V.ref [a]))≠.tup xs:=fun xs z=>by cases z
    have ds8:DsAt (upd H7 wl (.lst (List.map V.ref as'))) f wl F W':=⟨⟨kvs0,by rw[ay nef];exact hf0,pk0⟩,as',aG,Paired.mapP pas' fun _ _ z=>aH.put hwl nt z⟩
    have e8:Ext H3 (upd H7 wl (.lst (List.map V.ref as'))):=cD e7 hwl3
    have ha8:aH (upd H7 wl (.lst (List.map V.ref as'))) a y:=aH.put hwl nt hay
    generalize upd H7 wl (.lst (List.map V.ref as'))=H8 at ds8 e8 ha8 ⊢
    have dq8:Ds ws m ((i:Int),1) F W':=⟨dq.nd,fun z hz=>dq.sub z (List.mem_append_left _ hz),dq.ok,dq.box,dq.st,by have:=dq.few;rw[Bz]at this;omega⟩
    have hyn:y.1.toNat<rs.length:=by have:=hrs3.1;have:=hyb.1;have:=hyb.2.1;omega
    obtain⟨cs,hcs,alc⟩:=hrs3.2 y.1.toNat _ (Bj hyn)
    have hra:(List.map V.ref rs)[y.1.toNat]?=some (.ref rs[y.1.toNat]):=by rw[Bk,Bj hyn];rfl
    rw[Bv hyb.1]at alc
    generalize rs[y.1.toNat]=ra at hcs hra
    have hra':br (List.map V.ref rs) y.1=some (.ref ra):=fm hyb.1 hra
    walk_at "r"
    refine aM (ao.of ha8) (v:=.int y.1) rfl ?_
    walk_at "r"
    refine aD (ag.of (e8 _ _ hrl3)) hra' ?_
    walk_at "r"
    refine ed (ag.of (e8 _ _ hcs)) ?_
    have hcl:=alc.1
    refine forL (xs:=List.map V.ref cs) (fun j σ H'=>∃F2 W2 k7 k8,σ=[some (.ref hp),some (.int (i:Int)),some (.ref rl),some (.ref dp),some (.ref f),some (.ref wl),some (.ref a),k7,k8]/\Ext H3 H'/\aH H' a y/\DsAt H' f wl F2 W2/\Ds ws m ((i:Int),1) F2 W2/\y∈F2/\F.length<=F2.length/\F2.length+W'.length=F.length+W2.length/\(∀z∈F2,z∉W2->z=y\/∀u,Sc ws m z u->u∈F2)/\∀w∈(ws.filter (bR y.1)).take j,∀u,hV m y u w->u∈F2)
     ⟨F,W',_,_,rfl,e8,ha8,ds8,dq8,hyF,BB _,rfl,fun z hz hn=>(Classical.em (z=y)).imp_right fun hne u hu=>cl z hz (fun h=>(BE.mp h).elim hn fun h=>hne (Bs.mp h)) u hu,fun w hw=>by simp at hw⟩ (fun j σ H' _ h=>by obtain⟨_,_,_,_,_,e,_⟩:=h;exact ag.of (e _ _ hcs)) ?_ ?_
    ·clear ds8 e8 ha8 dq8 hf0 pk0 hay pas' nt hra hra' cl dq ds hwl pas
     rintro j u σ H9 hu ⟨F2,W2,k7,k8,rfl,e9,ha9,ds9,dq9,hy2,hF2,hFW,cl9,hj9⟩
     rw[Bk]at hu
     obtain⟨b,hbj,rfl⟩:=Bt.mp hu
     have hjl:j<(ws.filter (bR y.1)).length:=by rw[←hcl];exact(Bq.mp hbj).1
     have hwj:(ws.filter (bR y.1))[j]?=some (ws.filter (bR y.1))[j]:=Bj hjl
     generalize (ws.filter (bR y.1))[j]=w at hwj
     have hbw:H9 b=some (.tup w.vs):=e9 _ _ (alc.2 j b w hbj hwj)
     obtain⟨hwm,hwon⟩:=List.mem_filter.mp (Br hwj)
     have okw:=ok.ok w hwm
     unfold bR at hwon
     rw[BQ,decide_eq_true_iff,Bool.not_eq_true',decide_eq_false_iff_not]at hwon
     have hwd:=hwon.2
     have hfl:=fI.few m12 (by omega) dq9.nd dq9.box
     have hfw:=dq9.few
     have hnext:∀F3:List Bfs.Pl,(∀z∈F2,z∈F3)->(∀u,hV m y u w->u∈F3)->∀w'∈(ws.filter (bR y.1)).take (j+1),∀u,hV m y u w'->u∈F3:=fun F3 hsub hu w' hw' u hc=>by
      rw[List.take_succ,hwj]at hw'
      rcases BE.mp hw' with z | z
      ·exact hsub u (hj9 w' z u hc)
      ·have:w'=w:=by simpa using z
       subst this
       exact hu u hc
     walk_at "r"
     refine aM (ao.of hbw) (v:=.int w.other) rfl ?_
     walk_at "r"
     refine aM (ao.of ha9) (v:=.int y.2) rfl ?_
     walk_at "r"
     refine aM (ao.of hbw) (v:=.str w.deed) rfl ?_
     refine⟨dp,_,rfl,by rw[←zg okw.dd hwd];exact bM.k (k:=.inr w.deed) (e9 _ _ hD),?_⟩
     walk_at "r"
     refine aE fun th H10 e10 hth _=>?_
     have hth':aH H10 th (w.other,y.2+rz w.deed):=hth
     have ds10:=ds9.ext e10
     have e310:=e9.trans e10
     have keep:(∀u,hV m y u w->u∈F2)->∃F3 W3 c7 c8,[some (V.ref hp),some (.int (i:Int)),some (.ref rl),some (.ref dp),some (.ref f),some (.ref wl),some (.ref a),some (.ref b),some (.ref th)]=[some (.ref hp),some (.int (i:Int)),some (.ref rl),some (.ref dp),some (.ref f),some (.ref wl),some (.ref a),c7,c8]/\Ext H3 H10/\aH H10 a y/\DsAt H10 f wl F3 W3/\Ds ws m ((i:Int),1) F3 W3/\y∈F3/\F.length<=F3.length/\F3.length+W'.length=F.length+W3.length/\(∀z∈F3,z∉W3->z=y\/∀u,Sc ws m z u->u∈F3)/\∀w∈(ws.filter (bR y.1)).take (j+1),∀u,hV m y u w->u∈F3:=fun hu=>⟨F2,W2,_,_,rfl,e310,e10 _ _ ha9,ds10,dq9,hy2,hF2,hFW,cl9,hnext F2 (fun z hz=>hz) hu⟩
     walk_at "r"
     refine gL ?_
     walk_at "r"
     refine aM (ao.of hth) (v:=.int (y.2+rz w.deed)) rfl ?_
     walk_at "r"
     by_cases h1:1<=y.2+rz w.deed
     ·rw[decide_eq_true h1]
      refine aK ?_
      walk_at "r"
      refine aM (ao.of (e310 _ _ h13)) (v:=.int m) rfl ?_
      walk_at "r"
      refine aM (ao.of (e310 _ _ h13)) (v:=.int m) rfl ?_
      walk_at "r"
      try refine rd_I (.inl ⟨by omega,by omega⟩) ?_
      walk_at "r"
      by_cases h2:y.2+rz w.deed<=1+m*m
      ·rw[decide_eq_true h2]
       refine aK ?_
       walk_at "r"
       obtain⟨kvs,hd10,pk10⟩:=ds10.d
       refine⟨f,_,rfl,bM.t hd10 (k:=bf (w.other,y.2+rz w.deed)) hth',?_⟩
       rw[o8 pk10 dq9.nd]
       by_cases hin:(w.other,y.2+rz w.deed)∈F2
       ·rw[decide_eq_true hin]
        refine rd_exb (aP ?_)
        walk_at "r"
        exact keep fun u hu=>by rw[hu.1];exact hin
       ·rw[decide_eq_false hin]
        refine rd_exb (aK ?_)
        walk_at "r"
        obtain⟨kvs',as9,hd11,hkl,hl11,hal11,ds11⟩:=ds10.push hin hth'
        refine⟨f,_,rfl,eA.t hd11 (k:=bf (w.other,y.2+rz w.deed)) hth' (gq (by omega)),?_⟩
        walk_at "r"
        refine⟨cS (ag.of hl11),?_⟩
        walk_at "r"
        refine bO hl11 (gq (by rw[Bi];omega)) ?_
        have hrun:∃n,Bfs.Rw (Sc ws m) n ((i:Int),1) (w.other,y.2+rz w.deed):=by
         obtain⟨n,hn⟩:=dq9.ok y hy2
         exact⟨n+1,.snoc hn ⟨⟨h1,w,hwm,hwon.1,hwd,rfl⟩,h2⟩⟩
        have dq11:=dq9.add hin hrun ⟨okw.o0,okw.o1,by show 0<=y.2+rz w.deed;omega,h2⟩
        refine⟨_,_,_,_,rfl,cD (cD e310 hfn) hwl3,?_,ds11,dq11,List.mem_append_left _ hy2,by rw[Bz];omega,by rw[Bz,Bz,List.length_singleton];omega,fun z hz hn=>?_,hnext _ (fun z hz=>List.mem_append_left _ hz) fun u hu=>by rw[hu.1];exact List.mem_append_right _ (Bs.mpr rfl)⟩
        ·exact aH.put hl11 (fun xs z=>by cases z) (aH.put hd11 (fun xs z=>by cases z) (e10 _ _ ha9))
        ·rcases BE.mp hz with z1 | z1
         ·rcases cl9 z z1 (fun h=>hn (List.mem_append_left _ h))with h | h
          ·exact .inl h
          ·exact .inr fun u hu=>List.mem_append_left _ (h u hu)
         ·exact absurd (List.mem_append_right _ z1) hn
      ·rw[decide_eq_false h2]
       refine aP (aP ?_)
       walk_at "r"
       exact keep fun u hu=>absurd hu.2.2 (by rw[hu.1];exact h2)
     ·rw[decide_eq_false h1]
      refine aP ?_
      refine rd_exb (aP (aP ?_))
      walk_at "r"
      exact keep fun u hu=>absurd hu.2.1 (by rw[hu.1];exact h1)
    ·rintro σ H9 ⟨F2,W2,c7,c8,rfl,e9,ha9,ds9,dq9,hy2,hF2,hFW,cl9,hj9⟩
     rw[Bi,hcl,BJ]at hj9
     have hfl:=fI.few m12 (by omega) dq9.nd dq9.box
     refine⟨_,?_,F2,W2,_,_,_,rfl,e9,ds9,dq9,fun z hz hn u hu=>?_,rfl⟩
     ·rw[←hM,Bz,List.length_singleton]
      omega
     ·rcases cl9 z hz hn with rfl | h
      ·obtain⟨⟨h1,w,hw,hr0,hz0,rfl⟩,h2⟩:=hu
       exact hj9 w (List.mem_filter.mpr ⟨hw,by unfold bR;rw[decide_eq_true hr0,decide_eq_false hz0];rfl⟩) _ ⟨rfl,h1,h2⟩
      ·exact h u hu
  rintro σ H8 ⟨F,k6,k7,k8,rfl,e8,ds,dq,cl⟩
  obtain⟨kvs,hd,pk⟩:=ds.d
  obtain⟨G,hG⟩:∃G:Nat->Bool,∀j:Nat,(G j=true↔((j:Int),(1:Int))∈F):=⟨fun j=>decide (((j:Int),(1:Int))∈F),fun j=>decide_eq_true_iff⟩
  walk_at "r"
  refine aM (ao.of (e8 _ _ h13)) (v:=.int m) rfl ?_
  walk_at "r"
  refine b6 (by omega) ?_
  refine iL (fun j ys H'=>Ext H8 H'/\ys=(row G 0 j).map V.int) (bW (by omega)) ⟨Ext.rfl' _,rfl⟩ (fun j ys H' _ h=>by rw[h.2,Bi];exact jF _ _ _) ?_ ?_
  ·rintro j ys H9 hj ⟨e9,rfl⟩
   rw[show (0:Int)+(j:Int)=((j:Nat):Int) by omega]
   walk_at "r"
   refine aE fun pr H10 e10 hpr _=>?_
   have hpr':aH H10 pr ((j:Int),1):=hpr
   walk_at "r"
   refine⟨f,_,rfl,bM.t ((e9.trans e10) _ _ hd) (k:=bf ((j:Int),1)) hpr',_,rfl,?_⟩
   rw[o8 pk dq.nd]
   cases hGj:G j with
   | true=>
    rw[decide_eq_true ((hG j).mp hGj)]
    refine aK ?_
    walk_at "r"
    refine⟨e9.trans e10,?_⟩
    have:=Ai (f:=G) (lo:=0) (i:=j) rfl (by rw[Nat.zero_add];exact hGj)
    rw[Nat.zero_add]at this
    exact this
   | false=>
    rw[decide_eq_false (fun z=>by rw[(hG j).mpr z]at hGj;cases hGj)]
    refine aP ?_
    exact⟨e9.trans e10,vb (f:=G) (lo:=0) (i:=j) rfl (by rw[Nat.zero_add];exact hGj)⟩
  ·rintro ys H9 p9 ⟨e9,rfl⟩ hp9
   refine q p9 G _ (e3.trans (e8.trans (e9.trans (bI hp9)))) aG fun j hj=>?_
   rw[hG,dq.all cl,A5 ok.ok hi]
theorem Ae{K:Be}{a b:Addr}{xs ys:List V}{g:TG}{tb:TS}{D:Ends}{σ:St}{H:Hp}(Pv:Nat->St->Hp->Prop)(h0:Pv 0 σ H)(hlen:ys.length=xs.length)(hl:∀i σ H,i<=xs.length->Pv i σ H->ag K H a xs/\ag K H b ys)
  (hs:∀i u v σ H p H',xs[i]?=some u->ys[i]?=some v->Pv i σ H->Ext H H'->H' p=some (.tup [u,v])->H p=none->g (.ref p) σ H' fun σ2 H2=>tb ⟨Pv (i+1),D.rt,D.nx,Pv (i+1)⟩ σ2 H2) (hd:∀σ H,Pv xs.length σ H->D.nx σ H):iF (gM (bZ K a) (bZ K b)) g tb D σ H:=by
 refine⟨fun i m σ H=>m=xs.length-i/\i<=xs.length/\Pv i σ H,⟨xs.length,by simp,Nat.zero_le _,h0⟩,?_⟩
 rintro i m σ H ⟨rfl,hi,p⟩
 obtain⟨qa,qb⟩:=hl i σ H hi p
 by_cases hlt:i<xs.length
 ·have hy:i<ys.length:=by omega
  refine .inr ⟨⟨⟨xs,xs[i],qa,by simp[hlt]⟩,⟨ys,ys[i],qb,by simp[hy]⟩⟩,Pv (i+1),fun σ' H' p'=>⟨xs.length-(i+1),by omega,rfl,hlt,p'⟩,fun x H' y=>?_⟩
  obtain⟨pp,u,v,rfl,hn,rfl,yu,yv⟩:=y
  exact hs i u v σ H pp _ (yu.2 xs qa) (yv.2 ys qb) p (bI hn) aG hn
 ·have e:i=xs.length:=by omega
  subst e
  exact .inl ⟨.inl ⟨xs,qa,BB _⟩,hd σ H p⟩
theorem za(x:Int)(xs:List Int):fX (.int x) (xs.map V.int)=xs.contains x:=by
 unfold fX
 rw[List.any_map,BP,BO,List.contains_iff_mem]
 constructor
 ·rintro⟨y,hy,e⟩
  have e':(y == x)=true:=e
  rw[←(by simpa using e':y=x)]
  exact hy
 ·intro hx
  exact⟨x,hx,by show(x == x)=true;simp⟩
theorem Az{H:Hp}{p:Addr}{xs:List V}(h:H p=some (.lst xs)):eR H (.ref p) "list":=.inl ⟨rfl,xs,h⟩
theorem yc{f g:Nat->Bool}{n:Nat}(h:∀r,r<n->f r=g r):row f 0 n=row g 0 n:=by
 unfold row
 congr 1
 apply List.filter_congr
 intro i hi
 rw[Nat.zero_add]
 exact h i (List.mem_range.mp hi)
def bE(R:Nat->Nat->Prop)(i j:Nat):Bool:=@decide (R i j) (Classical.propDecidable _)
theorem fh{R:Nat->Nat->Prop}{i j:Nat}:bE R i j=true↔R i j:=@decide_eq_true_iff _ (Classical.propDecidable _)
theorem og{n:Nat}{g g':Nat->Nat->Bool}:∀k,(∀i j,i<k->j<n->g i j=g' i j)->aY n g k=aY n g' k
 | 0,_=>rfl
 | k+1,h=>by
  show aY n g k++_=aY n g' k++_
  rw[og k fun i j hi hj=>h i j (by omega) hj]
  congr 2
  exact List.filter_congr fun q hq=>h k q (by omega) (List.mem_range.mp hq)
def oV(x y:Bfs.Pl):Prop:=x.1<y.1\/(x.1=y.1/\x.2<y.2)
theorem lB{n:Nat}{g:Nat->Nat->Bool}:∀k,(aY n g k).Pairwise oV
 | 0=>.nil
 | k+1=>by
  show(aY n g k++_).Pairwise oV
  rw[List.pairwise_append]
  refine⟨lB k,?_,fun x hx y hy=>?_⟩
  ·rw[List.pairwise_map]
   exact(List.pairwise_lt_range.filter _).imp fun h=>.inr ⟨rfl,Int.ofNat_lt.mpr h⟩
  ·obtain⟨p,q,hp,_,_,rfl⟩:=mF.mp hx
   obtain⟨z,_,rfl⟩:=List.mem_map.mp hy
   exact .inl (Int.ofNat_lt.mpr hp)
abbrev uC(x y:List Key):Prop:=Tp.ltP (Tp.kp y).1 (Tp.kp y).2 (Tp.kp x).1 (Tp.kp x).2=false
theorem yr{n:Nat}{g:Nat->Nat->Bool}{ds:List (List Key)}(hnd:ds.Nodup)(hm:∀k,k∈ds↔∃x∈aY n g n,k=bf x)(ho:ds.Pairwise uC):ds=(aY n g n).map bf:=by
 have hm':∀k,k∈ds↔k∈(aY n g n).map bf:=fun k=>(hm k).trans ⟨fun⟨x,h1,h2⟩=>List.mem_map.mpr ⟨x,h1,h2.symm⟩,fun h=>by
  obtain⟨x,h1,h2⟩:=List.mem_map.mp h
  exact⟨x,h1,h2.symm⟩⟩
 have h1:((aY n g n).map bf).Pairwise uC:=by
  rw[List.pairwise_map]
  refine(lB n).imp fun{x y} h=>Tp.ltP_no.mpr fun z=>?_
  have z:y.1<x.1\/(y.1=x.1/\y.2<x.2):=z
  rcases h with h | ⟨h,h'⟩<;>rcases z with z | ⟨z,z'⟩<;>omega
 have h2:((aY n g n).map bf).Nodup:=by
  unfold List.Nodup
  rw[List.pairwise_map]
  refine(lB n).imp fun{x y} h e=>?_
  have e:=mT e
  subst e
  rcases h with h | ⟨_,h⟩<;>omega
 refine List.Perm.eq_of_pairwise ?_ ho h1 ((List.perm_ext_iff_of_nodup hnd h2).mpr hm')
 intro a b ha hb e1 e2
 obtain⟨x,_,rfl⟩:=(hm a).mp ha
 obtain⟨y,_,rfl⟩:=List.mem_map.mp hb
 have e1:¬(y.1<x.1\/(y.1=x.1/\y.2<x.2)):=Tp.ltP_no.mp e1
 have e2:¬(x.1<y.1\/(x.1=y.1/\x.2<y.2)):=Tp.ltP_no.mp e2
 rw[show x=y from Prod.ext (by omega) (by omega)]
def PL(H:Hp)(p:Addr)(A:List Bfs.Pl):Prop:=∃ps,H p=some (.lst (List.map V.ref ps))/\Paired (aH H) ps A
theorem PL.ext{H H':Hp}{p:Addr}{A:List Bfs.Pl}(e:Ext H H')(h:PL H p A):PL H' p A:=by
 obtain⟨ps,h1,h2⟩:=h
 exact⟨ps,e _ _ h1,bV (fun a x z=>e _ _ z) h2⟩
theorem PL.et{H H':Hp}{p:Addr}{A:List Bfs.Pl}(e:Et H H')(h:PL H p A):PL H' p A:=by
 obtain⟨ps,h1,h2⟩:=h
 exact⟨ps,e _ _ h1 (fun ps z=>by cases z),bV (fun a x z=>aH.et e z) h2⟩
theorem PL.put{H:Hp}{p f:Addr}{A:List Bfs.Pl}{xs ys:List V}(hf:H f=some (.lst xs))(hn:p≠f)(h:PL H p A):PL (upd H f (.lst ys)) p A:=by
 obtain⟨ps,h1,h2⟩:=h
 exact⟨ps,by rw[ay hn];exact h1,bV (fun a x z=>aH.put hf (fun xs z=>by cases z) z) h2⟩
theorem PL.push{H:Hp}{f a:Addr}{A:List Bfs.Pl}{x:Bfs.Pl}(h:PL H f A)(ha:aH H a x):∃xs,H f=some (.lst xs)/\xs.length=A.length/\PL (upd H f (.lst (xs++[.ref a]))) f (A++[x]):=by
 obtain⟨ps,h1,h2⟩:=h
 refine⟨_,h1,by rw[Bi];exact Paired.length h2,ps++[a],by rw[aG,By];rfl,?_⟩
 exact Paired.snoc (bV (fun a x z=>aH.put h1 (fun xs z=>by cases z) z) h2) (aH.put h1 (fun xs z=>by cases z) ha)
theorem tO{H:Hp}:∀{bs:List Addr} {A:List Bfs.Pl},Paired (aH H) bs A->Tp.KeysAt H bs (A.map bf)
 | _,_,.nil=>⟨rfl,fun j b k h=>by simp at h⟩
 | _,_,.cons h t=>by
  obtain⟨h1,h2⟩:=tO t
  refine⟨congrArg (· + 1) h1,fun j b k e1 e2=>?_⟩
  cases j with
  | zero=>cases e1;cases e2;exact h
  | succ j=>exact h2 j b k e1 e2
theorem rm{H:Hp}:∀{bs:List Addr} {A:List Bfs.Pl},Tp.KeysAt H bs (A.map bf)->Paired (aH H) bs A
 | [],[],_=>.nil
 | [],_::_,h=>by cases h.1
 | _::_,[],h=>by cases h.1
 | b::bs,x::A,h=>.cons (h.2 0 b _ rfl rfl) (rm ⟨Nat.succ.inj h.1,fun j b k e1 e2=>h.2 (j+1) b k e1 e2⟩)
abbrev uH(x:Bfs.Pl):PyData:=.tuple [.int x.1,.int x.2]
theorem sZ{H:Hp}:∀{ps:List Addr} {A:List Bfs.Pl},Paired (aH H) ps A->Paired (aV H 1) (ps.map V.ref) (A.map uH)
 | _,_,.nil=>.nil
 | _,_,.cons h t=>.cons (.inr ⟨_,_,_,rfl,.inl ⟨h,rfl⟩,.cons rfl (.cons rfl .nil)⟩) (sZ t)
theorem PL.rep{H:Hp}{p:Addr}{A:List Bfs.Pl}(h:PL H p A):aV H 2 (.ref p) (.list (A.map uH)):=by
 obtain⟨ps,h1,h2⟩:=h
 exact .inr ⟨p,_,_,rfl,.inr ⟨h1,rfl⟩,sZ h2⟩
theorem iN.pl{H:Hp}{l:Addr}{n:Nat}{R:Nat->Nat->Prop}(h:iN H l n R):PL H l (aY n (bE R) n):=by
 obtain⟨ps,g,h1,h2,h3⟩:=h
 refine⟨ps,h1,?_⟩
 rw[og (g':=g) n fun i j hi hj=>by rw[BP,fh,h3 i j hi hj]]
 exact h2
theorem b9.put{K:Be}{x q:Str}{line col:Nat}{H:Hp}{l:Addr}{xs ys:List V}(h:b9 K x q line col H)(hl:H l=some (.lst xs)):b9 K x q line col (upd H l (.lst ys)):=fun c T ht=>by
 rcases h c T ht with h | ⟨c',h1,h2⟩
 ·exact .inl (by rw[ay (cJ h hl (by intro z;cases z))];exact h)
 ·exact .inr ⟨c',by rw[ay (cJ h1 hl (by intro z;cases z))];exact h1,by rw[ay (cJ h2 hl (by intro z;cases z))];exact h2⟩
theorem Tbs.put{K:Be}{H:Hp}{l:Addr}{xs ys:List V}(h:Tbs K H)(hl:H l=some (.lst xs)):Tbs K (upd H l (.lst ys)):=⟨b9.put h.kept hl,b9.put h.low hl,b9.put h.risen hl⟩
def qi(K:Be):Sp:=fun vs H Q _=>∃i:Int,vs=[.int i]/\Q (.bl true) H
abbrev ng:Stmt:=stq 27
theorem qY:FnScope ["_law_found"] ["_law_found"] (aO ng):=⟨rfl,rfl,rfl,by decide +kernel,rfl,by decide +kernel,by decide +kernel⟩
theorem xl{P:Program}{w:World}{K:Be}{mg:Str->Option Value}{base:Heap}(D:Dfn K mg "_law_whole" ng ["_law_found"])(T:Blt mg):Cal P w K mg base "_law_whole" 1 ["_law_found"] (qi K):=by
 have nd:=(qY).nd
 refine D.ok qY (fun vs H Q E h=>?_) (fun X hX H vs Q E h=>?_)
 ·obtain⟨i,rfl,_⟩:=h;rfl
 ·obtain⟨f,cdv,A,outer,s,H0,E0,rfl,hr⟩:=hX
  obtain⟨i,rfl,q⟩:=h
  refine⟨_,(ax (aQ (cH (bj dG rfl T.isinstance_ PyProof.Rows.boot_isinstance (aa (pv 0) (aa (dC (v:=.ty "int") rfl T.int_ PyProof.Rows.boot_int rfl) ae))) (dA (rK (bj dG rfl T.isinstance_ PyProof.Rows.boot_isinstance (aa (pv 0) (aa (dC (v:=.ty "bool") rfl T.bool_ PyProof.Rows.boot_bool rfl) ae)))))))),?_⟩
  walk_at "r"
  refine dH (n:="int") rfl (b:=true) rfl ?_
  walk_at "r"
  refine aK ?_
  walk_at "r"
  refine dH (n:="int") rfl (b:=false) rfl ?_
  walk_at "r"
  exact q
def sE(K:Be):Sp:=fun vs H Q _=>∃p x,vs=[.ref p,.int 2]/\aH H p x/\∀H',Ext H H'->Q (.bl true) H'
abbrev la:Stmt:=stq 28
theorem tu:FnScope ["_law_found","_law_many"] ["_law_found","_law_many"] (aO la):=⟨rfl,rfl,rfl,by decide +kernel,rfl,by decide +kernel,by decide +kernel⟩
theorem Ac{P:Program}{w:World}{K:Be}{mg:Str->Option Value}{base:Heap}(D:Dfn K mg "_law_row" la ["_law_found","_law_many"])(T:Blt mg)(C__law_whole:Cal P w K mg base "_law_whole" 1 ["_law_found"] (qi K)):Cal P w K mg base "_law_row" 2 ["_law_found","_law_many"] (sE K):=by
 have nd:=(tu).nd
 refine D.ok tu (fun vs H Q E h=>?_) (fun X hX H vs Q E h=>?_)
 ·obtain⟨p,x,rfl,_⟩:=h;rfl
 ·obtain⟨f,cdv,A,outer,s,H0,E0,rfl,hr⟩:=hX
  obtain⟨p,x,rfl,hx,q⟩:=h
  refine⟨_,(@aj _ _ _ _ _ (@cL _ _ _ _ _ _ _ _ (PW.pt (iI (eB (cN (bj dG rfl T.isinstance_ PyProof.Rows.boot_isinstance (@aa _ _ _ _ _ (pv 0) (@aa _ _ _ _ _ (dC (v:=.ty "tuple") rfl T.tuple_ PyProof.Rows.boot_tuple rfl) ae rfl) rfl)))) (h8 (bC jl (bj (dy K) rfl T.len_ PySem.boot_len (@aa _ _ _ _ _ (pv 0) ae rfl)) (pv 1) (bo _))))) (@ax _ _ _ (@aQ _ _ _ _ cZ)) bJ)
    (@ax _ _ _ (@aQ _ _ _ _ (bj (mC K rfl) rfl T.all_ PyProof.Rows.boot_all (@aa _ _ _ _ _ (cM ["_law_part"] [] (iH K (pv 0)) (fun _=>(aS (i:=0) (show(["_law_part"]:List Str).Nodup from by decide +kernel) rfl (Or.inl rfl) (Or.inr rfl))) (fun _=>fg) (fun _=>(aL C__law_whole hr (@aa _ _ _ _ _ (pv 0) ae rfl)))) ae rfl))))),?_⟩
  walk_at "r"
  refine dH (jh hx) (b:=true) rfl ?_
  walk_at "r"
  refine aP ?_
  walk_at "r"
  refine ij (ao.of hx) ?_
  walk_at "r"
  refine aP ?_
  walk_at "r"
  refine iw (ao.of hx) ?_
  refine jf (xs:=[V.int x.1,.int x.2]) (fun j zs H'=>H'=H/\zs=(List.replicate j true).map V.bl) (bW (by simp)) ⟨rfl,rfl⟩ (fun j zs H' _ h=>⟨by rw[h.1];exact ao.of hx,by rw[h.2];simp⟩) ?_ ?_
  ·rintro j u zs H1 hu ⟨rfl,rfl⟩
   obtain⟨k,rfl⟩:∃k,u=V.int k:=by
    rcases j with _ | _ | j
    ·exact⟨_,(Option.some.inj hu).symm⟩
    ·exact⟨_,(Option.some.inj hu).symm⟩
    ·simp at hu
   walk_at "r"
   refine aK ?_
   walk_at "r"
   refine⟨_,rfl,rfl,?_⟩
   rw[List.replicate_succ',By]
   rfl
  rintro zs H1 p9 ⟨rfl,rfl⟩ hp9
  walk_at "r"
  refine⟨p9,_,rfl,ag.of aG,?_⟩
  exact q _ (bI hp9)
def sD(K:Be):Sp:=fun vs H Q _=>∃(l d:Addr) (A:List Bfs.Pl),vs=[.ref l,.ref d]/\PL H l A/\PL H d A/\A.length<=1000/\∀H',Ext H H'->Q (.bl true) H'
abbrev lb:Stmt:=stq 39
theorem rE:FnScope ["_law_found","_law_due"] ["_law_found","_law_due"] (aO lb):=⟨rfl,rfl,rfl,by decide +kernel,rfl,by decide +kernel,by decide +kernel⟩
theorem uT{P:Program}{w:World}{K:Be}{mg:Str->Option Value}{base:Heap}(D:Dfn K mg "_law_pairs_are" lb ["_law_found","_law_due"])(T:Blt mg)(C__law_row:Cal P w K mg base "_law_row" 2 ["_law_found","_law_many"] (sE K)):Cal P w K mg base "_law_pairs_are" 3 ["_law_found","_law_due"] (sD K):=by
 have nd:=(rE).nd
 refine D.ok rE (fun vs H Q E h=>?_) (fun X hX H vs Q E h=>?_)
 ·obtain⟨l,d,A,rfl,_⟩:=h;rfl
 ·obtain⟨f,cdv,A,outer,s,H0,E0,rfl,hr⟩:=hX
  obtain⟨l,d,A,rfl,h1,h2,hA,q⟩:=h
  obtain⟨ps,hl,pa⟩:=id h1
  have hpl:=Paired.length pa
  refine⟨_,(@ax _ _ _ (@aQ _ _ _ _ (cH (bj dG rfl T.isinstance_ PyProof.Rows.boot_isinstance (@aa _ _ _ _ _ (pv 0) (@aa _ _ _ _ _ (dC (v:=.ty "list") rfl T.list_ PyProof.Rows.boot_list rfl) ae rfl) rfl)) (cH (bj (mC K rfl) rfl T.all_ PyProof.Rows.boot_all (@aa _ _ _ _ _ (cM ["_law_pair"] [] (dZ K (pv 0)) (fun _=>(aS (i:=0) (show(["_law_pair"]:List Str).Nodup from by decide +kernel) rfl (Or.inl rfl) (Or.inr rfl))) (fun _=>fg) (fun _=>(aL C__law_row hr (@aa _ _ _ _ _ (pv 0) (@aa _ _ _ _ _ af ae rfl) rfl)))) ae rfl)) (dA (fK (iY hr) (pv 0) (pv 1) (bo _))))))),?_⟩
  walk_at "r"
  refine dH (Az hl) (b:=true) rfl ?_
  walk_at "r"
  refine aK ?_
  walk_at "r"
  refine ed (ag.of hl) ?_
  refine jJ (xs:=ps.map V.ref) (fun j zs H'=>Ext H H'/\zs=(List.replicate j true).map V.bl) (bW (by rw[Bi];omega)) ⟨Ext.rfl' _,rfl⟩ (fun j zs H' _ h=>⟨ag.of (h.1 _ _ hl),by rw[h.2];simp⟩) ?_ ?_
  ·rintro j u zs H1 hu ⟨e1,rfl⟩
   rw[Bk]at hu
   obtain⟨b,hb,rfl⟩:=Bt.mp hu
   obtain⟨x,hx,hbx⟩:=zH pa hb
   walk_at "r"
   refine aK ?_
   walk_at "r"
   refine⟨b,x,rfl,e1 _ _ hbx,fun H2 e2=>?_⟩
   refine⟨e1.trans e2,?_⟩
   rw[List.replicate_succ',By]
   rfl
  rintro zs H1 p9 ⟨e1,rfl⟩ hp9
  have e2:=e1.trans (bI (o:=.lst ((List.replicate (ps.map V.ref).length true).map V.bl)) hp9)
  have h9:(upd H1 p9 (.lst ((List.replicate (ps.map V.ref).length true).map V.bl))) p9=_:=aG
  generalize upd H1 p9 (.lst ((List.replicate (ps.map V.ref).length true).map V.bl))=H2 at e2 h9 ⊢
  walk_at "r"
  refine⟨p9,_,rfl,ag.of h9,?_⟩
  rw[show ∀n:Nat,(List.replicate n true).all id=true from fun n=>by simp]
  refine rd_exb (aK ?_)
  walk_at "r"
  have hr:=(h1.ext e2).rep
  refine⟨2,2,_,_,hr,(h2.ext e2).rep,by decide,?_⟩
  rw[SeqAt.eqv_refl _ (aV.lay 2 hr).1]
  exact q _ e2
def eY(ws us:List Way)(n i j:Nat):Prop:=∃u∈us,u.deed = "up"/\u.room.toNat=i/\Kpt ws n u.other.toNat j
def gU(ws us:List Way)(n i j:Nat):Prop:=∃u∈us,u.deed = "down"/\u.other.toNat=j/\Kpt ws n i u.room.toNat
def aZ(R R':Nat->Nat->Prop)(n r:Nat)(x:Bfs.Pl):Prop:=∃i j:Nat,(i<r/\R i j\/i=r/\R' i j)/\j<n/\x=((i:Int),(j:Int))
def dE(ws:List Way)(r:Nat):Nat:=ws.countP fun w=>decide (w.room<(r:Int))
theorem rn(r:Nat):∀ws:List Way,dE ws (r+1)=dE ws r+ws.countP fun w=>decide (w.room=(r:Int))
 | []=>rfl
 | w::ws=>by
  have ih:=rn r ws
  unfold dE at *
  rw[List.countP_cons,List.countP_cons,List.countP_cons,ih]
  by_cases h1:w.room<(r:Int)
  ·rw[decide_eq_true h1,decide_eq_true (show w.room<((r+1:Nat):Int) by omega),decide_eq_false (show ¬w.room=(r:Int) by omega)]
   simp
   omega
  ·by_cases h2:w.room=(r:Int)
   ·rw[decide_eq_false h1,decide_eq_true (show w.room<((r+1:Nat):Int) by omega),decide_eq_true h2]
    simp
    omega
   ·rw[decide_eq_false h1,decide_eq_false (show ¬w.room<((r+1:Nat):Int) by omega),decide_eq_false h2]
    simp
theorem aZ.all{R:Nat->Nat->Prop}{n r:Nat}{x:Bfs.Pl}:aZ R R n r x↔aZ R (fun _ _=>False) n (r+1) x:=by
 constructor
 ·rintro⟨i,j,h,hj,rfl⟩
  refine⟨i,j,.inl ?_,hj,rfl⟩
  rcases h with⟨h1,h2⟩ | ⟨h1,h2⟩
  ·exact⟨by omega,h2⟩
  ·exact⟨by omega,h2⟩
 ·rintro⟨i,j,h,hj,rfl⟩
  rcases h with⟨h1,h2⟩ | ⟨_,h2⟩
  ·rcases(show i<r\/i=r by omega)with h | h
   ·exact⟨i,j,.inl ⟨h,h2⟩,hj,rfl⟩
   ·exact⟨i,j,.inr ⟨h,h2⟩,hj,rfl⟩
  ·exact h2.elim
theorem aZ.end{R:Nat->Nat->Prop}{n:Nat}{x:Bfs.Pl}:aZ R (fun _ _=>False) n n x↔x∈aY n (bE R) n:=by
 rw[mF]
 constructor
 ·rintro⟨i,j,h,hj,rfl⟩
  rcases h with⟨h1,h2⟩ | ⟨_,h2⟩
  ·exact⟨i,j,h1,hj,fh.mpr h2,rfl⟩
  ·exact h2.elim
 ·rintro⟨i,j,hi,hj,h,rfl⟩
  exact⟨i,j,.inl ⟨hi,fh.mp h⟩,hj,rfl⟩
theorem aZ.congr{R R' R'':Nat->Nat->Prop}{n r:Nat}{x:Bfs.Pl}(h:∀j,R' r j↔R'' r j):aZ R R' n r x↔aZ R R'' n r x:=by
 unfold aZ
 constructor
 ·rintro⟨i,j,z,hj,e⟩
  exact⟨i,j,z.imp id fun⟨a,b⟩=>⟨a,by subst a;exact(h j).mp b⟩,hj,e⟩
 ·rintro⟨i,j,z,hj,e⟩
  exact⟨i,j,z.imp id fun⟨a,b⟩=>⟨a,by subst a;exact(h j).mpr b⟩,hj,e⟩
theorem aZ.or{R R':Nat->Nat->Prop}{S:Nat->Prop}{n r:Nat}{x:Bfs.Pl}:aZ R (fun i j=>R' i j\/S j) n r x↔aZ R R' n r x\/∃j:Nat,j<n/\S j/\x=((r:Int),(j:Int)):=by
 unfold aZ
 constructor
 ·rintro⟨i,j,z,hj,e⟩
  rcases z with z | ⟨rfl,z | z⟩
  ·exact .inl ⟨i,j,.inl z,hj,e⟩
  ·exact .inl ⟨i,j,.inr ⟨rfl,z⟩,hj,e⟩
  ·exact .inr ⟨j,hj,z,e⟩
 ·rintro(⟨i,j,z,hj,e⟩ | ⟨j,hj,z,e⟩)
  ·exact⟨i,j,z.imp id fun⟨a,b⟩=>⟨a,.inl b⟩,hj,e⟩
  ·exact⟨r,j,.inr ⟨rfl,.inr z⟩,hj,e⟩
theorem pe{α β:Type}{F:α->β->Prop}:∀{as as':List α} {bs bs':List β},Paired F as bs->Paired F as' bs'->Paired F (as++as') (bs++bs')
 | _,_,_,_,.nil,h=>h
 | _,_,_,_,.cons a t,h=>.cons a (pe t h)
theorem PL.cat{H:Hp}{Q:VK}{l b:Addr}{A B:List Bfs.Pl}(h1:PL H l A)(h2:PL H b B)(hz:A.length+B.length<=1000000)(h:∀p H',Ext H H'->H p=none->PL H' p (A++B)->Q (.ref p) H'):kx (.ref l) (.ref b) H Q:=by
 obtain⟨ps,a1,a2⟩:=h1
 obtain⟨qs,b1,b2⟩:=h2
 refine pK a1 b1 (bW (by rw[Bi,Bi,Paired.length a2,Paired.length b2];exact hz)) (eO fun p H' e hp hn=>h p H' e hn ⟨ps++qs,by rw[hp,By],pe (bV (fun a x z=>e _ _ z) a2) (bV (fun a x z=>e _ _ z) b2)⟩)
theorem sA{K:Be}{H:Hp}{Q:VK}{l:Addr}{g:Nat->Bool}{n r:Nat}{s0 s1 s2 s4 s5 s6 s7 s8 s9 s10:Option V}(hn:n<=12)(hl:H l=some (.lst ((row g 0 n).map V.int)))
  (hq:∀p H',Ext H H'->H p=none->PL H' p ((row g 0 n).map fun q=>((r:Int),q))->Q (.ref p) H'):f7 (bZ K l) 1 [3] (fU 0) mH (jM (iA (iD 1) (iA (iD 0) iy))) [s0,s1,s2,some (.int (r:Int)),s4,s5,s6,s7,s8,s9,s10] H Q:=by
 have hrl:=jF g 0 n
 refine jJ (xs:=(row g 0 n).map V.int) (fun i zs H'=>Ext H H'/\∃ps,zs=List.map V.ref ps/\Paired (aH H') ps (((row g 0 n).take i).map fun q=>((r:Int),q))) (bW (by rw[Bi];omega)) ⟨Ext.rfl' _,[],rfl,.nil⟩ (fun i zs H' _ h=>by
  obtain⟨e,ps,rfl,hp⟩:=h
  refine⟨ag.of (e _ _ hl),?_⟩
  rw[Bi,Paired.length hp,Bi,List.length_take]
  omega) ?_ ?_
 ·rintro i u zs H1 hu ⟨e1,ps,rfl,hp⟩
  rw[Bk]at hu
  obtain⟨b,hb,rfl⟩:=Bt.mp hu
  walk_at "r"
  refine aK ?_
  walk_at "r"
  refine aE fun c H2 e2 hc _=>?_
  refine⟨e1.trans e2,ps++[c],by rw[By];rfl,?_⟩
  rw[List.take_succ,hb,By]
  exact Paired.snoc (bV (fun a x z=>e2 _ _ z) hp) hc
 ·rintro zs H1 p9 ⟨e1,ps,rfl,hp⟩ hp9
  rw[Bi,BJ]at hp
  have e2:=bI (o:=.lst (List.map V.ref ps)) hp9
  exact hq _ _ (e1.trans e2) (e1.none hp9) ⟨ps,aG,bV (fun a x z=>e2 _ _ z) hp⟩
theorem qK(g:Nat->Bool)(n p:Nat):(row g 0 n).map (fun q=>((p:Int),q))=((List.range n).filter g).map fun q:Nat=>(((p:Nat):Int),((q:Nat):Int)):=by
 unfold row
 rw[List.map_map]
 simp only[Nat.zero_add]
 rfl
theorem yp{g:Nat->Bool}{n r:Nat}{x:Bfs.Pl}:x∈(row g 0 n).map (fun q=>((r:Int),q))↔∃j:Nat,j<n/\g j=true/\x=((r:Int),(j:Int)):=by
 rw[qK,List.mem_map]
 constructor
 ·rintro⟨j,hj,rfl⟩
  obtain⟨h1,h2⟩:=List.mem_filter.mp hj
  exact⟨j,List.mem_range.mp h1,h2,rfl⟩
 ·rintro⟨j,h1,h2,rfl⟩
  exact⟨j,List.mem_filter.mpr ⟨List.mem_range.mpr h1,h2⟩,rfl⟩
theorem oh{P:Program}{w:World}{H:Hp}{Q:VK}{ov:Addr}{OL:List Bfs.Pl}{n:Nat}{R:Nat->Nat->Prop}{σ:St}(h:PL H ov OL)(hlen:OL.length<1400)(hO:∀x,x∈OL↔x∈aY n (bE R) n)
  (q:∀l H',Ext H H'->H l=none->PL H' l (aY n (bE R) n)->Q (.ref l) H'):Tp.rSetP P w [.ref ov] H fun x H1=>iy σ H1 fun xs H2=>Tp.rSortP P w (x::xs) H2 Q:=by
 obtain⟨ps,h1,h2⟩:=h
 refine⟨ov,ps,OL.map bf,rfl,h1,tO h2,by rw[Bi];exact hlen,fun l L hl hnd hmem hat=>?_⟩
 have e1:=bI (o:=Tp.setK P w l L) hl
 have hle:L.length<=OL.length:=by
  have:=List.Nodup.length_le_of_subset hnd (l₂:=OL.map bf) fun k hk=>(hmem k).mp hk
  rw[Bi,Bi]at this
  exact this
 refine⟨l,L,rfl,aG,hnd,fun x hx=>⟨?_,e1 _ _ (hat x hx)⟩,by omega,fun l2 bs ds hl2 hperm hk hord=>?_⟩
 ·obtain⟨y,_,hy⟩:=List.mem_map.mp ((hmem _).mp (List.mem_map.mpr ⟨x,hx,rfl⟩))
  exact⟨y.1,y.2,hy.symm⟩
 ·have hds:=yr (n:=n) (g:=bE R) (ds:=ds) (hperm.nodup_iff.mpr hnd) (fun k=>by
   rw[hperm.mem_iff,hmem]
   constructor
   ·intro hk
    obtain⟨y,hy,e⟩:=List.mem_map.mp hk
    exact⟨y,(hO y).mp hy,e.symm⟩
   ·rintro⟨y,hy,rfl⟩
    exact List.mem_map.mpr ⟨y,(hO y).mpr hy,rfl⟩) hord
  rw[hds]at hk
  have e2:=bI (o:=.lst (List.map V.ref bs)) hl2
  exact q _ _ (e1.trans e2) (e1.none hl2) ⟨bs,aG,bV (fun a x z=>e2 _ _ z) (rm hk)⟩
theorem n0{ws us:List Way}{n i j k:Nat}{w:Way}(h:us[k]?=some w):eY ws (us.take (k+1)) n i j↔eY ws (us.take k) n i j\/(w.deed = "up"/\w.room.toNat=i/\Kpt ws n w.other.toNat j):=by
 unfold eY
 rw[List.take_succ,h]
 constructor
 ·rintro⟨u,hu,r⟩
  rcases BE.mp hu with z | z
  ·exact .inl ⟨u,z,r⟩
  ·have:u=w:=by simpa using z
   subst this
   exact .inr r
 ·rintro(⟨u,hu,r⟩ | r)
  ·exact⟨u,List.mem_append_left _ hu,r⟩
  ·exact⟨w,List.mem_append_right _ (by simp),r⟩
theorem p7{ws us:List Way}{n i j k:Nat}{w:Way}(h:us[k]?=some w):gU ws (us.take (k+1)) n i j↔gU ws (us.take k) n i j\/(w.deed = "down"/\w.other.toNat=j/\Kpt ws n i w.room.toNat):=by
 unfold gU
 rw[List.take_succ,h]
 constructor
 ·rintro⟨u,hu,r⟩
  rcases BE.mp hu with z | z
  ·exact .inl ⟨u,z,r⟩
  ·have:u=w:=by simpa using z
   subst this
   exact .inr r
 ·rintro(⟨u,hu,r⟩ | r)
  ·exact⟨u,List.mem_append_left _ hu,r⟩
  ·exact⟨w,List.mem_append_right _ (by simp),r⟩
def fC(H:Hp)(kvs:List (Key×V))(ws:List Way)(n r:Nat):Prop:=kvs.length=r/\(∀i:Nat,r<=i->aX kvs (.inl (i:Int))=none)/\∀i:Nat,i<r->∃l,aX kvs (.inl (i:Int))=some (.ref l)/\H l=some (.lst ((row (bE (Kpt ws n) i) 0 n).map V.int))
theorem fC.ext{H H':Hp}{kvs:List (Key×V)}{ws:List Way}{n r:Nat}(e:Ext H H')(h:fC H kvs ws n r):fC H' kvs ws n r:=⟨h.1,h.2.1,fun i hi=>by
 obtain⟨l,h1,h2⟩:=h.2.2 i hi
 exact⟨l,h1,e _ _ h2⟩⟩
theorem fC.add{H:Hp}{kvs:List (Key×V)}{ws:List Way}{n r:Nat}{d l:Addr}(h:fC H kvs ws n r)(hd:H d=some (.dK kvs))(hl:H l=some (.lst ((row (bE (Kpt ws n) r) 0 n).map V.int))):fC (upd H d (.dK (putK kvs (.inl (r:Int)) (.ref l)))) (putK kvs (.inl (r:Int)) (.ref l)) ws n (r+1):=by
 have hno:=h.2.1 r (BB _)
 refine⟨by rw[oi _ hno,Bz,h.1];rfl,fun i hi=>?_,fun i hi=>?_⟩
 ·rw[uo,if_neg (fun z=>by have:=Sum.inl.inj z;omega)]
  exact h.2.1 i (by omega)
 ·rw[uo]
  by_cases hir:i=r
  ·subst hir
   exact⟨l,if_pos rfl,by rw[ay (cJ hl hd (by intro z;cases z))];exact hl⟩
  ·obtain⟨l',h1,h2⟩:=h.2.2 i (by omega)
   exact⟨l',by rw[if_neg (fun z=>hir (by have:=Sum.inl.inj z;omega))];exact h1,by rw[ay (cJ h2 hd (by intro z;cases z))];exact h2⟩
def jN(K:Be):Sp:=fun vs H Q _=>∃(a:Addr) (ns:List Int),vs=[.ref a]/\ag K H a (ns.map V.int)/\ns.length<=63/\(∀y∈(["fallen","kept","risen"]:List Str),∀c T,PySem.W.tabIn K y=some (c,T)->H T=some (.tbl #[]))/\gD K/\∀H',Q (.bl true) H'
abbrev eI:Stmt:=stq 40
theorem ur:FnScope ["_law_script","_law_house_here","_law_along","_law_room","_law_level","_law_over","_law_under","_law_way","_law_found","_law_pairs","_law_due"] ["_law_script"] (aO eI):=⟨rfl,rfl,rfl,by decide +kernel,rfl,by decide +kernel,by decide +kernel⟩
theorem zk{P:Program}{w:World}{K:Be}{mg:Str->Option Value}{base:Heap}{f:Addr}{fd:FuncData}(F:Fun K "law" "law" eI f fd)(T:Blt mg)(C_fallen:Cal P w K mg base "fallen" 7 ["house"] (lR K))(C_risen:Cal P w K mg base "risen" 7 ["house"] (kh K))(C_kept:Cal P w K mg base "kept" 7 ["house"] (mQ K))(C__law_pairs_are:Cal P w K mg base "_law_pairs_are" 3 ["_law_found","_law_due"] (sD K))(C__law_keeps:Cal P w K mg base "_law_keeps" 1 ["_law_house_here","_law_room"] (sX K))(C__law_house:Cal P w K mg base "_law_house" 4 ["_law_cell_here","_law_prime"] (pN K))(C__law_cell:Cal P w K mg base "_law_cell" 1 ["_law_script","_law_k"] (qz K)):FnOk P w K mg base cP 8 f fd ["_law_script"] (jN K):=by
 have nd:=(ur).nd
 refine F.ok ur (fun vs H Q E h=>?_) (fun cdv A outer s H vs Q E hr h=>?_)
 ·obtain⟨a,ns,rfl,_⟩:=h;rfl
 ·obtain⟨a,ns,rfl,ha,hl,hT,dis,q⟩:=h
  have tab0:Tbs K H:=⟨fun c T e=>.inl (hT _ (by simp) c T e),fun c T e=>.inl (hT _ (by simp) c T e),fun c T e=>.inl (hT _ (by simp) c T e)⟩
  clear hT
  refine⟨_,(@aj _ _ _ _ _ (@aF _ _ 1 _ _ _ _ nd rfl (Or.inl rfl) (aL C__law_house hr (@aa _ _ _ _ _ (aL C__law_cell hr (@aa _ _ _ _ _ (pv 0) (@aa _ _ _ _ _ af ae rfl) rfl)) (@aa _ _ _ _ _ af ae rfl) rfl)) rfl (Or.inl rfl))
    (@aj _ _ _ _ _ (@aF _ _ 2 _ _ _ _ nd rfl (Or.inl rfl) wV rfl (Or.inl rfl))
    (@aj _ _ _ _ _ (bP PassesOwn.never rfl (cb rfl T.range_ (@aa _ _ _ _ _ (@ai _ _ _ _ _ _ _ (aN K) (pv 1) af (fun _ _=>rfl)) ae rfl)) (aS (i:=3) nd rfl (Or.inr rfl)) (@ax _ _ _ (pP (eE hr) (pv 2) (pv 3) (aL C__law_keeps hr (@aa _ _ _ _ _ (pv 1) (@aa _ _ _ _ _ (pv 3) ae rfl) rfl)) rfl)))
    (@aj _ _ _ _ _ (@aF _ _ 4 _ _ _ _ nd rfl (Or.inl rfl) (@bF _ _ _ _ ae) rfl (Or.inl rfl))
    (@aj _ _ _ _ _ (@aF _ _ 5 _ _ _ _ nd rfl (Or.inl rfl) (@bF _ _ _ _ ae) rfl (Or.inl rfl))
    (@aj _ _ _ _ _ (@aF _ _ 6 _ _ _ _ nd rfl (Or.inl rfl) (@bF _ _ _ _ ae) rfl (Or.inl rfl))
    (@aj _ _ _ _ _ (bP PassesOwn.never rfl (cb rfl T.range_ (@aa _ _ _ _ _ (@ai _ _ _ _ _ _ _ (aN K) (pv 1) af (fun _ _=>rfl)) ae rfl)) (aS (i:=3) nd rfl (Or.inr rfl)) (@aj _ _ _ _ _ (@aF _ _ 4 _ _ _ _ nd rfl (Or.inl rfl) (av lC (pv 4) (cM ["_law_q"] [3] (dZ K (jy (eE hr) (pv 2) (pv 3) (fun _ _=>rfl))) (fun _=>(aS (i:=0) (show(["_law_q","_law_room"]:List Str).Nodup from by decide +kernel) rfl (Or.inl rfl) (Or.inr rfl))) (fun _=>fg) (fun _=>(@bx _ _ _ _ _ (@aa _ _ _ _ _ (pv 1) (@aa _ _ _ _ _ (pv 0) ae rfl) rfl))))) rfl (Or.inl rfl))
    (@ax _ _ _ (bP PassesOwn.never rfl (iH K (@ai _ _ _ _ _ _ _ (aN K) (pv 1) af (fun _ _=>rfl))) (aS (i:=7) nd rfl (Or.inl rfl)) (@aj _ _ _ _ _ (di (PW.pt (gZ (bC bY (@ai _ _ _ _ _ _ _ (aN K) (pv 7) af (fun _ _=>rfl)) aJ (bo _)) (iS (bC bY (@ai _ _ _ _ _ _ _ (aN K) (pv 7) af (fun _ _=>rfl)) (pv 3) (bo _))))) (@ax _ _ _ (@aF _ _ 5 _ _ _ _ nd rfl (Or.inl rfl) (av lC (pv 5) (cM ["_law_q"] [3] (dZ K (jy (eE hr) (pv 2) (@ai _ _ _ _ _ _ _ (aN K) (pv 7) af (fun _ _=>rfl)) (fun _ _=>rfl))) (fun _=>(aS (i:=0) (show(["_law_q","_law_room"]:List Str).Nodup from by decide +kernel) rfl (Or.inl rfl) (Or.inr rfl))) (fun _=>fg) (fun _=>(@bx _ _ _ _ _ (@aa _ _ _ _ _ (pv 1) (@aa _ _ _ _ _ (pv 0) ae rfl) rfl))))) rfl (Or.inl rfl))) bJ)
    (@ax _ _ _ (di (PW.pt (gZ (bC bY (@ai _ _ _ _ _ _ _ (aN K) (pv 7) af (fun _ _=>rfl)) aJ (bo _)) (iS (bC (vF K) (@ai _ _ _ _ _ _ _ (aN K) (pv 7) af (fun _ _=>rfl)) (jy (eE hr) (pv 2) (pv 3) (fun _ _=>rfl)) (by with_unfolding_all rfl))))) (@ax _ _ _ (bA (bK K Bp BC BD bS (pv 6) (@aa _ _ _ _ _ (@bx _ _ _ _ _ (@aa _ _ _ _ _ (pv 3) (@aa _ _ _ _ _ (@ai _ _ _ _ _ _ _ (aN K) (pv 7) af (fun _ _=>rfl)) ae rfl) rfl)) ae rfl)))) bJ)))))))
    (@aj _ _ _ _ _ (@aF _ _ 5 _ _ _ _ nd rfl (Or.inl rfl) (bj (Tp.call_sortP hr) rfl T.sorted_ PyProof.Rows.boot_sorted (@aa _ _ _ _ _ (hZ (Tp.call_setP hr) rfl T.set_ PyProof.Rows.boot_set (@aa _ _ _ _ _ (pv 5) ae rfl)) ae rfl)) rfl (Or.inl rfl))
    (@aj _ _ _ _ _ (@aF _ _ 6 _ _ _ _ nd rfl (Or.inl rfl) (bj (Tp.call_sortP hr) rfl T.sorted_ PyProof.Rows.boot_sorted (@aa _ _ _ _ _ (hZ (Tp.call_setP hr) rfl T.set_ PyProof.Rows.boot_set (@aa _ _ _ _ _ (pv 6) ae rfl)) ae rfl)) rfl (Or.inl rfl))
    (@aj _ _ _ _ _ (@aF _ _ 8 _ _ _ _ nd rfl (Or.inl rfl) (@bF _ _ _ _ (@aa _ _ _ _ _ (aL C_kept hr (@aa _ _ _ _ _ (pv 1) ae rfl)) (@aa _ _ _ _ _ (aL C_risen hr (@aa _ _ _ _ _ (pv 1) ae rfl)) (@aa _ _ _ _ _ (aL C_fallen hr (@aa _ _ _ _ _ (pv 1) ae rfl)) ae rfl) rfl) rfl)) rfl (Or.inl rfl))
    (@aj _ _ _ _ _ (bP PassesOwn.never rfl (vW K rfl T.zip_ (@aa _ _ _ _ _ (pv 8) (@aa _ _ _ _ _ (@bF _ _ _ _ (@aa _ _ _ _ _ (pv 4) (@aa _ _ _ _ _ (pv 5) (@aa _ _ _ _ _ (pv 6) ae rfl) rfl) rfl)) ae rfl) rfl)) (wb (n:=2) K rfl (gJ (aS (i:=9) nd rfl (Or.inl rfl)) (gJ (aS (i:=10) nd rfl (Or.inl rfl)) qe))) (@aj _ _ _ _ _ (@cL _ _ _ _ _ _ _ _ (eB (cN (aL C__law_pairs_are hr (@aa _ _ _ _ _ (pv 9) (@aa _ _ _ _ _ (pv 10) ae rfl) rfl)))) (@ax _ _ _ (@aQ _ _ _ _ cZ)) bJ)
    (@aj _ _ _ _ _ (bA (bK K Bp BC BD bS (pv 9) (@aa _ _ _ _ _ (@bx _ _ _ _ _ (@aa _ _ _ _ _ af (@aa _ _ _ _ _ af ae rfl) rfl)) ae rfl)))
    (@ax _ _ _ (bA (bK K Bp PySem.F.slot_list_insert PySem.F.type_list_insert zY (pv 9) (@aa _ _ _ _ _ af (@aa _ _ _ _ _ (@bx _ _ _ _ _ (@aa _ _ _ _ _ (nG mS af) (@aa _ _ _ _ _ af ae rfl) rfl)) ae rfl) rfl)))))))
    (@ax _ _ _ (@aQ _ _ _ _ (cH (fK (iY hr) (aL C_kept hr (@aa _ _ _ _ _ (pv 1) ae rfl)) (pv 4) (bo _)) (cH (fK (iY hr) (aL C_risen hr (@aa _ _ _ _ _ (pv 1) ae rfl)) (pv 5) (bo _)) (dA (fK (iY hr) (aL C_fallen hr (@aa _ _ _ _ _ (pv 1) ae rfl)) (pv 6) (bo _)))))))))))))))))),?_⟩
  walk_at "r"
  refine⟨a,ns,0,rfl,ha,hl,by decide,fun z=>?_⟩
  walk_at "r"
  refine⟨z,_,rfl,by decide,fun v m ws H1 e1 hv ok3=>?_⟩
  have ok:=ok3.house
  have m1:=ok.m1
  have m2:=ok.m12
  have hfew:=ok.few
  have tb1:=tab0.ext e1
  clear tab0 ha e1
  obtain⟨hh,t,rfl,k1,k2⟩:=id hv
  walk_at "r"
  refine fun al hal=>?_
  walk_at "r"
  refine aM (ao.of ((bI hal) _ _ k1)) (v:=.int m) rfl ?_
  walk_at "r"
  refine b6 (by omega) ?_
  refine forR (fun r σ H'=>∃c3 kvs,σ=[some (.ref a),some (.ref hh),some (.ref al),c3,none,none,none,none,none,none,none]/\Ext H1 H'/\H' al=some (.dK kvs)/\fC H' kvs ws m.toNat r) ⟨_,_,rfl,bI hal,aG,rfl,fun i _=>rfl,fun i hi=>absurd hi (Nat.not_lt_zero _)⟩ ?_ ?_
  ·rintro r σ H2 hr ⟨c3,kvs,rfl,e2,hd2,ag2⟩
   rw[show (0:Int)+(r:Int)=((r:Nat):Int) by omega]
   walk_at "r"
   refine⟨_,m,ws,r,rfl,hv.ext e2,ok,hr,fun l G H3 e3 hl3 hG=>?_⟩
   rw[show row G 0 m.toNat=row (bE (Kpt ws m.toNat) r) 0 m.toNat from yc fun j hj=>by rw[BP,hG j hj,fh]]at hl3
   walk_at "r"
   refine⟨al,_,rfl,eA.k (k:=.inl (r:Int)) (e3 _ _ hd2) (gq (by have:=ag2.1;omega)),?_⟩
   exact⟨_,_,rfl,cD (e2.trans e3) hal,aG,(ag2.ext e3).add (e3 _ _ hd2) hl3⟩
  rintro σ H2 ⟨c3,kvs,rfl,e2,hd2,ag2⟩
  have hv2:=hv.ext e2
  have tb2:=tb1.ext e2
  have k12:=e2 _ _ k1
  clear hv tb1 k1 k2 e2 hal
  walk_at "r"
  refine aE fun lv H3 e3 hlv _=>?_
  walk_at "r"
  refine aE fun ov H4 e4 hov _=>?_
  walk_at "r"
  refine aE fun un H5 e5 hun hunn=>?_
  have e24:=e3.trans e4
  have hv4:=hv2.ext e24
  have tb4:=tb2.ext e24
  have k14:=e24 _ _ k12
  have hd4:=e24 _ _ hd2
  have ag4:=ag2.ext e24
  have hlv4:=e4 _ _ hlv
  clear hv2 tb2 k12 hd2 ag2 hlv e24 e3 e4
  obtain⟨bs,hb4,al4⟩:∃bs:List Addr,H4 t=some (.tup (bs.map V.ref))/\aA H4 bs ws:=by
   obtain⟨p,q,hpq,h1,h2⟩:=hv4
   cases hpq
   rw[h1]at k14
   cases k14
   exact h2.al
  have hbl:=al4.1
  walk_at "r"
  refine aM (ao.of (e5 _ _ k14)) (v:=.int m) rfl ?_
  walk_at "r"
  refine b6 (by omega) ?_
  refine forR (fun r σ H'=>∃lv ov OL UL c3 c7,σ=[some (.ref a),some (.ref hh),some (.ref al),c3,some (.ref lv),some (.ref ov),some (.ref un),c7,none,none,none]/\Ext H4 H'/\lv≠un/\ov≠un/\PL H' lv (aY m.toNat (bE (Kpt ws m.toNat)) r)/\PL H' ov OL/\PL H' un UL/\(∀x,x∈OL↔aZ (eG ws m.toNat) (fun _ _=>False) m.toNat r x)/\OL.length<=12*dE ws r/\(∀x,x∈UL↔aZ (fH ws m.toNat) (fun _ _=>False) m.toNat r x)/\UL.length<=r*ws.length)
   ⟨lv,ov,[],[],_,_,rfl,e5,fun z=>?_,fun z=>?_,⟨[],e5 _ _ hlv4,.nil⟩,⟨[],e5 _ _ hov,.nil⟩,⟨[],hun,.nil⟩,fun x=>?_,Nat.zero_le _,fun x=>?_,Nat.zero_le _⟩ ?_ ?_
  ·rw[z]at hlv4
   rw[hlv4]at hunn
   cases hunn
  ·rw[z]at hov
   rw[hov]at hunn
   cases hunn
  ·refine⟨fun h=>by simp at h,?_⟩
   rintro⟨i,j,h,_⟩
   rcases h with⟨h,_⟩ | ⟨_,h⟩
   ·exact absurd h (Nat.not_lt_zero _)
   ·exact h.elim
  ·refine⟨fun h=>by simp at h,?_⟩
   rintro⟨i,j,h,_⟩
   rcases h with⟨h,_⟩ | ⟨_,h⟩
   ·exact absurd h (Nat.not_lt_zero _)
   ·exact h.elim
  ·clear hun hlv4 hov e5 H5
   rintro r σ H5 hr ⟨lv,ov,OL,UL,c3,c7,rfl,e5,nl,no,hlv,hov,hun,hO,hOl,hU,hUl⟩
   rw[show (0:Int)+(r:Int)=((r:Nat):Int) by omega]
   obtain⟨lr,hlr,hlr4⟩:=ag4.2.2 r hr
   walk_at "r"
   refine⟨al,_,rfl,by rw[←hlr];exact bM.k (k:=.inl (r:Int)) (e5 _ _ hd4),?_⟩
   refine ed (ag.of (e5 _ _ hlr4)) ?_
   refine sA (by omega) (e5 _ _ hlr4) fun p9 H6 e6 hp9 hpl9=>?_
   have hpn:=fW (n:=m.toNat) (g:=bE (Kpt ws m.toNat)) r
   have hrl:=jF (bE (Kpt ws m.toNat) r) 0 m.toNat
   have hrm:r*m.toNat<=12*12:=Nat.mul_le_mul (by omega) (by omega)
   refine PL.cat (hlv.ext e6) hpl9 (by rw[Bi];omega) fun lv2 H7 e7 hlv2 hpl7=>?_
   rw[qK]at hpl7
   have hlv7:PL H7 lv2 (aY m.toNat (bE (Kpt ws m.toNat)) (r+1)):=hpl7
   have nl2:lv2≠un:=fun z=>by
    obtain⟨us,hu1,_⟩:=hun.ext e6
    rw[z,hu1]at hlv2
    cases hlv2
   have e57:=e5.trans (e6.trans e7)
   have hov7:=hov.ext (e6.trans e7)
   have hun7:=hun.ext (e6.trans e7)
   clear hpl7 hpl9 hp9 hlv2 hlv hov hun nl e5 e6 e7 hpn hrl hrm hlr4 hlr
   walk_at "r"
   refine aM (ao.of (e57 _ _ k14)) (v:=.ref t) rfl ?_
   walk_at "r"
   refine iw (ao.of (e57 _ _ hb4)) ?_
   refine yD (xs:=bs.map V.ref) (fun k σ H'=>∃ov OL UL c7,σ=[some (.ref a),some (.ref hh),some (.ref al),some (.int (r:Int)),some (.ref lv2),some (.ref ov),some (.ref un),c7,none,none,none]/\Ext H4 H'/\ov≠un/\PL H' lv2 (aY m.toNat (bE (Kpt ws m.toNat)) (r+1))/\PL H' ov OL/\PL H' un UL/\(∀x,x∈OL↔aZ (eG ws m.toNat) (eY ws (ws.take k) m.toNat) m.toNat r x)/\OL.length<=12*(dE ws r+(ws.take k).countP fun w=>decide (w.room=(r:Int)))/\(∀x,x∈UL↔aZ (fH ws m.toNat) (gU ws (ws.take k) m.toNat) m.toNat r x)/\UL.length<=r*ws.length+k)
    ⟨ov,OL,UL,_,rfl,e57,no,hlv7,hov7,hun7,fun x=>(hO x).trans (aZ.congr fun j=>⟨fun h=>h.elim,fun⟨u,hu,_⟩=>by simp at hu⟩),BL hOl (Nat.mul_le_mul_left _ (Nat.le_add_right _ _)),fun x=>(hU x).trans (aZ.congr fun j=>⟨fun h=>h.elim,fun⟨u,hu,_⟩=>by simp at hu⟩),hUl⟩ (fun i σ H' _ h=>by obtain⟨_,_,_,_,_,e,_⟩:=h;exact ao.of (e _ _ hb4)) ?_ ?_
   ·clear hlv7 hov7 hun7 e57 hO hOl hU hUl no
    rintro k u σ H8 hu ⟨ov,OL,UL,c7,rfl,e8,no,hlv,hov,hun,hO,hOl,hU,hUl⟩
    rw[Bk]at hu
    obtain⟨b,hbk,rfl⟩:=Bt.mp hu
    have hkl:k<ws.length:=by rw[←hbl];exact(Bq.mp hbk).1
    have hwk:ws[k]?=some ws[k]:=Bj hkl
    generalize ws[k]=w at hwk
    have hbw:H8 b=some (.tup w.vs):=e8 _ _ (al4.2 k b w hbk hwk)
    have okw:=ok.ok w (Br hwk)
    have r0:=okw.r0
    have r1:=okw.r1
    have o0:=okw.o0
    have o1:=okw.o1
    have hcn:(ws.take (k+1)).countP (fun w=>decide (w.room=(r:Int)))=(ws.take k).countP (fun w=>decide (w.room=(r:Int)))+if decide (w.room=(r:Int))=true then 1 else 0:=by
     rw[List.take_succ,hwk,List.countP_append]
     show _+List.countP _ [w]=_
     rw[List.countP_cons,List.countP_nil,Nat.zero_add]
    have hcl:dE ws r+(ws.take (k+1)).countP (fun w=>decide (w.room=(r:Int)))<=200:=by
     have h1:dE ws r<=ws.length:=List.countP_le_length
     have h2:(ws.take (k+1)).countP (fun w=>decide (w.room=(r:Int)))<=(ws.take (k+1)).length:=List.countP_le_length
     rw[List.length_take]at h2
     omega
    walk_at "r"
    refine fQ (fun σ H'=>∃ov OL,σ=[some (.ref a),some (.ref hh),some (.ref al),some (.int (r:Int)),some (.ref lv2),some (.ref ov),some (.ref un),some (.ref b),none,none,none]/\Ext H8 H'/\ov≠un/\PL H' ov OL/\(∀x,x∈OL↔aZ (eG ws m.toNat) (eY ws (ws.take (k+1)) m.toNat) m.toNat r x)/\OL.length<=12*(dE ws r+(ws.take (k+1)).countP fun w=>decide (w.room=(r:Int)))) ?_ ?_
    ·have skip:¬(w.deed = "up"/\w.room=(r:Int))->∃ov' OL,[some (V.ref a),some (.ref hh),some (.ref al),some (.int (r:Int)),some (.ref lv2),some (.ref ov),some (.ref un),some (.ref b),none,none,none]=[some (.ref a),some (.ref hh),some (.ref al),some (.int (r:Int)),some (.ref lv2),some (.ref ov'),some (.ref un),some (.ref b),none,none,none]/\Ext H8 H8/\ov'≠un/\PL H8 ov' OL/\(∀x,x∈OL↔aZ (eG ws m.toNat) (eY ws (ws.take (k+1)) m.toNat) m.toNat r x)/\OL.length<=12*(dE ws r+(ws.take (k+1)).countP fun w=>decide (w.room=(r:Int))):=fun hno=>⟨ov,OL,rfl,Ext.rfl' _,no,hov,fun x=>(hO x).trans (aZ.congr fun j=>by
       rw[n0 hwk]
       exact⟨.inl,fun h=>h.resolve_right fun⟨z1,z2,_⟩=>hno ⟨z1,by omega⟩⟩),by rw[hcn];omega⟩
     walk_at "r"
     refine aM (ao.of hbw) (v:=.str w.deed) rfl ?_
     walk_at "r"
     refine lD ?_
     by_cases hup:w.deed = "up"
     ·rw[decide_eq_true hup]
      refine rd_exb (aK ?_)
      walk_at "r"
      refine aM (ao.of hbw) (v:=.int w.room) rfl ?_
      walk_at "r"
      by_cases hrm:w.room=(r:Int)
      ·rw[decide_eq_true hrm]
       refine aK ?_
       walk_at "r"
       obtain⟨lo,hlo,hlo4⟩:=ag4.2.2 w.other.toNat (by omega)
       rw[Bv o0]at hlo
       refine aM (ao.of hbw) (v:=.int w.other) rfl ?_
       refine⟨al,_,rfl,by rw[←hlo];exact bM.k (k:=.inl w.other) (e8 _ _ hd4),?_⟩
       refine ed (ag.of (e8 _ _ hlo4)) ?_
       have hrl:=jF (bE (Kpt ws m.toNat) w.other.toNat) 0 m.toNat
       refine sA (by omega) (e8 _ _ hlo4) fun p9 H9 e9 hp9 hpl9=>?_
       rw[hcn,decide_eq_true hrm,if_pos rfl]at hcl
       refine PL.cat (hov.ext e9) hpl9 (by rw[Bi];omega) fun ov2 H10 e10 hov2 hpl10=>?_
       refine⟨ov2,_,rfl,e9.trans e10,fun z=>?_,hpl10,fun x=>?_,?_⟩
       ·obtain⟨us,hu1,_⟩:=hun.ext e9
        rw[z,hu1]at hov2
        cases hov2
       ·rw[BE,hO x,yp]
        refine Iff.trans ?_ (Iff.trans (aZ.or (R':=eY ws (ws.take k) m.toNat) (S:=fun j=>Kpt ws m.toNat w.other.toNat j)).symm (aZ.congr fun j=>?_))
        ·exact or_congr Iff.rfl ⟨fun⟨j,h1,h2,h3⟩=>⟨j,h1,fh.mp h2,h3⟩,fun⟨j,h1,h2,h3⟩=>⟨j,h1,fh.mpr h2,h3⟩⟩
        ·rw[n0 hwk]
         exact or_congr Iff.rfl ⟨fun h=>⟨hup,by omega,h⟩,fun h=>h.2.2⟩
       ·rw[Bz,Bi,hcn,decide_eq_true hrm,if_pos rfl]
        omega
      ·rw[decide_eq_false hrm]
       refine aP ?_
       walk_at "r"
       exact skip fun h=>hrm h.2
     ·rw[decide_eq_false hup]
      refine rd_exb (aP ?_)
      walk_at "r"
      exact skip fun h=>hup h.1
    clear hO hOl hov no
    rintro σ H9 ⟨ov,OL,rfl,e9,no,hov,hO,hOl⟩
    have hlv9:=hlv.ext e9
    have hun9:=hun.ext e9
    have e49:=e8.trans e9
    have hbw9:=e9 _ _ hbw
    clear hlv hun e8 hbw e9 hu
    have skip:¬(w.deed = "down"/\Kpt ws m.toNat r w.room.toNat)->∃ov' OL UL c7,[some (V.ref a),some (.ref hh),some (.ref al),some (.int (r:Int)),some (.ref lv2),some (.ref ov),some (.ref un),some (.ref b),none,none,none]=[some (.ref a),some (.ref hh),some (.ref al),some (.int (r:Int)),some (.ref lv2),some (.ref ov'),some (.ref un),c7,none,none,none]/\Ext H4 H9/\ov'≠un/\PL H9 lv2 (aY m.toNat (bE (Kpt ws m.toNat)) (r+1))/\PL H9 ov' OL/\PL H9 un UL/\(∀x,x∈OL↔aZ (eG ws m.toNat) (eY ws (ws.take (k+1)) m.toNat) m.toNat r x)/\OL.length<=12*(dE ws r+(ws.take (k+1)).countP fun w=>decide (w.room=(r:Int)))/\(∀x,x∈UL↔aZ (fH ws m.toNat) (gU ws (ws.take (k+1)) m.toNat) m.toNat r x)/\UL.length<=r*ws.length+(k+1):=fun hno=>⟨ov,OL,UL,_,rfl,e49,no,hlv9,hov,hun9,hO,hOl,fun x=>(hU x).trans (aZ.congr fun j=>by
      rw[p7 hwk]
      exact⟨.inl,fun h=>h.resolve_right fun⟨z1,_,z2⟩=>hno ⟨z1,z2⟩⟩),by omega⟩
    walk_at "r"
    refine gL ?_
    walk_at "r"
    refine aM (ao.of hbw9) (v:=.str w.deed) rfl ?_
    walk_at "r"
    refine lD ?_
    by_cases hdn:w.deed = "down"
    ·rw[decide_eq_true hdn]
     refine rd_exb (aK ?_)
     walk_at "r"
     refine aM (ao.of hbw9) (v:=.int w.room) rfl ?_
     walk_at "r"
     obtain⟨lr,hlr,hlr4⟩:=ag4.2.2 r hr
     refine⟨al,_,rfl,by rw[←hlr];exact bM.k (k:=.inl (r:Int)) (e49 _ _ hd4),?_⟩
     refine wU (.inl (ag.of (e49 _ _ hlr4))) rfl (by rw[List.all_map];exact BN.mpr fun _ _=>rfl) ?_
     rw[za]
     have hmem:(row (bE (Kpt ws m.toNat) r) 0 m.toNat).contains w.room=bE (Kpt ws m.toNat) r w.room.toNat:=by
      rw[BP,List.contains_iff_mem,yd]
      exact⟨fun h=>h.2.2,fun h=>⟨by omega,by omega,h⟩⟩
     rw[hmem]
     cases hk:bE (Kpt ws m.toNat) r w.room.toNat with
     | true=>
      refine rd_exb (aK ?_)
      walk_at "r"
      obtain⟨us0,hu0,_⟩:=id hun9
      refine⟨cS (ag.of hu0),?_⟩
      walk_at "r"
      refine aM (ao.of hbw9) (v:=.int w.other) rfl ?_
      walk_at "r"
      refine aE fun c H10 e10 hc _=>?_
      obtain⟨us,hu1,hul,hpl⟩:=(hun9.ext e10).push (x:=((r:Int),w.other)) hc
      have hrw:r*ws.length<=12*100:=Nat.mul_le_mul (by omega) hfew
      walk_at "r"
      refine bO hu1 (gq (by omega)) ?_
      refine⟨ov,OL,_,_,rfl,cD (e49.trans e10) hunn,no,(hlv9.ext e10).put hu1 nl2,(hov.ext e10).put hu1 no,hpl,hO,hOl,fun x=>?_,by rw[Bz,List.length_singleton];omega⟩
      rw[BE,Bs,hU x]
      refine Iff.trans ?_ (Iff.trans (aZ.or (R':=gU ws (ws.take k) m.toNat) (S:=fun j=>w.other.toNat=j)).symm (aZ.congr fun j=>?_))
      ·refine or_congr Iff.rfl ⟨fun h=>⟨w.other.toNat,by omega,rfl,by rw[h,Bv o0]⟩,?_⟩
       rintro⟨j,_,rfl,h3⟩
       rw[h3,Bv o0]
      ·rw[p7 hwk]
       exact or_congr Iff.rfl ⟨fun h=>⟨hdn,h,fh.mp hk⟩,fun h=>h.2.1⟩
     | false=>
      refine rd_exb (aP ?_)
      walk_at "r"
      exact skip fun h=>by rw[fh.mpr h.2]at hk;cases hk
    ·rw[decide_eq_false hdn]
     refine rd_exb (aP ?_)
     walk_at "r"
     exact skip fun h=>hdn h.1
   rintro σ H8 ⟨ov,OL,UL,c7,rfl,e8,no,hlv,hov,hun,hO,hOl,hU,hUl⟩
   rw[Bi,hbl,BJ]at hOl
   rw[Bi,hbl]at hUl
   refine⟨lv2,ov,OL,UL,_,_,rfl,e8,nl2,no,hlv,hov,hun,fun x=>?_,by rw[rn];exact hOl,fun x=>?_,by rw[Nat.add_mul,Nat.one_mul];exact hUl⟩
   ·have:=hO x
    rw[Bi,hbl,BJ]at this
    exact this.trans aZ.all
   ·have:=hU x
    rw[Bi,hbl,BJ]at this
    exact this.trans aZ.all
  clear hun hlv4 hov e5 H5
  rintro σ H6 ⟨lv,ov,OL,UL,c3,c7,rfl,e6,nl,no,hlv,hov,hun,hO,hOl,hU,hUl⟩
  have hcw:dE ws m.toNat<=ws.length:=List.countP_le_length
  have hmw:m.toNat*ws.length<=12*100:=Nat.mul_le_mul (by omega) hfew
  walk_at "r"
  refine oh hov (by omega) (fun x=>(hO x).trans aZ.end) fun ov2 H7 e7 _ hov7=>?_
  walk_at "r"
  refine oh (hun.ext e7) (by omega) (fun x=>(hU x).trans aZ.end) fun un2 H8 e8 _ hun8=>?_
  have hlv8:=hlv.ext (e7.trans e8)
  have hov8:=hov7.ext e8
  have e48:=e6.trans (e7.trans e8)
  have hv8:=hv4.ext e48
  have tb8:=tb4.ext e48
  clear hO hOl hU hUl hcw hmw hlv hov hun hov7 nl no e6 e7 e8 e48 hv4 tb4 hb4 al4 ag4 hd4 k14 hunn
  walk_at "r"
  refine⟨_,m,ws,rfl,hv8,ok,dis,tb8,fun l1 H9 e9 tb9 hf9 hp9=>?_⟩
  walk_at "r"
  refine⟨_,m,ws,rfl,hv8.et e9,ok,dis,tb9,fun l2 H10 e10 tb10 hf10 hp10=>?_⟩
  walk_at "r"
  refine⟨_,m,ws,rfl,hv8.et (e9.trans e10),ok,dis,tb10,fun l3 H11 e11 tb11 hf11 hp11=>?_⟩
  walk_at "r"
  refine aE fun fd H12 e12 hfd hfdn=>?_
  have pA:=fW (n:=m.toNat) (g:=bE (Kpt ws m.toNat)) m.toNat
  have pB:=fW (n:=m.toNat) (g:=bE (eG ws m.toNat)) m.toNat
  have pC:=fW (n:=m.toNat) (g:=bE (fH ws m.toNat)) m.toNat
  have hmm:m.toNat*m.toNat<=12*12:=Nat.mul_le_mul (by omega) (by omega)
  have old:∀{l l':Addr} {G:Hp} {B:List Bfs.Pl},PL G l B->(∀o,G l'=some o->∃ps,o=.tbl ps)->l≠l':=fun h1 h2 z=>by
   obtain⟨ps,h3,_⟩:=h1
   obtain⟨qs,hq⟩:=h2 _ (z ▸ h3)
   cases hq
  obtain⟨tl,hx,hy,hn3,htl,hpw⟩:∃tl:List (Addr×Addr×List Bfs.Pl),[V.ref l1,.ref l2,.ref l3]=tl.map (fun e=>V.ref e.1)/\[V.ref lv,.ref ov2,.ref un2]=tl.map (fun e=>V.ref e.2.1)/\tl.length=3/\(∀e∈tl,PL H8 e.2.1 e.2.2/\PL H11 e.1 e.2.2/\(∀o,H8 e.1=some o->∃ps,o=.tbl ps)/\e.2.2.length<=144)/\tl.Pairwise fun e e'=>e.1≠e'.1:=by
   have f2:∀o,H8 l2=some o->∃ps,o=.tbl ps:=fun o ho=>Classical.byContradiction fun z=>by
    obtain⟨ps,h⟩:=hf10 o (e9 _ _ ho fun ps h=>z ⟨ps,h⟩)
    exact z ⟨ps,h⟩
   have f3:∀o,H8 l3=some o->∃ps,o=.tbl ps:=fun o ho=>Classical.byContradiction fun z=>by
    obtain⟨ps,h⟩:=hf11 o ((e9.trans e10) _ _ ho fun ps h=>z ⟨ps,h⟩)
    exact z ⟨ps,h⟩
   have q1:=hp9.pl
   have q2:=hp10.pl
   have q3:=hp11.pl
   refine⟨[(l1,lv,aY m.toNat (bE (Kpt ws m.toNat)) m.toNat),(l2,ov2,aY m.toNat (bE (eG ws m.toNat)) m.toNat),(l3,un2,aY m.toNat (bE (fH ws m.toNat)) m.toNat)],rfl,rfl,rfl,fun e he=>?_,?_⟩
   ·rcases Bw.mp he with rfl | he
    ·exact⟨hlv8,q1.et (e10.trans e11),hf9,by show(aY _ _ _).length<=144;omega⟩
    ·rcases Bw.mp he with rfl | he
     ·exact⟨hov8,q2.et e11,f2,by show(aY _ _ _).length<=144;omega⟩
     ·rw[Bs.mp he]
      exact⟨hun8,q3,f3,by show(aY _ _ _).length<=144;omega⟩
   ·exact .cons (fun e he=>by
     rcases Bw.mp he with rfl | he
     ·exact old q1 hf10
     ·rw[Bs.mp he]
      exact old (q1.et e10) hf11) (.cons (fun e he=>by rw[Bs.mp he];exact old q2 hf11) (.cons (fun e he=>by cases he) .nil))
  rw[hx]at hfd
  have e812:=(e9.trans (e10.trans e11)).trans e12.et
  have tb12:=tb11.ext e12
  walk_at "r"
  refine aE fun du H13 e13 hdu hdun=>?_
  walk_at "r"
  rw[hy]at hdu
  have hfd13:=e13 _ _ hfd
  refine uZ (ag.of hfd13) (ag.of hdu) ?_
  have e813:=e812.trans e13.et
  have tb13:=tb12.ext e13
  have hpl13:∀(k:Nat) e,0<=k->tl[k]?=some e->PL H13 e.1 e.2.2:=fun k e _ h=>(htl e (Br h)).2.1.ext (e12.trans e13)
  have hne:∀e∈tl,e.1≠fd/\e.1≠du:=fun e he=>by
   obtain⟨ps,h1,_⟩:=(htl e he).2.1
   refine⟨fun z=>?_,fun z=>?_⟩
   ·rw[z,hfdn]at h1
    cases h1
   ·have h2:=e12 _ _ h1
    rw[z,hdun]at h2
    cases h2
  refine Ae (xs:=tl.map fun e=>V.ref e.1) (ys:=tl.map fun e=>V.ref e.2.1) (fun i σ H'=>∃c9 c10,σ=[some (V.ref a),some (.ref hh),some (.ref al),c3,some (.ref lv),some (.ref ov2),some (.ref un2),c7,some (.ref fd),c9,c10]/\Et H8 H'/\Tbs K H'/\H' fd=some (.lst (tl.map fun e=>V.ref e.1))/\H' du=some (.lst (tl.map fun e=>V.ref e.2.1))/\∀(k:Nat) e,i<=k->tl[k]?=some e->PL H' e.1 e.2.2)
   ⟨_,_,rfl,e813,tb13,hfd13,hdu,hpl13⟩ (by rw[Bi,Bi]) (fun i σ H' _ h=>by obtain⟨_,_,_,_,_,h1,h2,_⟩:=h;exact⟨ag.of h1,ag.of h2⟩) ?_ ?_
  ·rintro i u v σ H14 pr H15 hu hv' ⟨c9,c10,rfl,e14,tb14,hfd14,hdu14,hpl14⟩ e15 hpr _
   rw[Bk]at hu hv'
   obtain⟨e,he,rfl⟩:=Bt.mp hu
   rw[he]at hv'
   cases hv'
   obtain⟨g1,_,g3,g4⟩:=htl e (Br he)
   obtain⟨n1,n2⟩:=hne e (Br he)
   walk_at "r"
   refine⟨pr,_,rfl,ao.of hpr,rfl,?_⟩
   walk_at "r"
   refine⟨e.1,e.2.1,e.2.2,rfl,(hpl14 i e (BB _) he).ext e15,(g1.et e14).ext e15,by omega,fun H16 e16=>?_⟩
   refine rd_exb (aP ?_)
   have inv0:Et H8 H16/\Tbs K H16/\H16 fd=some (.lst (tl.map fun e=>V.ref e.1))/\H16 du=some (.lst (tl.map fun e=>V.ref e.2.1))/\∀(k:Nat) e',i+1<=k->tl[k]?=some e'->PL H16 e'.1 e'.2.2:=⟨e14.trans (e15.trans e16).et,tb14.ext (e15.trans e16),(e15.trans e16) _ _ hfd14,(e15.trans e16) _ _ hdu14,fun k e' hk he'=>(hpl14 k e' (by omega) he').ext (e15.trans e16)⟩
   have grow:∀{G G':Hp},Ext G G'->(Et H8 G/\Tbs K G/\G fd=some (.lst (tl.map fun e=>V.ref e.1))/\G du=some (.lst (tl.map fun e=>V.ref e.2.1))/\∀(k:Nat) e',i+1<=k->tl[k]?=some e'->PL G e'.1 e'.2.2)->(Et H8 G'/\Tbs K G'/\G' fd=some (.lst (tl.map fun e=>V.ref e.1))/\G' du=some (.lst (tl.map fun e=>V.ref e.2.1))/\∀(k:Nat) e',i+1<=k->tl[k]?=some e'->PL G' e'.1 e'.2.2):=fun x h=>⟨h.1.trans x.et,h.2.1.ext x,x _ _ h.2.2.1,x _ _ h.2.2.2.1,fun k e' hk he'=>(h.2.2.2.2 k e' hk he').ext x⟩
   have put:∀{G:Hp} {xs ys:List V},G e.1=some (.lst xs)->(Et H8 G/\Tbs K G/\G fd=some (.lst (tl.map fun e=>V.ref e.1))/\G du=some (.lst (tl.map fun e=>V.ref e.2.1))/\∀(k:Nat) e',i+1<=k->tl[k]?=some e'->PL G e'.1 e'.2.2)->(Et H8 (upd G e.1 (.lst ys))/\Tbs K (upd G e.1 (.lst ys))/\(upd G e.1 (.lst ys)) fd=some (.lst (tl.map fun e=>V.ref e.1))/\(upd G e.1 (.lst ys)) du=some (.lst (tl.map fun e=>V.ref e.2.1))/\∀(k:Nat) e',i+1<=k->tl[k]?=some e'->PL (upd G e.1 (.lst ys)) e'.1 e'.2.2):=fun hx h=>⟨fun b o hb hn=>by
     have hbl:b≠e.1:=fun z=>by
      subst z
      obtain⟨ps,hps⟩:=g3 o hb
      exact hn ps hps
     rw[ay hbl]
     exact h.1 b o hb hn,h.2.1.put hx,by rw[ay n1.symm];exact h.2.2.1,by rw[ay n2.symm];exact h.2.2.2.1,fun k e' hk he'=>(h.2.2.2.2 k e' hk he').put hx fun z=>by
     obtain⟨j1,y1⟩:=Bq.mp he
     obtain⟨j2,y2⟩:=Bq.mp he'
     have:=List.pairwise_iff_getElem.mp hpw i k j1 j2 (by omega)
     rw[y1,y2]at this
     exact this z.symm⟩
   obtain⟨ps,hl16,pa16⟩:=(hpl14 i e (BB _) he).ext (e15.trans e16)
   have hpl:=Paired.length pa16
   clear hpl14 hfd14 hdu14 tb14 e14 e15 e16 pa16 hpr
   walk_at "r"
   refine⟨cS (ag.of hl16),?_⟩
   walk_at "r"
   refine aE fun c1 H17 e17 _ _=>?_
   walk_at "r"
   refine bO (e17 _ _ hl16) (gq (by rw[Bi];omega)) ?_
   have inv1:=put (ys:=List.map V.ref ps++[.ref c1]) (e17 _ _ hl16) (grow e17 inv0)
   have hl18:(upd H17 e.1 (.lst (List.map V.ref ps++[.ref c1]))) e.1=_:=aG
   generalize upd H17 e.1 (.lst (List.map V.ref ps++[.ref c1]))=H18 at inv1 hl18 ⊢
   clear inv0 hl16 e17
   walk_at "r"
   refine⟨cS (ag.of hl18),?_⟩
   walk_at "r"
   refine aE fun c2 H19 e19 _ _=>?_
   walk_at "r"
   refine yg (e19 _ _ hl18) (gq (by rw[Bz,Bi,List.length_singleton];omega)) ?_
   exact⟨_,_,rfl,put (e19 _ _ hl18) (grow e19 inv1)⟩
  ·rintro σ H14 ⟨c9,c10,rfl,e14,tb14,_⟩
   walk_at "r"
   refine⟨_,m,ws,rfl,hv8.et e14,ok,dis,tb14,fun l4 H15 e15 tb15 _ hp15=>?_⟩
   walk_at "r"
   have hr1:=hp15.pl.rep
   refine⟨2,2,_,_,hr1,(hlv8.et (e14.trans e15)).rep,by decide,?_⟩
   rw[SeqAt.eqv_refl _ (aV.lay 2 hr1).1]
   refine rd_exb (aK ?_)
   walk_at "r"
   refine⟨_,m,ws,rfl,hv8.et (e14.trans e15),ok,dis,tb15,fun l5 H16 e16 tb16 _ hp16=>?_⟩
   walk_at "r"
   have hr2:=hp16.pl.rep
   refine⟨2,2,_,_,hr2,(hov8.et ((e14.trans e15).trans e16)).rep,by decide,?_⟩
   rw[SeqAt.eqv_refl _ (aV.lay 2 hr2).1]
   refine rd_exb (aK ?_)
   walk_at "r"
   refine⟨_,m,ws,rfl,hv8.et ((e14.trans e15).trans e16),ok,dis,tb16,fun l6 H17 e17 tb17 _ hp17=>?_⟩
   walk_at "r"
   have hr3:=hp17.pl.rep
   refine⟨2,2,_,_,hr3,(hun8.et (((e14.trans e15).trans e16).trans e17)).rep,by decide,?_⟩
   rw[SeqAt.eqv_refl _ (aV.lay 2 hr3).1]
   exact q _
abbrev Dq(K:Be)(mg:Str->Option Value)(x:Str)(st:Stmt):Prop:=∃(f:Addr) (fd:FuncData),mg x=some (.ref f)/\Fun K x x st f fd
theorem dq{K:Be}{h:Heap}{mg:Str->Option Value}(X:K.In h)(G:h.Ns mainGlobals mg){x:Str}{st:Stmt}{f:Addr}{od an:Option Addr}{sl:Array (Option Value)}{oc kV dc pm cd ct:Value}(a:PySem.W.nsIn K mainGlobals x=some (some (.ref f)))(l:K.lookup f=some ⟨oc,od,.func (PySem.W.fnOf x x (fe st) (dD st) (aO st) .none kV dc pm an cd ct),sl⟩)(c:PySem.W.codeIn K cd x=true)(k:PySem.W.keepIn K (.ref f)=true):Dq K mg x st:=⟨f,_,PySem.W.mg_of X G a,pd (st:=st) l c k⟩
abbrev bd(x:Str)(st:Stmt)(us:List Value)(r:List (Str×Value)):Prop:=∀(kV doc pm:Value) (an:Option Addr) (cdv ct:Value),bindArgs (PySem.W.fnOf x x (fe st) (dD st) (aO st) .none kV doc pm an cdv ct) ⟨us,[]⟩=pure r
theorem cQ{K:Be}{mg:Str->Option Value}{x:Str}{st:Stmt}(p0:Str)(d:Dq K mg x st)(h:∀u0,bd x st [u0] [(p0,u0)]):Dfn K mg x st [p0]:=let ⟨f,fd,a,F⟩:=d;⟨f,fd,a,F,F.binds (ps:=[p0]) fun _ _ _ _ _ _ us hl=>match us,hl with | [_],_=>h _ _ _ _ _ _ _⟩
theorem cG{K:Be}{mg:Str->Option Value}{x:Str}{st:Stmt}(p0 p1:Str)(d:Dq K mg x st)(h:∀u0 u1,bd x st [u0,u1] [(p0,u0),(p1,u1)]):Dfn K mg x st [p0,p1]:=let ⟨f,fd,a,F⟩:=d;⟨f,fd,a,F,F.binds (ps:=[p0,p1]) fun _ _ _ _ _ _ us hl=>match us,hl with | [_,_],_=>h _ _ _ _ _ _ _ _⟩
theorem mn{K:Be}{mg:Str->Option Value}{x:Str}{st:Stmt}(p0 p1 p2:Str)(d:Dq K mg x st)(h:∀u0 u1 u2,bd x st [u0,u1,u2] [(p0,u0),(p1,u1),(p2,u2)]):Dfn K mg x st [p0,p1,p2]:=let ⟨f,fd,a,F⟩:=d;⟨f,fd,a,F,F.binds (ps:=[p0,p1,p2]) fun _ _ _ _ _ _ us hl=>match us,hl with | [_,_,_],_=>h _ _ _ _ _ _ _ _ _⟩
theorem all_mk{l:PySem.W.OpenLaw}{w:World}{K:Be}{h:Heap}{mg:Str->Option Value}{fa:Addr}(X:K.In h)(G:h.Ns mainGlobals mg)(hfa:mg "law" = some (.ref fa))
  (d0:Dq K mg "told_pairs" kK)
  (d1:Dq K mg "ways_of_deed" nJ)
  (d2:Dq K mg "add_arches" kS)
  (d3:Dq K mg "join_walks" m9)
  (d4:Dq K mg "beginning_table" lT)
  (d5:Dq K mg "kept_table" ml)
  (d6:Dq K mg "is_sign" lx)
  (d7:Dq K mg "is_deed" kC)
  (d8:Dq K mg "is_whole" m5)
  (d9:Dq K mg "is_room" kn)
  (d10:Dq K mg "is_way" kg)
  (d11:Dq K mg "are_ways" lN)
  (d12:Dq K mg "is_house" kF)
  (d13:Dq K mg "refuse_no_house" nB)
  (d14:Dq K mg "fallen" kI)
  (d15:Dq K mg "risen" nz)
  (d16:Dq K mg "kept" lO)
  (d17:Dq K mg "_law_whole" ng)
  (d18:Dq K mg "_law_row" la)
  (d19:Dq K mg "_law_pairs_are" lb)
  (d20:Dq K mg "_law_keeps" lL)
  (d21:Dq K mg "_law_unlike" kz)
  (d22:Dq K mg "_law_mixed" lj)
  (d23:Dq K mg "_law_draws" kX)
  (d24:Dq K mg "_law_drawn_house" kE)
  (d25:Dq K mg "_law_gate_house" kL)
  (d26:Dq K mg "_law_ring_house" lg)
  (d27:Dq K mg "_law_spare" nQ)
  (d28:Dq K mg "_law_house" nv)
  (d29:Dq K mg "_law_cell" lq)
  {f30:Addr} {od30 an30:Option Addr} {sl30:Array (Option Value)} {oc30 kV30 dc30 pm30 cd30 ct30:Value} (a30:PySem.W.nsIn K mainGlobals "law" = some (some (.ref f30))) (l30:K.lookup f30=some ⟨oc30,od30,.func (PySem.W.fnOf "law" "law" (fe eI) (dD eI) (aO eI) .none kV30 dc30 pm30 an30 cd30 ct30),sl30⟩) (c30:PySem.W.codeIn K cd30 "law" = true) (k30:PySem.W.keepIn K (.ref f30)=true)
  (z0:PySem.W.nsIn K mainGlobals "len" = some none)
  (z1:PySem.W.nsIn K mainGlobals "isinstance" = some none)
  (z2:PySem.W.nsIn K mainGlobals "tuple" = some none)
  (z3:PySem.W.nsIn K mainGlobals "list" = some none)
  (z4:PySem.W.nsIn K mainGlobals "int" = some none)
  (z5:PySem.W.nsIn K mainGlobals "bool" = some none)
  (z6:PySem.W.nsIn K mainGlobals "range" = some none)
  (z7:PySem.W.nsIn K mainGlobals "zip" = some none)
  (z8:PySem.W.nsIn K mainGlobals "max" = some none)
  (z9:PySem.W.nsIn K mainGlobals "min" = some none)
  (z10:PySem.W.nsIn K mainGlobals "abs" = some none)
  (z11:PySem.W.nsIn K mainGlobals "all" = some none)
  (z12:PySem.W.nsIn K mainGlobals "set" = some none)
  (z13:PySem.W.nsIn K mainGlobals "str" = some none)
  (z14:PySem.W.nsIn K mainGlobals "any" = some none)
  (z15:PySem.W.nsIn K mainGlobals "sorted" = some none)
  {t0:Tok} (v0:PySem.W.nsIn K mainGlobals "GREATEST_WAYS" = some (some (.int 100 t0)))
  {t1:Tok} (v1:PySem.W.nsIn K mainGlobals "GREATEST_MANY" = some (some (.int 12 t1)))
  {e0:Addr} {q0_0 u0_0 q0_1 u0_1 q0_2 u0_2 q0_3 u0_3:Tok} {ep0:Nat} (x0:PySem.W.nsIn K mainGlobals "TURNED" = some (some (.ref e0))) (y0:K.lookup e0=some (i6 w [("up",q0_0,.str "down" u0_0),("down",q0_1,.str "up" u0_1),("stay",q0_2,.str "stay" u0_2),("zero",q0_3,.str "zero" u0_3)] ep0)) (w0:(e0 == sysModules)=false)
  : ∃fd:FuncData,(∀(s:Shared) (v:Value),BindsTo s fd ⟨[v],[]⟩ [("_law_script",v)])/\∀base:Heap,K.In base->base.Ns mainGlobals mg->(∀y∈(["fallen","kept","risen"]:List Str),∃c T,Tab K mg base y c T)->FnOk l.prog w K mg base cP 8 fa fd ["_law_script"] (jN K):=by
 have e:=hfa.symm.trans (PySem.W.mg_of X G a30)
 cases e
 have T:Blt mg:=⟨PySem.W.mg_none_of X G z0,PySem.W.mg_none_of X G z1,PySem.W.mg_none_of X G z2,PySem.W.mg_none_of X G z3,PySem.W.mg_none_of X G z4,PySem.W.mg_none_of X G z5,PySem.W.mg_none_of X G z6,PySem.W.mg_none_of X G z7,PySem.W.mg_none_of X G z8,PySem.W.mg_none_of X G z9,PySem.W.mg_none_of X G z10,PySem.W.mg_none_of X G z11,PySem.W.mg_none_of X G z12,PySem.W.mg_none_of X G z13,PySem.W.mg_none_of X G z14,PySem.W.mg_none_of X G z15⟩
 have D0:=cG "house" "choice" d0 fun _ _ _ _ _ _ _ _=>rfl
 have D1:=cG "house" "deed" d1 fun _ _ _ _ _ _ _ _=>rfl
 have D2:=mn "table" "ups" "downs" d2 fun _ _ _ _ _ _ _ _ _=>rfl
 have D3:=cQ "table" d3 fun _ _ _ _ _ _ _=>rfl
 have D4:=cQ "house" d4 fun _ _ _ _ _ _ _=>rfl
 have D5:=cQ "house" d5 fun _ _ _ _ _ _ _=>rfl
 have D6:=cQ "thing" d6 fun _ _ _ _ _ _ _=>rfl
 have D7:=cQ "thing" d7 fun _ _ _ _ _ _ _=>rfl
 have D8:=cQ "thing" d8 fun _ _ _ _ _ _ _=>rfl
 have D9:=cG "thing" "many" d9 fun _ _ _ _ _ _ _ _=>rfl
 have D10:=cG "thing" "many" d10 fun _ _ _ _ _ _ _ _=>rfl
 have D11:=cG "thing" "many" d11 fun _ _ _ _ _ _ _ _=>rfl
 have D12:=cQ "thing" d12 fun _ _ _ _ _ _ _=>rfl
 have D13:=cQ "thing" d13 fun _ _ _ _ _ _ _=>rfl
 have D14:=cQ "house" d14 fun _ _ _ _ _ _ _=>rfl
 have D15:=cQ "house" d15 fun _ _ _ _ _ _ _=>rfl
 have D16:=cQ "house" d16 fun _ _ _ _ _ _ _=>rfl
 have D17:=cQ "_law_found" d17 fun _ _ _ _ _ _ _=>rfl
 have D18:=cG "_law_found" "_law_many" d18 fun _ _ _ _ _ _ _ _=>rfl
 have D19:=cG "_law_found" "_law_due" d19 fun _ _ _ _ _ _ _ _=>rfl
 have D20:=cG "_law_house_here" "_law_room" d20 fun _ _ _ _ _ _ _ _=>rfl
 have D21:=cQ "_law_ways" d21 fun _ _ _ _ _ _ _=>rfl
 have D22:=mn "_law_cell_here" "_law_k" "_law_prime" d22 fun _ _ _ _ _ _ _ _ _=>rfl
 have D23:=mn "_law_cell_here" "_law_widths" "_law_prime" d23 fun _ _ _ _ _ _ _ _ _=>rfl
 have D24:=cG "_law_cell_here" "_law_prime" d24 fun _ _ _ _ _ _ _ _=>rfl
 have D25:=cG "_law_cell_here" "_law_prime" d25 fun _ _ _ _ _ _ _ _=>rfl
 have D26:=cG "_law_cell_here" "_law_prime" d26 fun _ _ _ _ _ _ _ _=>rfl
 have D27:=cG "_law_cell_here" "_law_width" d27 fun _ _ _ _ _ _ _ _=>rfl
 have D28:=cG "_law_cell_here" "_law_prime" d28 fun _ _ _ _ _ _ _ _=>rfl
 have D29:=cG "_law_script" "_law_k" d29 fun _ _ _ _ _ _ _ _=>rfl
 refine⟨PySem.W.fnOf "law" "law" (fe eI) (dD eI) (aO eI) .none kV30 dc30 pm30 an30 cd30 ct30,fun s v=>.of_eq rfl,fun base KB GB HB=>?_⟩
 have C0:=@wZ l.prog w K mg base D0 T
 have C1:=@wm l.prog w K mg base D1 T
 have C2:=@vB l.prog w K mg base D2 T
 have C3:=@vm l.prog w K mg base D3 T
 have C4:=@wt l.prog w K mg base D4 T C1
 have C5:=@AG l.prog w K mg base D5 T C2 C3 C1 C4
 have C6:=@xX l.prog w K mg base D6 T
 have C7:=@yP l.prog w K mg base D7 T ⟨_,PySem.W.mg_of X G x0,Ar y0 w0⟩
 have C8:=@w5 l.prog w K mg base D8 T
 have C9:=@xN l.prog w K mg base D9 T C8
 have C10:=@vk l.prog w K mg base D10 T C6 C7 C9
 have C11:=@Ah l.prog w K mg base D11 T ⟨_,PySem.W.mg_of X G v0⟩ C10
 have C12:=@Ao l.prog w K mg base D12 T ⟨_,PySem.W.mg_of X G v1⟩ C11 C8
 have C13:=@A3 l.prog w K mg base D13 T C12
 obtain⟨c149,T149,B14⟩:=HB "fallen" (by simp)
 have C14:Cal l.prog w K mg base "fallen" 7 ["house"] (lR K):=yM D14 T B14 C0 C1 C5 C13
 obtain⟨c159,T159,B15⟩:=HB "risen" (by simp)
 have C15:Cal l.prog w K mg base "risen" 7 ["house"] (kh K):=yf D15 T B15 C0 C1 C5 C13
 obtain⟨c169,T169,B16⟩:=HB "kept" (by simp)
 have C16:Cal l.prog w K mg base "kept" 7 ["house"] (mQ K):=y7 D16 T B16 C0 C5 C13
 have C17:=@xl l.prog w K mg base D17 T
 have C18:=@Ac l.prog w K mg base D18 T C17
 have C19:=@uT l.prog w K mg base D19 T C18
 have C20:=@yE l.prog w K mg base D20 T
 have C21:=@yU l.prog w K mg base D21 T
 have C22:=@yL l.prog w K mg base D22 T
 have C23:=@vp l.prog w K mg base D23 T C22
 have C24:=@AU l.prog w K mg base D24 T C21 C23
 have C25:=@yQ l.prog w K mg base D25 T C21 C23
 have C26:=@yz l.prog w K mg base D26 T C23
 have C27:=@A1 l.prog w K mg base D27 T
 have C28:=@AO l.prog w K mg base D28 T C24 C25 C26 C27 C23
 have C29:=@wK l.prog w K mg base D29 T
 exact zk (pd (st:=eI) l30 c30 k30) T C14 C15 C16 C19 C20 C28 C29
theorem walk{l:PySem.W.OpenLaw}{q:Program}{loose:List Str}{XP:(Str->Option Value)->Heap->Prop}{YP:World->Heap->Prop}{d:DefRec}{K:Params->Be}(hn:l.most=some 63)(hdf:d.params.defaults=[])
  (hY:∀(w:World) (h:Heap),YP w h->(K w.params).In h) (hK:∀w:World,PySem.W.noTabs (K w.params)=true) (hrec:∀y∈(["fallen","kept","risen"]:List Str),((PyProof.Rows.recsOf q).find? (fun e=>e.name == y)).isSome=true) (htab:∀(w:World),∀y∈(["fallen","kept","risen"]:List Str),(PySem.W.tabIn (K w.params) y).isSome=true) (hdis:∀w:World,gD (K w.params))
  (F:∀(w:World) (mg:Str->Option Value) (fa:Addr) (h:Heap),(K w.params).In h->h.Ns mainGlobals mg->mg d.name=some (.ref fa) →
   ∃fd:FuncData,(∀(s:Shared) (u:Value),BindsTo s fd ⟨[u],[]⟩ [("_law_script",u)])/\∀base:Heap,(K w.params).In base->base.Ns mainGlobals mg->(∀y∈(["fallen","kept","risen"]:List Str),∃c T,Tab (K w.params) mg base y c T)->FnOk l.prog w (K w.params) mg base cP 8 fa fd ["_law_script"] (jN (K w.params))) :
  PySem.W.WalkO q loose XP YP l.row.toRowW d [] (fun f vs=>PySem.call f vs):=
 L2.vz (n:=63) (k:=8) (x:="_law_script") (sp:=fun w=>jN (K w.params)) ["fallen","kept","risen"] hn (by decide) hdf ⟨rfl,by decide,by decide⟩ hY hK hrec htab F fun w H a ns hl hT hS=>⟨a,ns,rfl,hS,hl,hT,hdis w,fun _=>rfl⟩
end My
end
open PySem PySem.W PyProof.Rows
set_option maxRecDepth 100000 in
set_option maxHeartbeats 0 in
theorem PySem.Challenge.cw_stairrooms_k25_kept_risen_fallen_holds : PySem.Challenge.rw_stairrooms_k25_kept_risen_fallen.Holds := by
 refine My.top ?_
 k_fill
 refine My.walk (l := PySem.Challenge.rw_stairrooms_k25_kept_risen_fallen) rfl rfl (fun w h Y => PySem.W.km_in_of Y) (fun w => by kernel_rfl) ?R (fun w => ?Tb) (fun w => My.wj (by kernel_rfl)) ?F
 case R => intro y hy; simp only [List.mem_cons, List.not_mem_nil, or_false] at hy; rcases hy with rfl | rfl | rfl <;> kernel_rfl
 case Tb => intro y hy; simp only [List.mem_cons, List.not_mem_nil, or_false] at hy; rcases hy with rfl | rfl | rfl <;> kernel_rfl
 case F =>
  intro w mg fa h KX G hmg
  have q := @My.dq _ _ _ KX G
  refine' My.all_mk KX G hmg (q ?a0 ?l0 ?c0 ?k0) (q ?a1 ?l1 ?c1 ?k1) (q ?a2 ?l2 ?c2 ?k2) (q ?a3 ?l3 ?c3 ?k3) (q ?a4 ?l4 ?c4 ?k4) (q ?a5 ?l5 ?c5 ?k5) (q ?a6 ?l6 ?c6 ?k6) (q ?a7 ?l7 ?c7 ?k7) (q ?a8 ?l8 ?c8 ?k8) (q ?a9 ?l9 ?c9 ?k9) (q ?a10 ?l10 ?c10 ?k10) (q ?a11 ?l11 ?c11 ?k11) (q ?a12 ?l12 ?c12 ?k12) (q ?a13 ?l13 ?c13 ?k13) (q ?a14 ?l14 ?c14 ?k14) (q ?a15 ?l15 ?c15 ?k15) (q ?a16 ?l16 ?c16 ?k16) (q ?a17 ?l17 ?c17 ?k17) (q ?a18 ?l18 ?c18 ?k18) (q ?a19 ?l19 ?c19 ?k19) (q ?a20 ?l20 ?c20 ?k20) (q ?a21 ?l21 ?c21 ?k21) (q ?a22 ?l22 ?c22 ?k22) (q ?a23 ?l23 ?c23 ?k23) (q ?a24 ?l24 ?c24 ?k24) (q ?a25 ?l25 ?c25 ?k25) (q ?a26 ?l26 ?c26 ?k26) (q ?a27 ?l27 ?c27 ?k27) (q ?a28 ?l28 ?c28 ?k28) (q ?a29 ?l29 ?c29 ?k29) ?a30 ?l30 ?c30 ?k30 ?z0 ?z1 ?z2 ?z3 ?z4 ?z5 ?z6 ?z7 ?z8 ?z9 ?z10 ?z11 ?z12 ?z13 ?z14 ?z15 ?v0 ?v1 ?x0 ?y0 ?w0
  case a0|l0|c0|k0|a1|l1|c1|k1|a2|l2|c2|k2|a3|l3|c3|k3|a4|l4|c4|k4|a5|l5|c5|k5|a6|l6|c6|k6|a7|l7|c7|k7|a8|l8|c8|k8|a9|l9|c9|k9|a10|l10|c10|k10|a11|l11|c11|k11|a12|l12|c12|k12|a13|l13|c13|k13|a14|l14|c14|k14|a15|l15|c15|k15|a16|l16|c16|k16|a17|l17|c17|k17|a18|l18|c18|k18|a19|l19|c19|k19|a20|l20|c20|k20|a21|l21|c21|k21|a22|l22|c22|k22|a23|l23|c23|k23|a24|l24|c24|k24|a25|l25|c25|k25|a26|l26|c26|k26|a27|l27|c27|k27|a28|l28|c28|k28|a29|l29|c29|k29|a30|l30|c30|k30|z0|z1|z2|z3|z4|z5|z6|z7|z8|z9|z10|z11|z12|z13|z14|z15|v0|v1=>k_is
  (case x0 => k_is); (case y0 => k_is); (case w0 => first | rfl | k_is)
