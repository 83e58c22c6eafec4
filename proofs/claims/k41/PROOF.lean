import PyProof.Rows.All
import Wide.All
import OpenK.AllK
import Wide.FinOn
import Lean
import PyProof.EqAt
import PyProof.EqKinds
import PyProof.TupleCall
import KE.KLam
import PySem.Challenge.RW_stairrooms_k41_far_answers
set_option Elab.async false
namespace PySem.W.Fast
def tw9775477576787505727:=0
def tw17803621475355230974:=0
def tw2106289696410149092:=0
def tw11405939200920223408:=0
def tw9478813727029378433:=0
def tw2617893411441151648:=0
def tw11258306804293243132:=0
def tw18409688046743377292:=0
def tw2325016921888508853:=0
def tw439055297870408345:=0
def tw800831887125934919:=0
def tw16098950905546674470:=0
def tw13941111111478842134:=0
def tw5236890019902938037:=0
def tw1443289906706779244:=0
def tw13814131451427507189:=0
def tw6539857703671316003:=0
def tw17729564300890611173:=0
def tw15620763782691753445:=0
def tw4918694162171632466:=0
def tw4769826392853288355:=0
def tw6340304130596135008:=0
def tw3501889831259424984:=0
def tw17104333970416622323:=0
def tw4532786408525356839:=0
def tw3830783680494933951:=0
def tw11655376856063916228:=0
def tw17584191335013195612:=0
def tw17002439396945247550:=0
def tw3725507860900426652:=0
def tw5581349078452510653:=0
def tw9578026534446552097:=0
def tw3797301031838899788:=0
def tw4977895861229493542:=0
def tw447717403241242290:=0
def tw12664327836493813462:=0
def tw11801650391622900179:=0
def tw11506949944486722818:=0
def tw11365700717142005424:=0
def tw11362101791794971524:=0
def tw11282886037220131173:=0
def tw1057306937073154610:=0
def tw9254883793231693245:=0
def tw7875707854763748492:=0
def tw4672492687276399408:=0
def tw4307926830116509514:=0
def tw2904058922640873309:=0
def tw1735571389945239771:=0
def tw15186367229040268510:=0
def tw4090099033456441411:=0
def tw1847224927995124329:=0
def tw17405045028177135956:=0
def tw15831574140416324556:=0
def tw14867130098325134529:=0
def tw14419318313112166178:=0
def tw12993445975515111361:=0
def tw7897135418779063302:=0
def tw4355615645706949100:=0
def tw397431815971221653:=0
def tw18101583386606535240:=0
def tw18066811921283522515:=0
def tw16840622159041910090:=0
def tw15565656631415577005:=0
def tw14292392306617517729:=0
def tw1382559312744143635:=0
def tw8770029601138628478:=0
def tw5051596291613938045:=0
def tw17831088686795452451:=0
def tw16408023001231065620:=0
def tw15945904282836308387:=0
def tw15660991250957307376:=0
def tw1488503510874697304:=0
def tw13501672401922333513:=0
def tw902582806634263858:=0
def tw7240639191980452486:=0
def tw5920227957080817638:=0
def tw4933930183700603765:=0
def tw4566636315000093172:=0
def tw4488003136180807592:=0
def tw2780415966309772251:=0
def tw1428814744893504695:=0
def tw13788262537284159298:=0
def tw13021086612755893400:=0
def tw10276969695076772373:=0
def tw9119751986894142981:=0
def tw8487562230406468105:=0
def tw7750769465160294860:=0
def tw6093179522131556990:=0
def tw17438179399263098937:=0
def tw1682181479755940848:=0
def tw15003257448840769609:=0
def tw14832175709080873599:=0
def tw11364142691922409913:=0
def tw9337504207740955038:=0
def tw9248597171148506525:=0
def tw684117499851941213:=0
def tw590611807225418770:=0
def tw16980547499210933930:=0
def tw1637453852661378490:=0
def tw14849095896601040367:=0
def tw14397947794671477899:=0
def tw11644868132232139897:=0
def tw8340926499216404060:=0
def tw7627118995241731642:=0
def tw7341270039093922885:=0
def tw7259079589770855615:=0
def tw7134983793405793177:=0
def tw7115244209674446852:=0
def tw705330452703051597:=0
def tw5140171473248983199:=0
def tw4869967250276580588:=0
def tw4797132809794432123:=0
def tw4337561567144917162:=0
def tw4138905410403352593:=0
def tw3866599564448483793:=0
def tw3855077825024126993:=0
def tw2313535712752964479:=0
def tw1980078614172103820:=0
def tw18032779900021213040:=0
def tw16821967185522334815:=0
def tw15529604674929473973:=0
def tw14775263502782431712:=0
def tw14670137783204244808:=0
def tw14221475358252599964:=0
def tw13573848267779960677:=0
def tw12996499756298277263:=0
def tw12357872333080808881:=0
def tw119775208399524090:=0
def tw11687504721054253588:=0
def tw11339562753883754242:=0
def tw10698238366409207256:=0
def tw1069010634818593453:=0
def tw10035081181641441020:=0
def tw5425565988235752197:=0
def tw18324572440802094995:=0
def tw18127141830633905074:=0
def tw17843839365795533554:=0
def tw1584613233581267300:=0
def tw13809386149585982481:=0
def tw12679859039530741841:=0
def tw119674054762100072:=0
def tw8783073200307453229:=0
def tw7956301941440062040:=0
def tw762384175361060421:=0
def tw5861546300858528307:=0
def tw5819105399919881484:=0
def tw4855646995411632120:=0
def tw3465091326942903629:=0
def tw2122511160286549640:=0
def tw1856151083423349262:=0
def tw1754243070517289278:=0
def tw17423125552162021742:=0
def tw16477329177891185698:=0
def tw15860708213811878519:=0
def tw15104015179872336855:=0
def tw14109453767193502313:=0
def tw12632963454795662708:=0
def tw11296645311156999791:=0
def tw11137535781475439334:=0
def tw6178244272827954729:=0
def tw6158425238486604569:=0
def tw17925923492730016652:=0
def tw1703860651114587486:=0
def tw16964212798373946863:=0
def tw15438610589593914328:=0
def tw14585778381282314952:=0
def tw12261729195969336472:=0
def tw9281662355237421915:=0
def tw912290570786946579:=0
def tw8863156965792605256:=0
def tw8568187914498332850:=0
def tw8562296191053873827:=0
def tw8377945894465552080:=0
def tw8186763794367992775:=0
def tw8089249423132065445:=0
def tw7863108119856694670:=0
def tw7726275238515209657:=0
def tw6658185936689682968:=0
def tw6393150591798677637:=0
def tw6252878086273825581:=0
def tw6008010531490865865:=0
def tw5956051100702781606:=0
def tw5295854211047901153:=0
def tw4817981600543833687:=0
def tw477595423994022719:=0
def tw4169430970946328830:=0
def tw3760063030202703356:=0
def tw3711776433476670718:=0
def tw3415376743198261602:=0
def tw3104486758596841148:=0
def tw2696157109874119690:=0
def tw193794278739742225:=0
def tw18438895364323578133:=0
def tw18207201711260066481:=0
def tw18133197322224867361:=0
def tw18038851775406917655:=0
def tw17994301212061070119:=0
def tw17843169823834903998:=0
def tw17744632191838401134:=0
def tw17716863462265859512:=0
def tw17694846207451314135:=0
def tw17690871460500525271:=0
def tw17628590533929976792:=0
def tw16988158499489311127:=0
def tw16843462989757039891:=0
def tw16826725409987885975:=0
def tw1677638050960967886:=0
def tw16669810761675009345:=0
def tw16575673167688372683:=0
def tw16245695487900975421:=0
def tw16180315334032665911:=0
def tw16176690743668362219:=0
def tw1612923964453859806:=0
def tw15729792075999087868:=0
def tw156604256827902990:=0
def tw15319796435752655959:=0
def tw15291515778787918541:=0
def tw15266785391687444539:=0
def tw14977234088687162302:=0
def tw14931363111589739018:=0
def tw1488474676173749703:=0
def tw14876317631354250296:=0
def tw14429984225472846677:=0
def tw14324394720252608761:=0
def tw14322595565739780087:=0
def tw13817142068744991791:=0
def tw13769731409856085057:=0
def tw13732165248360646341:=0
def tw13679643304169797691:=0
def tw13135487405686255751:=0
def tw12678953225602555564:=0
def tw12650994420537281789:=0
def tw12340981958623863397:=0
def tw12249993202121903794:=0
def tw11860059332995364445:=0
def tw11787554532782738252:=0
def tw11665305186481523908:=0
def tw11383850339681254435:=0
def tw11198388801270196117:=0
def tw10785498421680218836:=0
def tw10121643642846045468:=0
def tw9602979466950630956:=0
def tw9590536906216307355:=0
def tw8777541643666118068:=0
def tw8572175281459272771:=0
def tw8444893750286939596:=0
def tw8125407811402774585:=0
def tw684210181549580303:=0
def tw5190860397250508396:=0
def tw5096499008420852698:=0
def tw3612554134655720397:=0
def tw3258786278723069861:=0
def tw2217001567337907910:=0
def tw2093290091728733057:=0
def tw17795394019121955329:=0
def tw16924412733494049589:=0
def tw16283258727396688951:=0
def tw16219145617115034907:=0
def tw15968237232650601322:=0
def tw15924826414491783191:=0
def tw14415884991196681418:=0
def tw14025392896863203041:=0
def tw13746588304753895505:=0
def tw11701492411309977178:=0
def tw10095913671755900038:=0
def tw9930359092145622687:=0
def tw9591621326534694922:=0
def tw9002392303285804385:=0
def tw8890220073126293310:=0
def tw8722415481117505015:=0
def tw8604979696160575008:=0
def tw8184033042858750843:=0
def tw8147721191793257292:=0
def tw8143298780573084396:=0
def tw8039774922555296384:=0
def tw8037652997034423971:=0
def tw8035931760809384120:=0
def tw7848866751621661257:=0
def tw7552210041123771490:=0
def tw7539763571100840771:=0
def tw7393957277229836691:=0
def tw720755081136891062:=0
def tw7176572640101177836:=0
def tw7175792842613744815:=0
def tw6942357351460751399:=0
def tw6714801024506940561:=0
def tw6704578965310311189:=0
def tw6429728187070590260:=0
def tw6169767553621521813:=0
def tw5994711959094706394:=0
def tw5821001088122574322:=0
def tw5717963241065829162:=0
def tw5533809914848052129:=0
def tw5430882940802126740:=0
def tw5350998768358884751:=0
def tw5019332986140449700:=0
def tw5010354932100547165:=0
def tw343839832772155065:=0
def tw3220723017206680370:=0
def tw3182821167057557991:=0
def tw3096949930750721708:=0
def tw3008007984704827758:=0
def tw2904033067149887106:=0
def tw2801974123689400889:=0
def tw2448602276733661166:=0
def tw2355404199824840798:=0
def tw2248526150547823735:=0
def tw2187499721780371684:=0
def tw2045930578084102194:=0
def tw2020109458520273824:=0
def tw1897875410602398997:=0
def tw18334927389422029420:=0
def tw1818218476948158209:=0
def tw18159918767601648018:=0
def tw18027755133952139252:=0
def tw17645572048654386869:=0
def tw17644514534155135092:=0
def tw17581992280946622230:=0
def tw17571631200592639834:=0
def tw17238752558760652402:=0
def tw17218974888202052536:=0
def tw17076493798685594974:=0
def tw17065142239566038489:=0
def tw1691102865124860179:=0
def tw16835956152608702361:=0
def tw16743919102785911483:=0
def tw16632375998614247822:=0
def tw16507177298177948937:=0
def tw16291882091215157828:=0
def tw16288524480538194225:=0
def tw16221219022901355867:=0
def tw15732654264858244716:=0
def tw15641575440650329080:=0
def tw15415030129712708594:=0
def tw15142431143280010732:=0
def tw1492062709326496596:=0
def tw14905269560852764671:=0
def tw14774234679712429206:=0
def tw1465564398378206461:=0
def tw14650229311272632197:=0
def tw1460478622569836974:=0
def tw1456095747653818372:=0
def tw14560837491469231475:=0
def tw13841191037290658594:=0
def tw13820470126673855253:=0
def tw13587954947775276195:=0
def tw13385619842731796546:=0
def tw13298203722689827917:=0
def tw13140385074510843379:=0
def tw12390782021942118942:=0
def tw12296552071639831032:=0
def tw12124443520851957044:=0
def tw11985937269989024962:=0
def tw11950575282948044451:=0
def tw11892039915525360660:=0
def tw11858878876565515630:=0
def tw11788803944947964044:=0
def tw11612187849094769778:=0
def tw11605670760853518920:=0
def tw11166862733661299840:=0
def tw11030641428109492703:=0
def tw10769681086646498438:=0
def tw10424792985553544811:=0
def tw10263077061500514125:=0
def tw10154314827766144001:=0
def tw10118012357411222232:=0
end PySem.W.Fast
section
open PySem PySem.W PyProof.Rows
set_option maxRecDepth 100000 in
set_option maxHeartbeats 0 in
open_top My.top for PySem.Challenge.rw_stairrooms_k41_far_answers
end
set_option linter.all false
set_option maxRecDepth 100000
set_option maxHeartbeats 4000000
open PySem renaming wpAny_bind→DQ
open PySem renaming wpAny_pure→DR
open PySem.W renaming Frag→DS
open PySem.Heap renaming get?_push_of_some→DT
open PySem.Heap renaming get?_push_size→DU
open PySem.Heap renaming lt_size→DV
open List renaming length_map→DW
open List renaming getElem?_eq_getElem→DX
open List renaming getElem?_map→DY
open List renaming mem_cons_of_mem→DZ
open Array renaming length_toList→Ea
open List renaming size_toArray→Eb
open List renaming mem_cons_self→Ec
open PySem.F renaming plainAttrs_list→Ed
open List renaming getElem?_eq_some_iff→Ee
open List renaming mem_of_getElem?→Ef
open List renaming mem_singleton→Eg
open Option renaming map_eq_some_iff→Eh
open Int renaming toNat_natCast→Ei
open Int renaming toNat_of_nonneg→Ej
open List renaming mem_cons→Ek
open Bool renaming false_ne_true→El
open List renaming map_append→Em
open List renaming length_append→En
open Nat renaming ne_of_lt→Eo
open Nat renaming le_refl→Ep
open PySem.F renaming slot_list_append→Er
open PySem.F renaming type_list_append→Es
open List renaming mem_append→Ew
open List renaming getElem?_append_right→Ex
open List renaming getElem?_append_left→Ey
open List renaming getElem_mem→Ez
open List renaming length_cons→EA
open List renaming take_length→EB
open Option renaming bind_some→EC
open Nat renaming lt_of_lt_of_le→ED
open Nat renaming le_trans→EE
open List renaming not_mem_nil→EF
open List renaming all_eq_true→EG
open List renaming any_eq_true→EH
open Bool renaming eq_iff_iff→EI
open Bool renaming and_eq_true→EJ
noncomputable section
namespace L2
open PySem PySem.Spec PyProof.Rows
abbrev Key:=Sum Int Str
def fY:Key->Value->Bool
 | .inl k,v=>Value.isInt k v
 | .inr x,v=>Value.isStrOf x v
def zS(w:World):Key->Int
 | .inl k=>hashInt k
 | .inr x=>hashStr w x
theorem eD:∀{k:Key} {v:Value},fY k v=true->(∃i t,k=Sum.inl i/\v=Value.int i t)\/(∃x t,k=Sum.inr x/\v=Value.str x t)
 | .inl i,v,h=>by
  obtain⟨t,e⟩:=Value.isInt_shape (k:=i) (v:=v) h
  exact .inl ⟨i,t,rfl,e⟩
 | .inr x,v,h=>by
  obtain⟨t,e⟩:=Value.isStrOf_shape (x:=x) (v:=v) h
  exact .inr ⟨x,t,rfl,e⟩
theorem yv(i:Int)(t:Tok):fY (.inl i) (.int i t)=true:=by simp[fY,Value.isInt]
theorem xt(x:Str)(t:Tok):fY (.inr x) (.str x t)=true:=by simp[fY,Value.isStrOf]
theorem zG(a b:Int):decide ((Sum.inl a:Key)=Sum.inl b)=(a == b):=by
 by_cases e:a=b
 ·subst e;simp
 ·have h:¬(Sum.inl a:Key)=Sum.inl b:=fun q=>e (Sum.inl.inj q)
  rw[decide_eq_false h]
  exact(beq_eq_false_iff_ne.mpr e).symm
theorem AX(a b:Str):decide ((Sum.inr a:Key)=Sum.inr b)=decide (a=b):=by
 by_cases e:a=b
 ·subst e;simp
 ·have h:¬(Sum.inr a:Key)=Sum.inr b:=fun q=>e (Sum.inr.inj q)
  rw[decide_eq_false h,decide_eq_false e]
theorem zK(a:Int)(b:Str):decide ((Sum.inl a:Key)=Sum.inr b)=false:=decide_eq_false (fun q=>nomatch q)
theorem Dp(a:Str)(b:Int):decide ((Sum.inr a:Key)=Sum.inl b)=false:=decide_eq_false (fun q=>nomatch q)
def aK(prog:Program)(w:World):PySem.KeyKind prog w Key where
 is:=fY
 hash:=zS w
 inj:=fun v a b ha hb=>by
  rcases eD ha with⟨i,t,rfl,rfl⟩ | ⟨x,t,rfl,rfl⟩
  ·rcases eD hb with⟨j,u,rfl,e⟩ | ⟨y,u,rfl,e⟩
   ·injection e with e1 _;rw[e1]
   ·exact nomatch e
  ·rcases eD hb with⟨j,u,rfl,e⟩ | ⟨y,u,rfl,e⟩
   ·exact nomatch e
   ·injection e with e1 _;rw[e1]
 byValue:=fun k v h=>by
  rcases eD h with⟨i,t,rfl,rfl⟩ | ⟨x,t,rfl,rfl⟩<;>rfl
 pyHash:=fun hv h=>by
  rcases eD hv with⟨i,t,rfl,rfl⟩ | ⟨x,t,rfl,rfl⟩
  ·exact wpAny_pyHash_int h
  ·exact wpAny_pyHash_str h
 eqBool:=fun hu hv h=>by
  rcases eD hu with⟨i,t,rfl,rfl⟩ | ⟨x,t,rfl,rfl⟩
  ·rcases eD hv with⟨j,u,rfl,rfl⟩ | ⟨y,u,rfl,rfl⟩
   ·rw[zG]at h;exact wpAny_eqBool_int h
   ·rw[zK]at h;exact SeqAt.EqAt.int_str i t y u _ _ _ _ h
  ·rcases eD hv with⟨j,u,rfl,rfl⟩ | ⟨y,u,rfl,rfl⟩
   ·rw[Dp]at h;exact SeqAt.EqAt.str_int x t j u _ _ _ _ h
   ·rw[AX]at h;exact wpAny_eqBool_str h
 «strs»:=fun k x t v h=>by
  rcases eD h with⟨i,u,rfl,e⟩ | ⟨y,u,rfl,e⟩
  ·exact nomatch e
  ·injection e with e1 _
   subst e1
   cases v<;>rfl
theorem yn(prog:Program)(w:World)(i:Int)(t:Tok):(aK prog w).is (.inl i) (.int i t)=true:=yv i t
theorem nW(prog:Program)(w:World)(x:Str)(t:Tok):(aK prog w).is (.inr x) (.str x t)=true:=xt x t
end L2
namespace L2
open PySem PySem.Spec PyProof.Rows
inductive V where
 | non | bl (b:Bool) | int (i:Int) | str (x:Str) | byt (b:Array UInt8) | flt (b:UInt64) | ref (a:Addr) | ty (n:String)
 deriving DecidableEq
def RelV:V->Value->Prop
 | .non,u=>u=Value.none
 | .bl b,u=>u=Value.bool b
 | .int i,u=>∃t,u=Value.int i t
 | .str x,u=>∃t,u=Value.str x t
 | .byt b,u=>∃t,u=Value.bytes b t
 | .flt b,u=>∃t,u=Value.float b t
 | .ref a,u=>u=Value.ref a
 | .ty n,u=>u=Value.type n
abbrev Vals:List V->List Value->Prop:=Paired RelV
theorem Vals.length{xs:List V}{us:List Value}(r:Vals xs us):xs.length=us.length:=Paired.length r
theorem Vals.get:∀{xs:List V} {us:List Value} {i:Nat} {x:V},Vals xs us->xs[i]?=some x->∃u,us[i]?=some u/\RelV x u
 | _,_,_,_,.nil,e=>by simp at e
 | _,_,0,_,.cons r _,e=>by simp at e;subst e;exact⟨_,rfl,r⟩
 | _,_,i+1,x,.cons _ t,e=>by
  obtain⟨u,h1,h2⟩:=Vals.get (i:=i) (x:=x) t (by simpa using e)
  exact⟨u,by simpa using h1,h2⟩
theorem Vals.set{x:V}{u:Value}(r:RelV x u):∀{xs:List V} {us:List Value} (i:Nat),Vals xs us->Vals (xs.set i x) (us.set i u)
 | _,_,_,.nil=>.nil
 | _,_,0,.cons _ t=>.cons r t
 | _,_,i+1,.cons q t=>.cons q (Vals.set r i t)
theorem Vals.append:∀{xs ys:List V} {us ws:List Value},Vals xs us->Vals ys ws->Vals (xs++ys) (us++ws)
 | _,_,_,_,.nil,s=>s
 | _,_,_,_,.cons r t,s=>.cons r (Vals.append t s)
theorem Vals.take:∀{xs:List V} {us:List Value} (n:Nat),Vals xs us->Vals (xs.take n) (us.take n)
 | _,_,0,_=>.nil
 | _,_,_+1,.nil=>.nil
 | _,_,n+1,.cons r t=>.cons r (Vals.take n t)
theorem Vals.drop:∀{xs:List V} {us:List Value} (n:Nat),Vals xs us->Vals (xs.drop n) (us.drop n)
 | _,_,0,r=>r
 | _,_,_+1,.nil=>.nil
 | _,_,n+1,.cons _ t=>Vals.drop n t
def dy:Option V->Option Value->Prop
 | some v,some u=>RelV v u
 | none,none=>True
 | _,_=>False
def KV{κ:Type}:List (κ×V)->List (κ×Value)->Prop:=Paired fun(p:κ×V) (q:κ×Value)=>p.1=q.1/\RelV p.2 q.2
def kV:Key->V
 | .inl i=>.int i
 | .inr x=>.str x
inductive HO where
 /-- a list -/
 | lst (xs:List V)
 /-- a tuple (never changes) -/
 | tup (xs:List V)
 /-- a dict whose keys are ints and texts;one whose keys are tuples of ints and texts (the empty one is both) -/
 | dK (kvs:List (Key×V)) | dT (kvs:List (List Key×V))
 /-- a set of ints: its members,its size -/
 | set (S:Int->Bool) (n:Nat)
 /-- an instance of the class at C,its dict at dx,its attributes -/
 | ins (C dx:Addr) (fs:List (Str×V))
 /-- the dict of the instance at x -/
 | own (x:Addr)
 /-- the dict of an exception -/
 | xd (fs:List (Str×V))
 /-- a bound method,f of x -/
 | met (f x:Addr)
 /-- a range object lo,lo+1,.. below hi -/
 | rng (lo hi:Int)
 /-- a thing that is known to the object (the script;a dict while a loop walks it): read,never written while it is so -/
 | frz (o:Obj) (u:HO)
 /-- a code object's table -/
 | tbl (ps:Array Value)
 /-- any other thing,by what is true of its one object (a def of one's own: jO a S n:=HO.ext fun h=>..) -/
 | ext (φ:Heap->Prop)
abbrev Hp:=Addr->Option HO
def upd(H:Hp)(a:Addr)(o:HO):Hp:=fun b=>if b=a then some o else H b
theorem aL{H:Hp}{a:Addr}{o:HO}:upd H a o a=some o:=by unfold upd;rw[if_pos rfl]
theorem az{H:Hp}{a b:Addr}{o:HO}(h:b≠a):upd H a o b=H b:=by unfold upd;rw[if_neg h]
theorem cL{H:Hp}{a b:Addr}{o u:HO}(h:H a=some o)(h':H b=some u)(d:o≠u):a≠b:=by
 intro e;subst e;rw[h]at h';exact d (Option.some.inj h')
theorem bO{H:Hp}{a b:Addr}{o:HO}(h:H a=some o)(h':H b=none):a≠b:=by
 intro e;subst e;rw[h]at h';cases h'
section
variable (P:Program) (w:World)
def bo(H:Hp)(h:Heap)(a:Addr):HO->Prop
 | .lst xs=>xs.length<=sizeLine/\∃(its:List Value) (n:Nat),Vals xs its/\h.get? a=some { cls:=.type "list",data:=.seq its.toArray n }
 | .tup xs=>xs.length<=sizeLine/\∃its:List Value,Vals xs its/\IsTup h a its.toArray
 | .dK kvs=>kvs.length<=sizeLine/\(a == sysModules)=false/\∃vs,KV kvs vs/\h.DictOf (aK P w) a vs
 | .dT kvs=>kvs.length<=sizeLine/\(a == sysModules)=false/\∃xs:List (List Key×Addr×Value),
   Paired (fun(p:List Key×V) (q:List Key×Addr×Value)=>p.1=q.1/\H q.2.1=some (.tup (p.1.map kV))/\RelV p.2 q.2.2) kvs xs ∧
   ∃o es ep,h.get? a=some o/\o.ExactDict/\o.data=.dict es ep/\es.toList=xs.map (entryOfKey (tupleKind (aK P w)))/\(xs.map (·.1)).Nodup
 | .set S n=>h.SetOf (intKind P w) a S n
 | .ins C dx fs=>H dx=some (.own a)/\fs.length<=1000/\dx≠a/\h.get? a=some (PySem.W.instObj C dx) ∧
   ∃mA,h.Ns1 dx mA/\(∀f,dy (fs.lookup f) (mA f))/\PySem.Within mA (fs.map (·.1))
 | .own _=>∃o,h.get? a=some o
 | .xd fs=>∃mA,h.Ns1 a mA/\∀f,dy (fs.lookup f) (mA f)
 | .rng lo hi=>∃t u v,h.get? a=some { cls:=.type "range",data:=.fields #[.int lo t,.int hi u,.int 1 v] }
 | .frz o u=>h.get? a=some o/\bo H h a u
 | .tbl ps=>h.get? a=some { cls:=.none,data:=.fields ps }
 | .met f x=>h.get? a=some (PySem.W.methodObj (.ref f) (.ref x))
 | .ext φ=>φ h/\(∃o,h.get? a=some o)/\∀h1 h2:Heap,φ h1->(∀o,h1.get? a=some o->h2.get? a=some o)->φ h2
def aY(H:Hp)(h:Heap):Prop:=∀a o,H a=some o->bo P w H h a o
end
section
variable {P:Program} {w:World} {H H':Hp} {h h':Heap} {a:Addr} {o:HO}
theorem bo.lt(x:bo P w H h a o):a<h.objs.size:=by
 cases o with
 | lst xs=>obtain⟨_,_,_,_,e⟩:=x;exact DV e
 | tup xs=>obtain⟨_,_,_,p⟩:=x;exact p.lt
 | dK kvs=>obtain⟨_,_,_,_,o,_,_,e,_⟩:=x;exact DV e
 | dT kvs=>obtain⟨_,_,_,_,o,_,_,e,_⟩:=x;exact DV e
 | set S n=>obtain⟨o,_,_,_,e,_⟩:=x;exact DV e
 | ins C dx fs=>obtain⟨_,_,_,e,_⟩:=x;exact DV e
 | own y=>obtain⟨_,e⟩:=x;exact DV e
 | xd fs=>obtain⟨_,⟨_,_,_,e,_⟩,_⟩:=x;exact DV e
 | rng lo hi=>obtain⟨_,_,_,e⟩:=x;exact DV e
 | frz ob u=>obtain⟨e,_⟩:=x;exact DV e
 | tbl ps=>exact DV (show h.get? a=some _ from x)
 | met f y=>exact DV (show h.get? a=some _ from x)
 | ext φ=>obtain⟨_,⟨_,e⟩,_⟩:=x;exact DV e
theorem Paired.mapP{α β:Type}{F G:α->β->Prop}:∀{l₁:List α} {l₂:List β},Paired F l₁ l₂->(∀a b,F a b->G a b)->Paired G l₁ l₂
 | _,_,.nil,_=>.nil
 | _,_,.cons r t,f=>.cons (f _ _ r) (Paired.mapP t f)
theorem bo.stay(x:bo P w H h a o)(k:∀b u,(b=a\/H b=some (.own a))->h.get? b=some u->h'.get? b=some u)
  (ho:∀b,H b=some (.own a)->H' b=some (.own a)) (ht:∀b xs,H b=some (.tup xs)->H' b=some (.tup xs)):bo P w H' h' a o:=by
 induction o with
 | lst xs=>obtain⟨z,its,n,r,e⟩:=x;exact⟨z,its,n,r,k _ _ (.inl rfl) e⟩
 | tup xs=>obtain⟨z,its,r,ob,e,c⟩:=x;exact⟨z,its,r,ob,k _ _ (.inl rfl) e,c⟩
 | dK kvs=>obtain⟨z,y,vs,r,ob,es,ep,e,c⟩:=x;exact⟨z,y,vs,r,ob,es,ep,k _ _ (.inl rfl) e,c⟩
 | dT kvs=>
  obtain⟨z,y,xs,r,ob,es,ep,e,c⟩:=x
  exact⟨z,y,xs,Paired.mapP r fun p q z=>⟨z.1,ht _ _ z.2.1,z.2.2⟩,ob,es,ep,k _ _ (.inl rfl) e,c⟩
 | set S n=>obtain⟨ob,es,ep,t,e,c⟩:=x;exact⟨ob,es,ep,t,k _ _ (.inl rfl) e,c⟩
 | ins C dx fs=>
  obtain⟨d,z,ne,e,mA,⟨od,es,ep,e2,c⟩,r⟩:=x
  exact⟨ho _ d,z,ne,k _ _ (.inl rfl) e,mA,⟨od,es,ep,k _ _ (.inr d) e2,c⟩,r⟩
 | own y=>obtain⟨ob,e⟩:=x;exact⟨ob,k _ _ (.inl rfl) e⟩
 | xd fs=>obtain⟨mA,⟨od,es,ep,e,c⟩,r⟩:=x;exact⟨mA,⟨od,es,ep,k _ _ (.inl rfl) e,c⟩,r⟩
 | rng lo hi=>obtain⟨t,u,v,e⟩:=x;exact⟨t,u,v,k _ _ (.inl rfl) e⟩
 | frz ob u ih=>obtain⟨e,q⟩:=x;exact⟨k _ _ (.inl rfl) e,ih q⟩
 | tbl ps=>
  have e:h.get? a=some { cls:=.none,data:=.fields ps }:=x
  show h'.get? a=some { cls:=.none,data:=.fields ps }
  exact k a _ (.inl rfl) e
 | met f y=>
  have e:h.get? a=some (PySem.W.methodObj (.ref f) (.ref y)):=x
  show h'.get? a=some (PySem.W.methodObj (.ref f) (.ref y))
  exact k a _ (.inl rfl) e
 | ext φ=>obtain⟨p,⟨o,e⟩,st⟩:=x;exact⟨st _ _ p fun o q=>k _ _ (.inl rfl) q,⟨o,k _ _ (.inl rfl) e⟩,st⟩
theorem aY.lt(x:aY P w H h)(e:H a=some o):a<h.objs.size:=(x a o e).lt
theorem aY.fresh(x:aY P w H h)(e:h.objs.size<=a):H a=none:=by
 cases q:H a with
 | none=>rfl
 | some u=>exact absurd (ED (x.lt q) e) (Nat.lt_irrefl _)
theorem aY.kept(x:aY P w H h)(k:∀b u,h.get? b=some u->h'.get? b=some u):aY P w H h':=fun a o e=>
 (x a o e).stay (fun b u _ q=>k b u q) (fun _ q=>q) fun _ _ q=>q
theorem aY.laid(x:aY P w H h)(k:∀b u,h.get? b=some u->h'.get? b=some u)(hp:h.objs.size<=a)(new:bo P w (upd H a o) h' a o):aY P w (upd H a o) h':=fun b u e=>by
 have hn:=x.fresh hp
 by_cases hb:b=a
 ·subst hb;rw[aL]at e;cases e;exact new
 ·rw[az hb]at e
  exact(x b u e).stay (fun c v _ q=>k c v q) (fun c q=>by rw[az (bO q hn)];exact q) fun c xs q=>by rw[az (bO q hn)];exact q
end
def Rd(H:Hp)(a:Addr)(u:HO):Prop:=H a=some u\/∃o,H a=some (.frz o u)
theorem Rd.ok{P:Program}{w:World}{H:Hp}{h:Heap}{a:Addr}{u:HO}(r:Rd H a u)(x:aY P w H h):bo P w H h a u:=by
 rcases r with r | ⟨o,r⟩
 ·exact x a u r
 ·obtain⟨_,q⟩:=x a _ r
  exact q
def il:Option HO->Prop
 | some (.lst _)=>True
 | some (.dK _)=>True
 | some (.dT _)=>True
 | some (.set _ _)=>True
 | some (.ins _ _ _)=>True
 | some (.ext _)=>True
 | _=>False
section
variable {P:Program} {w:World} {H:Hp} {h h':Heap} {x e:Addr} {o':HO}
theorem aY.write(ok:aY P w H h)(mu:il (H x))(he:e=x\/H e=some (.own x))(k:∀b u,b≠e->h.get? b=some u->h'.get? b=some u)(heo:∃u,h'.get? e=some u)
  (new:bo P w (upd H x o') h' x o'):aY P w (upd H x o') h':=fun b u q=>by
 have nown:∀c y,H c=some (.own y)->c≠x:=fun c y r z=>by subst z;rw[r]at mu;exact mu
 have ntup:∀c xs,H c=some (.tup xs)->c≠x:=fun c xs r z=>by subst z;rw[r]at mu;exact mu
 by_cases hb:b=x
 ·subst hb;rw[aL]at q;cases q;exact new
 ·rw[az hb]at q
  by_cases hbe:b=e
  ·have q':H b=some (.own x):=by
    rcases he with z | z
    ·exact absurd (hbe.trans z) hb
    ·rw[hbe];exact z
   rw[q]at q';cases q'
   obtain⟨v,hv⟩:=heo
   exact⟨v,by rw[hbe];exact hv⟩
  ·refine(ok b u q).stay (fun c v hc r=>k c v ?_ r) (fun c r=>by rw[az (nown c b r)];exact r) fun c xs r=>by rw[az (ntup c xs r)];exact r
   rcases hc with rfl | hc
   ·exact hbe
   ·rintro rfl
    rcases he with z | z
    ·exact nown c b hc z
    ·rw[hc]at z;cases z;exact hb rfl
end
structure Un(fs ex:List Addr)(H H':Hp)(h h':Heap):Prop where
 keep:∀b o,h.get? b=some o->H b=none->b∉fs->b∉ex->h'.get? b=some o
 slot:∀b o,h.get? b=some o->H b=none->b∈fs->b∉ex->∃sl,h'.get? b=some { o with slots:=sl }
 free:∀b o,h.get? b=some o->H b=none->b∉ex->H' b=none
 there:∀b o,h.get? b=some o->b∉ex->∃o',h'.get? b=some o'
 tups:∀b xs,H b=some (.tup xs)->H' b=some (.tup xs)
 frzs:∀b o u,H b=some (.frz o u)->H' b=some (.frz o u)
 tbls:∀b ps,H b=some (.tbl ps)->∃more,H' b=some (.tbl (ps++more))
section
variable {fs fs' ex ex':List Addr} {H H1 H2:Hp} {h h1 h2 h':Heap} {a x e:Addr} {o:HO}
theorem Un.any(u:Un fs ex H H1 h h1){b:Addr}{ob:Obj}(q:h.get? b=some ob)(n:H b=none)(hx:b∉ex):∃sl,h1.get? b=some { ob with slots:=sl }:=by
 by_cases hb:b∈fs
 ·exact u.slot b ob q n hb hx
 ·exact⟨ob.slots,u.keep b ob q n hb hx⟩
theorem Un.kept(k:∀b u,h.get? b=some u->h'.get? b=some u):Un fs ex H H h h':=
 ⟨fun b ob q _ _ _=>k b ob q,fun b ob q _ _ _=>⟨ob.slots,k b ob q⟩,fun _ _ _ n _=>n,fun b ob q _=>⟨ob,k b ob q⟩,fun _ _ q=>q,fun _ _ _ q=>q,fun _ ps q=>⟨#[],by rw[q];simp⟩⟩
theorem Un.refl:Un fs ex H H h h:=Un.kept fun _ _ q=>q
theorem Un.laid(k:∀b u,h.get? b=some u->h'.get? b=some u)(hp:h.objs.size<=a)(hn:H a=none):Un fs ex H (upd H a o) h h' where
 keep:=fun b u q _ _ _=>k b u q
 slot:=fun b u q _ _ _=>⟨u.slots,k b u q⟩
 free:=fun b u q n _=>by rw[az (Eo (ED (DV q) hp))];exact n
 there:=fun b u q _=>⟨u,k b u q⟩
 tups:=fun b xs q=>by rw[az (bO q hn)];exact q
 frzs:=fun b u xs q=>by rw[az (bO q hn)];exact q
 tbls:=fun b ps q=>⟨#[],by rw[az (bO q hn),q];simp⟩
theorem Un.write(mu:il (H x))(he:e=x\/H e=some (.own x))(k:∀b u,b≠e->h.get? b=some u->h'.get? b=some u)(heo:∃u,h'.get? e=some u):Un fs ex H (upd H x o) h h':=by
 have hx:∀b,H b=none->b≠x:=fun b n z=>by subst z;rw[n]at mu;exact mu
 have hb:∀b,H b=none->b≠e:=fun b n z=>by
  subst z
  rcases he with r | r
  ·exact hx b n r
  ·rw[n]at r;cases r
 have hm:∀b u,H b=some u->¬il (some u)->b≠x:=fun b u q nm z=>by subst z;rw[q]at mu;exact nm mu
 refine⟨fun b u q n _ _=>k b u (hb b n) q,fun b u q n _ _=>⟨u.slots,k b u (hb b n) q⟩,fun b u q n _=>by rw[az (hx b n)];exact n,fun b u q _=>?_,
  fun b xs q=>by rw[az (hm b _ q fun z=>z)];exact q,fun b u xs q=>by rw[az (hm b _ q fun z=>z)];exact q,fun b ps q=>⟨#[],by rw[az (hm b _ q fun z=>z),q];simp⟩⟩
 by_cases hbe:b=e
 ·subst hbe;exact heo
 ·exact⟨u,k b u hbe q⟩
end
def kU(h:Heap)(H:Hp):List Addr:=(List.range h.objs.size).filter fun a=>(H a).isSome
def eG(h:Heap)(H:Hp):Heap:=PySem.W.hideAll h (kU h H)
theorem Dt(h:Heap)(H:Hp):(eG h H).objs.size=h.objs.size:=PySem.W.hideAll_size _ _
theorem kx{h:Heap}{H:Hp}{b:Addr}{o:Obj}(e:h.get? b=some o)(n:H b=none):(eG h H).get? b=some o:=
 PySem.W.hideAll_get _ e fun hm=>by
  have q:(H b).isSome=true:=(List.mem_filter.mp hm).2
  rw[n]at q;simp at q
theorem BD{h:Heap}{H:Hp}{b:Addr}{o:Obj}(e:(eG h H).get? b=some o):h.get? b=some o/\H b=none:=by
 have e':h.get? b=some o:=PySem.W.of_hideAll (kU h H) e
 refine⟨e',?_⟩
 cases q:H b with
 | none=>rfl
 | some x=>
  have hm:b∈kU h H:=List.mem_filter.mpr ⟨List.mem_range.mpr (DV e'),by simp[q]⟩
  have z:(eG h H).get? b=none:=PySem.W.hideAll_none (kU h H) hm
  rw[z]at e;cases e
end L2
namespace L2
open PySem PySem.Spec PyProof.Rows
structure Mod(K:DS)(mg:Str->Option Value)(base:Heap):Prop where
 kin:K.In base
 glob:base.Ns mainGlobals mg
 blt:∃mb,base.Ns builtinsNs mb/\∀x:Str,x≠"__name__"->mb x=bootBuiltins x
 nolimit:base.NoLimit
structure Cx where
 prog:Program
 w:World
 K:DS
 mg:Str->Option Value
 base:Heap
 A:Around
 N:List Str
 s₀:Shared
 H₀:Hp
 env:Env
 outer:List Env
 stack:List Env
 ex:List Addr
 fn:Str->Bool
 calm:Bool
 pn:List (Addr×Obj)
 xe:Value->Shared->Prop
def cJ(l:List Env):List Addr:=l.filterMap (·.frame)
abbrev Cx.fs(X:Cx):List Addr:=cJ X.outer
def ke(sc:Scope)(x:Str):Prop:=sc.names.lookup x=some .local\/sc.names.lookup x=some .cell\/sc.names.lookup x=some .free
def Loc(sc:Scope)(x:Str):Prop:=sc.names.lookup x=some .local\/sc.names.lookup x=some .cell
def Look(env:Env)(h:Heap)(m:Str->Option Value)(x:Str)(u:Value):Prop:=
 (env.kindOf x=some .local/\m x=some u)\/((env.kindOf x=some .cell\/env.kindOf x=some .free)/\∃c,env.cells.lookup x=some c/\h.IsCell c (some u))
structure Cx.Ok(X:Cx):Prop where
 mod:Mod X.K X.mg X.base
 kind:X.env.scope.kind=.function
 glob:X.env.globals=mainGlobals
 blt:X.env.builtins=builtinsNs
 above:X.s₀.heap.objs.size<=X.env.locals
 inj:∀x y c,X.env.cells.lookup x=some c->X.env.cells.lookup y=some c->x=y
 has:∀x,(X.env.kindOf x=some .cell\/X.env.kindOf x=some .free)->∃c,X.env.cells.lookup x=some c
 cab:∀x c,X.fn x=true->X.env.cells.lookup x=some c->X.s₀.heap.objs.size<=c
 hd:X.calm=true->X.A.handled=none
 frames:X.A.frames=some X.stack
 stk:X.stack=X.outer\/(X.stack=X.env::X.outer/\X.env.frame=some X.env.locals)
 exf:∀b∈X.ex,b≠X.env.locals/\∀x c,X.env.cells.lookup x=some c->c≠b
 bs:∀b o,X.base.get? b=some o->X.s₀.heap.get? b=some o/\X.H₀ b=none
 bsz:X.base.objs.size<=X.s₀.heap.objs.size
 noex:∀b o,X.base.get? b=some o->b∉X.ex
 exfs:∀b∈X.ex,b∉X.fs
 funs:X.s₀.heap.FunFrames X.base X.outer
 frf:∀b∈X.fs,X.H₀ b=none
structure Inv(X:Cx)(pins:List (Addr×Obj))(σ:List (Option V))(H:Hp)(s:Shared):Prop where
 ok:X.Ok
 os:s.os=X.s₀.os
 bare:AllBare s.gens
 base:Un X.fs X.ex X.H₀ H X.s₀.heap s.heap
 loc:∃m,s.heap.Ns X.env.locals m/\∀(i:Nat) (x:Str) (v:V),X.N[i]?=some x->σ[i]?=some (some v)->ke X.env.scope x->∃u,RelV v u/\Look X.env s.heap m x u
 cell:∀x c,X.env.cells.lookup x=some c->∃v,s.heap.IsCell c v
 free:H X.env.locals=none
 freeC:∀x c,X.env.cells.lookup x=some c->H c=none
 pin:∀p∈X.pn++pins,s.heap.get? p.1=some p.2/\H p.1=none/\p.1≠X.env.locals/\p.1∉X.fs/\∀v,p.2.data≠.cell v
 hok:aY X.prog X.w H s.heap
 len:σ.length=X.N.length
section
variable {X:Cx} {pins:List (Addr×Obj)} {σ:List (Option V)} {H H':Hp} {s:Shared} {h':Heap}
theorem Cx.Ok.nofr(ok:X.Ok){b:Addr}{o:Obj}(e:X.base.get? b=some o):b∉X.fs:=fun hb=>by
 have:=(ok.funs.mem hb).1
 rw[e]at this;cases this
theorem Inv.bs(I:Inv X pins σ H s):∀b o,X.base.get? b=some o->s.heap.get? b=some o/\H b=none:=fun b o e=>
 ⟨I.base.keep b o (I.ok.bs b o e).1 (I.ok.bs b o e).2 (I.ok.nofr e) (I.ok.noex b o e),I.base.free b o (I.ok.bs b o e).1 (I.ok.bs b o e).2 (I.ok.noex b o e)⟩
theorem Inv.bk(I:Inv X pins σ H s):∀b o,X.base.get? b=some o->s.heap.get? b=some o:=fun b o e=>(I.bs b o e).1
theorem Inv.mod(I:Inv X pins σ H s):Mod X.K X.mg X.base:=I.ok.mod
theorem Inv.kIn(I:Inv X pins σ H s):X.K.In s.heap:=I.ok.mod.kin.keeps I.bk
theorem Inv.lt(I:Inv X pins σ H s):X.env.locals<s.heap.objs.size:=let ⟨_,hn,_⟩:=I.loc;hn.lt
theorem Inv.sz(I:Inv X pins σ H s):X.s₀.heap.objs.size<=s.heap.objs.size:=EE I.ok.above (Nat.le_of_lt I.lt)
theorem Inv.nofs(I:Inv X pins σ H s){a:Addr}(h:s.heap.objs.size<=a):a∉X.fs:=fun hb=>by
 obtain⟨_,o,ho,_⟩:=I.ok.funs.mem hb
 exact absurd (ED (DV ho) (EE I.sz h)) (Nat.lt_irrefl _)
theorem Inv.cne(I:Inv X pins σ H s):∀x c,X.env.cells.lookup x=some c->c≠X.env.locals:=fun x c e z=>by
 obtain⟨v,o,ho,hd⟩:=I.cell x c e
 obtain⟨m,⟨o',es,ep,ho',hd',_⟩,_⟩:=I.loc
 rw[z,ho']at ho;cases ho;rw[hd']at hd;cases hd
theorem Inv.funs(I:Inv X pins σ H s):s.heap.FunFrames X.base X.outer:=by
 have all:∀(l:List Env),(∀b∈cJ l,b∈X.fs)->X.s₀.heap.FunFrames X.base l->s.heap.FunFrames X.base l:=by
  intro l
  induction l with
  | nil=>intro _ _;trivial
  | cons env r ih=>
   intro hs hl
   obtain⟨hk,⟨L,o,hf,hn,ho,hd⟩,hr⟩:=hl
   have hL:L∈X.fs:=hs L (by unfold cJ;rw[List.filterMap_cons,hf];exact Ec)
   obtain⟨sl,e⟩:=I.base.slot L o ho (I.ok.frf L hL) hL fun z=>I.ok.exfs L z hL
   exact⟨hk,⟨L,_,hf,hn,e,hd⟩,ih (fun b hb=>hs b (by unfold cJ;rw[List.filterMap_cons,hf];exact DZ _ hb)) hr⟩
 exact all X.outer (fun _ hb=>hb) I.ok.funs
theorem Inv.stack(I:Inv X pins σ H s):s.heap.FunFrames X.base X.stack:=by
 rcases I.ok.stk with e | ⟨e,hf⟩
 ·rw[e];exact I.funs
 ·rw[e]
  obtain⟨m,hn,_⟩:=I.loc
  refine .cons (by rw[I.ok.kind];decide) hf hn ?_ I.funs
  exact Heap.get?_none_of_le (EE I.ok.bsz I.ok.above)
theorem Inv.stkSub(I:Inv X pins σ H s):∀b∈cJ X.stack,b∈X.env.locals::X.fs:=fun b hb=>by
 rcases I.ok.stk with e | ⟨e,hf⟩
 ·rw[e]at hb;exact DZ _ hb
 ·rw[e]at hb
  unfold cJ at hb
  rw[List.filterMap_cons,hf]at hb
  exact hb
theorem Inv.stkFree(I:Inv X pins σ H s):∀b∈cJ X.stack,H b=none:=fun b hb=>by
 rcases Ek.mp (I.stkSub b hb)with e | hb
 ·rw[e];exact I.free
 ·obtain⟨_,o,ho,_⟩:=I.ok.funs.mem hb
  exact I.base.free b o ho (I.ok.frf b hb) fun z=>I.ok.exfs b z hb
theorem Inv.step{g':Array GenState}{t':Nat}{d':Drawn}{ch:List Addr}(I:Inv X pins σ H s)
  (hch:∀b∈ch,(b∈X.ex\/X.s₀.heap.objs.size<=b)/\b≠X.env.locals/\(∀x c,X.env.cells.lookup x=some c->c≠b)/\∀p∈X.pn++pins,p.1≠b)
  (keep:∀b o,b≠X.env.locals->b∉X.fs->b∉ch->s.heap.get? b=some o->H b=none->h'.get? b=some o)
  (slot:∀b o,b≠X.env.locals->b∈X.fs->b∉ch->s.heap.get? b=some o->H b=none->∃sl,h'.get? b=some { o with slots:=sl }) (free:∀b o,b∉ch->s.heap.get? b=some o->H b=none->H' b=none)
  (there:∀b o,b∉ch->s.heap.get? b=some o->∃o',h'.get? b=some o')
  (tups:∀b xs,H b=some (.tup xs)->H' b=some (.tup xs)) (frzs:∀b o u,H b=some (.frz o u)->H' b=some (.frz o u)) (tbls:∀b ps,H b=some (.tbl ps)->∃more,H' b=some (.tbl (ps++more)))
  (ns:∀m,s.heap.Ns X.env.locals m->h'.Ns X.env.locals m) (hok:aY X.prog X.w H' h') (hg:AllBare g') :
  Inv X pins σ H' { s with heap:=h',gens:=g',drawn:=d',toks:=t' }:=by
 have neL:∀b o,X.s₀.heap.get? b=some o->b≠X.env.locals:=fun b o e=>Eo (ED (DV e) I.ok.above)
 have neC:∀b o,X.s₀.heap.get? b=some o->b∉X.ex->b∉ch:=fun b o e hx hb=>by
  rcases(hch b hb).1 with z | z
  ·exact hx z
  ·exact absurd (ED (DV e) z) (Nat.lt_irrefl _)
 have cellK:∀x c,X.env.cells.lookup x=some c->∀v,s.heap.IsCell c v->h'.IsCell c v:=fun x c e v ⟨o,ho,hd⟩=>by
  have nch:c∉ch:=fun z=>(hch c z).2.2.1 x c e rfl
  by_cases hc:c∈X.fs
  ·obtain⟨sl,q⟩:=slot c o (I.cne x c e) hc nch ho (I.freeC x c e)
   exact⟨_,q,hd⟩
  ·exact⟨o,keep c o (I.cne x c e) hc nch ho (I.freeC x c e),hd⟩
 refine⟨I.ok,I.os,hg,⟨fun b o e n hb hx=>?_,fun b o e n hb hx=>?_,fun b o e n hx=>?_,fun b o e hx=>?_,fun b xs e=>tups b xs (I.base.tups b xs e),fun b o xs e=>frzs b o xs (I.base.frzs b o xs e),fun b ps e=>?_⟩,?_,fun x c e=>?_,?_,fun x c e=>?_,fun p hp=>?_,hok,I.len⟩
 ·exact keep b o (neL b o e) hb (neC b o e hx) (I.base.keep b o e n hb hx) (I.base.free b o e n hx)
 ·obtain⟨sl,e1⟩:=I.base.slot b o e n hb hx
  obtain⟨sl',e2⟩:=slot b _ (neL b o e) hb (neC b o e hx) e1 (I.base.free b o e n hx)
  exact⟨sl',e2⟩
 ·obtain⟨o',e1⟩:=I.base.there b o e hx
  exact free b o' (neC b o e hx) e1 (I.base.free b o e n hx)
 ·obtain⟨o',e1⟩:=I.base.there b o e hx
  exact there b o' (neC b o e hx) e1
 ·obtain⟨m1,e1⟩:=I.base.tbls b ps e
  obtain⟨m2,e2⟩:=tbls b _ e1
  exact⟨m1++m2,by rw[e2,Array.append_assoc]⟩
 ·obtain⟨m,hn,hl⟩:=I.loc
  refine⟨m,ns m hn,fun i x v e1 e2 e3=>?_⟩
  obtain⟨u,r,l⟩:=hl i x v e1 e2 e3
  refine⟨u,r,?_⟩
  rcases l with l | ⟨k,c,e,z⟩
  ·exact .inl l
  ·exact .inr ⟨k,c,e,cellK x c e _ z⟩
 ·obtain⟨v,z⟩:=I.cell x c e
  exact⟨v,cellK x c e v z⟩
 ·obtain⟨m,⟨o,_,_,ho,_⟩,_⟩:=I.loc
  exact free _ o (fun z=>(hch _ z).2.1 rfl) ho I.free
 ·obtain⟨v,o,ho,hd⟩:=I.cell x c e
  exact free c o (fun z=>(hch c z).2.2.1 x c e rfl) ho (I.freeC x c e)
 ·obtain⟨e,n,ne,nf,d⟩:=I.pin p hp
  have nch:p.1∉ch:=fun z=>(hch p.1 z).2.2.2 p hp rfl
  exact⟨keep p.1 p.2 ne nf nch e n,free p.1 p.2 nch e n,ne,nf,d⟩
theorem Inv.un{t':Nat}(I:Inv X pins σ H s)(u:Un X.fs [] H H' s.heap h')(hok:aY X.prog X.w H' h'):Inv X pins σ H' { s with heap:=h',toks:=t' }:=by
 obtain⟨m,⟨o,es,ep,ho,r⟩,_⟩:=id I.loc
 obtain⟨sl,hL⟩:=u.any ho I.free (by simp)
 exact I.step (g':=s.gens) (d':=s.drawn) (ch:=[]) (fun _ z=>nomatch z) (fun b o _ hb _ e n=>u.keep b o e n hb (by simp)) (fun b o _ hb _ e n=>u.slot b o e n hb (by simp)) (fun b o _ e n=>u.free b o e n (by simp)) (fun b o _ e=>u.there b o e (by simp)) u.tups u.frzs u.tbls (fun m' hm=>by
  obtain⟨o',es',ep',ho',r'⟩:=hm
  rw[ho]at ho';cases ho'
  exact⟨_,es',ep',hL,r'⟩) hok I.bare
theorem Inv.call{g':Array GenState}{t':Nat}{d':Drawn}{ch:List Addr}(I:Inv X pins σ H s)(u:Un (cJ X.stack) ch H H' s.heap h')(hok:aY X.prog X.w H' h')(hg:AllBare g')
  (hch:∀b∈ch,(b∈X.ex\/X.s₀.heap.objs.size<=b)/\b≠X.env.locals/\(∀x c,X.env.cells.lookup x=some c->c≠b)/\∀p∈X.pn++pins,p.1≠b) :
  Inv X pins σ H' { s with heap:=h',gens:=g',drawn:=d',toks:=t' }:=by
 obtain⟨m,⟨o,es,ep,ho,r⟩,_⟩:=id I.loc
 obtain⟨sl,hL⟩:=u.any ho I.free fun z=>(hch _ z).2.1 rfl
 exact I.step (ch:=ch) hch (fun b o hL hb hc e n=>u.keep b o e n (fun z=>(Ek.mp (I.stkSub b z)).elim hL hb) hc) (fun b o _ _ hc e n=>u.any e n hc) (fun b o hc e n=>u.free b o e n hc) (fun b o hc e=>u.there b o e hc) u.tups u.frzs u.tbls (fun m' hm=>by
  obtain⟨o',es',ep',ho',r'⟩:=hm
  rw[ho]at ho';cases ho'
  exact⟨_,es',ep',hL,r'⟩) hok hg
theorem Inv.turned{t':Nat}{it:Addr}(I:Inv X pins σ H s)(k:∀b o,b≠it->s.heap.get? b=some o->h'.get? b=some o)(hn:H it=none)(hL:it≠X.env.locals)
  (h1:it∈X.ex\/X.s₀.heap.objs.size<=it) (h2:∀x c,X.env.cells.lookup x=some c->c≠it) (h3:∀p∈X.pn++pins,p.1≠it):Inv X pins σ H { s with heap:=h',toks:=t' }:=by
 have nit:∀b u,H b=some u->b≠it:=fun b u e z=>by rw[z,hn]at e;cases e
 refine I.step (g':=s.gens) (d':=s.drawn) (ch:=[it]) (fun b hb=>?_) (fun b o _ _ hc e _=>k b o (fun z=>hc (by simp[z])) e) (fun b o _ _ hc e _=>⟨o.slots,k b o (fun z=>hc (by simp[z])) e⟩) (fun _ _ _ _ n=>n)
  (fun b o hc e=>⟨o,k b o (fun z=>hc (by simp[z])) e⟩) (fun _ _ e=>e) (fun _ _ _ e=>e) (fun b ps e=>⟨#[],by rw[e];simp⟩) (fun m hm=>?_) (fun b u e=>?_) I.bare
 ·have e:b=it:=by simpa using hb
  subst e
  exact⟨h1,hL,h2,h3⟩
 ·obtain⟨o,es,ep,ho,r⟩:=hm
  exact⟨o,es,ep,k _ o (Ne.symm hL) ho,r⟩
 ·refine(I.hok b u e).stay (fun c v hc q=>k c v ?_ q) (fun _ q=>q) fun _ _ q=>q
  rcases hc with z | z
  ·rw[z];exact nit b u e
  ·exact nit c _ z
theorem Inv.tok(I:Inv X pins σ H s)(t:Nat):Inv X pins σ H { s with toks:=t }:=I.un (h':=s.heap) (t':=t) Un.refl I.hok
theorem Inv.kept{t':Nat}(I:Inv X pins σ H s)(k:∀b u,s.heap.get? b=some u->h'.get? b=some u):Inv X pins σ H { s with heap:=h',toks:=t' }:=I.un (Un.kept k) (I.hok.kept k)
theorem Inv.laid{a:Addr}{o:HO}{t':Nat}(I:Inv X pins σ H s)(k:∀b u,s.heap.get? b=some u->h'.get? b=some u)(hp:s.heap.objs.size<=a)(new:bo X.prog X.w (upd H a o) h' a o):
  Inv X pins σ (upd H a o) { s with heap:=h',toks:=t' }:=I.un (Un.laid k hp (I.hok.fresh hp)) (I.hok.laid k hp new)
theorem Inv.write{x e:Addr}{o:HO}{t':Nat}(I:Inv X pins σ H s)(mu:il (H x))(he:e=x\/H e=some (.own x))(k:∀b u,b≠e->s.heap.get? b=some u->h'.get? b=some u)(heo:∃u,h'.get? e=some u)
  (new:bo X.prog X.w (upd H x o) h' x o):Inv X pins σ (upd H x o) { s with heap:=h',toks:=t' }:=I.un (Un.write mu he k heo) (I.hok.write mu he k heo new)
theorem Inv.pins_of{pins':List (Addr×Obj)}(I:Inv X pins σ H s)(h:∀p∈pins',s.heap.get? p.1=some p.2/\H p.1=none/\p.1≠X.env.locals/\p.1∉X.fs/\∀v,p.2.data≠.cell v):Inv X pins' σ H s:=
 ⟨I.ok,I.os,I.bare,I.base,I.loc,I.cell,I.free,I.freeC,fun p hp=>(Ew.mp hp).elim (fun z=>I.pin p (List.mem_append_left _ z)) (h p),I.hok,I.len⟩
theorem uV{N:List Str}(hN:N.Nodup){i j:Nat}{x:Str}(a:N[i]?=some x)(b:N[j]?=some x):i=j:=by
 obtain⟨h1,e1⟩:=Ee.mp a
 obtain⟨h2,e2⟩:=Ee.mp b
 exact(List.getElem_inj hN).mp (e1.trans e2.symm)
theorem rO{M:Model}{A:Around}{E:Value->Shared->Prop}{i:Nat}{x:Str}{v:V}{u:Value}{Q:Unit->Shared->Prop}(I:Inv X pins σ H s)(hN:X.N.Nodup)(hi:X.N[i]?=some x)(hx:Loc X.env.scope x)(r:RelV v u)
  (h:∀s',Inv X pins (σ.set i (some v)) H s'->(∃a,Heap.SameBut a s.heap s'.heap/\(a=X.env.locals\/X.env.cells.lookup x=some a))->Q () s') (hf:X.fn x=true\/X.env.scope.names.lookup x=some .local:=by first | exact .inl rfl | exact .inr rfl | assumption):wpAny M A (storeName X.env x u) Q E s:=by
 obtain⟨m,hn,hl⟩:=id I.loc
 have hcls:(X.env.scope.kind == .class || (X.env.scope.kind == .module && X.env.locals != X.env.globals))=false:=by rw[I.ok.kind];rfl
 have hiσ:i<σ.length:=by rw[I.len];exact(Ee.mp hi).1
 have cne:=I.cne
 have tracked:∀{a:Addr} {h':Heap},(∃o,s.heap.get? a=some o/\H a=none)->Heap.SameBut a s.heap h'->aY X.prog X.w H h':=fun{a h'} ha hs b ob e=>by
  obtain⟨_,_,hfree⟩:=ha
  refine(I.hok b ob e).stay (fun c w' hc q=>(hs.2 c ?_).trans q) (fun _ q=>q) fun _ _ q=>q
  rintro rfl
  rcases hc with rfl | hc
  ·rw[hfree]at e;cases e
  ·rw[hfree]at hc;cases hc
 rcases hx with hk | hk
 ·refine wpAny_storeName_local hk hn (fun h' hn' hs=>?_) hcls
  obtain⟨oL,_,_,hoL,_⟩:=id hn
  refine h _ ⟨I.ok,I.os,I.bare,⟨fun b o e n hb hx=>?_,fun b o e n hb hx=>?_,I.base.free,fun b o e hx=>?_,I.base.tups,I.base.frzs,I.base.tbls⟩,⟨_,hn',fun j y v' e1 e2 e3=>?_⟩,fun y c e=>?_,I.free,I.freeC,fun p hp=>?_,tracked ⟨oL,hoL,I.free⟩ hs,by simpa using I.len⟩ ⟨_,hs,.inl rfl⟩
  ·exact(hs.2 b (Eo (ED (DV e) I.ok.above))).trans (I.base.keep b o e n hb hx)
  ·obtain⟨sl,e1⟩:=I.base.slot b o e n hb hx
   exact⟨sl,(hs.2 b (Eo (ED (DV e) I.ok.above))).trans e1⟩
  ·obtain⟨o',e1⟩:=I.base.there b o e hx
   exact⟨o',(hs.2 b (Eo (ED (DV e) I.ok.above))).trans e1⟩
  ·by_cases hj:j=i
   ·subst hj
    rw[hi]at e1;cases e1
    rw[List.getElem?_set_self hiσ]at e2
    cases e2
    exact⟨u,r,.inl ⟨hk,by simp⟩⟩
   ·rw[List.getElem?_set_ne (Ne.symm hj)]at e2
    obtain⟨u',r',q⟩:=hl j y v' e1 e2 e3
    refine⟨u',r',?_⟩
    rcases q with⟨k,e⟩ | ⟨k,c,e,z⟩
    ·refine .inl ⟨k,?_⟩
     have:y≠x:=fun e=>hj (uV hN e1 (e ▸ hi))
     simp[this,e]
    ·exact .inr ⟨k,c,e,z.sameBut hs (cne y c e)⟩
  ·obtain⟨w',z⟩:=I.cell y c e
   exact⟨w',z.sameBut hs (cne y c e)⟩
  ·obtain⟨e,n,ne,nf,d⟩:=I.pin p hp
   exact⟨(hs.2 p.1 ne).trans e,n,ne,nf,d⟩
 ·have hfn:X.fn x=true:=by
   rcases hf with z | z
   ·exact z
   ·rw[z]at hk;cases hk
  obtain⟨c,hc⟩:=I.ok.has x (.inl hk)
  obtain⟨w',z⟩:=I.cell x c hc
  refine wpAny_storeName_cell I.ok.kind hk hc z (fun h' hc' hs=>?_)
  obtain⟨oc,hoc,hocd⟩:=id z
  refine h { s with heap:=h' } ⟨I.ok,I.os,I.bare,⟨fun b o e n hb hx=>?_,fun b o e n hb hx=>?_,I.base.free,fun b o e hx=>?_,I.base.tups,I.base.frzs,I.base.tbls⟩,⟨m,hn.sameBut hs (Ne.symm (cne x c hc)),fun j y v' e1 e2 e3=>?_⟩,fun y c' e=>?_,I.free,I.freeC,fun p hp=>?_,tracked ⟨oc,hoc,I.freeC x c hc⟩ hs,by simpa using I.len⟩ ⟨c,hs,.inr hc⟩
  ·exact(hs.2 b (Eo (ED (DV e) (I.ok.cab x c hfn hc)))).trans (I.base.keep b o e n hb hx)
  ·obtain⟨sl,e1⟩:=I.base.slot b o e n hb hx
   exact⟨sl,(hs.2 b (Eo (ED (DV e) (I.ok.cab x c hfn hc)))).trans e1⟩
  ·obtain⟨o',e1⟩:=I.base.there b o e hx
   exact⟨o',(hs.2 b (Eo (ED (DV e) (I.ok.cab x c hfn hc)))).trans e1⟩
  ·by_cases hj:j=i
   ·subst hj
    rw[hi]at e1;cases e1
    rw[List.getElem?_set_self hiσ]at e2
    cases e2
    exact⟨u,r,.inr ⟨.inl hk,c,hc,hc'⟩⟩
   ·rw[List.getElem?_set_ne (Ne.symm hj)]at e2
    obtain⟨u',r',q⟩:=hl j y v' e1 e2 e3
    refine⟨u',r',?_⟩
    rcases q with q | ⟨k,c',e,z'⟩
    ·exact .inl q
    ·refine .inr ⟨k,c',e,z'.sameBut hs ?_⟩
     rintro rfl
     exact hj (uV hN e1 (I.ok.inj _ _ _ e hc ▸ hi))
  ·by_cases hcc:c'=c
   ·subst hcc;exact⟨_,hc'⟩
   ·obtain⟨w2,z2⟩:=I.cell y c' e
    exact⟨w2,z2.sameBut hs hcc⟩
  ·obtain⟨e,n,ne,nf,d⟩:=I.pin p hp
   refine⟨(hs.2 p.1 ?_).trans e,n,ne,nf,d⟩
   intro q
   rw[q,hoc]at e
   have q':oc=p.2:=Option.some.inj e
   exact d w' (by rw[←q'];exact hocd)
theorem nj{M:Model}{A:Around}{E:Value->Shared->Prop}{i:Nat}{x:Str}{v:V}{u:Value}{Q:Unit->Shared->Prop}(I:Inv X pins σ H s)(hN:X.N.Nodup)(hi:X.N[i]?=some x)(hx:Loc X.env.scope x)(r:RelV v u)
  (h:∀s',Inv X pins (σ.set i (some v)) H s'->Q () s') (hf:X.fn x=true\/X.env.scope.names.lookup x=some .local:=by first | exact .inl rfl | exact .inr rfl | assumption):wpAny M A (storeName X.env x u) Q E s:=
 rO I hN hi hx r (fun s' I' _=>h s' I') hf
theorem Inv.call'{s':Shared}{ch:List Addr}(I:Inv X pins σ H s)(ho:s'.os=s.os)(u:Un (cJ X.stack) ch H H' s.heap s'.heap)(hok:aY X.prog X.w H' s'.heap)(hg:AllBare s'.gens)
  (hch:∀b∈ch,(b∈X.ex\/X.s₀.heap.objs.size<=b)/\b≠X.env.locals/\(∀x c,X.env.cells.lookup x=some c->c≠b)/\∀p∈X.pn++pins,p.1≠b):Inv X pins σ H' s':=by
 obtain⟨h',g',d',t',o'⟩:=s'
 have e:o'=s.os:=ho
 subst e
 exact I.call (g':=g') (t':=t') (d':=d') u hok hg hch
end
abbrev XK:=Value->Option Addr->Hp->Prop
abbrev St:=List (Option V)
abbrev VK:=V->Hp->Prop
abbrev TE:=St->Hp->VK->Prop
abbrev TT:=St->Hp->(Bool->Hp->Prop)->Prop
abbrev TA:=St->Hp->(List V->Hp->Prop)->Prop
structure Ends where
 nx:St->Hp->Prop
 rt:VK
 bk:St->Hp->Prop:=fun _ _=>False
 ct:St->Hp->Prop:=fun _ _=>False
abbrev TS:=Ends->St->Hp->Prop
def EP(X:Cx)(pins:List (Addr×Obj))(σ:St)(Q:VK)(u:Value)(s':Shared):Prop:=∃v H',Inv X pins σ H' s'/\RelV v u/\Q v H'
def TP(X:Cx)(pins:List (Addr×Obj))(σ:St)(Q:Bool->Hp->Prop)(b:Bool)(s':Shared):Prop:=∃H',Inv X pins σ H' s'/\Q b H'
def AP(X:Cx)(pins:List (Addr×Obj))(σ:St)(Q:List V->Hp->Prop)(us:List Value)(s':Shared):Prop:=∃vs H',Inv X pins σ H' s'/\Vals vs us/\Q vs H'
def SP(X:Cx)(pins:List (Addr×Obj))(D:Ends)(f:Flow)(s':Shared):Prop:=
 match f with
 | .next=>∃σ' H',Inv X pins σ' H' s'/\D.nx σ' H'
 | .brk=>∃σ' H',Inv X pins σ' H' s'/\D.bk σ' H'
 | .cont=>∃σ' H',Inv X pins σ' H' s'/\D.ct σ' H'
 | .ret u=>∃v σ' H',Inv X pins σ' H' s'/\RelV v u/\D.rt v H'
def PE(X:Cx)(e:Expr)(t:TE):Prop:=
 ∀(pins:List (Addr×Obj)) (s:Shared) (σ:St) (H:Hp) (Q:VK),Inv X pins σ H s->t σ H Q->wpAny (model X.prog X.w) X.A (eval e X.env) (EP X pins σ Q) X.xe s
def PT(X:Cx)(e:Expr)(t:TT):Prop:=
 ∀(pins:List (Addr×Obj)) (s:Shared) (σ:St) (H:Hp) (Q:Bool->Hp->Prop),Inv X pins σ H s->t σ H Q->wpAny (model X.prog X.w) X.A (isTrue e X.env (eval e X.env)) (TP X pins σ Q) X.xe s
def PW(X:Cx)(e:Expr)(t:TT):Prop:=
 ∀(whole:Sem Value) (pins:List (Addr×Obj)) (s:Shared) (σ:St) (H:Hp) (Q:Bool->Hp->Prop),Inv X pins σ H s->t σ H Q->wpAny (model X.prog X.w) X.A (isTrue e X.env whole) (TP X pins σ Q) X.xe s
theorem PW.pt{X:Cx}{e:Expr}{t:TT}(h:PW X e t):PT X e t:=h _
def PA(X:Cx)(es:List Expr)(t:TA):Prop:=
 ∀(pos:Pos) (pins:List (Addr×Obj)) (s:Shared) (σ:St) (H:Hp) (Q:List V->Hp->Prop),Inv X pins σ H s->t σ H Q->wpAny (model X.prog X.w) X.A (spliced (backTo pos (starEach es X.env))) (AP X pins σ Q) X.xe s
def PS(X:Cx)(st:Stmt)(t:TS):Prop:=
 ∀(pins:List (Addr×Obj)) (s:Shared) (σ:St) (H:Hp) (D:Ends),Inv X pins σ H s->t D σ H->wpAny (model X.prog X.w) X.A (exec st X.env) (SP X pins D) X.xe s
def cq(X:Cx)(st:List Stmt)(t:TS):Prop:=
 ∀(pins:List (Addr×Obj)) (s:Shared) (σ:St) (H:Hp) (D:Ends),Inv X pins σ H s->t D σ H->wpAny (model X.prog X.w) X.A (execs st X.env) (SP X pins D) X.xe s
theorem ay{α:Type}{t:Sem α}{Q Q':α->Shared->Prop}{M:Model}{A:Around}{E:Value->Shared->Prop}{s:Shared}(h:wpAny M A t Q E s)(hQ:∀a s,Q a s->Q' a s):wpAny M A t Q' E s:=wpAny_mono h hQ fun _ _ x=>x
end L2
namespace L2
open PySem PySem.Spec PyProof.Rows
section
variable {X:Cx}
theorem bin{a b:Expr}{ta tb:TE}(ha:PE X a ta)(hb:PE X b tb){pins:List (Addr×Obj)}{s:Shared}{σ:St}{H:Hp}{R:V->V->Hp->Prop}(I:Inv X pins σ H s)(h:ta σ H fun x H1=>tb σ H1 fun y H2=>R x y H2)
  {α:Type} {Q:α->Shared->Prop} {f:Value->Value->Sem α}
  (hf:∀v u s2 x y H2,Inv X pins σ H2 s2->RelV x v->RelV y u->R x y H2->wpAny (model X.prog X.w) X.A (f v u) Q X.xe s2) :
  wpAny (model X.prog X.w) X.A (eval a X.env) (fun v s₁=>wpAny (model X.prog X.w) X.A (eval b X.env) (fun u s₂=>wpAny (model X.prog X.w) X.A (f v u) Q X.xe s₂) X.xe s₁) X.xe s:=by
 refine ay (ha pins s σ H _ I h) fun v s1 ⟨x,H1,I1,r1,q1⟩=>?_
 refine ay (hb pins s1 σ H1 _ I1 q1) fun u s2 ⟨y,H2,I2,r2,q2⟩=>?_
 exact hf v u s2 x y H2 I2 r1 r2 q2
def nK(i:Nat):TE:=fun σ H Q=>∃v,σ[i]?=some (some v)/\Q v H
def tC(v:V):TE:=fun _ H Q=>Q v H
theorem xU{i:Nat}{x:Str}{pos:Pos}(hN:X.N[i]?=some x)(hv:ke X.env.scope x)(hd:(x == ("__debug__":Str))=false:=by decide)(hcd:(x == ("__classdict__":Str))=false:=by decide):PE X (.Name x pos) (nK i):=by
 intro pins s σ H Q I h
 obtain⟨v,e,h⟩:=h
 obtain⟨m,hn,hl⟩:=I.loc
 obtain⟨u,r,l⟩:=hl i x v hN e hv
 have fin:EP X pins σ Q u s:=⟨v,H,I,r,h⟩
 rcases l with⟨hk,hm⟩ | ⟨hk,c,hc,hcell⟩
 ·exact wpAny_Name (wpAny_loadName_local I.ok.kind hk hn hm fin) hd
 ·rcases hk with hk | hk
  ·exact wpAny_Name (wpAny_loadName_cell I.ok.kind hk hc hcell fin) hd
  ·exact wpAny_Name (wpAny_loadName_free I.ok.kind hk hc hcell fin hcd) hd
theorem af{i j pos}:PE X (.Constant (.int i) j pos) (tC (.int i)):=fun _ _ _ H _ I h=>wpAny_Constant_int ⟨.int i,H,I.tok _,⟨_,rfl⟩,h⟩
theorem bR{b j pos}:PE X (.Constant (.bool b) j pos) (tC (.bl b)):=fun _ _ _ H _ I h=>Constant_bool ⟨.bl b,H,I,rfl,h⟩
theorem gB{j pos}:PE X (.Constant .none j pos) (tC .non):=fun _ _ _ H _ I h=>Constant_none ⟨.non,H,I,rfl,h⟩
theorem bD{x j pos}:PE X (.Constant (.str x) j pos) (tC (.str x)):=fun _ _ _ H _ I h=>Calls.Constant_str ⟨.str x,H,I.tok _,⟨_,rfl⟩,h⟩
def Gl(X:Cx)(x:Str):Prop:=X.env.kindOf x=some .globalImplicit
theorem iW{E:Value->Shared->Prop}{pins:List (Addr×Obj)}{s:Shared}{σ:St}{H:Hp}{x:Str}{u:Value}{pos:Pos}{Q:Value->Shared->Prop}(I:Inv X pins σ H s)(hg:Gl X x)(hm:X.mg x=some u)(h:Q u s)
  (hd:(x == ("__debug__":Str))=false:=by decide):wpAny (model X.prog X.w) X.A (eval (.Name x pos) X.env) Q E s:=
 Calls.Name_function_global I.ok.kind hg (Calls.loadGlobal_global (by rw[I.ok.glob];exact I.mod.glob.keeps I.bk) hm h) hd
theorem fL{E:Value->Shared->Prop}{pins:List (Addr×Obj)}{s:Shared}{σ:St}{H:Hp}{x:Str}{u:Value}{pos:Pos}{Q:Value->Shared->Prop}(I:Inv X pins σ H s)(hg:Gl X x)(hm:X.mg x=none)(hv:bootBuiltins x=some u)(h:Q u s)
  (hn:x≠"__name__":=by decide) (hd:(x == ("__debug__":Str))=false:=by decide):wpAny (model X.prog X.w) X.A (eval (.Name x pos) X.env) Q E s:=by
 obtain⟨mb,h1,h2⟩:=I.mod.blt
 exact Calls.Name_function_global I.ok.kind hg (Calls.loadGlobal_builtin (by rw[I.ok.glob];exact I.mod.glob.keeps I.bk) hm (by rw[I.ok.blt];exact h1.keeps I.bk) ((h2 x hn).trans hv) h) hd
theorem mn{x:Str}{v:V}{u:Value}{pos:Pos}(hg:Gl X x)(hm:X.mg x=some u)(r:RelV v u)(hd:(x == ("__debug__":Str))=false:=by decide):PE X (.Name x pos) (tC v):=
 fun _ _ _ H _ I h=>iW I hg hm ⟨v,H,I,r,h⟩ hd
theorem eJ{x:Str}{v:V}{u:Value}{pos:Pos}(hg:Gl X x)(hm:X.mg x=none)(hv:bootBuiltins x=some u)(r:RelV v u)(hn:x≠"__name__":=by decide)(hd:(x == ("__debug__":Str))=false:=by decide):PE X (.Name x pos) (tC v):=
 fun _ _ _ H _ I h=>fL I hg hm hv ⟨v,H,I,r,h⟩ hn hd
variable {a b:Expr} {ta tb:TE} {pos:Pos}
def PC(X:Cx)(op:CmpOp)(a b:Expr)(t:TE):Prop:=
 ∀(pins:List (Addr×Obj)) (s:Shared) (σ:St) (H:Hp) (Q:VK),Inv X pins σ H s->t σ H Q →
  wpAny (model X.prog X.w) X.A (eval a X.env) (fun v s₁=>wpAny (model X.prog X.w) X.A (eval b X.env) (fun u s₂=>wpAny (model X.prog X.w) X.A (compareOp op v u) (EP X pins σ Q) X.xe s₂) X.xe s₁) X.xe s
def tB(t:TE):TT:=fun σ H Q=>t σ H fun x H1=>∃c,x=.bl c/\Q c H1
theorem Cg{op:CmpOp}{t:TE}(h:PC X op a b t)(h1:behindInMarks op b=false:=by first | exact nobehind _ (by decide) (by decide) | rfl):PE X (.Compare a [op] [b] pos) t:=fun pins s σ H Q I hw=>wpAny_Compare1 (h pins s σ H Q I hw) h1
theorem j9{op:CmpOp}{t:TE}(h:PC X op a b t)(h1:behindInMarks op b=false:=by first | exact nobehind _ (by decide) (by decide) | rfl):PT X (.Compare a [op] [b] pos) (tB t):=by
 intro pins s σ H Q I hw
 refine wpAny_isTrue_Compare1 (ay (h pins s σ H _ I hw) fun v s1 h1=>ay h1 fun u s2 h2=>ay h2 fun c s3 ⟨x,H1,I1,r1,q1⟩=>?_) h1
 obtain⟨d,rfl,q⟩:=q1
 cases r1
 exact wpAny_truthy_bool ⟨H1,I1,q⟩
theorem b9{e:Expr}{t:TE}(h:PE X e t)(he:∀whole,isTrue e X.env whole=(do let v ←whole;standAt e.pos;holding [v] (truthy v)):=by intro _;rfl):PT X e (tB t):=by
 intro pins s σ H Q I hw
 refine isTrue_plain (ay (h pins s σ H _ I hw) fun v s1 ⟨x,H1,I1,r1,q1⟩=>?_) (he _)
 obtain⟨d,rfl,q⟩:=q1
 cases r1
 exact wpAny_truthy_bool ⟨H1,I1,q⟩
variable {tA tB':TT} {rest:List Expr}
def ql(t u:TT):TT:=fun σ H Q=>t σ H fun c H1=>if c=true then u σ H1 Q else Q false H1
def qU(t u:TT):TT:=fun σ H Q=>t σ H fun c H1=>if c=true then Q true H1 else u σ H1 Q
def vB(t:TT):TT:=fun σ H Q=>t σ H fun c H1=>Q (!c) H1
theorem gR(ha:PT X a tA):PW X (.BoolOp .And [a] pos) tA:=by
 intro wh pins s σ H Q I h
 refine isTrue_and (ay (ha pins s σ H Q I h) fun c s1 e=>?_)
 cases c with
 | true=>exact isTrue_and_nil e
 | false=>exact e
theorem dM(ha:PT X a tA):PW X (.BoolOp .Or [a] pos) tA:=by
 intro wh pins s σ H Q I h
 refine isTrue_or (ay (ha pins s σ H Q I h) fun c s1 e=>?_)
 cases c with
 | false=>exact isTrue_or_nil e
 | true=>exact e
theorem gm(ha:PT X a tA)(hb:PW X (.BoolOp .And (b::rest) pos) tB'):PW X (.BoolOp .And (a::b::rest) pos) (ql tA tB'):=by
 intro wh pins s σ H Q I h
 refine isTrue_and (ay (ha pins s σ H _ I h) fun c s1 ⟨H1,I1,q1⟩=>?_)
 cases c with
 | true=>exact hb wh pins s1 σ H1 Q I1 q1
 | false=>exact⟨H1,I1,q1⟩
theorem dC(ha:PT X a tA)(hb:PW X (.BoolOp .Or (b::rest) pos) tB'):PW X (.BoolOp .Or (a::b::rest) pos) (qU tA tB'):=by
 intro wh pins s σ H Q I h
 refine isTrue_or (ay (ha pins s σ H _ I h) fun c s1 ⟨H1,I1,q1⟩=>?_)
 cases c with
 | true=>exact⟨H1,I1,q1⟩
 | false=>exact hb wh pins s1 σ H1 Q I1 q1
theorem eU(ha:PT X a tA):PT X (.UnaryOp .Not a pos) (vB tA):=by
 intro pins s σ H Q I h
 exact isTrue_not (ha pins s σ H (fun c H1=>Q (!c) H1) I h)
def tj(ta tb:TE):TE:=fun σ H Q=>ta σ H fun x H1=>∃c,x=.bl c/\if c=true then tb σ H1 Q else Q (.bl false) H1
def o7(ta tb:TE):TE:=fun σ H Q=>ta σ H fun x H1=>∃c,x=.bl c/\if c=true then Q (.bl true) H1 else tb σ H1 Q
def sC(ta:TE):TE:=fun σ H Q=>ta σ H fun x H1=>∃c,x=.bl c/\Q (.bl (!c)) H1
theorem eB{op}{t:TE}(h:PE X a t):PE X (.BoolOp op [a] pos) t:=fun pins s σ H Q I hw=>BoolOp_one (h pins s σ H Q I hw)
theorem eM(ha:PE X a ta)(hb:PE X (.BoolOp .And (b::rest) pos) tb):PE X (.BoolOp .And (a::b::rest) pos) (tj ta tb):=by
 intro pins s σ H Q I h
 refine BoolOp_and (ay (ha pins s σ H _ I h) fun v s1 ⟨x,H1,I1,r1,q1⟩=>?_)
 obtain⟨c,rfl,q1⟩:=q1
 cases r1
 refine wpAny_truthy_bool ?_
 cases c with
 | true=>exact hb pins s1 σ H1 Q I1 q1
 | false=>exact⟨.bl false,H1,I1,rfl,q1⟩
theorem t9(ha:PE X a ta)(hb:PE X (.BoolOp .Or (b::rest) pos) tb):PE X (.BoolOp .Or (a::b::rest) pos) (o7 ta tb):=by
 intro pins s σ H Q I h
 refine BoolOp_or (ay (ha pins s σ H _ I h) fun v s1 ⟨x,H1,I1,r1,q1⟩=>?_)
 obtain⟨c,rfl,q1⟩:=q1
 cases r1
 refine wpAny_truthy_bool ?_
 cases c with
 | false=>exact hb pins s1 σ H1 Q I1 q1
 | true=>exact⟨.bl true,H1,I1,rfl,q1⟩
theorem uH(ha:PE X a ta):PE X (.UnaryOp .Not a pos) (sC ta):=by
 intro pins s σ H Q I h
 refine UnaryOp_ (ay (ha pins s σ H _ I h) fun v s1 ⟨x,H1,I1,r1,q1⟩=>?_)
 obtain⟨c,rfl,q1⟩:=q1
 cases r1
 exact not_of (wpAny_truthy_bool ⟨.bl (!c),H1,I1,rfl,q1⟩)
end
end L2
namespace L2
open PySem PySem.Spec PyProof.Rows
def ag(K:DS)(H:Hp)(a:Addr)(xs:List V):Prop:=
 Rd H a (.lst xs) ∨
  ∃(o:Obj) (its:Array Value) (n:Nat),K.lookup a=some o/\o.cls=.type "list"/\o.dict=none/\o.data=.seq its n/\its.size<=sizeLine/\Vals xs its.toList
def ah(K:DS)(H:Hp)(a:Addr)(xs:List V):Prop:=
 Rd H a (.tup xs) ∨
  ∃(o:Obj) (its:Array Value) (n:Nat),K.lookup a=some o/\o.cls=.type "tuple"/\o.data=.seq its n/\its.size<=sizeLine/\Vals xs its.toList
def xY:Value->Option V
 | .none=>some .non
 | .bool b=>some (.bl b)
 | .int i _=>some (.int i)
 | .str x _=>some (.str x)
 | .bytes b _=>some (.byt b)
 | .float b _=>some (.flt b)
 | .ref a=>some (.ref a)
 | .type n=>some (.ty n)
 | _=>none
theorem RelV.abs{x:V}{u:Value}(r:RelV x u):xY u=some x:=by
 cases x with
 | non=>cases r;rfl
 | bl _=>cases r;rfl
 | int _=>obtain⟨t,rfl⟩:=r;rfl
 | str _=>obtain⟨t,rfl⟩:=r;rfl
 | byt _=>obtain⟨t,rfl⟩:=r;rfl
 | flt _=>obtain⟨t,rfl⟩:=r;rfl
 | ref _=>cases r;rfl
 | ty _=>cases r;rfl
theorem RelV.inj{x y:V}{u:Value}(r:RelV x u)(q:RelV y u):x=y:=Option.some.inj (r.abs.symm.trans q.abs)
theorem Vals.inj:∀{xs ys:List V} {us:List Value},Vals xs us->Vals ys us->xs=ys
 | _,_,_,.nil,.nil=>rfl
 | _,_,_,.cons r t,.cons r' t'=>by rw[r.inj r',Vals.inj t t']
section
variable {X:Cx} {pins:List (Addr×Obj)} {σ:St} {H:Hp} {s:Shared} {a:Addr} {xs ys:List V}
theorem ag.of{K:DS}(h:H a=some (.lst xs)):ag K H a xs:=.inl (.inl h)
theorem ah.of{K:DS}(h:H a=some (.tup xs)):ah K H a xs:=.inl (.inl h)
theorem Inv.list(I:Inv X pins σ H s)(h:ag X.K H a xs):∃its:List Value,Vals xs its/\PlainL s.heap a its.toArray/\xs.length<=sizeLine:=by
 rcases h with h | ⟨o,its,n,hk,hc,hd,hs,hz,r⟩
 ·obtain⟨z,its,n,r,e⟩:=h.ok I.hok
  exact⟨its,r,⟨_,n,e,rfl,rfl,rfl⟩,z⟩
 ·refine⟨its.toList,r,⟨o,n,I.kIn a o hk,hc,hd,by simpa using hs⟩,?_⟩
  have e:=r.length
  simp only[Ea]at e
  omega
theorem Inv.tuple(I:Inv X pins σ H s)(h:ah X.K H a xs):∃its:List Value,Vals xs its/\IsTup s.heap a its.toArray/\xs.length<=sizeLine:=by
 rcases h with h | ⟨o,its,n,hk,hc,hs,hz,r⟩
 ·obtain⟨z,its,r,p⟩:=h.ok I.hok
  exact⟨its,r,p,z⟩
 ·refine⟨its.toList,r,⟨o,I.kIn a o hk,hc,n,by simpa using hs⟩,?_⟩
  have e:=r.length
  simp only[Ea]at e
  omega
theorem Inv.list_inj(I:Inv X pins σ H s)(h:ag X.K H a xs)(h':ag X.K H a ys):xs=ys:=by
 obtain⟨its,r,⟨o,n,e,_,_,d⟩,_⟩:=I.list h
 obtain⟨its',r',⟨o',n',e',_,_,d'⟩,_⟩:=I.list h'
 rw[e]at e';cases e'
 rw[d]at d'
 injection d' with d1 _
 have:its=its':=by simpa using congrArg Array.toList d1
 subst this
 exact r.inj r'
theorem Inv.tuple_inj(I:Inv X pins σ H s)(h:ah X.K H a xs)(h':ah X.K H a ys):xs=ys:=by
 obtain⟨its,r,⟨o,e,_,n,d⟩,_⟩:=I.tuple h
 obtain⟨its',r',⟨o',e',_,n',d'⟩,_⟩:=I.tuple h'
 rw[e]at e';cases e'
 rw[d]at d'
 injection d' with d1 _
 have:its=its':=by simpa using congrArg Array.toList d1
 subst this
 exact r.inj r'
end
abbrev Cx.wish(X:Cx)(E:Value->Shared->Prop):Cx:={ X with xe:=E }
abbrev Cx.nox(X:Cx):Cx:=X.wish fun _ _=>False
theorem Cx.Ok.wish{X:Cx}(ok:X.Ok)(E:Value->Shared->Prop):(X.wish E).Ok:=
 ⟨ok.mod,ok.kind,ok.glob,ok.blt,ok.above,ok.inj,ok.has,ok.cab,ok.hd,ok.frames,ok.stk,ok.exf,ok.bs,ok.bsz,ok.noex,ok.exfs,ok.funs,ok.frf⟩
theorem Cx.Ok.unwish{X:Cx}{E:Value->Shared->Prop}(ok:(X.wish E).Ok):X.Ok:=
 ⟨ok.mod,ok.kind,ok.glob,ok.blt,ok.above,ok.inj,ok.has,ok.cab,ok.hd,ok.frames,ok.stk,ok.exf,ok.bs,ok.bsz,ok.noex,ok.exfs,ok.funs,ok.frf⟩
section
variable {X:Cx} {pins:List (Addr×Obj)} {σ:St} {H:Hp} {s:Shared} {E:Value->Shared->Prop}
theorem Inv.wish(I:Inv X pins σ H s)(E:Value->Shared->Prop):Inv (X.wish E) pins σ H s:=⟨I.ok.wish E,I.os,I.bare,I.base,I.loc,I.cell,I.free,I.freeC,I.pin,I.hok,I.len⟩
theorem Inv.unwish(I:Inv (X.wish E) pins σ H s):Inv X pins σ H s:=⟨I.ok.unwish,I.os,I.bare,I.base,I.loc,I.cell,I.free,I.freeC,I.pin,I.hok,I.len⟩
theorem SP.unwish{D:Ends}{f:Flow}{s':Shared}(h:SP (X.wish E) pins D f s'):SP X pins D f s':=by
 cases f with
 | next=>obtain⟨σ',H',I,q⟩:=h;exact⟨σ',H',I.unwish,q⟩
 | brk=>obtain⟨σ',H',I,q⟩:=h;exact⟨σ',H',I.unwish,q⟩
 | cont=>obtain⟨σ',H',I,q⟩:=h;exact⟨σ',H',I.unwish,q⟩
 | ret u=>obtain⟨v,σ',H',I,r,q⟩:=h;exact⟨v,σ',H',I.unwish,r,q⟩
theorem cq.nox{st:List Stmt}{t:TS}(h:cq X.nox st t):cq X st t:=fun pins s σ H D I hw=>
 wpAny_mono (h pins s σ H D (I.wish _) hw) (fun _ _ q=>q.unwish) fun _ _ z=>False.elim z
end
section
variable {X:Cx} {st:Stmt} {rest:List Stmt} {t u:TS} {e:Expr} {te:TE} {pos:Pos}
def xc:TS:=fun D σ H=>D.nx σ H
def tT(t u:TS):TS:=fun D σ H=>t { D with nx:=u D } σ H
theorem bf:cq X [] xc:=fun _ _ σ H _ I h=>wpAny_execs_nil ⟨σ,H,I,h⟩
theorem aj(h1:PS X st t)(h2:cq X rest u):cq X (st::rest) (tT t u):=by
 intro pins s σ H D I h
 refine wpAny_execs_cons (ay (h1 pins s σ H { D with nx:=u D } I h) fun f s1 q=>?_)
 cases f with
 | next=>
  obtain⟨σ',H',I',q⟩:=q
  exact h2 pins s1 σ' H' D I' q
 | ret v=>exact q
 | brk=>exact q
 | cont=>exact q
theorem av(h1:PS X st t):cq X [st] t:=by
 intro pins s σ H D I h
 refine wpAny_execs_cons (ay (h1 pins s σ H D I h) fun f s1 q=>?_)
 cases f with
 | next=>exact wpAny_execs_nil q
 | ret v=>exact q
 | brk=>exact q
 | cont=>exact q
theorem Inv.quiet{pins:List (Addr×Obj)}{σ:St}{H:Hp}{s:Shared}(I:Inv X pins σ H s):interactive X.env=false:=by simp[interactive,I.ok.kind]
def vP(te:TE):TS:=fun D σ H=>te σ H fun _ H1=>D.nx σ H1
theorem bh(he:PE X e te)(hs:swapsWith e none pos.line X.env=pure false:=by rfl):PS X (.Expr e pos) (vP te):=by
 intro pins s σ H D I h
 exact wpAny_Expr_any (ay (he pins s σ H _ I h) fun v s1 ⟨x,H1,I1,r1,q1⟩=>⟨σ,H1,I1,q1⟩) I.quiet hs
def rR(te:TE):TS:=fun D σ H=>te σ H D.rt
theorem aF(he:PE X e te):PS X (.Return (some e) pos) (rR te):=by
 intro pins s σ H D I h
 exact wpAny_Return_some (ay (he pins s σ H _ I h) fun v s1 ⟨x,H1,I1,r1,q1⟩=>⟨x,σ,H1,I1,r1,q1⟩)
def pO(c:TT)(t u:TS):TS:=fun D σ H=>c σ H fun b H1=>if b=true then t D σ H1 else u D σ H1
theorem bU{c:Expr}{a b:List Stmt}{tc:TT}(hc:PT X c tc)(ha:cq X a t)(hb:cq X b u):PS X (.If c a b pos) (pO tc t u):=by
 intro pins s σ H D I h
 refine wpAny_If (ay (hc pins s σ H _ I h) fun d s1 ⟨H1,I1,q1⟩=>?_)
 cases d with
 | true=>exact ha pins s1 σ H1 D I1 q1
 | false=>exact hb pins s1 σ H1 D I1 q1
def yW:TS:=fun _ _ _=>False
theorem nQ:PS X st yW:=fun _ _ _ _ _ _ h=>h.elim
end
abbrev TG:=V->St->Hp->(St->Hp->Prop)->Prop
abbrev eQ:=List V->St->Hp->(St->Hp->Prop)->Prop
def PG(X:Cx)(target:Expr)(t:TG):Prop:=
 ∀(pins:List (Addr×Obj)) (s:Shared) (σ:St) (H:Hp) (v:V) (u:Value) (Q:St->Hp->Prop),Inv X pins σ H s->RelV v u->t v σ H Q →
  wpAny (model X.prog X.w) X.A (assign target X.env u) (fun _ s'=>∃σ' H',Inv X pins σ' H' s'/\Q σ' H') X.xe s
def iM(X:Cx)(ts:List Expr)(t:eQ):Prop:=
 ∀(pins:List (Addr×Obj)) (s:Shared) (σ:St) (H:Hp) (vs:List V) (us:List Value) (Q:St->Hp->Prop),Inv X pins σ H s->Vals vs us->t vs σ H Q →
  wpAny (model X.prog X.w) X.A (assignInOrder ((assignEach ts X.env).map (·.2)) us) (fun _ s'=>∃σ' H',Inv X pins σ' H' s'/\Q σ' H') X.xe s
abbrev ju:=V->V->V->Hp->(Hp->Prop)->Prop
def uN(X:Cx)(t:ju):Prop:=
 ∀(pins:List (Addr×Obj)) (s:Shared) (σ:St) (H:Hp) (o i v:V) (ov iv u:Value) (Q:Hp->Prop),Inv X pins σ H s->RelV o ov->RelV i iv->RelV v u->t o i v H Q →
  wpAny (model X.prog X.w) X.A (setItem ov iv u) (fun _ s'=>∃H',Inv X pins σ H' s'/\Q H') X.xe s
abbrev iQ:=V->V->Hp->VK->Prop
def mH(X:Cx)(op:Operator)(t:iQ):Prop:=
 ∀(pins:List (Addr×Obj)) (s:Shared) (σ:St) (H:Hp) (x y:V) (v u:Value) (Q:VK),Inv X pins σ H s->RelV x v->RelV y u->t x y H Q →
  wpAny (model X.prog X.w) X.A (inplaceOp op v u) (EP X pins σ Q) X.xe s
section
variable {X:Cx} {pos:Pos}
def ie(i:Nat):TG:=fun v σ H Q=>Q (σ.set i (some v)) H
theorem aO{i:Nat}{x:Str}(hN:X.N.Nodup)(hi:X.N[i]?=some x)(hx:Loc X.env.scope x)(hf:X.fn x=true\/X.env.scope.names.lookup x=some .local:=by first | exact .inl rfl | exact .inr rfl | assumption):PG X (.Name x pos) (ie i):=by
 intro pins s σ H v u Q I r h
 exact wpAny_assign_Name (nj I hN hi hx r (fun s' I'=>⟨_,H,I',h⟩) hf)
def uk:eQ:=fun vs σ H Q=>vs=[]/\Q σ H
def vw(t:TG)(u:eQ):eQ:=fun vs σ H Q=>∃v r,vs=v::r/\t v σ H fun σ' H'=>u r σ' H' Q
theorem fi:iM X [] uk:=by
 intro pins s σ H vs us Q I r h
 obtain⟨e,h⟩:=h
 subst e
 cases r
 exact assignInOrder_nil ⟨σ,H,I,h⟩
theorem bG{e:Expr}{es:List Expr}{t:TG}{u:eQ}(h1:PG X e t)(h2:iM X es u)
  (hs:(assignEach (e::es) X.env).map (·.2)=assign e X.env::(assignEach es X.env).map (·.2):=by rfl):iM X (e::es) (vw t u):=by
 intro pins s σ H vs us Q I r h
 obtain⟨v,vr,e1,h⟩:=h
 subst e1
 cases r with
 | cons r rr=>
  rw[hs]
  refine assignInOrder_cons (ay (h1 pins s σ H _ _ _ I r h) fun _ s1 ⟨σ1,H1,I1,q1⟩=>?_)
  exact h2 pins s1 σ1 H1 _ _ Q I1 rr q1
def nE(K:DS)(n:Nat)(t:eQ):TG:=fun v σ H Q=>∃a xs,v=.ref a/\ah K H a xs/\xs.length=n/\t xs σ H Q
theorem Al{es:List Expr}{k:Nat}{t:eQ}{n:Nat}(hc:X.calm=true)(h:iM X es t)
  (hn:(assignEach es X.env).length=n:=by rfl) (hst:(assignEach es X.env).findIdx? (·.1)=none:=by rfl):PG X (.Tuple es k pos) (nE X.K n t):=by
 intro pins s σ H v u Q I r hw
 obtain⟨a,xs,e1,hq,hl,hw⟩:=hw
 subst e1
 cases r
 obtain⟨its,rv,ht,hz⟩:=I.tuple hq
 refine assign_Tuple_tuple (I.ok.hd hc) ht (by simp[hn,←hl,rv.length]) hst fun h' hx=>?_
 have I1:Inv X pins σ H { s with heap:=h' }:=I.kept (t':=s.toks) fun b o e=>hx b o (Eo (DV e)) e
 exact h pins _ σ H xs _ Q I1 (by simpa using rv) hw
def sy(to ti:TE)(t:ju):TG:=fun v σ H Q=>to σ H fun o H1=>ti σ H1 fun i H2=>t o i v H2 fun H3=>Q σ H3
theorem iF{o i:Expr}{to ti:TE}{t:ju}(ho:PE X o to)(hi:PE X i ti)(hs:uN X t)
  (ha:∀v,assign (.Subscript o i pos) X.env v=(do
   let ov ←holding [v] (eval o X.env)
   let iv ←holding [v,ov] (eval i X.env)
   standAt pos
   holding [v,ov,iv] (setItem ov iv v)
   release [v,ov,iv] []):=by intro _;rfl):PG X (.Subscript o i pos) (sy to ti t):=by
 intro pins s σ H v u Q I r h
 rw[ha]
 refine DQ (wpAny_holding (ay (ho pins s σ H _ I h) fun ov s1 ⟨x,H1,I1,r1,q1⟩=>?_))
 refine DQ (wpAny_holding (ay (hi pins s1 σ H1 _ I1 q1) fun iv s2 ⟨y,H2,I2,r2,q2⟩=>?_))
 refine DQ (wpAny_standAt (DQ (wpAny_holding (ay (hs pins s2 σ H2 x y v ov iv u _ I2 r1 r2 r q2) fun _ s3 ⟨H3,I3,q3⟩=>?_))))
 exact wpAny_release ⟨σ,H3,I3,q3⟩
def jl(te:TE)(g:TG):TS:=fun D σ H=>te σ H fun x H1=>g x σ H1 D.nx
theorem gX{tg e:Expr}{te:TE}{g:TG}(he:PE X e te)(hg:PG X tg g)(hs:swapsWithSole [tg] e pos.line X.env=pure false:=by rfl)(hw:swappedStores [tg] e X.env=pure none:=by rfl)
  (h1:(assignEach [tg] X.env).map (·.2)=[assign tg X.env]:=by rfl):PS X (.Assign [tg] e pos) (jl te g):=by
 intro pins s σ H D I h
 refine wpAny_Assign_stores (ay (he pins s σ H _ I h) fun v s1 ⟨x,H1,I1,r1,q1⟩=>?_) hs hw
 rw[h1]
 exact ay (hg pins s1 σ H1 x v _ I1 r1 q1) fun _ s2 q=>q
theorem aG{i:Nat}{x:Str}{e:Expr}{te:TE}{pos':Pos}(hN:X.N.Nodup)(hi:X.N[i]?=some x)(hx:Loc X.env.scope x)(he:PE X e te)(hs:swapsWith e (some (.Name x pos')) pos.line X.env=pure false:=by rfl)(hf:X.fn x=true\/X.env.scope.names.lookup x=some .local:=by first | exact .inl rfl | exact .inr rfl | assumption):
  PS X (.Assign [.Name x pos'] e pos) (jl te (ie i)):=by
 intro pins s σ H D I h
 refine wpAny_Assign_Name (ay (he pins s σ H _ I h) fun v s1 ⟨y,H1,I1,r1,q1⟩=>?_) hs
 exact nj I1 hN hi hx r1 (fun s2 I2=>⟨_,H1,I2,q1⟩) hf
def oY(i:Nat)(te:TE)(ti:iQ):TS:=fun D σ H=>∃x,σ[i]?=some (some x)/\te σ H fun y H1=>ti x y H1 fun z H2=>D.nx (σ.set i (some z)) H2
theorem jv{i:Nat}{x:Str}{e:Expr}{te:TE}{op:Operator}{ti:iQ}{pos':Pos}(hN:X.N.Nodup)(hi:X.N[i]?=some x)(hx:Loc X.env.scope x)(he:PE X e te)(ho:mH X op ti)(hf:X.fn x=true\/X.env.scope.names.lookup x=some .local:=by first | exact .inl rfl | exact .inr rfl | assumption):
  PS X (.AugAssign (.Name x pos') op e pos) (oY i te ti):=by
 intro pins s σ H D I h
 obtain⟨v,e1,h⟩:=h
 obtain⟨m,hn,hl⟩:=I.loc
 have vis:ke X.env.scope x:=by rcases hx with k | k;exact .inl k;exact .inr (.inl k)
 obtain⟨u,r,l⟩:=hl i x v hi e1 vis
 refine wpAny_AugAssign_Name ?_
 have go:wpAny (model X.prog X.w) X.A (eval e X.env) (fun w s₂=>wpAny (model X.prog X.w) X.A (inplaceOp op u w) (fun r s₃=>wpAny (model X.prog X.w) X.A (storeName X.env x r) (fun _=>SP X pins D .next) X.xe s₃) X.xe s₂) X.xe s:=by
  refine ay (he pins s σ H _ I h) fun w s1 ⟨y,H1,I1,r1,q1⟩=>?_
  refine ay (ho pins s1 σ H1 v y u w _ I1 r r1 q1) fun z s2 ⟨zv,H2,I2,r2,q2⟩=>?_
  exact nj I2 hN hi hx r2 (fun s3 I3=>⟨_,H2,I3,q2⟩) hf
 rcases l with⟨hk,hm⟩ | ⟨hk,c,hc,hcell⟩
 ·exact wpAny_loadName_local I.ok.kind hk hn hm go
 ·rcases hk with hk | hk
  ·exact wpAny_loadName_cell I.ok.kind hk hc hcell go
  ·rcases hx with k | k
   ·have:X.env.scope.names.lookup x=some .free:=hk
    rw[k]at this;cases this
   ·have:X.env.scope.names.lookup x=some .free:=hk
    rw[k]at this;cases this
def oF(f:Int->Int->Int):iQ:=fun x y H Q=>∃i j,x=.int i/\y=.int j/\Q (.int (f i j)) H
theorem oA:mH X .Add (oF fun i j=>i+j):=by
 intro pins s σ H x y v u Q I r1 r2 h
 obtain⟨i,j,e1,e2,q⟩:=h
 subst e1;subst e2
 obtain⟨t,rfl⟩:=r1
 obtain⟨t',rfl⟩:=r2
 exact iadd_int ⟨.int _,H,I.tok _,⟨_,rfl⟩,q⟩
theorem yS:mH X .Sub (oF fun i j=>i-j):=by
 intro pins s σ H x y v u Q I r1 r2 h
 obtain⟨i,j,e1,e2,q⟩:=h
 subst e1;subst e2
 obtain⟨t,rfl⟩:=r1
 obtain⟨t',rfl⟩:=r2
 exact isub_int ⟨.int _,H,I.tok _,⟨_,rfl⟩,q⟩
end
section
variable {X:Cx} {pos:Pos}
def Bw(c:TT)(tb:TS):TS:=fun D σ H=>∃W:Nat->St->Hp->Prop,(∃m,W m σ H)/\∀m σ H,W m σ H →
 c σ H fun b H1=>if b=true then ∃N:St->Hp->Prop,(∀σ' H',N σ' H'->∃m',m'<m/\W m' σ' H')/\tb { D with nx:=N,ct:=N,bk:=D.nx } σ H1 else D.nx σ H1
theorem y8{c:Expr}{body:List Stmt}{tc:TT}{tb:TS}(hp:PassesOwn (model X.prog X.w) X.A X.env X.xe)(hc:PT X c tc)(hb:cq X body tb):PS X (.While c body [] pos) (Bw tc tb):=by
 intro pins s σ H D I h
 obtain⟨W,⟨m0,w0⟩,turn⟩:=h
 refine wpAny_While (codeAny_whileLoop (fun n s'=>∃σ' H',Inv X pins σ' H' s'/\W n σ' H') ?_ m0 ⟨σ,H,I,w0⟩)
 rintro n s1 ⟨σ1,H1,I1,w1⟩
 refine wpAny_passesOwn hp (ay (hc pins s1 σ1 H1 _ I1 (turn n σ1 H1 w1)) fun b s2 ⟨H2,I2,q2⟩=>?_)
 cases b with
 | true=>
  obtain⟨N,hN,q2⟩:=q2
  rw[if_pos rfl]
  refine wpAny_passesOwn hp (ay (hb pins s2 σ1 H2 _ I2 q2) fun f s3 q3=>?_)
  cases f with
  | next=>
   obtain⟨σ3,H3,I3,n3⟩:=q3
   obtain⟨m',hm,w3⟩:=hN σ3 H3 n3
   exact⟨m',hm,σ3,H3,I3,w3⟩
  | cont=>
   obtain⟨σ3,H3,I3,n3⟩:=q3
   obtain⟨m',hm,w3⟩:=hN σ3 H3 n3
   exact⟨m',hm,σ3,H3,I3,w3⟩
  | brk=>exact q3
  | ret v=>exact q3
 | false=>
  rw[if_neg El]
  exact wpAny_execs_nil ⟨σ1,H2,I2,q2⟩
end
structure It where
 go:Nat->Hp->Prop
 yld:Nat->Hp->V->Hp->Prop
 stop:Nat->Hp->Prop
def cG(X:Cx)(pins:List (Addr×Obj))(H:Hp)(b:Addr):Prop:=
 H b=none/\b≠X.env.locals/\b∉X.fs/\(b∈X.ex\/X.s₀.heap.objs.size<=b)/\(∀x c,X.env.cells.lookup x=some c->c≠b)/\∀p∈X.pn++pins,p.1≠b
theorem Inv.fpOk{X:Cx}{pins:List (Addr×Obj)}{σ:St}{H H':Hp}{s:Shared}{b:Addr}(I:Inv X pins σ H s)(hb:s.heap.objs.size<=b)(hn:H' b=none):cG X pins H' b:=by
 refine⟨hn,Nat.ne_of_gt (ED I.lt hb),I.nofs hb,.inr (EE I.sz hb),fun x c e z=>?_,fun p hp z=>?_⟩
 ·obtain⟨v,q⟩:=I.cell x c e
  exact absurd (ED q.lt (by rw[z];exact hb)) (Nat.lt_irrefl _)
 ·exact absurd (ED (DV (I.pin p hp).1) (by rw[z];exact hb)) (Nat.lt_irrefl _)
structure Turn(P:Program)(w:World)(K:DS)(tg:Expr)(J:It)(fp:List Addr)(it:Addr)(tn:Nat->Heap->Prop):Prop where
 mem:it∈fp
 obj:∀i h,tn i h->∀b∈fp,∃o,h.get? b=some o/\∀v,o.data≠.cell v
 keep:∀i h h',tn i h->(∀b∈fp,∀o,h.get? b=some o->h'.get? b=some o)->tn i h'
 item:∀(X:Cx),X.prog=P->X.w=w->X.K=K->X.calm=true->∀(i:Nat) (pins:List (Addr×Obj)) (s:Shared) (σ:St) (H:Hp) (E:Value->Shared->Prop),Inv X pins σ H s->(∀b∈fp,cG X pins H b)->tn i s.heap->J.go i H →
  wpAny (model P w) X.A (pyNext (.ref it)) (fun r s1=>∃u,r=some u ∧
   wpAny (model P w) X.A (letOwnedTupleGo tg (.ref it) u) (fun _ s2=>∃x H',Inv X pins σ H' s2/\RelV x u/\J.yld i H x H'/\tn (i+1) s2.heap/\∀b∈fp,H' b=none) E s1) E s
 done:∀(X:Cx),X.prog=P->X.w=w->X.K=K->X.calm=true->∀(i:Nat) (pins:List (Addr×Obj)) (s:Shared) (σ:St) (H:Hp) (E:Value->Shared->Prop),Inv X pins σ H s->(∀b∈fp,cG X pins H b)->tn i s.heap->J.stop i H →
  wpAny (model P w) X.A (pyNext (.ref it)) (fun r s1=>r=none/\Inv X pins σ H s1) E s
 self:∀(A:Around) (i:Nat) (s:Shared) (Q:Value->Shared->Prop) (E:Value->Shared->Prop),tn i s.heap->Q (.ref it) s->wpAny (model P w) A (pyIter (.ref it)) Q E s
abbrev TI:=St->Hp->(It->Hp->Prop)->Prop
def uX(X:Cx)(pins:List (Addr×Obj))(σ:St)(tg:Expr)(R:It->Hp->Prop)(itv:Value)(s2:Shared):Prop:=
 ∃(it:Addr) (fp:List Addr) (tn:Nat->Heap->Prop) (J:It) (H':Hp),itv=.ref it/\Inv X pins σ H' s2/\Turn X.prog X.w X.K tg J fp it tn/\tn 0 s2.heap/\(∀b∈fp,cG X pins H' b)/\R J H'
def PI(X:Cx)(tg iter:Expr)(wi:TI):Prop:=
 ∀(pins:List (Addr×Obj)) (s:Shared) (σ:St) (H:Hp) (R:It->Hp->Prop),Inv X pins σ H s->wi σ H R →
  wpAny (model X.prog X.w) X.A (eval iter X.env) (fun v s1=>wpAny (model X.prog X.w) X.A (pyIter v) (uX X pins σ tg R) X.xe s1) X.xe s
theorem ng {M : Model} {A : Around} {E : Value → Shared → Prop} {s : Shared} {tg : Expr} {it : Addr} {u : Value} {o : Obj} {n : String} {vs : Array Value} {Q : Unit → Shared → Prop} (ho : s.heap.get? it = some o) (hc : o.cls = .type n) (hd : o.data = .fields vs)
    (hn : ["enumerate", "zip", "dict_itemiterator", "dict_reverseitemiterator", "odict_iterator", "itertools.zip_longest", "itertools.pairwise"].contains n = false) (hQ : Q () s) : wpAny M A (letOwnedTupleGo tg (.ref it) u) Q E s := by
  unfold letOwnedTupleGo
  cases tg <;> first
    | exact DR hQ
    | (cases u <;> first
        | exact DR hQ
        | (refine DQ (wpAny_load ho ?_)
           rw [hc, hd]
           show wpAny M A (if (["enumerate", "zip", "dict_itemiterator", "dict_reverseitemiterator", "odict_iterator", "itertools.zip_longest", "itertools.pairwise"].contains n && vs[0]? == some (rawInt _)) = true then _ else _) Q E s
           rw [if_neg (by intro h; rw [hn, Bool.false_and] at h; cases h)]
           exact DR hQ))
def fA(K:DS)(a:Addr):It:=
 ⟨fun i H=>∃xs x,ag K H a xs/\xs[i]?=some x,fun i H x H'=>H'=H/\∀xs,ag K H a xs->xs[i]?=some x,fun i H=>∃xs,ag K H a xs/\xs.length<=i⟩
def dA(K:DS)(a:Addr):It:=
 ⟨fun i H=>∃xs x,ah K H a xs/\xs[i]?=some x,fun i H x H'=>H'=H/\∀xs,ah K H a xs->xs[i]?=some x,fun i H=>∃xs,ah K H a xs/\xs.length<=i⟩
def dh(lo:Int)(n:Nat):It:=⟨fun i _=>i<n,fun i H x H'=>H'=H/\x=.int (lo+i),fun i _=>n<=i⟩
theorem BW{P:Program}{w:World}{K:DS}{tg:Expr}(a it:Addr):Turn P w K tg (fA K a) [it] it (fun i h=>h.IsListIter it a i) where
 mem:=by simp
 obj:=fun i h st b hb=>by
  have e:b=it:=by simpa using hb
  subst e
  obtain⟨o,e,c,d⟩:=st
  exact⟨o,e,fun v z=>by rw[d]at z;cases z⟩
 keep:=fun i h h' st k=>st.at fun o e=>k it (by simp) o e
 item:=by
  intro X hP hw hK hc i pins s σ H E I hf st hg
  subst hP hw hK
  obtain⟨xs,x,hq,hx⟩:=hg
  obtain⟨its,rv,p,hz⟩:=I.list hq
  obtain⟨u,hu,ru⟩:=rv.get hx
  obtain⟨f0,f1,f2,f3,f4,f5⟩:=hf it (by simp)
  refine wpAny_pyNext_list_item st p.isList (x:=u) (by simpa using hu) fun h' st' sb=>?_
  have I1:Inv X pins σ H { s with heap:=h' }:=I.turned (t':=s.toks) (fun b o hb e=>(sb.2 b hb).trans e) f0 f1 f3 f4 f5
  obtain⟨o,e,c,d⟩:=id st'
  exact⟨u,rfl,ng (s:={ s with heap:=h' }) e c d (by decide) ⟨x,H,I1,ru,⟨rfl,fun ys hy=>by rw[I.list_inj hy hq];exact hx⟩,st',fun b hb=>(hf b hb).1⟩⟩
 done:=by
  intro X hP hw hK hc i pins s σ H E I hf st hg
  subst hP hw hK
  obtain⟨xs,hq,hx⟩:=hg
  obtain⟨its,rv,p,hz⟩:=I.list hq
  obtain⟨f0,f1,f2,f3,f4,f5⟩:=hf it (by simp)
  have hl:=rv.length
  exact wpAny_pyNext_list_end (I.ok.hd hc) st p.isList (by simp;omega) fun h' eb=>⟨rfl,I.turned (t':=s.toks) (fun b o hb e=>eb b o hb e) f0 f1 f3 f4 f5⟩
 self:=fun _ _ _ _ _ st h=>wpAny_pyIter_listiter st h
theorem xN{P:Program}{w:World}{K:DS}{tg:Expr}(a it:Addr):Turn P w K tg (dA K a) [it] it (fun i h=>h.IsTupleIter it a i) where
 mem:=by simp
 obj:=fun i h st b hb=>by
  have e:b=it:=by simpa using hb
  subst e
  obtain⟨o,e,c,d⟩:=st
  exact⟨o,e,fun v z=>by rw[d]at z;cases z⟩
 keep:=fun i h h' st k=>st.at fun o e=>k it (by simp) o e
 item:=by
  intro X hP hw hK hc i pins s σ H E I hf st hg
  subst hP hw hK
  obtain⟨xs,x,hq,hx⟩:=hg
  obtain⟨its,rv,p,hz⟩:=I.tuple hq
  obtain⟨u,hu,ru⟩:=rv.get hx
  obtain⟨f0,f1,f2,f3,f4,f5⟩:=hf it (by simp)
  refine wpAny_pyNext_tuple_item st (show s.heap.IsTuple a its.toArray from p) (x:=u) (by simpa using hu) fun h' st' sb=>?_
  have I1:Inv X pins σ H { s with heap:=h' }:=I.turned (t':=s.toks) (fun b o hb e=>(sb.2 b hb).trans e) f0 f1 f3 f4 f5
  obtain⟨o,e,c,d⟩:=id st'
  exact⟨u,rfl,ng (s:={ s with heap:=h' }) e c d (by decide) ⟨x,H,I1,ru,⟨rfl,fun ys hy=>by rw[I.tuple_inj hy hq];exact hx⟩,st',fun b hb=>(hf b hb).1⟩⟩
 done:=by
  intro X hP hw hK hc i pins s σ H E I hf st hg
  subst hP hw hK
  obtain⟨xs,hq,hx⟩:=hg
  obtain⟨its,rv,p,hz⟩:=I.tuple hq
  obtain⟨f0,f1,f2,f3,f4,f5⟩:=hf it (by simp)
  have hl:=rv.length
  exact wpAny_pyNext_tuple_end (I.ok.hd hc) st (show s.heap.IsTuple a its.toArray from p) (by simp;omega) fun h' eb=>⟨rfl,I.turned (t':=s.toks) (fun b o hb e=>eb b o hb e) f0 f1 f3 f4 f5⟩
 self:=fun _ _ _ _ _ st h=>wpAny_pyIter_tupleiter st h
theorem Bc{P:Program}{w:World}{K:DS}{tg:Expr}(it:Addr)(lo:Int)(n:Nat):Turn P w K tg (dh lo n) [it] it (fun i h=>IsRangeIter h it (lo+(i:Nat)*1) ((n:Int)-(i:Nat)) 1) where
 mem:=by simp
 obj:=fun i h st b hb=>by
  have e:b=it:=by simpa using hb
  subst e
  exact⟨_,st,fun v z=>by
   have z':Data.fields _=Data.cell v:=z
   cases z'⟩
 keep:=fun i h h' st k=>k it (by simp) _ st
 item:=by
  intro X hP hw hK hc i pins s σ H E I hf st hg
  subst hP hw hK
  obtain⟨f0,f1,f2,f3,f4,f5⟩:=hf it (by simp)
  have W:=Walks.range (prog:=X.prog) (w:=X.w) (I.ok.hd hc) it lo 1 n
  refine W.item i s _ _ hg st fun v h' tk hv st' kk=>?_
  obtain⟨t,rfl⟩:=hv
  have I1:Inv X pins σ H { s with heap:=h',toks:=tk }:=I.turned (fun b o hb e=>kk b o (by simpa using hb) e) f0 f1 f3 f4 f5
  refine⟨_,rfl,ng (s:={ s with heap:=h',toks:=tk }) (n:="range_iterator") st' rfl rfl (by decide) ⟨.int (lo+i),H,I1,⟨t,?_⟩,⟨rfl,rfl⟩,st',fun b hb=>(hf b hb).1⟩⟩
  rw[Int.mul_one]
 done:=by
  intro X hP hw hK hc i pins s σ H E I hf st hg
  subst hP hw hK
  obtain⟨f0,f1,f2,f3,f4,f5⟩:=hf it (by simp)
  exact wpAny_pyNext_range_end (I.ok.hd hc) st (by have:n<=i:=hg;omega) fun h' eb=>⟨rfl,I.turned (t':=s.toks) (fun b o hb e=>eb b o hb e) f0 f1 f3 f4 f5⟩
 self:=fun _ _ _ _ _ st h=>wpAny_pyIter_rangeiter st h
end L2
namespace L2
open PySem PySem.Spec PyProof.Rows
section
variable {X:Cx} {tg:Expr}
def oq(K:DS)(tl:TE):TI:=fun σ H R=>tl σ H fun x H1=>∃a,x=.ref a/\(∃xs,ag K H1 a xs)/\R (fA K a) H1
def m6(K:DS)(tl:TE):TI:=fun σ H R=>tl σ H fun x H1=>∃a,x=.ref a/\(∃xs,ah K H1 a xs)/\R (dA K a) H1
theorem Au{l:Expr}{tl:TE}(hl:PE X l tl):PI X tg l (oq X.K tl):=by
 intro pins s σ H R I h
 refine ay (hl pins s σ H _ I h) fun v s1 ⟨x,H1,I1,r1,q1⟩=>?_
 obtain⟨a,e,⟨xs,hq⟩,q⟩:=q1
 subst e
 cases r1
 obtain⟨its,rv,p,hz⟩:=I1.list hq
 refine wpAny_pyIter_list p.isList ?_
 refine⟨s1.heap.objs.size,[s1.heap.objs.size],_,_,H1,rfl,I1.kept (t':=s1.toks) fun b o e=>DT _ e,BW a _,⟨_,DU _ rfl,rfl,rfl⟩,fun b hb=>?_,q⟩
 have e:b=s1.heap.objs.size:=by simpa using hb
 subst e
 exact I1.fpOk (Ep _) (I1.hok.fresh (Ep _))
theorem xB{l:Expr}{tl:TE}(hl:PE X l tl):PI X tg l (m6 X.K tl):=by
 intro pins s σ H R I h
 refine ay (hl pins s σ H _ I h) fun v s1 ⟨x,H1,I1,r1,q1⟩=>?_
 obtain⟨a,e,⟨xs,hq⟩,q⟩:=q1
 subst e
 cases r1
 obtain⟨its,rv,p,hz⟩:=I1.tuple hq
 refine wpAny_pyIter_tuple (show s1.heap.IsTuple a its.toArray from p) ?_
 refine⟨s1.heap.objs.size,[s1.heap.objs.size],_,_,H1,rfl,I1.kept (t':=s1.toks) fun b o e=>DT _ e,xN a _,⟨_,DU _ rfl,rfl,rfl⟩,fun b hb=>?_,q⟩
 have e:b=s1.heap.objs.size:=by simpa using hb
 subst e
 exact I1.fpOk (Ep _) (I1.hok.fresh (Ep _))
theorem pC{pins:List (Addr×Obj)}{σ:St}{H:Hp}{s:Shared}{R:It->Hp->Prop}{E:Value->Shared->Prop}{lo hi:Int}{t u v:Tok}{tk:Nat}(I:Inv X pins σ H s)(h1:-(2 ^ 62)<=lo)(h2:lo<2 ^ 62)(h3:-(2 ^ 62)<=hi)(h4:hi<2 ^ 62)
  (q:R (dh lo (hi-lo).toNat) H):wpAny (model X.prog X.w) X.A (pyIter (.ref s.heap.objs.size)) (uX X pins σ tg R) E { s with heap:=s.heap.push { cls:=.type "range",data:=.fields #[.int lo t,.int hi u,.int 1 v] },toks:=tk }:=by
 refine wpAny_pyIter_range (IsRange.new ..) (small_one h1 h2 h3 h4) ?_
 have I1:Inv X pins σ H { s with heap:=s.heap.push { cls:=.type "range",data:=.fields #[.int lo t,.int hi u,.int 1 v] },toks:=tk }:=I.kept fun b o e=>DT _ e
 refine⟨(s.heap.push { cls:=.type "range",data:=.fields #[.int lo t,.int hi u,.int 1 v] }).objs.size,[(s.heap.push { cls:=.type "range",data:=.fields #[.int lo t,.int hi u,.int 1 v] }).objs.size],_,_,H,rfl,
  I1.kept (t':=tk) fun b o e=>DT _ e,Bc _ lo (hi-lo).toNat,?_,fun b hb=>?_,q⟩
 ·have e1:lo+((0:Nat):Int)*1=lo:=by simp
  have e2:(((hi-lo).toNat:Nat):Int)-((0:Nat):Int)=Builtin.Range.rangeSize lo hi 1:=by rw[rangeSize_one];split<;>omega
  show IsRangeIter _ _ (lo+((0:Nat):Int)*1) ((((hi-lo).toNat:Nat):Int)-((0:Nat):Int)) 1
  rw[e1,e2]
  exact DU _ rfl
 ·have e:b=(s.heap.push { cls:=.type "range",data:=.fields #[.int lo t,.int hi u,.int 1 v] }).objs.size:=by simpa using hb
  subst e
  exact I1.fpOk (Ep _) (I1.hok.fresh (Ep _))
def wB(ta:TA):TI:=fun σ H R=>ta σ H fun vs H1=>∃j:Int,vs=[.int j]/\-(2 ^ 62)<=j/\j<2 ^ 62/\R (dh 0 j.toNat) H1
def sR(ta:TA):TI:=fun σ H R=>ta σ H fun vs H1=>∃i j:Int,vs=[.int i,.int j]/\(-(2 ^ 62)<=i/\i<2 ^ 62/\-(2 ^ 62)<=j/\j<2 ^ 62)/\R (dh i (j-i).toNat) H1
theorem cX{a:Expr}{ta:TA}{p pos:Pos}(hg:Gl X "range")(hm:X.mg "range" = none)(ha:PA X [a] ta)(hs:starEach [a] X.env=[(false,eval a X.env)]:=by rfl):PI X tg (.Call (.Name "range" p) [a] [] pos) (wB ta):=by
 intro pins s σ H R I h
 refine Call_ (fL I hg hm boot_range (PyProof.Rows.callWith_type1 (ay (ha pos pins s σ H _ I h) fun us s1 ⟨vs,H1,I1,r1,q1⟩=>?_) hs rfl))
 obtain⟨j,e,q1,q2,q⟩:=q1
 subst e
 cases r1 with
 | cons r rr=>
  cases rr
  obtain⟨t,rfl⟩:=r
  exact call_range_1 (pC I1 (by omega) (by omega) q1 q2 (by simpa using q))
theorem zI{a b:Expr}{ta:TA}{p pos:Pos}(hg:Gl X "range")(hm:X.mg "range" = none)(ha:PA X [a,b] ta)(hs:starEach [a,b] X.env=[(false,eval a X.env),(false,eval b X.env)]:=by rfl)(hs2:starEach [b] X.env=[(false,eval b X.env)]:=by rfl):
  PI X tg (.Call (.Name "range" p) [a,b] [] pos) (sR ta):=by
 intro pins s σ H R I h
 refine Call_ (fL I hg hm boot_range (PyProof.Rows.callWith_type1 (ay (ha pos pins s σ H _ I h) fun us s1 ⟨vs,H1,I1,r1,q1⟩=>?_) (by rw[hs,hs2]) (by rw[hs2];rfl)))
 obtain⟨i,j,e,⟨q1,q2,q3,q4⟩,q⟩:=q1
 subst e
 cases r1 with
 | cons r rr=>
  cases rr with
  | cons r' rr=>
   cases rr
   obtain⟨t,rfl⟩:=r
   obtain⟨t',rfl⟩:=r'
   exact call_range_2 (pC I1 q1 q2 q3 q4 q)
def ve(wi:TI)(g:TG)(tb:TS):TS:=fun D σ H=>wi σ H fun J H1=>∃W:Nat->Nat->St->Hp->Prop,(∃m,W 0 m σ H1)/\∀i m σ H,W i m σ H →
 (J.stop i H/\D.nx σ H)\/(J.go i H/\∃N:St->Hp->Prop,(∀σ' H',N σ' H'->∃m',m'<m/\W (i+1) m' σ' H')/\∀x H',J.yld i H x H'->g x σ H' fun σ2 H2=>tb { D with nx:=N,ct:=N,bk:=D.nx } σ2 H2)
def fN(fp:List Addr)(h:Heap):List (Addr×Obj):=fp.filterMap fun b=>(h.get? b).map fun o=>(b,o)
theorem mM{fp:List Addr}{h:Heap}{b:Addr}{o:Obj}(hb:b∈fp)(e:h.get? b=some o):(b,o)∈fN fp h:=List.mem_filterMap.mpr ⟨b,hb,by rw[e];rfl⟩
theorem wU{fp:List Addr}{h:Heap}{p:Addr×Obj}(hp:p∈fN fp h):p.1∈fp/\h.get? p.1=some p.2:=by
 obtain⟨b,hb,e⟩:=List.mem_filterMap.mp hp
 cases q:h.get? b with
 | none=>rw[q]at e;cases e
 | some o=>
  rw[q]at e
  have e':(b,o)=p:=Option.some.inj e
  subst e'
  exact⟨hb,q⟩
theorem Inv.pinned{pins:List (Addr×Obj)}{σ:St}{H:Hp}{s:Shared}{fp:List Addr}(I:Inv X pins σ H s)(hf:∀b∈fp,cG X pins H b)(ho:∀b∈fp,∃o,s.heap.get? b=some o/\∀v,o.data≠.cell v):Inv X (pins++fN fp s.heap) σ H s:=
 I.pins_of fun p hp=>(Ew.mp hp).elim (fun z=>I.pin p (List.mem_append_right _ z)) fun z=>by
  obtain⟨hb,e⟩:=wU z
  obtain⟨f0,f1,f2,_⟩:=hf p.1 hb
  obtain⟨o,e',d⟩:=ho p.1 hb
  rw[e]at e';cases e'
  exact⟨e,f0,f1,f2,d⟩
theorem Inv.unpinned{pins pl:List (Addr×Obj)}{σ:St}{H:Hp}{s:Shared}(I:Inv X (pins++pl) σ H s):Inv X pins σ H s:=I.pins_of fun p hp=>I.pin p (List.mem_append_right _ (List.mem_append_left _ hp))
theorem cj{iter:Expr}{body:List Stmt}{wi:TI}{g:TG}{tb:TS}{pos:Pos}(hp:PassesOwn (model X.prog X.w) X.A X.env X.xe)(hc:X.calm=true)(hi:PI X tg iter wi)(hg:PG X tg g)(hb:cq X body tb)
  (hs:∀x,foldedSetIterable iter X.env x=pure x:=by intro _;rfl):PS X (.For tg iter body [] pos) (ve wi g tb):=by
 intro pins s σ H D I h
 refine wpAny_For (ay (hi pins s σ H _ I h) fun v s1 h1=>ay h1 fun itv s2 h2=>?_) hs
 obtain⟨it,fp,tn,J,H2,e,I2,T,st2,f2,W,⟨m0,w0⟩,turn⟩:=h2
 subst e
 -- what stays true of the iterator's objects through the loop
 have stat:∀{H':Hp},(∀b∈fp,H' b=none)->∀b∈fp,cG X pins H' b:=fun hn b hb=>⟨hn b hb,(f2 b hb).2⟩
 refine codeAny_forLoop_any (fun n s'=>∃i σ' H',Inv X pins σ' H' s'/\tn i s'.heap/\(∀b∈fp,H' b=none)/\W i n σ' H') ?_ m0 ⟨0,σ,H2,I2,st2,fun b hb=>(f2 b hb).1,w0⟩
 rintro n s3 ⟨i,σ3,H3,I3,st3,fr3,w3⟩
 rcases turn i n σ3 H3 w3 with⟨stop,qn⟩ | ⟨go,N,hN,step⟩
 ·refine wpAny_passesOwn hp (ay (T.done X rfl rfl rfl hc i pins s3 σ3 H3 X.xe I3 (stat fr3) st3 stop) fun r s4 ⟨hr,I4⟩=>?_)
  subst hr
  exact wpAny_execs_nil ⟨σ3,H3,I4,qn⟩
 ·refine wpAny_passesOwn hp (ay (T.item X rfl rfl rfl hc i pins s3 σ3 H3 X.xe I3 (stat fr3) st3 go) fun r s4 ⟨u,hr,h4⟩=>?_)
  subst hr
  refine wpAny_passesOwn hp (ay h4 fun _ s5 ⟨x,H5,I5,r5,y5,st5,fr5⟩=>?_)
  have I5':=I5.pinned (stat fr5) (T.obj _ _ st5)
  refine wpAny_passesOwn hp (ay (hg _ s5 σ3 H5 x u _ I5' r5 (step x H5 y5)) fun _ s6 ⟨σ6,H6,I6,q6⟩=>?_)
  refine wpAny_passesOwn hp (ay (hb _ s6 σ6 H6 _ I6 q6) fun f s7 q7=>?_)
  have again:∀{σ7:St} {H7:Hp},Inv X (pins++fN fp s5.heap) σ7 H7 s7->N σ7 H7->∃m,m<n/\∃i σ' H',Inv X pins σ' H' s7/\tn i s7.heap/\(∀b∈fp,H' b=none)/\W i m σ' H':=fun{σ7 H7} I7 n7=>by
   obtain⟨m',hm,w7⟩:=hN σ7 H7 n7
   refine⟨m',hm,i+1,σ7,H7,I7.unpinned,T.keep _ _ _ st5 fun b hb o e=>(I7.pin (b,o) (List.mem_append_right _ (List.mem_append_right _ (mM hb e)))).1,fun b hb=>?_,w7⟩
   obtain⟨o,e,d⟩:=T.obj _ _ st5 b hb
   exact(I7.pin (b,o) (List.mem_append_right _ (List.mem_append_right _ (mM hb e)))).2.1
  cases f with
  | next=>obtain⟨σ7,H7,I7,n7⟩:=q7;exact again I7 n7
  | cont=>obtain⟨σ7,H7,I7,n7⟩:=q7;exact again I7 n7
  | brk=>obtain⟨σ7,H7,I7,q7⟩:=q7;exact⟨σ7,H7,I7.unpinned,q7⟩
  | ret v=>obtain⟨x7,σ7,H7,I7,r7,q7⟩:=q7;exact⟨x7,σ7,H7,I7.unpinned,r7,q7⟩
end
theorem yo{K:DS}{a:Addr}{xs:List V}{g:TG}{tb:TS}{D:Ends}{σ:St}{H:Hp}(Pv:Nat->St->Hp->Prop)(h0:Pv 0 σ H)(hl:∀i σ H,i<=xs.length->Pv i σ H->ag K H a xs)
  (hs:∀i x σ H,xs[i]?=some x->Pv i σ H->g x σ H fun σ2 H2=>tb { D with nx:=Pv (i+1),ct:=Pv (i+1),bk:=D.nx } σ2 H2) (hd:∀σ H,Pv xs.length σ H->D.nx σ H) :
  ∃W:Nat->Nat->St->Hp->Prop,(∃m,W 0 m σ H)/\∀i m σ H,W i m σ H →
   ((fA K a).stop i H/\D.nx σ H)\/((fA K a).go i H/\∃N:St->Hp->Prop,(∀σ' H',N σ' H'->∃m',m'<m/\W (i+1) m' σ' H')/\∀x H',(fA K a).yld i H x H'->g x σ H' fun σ2 H2=>tb { D with nx:=N,ct:=N,bk:=D.nx } σ2 H2):=by
 refine⟨fun i m σ H=>m=xs.length-i/\i<=xs.length/\Pv i σ H,⟨xs.length,by simp,Nat.zero_le _,h0⟩,?_⟩
 rintro i m σ H ⟨rfl,hi,p⟩
 have q:=hl i σ H hi p
 by_cases hlt:i<xs.length
 ·refine .inr ⟨⟨xs,xs[i],q,by simp[hlt]⟩,Pv (i+1),fun σ' H' p'=>⟨xs.length-(i+1),by omega,rfl,hlt,p'⟩,fun x H' y=>?_⟩
  obtain⟨e,y⟩:=y
  subst e
  exact hs i x σ _ (y xs q) p
 ·have e:i=xs.length:=by omega
  subst e
  exact .inl ⟨⟨xs,q,Ep _⟩,hd σ H p⟩
theorem Bo{K:DS}{a:Addr}{xs:List V}{g:TG}{tb:TS}{D:Ends}{σ:St}{H:Hp}(Pv:Nat->St->Hp->Prop)(h0:Pv 0 σ H)(hl:∀i σ H,i<=xs.length->Pv i σ H->ah K H a xs)
  (hs:∀i x σ H,xs[i]?=some x->Pv i σ H->g x σ H fun σ2 H2=>tb { D with nx:=Pv (i+1),ct:=Pv (i+1),bk:=D.nx } σ2 H2) (hd:∀σ H,Pv xs.length σ H->D.nx σ H) :
  ∃W:Nat->Nat->St->Hp->Prop,(∃m,W 0 m σ H)/\∀i m σ H,W i m σ H →
   ((dA K a).stop i H/\D.nx σ H)\/((dA K a).go i H/\∃N:St->Hp->Prop,(∀σ' H',N σ' H'->∃m',m'<m/\W (i+1) m' σ' H')/\∀x H',(dA K a).yld i H x H'->g x σ H' fun σ2 H2=>tb { D with nx:=N,ct:=N,bk:=D.nx } σ2 H2):=by
 refine⟨fun i m σ H=>m=xs.length-i/\i<=xs.length/\Pv i σ H,⟨xs.length,by simp,Nat.zero_le _,h0⟩,?_⟩
 rintro i m σ H ⟨rfl,hi,p⟩
 have q:=hl i σ H hi p
 by_cases hlt:i<xs.length
 ·refine .inr ⟨⟨xs,xs[i],q,by simp[hlt]⟩,Pv (i+1),fun σ' H' p'=>⟨xs.length-(i+1),by omega,rfl,hlt,p'⟩,fun x H' y=>?_⟩
  obtain⟨e,y⟩:=y
  subst e
  exact hs i x σ _ (y xs q) p
 ·have e:i=xs.length:=by omega
  subst e
  exact .inl ⟨⟨xs,q,Ep _⟩,hd σ H p⟩
theorem DA{lo:Int}{n:Nat}{g:TG}{tb:TS}{D:Ends}{σ:St}{H:Hp}(Pv:Nat->St->Hp->Prop)(h0:Pv 0 σ H)
  (hs:∀i σ H,i<n->Pv i σ H->g (.int (lo+i)) σ H fun σ2 H2=>tb { D with nx:=Pv (i+1),ct:=Pv (i+1),bk:=D.nx } σ2 H2) (hd:∀σ H,Pv n σ H->D.nx σ H) :
  ∃W:Nat->Nat->St->Hp->Prop,(∃m,W 0 m σ H)/\∀i m σ H,W i m σ H →
   ((dh lo n).stop i H/\D.nx σ H)\/((dh lo n).go i H/\∃N:St->Hp->Prop,(∀σ' H',N σ' H'->∃m',m'<m/\W (i+1) m' σ' H')/\∀x H',(dh lo n).yld i H x H'->g x σ H' fun σ2 H2=>tb { D with nx:=N,ct:=N,bk:=D.nx } σ2 H2):=by
 refine⟨fun i m σ H=>m=n-i/\i<=n/\Pv i σ H,⟨n,by simp,Nat.zero_le _,h0⟩,?_⟩
 rintro i m σ H ⟨rfl,hi,p⟩
 by_cases hlt:i<n
 ·refine .inr ⟨hlt,Pv (i+1),fun σ' H' p'=>⟨n-(i+1),by omega,rfl,hlt,p'⟩,fun x H' y=>?_⟩
  obtain⟨e,y⟩:=y
  subst e y
  exact hs i σ _ hlt p
 ·have e:i=n:=by omega
  subst e
  exact .inl ⟨Ep _,hd σ H p⟩
end L2
namespace L2
open PySem PySem.Spec PyProof.Rows
abbrev R2:=V->V->Hp->VK->Prop
def bq(X:Cx)(f:Value->Value->Sem Value)(r:R2):Prop:=
 ∀(pins:List (Addr×Obj)) (s:Shared) (σ:St) (H:Hp) (x y:V) (v u:Value) (Q:VK),Inv X pins σ H s->RelV x v->RelV y u->r x y H Q →
  wpAny (model X.prog X.w) X.A (f v u) (EP X pins σ Q) X.xe s
def mF(X:Cx)(f:Value->Sem Value)(r:V->Hp->VK->Prop):Prop:=
 ∀(pins:List (Addr×Obj)) (s:Shared) (σ:St) (H:Hp) (x:V) (v:Value) (Q:VK),Inv X pins σ H s->RelV x v->r x H Q →
  wpAny (model X.prog X.w) X.A (f v) (EP X pins σ Q) X.xe s
def bV(X:Cx)(f:Value)(r:List V->Hp->VK->Prop):Prop:=
 ∀(pins:List (Addr×Obj)) (s:Shared) (σ:St) (H:Hp) (xs:List V) (us:List Value) (Q:VK),Inv X pins σ H s->Vals xs us->r xs H Q →
  wpAny (model X.prog X.w) X.A (call f us) (EP X pins σ Q) X.xe s
def gN(r:R2)(ta tb:TE):TE:=fun σ H Q=>ta σ H fun x H1=>tb σ H1 fun y H2=>r x y H2 Q
def pY(r:V->Hp->VK->Prop)(ta:TE):TE:=fun σ H Q=>ta σ H fun x H1=>r x H1 Q
def rI(C:Int->Int->Prop)(g:Int->Int->V):R2:=fun x y H Q=>∃i j,x=.int i/\y=.int j/\C i j/\Q (g i j) H
def eV(g:Int->Int->V):R2:=fun x y H Q=>∃i j,x=.int i/\y=.int j/\Q (g i j) H
def rU(g:Int->V):V->Hp->VK->Prop:=fun x H Q=>∃i,x=.int i/\Q (g i) H
section
variable {X:Cx} {a b c:Expr} {ta tb tc:TE} {pos:Pos}
theorem mV(ha:PE X a ta)(hb:PE X b tb){pins:List (Addr×Obj)}{s:Shared}{σ:St}{H:Hp}{R:V->V->Hp->Prop}(I:Inv X pins σ H s)
  (h:ta σ H fun x H1=>tb σ H1 fun y H2=>R x y H2) {Q:Value->Shared->Prop} {f:Value->Value->Sem Value}
  (hf:∀v u s2 x y H2,Inv X pins σ H2 s2->RelV x v->RelV y u->R x y H2->wpAny (model X.prog X.w) X.A (f v u) Q X.xe s2) :
  wpAny (model X.prog X.w) X.A (eval a X.env) (fun v s₁=>wpAny (model X.prog X.w) X.A (eval b X.env) (fun u s₂=>wpAny (model X.prog X.w) X.A (f v u) Q X.xe s₂) X.xe s₁) X.xe s:=by
 refine ay (ha pins s σ H _ I h) fun v s1 ⟨x,H1,I1,r1,q1⟩=>?_
 refine ay (hb pins s1 σ H1 _ I1 q1) fun u s2 ⟨y,H2,I2,r2,q2⟩=>?_
 exact hf v u s2 x y H2 I2 r1 r2 q2
theorem aD{op:Operator}{r:R2}(ho:bq X (binaryOp op) r)(ha:PE X a ta)(hb:PE X b tb):PE X (.BinOp a op b pos) (gN r ta tb):=by
 intro pins s σ H Q I h
 exact wpAny_BinOp (mV ha hb I h fun v u s2 x y H2 I2 rx ry q=>ho pins s2 σ H2 x y v u Q I2 rx ry q)
theorem dF{op:UnaryOp}{r:V->Hp->VK->Prop}(ho:mF X (unaryOp op) r)(ha:PE X a ta):PE X (.UnaryOp op a pos) (pY r ta):=by
 intro pins s σ H Q I h
 exact UnaryOp_ (ay (ha pins s σ H _ I h) fun v s1 ⟨x,H1,I1,r1,q1⟩=>ho pins s1 σ H1 x v Q I1 r1 q1)
theorem jZ{f:Value->Value->Sem Value}{C:Int->Int->Prop}{g:Int->Int->Int}
  (rule:∀(i j:Int) (t u:Tok) (s:Shared) (Q:Value->Shared->Prop) (E:Value->Shared->Prop),C i j->Q (.int (g i j) s.toks) { s with toks:=s.toks+1 }->wpAny (model X.prog X.w) X.A (f (.int i t) (.int j u)) Q E s) :
  bq X f (rI C fun i j=>.int (g i j)):=by
 intro pins s σ H x y v u Q I rx ry h
 obtain⟨i,j,rfl,rfl,hc,q⟩:=h
 obtain⟨t,rfl⟩:=rx
 obtain⟨t',rfl⟩:=ry
 exact rule i j t t' s _ _ hc ⟨.int (g i j),H,I.tok _,⟨_,rfl⟩,q⟩
theorem pw{f:Value->Value->Sem Value}{g:Int->Int->Int}
  (rule:∀(i j:Int) (t u:Tok) (s:Shared) (Q:Value->Shared->Prop) (E:Value->Shared->Prop),Q (.int (g i j) s.toks) { s with toks:=s.toks+1 }->wpAny (model X.prog X.w) X.A (f (.int i t) (.int j u)) Q E s) :
  bq X f (eV fun i j=>.int (g i j)):=by
 intro pins s σ H x y v u Q I rx ry h
 obtain⟨i,j,rfl,rfl,q⟩:=h
 obtain⟨t,rfl⟩:=rx
 obtain⟨t',rfl⟩:=ry
 exact rule i j t t' s _ _ ⟨.int (g i j),H,I.tok _,⟨_,rfl⟩,q⟩
theorem jo{f:Value->Value->Sem Value}{g:Int->Int->Bool}
  (rule:∀(i j:Int) (t u:Tok) (s:Shared) (Q:Value->Shared->Prop) (E:Value->Shared->Prop),Q (.bool (g i j)) s->wpAny (model X.prog X.w) X.A (f (.int i t) (.int j u)) Q E s) :
  bq X f (eV fun i j=>.bl (g i j)):=by
 intro pins s σ H x y v u Q I rx ry h
 obtain⟨i,j,rfl,rfl,q⟩:=h
 obtain⟨t,rfl⟩:=rx
 obtain⟨t',rfl⟩:=ry
 exact rule i j t t' s _ _ ⟨.bl (g i j),H,I,rfl,q⟩
def wd(i j:Int):Prop:=0<=j/\j<=1000000/\i.natAbs<2 ^ 64
def lI(i j:Int):Prop:=(-(2 ^ 64)<i/\i<2 ^ 64)\/(-(2 ^ 64)<j/\j<2 ^ 64)
theorem lI.ok{i j:Int}(h:lI i j):IntMulOk i j:=by
 rcases h with⟨h1,h2⟩ | ⟨h1,h2⟩
 ·exact .of_left (intBits_le_64 h1 h2)
 ·exact .of_right (intBits_le_64 h1 h2)
theorem bH:bq X (binaryOp .Add) (eV fun i j=>.int (i+j)):=pw fun _ _ _ _ _ _ _ q=>add_int q
theorem dR:bq X (binaryOp .Sub) (eV fun i j=>.int (i-j)):=pw fun _ _ _ _ _ _ _ q=>sub_int q
theorem eZ:bq X (binaryOp .Mult) (rI lI fun i j=>.int (i*j)):=jZ fun _ _ _ _ _ _ _ hc q=>mul_int q hc.ok
theorem cC:bq X (binaryOp .Mod) (rI (fun _ j=>0<j) fun i j=>.int (i % j)):=jZ fun i j _ _ _ _ _ hc q=>by
 have h1:(0:Int)<j:=hc
 exact mod_int' (by omega) (by rw[Int.fmod_eq_emod_of_nonneg i (by omega)];exact q)
theorem sY:bq X (binaryOp .Pow) (rI wd fun i j=>.int (i ^ j.toNat)):=jZ fun _ _ _ _ _ _ _ hc q=>pow_int_small hc.1 hc.2.1 hc.2.2 q
theorem Bu{f:Value->Sem Value}{g:Int->Int}
  (rule:∀(i:Int) (t:Tok) (s:Shared) (Q:Value->Shared->Prop) (E:Value->Shared->Prop),Q (.int (g i) s.toks) { s with toks:=s.toks+1 }->wpAny (model X.prog X.w) X.A (f (.int i t)) Q E s) :
  mF X f (rU fun i=>.int (g i)):=by
 intro pins s σ H x v Q I rx h
 obtain⟨i,rfl,q⟩:=h
 obtain⟨t,rfl⟩:=rx
 exact rule i t s _ _ ⟨.int (g i),H,I.tok _,⟨_,rfl⟩,q⟩
theorem dH:mF X (unaryOp .USub) (rU fun i=>.int (-i)):=Bu fun _ _ _ _ _ q=>neg_int q
end
def sj:V->V->Bool
 | .non,.non=>true | .non,.int _=>true | .int _,.non=>true | .non,.bl _=>true | .bl _,.non=>true | .non,.str _=>true | .str _,.non=>true
 | .int _,.int _=>true | .bl _,.bl _=>true | .str _,.str _=>true | .byt _,.byt _=>true
 | .int _,.str _=>true | .str _,.int _=>true | .bl _,.str _=>true | .str _,.bl _=>true
 | _,_=>false
def lK:R2:=fun x y H Q=>sj x y=true/\Q (.bl (decide (x=y))) H
def iY:R2:=fun x y H Q=>sj x y=true/\Q (.bl (!decide (x=y))) H
theorem vW{i j:Int}:decide (V.int i=V.int j)=(i == j):=by
 rw[EI]
 simp
theorem kD{i j:Bool}:decide (V.bl i=V.bl j)=(i == j):=by
 rw[EI]
 simp
theorem iP{i j:Str}:decide (V.str i=V.str j)=(i == j):=by
 rw[EI]
 simp
theorem rE{i j:Array UInt8}:decide (V.byt i=V.byt j)=(i.toList == j.toList):=by
 rw[EI]
 cases i
 cases j
 simp
section
variable {X:Cx} {a b c:Expr} {ta tb tc:TE} {pos:Pos}
theorem bj{pins:List (Addr×Obj)}{σ:St}{H:Hp}{s:Shared}{Q:VK}{k k':Bool}(I:Inv X pins σ H s)(q:Q (.bl k) H)(e:k=k'):EP X pins σ Q (.bool k') s:=by
 subst e
 exact⟨.bl k,H,I,rfl,q⟩
theorem bL:bq X (compareOp .Eq) lK:=by
 intro pins s σ H x y v u Q I rx ry h
 obtain⟨hs,q⟩:=h
 cases x with
 | non=>
  cases rx
  cases y with
  | non=>cases ry;exact PySem.EqNone.eq_none_none (bj I q (by simp))
  | bl j=>cases ry;exact PySem.EqNone.eq_none_bool (bj I q (by simp))
  | int j=>obtain⟨t',rfl⟩:=ry;exact PySem.EqNone.eq_none_int (bj I q (by simp))
  | str j=>obtain⟨t',rfl⟩:=ry;exact PySem.EqNone.eq_none_str (bj I q (by simp))
  | _=>exact absurd (show false=true from hs) El
 | bl i=>
  cases rx
  cases y with
  | non=>cases ry;exact PySem.EqNone.eq_bool_none (bj I q (by simp))
  | bl j=>cases ry;exact eq_bool (bj I q kD)
  | str j=>obtain⟨t',rfl⟩:=ry;exact PySem.EqMixed.eq_bool_str (bj I q (by simp))
  | _=>exact absurd (show false=true from hs) El
 | int i=>
  obtain⟨t,rfl⟩:=rx
  cases y with
  | non=>cases ry;exact PySem.EqNone.eq_int_none (bj I q (by simp))
  | int j=>obtain⟨t',rfl⟩:=ry;exact eq_int (bj I q vW)
  | str j=>obtain⟨t',rfl⟩:=ry;exact PySem.EqMixed.eq_int_str (bj I q (by simp))
  | _=>exact absurd (show false=true from hs) El
 | str i=>
  obtain⟨t,rfl⟩:=rx
  cases y with
  | non=>cases ry;exact PySem.EqNone.eq_str_none (bj I q (by simp))
  | bl j=>cases ry;exact PySem.EqMixed.eq_str_bool (bj I q (by simp))
  | int j=>obtain⟨t',rfl⟩:=ry;exact PySem.EqMixed.eq_str_int (bj I q (by simp))
  | str j=>obtain⟨t',rfl⟩:=ry;exact eq_str (bj I q iP)
  | _=>exact absurd (show false=true from hs) El
 | byt i=>
  obtain⟨t,rfl⟩:=rx
  cases y with
  | byt j=>obtain⟨t',rfl⟩:=ry;exact PySem.W.eq_bytes (bj I q rE)
  | _=>exact absurd (show false=true from hs) El
 | _=>cases y<;>exact absurd (show false=true from hs) El
theorem eY:bq X (compareOp .NotEq) iY:=by
 intro pins s σ H x y v u Q I rx ry h
 obtain⟨hs,q⟩:=h
 cases x with
 | non=>
  cases rx
  cases y with
  | non=>cases ry;exact PySem.EqNone.ne_none_none (bj I q (by simp))
  | bl j=>cases ry;exact PySem.EqNone.ne_none_bool (bj I q (by simp))
  | int j=>obtain⟨t',rfl⟩:=ry;exact PySem.EqNone.ne_none_int (bj I q (by simp))
  | str j=>obtain⟨t',rfl⟩:=ry;exact PySem.EqNone.ne_none_str (bj I q (by simp))
  | _=>exact absurd (show false=true from hs) El
 | bl i=>
  cases rx
  cases y with
  | non=>cases ry;exact PySem.EqNone.ne_bool_none (bj I q (by simp))
  | bl j=>cases ry;exact ne_bool (bj I q (congrArg not kD))
  | str j=>obtain⟨t',rfl⟩:=ry;exact PySem.EqMixed.ne_bool_str (bj I q (by simp))
  | _=>exact absurd (show false=true from hs) El
 | int i=>
  obtain⟨t,rfl⟩:=rx
  cases y with
  | non=>cases ry;exact PySem.EqNone.ne_int_none (bj I q (by simp))
  | int j=>obtain⟨t',rfl⟩:=ry;exact ne_int (bj I q (congrArg not vW))
  | str j=>obtain⟨t',rfl⟩:=ry;exact PySem.EqMixed.ne_int_str (bj I q (by simp))
  | _=>exact absurd (show false=true from hs) El
 | str i=>
  obtain⟨t,rfl⟩:=rx
  cases y with
  | non=>cases ry;exact PySem.EqNone.ne_str_none (bj I q (by simp))
  | bl j=>cases ry;exact PySem.EqMixed.ne_str_bool (bj I q (by simp))
  | int j=>obtain⟨t',rfl⟩:=ry;exact PySem.EqMixed.ne_str_int (bj I q (by simp))
  | str j=>obtain⟨t',rfl⟩:=ry;exact ne_str (bj I q (congrArg not iP))
  | _=>exact absurd (show false=true from hs) El
 | byt i=>
  obtain⟨t,rfl⟩:=rx
  cases y with
  | byt j=>obtain⟨t',rfl⟩:=ry;exact PySem.W.ne_bytes (bj I q (congrArg not rE))
  | _=>exact absurd (show false=true from hs) El
 | _=>cases y<;>exact absurd (show false=true from hs) El
theorem fM:bq X (compareOp .Lt) (eV fun i j=>.bl (decide (i<j))):=jo fun _ _ _ _ _ _ _ q=>lt_int q
theorem i9:bq X (compareOp .LtE) (eV fun i j=>.bl (decide (i<=j))):=jo fun _ _ _ _ _ _ _ q=>le_int q
theorem gA:bq X (compareOp .Gt) (eV fun i j=>.bl (decide (j<i))):=jo fun _ _ _ _ _ _ _ q=>gt_int q
theorem vy:bq X (compareOp .GtE) (eV fun i j=>.bl (decide (j<=i))):=jo fun _ _ _ _ _ _ _ q=>ge_int q
theorem rf:bq X (compareOp .Is) (fun x y H Q=>y=.non/\Q (.bl (decide (x=.non))) H):=by
 intro pins s σ H x y v u Q I rx ry h
 obtain⟨rfl,q⟩:=h
 cases ry
 refine is_none_gen (bj I q ?_)
 cases x<;>first
  | (cases rx;rfl)
  | (obtain⟨t,rfl⟩:=rx;rfl)
theorem yk:bq X (compareOp .IsNot) (fun x y H Q=>y=.non/\Q (.bl (!decide (x=.non))) H):=by
 intro pins s σ H x y v u Q I rx ry h
 obtain⟨rfl,q⟩:=h
 cases ry
 refine isnot_none_gen (bj I q ?_)
 cases x<;>first
  | (cases rx;rfl)
  | (obtain⟨t,rfl⟩:=rx;rfl)
theorem aP(b:Expr){op:CmpOp}(h:op≠.In:=by decide)(h2:op≠.NotIn:=by decide):behindInMarks op b=false:=by
 have e1:(op == CmpOp.In)=false:=by cases op<;>first | rfl | exact absurd rfl h
 have e2:(op == CmpOp.NotIn)=false:=by cases op<;>first | rfl | exact absurd rfl h2
 cases b<;>simp[behindInMarks,e1,e2]
theorem el{op:CmpOp}{r:R2}(ho:bq X (compareOp op) r)(ha:PE X a ta)(hb:PE X b tb)(hm:behindInMarks op b=false):PE X (.Compare a [op] [b] pos) (gN r ta tb):=by
 intro pins s σ H Q I h
 exact wpAny_Compare1 (mV ha hb I h fun v u s2 x y H2 I2 rx ry q=>ho pins s2 σ H2 x y v u Q I2 rx ry q) hm
def wj(t:TE):TT:=fun σ H Q=>t σ H fun x H'=>∃k,x=.bl k/\Q k H'
theorem aT{op:CmpOp}{r:R2}(ho:bq X (compareOp op) r)(ha:PE X a ta)(hb:PE X b tb)(hm:behindInMarks op b=false):PT X (.Compare a [op] [b] pos) (wj (gN r ta tb)):=by
 intro pins s σ H Q I h
 refine wpAny_isTrue_Compare1 (ay (ha pins s σ H _ I h) fun v s1 ⟨x,H1,I1,r1,q1⟩=>ay (hb pins s1 σ H1 _ I1 q1) fun u s2 ⟨y,H2,I2,r2,q2⟩=>
  ay (ho pins s2 σ H2 x y v u _ I2 r1 r2 q2) fun c s3 ⟨z,H3,I3,r3,k,e,q3⟩=>?_) hm
 subst e
 cases r3
 exact wpAny_truthy_bool ⟨H3,I3,q3⟩
def qw(r r':R2)(ta tb tc:TE):TE:=fun σ H Q=>ta σ H fun x H1=>tb σ H1 fun y H2=>r x y H2 fun z H3=>∃k,z=.bl k ∧
 (if k=true then tc σ H3 fun w' H4=>r' y w' H4 Q else Q (.bl false) H3)
theorem mq{op op':CmpOp}{r r':R2}(ho:bq X (compareOp op) r)(ho':bq X (compareOp op') r')(ha:PE X a ta)(hb:PE X b tb)(hc:PE X c tc)
  (hm:lastMarks [op,op'] [b,c]=false:=by with_unfolding_all rfl):PE X (.Compare a [op,op'] [b,c] pos) (qw r r' ta tb tc):=by
 intro pins s σ H Q I h
 refine Compare_chain (ay (ha pins s σ H _ I h) fun v s1 ⟨x,H1,I1,r1,q1⟩=>chain_link (ay (hb pins s1 σ H1 _ I1 q1) fun u s2 ⟨y,H2,I2,r2,q2⟩=>
  ay (ho pins s2 σ H2 x y v u _ I2 r1 r2 q2) fun d s3 ⟨z,H3,I3,r3,k,e,q3⟩=>?_)) hm
 subst e
 cases r3
 refine wpAny_truthy_bool ?_
 cases k with
 | false=>exact ite_ff ⟨.bl false,H3,I3,rfl,q3⟩
 | true=>exact ite_tt (chain_last (ay (hc pins s3 σ H3 _ I3 q3) fun w' s4 ⟨z',H4,I4,r4,q4⟩=>ho' pins s4 σ H4 y z' u w' Q I4 r2 r4 q4))
theorem ip:(sizeLine:Nat)<2 ^ 63:=by rw[sizeLine_eq];decide
theorem vals1{x:V}{us:List Value}(r:Vals [x] us):∃u,us=[u]/\RelV x u:=by
 cases r with
 | cons r1 r2=>cases r2;exact⟨_,rfl,r1⟩
theorem vals2{x y:V}{us:List Value}(r:Vals [x,y] us):∃u w',us=[u,w']/\RelV x u/\RelV y w':=by
 cases r with
 | cons r1 r2=>
  cases r2 with
  | cons r3 r4=>cases r4;exact⟨_,_,rfl,r1,r3⟩
theorem AY:bV X (.builtin "abs") (fun xs H Q=>∃i,xs=[.int i]/\Q (.int (if i<0 then -i else i)) H):=by
 intro pins s σ H xs us Q I r h
 obtain⟨i,rfl,q⟩:=h
 obtain⟨u,rfl,t,rfl⟩:=vals1 r
 exact call_abs_int fun u tk=>⟨.int (if i<0 then -i else i),H,I.tok _,⟨_,rfl⟩,q⟩
theorem zM(hc:X.calm=true):bV X (.builtin "max") (fun xs H Q=>∃i j,xs=[.int i,.int j]/\Q (.int (if j>i then j else i)) H):=by
 intro pins s σ H xs us Q I r h
 obtain⟨i,j,rfl,q⟩:=h
 obtain⟨u,w',rfl,⟨t,rfl⟩,⟨t',rfl⟩⟩:=vals2 r
 refine max_two_ints (I.ok.hd hc) fun h' tk k=>⟨_,H,I.kept k,?_,q⟩
 by_cases hj:j>i
 ·rw[if_pos hj,if_pos hj];exact⟨_,rfl⟩
 ·rw[if_neg hj,if_neg hj];exact⟨_,rfl⟩
theorem zQ(hc:X.calm=true):bV X (.builtin "min") (fun xs H Q=>∃i j,xs=[.int i,.int j]/\Q (.int (if j<i then j else i)) H):=by
 intro pins s σ H xs us Q I r h
 obtain⟨i,j,rfl,q⟩:=h
 obtain⟨u,w',rfl,⟨t,rfl⟩,⟨t',rfl⟩⟩:=vals2 r
 refine min_two_ints (I.ok.hd hc) fun h' tk k=>⟨_,H,I.kept k,?_,q⟩
 by_cases hj:j<i
 ·rw[if_pos hj,if_pos hj];exact⟨_,rfl⟩
 ·rw[if_neg hj,if_neg hj];exact⟨_,rfl⟩
theorem Bn:bV X (.type "int") (fun xs H Q=>(∃i,xs=[.int i]/\Q (.int i) H)\/∃k,xs=[.bl k]/\Q (.int (if k then 1 else 0)) H):=by
 intro pins s σ H xs us Q I r h
 rcases h with⟨i,rfl,q⟩ | ⟨k,rfl,q⟩
 ·obtain⟨u,rfl,t,rfl⟩:=vals1 r
  exact call_int_int ⟨.int i,H,I,⟨_,rfl⟩,q⟩
 ·obtain⟨u,rfl,r1⟩:=vals1 r
  cases r1
  exact call_int_bool ⟨.int (if k then 1 else 0),H,I.tok _,⟨_,rfl⟩,q⟩
end
end L2
namespace L2
open PySem PySem.Spec PyProof.Rows
structure ObjM(h:Heap)(x dx C:Addr)(mA:Str->Option Value):Prop where
 obj:h.get? x=some (PySem.W.instObj C dx)
 ns:h.Ns1 dx mA
 ne:dx≠x
theorem AV{h:Heap}{dx:Addr}{mA:Str->Option Value}(n:h.Ns1 dx mA):∃od,h.get? dx=some od/\∀name,PySem.W.lookIn name od=some (mA name):=by
 obtain⟨o,es,ep,ho,hd,hk,_,hm⟩:=n
 refine⟨o,ho,fun name=>?_⟩
 have e:=hm name
 unfold nsFind findBy at e
 rw[←Array.find?_toList]at e
 unfold PySem.W.lookIn
 rw[hd]
 dsimp only
 split
 ·rename_i y q
  rw[q]at e
  exact congrArg some e
 ·rename_i q
  rw[q]at e
  have a:es.toList.any (·.refKey)=false:=by
   rw[List.any_eq_false]
   intro y hy
   obtain⟨z,t,hkey⟩:=hk y (Array.mem_toList_iff.mp hy)
   simp[DictEntry.refKey,hkey]
  have a':¬es.toList.any (·.refKey)=true:=by rw[a];exact El
  rw[if_neg a']
  exact congrArg some e
theorem ObjM.look{h:Heap}{x dx C:Addr}{mA:Str->Option Value}(I:ObjM h x dx C mA):∃od,PySem.W.InstAt h x (PySem.W.instObj C dx) C (some od)/\∀name,PySem.W.lookIn name od=some (mA name):=
 let ⟨od,ho,hl⟩:=AV I.ns
 ⟨od,⟨I.obj,rfl,rfl,ho⟩,hl⟩
section
variable {prog:Program} {w:World} {A:Around} {E:Value->Shared->Prop} {s:Shared} {K:DS} {x dx C f:Addr} {mA:Str->Option Value} {name:Str} {v:Value}
end
theorem dy.some_of{v:V}{o:Option Value}(r:dy (some v) o):∃u,o=some u/\RelV v u:=by
 cases o with
 | none=>exact(show False from r).elim
 | some u=>exact⟨u,rfl,r⟩
section
variable {P:Program} {w:World} {H H':Hp} {h h':Heap} {a C dx:Addr} {fs fs':List (Str×V)}
theorem yN(hok:aY P w H h)(e:H a=some (.ins C dx fs)):∃mA,ObjM h a dx C mA/\(∀f,dy (fs.lookup f) (mA f))/\PySem.Within mA (fs.map (·.1))/\fs.length<=1000/\H dx=some (.own a):=by
 obtain⟨d,z,ne,ob,mA,n,r,q⟩:=(show bo P w H h a (.ins C dx fs)from hok a _ e)
 exact⟨mA,⟨ob,n,ne⟩,r,q,z,d⟩
end
structure Cls(K:DS)(C:Addr):Prop where
 pg:PySem.W.plainGet K C Str.empty=true
 hd:PySem.W.hasDictIn K C=true
 po:PySem.W.plainOver K C=true
 sa:PySem.W.findIn K (.ref C) "__setattr__" = some (some (.builtin "object.__setattr__"))
theorem Cls.get{K:DS}{C:Addr}(c:Cls K C)(f:Str):PySem.W.plainGet K C f=true:=c.pg
section
variable {X:Cx} {pins:List (Addr×Obj)} {σ:St} {H:Hp} {s:Shared} {a C dx:Addr} {fs:List (Str×V)} {f:Str} {v:V} {A:Around} {E:Value->Shared->Prop}
end
section
variable {X:Cx} {o e value:Expr} {f:Str} {pos pos' tpos:Pos} {ta tv:TE}
end
section
variable {X:Cx} {pins:List (Addr×Obj)} {σ:St} {H:Hp} {s:Shared} {A:Around} {E:Value->Shared->Prop} {Q:Value->Shared->Prop} {c:Value} {b:Bool}
inductive TyOf(K:DS)(H:Hp):V->Value->Prop where
 | non:TyOf K H .non (.type "NoneType")
 | bl (x:Bool):TyOf K H (.bl x) (.type "bool")
 | int (i:Int):TyOf K H (.int i) (.type "int")
 | str (x:Str):TyOf K H (.str x) (.type "str")
 | flt (x:UInt64):TyOf K H (.flt x) (.type "float")
 | lst {a:Addr} {xs:List V} (e:H a=some (.lst xs)):TyOf K H (.ref a) (.type "list")
 | frz {a:Addr} {o:Obj} {xs:List V} (e:H a=some (.frz o (.lst xs))):TyOf K H (.ref a) (.type "list")
 | tup {a:Addr} {xs:List V} (e:H a=some (.tup xs)):TyOf K H (.ref a) (.type "tuple")
 | dK {a:Addr} {kvs:List (Key×V)} (e:H a=some (.dK kvs)):TyOf K H (.ref a) (.type "dict")
 | dT {a:Addr} {kvs:List (List Key×V)} (e:H a=some (.dT kvs)):TyOf K H (.ref a) (.type "dict")
 | ins {a C dx:Addr} {fs:List (Str×V)} (e:H a=some (.ins C dx fs)) (cl:Cls K C) (ha:PySem.W.findIn K (.ref C) "__class__" = some (some (.builtin "object.__class__")))
   (hn:PySem.W.specialIn K (.builtin "object.__class__") "__get__" = some (some (.builtin "getset_descriptor.__get__"))) (htk:PySem.W.takesIn K (.builtin "object.__class__")=some true)
   (hm:PySem.W.mroIn K C (.type "object")=some true):TyOf K H (.ref a) (.ref C)
theorem yP{x:V}{u t:Value}(I:Inv X pins σ H s)(rx:RelV x u)(ty:TyOf X.K H x t)(e:PySem.W.kitOne X.K t c=some b)(h:∀tk,Q (.bool b) { s with toks:=tk }):
  wpAny (model X.prog X.w) A (call (.builtin "isinstance") [u,c]) Q E s:=by
 cases ty with
 | non=>cases(show u=Value.none from rx);exact PySem.W.kia_one PySem.W.kitx_none I.kIn True.intro e (fun z=>nomatch z) h
 | bl y=>cases(show u=Value.bool y from rx);exact PySem.W.kia_one PySem.W.kitx_bool I.kIn True.intro e (fun z=>nomatch z) h
 | int i=>obtain⟨t,q⟩:=(show ∃t,u=Value.int i t from rx);cases q;exact PySem.W.kia_one PySem.W.kitx_int I.kIn True.intro e (fun z=>nomatch z) h
 | str y=>obtain⟨t,q⟩:=(show ∃t,u=Value.str y t from rx);cases q;exact PySem.W.kia_one PySem.W.kitx_str I.kIn True.intro e (fun z=>nomatch z) h
 | flt y=>obtain⟨t,q⟩:=(show ∃t,u=Value.float y t from rx);cases q;exact PySem.W.kia_one PySem.W.kitx_float I.kIn True.intro e (fun z=>nomatch z) h
 | @lst a xs ea=>
  cases(show u=Value.ref a from rx)
  obtain⟨_,_,n,_,h1⟩:=(show bo X.prog X.w H s.heap a (.lst xs)from I.hok a _ ea)
  exact PySem.W.kia_one PySem.W.kitx_list I.kIn ⟨_,h1,rfl⟩ e (fun z=>nomatch z) h
 | @frz a ob xs ea=>
  cases(show u=Value.ref a from rx)
  obtain⟨_,_,_,n,_,h1⟩:=(show bo X.prog X.w H s.heap a (.frz ob (.lst xs))from I.hok a _ ea)
  exact PySem.W.kia_one PySem.W.kitx_list I.kIn ⟨_,h1,rfl⟩ e (fun z=>nomatch z) h
 | @tup a xs ea=>
  cases(show u=Value.ref a from rx)
  obtain⟨_,_,_,p⟩:=(show bo X.prog X.w H s.heap a (.tup xs)from I.hok a _ ea)
  obtain⟨o,h1,h2,_⟩:=p
  exact PySem.W.kia_one PySem.W.kitx_tuple I.kIn ⟨o,h1,h2⟩ e (fun z=>nomatch z) h
 | @dK a kvs ea=>
  cases(show u=Value.ref a from rx)
  obtain⟨_,_,vs,_,p⟩:=(show bo X.prog X.w H s.heap a (.dK kvs)from I.hok a _ ea)
  obtain⟨o,es,ep,h1,h2,_⟩:=p
  exact PySem.W.kia_one PySem.W.kitx_dict I.kIn ⟨o,h1,h2.1⟩ e (fun z=>nomatch z) h
 | @dT a kvs ea=>
  cases(show u=Value.ref a from rx)
  obtain⟨_,_,xs,_,o,es,ep,h1,h2,_⟩:=(show bo X.prog X.w H s.heap a (.dT kvs)from I.hok a _ ea)
  exact PySem.W.kia_one PySem.W.kitx_dict I.kIn ⟨o,h1,h2.1⟩ e (fun z=>nomatch z) h
 | @ins a C dx fs ea cl ha hn htk hm=>
  cases(show u=Value.ref a from rx)
  obtain⟨mA,O,_⟩:=yN I.hok ea
  obtain⟨od,J,_⟩:=O.look
  exact PySem.W.kia_one (PySem.W.kitx_own (cl.get _) cl.hd ha hn htk hm) I.kIn J e (fun z=>nomatch z) h
end
end L2
namespace L2
open PySem PySem.Spec PyProof.Rows
structure Room(k:Nat)(A:Around):Prop where
 hd:A.handled=none
 dp:A.depth+3*k+5<recursionLimit
 un:A.units+16*k+200<cLine
theorem Room.mono{j k:Nat}{A:Around}(r:Room k A)(h:j<=k):Room j A:=⟨r.hd,by have:=r.dp;omega,by have:=r.un;omega⟩
theorem Room.deeper{k:Nat}{A:Around}(r:Room (k+1) A)(env:Env):Room k (A.deeper env):=
 ⟨r.hd,by have:=r.dp;show A.depth+1+3*k+5<_;omega,by have:=r.un;show A.units+3+16*k+200<_;omega⟩
theorem Room.depth{k:Nat}{A:Around}(r:Room k A):A.depth<recursionLimit:=by have:=r.dp;omega
theorem Room.units{k:Nat}{A:Around}(r:Room k A):A.units+64<cLine:=by have:=r.un;omega
def mS:TA:=fun _ H Q=>Q [] H
def lr(ta:TE)(tr:TA):TA:=fun σ H Q=>ta σ H fun x H1=>tr σ H1 fun xs H2=>Q (x::xs) H2
section
variable {X:Cx} {e:Expr} {es:List Expr} {te:TE} {t:TA} {pos:Pos}
theorem ae:PA X [] mS:=fun _ _ _ _ H Q I h=>Calls.spliced_nil ⟨[],H,I,.nil,h⟩
theorem aa(ha:PE X e te)(hr:PA X es t)(hs:starEach (e::es) X.env=(false,eval e X.env)::starEach es X.env:=by rfl):PA X (e::es) (lr te t):=by
 intro pos pins s σ H Q I h
 rw[hs]
 show wpAny _ _ (spliced ((false,eval e X.env)::backTo pos (starEach es X.env))) _ _ s
 refine Calls.spliced_cons (ay (ha pins s σ H _ I h) fun u s1 ⟨x,H1,I1,r1,q1⟩=>?_)
 exact ay (hr pos pins s1 σ H1 _ I1 q1) fun us s2 ⟨xs,H2,I2,r2,q2⟩=>⟨x::xs,H2,I2,.cons r1 r2,q2⟩
def m8(t:TA):TE:=fun σ H Q=>t σ H fun xs H1=>xs.length<=sizeLine/\∀p,H1 p=none->Q (.ref p) (upd H1 p (.tup xs))
def tu(t:TA):TE:=fun σ H Q=>t σ H fun xs H1=>xs.length<=sizeLine/\∀p,H1 p=none->Q (.ref p) (upd H1 p (.lst xs))
theorem aM{x1}(h:PA X es t):PE X (.Tuple es x1 pos) (m8 t):=by
 intro pins s σ H Q I hq
 refine wpAny_Tuple_spliced (ay (h pos pins s σ H _ I hq) fun us s1 ⟨xs,H1,I1,r,z,q⟩=>⟨by rw[←r.length];exact z,?_⟩)
 have hf:H1 s1.heap.objs.size=none:=I1.hok.fresh (Ep _)
 refine⟨.ref s1.heap.objs.size,upd H1 s1.heap.objs.size (.tup xs),I1.laid (t':=s1.toks) (fun b u e=>DT _ e) (Ep _) ?_,rfl,q _ hf⟩
 exact⟨z,us,r,⟨_,DU _ rfl,rfl,_,rfl⟩⟩
theorem bJ(h:PA X es t):PE X (.List es pos) (tu t):=by
 intro pins s σ H Q I hq
 refine wpAny_List_spliced (ay (h pos pins s σ H _ I hq) fun us s1 ⟨xs,H1,I1,r,z,q⟩=>⟨by rw[←r.length];exact z,?_⟩)
 have hf:H1 s1.heap.objs.size=none:=I1.hok.fresh (Ep _)
 refine⟨.ref s1.heap.objs.size,upd H1 s1.heap.objs.size (.lst xs),I1.laid (t':=s1.toks) (fun b u e=>DT _ e) (Ep _) ?_,rfl,q _ hf⟩
 exact⟨z,us,0,r,DU _ rfl⟩
end
abbrev Sp:=List V->Hp->VK->XK->Prop
abbrev fF:=List Env->Hp->Shared->XK->Value->Shared->Prop
structure Env0(P:Program)(w:World)(K:DS)(mg:Str->Option Value)(base:Heap)(A:Around)(outer:List Env)(s:Shared)(H:Hp):Prop where
 frames:A.frames=some outer
 mod:Mod K mg base
 bs:∀b o,base.get? b=some o->s.heap.get? b=some o/\H b=none
 bsz:base.objs.size<=s.heap.objs.size
 funs:s.heap.FunFrames base outer
 frf:∀b∈cJ outer,H b=none
 hok:aY P w H s.heap
 bare:AllBare s.gens
def CE(outer:List Env)(P:Program)(w:World)(H:Hp)(s:Shared)(Q:VK)(u:Value)(s':Shared):Prop:=
 ∃v H',s'.os=s.os/\AllBare s'.gens/\Un (cJ outer) [] H H' s.heap s'.heap/\aY P w H' s'.heap/\RelV v u/\Q v H'
def CR(CX:fF)(outer:List Env)(P:Program)(w:World)(H:Hp)(s:Shared)(Q:VK)(E:XK)(r:Result)(s':Shared):Prop:=
 match r with
 | .ok (.ret u)=>CE outer P w H s Q u s'
 | .ok _=>False
 | .error e=>CX outer H s E e s'
structure FnOk(P:Program)(w:World)(K:DS)(mg:Str->Option Value)(base:Heap)(CX:fF)(k:Nat)(f:Addr)(fd:FuncData)(ps:List Str)(sp:Sp):Prop where
 len:∀vs H Q E,sp vs H Q E->vs.length=ps.length
 run:∀(A:Around) (outer:List Env) (s:Shared) (H:Hp) (args:Args) (us:List Value) (vs:List V) (Q:VK) (E:XK),Room k A->Env0 P w K mg base A outer s H->BindsTo s fd args (ps.zip us)->Vals vs us->sp vs H Q E →
  codeAny (model P w) A (.call (.ref f) args) (CR CX outer P w H s Q E) s
section
variable {X:Cx} {pins:List (Addr×Obj)} {σ:St} {H:Hp} {s s':Shared}
theorem Inv.env0(I:Inv X pins σ H s):Env0 X.prog X.w X.K X.mg X.base X.A X.stack s H:=
 ⟨I.ok.frames,I.ok.mod,I.bs,EE I.ok.bsz I.sz,I.stack,I.stkFree,I.hok,I.bare⟩
theorem Inv.after{Q:VK}{u:Value}(I:Inv X pins σ H s)(h:CE X.stack X.prog X.w H s Q u s'):EP X pins σ Q u s':=by
 obtain⟨v,H',os,bare,un,hok,r,q⟩:=h
 obtain⟨hh,g,d,t,os'⟩:=s'
 obtain rfl:os'=s.os:=os
 exact⟨v,H',I.call (h':=hh) (g':=g) (d':=d) (t':=t) (ch:=[]) un hok bare (fun b z=>absurd z (by simp)),r,q⟩
end
def lT(sp:Sp)(dvs:List V)(E:XK)(t:TA):TE:=fun σ H Q=>t σ H fun vs H1=>sp (vs++dvs) H1 Q E
def Binds(K:DS)(fd:FuncData)(ps:List Str)(ds:List Value):Prop:=
 ∀(s:Shared) (us:List Value),K.In s.heap->(us++ds).length=ps.length->BindsTo s fd ⟨us,[]⟩ (ps.zip (us++ds))
theorem Binds.all{K:DS}{fd:FuncData}{ps:List Str}(h:∀us:List Value,us.length=ps.length->bindArgs fd ⟨us,[]⟩=pure (ps.zip us)):Binds K fd ps []:=fun s us _ hl=>by
 rw[List.append_nil]at hl ⊢
 exact .of_eq (h us hl)
def Passes(CX:fF)(X:Cx)(E:XK):Prop:=∀(pins:List (Addr×Obj)) (σ:St) (H:Hp) (s:Shared) (e:Value) (s':Shared),Inv X pins σ H s->CX X.stack H s E e s'->X.xe e s'
section
variable {X:Cx} {CX:fF} {k:Nat} {f C:Addr} {fd:FuncData} {ps:List Str} {sp:Sp} {dvs:List V} {ds:List Value} {E:XK} {x m:Str} {p pos apos:Pos} {e o:Expr} {es:List Expr} {ta:TE} {t:TA}
theorem Bs{pins:List (Addr×Obj)}{σ:St}{H:Hp}{s:Shared}{Q:VK}{us:List Value}{vs:List V}(F:FnOk X.prog X.w X.K X.mg X.base CX k f fd ps sp)(hr:Room k X.A)(hb:Binds X.K fd ps ds)(hd:Vals dvs ds)(hx:Passes CX X E)
  (I:Inv X pins σ H s) (r:Vals vs us) (h:sp (vs++dvs) H Q E):wpAny (model X.prog X.w) X.A (call (.ref f) us) (EP X pins σ Q) X.xe s:=by
 have r2:Vals (vs++dvs) (us++ds):=r.append hd
 have hl:(us++ds).length=ps.length:=by rw[←r2.length];exact F.len _ _ _ _ h
 refine wpAny_call (codeAny_mono (F.run X.A X.stack s H ⟨us,[]⟩ (us++ds) (vs++dvs) Q E hr I.env0 (hb s us I.kIn hl) r2 h) fun r s' hq=>?_)
 cases r with
 | error e=>exact hx pins σ H s e s' I hq
 | ok fl=>
  cases fl with
  | ret u=>exact I.after hq
  | next=>exact False.elim hq
  | brk=>exact False.elim hq
  | cont=>exact False.elim hq
theorem yr(F:FnOk X.prog X.w X.K X.mg X.base CX k f fd ps sp)(hr:Room k X.A)(hg:Gl X x)(hm:X.mg x=some (.ref f))(hk:PySem.W.keepIn X.K (.ref f)=true)(hb:Binds X.K fd ps ds)(hd:Vals dvs ds)(hx:Passes CX X E)
  (ha:PA X (e::es) t) (hdb:(x == ("__debug__":Str))=false:=by decide) (he:starEach (e::es) X.env=(false,eval e X.env)::starEach es X.env:=by rfl) (hpl:(backTo pos (starEach es X.env)).any (·.1)=false:=by rfl) :
  PE X (.Call (.Name x p) (e::es) [] pos) (lT sp dvs E t):=by
 intro pins s σ H Q I h
 refine wpAny_Call_Name_kw (iW I hg hm ?_ hdb)
 refine PySem.W.callWith_K (h₀:=X.base) I.ok.mod.kin hk (ay (ha pos pins s σ H _ I h) fun us s1 ⟨vs,H1,I1,r,q⟩=>⟨I1.kIn,?_⟩) he hpl
 exact Bs F hr hb hd hx I1 r q
end
section
variable {X:Cx} {CX:fF} {k:Nat} {f C:Addr} {fd:FuncData} {ps ks:List Str} {sp:Sp} {E:XK} {x m:Str} {p pos apos kpos:Pos} {e o:Expr} {es:List Expr} {kws:List Keyword} {te ta:TE} {t tk:TA} {nm:Option Str}
variable {g:List Value->List Value->List Value} {gV:List V->List V->List V}
end
structure FnScope(N P:List Str)(sc:Scope):Prop where
 kind:sc.kind=.function
 co:sc.isCoroutine=false
 gen:sc.isGenerator=false
 nd:N.Nodup
 pre:N.take P.length=P
 par:∀x∈P,sc.names.lookup x=some .local\/sc.names.lookup x=some .cell
 nofree:∀y∈sc.names,y.2≠.free
theorem pT{kindOf:Str->Option NameKind}{x:Str}:∀{binds:List (Str×Value)} {m:Str->Option Value},(∀v,(x,v)∉binds)->bindL kindOf binds m x=m x
 | [],_,_=>rfl
 | (n,v)::r,m,h=>by
  unfold bindL
  rw[pT fun w hw=>h w (DZ _ hw)]
  split
  ·have:x≠n:=by rintro rfl;exact h v Ec
   simp[this]
  ·rfl
theorem sk{kindOf:Str->Option NameKind}{x:Str}:∀{binds:List (Str×Value)} {m:Str->Option Value},(∀v,(x,v)∉binds)->bindC kindOf binds m x=m x
 | [],_,_=>rfl
 | (n,v)::r,m,h=>by
  unfold bindC
  rw[sk fun w hw=>h w (DZ _ hw)]
  split
  ·rfl
  ·have:x≠n:=by rintro rfl;exact h v Ec
   simp[this]
theorem m7{kindOf:Str->Option NameKind}{x:Str}{v:Value}:∀{P:List Str} {vs:List Value} {i:Nat} {m:Str->Option Value},P.Nodup->P[i]?=some x->vs[i]?=some v->kindOf x=some .local →
  bindL kindOf (P.zip vs) m x=some v
 | [],_,_,_,_,h,_,_=>by simp at h
 | _::_,[],_,_,_,_,h,_=>by simp at h
 | p::P,w::vs,0,m,nd,h1,h2,hk=>by
  simp at h1 h2;subst h1;subst h2
  show bindL kindOf ((p,w)::P.zip vs) m p=_
  unfold bindL
  rw[pT fun v hv=>(List.nodup_cons.mp nd).1 (List.of_mem_zip hv).1,if_pos hk]
  simp
 | p::P,w::vs,i+1,m,nd,h1,h2,hk=>by
  show bindL kindOf ((p,w)::P.zip vs) m x=_
  unfold bindL
  exact m7 (i:=i) (List.nodup_cons.mp nd).2 (by simpa using h1) (by simpa using h2) hk
theorem m5{kindOf:Str->Option NameKind}{x:Str}{v:Value}:∀{P:List Str} {vs:List Value} {i:Nat} {m:Str->Option Value},P.Nodup->P[i]?=some x->vs[i]?=some v->kindOf x≠some .local →
  bindC kindOf (P.zip vs) m x=some v
 | [],_,_,_,_,h,_,_=>by simp at h
 | _::_,[],_,_,_,_,h,_=>by simp at h
 | p::P,w::vs,0,m,nd,h1,h2,hk=>by
  simp at h1 h2;subst h1;subst h2
  show bindC kindOf ((p,w)::P.zip vs) m p=_
  unfold bindC
  rw[sk fun v hv=>(List.nodup_cons.mp nd).1 (List.of_mem_zip hv).1,if_neg hk]
  simp
 | p::P,w::vs,i+1,m,nd,h1,h2,hk=>by
  show bindC kindOf ((p,w)::P.zip vs) m x=_
  unfold bindC
  exact m5 (i:=i) (List.nodup_cons.mp nd).2 (by simpa using h1) (by simpa using h2) hk
def start(N:List Str)(vs:List V):St:=vs.map some++List.replicate (N.length-vs.length) none
def fR(CX:fF)(P:Program)(w:World)(K:DS)(mg:Str->Option Value)(base:Heap)(N:List Str)(qual:Str)(scope:Scope)(f:Addr)(cd:Value)(A:Around)(outer:List Env)(s:Shared)(H:Hp)(E:XK):Cx where
 prog:=P
 w:=w
 K:=K
 mg:=mg
 base:=base
 A:=A.deeper (envOfC qual scope s.heap.objs.size f cd)
 N:=N
 s₀:=s
 H₀:=H
 env:=envOfC qual scope s.heap.objs.size f cd
 outer:=outer
 stack:=envOfC qual scope s.heap.objs.size f cd::outer
 ex:=[]
 calm:=true
 fn:=fun _=>true
 pn:=[]
 xe:=fun e s'=>wpAny (model P w) (A.deeper (envOfC qual scope s.heap.objs.size f cd)) (leaving (envOfC qual scope s.heap.objs.size f cd) e) (fun _ s''=>CX outer H s E e s'') (fun e' s''=>CX outer H s E e' s'') s'
theorem wM{sc:Scope}{n:Nat}{x:Str}(h:sc.names.lookup x=some .cell):∃c,(cellsFrom n sc.names []).lookup x=some c:=by
 have q:=PySem.W.cellsFrom_some sc.names n [] (.inl h)
 exact Option.isSome_iff_exists.mp q
theorem CA{CX:fF}{P:Program}{w:World}{K:DS}{mg:Str->Option Value}{base:Heap}{N ps:List Str}{qual:Str}{scope:Scope}{f:Addr}{cd:Value}{A:Around}{outer:List Env}{s s1:Shared}{H:Hp}{E:XK}{us:List Value}{vs:List V}
  (S:FnScope N ps scope) (hd:A.handled=none) (e0:Env0 P w K mg base A outer s H) (hl:vs.length=ps.length) (r:Vals vs us)
  (x:InCallC s s.heap.objs.size (bindL (envOfC qual scope s.heap.objs.size f cd).kindOf (ps.zip us) fun _=>none) (cellsFrom (s.heap.objs.size+1) scope.names []) (bindC (envOfC qual scope s.heap.objs.size f cd).kindOf (ps.zip us) fun _=>none) s1) :
  Inv (fR CX P w K mg base N qual scope f cd A outer s H E) [] (start N vs) H s1:=by
 have hpl:ps.length<=N.length:=by have:=congrArg List.length S.pre;rw[List.length_take]at this;omega
 obtain⟨h1,tk,rfl,hk⟩:=x.done
 have noA:∀b:Addr,b∉(fR CX P w K mg base N qual scope f cd A outer s H E).ex:=fun b z=>absurd (show b∈([]:List Addr)from z) (by simp)
 refine⟨⟨e0.mod,S.kind,rfl,rfl,Ep _,fun y z c h1 h2=>?_,fun y hy=>?_,fun y c _ h=>?_,fun _=>hd,Around.frames_deeper e0.frames,.inr ⟨rfl,rfl⟩,fun b z=>absurd z (noA b),e0.bs,e0.bsz,fun b _ _=>noA b,fun b z=>absurd z (noA b),e0.funs,e0.frf⟩,
  rfl,e0.bare,Un.kept hk,⟨_,x.toInCall.ns,fun i y v h1 h2 h3=>?_⟩,fun y c h=>⟨_,x.cell y c h⟩,e0.hok.fresh (Ep _),fun y c h=>?_,fun p hp=>absurd (show p∈([]:List (Addr×Obj))from hp) (by simp),e0.hok.kept hk,?_⟩
 ·exact name_of_addr x.apart (PySem.mem_of_lookup h1) (PySem.mem_of_lookup h2)
 ·have hy:scope.names.lookup y=some .cell\/scope.names.lookup y=some .free:=hy
  rcases hy with hy | hy
  ·exact wM hy
  ·exact absurd rfl (S.nofree _ (PySem.mem_of_lookup hy))
 ·exact Nat.le_of_lt (x.above y c (PySem.mem_of_lookup h))
 ·have hi:i<vs.length:=by
   unfold start at h2
   by_cases hi:i<vs.length
   ·exact hi
   ·rw[Ex (by simpa using hi)]at h2
    rw[List.getElem?_replicate]at h2
    split at h2<;>cases h2
  have ha:vs[i]?=some v:=by
   unfold start at h2
   rw[Ey (by simpa using hi),DY]at h2
   cases e:vs[i]? with
   | none=>rw[e]at h2;cases h2
   | some a=>rw[e]at h2;cases h2;rfl
  obtain⟨u,hu,rv⟩:=r.get ha
  have hp:ps[i]?=some y:=by
   rw[←S.pre,List.getElem?_take_of_lt (by omega)];exact h1
  have ndP:ps.Nodup:=by rw[←S.pre];exact S.nd.sublist (List.take_sublist _ _)
  refine⟨u,rv,?_⟩
  rcases S.par y (Ef hp)with k | k
  ·exact .inl ⟨k,m7 ndP hp hu k⟩
  ·obtain⟨c,e⟩:=wM (n:=s.heap.objs.size+1) k
   refine .inr ⟨.inl k,c,e,?_⟩
   have q:=x.cell y c e
   rw[m5 ndP hp hu (by show scope.names.lookup y≠_;rw[k];decide)]at q
   exact q
 ·exact e0.hok.fresh (Nat.le_of_lt (x.above y c (PySem.mem_of_lookup h)))
 ·unfold start
  show _=N.length
  rw[En,DW,List.length_replicate]
  omega
theorem uo{CX:fF}{P:Program}{w:World}{K:DS}{mg:Str->Option Value}{base:Heap}{k:Nat}{f:Addr}{name qual:Str}{params:Arguments}{body:List Stmt}{scope:Scope}{dV kV doc pm cdv ct oc:Value}{an od:Option Addr}
  {osl:Array (Option Value)} {N ps:List Str} {sp:Sp} (lk:K.lookup f=some ⟨oc,od,.func (PySem.W.fnOf name qual params body scope dV kV doc pm an cdv ct),osl⟩) (hcd:PySem.W.codeIn K cdv qual=true) (S:FnScope N ps scope)
  (len:∀vs H Q E,sp vs H Q E->vs.length=ps.length)
  (hbody:∀(A:Around) (outer:List Env) (s:Shared) (H:Hp) (vs:List V) (Q:VK) (E:XK),Room k (A.deeper (envOfC qual scope s.heap.objs.size f cdv))->sp vs H Q E →
   ∃t,cq (fR CX P w K mg base N qual scope f cdv A outer s H E) body t/\t { nx:=fun _ H'=>Q .non H',rt:=Q } (start N vs) H) :
  FnOk P w K mg base CX (k+1) f (PySem.W.fnOf name qual params body scope dV kV doc pm an cdv ct) ps sp:=by
 refine⟨len,fun A outer s H args us vs Q E hr e0 hb r hsp=>?_⟩
 have hl:=len _ _ _ _ hsp
 have KX:K.In s.heap:=e0.mod.kin.keeps fun b o e=>(e0.bs b o e).1
 have lim:s.heap.NoLimit:=e0.mod.nolimit.keeps fun b o e=>(e0.bs b o e).1
 have hkind:∀y∈ps.zip us,scope.names.lookup y.1=some .local\/(scope.names.lookup y.1=some .cell/\((cellsFrom (s.heap.objs.size+1) scope.names []).lookup y.1).isSome=true):=fun⟨n,v⟩ hy=>by
  rcases S.par n (List.of_mem_zip hy).1 with q | q
  ·exact .inl q
  ·exact .inr ⟨q,PySem.W.cellsFrom_some _ _ _ (.inl q)⟩
 refine codeAny_call_function hr.depth (KX _ _ lk) rfl S.co S.gen rfl (PySem.W.codeRec_of KX hcd) (hb _ _ _ _ ?_)
 refine wpAny_newFunctionEnv_cells S.kind hkind fun env he s1 x=>?_
 subst he
 refine⟨lim.keeps x.toInCall.keep,codeAny_func ?_⟩
 obtain⟨t,ht,hq⟩:=hbody A outer s H vs Q E (hr.deeper _) hsp
 have I:Inv (fR CX P w K mg base N qual scope f cdv A outer s H E) [] (start N vs) H s1:=CA S hr.hd e0 hl r x
 refine wpAny_mono (ht [] s1 (start N vs) H _ I hq) (fun fl s' hs=>?_) fun e s' hs=>hs
 have fin:∀{σ':St} {H':Hp} {v:V} {u:Value},Inv (fR CX P w K mg base N qual scope f cdv A outer s H E) [] σ' H' s'->RelV v u->Q v H'->CE outer P w H s Q u s':=
  fun{σ' H' v u} J rv q=>⟨v,H',J.os,J.bare,J.base,J.hok,rv,q⟩
 cases fl with
 | ret u=>
  obtain⟨v,σ',H',J,rv,q⟩:=hs
  exact fin J rv q
 | next=>
  obtain⟨σ',H',J,q⟩:=hs
  exact fin (v:=V.non) (u:=Value.none) J rfl q
 | brk=>
  obtain⟨_,_,_,q⟩:=hs
  exact False.elim q
 | cont=>
  obtain⟨_,_,_,q⟩:=hs
  exact False.elim q
end L2
namespace L2
open PySem PySem.Spec PyProof.Rows
section
variable {X:Cx} {x:Str} {p pos:Pos} {e:Expr} {es:List Expr} {t:TA} {id T:String} {r:List V->Hp->VK->Prop}
def jM(r:List V->Hp->VK->Prop)(t:TA):TE:=fun σ H Q=>t σ H fun vs H1=>r vs H1 Q
theorem bc(hc:bV X (.builtin id) r)(hg:Gl X x)(hm:X.mg x=none)(hv:bootBuiltins x=some (.builtin id))(ha:PA X (e::es) t)(hn:x≠"__name__":=by decide)(hdb:(x == ("__debug__":Str))=false:=by decide)
  (he:starEach (e::es) X.env=(false,eval e X.env)::starEach es X.env:=by rfl) (hpl:(backTo pos (starEach es X.env)).any (·.1)=false:=by rfl):PE X (.Call (.Name x p) (e::es) [] pos) (jM r t):=by
 intro pins s σ H Q I h
 refine wpAny_Call_Name_kw (fL I hg hm hv ?_ hn hdb)
 exact PyProof.Rows.callWith_builtin1 (ay (ha pos pins s σ H _ I h) fun us s1 ⟨vs,H1,I1,r1,q1⟩=>hc pins s1 σ H1 vs us Q I1 r1 q1) he hpl
theorem gW(hc:bV X (.type T) r)(hg:Gl X x)(hm:X.mg x=none)(hv:bootBuiltins x=some (.type T))(ha:PA X (e::es) t)(hn:x≠"__name__":=by decide)(hdb:(x == ("__debug__":Str))=false:=by decide)
  (he:starEach (e::es) X.env=(false,eval e X.env)::starEach es X.env:=by rfl) (hpl:(backTo pos (starEach es X.env)).any (·.1)=false:=by rfl):PE X (.Call (.Name x p) (e::es) [] pos) (jM r t):=by
 intro pins s σ H Q I h
 refine wpAny_Call_Name_kw (fL I hg hm hv ?_ hn hdb)
 exact PyProof.Rows.callWith_type1 (ay (ha pos pins s σ H _ I h) fun us s1 ⟨vs,H1,I1,r1,q1⟩=>hc pins s1 σ H1 vs us Q I1 r1 q1) he hpl
end
end L2
namespace HT
open PySem PyProof.Rows
section
open PySem.SeqAt
open PySem.AutoSeq1 (wpAny_loadPart')
open PySem.MeetsSeq PySem.MeetsSeq2 PySem.MeetsSeq3
end
section
variable {prog:Program} {w:World} {A:Around} {E:Value->Shared->Prop} {s:Shared}
def b6(n d:Nat):Option Int->Nat
 | none=>d
 | some v=>if v<0 then(v+(n:Int)).toNat else min v.toNat n
theorem ux(n d:Nat):b6 n d none=d:=rfl
end
end HT
namespace L2
open PySem PySem.Spec PyProof.Rows
abbrev TO:=St->Hp->(Option Int->Hp->Prop)->Prop
def PO(X:Cx)(e:Option Expr)(t:TO):Prop:=
 ∀(pins:List (Addr×Obj)) (s:Shared) (σ:St) (H:Hp) (Q:Option Int->Hp->Prop),Inv X pins σ H s->t σ H Q →
  wpAny (model X.prog X.w) X.A (evalPart e X.env) (fun u s'=>∃o H',Inv X pins σ H' s'/\IsPart u o/\Q o H') X.xe s
def qI:TO:=fun _ H Q=>Q none H
def p6(t:TE):TO:=fun σ H Q=>t σ H fun x H1=>∃i,x=.int i/\Q (some i) H1
section
variable {X:Cx} {e:Expr} {te:TE} {lo hi:Option Expr} {tl th:TO} {pos p2:Pos}
theorem lj:PO X none qI:=by
 intro pins s σ H Q I h
 rw[evalPart_none]
 exact DR ⟨none,H,I,.none,h⟩
theorem jD(h:PE X e te):PO X (some e) (p6 te):=by
 intro pins s σ H Q I hw
 rw[evalPart_some]
 refine ay (h pins s σ H _ I hw) fun u s1 ⟨x,H1,I1,r1,q1⟩=>?_
 obtain⟨i,rfl,q⟩:=q1
 obtain⟨t,rfl⟩:=r1
 exact⟨some i,H1,I1,.int i t,q⟩
def mP(X:Cx)(r:V->Option Int->Option Int->Hp->VK->Prop):Prop:=
 ∀(pins:List (Addr×Obj)) (s:Shared) (σ:St) (H:Hp) (x:V) (v vl vu:Value) (lo hi:Option Int) (sl:Addr) (Q:VK),Inv X pins σ H s->RelV x v->s.heap.IsSliceOf sl vl vu .none->IsPart vl lo->IsPart vu hi->r x lo hi H Q →
  ∃T id,typeLookup (.type T) "__getitem__" = pure (some (.builtin id))/\s.TypeIs v T/\wpAny (model X.prog X.w) X.A (getItem v (.ref sl)) (EP X pins σ Q) X.xe s
def pQ(r:V->Option Int->Option Int->Hp->VK->Prop)(te:TE)(tl th:TO):TE:=fun σ H Q=>te σ H fun x H1=>tl σ H1 fun l H2=>th σ H2 fun u H3=>r x l u H3 Q
theorem ky{r:V->Option Int->Option Int->Hp->VK->Prop}(hr:mP X r)(he:PE X e te)(hl:PO X lo tl)(hu:PO X hi th):PE X (.Subscript e (.Slice lo hi none p2) pos) (pQ r te tl th):=by
 intro pins s σ H Q I h
 refine Subscript_ (ay (he pins s σ H _ I h) fun v s1 ⟨x,H1,I1,r1,q1⟩=>?_)
 refine wpAny_Slice (ay (hl pins s1 σ H1 _ I1 q1) fun vl s2 ⟨l,H2,I2,pl,q2⟩=>ay (hu pins s2 σ H2 _ I2 q2) fun vu s3 ⟨u,H3,I3,pu,q3⟩=>?_)
 rw[evalPart_none]
 refine DR ?_
 have I4:Inv X pins σ H3 { s3 with heap:=s3.heap.push { cls:=.type "slice",data:=.fields #[vl,vu,.none] } }:=I3.kept (t':=s3.toks) fun b ob q=>DT _ q
 obtain⟨T,id,hT,ht,hg⟩:=hr pins { s3 with heap:=s3.heap.push { cls:=.type "slice",data:=.fields #[vl,vu,.none] } } σ H3 x v vl vu l u s3.heap.objs.size Q I4 r1 (Heap.IsSliceOf.new ..) pl pu q3
 show wpAny (model X.prog X.w) X.A (subscriptTail e (.Slice lo hi none p2) v (.ref s3.heap.objs.size)) (EP X pins σ Q) X.xe { s3 with heap:=s3.heap.push { cls:=.type "slice",data:=.fields #[vl,vu,.none] } }
 exact tail_any (ops:=[.ref s3.heap.objs.size,v]) ht hT hg (by with_unfolding_all rfl)
def dU(xs:List V)(lo hi:Option Int):List V:=(xs.drop (HT.b6 xs.length 0 lo)).take (HT.b6 xs.length xs.length hi-HT.b6 xs.length 0 lo)
theorem zN(xs:List V)(lo hi:Option Int):(dU xs lo hi).length<=xs.length:=by
 unfold dU
 rw[List.length_take,List.length_drop]
 omega
end
end L2
namespace L2
open PySem PySem.Spec PyProof.Rows
def de(n:Nat)(i:Int):Option Nat:=if 0<=i then(if i<n then some i.toNat else none)else if -(n:Int)<=i then some (i+n).toNat else none
def bA{α:Type}(xs:List α)(i:Int):Option α:=(de xs.length i).bind fun j=>xs[j]?
theorem vi{n:Nat}{i:Int}{j:Nat}(h:de n i=some j):seqIndex? i n=some j/\j<n/\-(n:Int)<=i/\i<n:=by
 unfold de at h
 by_cases h0:0<=i
 ·rw[if_pos h0]at h
  by_cases h1:i<n
  ·rw[if_pos h1]at h
   have e:i.toNat=j:=Option.some.inj h
   exact⟨by rw[seqIndex_of h0 h1,e],by omega,by omega,h1⟩
  ·rw[if_neg h1]at h;cases h
 ·rw[if_neg h0]at h
  by_cases h1:-(n:Int)<=i
  ·rw[if_pos h1]at h
   have e:(i+n).toNat=j:=Option.some.inj h
   exact⟨by rw[seqIndex_neg (by omega) h1,e],by omega,h1,by omega⟩
  ·rw[if_neg h1]at h;cases h
theorem sO{α:Type}{xs:List α}{i:Int}{v:α}(h:bA xs i=some v):∃j,seqIndex? i xs.length=some j/\xs[j]?=some v/\j<xs.length/\-(xs.length:Int)<=i/\i<xs.length:=by
 unfold bA at h
 cases e:de xs.length i with
 | none=>rw[e]at h;cases h
 | some j=>
  rw[e]at h
  obtain⟨h1,h2,h3,h4⟩:=vi e
  exact⟨j,h1,h,h2,h3,h4⟩
theorem dX{α:Type}{xs:List α}{j:Nat}{v:α}(h:xs[j]?=some v):bA xs (j:Int)=some v:=by
 have hj:j<xs.length:=(Ee.mp h).1
 have e:de xs.length (j:Int)=some j:=by
  unfold de
  rw[if_pos (by omega),if_pos (by omega)];simp
 unfold bA;rw[e];exact h
theorem wc{α:Type}(xs:List α)(v:α):bA (xs++[v]) (-1)=some v:=by
 have hl:(xs++[v]).length=xs.length+1:=by simp
 have e:de (xs++[v]).length (-1)=some xs.length:=by
  unfold de
  rw[hl,if_neg (by decide),if_pos (by omega)]
  congr 1
  omega
 unfold bA
 rw[e]
 show(xs++[v])[xs.length]?=some v
 simp
def Ac(b:Expr):Prop:=∀o i,subscripted b false o i=operate [o,i] (getItem o i)
def jg(X:Cx)(r:R2):Prop:=
 ∀(value slice:Expr) (pins:List (Addr×Obj)) (s:Shared) (σ:St) (H:Hp) (x y:V) (v u:Value) (Q:VK),Inv X pins σ H s->RelV x v->RelV y u->r x y H Q →
  subscripted slice false v u=operate [v,u] (getItem v u)->wpAny (model X.prog X.w) X.A (subscriptTail value slice v u) (EP X pins σ Q) X.xe s
def mZ(X:Cx)(id:String)(r:V->List V->Hp->VK->Prop):Prop:=
 ∀(pins:List (Addr×Obj)) (s:Shared) (σ:St) (H:Hp) (x:V) (xs:List V) (v:Value) (us:List Value) (Q:VK),Inv X pins σ H s->RelV x v->Vals xs us->r x xs H Q →
  wpAny (model X.prog X.w) X.A (call (.builtin id) (v::us)) (EP X pins σ Q) X.xe s
section
variable {X:Cx} {a b:Expr} {ta tb:TE} {pos:Pos}
theorem ai{r:R2}(hr:jg X r)(ha:PE X a ta)(hb:PE X b tb)(hs:Ac b):PE X (.Subscript a b pos) (gN r ta tb):=by
 intro pins s σ H Q I h
 exact Subscript_ (mV ha hb I h fun v u s2 x y H2 I2 rx ry q=>hr a b pins s2 σ H2 x y v u Q I2 rx ry q (hs _ _))
def mj(K:DS):R2:=fun x y H Q=>∃p xs i v,x=.ref p/\y=.int i/\ag K H p xs/\bA xs i=some v/\Q v H
def nz(K:DS):R2:=fun x y H Q=>∃p xs i v,x=.ref p/\y=.int i/\ah K H p xs/\bA xs i=some v/\Q v H
theorem zV:jg X (mj X.K):=by
 intro value slice pins s σ H x y v u Q I rx ry h hs
 obtain⟨p,xs,i,z,rfl,rfl,hq,he,q⟩:=h
 cases rx
 obtain⟨t,rfl⟩:=ry
 obtain⟨its,r,pl,hz⟩:=I.list hq
 obtain⟨j,h1,h2,h3,h4,h5⟩:=sO he
 obtain⟨w,ew,rw'⟩:=r.get h2
 have hl:=r.length
 have hn:=ip
 have fin:EP X pins σ Q w s:=⟨z,H,I,rw',q⟩
 by_cases h0:0<=i
 ·have hj:i.toNat=j:=by
   rw[seqIndex_of h0 h5]at h1
   exact Option.some.inj h1
  exact item_listR pl.isList h0 (by omega) (by rw[hj];simpa using ew) fin hs
 ·have hj:(i+(its.toArray.size:Int)).toNat=j:=by
   rw[seqIndex_neg (by omega) h4]at h1
   rw[Eb,←hl]
   exact Option.some.inj h1
  exact subscriptTail_builtinR (x:=w) pl.isList.typeIs slot_list_getitem.lookup
   (wpAny_getItem_list_neg (Q:=fun r s'=>r=w/\EP X pins σ Q r s') pl.isList (by omega) (by rw[Eb]<;>omega) (by omega) (by rw[hj];simpa using ew) ⟨rfl,fin⟩) hs
theorem Cd:jg X (nz X.K):=by
 intro value slice pins s σ H x y v u Q I rx ry h hs
 obtain⟨p,xs,i,z,rfl,rfl,hq,he,q⟩:=h
 cases rx
 obtain⟨t,rfl⟩:=ry
 obtain⟨its,r,pl,hz⟩:=I.tuple hq
 obtain⟨j,h1,h2,h3,h4,h5⟩:=sO he
 obtain⟨w,ew,rw'⟩:=r.get h2
 have hl:=r.length
 have hn:=ip
 have fin:EP X pins σ Q w s:=⟨z,H,I,rw',q⟩
 exact subscriptTail_builtinR (x:=w) pl.typeIs slot_tuple_getitem.lookup
  (getItem_tuple (j:=j) (Q:=fun r s'=>r=w/\EP X pins σ Q r s') pl (by omega) (by omega) (by rw[Eb,←hl];exact h1) (by simpa using ew) ⟨rfl,fin⟩) hs
theorem Co(its:List Value)(n j:Nat)(u:Value):Obj.mapSeq (·.setIfInBounds j u) { cls:=.type "list",data:=.seq its.toArray n }={ cls:=.type "list",data:=.seq (its.set j u).toArray n }:=by
 simp[Obj.mapSeq]
theorem Inv.lst{pins:List (Addr×Obj)}{σ:St}{H:Hp}{s:Shared}{p:Addr}{xs:List V}(I:Inv X pins σ H s)(h:H p=some (.lst xs)):
  ∃(its:List Value) (n:Nat),Vals xs its/\s.heap.get? p=some { cls:=.type "list",data:=.seq its.toArray n }/\xs.length<=sizeLine:=by
 obtain⟨z,its,n,r,e⟩:=I.hok p _ h
 exact⟨its,n,r,e,z⟩
theorem Inv.lstUpd{pins:List (Addr×Obj)}{σ:St}{H:Hp}{s:Shared}{p:Addr}{xs ys:List V}{its its':List Value}{n n':Nat}{f:Obj->Obj}(I:Inv X pins σ H s)(h:H p=some (.lst xs))
  (ho:s.heap.get? p=some { cls:=.type "list",data:=.seq its.toArray n }) (hf:f { cls:=.type "list",data:=.seq its.toArray n }={ cls:=.type "list",data:=.seq its'.toArray n' }) (r:Vals ys its') (hz:ys.length<=sizeLine) (t:Nat) :
  Inv X pins σ (upd H p (.lst ys)) { s with heap:=s.heap.update p f,toks:=t }:=by
 have e:(s.heap.update p f).get? p=some { cls:=.type "list",data:=.seq its'.toArray n' }:=by
  rw[Heap.get?_update_self f ho (by rw[hf]<;>rfl),hf]
 refine I.write (x:=p) (e:=p) (by rw[h];trivial) (.inl rfl) (fun b u hb q=>(Heap.get?_update_other _ _ (Ne.symm hb)).trans q) ⟨_,e⟩ ?_
 exact⟨hz,its',n',r,e⟩
def tX:V->V->V->Hp->(Hp->Prop)->Prop:=fun o i v H Q=>∃p xs k j,o=.ref p/\i=.int k/\H p=some (.lst xs)/\de xs.length k=some j/\Q (upd H p (.lst (xs.set j v)))
theorem set_list:uN X tX:=by
 intro pins s σ H o i v ov iv u Q I ro ri rv h
 obtain⟨p,xs,k,j,rfl,rfl,hp,hj,q⟩:=h
 cases ro
 obtain⟨t,rfl⟩:=ri
 obtain⟨its,n,r,ho,hz⟩:=I.lst hp
 obtain⟨h1,h2,h3,h4⟩:=vi hj
 have hl:=r.length
 have hn:=ip
 have I':Inv X pins σ (upd H p (.lst (xs.set j v))) { s with heap:=s.heap.update p (Obj.mapSeq (·.setIfInBounds j u)) }:=
  I.lstUpd hp ho (Co its n j u) (r.set rv j) (by rw[List.length_set];exact hz) s.toks
 by_cases h0:0<=k
 ·have hk:k.toNat=j:=by
   rw[seqIndex_of h0 h4]at h1
   exact Option.some.inj h1
  exact PySem.W.ki_setAt ho h0 (by omega) (by rw[Eb,←hl];exact h4) (by rw[hk];exact⟨_,I',q⟩)
 ·have hk:(k+(its.toArray.size:Int)).toNat=j:=by
   rw[seqIndex_neg (by omega) h3]at h1
   rw[Eb,←hl]
   exact Option.some.inj h1
  exact PySem.W.ki_setBack ho (by omega) (by rw[Eb,←hl];exact h3) (by omega) (by rw[hk];exact⟨_,I',q⟩)
theorem yi(lo hi:Option Int)(n:Nat):(sliceBounds lo hi none n).1=((HT.b6 n 0 lo:Nat):Int)/\(sliceBounds lo hi none n).2.1=((HT.b6 n n hi:Nat):Int)/\(sliceBounds lo hi none n).2.2=1:=by
 refine⟨?_,?_,rfl⟩
 ·cases lo with
  | none=>simp[sliceBounds,HT.b6]
  | some i=>
   simp only[sliceBounds,HT.b6,Option.getD_none,show (1:Int)>0 by decide,if_true]
   by_cases h:i<0
   ·simp only[h,if_true]<;>omega
   ·simp only[h,if_false]<;>omega
 ·cases hi with
  | none=>simp[sliceBounds,HT.b6]
  | some i=>
   simp only[sliceBounds,HT.b6,Option.getD_none,show (1:Int)>0 by decide,if_true]
   by_cases h:i<0
   ·simp only[h,if_true]<;>omega
   ·simp only[h,if_false]<;>omega
theorem Bf(its:List Value)(lo hi:Option Int):slicePick its.toArray lo hi none=((its.drop (HT.b6 its.length 0 lo)).take (HT.b6 its.length its.length hi-HT.b6 its.length 0 lo)).toArray:=by
 obtain⟨h1,h2,h3⟩:=yi lo hi its.toArray.size
 unfold slicePick
 rw[h1,h2,h3]
 simp only[sliceRange_one,pick_run,Eb]<;>rfl
def mC(K:DS):V->Option Int->Option Int->Hp->VK->Prop:=fun x lo hi H Q=>∃a xs,x=.ref a/\ag K H a xs/\∀p,H p=none->Q (.ref p) (upd H p (.lst (dU xs lo hi)))
theorem yj:mP X (mC X.K):=by
 intro pins s σ H x v vl vu lo hi sl Q I rx hs pl pu h
 obtain⟨a,xs,rfl,hx,q⟩:=h
 cases rx
 obtain⟨its,r,ht,hz⟩:=I.list hx
 have hlen:=r.length
 refine⟨"list",_,slot_list_getitem.lookup,ht.isList.typeIs,?_⟩
 refine wpAny_getItem_list_slice ht.isList hs pl pu .none (by simp) ?_ (by rw[Eb]<;>omega)
 rw[Bf,←hlen]
 refine⟨.ref s.heap.objs.size,_,I.laid (t':=s.toks) (o:=.lst (dU xs lo hi)) (fun b ob q=>DT _ q) (Ep _) ?_,rfl,q _ (I.hok.fresh (Ep _))⟩
 exact⟨EE (zN xs lo hi) hz,_,0,(r.drop (HT.b6 xs.length 0 lo)).take (HT.b6 xs.length xs.length hi-HT.b6 xs.length 0 lo),DU _ rfl⟩
def dW:V->Bool
 | .non=>true
 | .bl _=>true
 | .int _=>true
 | .str _=>true
 | _=>false
def fX:V->V->Bool
 | .non,.non=>true
 | .bl a,.bl b=>a == b
 | .bl a,.int b=>(if a then 1 else 0) == b
 | .int a,.bl b=>a == (if b then 1 else 0)
 | .int a,.int b=>a == b
 | .str a,.str b=>a == b
 | _,_=>false
theorem xT{A:Around}{s:Shared}{y x:V}{u v:Value}(ry:RelV y u)(rx:RelV x v)(fy:dW y=true)(fx:dW x=true):SeqAt.EqAt A s u v (fX y x):=by
 cases y with
 | non=>
  cases ry
  cases x with
  | non=>cases rx;exact SeqAt.EqAt.same _
  | bl b=>cases rx;exact SeqAt.EqAt.none_bool b
  | int b=>obtain⟨t,rfl⟩:=rx;exact SeqAt.EqAt.none_int b t
  | str b=>obtain⟨t,rfl⟩:=rx;exact SeqAt.EqAt.none_str b t
  | _=>exact absurd (show false=true from fx) El
 | bl a=>
  cases ry
  cases x with
  | non=>cases rx;exact SeqAt.EqAt.bool_none a
  | bl b=>cases rx;exact SeqAt.EqAt.bool_bool a b
  | int b=>obtain⟨t,rfl⟩:=rx;exact SeqAt.EqAt.bool_int a b t
  | str b=>obtain⟨t,rfl⟩:=rx;exact SeqAt.EqAt.bool_str a b t
  | _=>exact absurd (show false=true from fx) El
 | int a=>
  obtain⟨t',rfl⟩:=ry
  cases x with
  | non=>cases rx;exact SeqAt.EqAt.int_none a t'
  | bl b=>cases rx;exact SeqAt.EqAt.int_bool a t' b
  | int b=>obtain⟨t,rfl⟩:=rx;exact SeqAt.EqAt.int_int a t' b t
  | str b=>obtain⟨t,rfl⟩:=rx;exact SeqAt.EqAt.int_str a t' b t
  | _=>exact absurd (show false=true from fx) El
 | str a=>
  obtain⟨t',rfl⟩:=ry
  cases x with
  | non=>cases rx;exact SeqAt.EqAt.str_none a t'
  | bl b=>cases rx;exact SeqAt.EqAt.str_bool a t' b
  | int b=>obtain⟨t,rfl⟩:=rx;exact SeqAt.EqAt.str_int a t' b t
  | str b=>obtain⟨t,rfl⟩:=rx;exact SeqAt.EqAt.str_str a t' b t
  | _=>exact absurd (show false=true from fx) El
 | _=>exact absurd (show false=true from fy) El
def fJ(x:V)(u:Value):Bool:=match u with
 | .none=>fX .non x
 | .bool b=>fX (.bl b) x
 | .int i _=>fX (.int i) x
 | .str z _=>fX (.str z) x
 | _=>false
theorem si{x y:V}{u:Value}(r:RelV y u)(f:dW y=true):fJ x u=fX y x:=by
 cases y with
 | non=>cases r;rfl
 | bl b=>cases r;rfl
 | int i=>obtain⟨t,rfl⟩:=r;rfl
 | str z=>obtain⟨t,rfl⟩:=r;rfl
 | _=>exact absurd (show false=true from f) El
theorem oT{x:V}:∀{xs:List V} {us:List Value},Vals xs us->xs.all dW=true->us.any (fJ x)=xs.any fun y=>fX y x
 | _,_,.nil,_=>rfl
 | y::xs,u::us,.cons r t,f=>by
  rw[List.all_cons,EJ]at f
  rw[List.any_cons,List.any_cons,si r f.1,oT t f.2]
theorem n6{A:Around}{s:Shared}{x:V}{v:Value}(rx:RelV x v)(fx:dW x=true):∀{xs:List V} {us:List Value},Vals xs us->xs.all dW=true->∀u∈us,SeqAt.EqAt A s u v (fJ x u)
 | _,_,.nil,_=>fun u hu=>by cases hu
 | y::xs,u::us,.cons r t,f=>fun u' hu=>by
  rw[List.all_cons,EJ]at f
  rcases Ek.mp hu with rfl | hu
  ·rw[si r f.1];exact xT r rx f.1 fx
  ·exact n6 rx fx t f.2 u' hu
def gI(x:V)(xs:List V):Bool:=xs.any fun y=>fX y x
def mJ(K:DS)(neg:Bool):R2:=fun x y H Q=>∃p xs,y=.ref p/\(ag K H p xs\/ah K H p xs)/\dW x=true/\xs.all dW=true/\Q (.bl (if neg then !gI x xs else gI x xs)) H
theorem CN:bq X (compareOp .In) (mJ X.K false):=by
 intro pins s σ H x y v u Q I rx ry h
 obtain⟨p,xs,rfl,hq,fx,fs,q⟩:=h
 cases ry
 rcases hq with hq | hq
 ·obtain⟨its,r,pl,hz⟩:=I.list hq
  refine SeqAt.in_listAt (fJ x) pl.isList (fun w hw=>n6 rx fx r fs w (by simpa using hw)) ⟨.bl _,H,I,rfl,?_⟩
  rw[show its.toArray.any (fJ x)=its.any (fJ x) by simp,oT r fs]
  exact q
 ·obtain⟨its,r,pl,hz⟩:=I.tuple hq
  refine SeqAt.in_tupleAt (fJ x) pl (fun w hw=>n6 rx fx r fs w (by simpa using hw)) ⟨.bl _,H,I,rfl,?_⟩
  rw[show its.toArray.any (fJ x)=its.any (fJ x) by simp,oT r fs]
  exact q
theorem yT:bV X (.builtin "len") (fun xs H Q=>∃p ys,xs=[.ref p]/\(ag X.K H p ys\/ah X.K H p ys)/\Q (.int ys.length) H):=by
 intro pins s σ H xs us Q I r h
 obtain⟨p,ys,rfl,hq,q⟩:=h
 obtain⟨u,rfl,rx⟩:=vals1 r
 cases rx
 have hn:=ip
 rcases hq with hq | hq
 ·obtain⟨its,r',pl,hz⟩:=I.list hq
  have hlen:=r'.length
  exact Calls.call_len_list pl.isList (by simp only[Eb]<;>omega) ⟨.int ys.length,H,I.tok _,⟨s.toks+1,by rw[Eb,hlen]⟩,q⟩
 ·obtain⟨its,r',pl,hz⟩:=I.tuple hq
  have hlen:=r'.length
  exact len_tuple pl (by simp only[Eb]<;>omega) ⟨.int ys.length,H,I.tok _,⟨s.toks+1,by rw[Eb,hlen]⟩,q⟩
theorem Dc:bV X (.builtin "len") (fun xs H Q=>∃z,xs=[.str z]/\z.length<=sizeLine/\Q (.int z.length) H):=by
 intro pins s σ H xs us Q I r h
 obtain⟨z,rfl,hz,q⟩:=h
 obtain⟨u,rfl,t,rfl⟩:=vals1 r
 have hn:=ip
 exact len_str (by omega) ⟨.int z.length,H,I.tok _,⟨_,rfl⟩,q⟩
theorem xo:bV X (.type "tuple") (fun xs H Q=>∃p ys,xs=[.ref p]/\((ag X.K H p ys/\∀l,H l=none->Q (.ref l) (upd H l (.tup ys)))\/(ah X.K H p ys/\Q (.ref p) H))):=by
 intro pins s σ H xs us Q I r h
 obtain⟨p,ys,rfl,h⟩:=h
 obtain⟨u,rfl,rx⟩:=vals1 r
 cases rx
 rcases h with⟨hq,q⟩ | ⟨hq,q⟩
 ·obtain⟨its,r',pl,hz⟩:=I.list hq
  have hlen:=r'.length
  refine call_tuple_list pl.isList (fun h' kp=>?_) (by simp only[Eb]<;>omega)
  have I1:Inv X pins σ H { s with heap:=h' }:=I.kept (t':=s.toks) kp
  have I2:Inv X pins σ (upd H h'.objs.size (.tup ys)) { s with heap:=h'.push { cls:=.type "tuple",data:=.seq its.toArray } }:=
   I1.laid (t':=s.toks) (fun b o e=>DT _ e) (Ep _) (show bo X.prog X.w _ _ _ (.tup ys)from⟨hz,its,r',IsTup.new _ _⟩)
  exact⟨.ref h'.objs.size,_,I2,rfl,q _ (I1.hok.fresh (Ep _))⟩
 ·obtain⟨its,r',pl,hz⟩:=I.tuple hq
  exact call_tuple_same pl ⟨.ref p,H,I,rfl,q⟩
def iD(K:DS)(T:String)(x:V)(H:Hp):Prop:=match x with
 | .str _=>T = "str"
 | .int _=>T = "int"
 | .ref p=>(T = "list"/\∃xs,ag K H p xs)\/(T = "tuple"/\∃o,K.lookup p=some o/\o.cls=.type "tuple"/\o.dict=none) ∨
   (T = "dict"/\((∃kvs,H p=some (.dK kvs))\/∃kvs,H p=some (.dT kvs)))\/(T = "set"/\∃S n,H p=some (.set S n))
 | _=>False
theorem CK{pins:List (Addr×Obj)}{σ:St}{H:Hp}{s:Shared}{T:String}{x:V}{v:Value}(I:Inv X pins σ H s)(r:RelV x v)(ty:iD X.K T x H):
  s.TypeIs v T/\∀a,v=.ref a->∃ob,s.heap.get? a=some ob/\ob.dict=none:=by
 cases x with
 | str z=>
  obtain⟨t,rfl⟩:=r
  cases(show T = "str" from ty)
  exact⟨typeIs_str s z t,fun _ e=>nomatch e⟩
 | int i=>
  obtain⟨t,rfl⟩:=r
  cases(show T = "int" from ty)
  exact⟨typeIs_int s i t,fun _ e=>nomatch e⟩
 | ref p=>
  cases r
  rcases ty with⟨rfl,xs,hq⟩ | ⟨rfl,o,hk,hc,hd⟩ | ⟨rfl,hk⟩ | ⟨rfl,S,n,hk⟩
  ·obtain⟨its,_,pl,_⟩:=I.list hq
   refine⟨pl.isList.typeIs,fun a e=>?_⟩
   cases e
   obtain⟨o,n,e,c,hd,_⟩:=pl
   exact⟨o,e,hd⟩
  ·refine⟨⟨o,I.kIn p o hk,hc⟩,fun a e=>?_⟩
   cases e
   exact⟨o,I.kIn _ o hk,hd⟩
  ·have z:∃o,s.heap.get? p=some o/\o.ExactDict:=by
    rcases hk with⟨kvs,hk⟩ | ⟨kvs,hk⟩
    ·obtain⟨_,_,_,_,o,_,_,e,ex,_⟩:=I.hok p _ hk
     exact⟨o,e,ex⟩
    ·obtain⟨_,_,_,_,o,_,_,e,ex,_⟩:=I.hok p _ hk
     exact⟨o,e,ex⟩
   obtain⟨o,e,ex⟩:=z
   refine⟨⟨o,e,ex.1⟩,fun a e2=>?_⟩
   cases e2
   exact⟨o,e,ex.2.1⟩
  ·obtain⟨o,_,_,_,e,ex,_⟩:=I.hok p _ hk
   refine⟨⟨o,e,ex.1⟩,fun a e2=>?_⟩
   cases e2
   exact⟨o,e,ex.2.1⟩
 | _=>exact False.elim ty
def og(K:DS)(T:String)(r:V->List V->Hp->VK->Prop)(to:TE)(t:TA):TE:=fun σ H Q=>to σ H fun x H1=>iD K T x H1/\t σ H1 fun xs H2=>r x xs H2 Q
variable {o e:Expr} {es:List Expr} {to:TE} {t:TA} {name:Str} {apos cpos:Pos} {T id:String} {r:V->List V->Hp->VK->Prop}
theorem zo(pa:PlainAttrs T)(slot:Slot T name id)(hty:typeOf (.builtin id)=pure (.type "method_descriptor"))(hm:mZ X id r)(ho:PE X o to)(ha:PA X (e::es) t)
  (hbase:attributeBase o name X.env (eval o X.env)=eval o X.env:=by rfl)
  (hfew:((backTo cpos (starEach (e::es) X.env)).all (fun x=>!x.1) && (backToKw cpos (keywordEach [] X.env)).all (fun x=>x.1.isSome)
   && decide ((e::es).length+([]:List Keyword).length+(if([]:List Keyword).isEmpty then 0 else 1)<30))=true:=by rfl)
  (hline:(apos.endLine == cpos.line)=true:=by rfl) (hs:starEach (e::es) X.env=(false,eval e X.env)::starEach es X.env:=by rfl) (hplain:(backTo cpos (starEach es X.env)).any (·.1)=false:=by rfl) :
  PE X (.Call (.Attribute o name apos) (e::es) [] cpos) (og X.K T r to t):=by
 intro pins s σ H Q I h
 refine wpAny_Call_method_late hbase hfew hline rfl (ay (ho pins s σ H _ I h) fun v s1 ⟨x,H1,I1,r1,ty,q1⟩=>?_)
 obtain⟨h1,h2⟩:=CK I1 r1 ty
 refine⟨T,id,pa,slot,hty,h1,h2,?_⟩
 have hA:=ha cpos pins s1 σ H1 _ I1 q1
 rw[hs]at hA ⊢
 refine Calls.callWith_builtin (by show(false || (backTo cpos (starEach es X.env)).any (·.1))=false;rw[hplain]<;>rfl) (Calls.evalArgs_plain ?_)
 exact ay hA fun us s2 ⟨vs,H2,I2,r2,q2⟩=>hm pins s2 σ H2 x vs v us Q I2 r1 r2 q2
end
end L2
namespace L2
open PySem PySem.Spec PyProof.Rows
def qH(X:Cx)(id:String)(r:V->List V->Hp->VK->Prop):Prop:=
 ∀(pins:List (Addr×Obj)) (s:Shared) (σ:St) (H:Hp) (x:V) (xs:List V) (v:Value) (us:List Value) (Q:VK),Inv X pins σ H s->RelV x v->Vals xs us->r x xs H Q →
  wpAny (model X.prog X.w) X.A (call (.builtin id) (v::us)) (EP X pins σ Q) X.xe s
theorem Vals.one:∀{x:V} {us:List Value},Vals [x] us->∃u,us=[u]/\RelV x u
 | _,_,.cons r .nil=>⟨_,rfl,r⟩
theorem Vals.rep{xs:List V}{us:List Value}(h:Vals xs us):∀k:Nat,Vals (List.replicate k xs).flatten (List.replicate k us).flatten
 | 0=>.nil
 | k+1=>by
  rw[List.replicate_succ,List.replicate_succ,List.flatten_cons,List.flatten_cons]
  exact Vals.append h (Vals.rep h k)
theorem foldl_rep(its:List Value):∀(k:Nat) (acc:List Value),
  List.foldl (fun x1 x2=>x1++x2) acc.toArray (List.replicate k its.toArray)=(acc++(List.replicate k its).flatten).toArray
 | 0,acc=>by simp
 | k+1,acc=>by
  have e:acc.toArray++its.toArray=(acc++its).toArray:=by simp
  have e2:(acc++its)++(List.replicate k its).flatten=acc++(List.replicate (k+1) its).flatten:=by
   rw[List.replicate_succ,List.flatten_cons,List.append_assoc]
  rw[←e2,←foldl_rep its k (acc++its),←e,List.replicate_succ,List.foldl_cons]
section
variable {X:Cx} {pins:List (Addr×Obj)} {σ:St} {H:Hp} {s:Shared} {l b:Addr} {xs ys zs:List V}
theorem Inv.lset{its its':List Value}{n:Nat}{f:Array Value->Array Value}{t':Nat}(I:Inv X pins σ H s)(hH:H l=some (.lst xs))
  (e:s.heap.get? l=some { cls:=.type "list",data:=.seq its.toArray n }) (hf:f its.toArray=its'.toArray) (hv:Vals ys its') (hz:ys.length<=sizeLine) :
  Inv X pins σ (upd H l (.lst ys)) { s with heap:=s.heap.update l (Obj.mapSeq f),toks:=t' }:=by
 have q:=PySem.IsL.update e f
 rw[hf]at q
 refine I.write (x:=l) (e:=l) (by rw[hH];exact trivial) (.inl rfl) (fun b' u hb hu=>(Heap.get?_update_other s.heap (Obj.mapSeq f) (Ne.symm hb)).trans hu) ⟨_,q⟩ ?_
 exact⟨hz,its',_,hv,q⟩
theorem Inv.lnew{its:List Value}{t':Nat}(I:Inv X pins σ H s)(hv:Vals ys its)(hz:ys.length<=sizeLine):
  Inv X pins σ (upd H s.heap.objs.size (.lst ys)) { s with heap:=s.heap.push { cls:=.type "list",data:=.seq its.toArray },toks:=t' }:=
 I.laid (fun _ _ q=>DT _ q) (Ep _) ⟨hz,its,0,hv,DU _ rfl⟩
theorem Inv.fresh(I:Inv X pins σ H s):H s.heap.objs.size=none:=I.hok.fresh (Ep _)
theorem Inv.lstM(I:Inv X pins σ H s)(hH:H l=some (.lst xs)):xs.length<=sizeLine/\∃(its:List Value) (n:Nat),Vals xs its/\xs.length=its.length/\s.heap.get? l=some { cls:=.type "list",data:=.seq its.toArray n }:=by
 obtain⟨z,its,n,r,e⟩:=I.hok l _ hH
 exact⟨z,its,n,r,r.length,e⟩
theorem qh{n:Nat}(h:n<=sizeLine):Builtin.List.listTooLong n=false:=by
 unfold Builtin.List.listTooLong
 exact decide_eq_false (by omega)
end
section
variable {X:Cx}
def wG:V->List V->Hp->VK->Prop:=fun x vs H Q=>∃l xs y,x=.ref l/\vs=[y]/\H l=some (.lst xs)/\xs.length<sizeLine/\Q .non (upd H l (.lst (xs++[y])))
theorem bQ:qH X "list.append" wG:=by
 intro pins s σ H x vs v us Q I rx rv h
 obtain⟨l,xs,y,rfl,rfl,hH,hz,q⟩:=h
 cases rx
 obtain⟨u,rfl,ru⟩:=rv.one
 obtain⟨z,its,n,r,hl,e⟩:=I.lstM hH
 refine call_meets F.slot_list_append ⟨_,e,rfl⟩ F.entry_list_append (F.args_list_append_2 _ _) (PySem.list_append l its.toArray n u (by rw[Eb];omega)) ⟨e,?_⟩
 refine⟨.non,_,I.lset (its':=its++[u]) hH e (by simp) (r.append (.cons ru .nil)) ?_,rfl,q⟩
 rw[En,List.length_singleton]
 omega
def Ae:V->List V->Hp->VK->Prop:=fun x vs H Q=>∃l b xs zs,x=.ref l/\vs=[.ref b]/\H l=some (.lst xs)/\H b=some (.lst zs)/\xs.length+zs.length<=sizeLine/\Q .non (upd H l (.lst (xs++zs)))
theorem DK:qH X "list.extend" Ae:=by
 intro pins s σ H x vs v us Q I rx rv h
 obtain⟨l,b,xs,zs,rfl,rfl,hH,hB,hz,q⟩:=h
 cases rx
 obtain⟨u,rfl,ru⟩:=rv.one
 cases ru
 obtain⟨z,its,n,r,hl,e⟩:=I.lstM hH
 obtain⟨z2,its2,n2,r2,hl2,e2⟩:=I.lstM hB
 have hsz:its.toArray.size+its2.toArray.size<=sizeLine:=by rw[Eb,Eb];omega
 have hlong:¬(!its.toArray.isEmpty && Builtin.List.listTooLong (its.toArray.size+its2.toArray.size))=true:=by
  rw[qh hsz,Bool.and_false]
  exact El
 refine call_meets F.slot_list_extend ⟨_,e,rfl⟩ F.entry_list_extend (F.args_list_extend_2 _ _)
  (AutoSeq1.list_extend_list_list_0 l its.toArray n b its2.toArray n2 hlong (by rw[Eb];omega) (by omega)) ⟨e,e2,?_⟩
 refine⟨.non,_,I.lset (its':=its++its2) hH e (by simp) (r.append r2) ?_,rfl,q⟩
 rw[En]
 omega
def qk:R2:=fun x y H Q=>∃l b xs zs,x=.ref l/\y=.ref b/\H l=some (.lst xs)/\H b=some (.lst zs)/\xs.length+zs.length<=sizeLine/\∀p,H p=none->Q (.ref p) (upd H p (.lst (xs++zs)))
theorem gJ:bq X (binaryOp .Add) qk:=by
 intro pins s σ H x y v u Q I rx ry h
 obtain⟨l,b,xs,zs,rfl,rfl,hH,hB,hz,q⟩:=h
 cases rx
 cases ry
 obtain⟨z,its,n,r,hl,e⟩:=I.lstM hH
 obtain⟨z2,its2,n2,r2,hl2,e2⟩:=I.lstM hB
 refine PySem.P.add_list e e2 ?_ (by rw[Eb,Eb];omega)
 have ea:its.toArray++its2.toArray=(its++its2).toArray:=by simp
 rw[ea]
 exact⟨.ref _,_,I.lnew (t':=s.toks) (r.append r2) (by rw[En];omega),rfl,q _ I.fresh⟩
def qX:R2:=fun x y H Q=>∃l k xs,x=.ref l/\y=.int k/\H l=some (.lst xs)/\-(2 ^ 63)<=k/\k<2 ^ 63/\xs.length*k.toNat<=sizeLine ∧
 ∀p,H p=none->Q (.ref p) (upd H p (.lst (List.replicate k.toNat xs).flatten))
theorem len_rep{α:Type}(xs:List α)(k:Nat):(List.replicate k xs).flatten.length=k*xs.length:=by
 induction k with
 | zero=>simp
 | succ k ih=>rw[List.replicate_succ,List.flatten_cons,En,ih,Nat.succ_mul,Nat.add_comm]
theorem uP:bq X (binaryOp .Mult) qX:=by
 intro pins s σ H x y v u Q I rx ry h
 obtain⟨l,k,xs,rfl,rfl,hH,h1,h2,hz,q⟩:=h
 cases rx
 obtain⟨t,rfl⟩:=ry
 obtain⟨z,its,n,r,hl,e⟩:=I.lstM hH
 have hlen:its.toArray.size*k.toNat<=sizeLine:=by rw[Eb,←hl];exact hz
 have hcap:¬its.toArray.size*k.toNat>(2 ^ 63-1) / 8:=by
  have:(sizeLine:Nat)<=(2 ^ 63-1) / 8:=by decide
  omega
 have hfit:¬(!Builtin.List.listFitsIndex k)=true:=by
  rw[fitsIndex_both h1 h2]
  exact El
 have hlong:¬Builtin.List.listTooLong (its.toArray.size*k.toNat)=true:=by
  rw[qh hlen]
  exact El
 have hnew:List.foldl (fun x1 x2=>x1++x2) #[] (List.replicate (if its.toArray.isEmpty=true then 0 else k.toNat) its.toArray)=(List.replicate k.toNat its).flatten.toArray:=by
  have f0:∀m:Nat,List.foldl (fun x1 x2=>x1++x2) #[] (List.replicate m its.toArray)=(List.replicate m its).flatten.toArray:=fun m=>by
   have:=foldl_rep its m []
   rw[List.nil_append]at this
   exact this
  rw[f0]
  cases its with
  | nil=>simp
  | cons a r'=>rw[if_neg (by simp)]
 refine wpAny_binaryOp_repeat_ref (T:="list") (U:="int") (by decide) ⟨_,e,rfl⟩ (fun s'=>typeIs_int s' k t) noFill_list_mul F.fills_int_mul F.slot_int_rmul repeat_list F.slot_int_index.lookup
  (call_meets F.slot_int_rmul (typeIs_int s k t) F.entry_int_rmul (F.args_int_rmul_2 _ _) (int___rmul___int_list k t l its.toArray n)
   ⟨e,rfl,⟨_,e,rfl⟩,call_meets F.slot_list_mul ⟨_,e,rfl⟩ F.entry_list_mul (F.args_list_mul_2 _ _) (AutoListH.list___mul___list_int_3 l its.toArray n k t hfit hcap hlong) ⟨e,?_⟩⟩)
 rw[hnew]
 exact⟨.ref _,_,I.lnew (t':=s.toks) (r.rep k.toNat) (by rw[len_rep,Nat.mul_comm];exact hz),rfl,q _ I.fresh⟩
end
section
variable {prog:Program} {w:World} {A:Around} {E:Value->Shared->Prop} {s:Shared}
end
section
variable {X:Cx}
end
end L2
namespace Att
open PySem PySem.W PySem.Calls PyProof.Rows
theorem xI{P:Params}{h:Heap}:∀(ns:List Int) (vs:List Value),WellAll P h vs (ns.map WData.int)->IntsAre vs ns:=by
 intro ns
 induction ns with
 | nil=>
  intro vs w
  rw[List.map_nil]at w
  cases w
  exact .nil
 | cons n ns ih=>
  intro vs w
  rw[List.map_cons]at w
  cases w with
  | cons a b=>
   cases a
   exact .cons _ _ (ih _ b)
theorem BN{l:OpenLaw}{n:Nat}(hn:l.most=some n){P:Params}{h:Heap}{args:List WData}{vals:List Value}
  (hpre:l.row.toRowW.claim.pre args=true) (hwl:WellAll P h vals args) :
  ∃a vs ns,vals=[Value.ref a]/\args=[WData.list (ns.map WData.int)]/\h.get? a=some { cls:=.type "list",data:=.seq vs.toArray }/\IntsAre vs ns/\ns.length<=n:=by
 have hsh:WShape.hasAll [] args [.list .int]=true:=(pre_splitW hpre).1
 have hc:l.pre.holds [] { args:=args }=true:=(pre_splitW hpre).2
 obtain⟨d,r,rfl,h1,h2⟩:=hasAllW_cons hsh
 obtain rfl:=hasAllW_nil h2
 obtain⟨xs,rfl,h3⟩:=hasW_list h1
 obtain⟨ns,rfl⟩:=items_int h3
 have hlen:ns.length<=n:=by
  unfold OpenLaw.pre at hc
  have h4:(WTm.not (.lt (.lit (.int (n:Int))) (.len (.arg 0)))).holds [] { args:=[.list (ns.map .int)] }=true:=by
   have h4:=(holds_andW hc).1
   rw[hn]at h4
   exact h4
  have h5:=condW_of h4 (w_not (w_lt w_lit (w_len_list (w_arg rfl))))
  rw[DW]at h5
  refine Nat.le_of_not_lt fun q=>?_
  have q':(n:Int)<((ns.length:Nat):Int):=by omega
  first
   | (rw[decide_eq_true q']at h5;exact absurd h5 (by decide))
   | (simp at h5;omega)
 cases hwl with
 | cons w1 w2=>
  cases w2
  cases w1 with
  | list ho hall=>exact⟨_,_,ns,rfl,rfl,ho,xI ns _ hall,hlen⟩
theorem Bt(l:OpenLaw)(args:List WData):l.row.toRowW.claim.post args (.bool true) args=true:=
 postW_of (r:=l.row.toRowW) (X:=(true == true))
  (show WShape.has [] (.bool true) .bool=true by first | rfl | decide | simp [WShape.has,WShape.arms,WShape.armsAll])
  (show(WTm.eq .res (.lit (.bool true))).value [] { args:=args,res:=some (.bool true),after:=args }=some (.bool (true == true))from w_eq_bool (w_res rfl) w_lit) rfl
theorem Bp{l:OpenLaw}{n:Nat}{q:Program}{loose:List Str}{XP:(Str->Option Value)->Heap->Prop}{YP:World->Heap->Prop}{d:DefRec}
  (hn:l.most=some n) (hdf:d.params.defaults=[])
  (call:∀(w:World) (s₀ s₁:Shared) (mg mb:Str->Option Value) (fa:Addr) (o:Obj) (pm cd doc:Value) (a:Addr) (vs:List Value) (ns:List Int),
   Ground q loose [] XP w s₀ mg mb s₁.heap->YP w s₁.heap →
   s₁.heap.get? fa=some o->o.data=.func (docDef d.name d.params d.body d.scope pm cd doc)->s₁.heap.CodeRec cd d.name->mg d.name=some (.ref fa) →
   s₁.heap.get? a=some { cls:=.type "list",data:=.seq vs.toArray }->IntsAre vs ns->ns.length<=n->s₁.gens = #[] →
   codeAny (model l.prog w) callerA (.call (.ref fa) ⟨[.ref a],[]⟩) (fun r s'=>r=.ok (.ret (.bool true))/\OldK s₁.heap s'.heap/\s'.os=s₁.os/\AllBare s'.gens) s₁) :
  WalkO q loose XP YP l.row.toRowW d [] (fun f vs=>PySem.call f vs):=by
 intro w s₀ s₁ mg mb G Y fa o pm cd doc dV kV ho hd hcd hD hmg hg args vals as hpre hlay hrd hwl hlo
 obtain rfl:dV=.none:=Dflts.none hD hdf
 obtain rfl:kV=.none:=Dflts.noKw hD
 obtain⟨a,vs,ns,rfl,rfl,hobj,hints,hlen⟩:=BN hn hpre hwl
 refine enter_call (codeAny_mono (call w s₀ s₁ mg mb fa o pm cd doc a vs ns G Y ho (fd_plain hd) hcd hmg hobj hints hlen hg) fun r s' hq=>?_)
 obtain⟨rfl,h2,h3,h4⟩:=hq
 exact⟨.inl ⟨.bool true,.bool true,[],rfl,fun _=>rfl,.bool true,Bt l _,fun _=>⟨List.Pairwise.nil,fun _ hm=>(nomatch hm)⟩⟩,h2,h3,h4⟩
section
variable {prog:Program} {w:World} {A:Around} {E:Value->Shared->Prop} {s:Shared} {K:Frag}
end
end Att
namespace L2
open PySem PySem.Spec PyProof.Rows
theorem qz:∀{vs:List Value} {ns:List Int},IntsAre vs ns->Vals (ns.map V.int) vs
 | _,_,.nil=>.nil
 | _,_,.cons n t h=>.cons ⟨t,rfl⟩ (qz h)
end L2
namespace L2
open PySem PySem.Spec PyProof.Rows
end L2
namespace L2
open PySem PySem.Spec PyProof.Rows
def gn(s:Stmt):Arguments:=match s with
 | .FunctionDef _ a _ _ _ _ _ _ _ _=>a
 | _=>{ posonlyargs:=[],args:=[],vararg:=none,kwonlyargs:=[],kw_defaults:=[],kwarg:=none,defaults:=[] }
def eh(s:Stmt):List Stmt:=match s with
 | .FunctionDef _ _ b _ _ _ _ _ _ _=>b
 | _=>[]
def aI(s:Stmt):Scope:=match s with
 | .FunctionDef _ _ _ _ _ _ sc _ _ _=>sc
 | _=>{ kind:=.function,names:=[],isGenerator:=false,isCoroutine:=false }
abbrev dm:fF:=fun _ _ _ _ _ _=>False
abbrev E0:XK:=fun _ _ _=>False
theorem xy{X:Cx}:Passes dm X E0:=fun _ _ _ _ _ _ _ h=>h.elim
structure Fun(K:DS)(x qual:Str)(st:Stmt)(f:Addr)(fd:FuncData):Prop where
 ex:∃(oc:Value) (od:Option Addr) (kV doc pm:Value) (an:Option Addr) (cdv ct:Value) (osl:Array (Option Value)),
  fd=PySem.W.fnOf x qual (gn st) (eh st) (aI st) .none kV doc pm an cdv ct/\K.lookup f=some ⟨oc,od,.func fd,osl⟩/\PySem.W.codeIn K cdv qual=true
 kp:PySem.W.keepIn K (.ref f)=true
section
variable {P:Program} {w:World} {K:DS} {mg:Str->Option Value} {base:Heap}
theorem Fun.ok{x qual:Str}{st:Stmt}{f:Addr}{fd:FuncData}{N ps:List Str}{k:Nat}{sp:Sp}(F:Fun K x qual st f fd)(S:FnScope N ps (aI st))(len:∀vs H Q E,sp vs H Q E->vs.length=ps.length)
  (hbody:∀(cdv:Value) (A:Around) (outer:List Env) (s:Shared) (H:Hp) (vs:List V) (Q:VK) (E:XK),Room k (A.deeper (envOfC qual (aI st) s.heap.objs.size f cdv))->sp vs H Q E →
   ∃t,cq (fR dm P w K mg base N qual (aI st) f cdv A outer s H E).nox (eh st) t/\t { nx:=fun _ H'=>Q .non H',rt:=Q } (start N vs) H):FnOk P w K mg base dm (k+1) f fd ps sp:=by
 obtain⟨oc,od,kV,doc,pm,an,cdv,ct,osl,rfl,lk,hcd⟩:=F.ex
 refine uo lk hcd S len fun A outer s H vs Q E hr hsp=>?_
 obtain⟨t,h,q⟩:=hbody cdv A outer s H vs Q E hr hsp
 exact⟨t,h.nox,q⟩
theorem Fun.binds{x qual:Str}{st:Stmt}{f:Addr}{fd:FuncData}{ps:List Str}(F:Fun K x qual st f fd)
  (h:∀(kV doc pm:Value) (an:Option Addr) (cdv ct:Value) (us:List Value),us.length=ps.length->bindArgs (PySem.W.fnOf x qual (gn st) (eh st) (aI st) .none kV doc pm an cdv ct) ⟨us,[]⟩=pure (ps.zip us)):Binds K fd ps []:=by
 obtain⟨oc,od,kV,doc,pm,an,cdv,ct,osl,rfl,lk,hcd⟩:=F.ex
 exact .all (h kV doc pm an cdv ct)
theorem uO{x qual:Str}{st:Stmt}{f:Addr}{oc:Value}{od an:Option Addr}{osl:Array (Option Value)}{kV doc pm cdv ct:Value}(l:K.lookup f=some ⟨oc,od,.func (PySem.W.fnOf x qual (gn st) (eh st) (aI st) .none kV doc pm an cdv ct),osl⟩)
  (c:PySem.W.codeIn K cdv qual=true) (k:PySem.W.keepIn K (.ref f)=true):Fun K x qual st f (PySem.W.fnOf x qual (gn st) (eh st) (aI st) .none kV doc pm an cdv ct):=⟨⟨oc,od,kV,doc,pm,an,cdv,ct,osl,rfl,l,c⟩,k⟩
end
theorem eI{A:Around}{k:Nat}(hr:Room k A):A.units+1<cLine:=Nat.lt_of_le_of_lt (Nat.add_le_add_left (by decide:1<=64) _) hr.units
section
variable {X:Cx}
theorem pv(i:Nat){x:Str}{pos:Pos}(hN:X.N[i]?=some x:=by rfl)(hv:ke X.env.scope x:=by first | exact Or.inl rfl | exact Or.inr (Or.inl rfl) | exact Or.inr (Or.inr rfl))(hd:(x == ("__debug__":Str))=false:=by decide)
  (hcd:(x == ("__classdict__":Str))=false:=by decide):PE X (.Name x pos) (nK i):=xU hN hv hd hcd
end
theorem aw{A B:Prop}(h:B):if false=true then A else B:=by
 rw[if_neg El]
 exact h
theorem aC{A B:Prop}(h:A):if true=true then A else B:=by
 rw[if_pos rfl]
 exact h
theorem w6{c A B:Prop}[Decidable c](h1:c->A)(h2:¬c->B):if c then A else B:=by
 by_cases h:c
 ·rw[if_pos h]
  exact h1 h
 ·rw[if_neg h]
  exact h2 h
end L2
namespace L2
open PySem PySem.Spec PyProof.Rows
structure Blk where
 s:Shared
 H:Hp
 fp:List Addr
 C:Addr
def dg(names:List (Str×NameKind))(cells:List (Str×Addr)):List (Str×Addr):=
 names.foldl (fun acc p=>if p.2 == .free then(p.1,(cells.lookup p.1).getD 0)::acc else acc) []
def cy(X:Cx)(sc:Scope)(own:List Str)(js:List Nat)(z:Blk):Cx where
 prog:=X.prog
 w:=X.w
 K:=X.K
 mg:=X.mg
 base:=X.base
 A:=X.A
 N:=own++js.map fun j=>X.N.getD j ""
 s₀:=z.s
 H₀:=z.H
 env:=compEnvC sc (dg sc.names X.env.cells) z.C X.env
 outer:=X.stack
 stack:=X.stack
 ex:=z.fp
 fn:=fun _=>false
 calm:=X.calm
 pn:=[]
 xe:=fun _ _=>False
def eX(sc out:Scope):Bool:=sc.names.all fun p=>p.2 != .cell && (p.2 != .local || sc.names.lookup p.1 == some .local) && (p.2 != .free || out.names.lookup p.1 == some .cell || out.names.lookup p.1 == some .free)
def kH(sc:Scope)(N:List Str)(js:List Nat):Bool:=js.all fun j=>decide (j<N.length) && (sc.names.lookup (N.getD j "") == some .free)
def cY(n:Nat)(js:List Nat)(σ:St):St:=List.replicate n none++js.map fun j=>(σ[j]?).join
theorem n5(cells:List (Str×Addr)):∀(names:List (Str×NameKind)) (acc:List (Str×Addr)) (x:Str) (c:Addr),
  (names.foldl (fun acc p=>if p.2 == .free then(p.1,(cells.lookup p.1).getD 0)::acc else acc) acc).lookup x=some c →
  ((x,NameKind.free)∈names/\c=(cells.lookup x).getD 0)\/acc.lookup x=some c
 | [],acc,x,c,h=>.inr h
 | (n,k)::r,acc,x,c,h=>by
  rw[List.foldl_cons]at h
  rcases n5 cells r _ x c h with⟨h1,h2⟩ | h1
  ·exact .inl ⟨DZ _ h1,h2⟩
  ·cases hk:(k == NameKind.free)with
   | false=>
    simp only[hk]at h1
    exact .inr h1
   | true=>
    simp only[hk,if_true]at h1
    rw[List.lookup_cons]at h1
    cases hx:(x == n)with
    | false=>rw[hx]at h1;exact .inr h1
    | true=>
     rw[hx]at h1
     have e1:x=n:=by simpa using hx
     have e2:k=.free:=by simpa using hk
     subst e1 e2
     exact .inl ⟨Ec,(Option.some.inj h1).symm⟩
theorem qY(cells:List (Str×Addr)):∀(names:List (Str×NameKind)) (acc:List (Str×Addr)) (x:Str),
  ((x,NameKind.free)∈names\/(acc.lookup x).isSome=true)->((names.foldl (fun acc p=>if p.2 == .free then(p.1,(cells.lookup p.1).getD 0)::acc else acc) acc).lookup x).isSome=true
 | [],acc,x,h=>by
  rcases h with h | h
  ·simp at h
  ·exact h
 | (n,k)::r,acc,x,h=>by
  rw[List.foldl_cons]
  apply qY cells r
  rcases h with h | h
  ·rcases Ek.mp h with e | h
   ·right
    cases e
    simp[List.lookup_cons]
   ·exact .inl h
  ·right
   cases hk:(k == NameKind.free)with
   | false=>simpa[hk]using h
   | true=>
    simp only[hk,if_true,List.lookup_cons]
    cases hx:(x == n)with
    | true=>rfl
    | false=>exact h
theorem nT{env:Env}{sc:Scope}(h:∀p∈sc.names,p.2=.free->∃c,env.cells.lookup p.1=some c):closureFor sc env=pure (dg sc.names env.cells):=by
 have go:∀(names:List (Str×NameKind)) (acc:List (Str×Addr)),(∀p∈names,p.2=NameKind.free->∃c,env.cells.lookup p.1=some c) →
   (forIn names acc fun(p:Str×NameKind) (r:List (Str×Addr))=>(match p with | (name,kind)=>if(kind == NameKind.free)=true then do let c ←cellOf env name;pure (ForInStep.yield ((name,c)::r))else pure (ForInStep.yield r):Sem _)) =
   pure (names.foldl (fun acc p=>if p.2 == .free then(p.1,(env.cells.lookup p.1).getD 0)::acc else acc) acc):=by
  intro names
  induction names with
  | nil=>intro acc _;rfl
  | cons p r ih=>
   intro acc hp
   obtain⟨n,k⟩:=p
   rw[List.forIn_cons,List.foldl_cons]
   cases hk:(k == NameKind.free)with
   | false=>
    simp only[hk,Bool.false_eq_true,if_false]
    exact ih acc fun q hq=>hp q (DZ _ hq)
   | true=>
    obtain⟨c,hc⟩:=hp (n,k) Ec (by simpa using hk)
    have e:cellOf env n=pure c:=by
     unfold cellOf
     rw[show env.cells.lookup n=some c from hc]
    simp only[hk,if_true,e]
    have hc':env.cells.lookup n=some c:=hc
    rw[hc']
    exact ih _ fun q hq=>hp q (DZ _ hq)
 unfold closureFor dg
 have:=go sc.names [] h
 simp only[this]
 rfl
def iK(X:Cx)(ifs:List Expr)(t:TT):Prop:=
 ∀(pins:List (Addr×Obj)) (s:Shared) (σ:St) (H:Hp) (Q:Bool->Hp->Prop),Inv X pins σ H s->t σ H Q →
  wpAny (model X.prog X.w) X.A (forIn ifs true fun c r=>if r=true then do let ok ←isTrue c X.env (eval c X.env);pure (ForInStep.yield ok)else pure (ForInStep.yield r)) (TP X pins σ Q) X.xe s
def sT:TT:=fun _ H Q=>Q true H
theorem dY{X:Cx}:iK X [] sT:=fun _ _ _ H _ I h=>wpAny_tests_nil ⟨H,I,h⟩
theorem fh{X:Cx}{c:Expr}{t:TT}(h:PT X c t):iK X [c] t:=fun pins s σ H Q I hq=>wpAny_tests_one (h pins s σ H Q I hq)
theorem AG{prog:Program}{w:World}{A:Around}{R:Result->Shared->Prop}{t0:Shared}{elt tgt iter:Expr}{ifs:List Expr}{sc:Scope}{ps:Pos}{itv acc:Value}{ce:Env}(Wd:Nat->Shared->Prop)
  (step:∀k t,Wd k t->wpAny (model prog w) A (pyNext itv) (fun got t1=>
   match got with
   | none=>R (.ok .next) t1
   | some u=>wpAny (model prog w) A (letOwnedTupleGo tgt itv u) (fun _ t2=>wpAny (model prog w) A (assign tgt ce u) (fun _ t3=>
     wpAny (model prog w) A (forIn ifs true fun c r=>if r=true then do let ok ←isTrue c ce (eval c ce);pure (ForInStep.yield ok)else pure (ForInStep.yield r)) (fun yes t4=>
      if yes=true then wpAny (model prog w) A (eval elt ce) (fun val t5=>wpAny (model prog w) A (call (.builtin "list.append") [acc,val]) (fun _ t6=>∃m,m<k/\Wd m t6) (fun _ _=>False) t5) (fun _ _=>False) t4
      else ∃m,m<k/\Wd m t4) (fun _ _=>False) t3) (fun _ _=>False) t2) (fun _ _=>False) t1) (fun _ _=>False) t)
  (k0:Nat) (start:Wd k0 t0):codeAny (model prog w) A (.compLoop (.ListComp elt [⟨tgt,iter,ifs,0⟩] sc ps) 0 itv acc ce) R t0:=by
 refine codeAny_loop rfl Wd (fun k t hW=>?turn) k0 start
 case turn=>
  have nox:∀{α:Type} {m:Sem α} {Q:α->Shared->Prop} {E:Value->Shared->Prop} {z:Shared},wpAny (model prog w) A m Q (fun _ _=>False) z->wpAny (model prog w) A m Q E z:=fun h=>wpAny_mono h (fun _ _ q=>q) fun _ _ f=>f.elim
  show wpAny _ A ((compTurn (.ListComp elt [⟨tgt,iter,ifs,0⟩] sc ps) 0 itv acc ce).onRaise (fun x=>do noteFrame x ce;theTreesLotGoes x)) _ _ t
  apply wpAny_noted
  rw[compTurn_list]
  refine DQ (wpAny_standAt (DQ (nox (wpAny_mono (step k t hW) (fun got t1 h1=>?_) fun _ _ f=>f))))
  cases got with
  | none=>exact DR h1
  | some u=>
   refine DQ (nox (wpAny_mono h1 (fun _ t2 h2=>?_) fun _ _ f=>f))
   refine DQ (nox (wpAny_mono h2 (fun _ t3 h3=>?_) fun _ _ f=>f))
   refine DQ (nox (wpAny_mono h3 (fun yes t4 h4=>?_) fun _ _ f=>f))
   cases yes with
   | false=>
    rw[if_neg El]at h4
    exact DR ⟨rfl,h4⟩
   | true=>
    rw[if_pos rfl]at h4
    refine DQ (DQ (nox (wpAny_mono h4 (fun val t5 h5=>?_) fun _ _ f=>f)))
    exact DQ (nox (wpAny_mono h5 (fun _ t6 h6=>DR (DR ⟨rfl,h6⟩)) fun _ _ f=>f))
section
variable {X:Cx} {pins:List (Addr×Obj)} {σ:St} {H:Hp} {s:Shared}
def dD(its:List Value)(n:Nat):Obj:={ cls:=.type "list",data:=.seq its.toArray n }
theorem j7{sc out:Scope}(h:eX sc out=true){p:Str×NameKind}(hp:p∈sc.names)(hf:p.2=.free):out.names.lookup p.1=some .cell\/out.names.lookup p.1=some .free:=by
 have:=EG.mp h p hp
 simp only[hf,EJ,Bool.or_eq_true,beq_iff_eq,bne_iff_ne,ne_eq,not_true,false_or]at this
 exact this.2
theorem pS{sc out:Scope}(h:eX sc out=true){p:Str×NameKind}(hp:p∈sc.names):p.2≠.cell:=by
 have:=EG.mp h p hp
 simp only[EJ,bne_iff_ne,ne_eq]at this
 exact this.1.1
theorem qS{sc out:Scope}(h:eX sc out=true){p:Str×NameKind}(hp:p∈sc.names)(hf:p.2=.local):sc.names.lookup p.1=some .local:=by
 have:=EG.mp h p hp
 simp only[hf,EJ,Bool.or_eq_true,beq_iff_eq,bne_iff_ne,ne_eq,not_true,false_or]at this
 exact this.1.2
theorem jR{sc:Scope}{env:Env}{x:Str}:∀{names:List (Str×NameKind)} {k:NameKind},(names.map fun(p:Str×NameKind)=>match p with | (n,k)=>if(k == NameKind.free && env.scope.kind == .function && env.kindOf n == some .cell)then(n,NameKind.cell)else(n,k)).lookup x=some k →
  ∃k',names.lookup x=some k'/\(k'=k\/(k'=.free/\k=.cell))
 | [],_,h=>by simp at h
 | (n,q)::r,k,h=>by
  rw[List.map_cons]at h
  rw[List.lookup_cons]
  cases hx:(x == n)with
  | true=>
   refine⟨q,rfl,?_⟩
   by_cases hc:(q == NameKind.free && env.scope.kind == .function && env.kindOf n == some .cell)=true
   ·simp only[hc,if_true,List.lookup_cons,hx]at h
    right
    simp only[EJ,beq_iff_eq]at hc
    exact⟨hc.1.1,(Option.some.inj h).symm⟩
   ·left
    have h2:List.lookup x ((n,q)::(r.map fun(p:Str×NameKind)=>match p with | (n,k)=>if(k == NameKind.free && env.scope.kind == .function && env.kindOf n == some .cell)then(n,NameKind.cell)else(n,k)))=some k:=by
     have h3:=h
     dsimp only at h3
     rw[if_neg hc]at h3
     exact h3
    rw[List.lookup_cons,hx]at h2
    exact Option.some.inj h2
  | false=>
   have:List.lookup x (r.map fun(p:Str×NameKind)=>match p with | (n,k)=>if(k == NameKind.free && env.scope.kind == .function && env.kindOf n == some .cell)then(n,NameKind.cell)else(n,k))=some k:=by
    by_cases hc:(q == NameKind.free && env.scope.kind == .function && env.kindOf n == some .cell)=true
    ·simpa only[hc,if_true,List.lookup_cons,hx]using h
    ·dsimp only at h
     rw[if_neg hc,List.lookup_cons,hx]at h
     exact h
   exact jR (sc:=sc) this
theorem gU{names:List (Str×NameKind)}{x:Str}{k:NameKind}(h:names.lookup x=some k):(x,k)∈names:=PySem.mem_of_lookup h
theorem fC(ok:X.Ok){sc:Scope}(hb:eX sc X.env.scope=true){x:Str}{c:Addr}(h:(dg sc.names X.env.cells).lookup x=some c):X.env.cells.lookup x=some c:=by
 rcases n5 X.env.cells sc.names [] x c h with⟨h1,h2⟩ | h1
 ·obtain⟨d,hd⟩:=ok.has x (j7 hb h1 rfl)
  rw[hd]at h2 ⊢
  rw[h2]
  rfl
 ·simp at h1
theorem kY{sc:Scope}{x:Str}{cells:List (Str×Addr)}(h:(x,NameKind.free)∈sc.names):∃c,(dg sc.names cells).lookup x=some c:=
 Option.isSome_iff_exists.mp (qY cells sc.names [] x (.inl h))
theorem Inv.stk_lt(I:Inv X pins σ H s){b:Addr}(hb:b∈cJ X.stack):b<s.heap.objs.size:=by
 rcases Ek.mp (I.stkSub b hb)with e | h
 ·rw[e];exact I.lt
 ·obtain⟨_,o,ho,_⟩:=I.ok.funs.mem h
  exact ED (DV ho) I.sz
theorem Inv.cell_lt(I:Inv X pins σ H s){x:Str}{c:Addr}(h:X.env.cells.lookup x=some c):c<s.heap.objs.size:=by
 obtain⟨v,q⟩:=I.cell x c h
 exact q.lt
theorem Inv.pin_lt(I:Inv X pins σ H s){p:Addr×Obj}(h:p∈X.pn++pins):p.1<s.heap.objs.size:=DV (I.pin p h).1
theorem Am(I:Inv X pins σ H s){sc:Scope}{own:List Str}{js:List Nat}{fp:List Addr}{C:Nat}(hk:sc.kind=.function)(hb:eX sc X.env.scope=true)
  (hfp:∀b∈fp,cG X pins H b) (hC:s.heap.objs.size<=C) (hlt:∀b∈fp,b<s.heap.objs.size):(cy X sc own js ⟨s,H,fp,C⟩).Ok where
 mod:=I.ok.mod
 kind:=hk
 glob:=I.ok.glob
 blt:=I.ok.blt
 above:=hC
 inj:=fun x y c h1 h2=>I.ok.inj x y c (fC I.ok hb h1) (fC I.ok hb h2)
 has:=fun x hx=>by
  have hx':(relabel sc X.env).names.lookup x=some .cell\/(relabel sc X.env).names.lookup x=some .free:=hx
  have go:∀k,(relabel sc X.env).names.lookup x=some k->(k=.cell\/k=.free)->∃c,(dg sc.names X.env.cells).lookup x=some c:=fun k h hkk=>by
   obtain⟨k',h1,h2⟩:=jR (sc:=sc) (env:=X.env) h
   have m:=gU h1
   rcases h2 with h2 | ⟨h2,_⟩
   ·subst h2
    rcases hkk with e | e
    ·exact absurd e (pS hb m)
    ·rw[e]at m;exact kY m
   ·rw[h2]at m;exact kY m
  rcases hx' with h | h
  ·exact go _ h (.inl rfl)
  ·exact go _ h (.inr rfl)
 cab:=fun x c h _=>by cases h
 hd:=I.ok.hd
 frames:=I.ok.frames
 stk:=.inl rfl
 exf:=fun b hb'=>⟨Eo (ED (hlt b hb') hC),fun x c e=>(hfp b hb').2.2.2.2.1 x c (fC I.ok hb e)⟩
 bs:=I.bs
 bsz:=EE I.ok.bsz I.sz
 noex:=fun b o e hb'=>by
  rcases(hfp b hb').2.2.2.1 with z | z
  ·exact I.ok.noex b o e z
  ·exact absurd (ED (DV e) (EE I.ok.bsz z)) (Nat.lt_irrefl _)
 exfs:=fun b hb' hm=>by
  rcases Ek.mp (I.stkSub b hm)with e | h
  ·exact(hfp b hb').2.1 e
  ·exact(hfp b hb').2.2.1 h
 funs:=I.stack
 frf:=I.stkFree
theorem wO{n:Nat}{js:List Nat}{i:Nat}{v:V}(h:(cY n js σ)[i]?=some (some v)):∃k j,i=n+k/\js[k]?=some j/\σ[j]?=some (some v):=by
 unfold cY at h
 by_cases hi:i<n
 ·rw[Ey (by simpa using hi),List.getElem?_replicate]at h
  split at h<;>cases h
 ·rw[Ex (by simpa using Nat.le_of_not_lt hi),List.length_replicate,DY]at h
  cases e:js[i-n]? with
  | none=>rw[e]at h;cases h
  | some j=>
   rw[e]at h
   refine⟨i-n,j,by omega,e,?_⟩
   have h':(σ[j]?).join=some v:=by simpa using h
   cases q:σ[j]? with
   | none=>rw[q]at h';cases h'
   | some o=>
    rw[q]at h'
    have:o=some v:=h'
    rw[this]
theorem Ca(I:Inv X pins σ H s){sc:Scope}{own:List Str}{js:List Nat}{fp:List Addr}{C D:Nat}{h1:Heap}{tk:Nat}{o:Obj}{m:Str->Option Value}(hk:sc.kind=.function)(hb:eX sc X.env.scope=true)(hj:kH sc X.N js=true)
  (hfp:∀b∈fp,cG X pins H b) (hlt:∀b∈fp,b<s.heap.objs.size) (hD:D=s.heap.objs.size) (hC:C=s.heap.objs.size+1) (old:∀b o,s.heap.get? b=some o->h1.get? b=some o)
  (hDo:h1.get? D=some o) (hod:∀v,o.data≠.cell v) (hm:h1.Ns C m) :
  Inv (cy X sc own js ⟨s,H,fp,C⟩) [(D,o)] (cY own.length js σ) H { s with heap:=h1,toks:=tk } where
 ok:=Am I hk hb hfp (show @LE.le Nat _ s.heap.objs.size C by omega) hlt
 os:=rfl
 bare:=I.bare
 base:=Un.kept old
 loc:=by
  refine⟨m,hm,fun i x v e1 e2 e3=>?_⟩
  obtain⟨k,j,rfl,ej,es⟩:=wO e2
  have e1':(own++js.map fun j=>X.N.getD j "")[own.length+k]?=some x:=e1
  rw[Ex (by omega),Nat.add_sub_cancel_left,DY,ej]at e1'
  have ex:X.N.getD j "" = x:=by simpa using e1'
  have hjj:=EG.mp hj j (Ef ej)
  simp only[EJ,decide_eq_true_eq,beq_iff_eq]at hjj
  have exN:X.N[j]?=some x:=by
   rw[←ex,List.getD_eq_getElem?_getD,DX hjj.1]
   rfl
  have hfree:sc.names.lookup x=some .free:=by rw[←ex];exact hjj.2
  have hmem:=gU hfree
  have hout:=j7 hb hmem rfl
  obtain⟨m0,hn0,hl0⟩:=I.loc
  obtain⟨u,r,l⟩:=hl0 j x v exN es (by rcases hout with z | z;exact .inr (.inl z);exact .inr (.inr z))
  refine⟨u,r,?_⟩
  obtain⟨c,hc⟩:=kY (cells:=X.env.cells) hmem
  have hc':=fC I.ok hb hc
  have hcell:s.heap.IsCell c (some u):=by
   rcases l with⟨z,_⟩ | ⟨_,c',e',q⟩
   ·have z':X.env.scope.names.lookup x=some .local:=z
    rcases hout with w | w<;>(rw[z']at w;cases w)
   ·rw[hc']at e';cases e';exact q
  have hcell1:h1.IsCell c (some u):=by
   obtain⟨oc,ho,hd⟩:=hcell
   exact⟨oc,old c oc ho,hd⟩
  right
  refine⟨?_,c,hc,hcell1⟩
  have e3':(relabel sc X.env).names.lookup x=some .local\/(relabel sc X.env).names.lookup x=some .cell\/(relabel sc X.env).names.lookup x=some .free:=e3
  rcases e3' with z | z
  ·obtain⟨k',z1,z2⟩:=jR (sc:=sc) (env:=X.env) z
   rw[hfree]at z1
   rcases z2 with z2 | ⟨_,z2⟩
   ·rw[z2]at z1;cases z1
   ·cases z2
  ·exact z
 cell:=fun x c e=>by
  obtain⟨v,oc,ho,hd⟩:=I.cell x c (fC I.ok hb e)
  exact⟨v,oc,old c oc ho,hd⟩
 free:=I.hok.fresh (show @LE.le Nat _ s.heap.objs.size C by omega)
 freeC:=fun x c e=>I.freeC x c (fC I.ok hb e)
 pin:=fun p hp=>by
  have e:p=(D,o):=by simpa[cy]using hp
  subst e
  refine⟨hDo,I.hok.fresh (show @LE.le Nat _ s.heap.objs.size D by omega),?_,fun z=>?_,hod⟩
  ·exact Eo (show @LT.lt Nat _ D C by omega)
  ·have h9:@LT.lt Nat _ D s.heap.objs.size:=I.stk_lt (b:=D) z
   omega
 hok:=I.hok.kept old
 len:=by
  show(cY own.length js σ).length=(own++js.map fun j=>X.N.getD j "").length
  simp[cY]
def iH(J:It)(n:Nat)(js:List Nat)(g:TG)(tc:TT)(te:TE)(σ:St)(H:Hp)(Q:VK):Prop:=
 ∃W:Nat->Nat->List V->Hp->Prop,(∃m,W 0 m [] H)/\∀i m ys H',W i m ys H' →
  (J.stop i H'/\∀p,H' p=none->Q (.ref p) (upd H' p (.lst ys))) ∨
  (J.go i H'/\ys.length<sizeLine/\∃N:List V->Hp->Prop,(∀ys' H2,N ys' H2->∃m',m'<m/\W (i+1) m' ys' H2)/\∀x H2,J.yld i H' x H2->g x (cY n js σ) H2 fun σ2 H3=>tc σ2 H3 fun b H4=>
   if b=true then te σ2 H4 fun v H5=>N (ys++[v]) H5 else N ys H4)
def nS(n:Nat)(js:List Nat)(wi:TI)(g:TG)(tc:TT)(te:TE):TE:=fun σ H Q=>wi σ H fun J H1=>iH J n js g tc te σ H1 Q
structure TurnAt(X:Cx)(tg:Expr)(J:It)(fp:List Addr)(it:Addr)(tn:Nat->Heap->Prop):Prop where
 obj:∀i h,tn i h->∀b∈fp,∃o,h.get? b=some o/\∀v,o.data≠.cell v
 keep:∀i h h',tn i h->(∀b∈fp,∀o,h.get? b=some o->h'.get? b=some o)->tn i h'
 item:∀(i:Nat) (pins:List (Addr×Obj)) (s:Shared) (σ:St) (H:Hp) (E:Value->Shared->Prop),Inv X pins σ H s->(∀b∈fp,cG X pins H b)->tn i s.heap->J.go i H →
  wpAny (model X.prog X.w) X.A (pyNext (.ref it)) (fun r s1=>∃u,r=some u ∧
   wpAny (model X.prog X.w) X.A (letOwnedTupleGo tg (.ref it) u) (fun _ s2=>∃x H',Inv X pins σ H' s2/\RelV x u/\J.yld i H x H'/\tn (i+1) s2.heap/\∀b∈fp,H' b=none) E s1) E s
 done:∀(i:Nat) (pins:List (Addr×Obj)) (s:Shared) (σ:St) (H:Hp) (E:Value->Shared->Prop),Inv X pins σ H s->(∀b∈fp,cG X pins H b)->tn i s.heap->J.stop i H →
  wpAny (model X.prog X.w) X.A (pyNext (.ref it)) (fun r s1=>r=none/\Inv X pins σ H s1) E s
 self:∀(A:Around) (i:Nat) (s:Shared) (Q:Value->Shared->Prop) (E:Value->Shared->Prop),tn i s.heap->Q (.ref it) s->wpAny (model X.prog X.w) A (pyIter (.ref it)) Q E s
theorem Turn.at_{Y:Cx}{tg:Expr}{J:It}{fp:List Addr}{it:Addr}{tn:Nat->Heap->Prop}(T:Turn Y.prog Y.w Y.K tg J fp it tn)(hc:Y.calm=true):TurnAt Y tg J fp it tn:=⟨T.obj,T.keep,T.item Y rfl rfl rfl hc,T.done Y rfl rfl rfl hc,T.self⟩
theorem rm{elt tg iter:Expr}{ifs:List Expr}{sc:Scope}{pos:Pos}{own:List Str}{js:List Nat}{g:TG}{tc:TT}{te:TE}{J:It}{it:Addr}{fp:List Addr}{tn:Nat->Heap->Prop}{RR:Value->Addr->Result->Shared->Prop}{E:Value->Shared->Prop}
  {Q:VK} {W:Nat->Nat->List V->Hp->Prop} (hk:sc.kind=.function) (hb:eX sc X.env.scope=true) (hj:kH sc X.N js=true)
  (hg:∀C,PG (cy X sc own js ⟨s,H,fp,C⟩) tg g) (ht:∀C,iK (cy X sc own js ⟨s,H,fp,C⟩) ifs tc) (he:∀C,PE (cy X sc own js ⟨s,H,fp,C⟩) elt te)
  (I:Inv X pins σ H s) (T:∀C,TurnAt (cy X sc own js ⟨s,H,fp,C⟩) tg J fp it tn) (st:tn 0 s.heap) (hfp:∀b∈fp,cG X pins H b) (w0:∃m,W 0 m [] H)
  (turn:∀i m ys H',W i m ys H'->(J.stop i H'/\∀p,H' p=none->Q (.ref p) (upd H' p (.lst ys))) ∨
   (J.go i H'/\ys.length<sizeLine/\∃N:List V->Hp->Prop,(∀ys' H2,N ys' H2->∃m',m'<m/\W (i+1) m' ys' H2)/\∀x H2,J.yld i H' x H2->g x (cY own.length js σ) H2 fun σ2 H3=>tc σ2 H3 fun b H4=>
    if b=true then te σ2 H4 fun v H5=>N (ys++[v]) H5 else N ys H4))
  (fin:∀D C s' ys H',H' D=none->Inv X pins σ (upd H' D (.lst ys)) s'->cG X pins (upd H' D (.lst ys)) C->(∃m,s'.heap.Ns C m)->s.heap.objs.size<=C->Q (.ref D) (upd H' D (.lst ys))->RR (.ref D) C (.ok .next) s') :
  wpAny (model X.prog X.w) X.A (newList []) (fun acc s₃=>wpAny (model X.prog X.w) X.A (newFunctionEnv sc X.env.globals (dg sc.names X.env.cells) [] X.env.qual none .none (some X.env)) (fun cenv s₄=>
   codeAny (model X.prog X.w) X.A (.compStart (.ListComp elt [⟨tg,iter,ifs,0⟩] sc pos) 0 (.ref it) acc { cenv with scope:=relabel sc X.env }) (RR acc cenv.locals) s₄) E s₃) E s:=by
 have hlt:∀b∈fp,b<s.heap.objs.size:=fun b hb'=>by
  obtain⟨o,e,_⟩:=(T 0).obj 0 s.heap st b hb'
  exact DV e
 refine wpAny_newObj_type (wpAny_newFunctionEnv (fun y hy=>pS hb hy) (by intro y hy;simp at hy) (fun h₁ hns₁ hsb₁=>?_) hk)
 dsimp only at hns₁ hsb₁ ⊢
 generalize hH2:s.heap.push { cls:=.type "list",dict:=none,data:=.seq ([]:List Value).toArray }=H2 at hns₁ hsb₁ ⊢
 have hCs:H2.objs.size=s.heap.objs.size+1:=by rw[←hH2,Heap.size_push]
 generalize hCe:H2.objs.size=C at *
 have below:∀b:Nat,b<s.heap.objs.size->b≠C:=fun b hb'=>by omega
 have old:∀b o,s.heap.get? b=some o->h₁.get? b=some o:=fun b o e=>hsb₁.extBut b o (below b (DV e)) (DT _ (hH2 ▸ DT _ e))
 have hDo:h₁.get? s.heap.objs.size=some (dD [] 0):=hsb₁.extBut _ _ (show @Ne Nat s.heap.objs.size C by omega) (DT _ (hH2 ▸ DU _ rfl))
 generalize hDe:s.heap.objs.size=D at *
 -- the loop's word
 let Y:Cx:=cy X sc own js ⟨s,H,fp,C⟩
 have J0:Inv Y [(D,dD [] 0)] (cY own.length js σ) H { s with heap:=h₁,toks:=s.toks+([]:List (Str×Value)).length }:=
  Ca I hk hb hj hfp (by rw[hDe];exact hlt) hDe.symm (by rw[hDe];exact hCs) old hDo (fun v z=>by cases z) hns₁
 have ndC:@Ne Nat D C:=by omega
 have statF:∀{P':List (Addr×Obj)} {H':Hp},(∀b∈fp,H' b=none)->(∀p∈P',p.1∉fp)->∀b∈fp,cG Y P' H' b:=fun{P' H'} hn hp b hb'=>by
  obtain⟨f0,f1,f2,f3,f4,f5⟩:=hfp b hb'
  refine⟨hn b hb',fun z=>below b (hlt b hb') z,fun z=>?_,.inl hb',fun x c e=>f4 x c (fC I.ok hb e),fun p hp' z=>?_⟩
  ·rcases Ek.mp (I.stkSub b z)with e | h
   ·exact f1 e
   ·exact f2 h
  ·have:p∈P':=by simpa[Y,cy]using hp'
   exact hp p this (by rw[z];exact hb')
 have Dfp:D∉fp:=fun z=>by have h9:@LT.lt Nat _ D D:=hlt D z;omega
 have st1:tn 0 h₁:=(T 0).keep 0 s.heap h₁ st fun b _ o e=>old b o e
 have loop:∀s₃:Shared,s₃={ s with heap:=h₁,toks:=s.toks+([]:List (Str×Value)).length } →
   codeAny (model X.prog X.w) X.A (.compLoop (.ListComp elt [⟨tg,iter,ifs,0⟩] sc pos) 0 (.ref it) (.ref D) Y.env) (RR (.ref D) C) s₃:=by
  rintro s₃ rfl
  obtain⟨m0,w0⟩:=w0
  refine AG (fun n s'=>∃i ys its q H',Inv Y [(D,dD its q)] (cY own.length js σ) H' s'/\Vals ys its/\ys.length<=sizeLine/\tn i s'.heap/\(∀b∈fp,H' b=none)/\W i n ys H') ?_ m0
   ⟨0,[],[],0,H,J0,.nil,Nat.zero_le _,st1,fun b hb'=>(hfp b hb').1,w0⟩
  rintro n s3 ⟨i,ys,its,q,H3,I3,rv,hz,st3,fr3,w3⟩
  have pD:∀p∈[(D,dD its q)],p.1∉fp:=fun p hp=>by
   have e:p=(D,dD its q):=by simpa using hp
   rw[e];exact Dfp
  rcases turn i n ys H3 w3 with⟨stop,qn⟩ | ⟨go,hlen,N,hN,step⟩
  ·-- the end
   refine ay ((T C).done i _ s3 _ H3 _ I3 (statF fr3 pD) st3 stop) fun r s4 ⟨hr,I4⟩=>?_
   subst hr
   show RR (.ref D) C (.ok .next) s4
   have hDp:=I4.pin (D,dD its q) (List.mem_append_right _ (Eg.mpr rfl))
   have hD4:s4.heap.get? D=some (dD its q):=hDp.1
   have nD:H3 D=none:=hDp.2.1
   have U:Un (cJ X.stack) fp H H3 s.heap s4.heap:=I4.base
   have neD:∀b o,s.heap.get? b=some o->b≠D:=fun b o e=>Eo (by have h9:@LT.lt Nat _ b s.heap.objs.size:=DV e;omega)
   have neDH:∀b o,H b=some o->b≠D:=fun b o e=>Eo (by have h9:@LT.lt Nat _ b s.heap.objs.size:=I.hok.lt e;omega)
   have U2:Un (cJ X.stack) fp H (upd H3 D (.lst ys)) s.heap s4.heap:=
    ⟨U.keep,U.slot,fun b o e n hx=>by rw[az (neD b o e)];exact U.free b o e n hx,U.there,fun b xs e=>by rw[az (neDH b _ e)];exact U.tups b xs e,
     fun b o u e=>by rw[az (neDH b _ e)];exact U.frzs b o u e,fun b ps e=>by rw[az (neDH b _ e)];exact U.tbls b ps e⟩
   have hok2:aY X.prog X.w (upd H3 D (.lst ys)) s4.heap:=fun b o e=>by
    by_cases hb':b=D
    ·subst hb'
     rw[aL]at e
     cases e
     exact⟨hz,its,q,rv,hD4⟩
    ·rw[az hb']at e
     exact(I4.hok b o e).stay (fun c u _ z=>z) (fun c z=>by rw[az (bO z nD)];exact z) fun c xs z=>by rw[az (bO z nD)];exact z
   have IX:Inv X pins σ (upd H3 D (.lst ys)) s4:=I.call' (ch:=fp) I4.os U2 hok2 I4.bare fun b hb'=>by
    obtain⟨f0,f1,f2,f3,f4,f5⟩:=hfp b hb'
    exact⟨f3,f1,f4,f5⟩
   obtain⟨m4,hn4,_⟩:=I4.loc
   have nC:H3 C=none:=I4.free
   refine fin D C s4 ys H3 nD IX ?_ ⟨m4,hn4⟩ (show @LE.le Nat _ D C by omega) (qn D nD)
   refine⟨by rw[az (Ne.symm ndC)];exact nC,?_,?_,?_,?_,?_⟩
   ·have h9:@LT.lt Nat _ X.env.locals s.heap.objs.size:=I.lt
    exact Nat.ne_of_gt (show @LT.lt Nat _ X.env.locals C by omega)
   ·exact I.nofs (show @LE.le Nat _ s.heap.objs.size C by omega)
   ·right
    have h9:@LE.le Nat _ X.s₀.heap.objs.size s.heap.objs.size:=I.sz
    exact(show @LE.le Nat _ X.s₀.heap.objs.size C by omega)
   ·intro x c e
    have h9:@LT.lt Nat _ c s.heap.objs.size:=I.cell_lt e
    exact Eo (show @LT.lt Nat _ c C by omega)
   ·intro p hp
    have h9:@LT.lt Nat _ p.1 s.heap.objs.size:=I.pin_lt hp
    exact Eo (show @LT.lt Nat _ p.1 C by omega)
  ·-- a turn
   refine ay ((T C).item i _ s3 _ H3 _ I3 (statF fr3 pD) st3 go) fun r s4 ⟨u,hr,h4⟩=>?_
   subst hr
   refine ay h4 fun _ s5 ⟨x,H5,I5,r5,y5,st5,fr5⟩=>?_
   have I5':=I5.pinned (statF fr5 pD) ((T 0).obj _ _ st5)
   refine ay (hg _ _ s5 _ H5 x u _ I5' r5 (step x H5 y5)) fun _ s6 ⟨σ6,H6,I6,q6⟩=>?_
   refine ay (ht _ _ s6 σ6 H6 _ I6 q6) fun ok s7 ⟨H7,I7,q7⟩=>?_
   have back:∀{s':Shared} {σ':St} {H':Hp} {ys':List V} {its':List Value} {q':Nat},Inv Y ([(D,dD its' q')]++fN fp s5.heap) σ' H' s'->Vals ys' its'->ys'.length<=sizeLine->N ys' H' →
     ∃m,m<n/\∃i ys its q H',Inv Y [(D,dD its q)] (cY own.length js σ) H' s'/\Vals ys its/\ys.length<=sizeLine/\tn i s'.heap/\(∀b∈fp,H' b=none)/\W i m ys H':=by
    intro s' σ' H' ys' its' q' I' rv' hz' nn
    obtain⟨m',hm,w'⟩:=hN ys' H' nn
    have hpin:∀b∈fp,∀o,s5.heap.get? b=some o->s'.heap.get? b=some o/\H' b=none:=fun b hb' o e=>by
     have:=I'.pin (b,o) (List.mem_append_right _ (List.mem_append_right _ (mM hb' e)))
     exact⟨this.1,this.2.1⟩
    refine⟨m',hm,i+1,ys',its',q',H',?_,rv',hz',(T 0).keep _ _ _ st5 fun b hb' o e=>(hpin b hb' o e).1,fun b hb'=>?_,w'⟩
    ·have I'':=I'.unpinned
     obtain⟨mm,hmm,_⟩:=id I''.loc
     refine⟨I''.ok,I''.os,I''.bare,I''.base,⟨mm,hmm,fun k x v e1 e2 e3=>?_⟩,I''.cell,I''.free,I''.freeC,I''.pin,I''.hok,?_⟩
     ·-- the captured names: their cells are as they were at the block's beginning
      obtain⟨m1,hn1,hl1⟩:=J0.loc
      obtain⟨u1,r1,l1⟩:=hl1 k x v e1 e2 e3
      refine⟨u1,r1,?_⟩
      rcases l1 with⟨z,zz⟩ | ⟨z,c,e,zz⟩
      ·-- a captured name is no local one
       exfalso
       obtain⟨k',j,rfl,ej,es⟩:=wO e2
       have e1':(own++js.map fun j=>X.N.getD j "")[own.length+k']?=some x:=e1
       rw[Ex (by omega),Nat.add_sub_cancel_left,DY,ej]at e1'
       have ex:X.N.getD j "" = x:=by simpa using e1'
       have hjj:=EG.mp hj j (Ef ej)
       simp only[EJ,decide_eq_true_eq,beq_iff_eq]at hjj
       have hfree:sc.names.lookup x=some .free:=by rw[←ex];exact hjj.2
       obtain⟨k2,z1,z2⟩:=jR (sc:=sc) (env:=X.env) (show(relabel sc X.env).names.lookup x=some .local from z)
       rw[hfree]at z1
       rcases z2 with z2 | ⟨_,z2⟩
       ·rw[z2]at z1;cases z1
       ·cases z2
      ·refine .inr ⟨z,c,e,?_⟩
       have hcs:X.env.cells.lookup x=some c:=fC I.ok hb e
       obtain⟨ov,oc,hoc,hdc⟩:=I.cell x c hcs
       have hoc1:=old c oc hoc
       obtain⟨oz,hoz,hdz⟩:=zz
       have hoz':h₁.get? c=some oz:=hoz
       rw[hoc1]at hoz'
       cases hoz'
       have cnf:c∉fp:=fun z'=>(hfp c z').2.2.2.2.1 x c hcs rfl
       obtain⟨sl,hh⟩:=I''.base.any hoc (I.freeC x c hcs) cnf
       exact⟨_,hh,hdz⟩
     ·show(cY own.length js σ).length=_
      exact J0.len
    ·obtain⟨o,e,d⟩:=(T 0).obj _ _ st5 b hb'
     exact(hpin b hb' o e).2
   cases ok with
   | false=>
    rw[if_neg El]at q7 ⊢
    exact back I7 rv hz q7
   | true=>
    rw[if_pos rfl]at q7 ⊢
    refine ay (he _ _ s7 σ6 H7 _ I7 q7) fun xv s8 ⟨v,H8,I8,r8,q8⟩=>?_
    have hDp:=I8.pin (D,dD its q) (List.mem_append_right _ (List.mem_append_left _ (Eg.mpr rfl)))
    have hD8:s8.heap.get? D=some { cls:=.type "list",data:=.seq its.toArray q }:=hDp.1
    have hl:=rv.length
    refine call_meets F.slot_list_append ⟨_,hD8,rfl⟩ F.entry_list_append (F.args_list_append_2 _ _) (PySem.list_append D its.toArray q xv (by rw[Eb];omega)) ⟨hD8,?_⟩
    have qq:=PySem.IsL.update hD8 (fun a=>a.push xv)
    have eqs:its.toArray.push xv=(its++[xv]).toArray:=by simp
    rw[eqs]at qq
    obtain⟨q2,hq2⟩:∃q2,(s8.heap.update D (Obj.mapSeq fun a=>a.push xv)).get? D=some (dD (its++[xv]) q2):=⟨_,qq⟩
    -- without the pin of D,the record turns,then it is pinned again
    have I8a:Inv Y (fN fp s5.heap) σ6 H8 s8:=I8.pins_of fun p hp=>I8.pin p (List.mem_append_right _ (List.mem_append_right _ hp))
    have nD8:H8 D=none:=hDp.2.1
    have I9:Inv Y (fN fp s5.heap) σ6 H8 { s8 with heap:=s8.heap.update D (Obj.mapSeq fun a=>a.push xv),toks:=s8.toks }:=by
     refine I8a.turned (it:=D) (fun b o hb' e=>(Heap.get?_update_other s8.heap (Obj.mapSeq fun a=>a.push xv) (Ne.symm hb')).trans e) nD8 ndC (.inr (show @LE.le Nat _ s.heap.objs.size D by omega)) (fun x c e=>?_) fun p hp=>?_
     ·have h9:@LT.lt Nat _ c s.heap.objs.size:=I.cell_lt (fC I.ok hb e)
      exact Eo (show @LT.lt Nat _ c D by omega)
     ·have hp':p∈fN fp s5.heap:=by simpa[Y,cy]using hp
      obtain⟨h1,_⟩:=wU hp'
      exact fun z=>Dfp (z ▸ h1)
    refine back (ys':=ys++[v]) (its':=its++[xv]) (q':=q2) (I9.pins_of fun p hp=>?_) (rv.append (.cons r8 .nil)) (by rw[En,List.length_singleton];omega) q8
    rcases Ew.mp hp with hp | hp
    ·have e:p=(D,dD (its++[xv]) q2):=by simpa using hp
     subst e
     refine⟨hq2,nD8,ndC,fun z=>?_,fun v z=>by cases z⟩
     have h9:@LT.lt Nat _ D s.heap.objs.size:=I.stk_lt (b:=D) z
     omega
    ·exact I9.pin p (List.mem_append_right _ hp)
 exact codeAny_compStart_list (loop _ rfl) ((T 0).self X.A 0 { s with heap:=h₁,toks:=s.toks+([]:List (Str×Value)).length } _ _ st1 (loop _ rfl))
theorem di{elt tg iter:Expr}{ifs:List Expr}{sc:Scope}{pos:Pos}(own:List Str)(js:List Nat){wi:TI}{g:TG}{tc:TT}{te:TE}(hi:PI X tg iter wi)(hg:∀z,PG (cy X sc own js z) tg g)(ht:∀z,iK (cy X sc own js z) ifs tc)
  (he:∀z,PE (cy X sc own js z) elt te) (hc:X.calm=true:=by rfl) (hk:sc.kind=.function:=by rfl) (hb:eX sc X.env.scope=true:=by rfl) (hj:kH sc X.N js=true:=by rfl)
  (hs:∀x,foldedSetIterable iter X.env x=pure x:=by intro _;rfl):PE X (.ListComp elt [⟨tg,iter,ifs,0⟩] sc pos) (nS own.length js wi g tc te):=by
 intro pins s σ H Q I h
 rw[eval_ListComp]
 refine wpAny_comprehension_free (use:=none) rfl hs (nT fun p hp hf=>I.ok.has p.1 (j7 hb hp hf)) hk (fun p hp hl=>qS hb hp hl) (ay (hi pins s σ H _ I h) fun v s1 h1=>ay h1 fun itv s2 h2=>?_)
 obtain⟨it,fp,tn,J,H2,e,I2,T,st2,f2,W,w0,turn⟩:=h2
 subst e
 refine rm (RR:=fun acc C=>compPost (model X.prog X.w) X.A X.xe none (EP X pins σ Q) acc C) hk hb hj (fun _=>hg _) (fun _=>ht _) (fun _=>he _) I2 (fun C=>Turn.at_ (Y:=cy X sc own js ⟨_,_,_,C⟩) T hc) st2 f2 w0 turn ?_
 intro D C s' ys H' nD I' hC ⟨m,hm⟩ _ q
 refine⟨m,hm,fun h' hs'=>?_⟩
 obtain⟨f0,f1,f2,f3,f4,f5⟩:=hC
 exact⟨.ref D,_,I'.turned (t':=s'.toks) (it:=C) (fun b o hb' e=>(hs'.2 b hb').trans e) f0 f1 f3 f4 f5,rfl,q⟩
theorem fZ{i:Nat}{y:Str}{py:Pos}{elt tg iter:Expr}{ifs:List Expr}{sc:Scope}{pos spos:Pos}(own:List Str)(js:List Nat){wi:TI}{g:TG}{tc:TT}{te:TE}(hN:X.N.Nodup)(hi':X.N[i]?=some y)(hx:Loc X.env.scope y)
  (hi:PI X tg iter wi) (hg:∀z,PG (cy X sc own js z) tg g) (ht:∀z,iK (cy X sc own js z) ifs tc)
  (he:∀z,PE (cy X sc own js z) elt te) (hsw:swapsWith (.ListComp elt [⟨tg,iter,ifs,0⟩] sc pos) (some (.Name y py)) spos.line X.env=pure true:=by rfl) (hc:X.calm=true:=by rfl) (hk:sc.kind=.function:=by rfl) (hb:eX sc X.env.scope=true:=by rfl) (hj:kH sc X.N js=true:=by rfl)
  (hs:∀x,foldedSetIterable iter X.env x=pure x:=by intro _;rfl) (hf:X.fn y=true\/X.env.scope.names.lookup y=some .local:=by first | exact .inl rfl | exact .inr rfl | assumption) :
  PS X (.Assign [.Name y py] (.ListComp elt [⟨tg,iter,ifs,0⟩] sc pos) spos) (jl (nS own.length js wi g tc te) (ie i)):=by
 intro pins s σ H D' I h
 rw[exec_Assign_Name_used _ _ _ _ hsw]
 refine DQ (wpAny_standAt (DQ ?_))
 show wpAny _ X.A (do let _ ←comprehension (.ListComp elt [⟨tg,iter,ifs,0⟩] sc pos) sc X.env _ (newList []) false (eval iter X.env) (some (assign (.Name y py) X.env))) _ _ s
 refine DQ (wpAny_mono (wpAny_comprehension_free (use:=some (assign (.Name y py) X.env)) (Q:=fun _ s'=>SP X pins D' .next s') rfl hs (nT fun p hp hf=>I.ok.has p.1 (j7 hb hp hf)) hk (fun p hp hl=>qS hb hp hl)
  (ay (hi pins s σ H _ I h) fun v s1 h1=>ay h1 fun itv s2 h2=>?_)) (fun _ s' hq=>DR (DR hq)) fun _ _ e=>e)
 obtain⟨it,fp,tn,J,H2,e,I2,T,st2,f2,W,w0,turn⟩:=h2
 subst e
 refine rm (Q:=fun x H1=>ie i x σ H1 D'.nx) (RR:=fun acc C=>compPost (model X.prog X.w) X.A X.xe (some (assign (.Name y py) X.env)) (fun _ s'=>SP X pins D' .next s') acc C) hk hb hj (fun _=>hg _) (fun _=>ht _) (fun _=>he _) I2 (fun C=>Turn.at_ (Y:=cy X sc own js ⟨_,_,_,C⟩) T hc) st2 f2 w0 turn ?_
 intro D C s' ys H' nD I' hC ⟨m,hm⟩ hCs q
 show wpAny _ X.A (assign (.Name y py) X.env (.ref D)) _ _ _
 refine wpAny_assign_Name (rO I' hN hi' hx (v:=.ref D) rfl (fun s'' I'' ⟨a,hsb,ha⟩=>?_) hf)
 obtain⟨f0,f1,f2,f3,f4,f5⟩:=hC
 have hac:a≠C:=by
  rcases ha with rfl | ha
  ·exact Ne.symm f1
  ·exact f4 y a ha
 refine⟨m,hm.sameBut hsb (Ne.symm hac),fun h' hs'=>?_⟩
 exact⟨_,_,I''.turned (t':=s''.toks) (it:=C) (fun b o hb' e=>(hs'.2 b hb').trans e) f0 f1 f3 f4 f5,q⟩
end
theorem gj{K:DS}{a:Addr}{xs:List V}{n:Nat}{js:List Nat}{g:TG}{tc:TT}{te:TE}{Q:VK}{σ:St}{H:Hp}(Pv:Nat->List V->Hp->Prop)(hz:xs.length<=sizeLine)(h0:Pv 0 [] H)(hl:∀i ys H,i<=xs.length->Pv i ys H->ag K H a xs/\ys.length<=i)
  (hs:∀i x ys H,xs[i]?=some x->Pv i ys H->g x (cY n js σ) H fun σ2 H3=>tc σ2 H3 fun b H4=>if b=true then te σ2 H4 fun v H5=>Pv (i+1) (ys++[v]) H5 else Pv (i+1) ys H4)
  (hd:∀ys H p,Pv xs.length ys H->H p=none->Q (.ref p) (upd H p (.lst ys))):iH (fA K a) n js g tc te σ H Q:=by
 refine⟨fun i m ys H=>m=xs.length-i/\i<=xs.length/\Pv i ys H,⟨xs.length,by simp,Nat.zero_le _,h0⟩,?_⟩
 rintro i m ys H ⟨rfl,hi,p⟩
 have q:=hl i ys H hi p
 by_cases hlt:i<xs.length
 ·refine .inr ⟨⟨xs,xs[i],q.1,by simp[hlt]⟩,by have:=q.2;omega,Pv (i+1),fun ys' H' p'=>⟨xs.length-(i+1),by omega,rfl,hlt,p'⟩,fun x H' y=>?_⟩
  obtain⟨e,y⟩:=y
  subst e
  exact hs i x ys _ (y xs q.1) p
 ·have e:i=xs.length:=by omega
  subst e
  exact .inl ⟨⟨xs,q.1,Ep _⟩,fun p' hp=>hd ys H p' p hp⟩
theorem mR{K:DS}{a:Addr}{xs:List V}{n:Nat}{js:List Nat}{g:TG}{tc:TT}{te:TE}{Q:VK}{σ:St}{H:Hp}(Pv:Nat->List V->Hp->Prop)(hz:xs.length<=sizeLine)(h0:Pv 0 [] H)(hl:∀i ys H,i<=xs.length->Pv i ys H->ah K H a xs/\ys.length<=i)
  (hs:∀i x ys H,xs[i]?=some x->Pv i ys H->g x (cY n js σ) H fun σ2 H3=>tc σ2 H3 fun b H4=>if b=true then te σ2 H4 fun v H5=>Pv (i+1) (ys++[v]) H5 else Pv (i+1) ys H4)
  (hd:∀ys H p,Pv xs.length ys H->H p=none->Q (.ref p) (upd H p (.lst ys))):iH (dA K a) n js g tc te σ H Q:=by
 refine⟨fun i m ys H=>m=xs.length-i/\i<=xs.length/\Pv i ys H,⟨xs.length,by simp,Nat.zero_le _,h0⟩,?_⟩
 rintro i m ys H ⟨rfl,hi,p⟩
 have q:=hl i ys H hi p
 by_cases hlt:i<xs.length
 ·refine .inr ⟨⟨xs,xs[i],q.1,by simp[hlt]⟩,by have:=q.2;omega,Pv (i+1),fun ys' H' p'=>⟨xs.length-(i+1),by omega,rfl,hlt,p'⟩,fun x H' y=>?_⟩
  obtain⟨e,y⟩:=y
  subst e
  exact hs i x ys _ (y xs q.1) p
 ·have e:i=xs.length:=by omega
  subst e
  exact .inl ⟨⟨xs,q.1,Ep _⟩,fun p' hp=>hd ys H p' p hp⟩
theorem ef{lo:Int}{N n:Nat}{js:List Nat}{g:TG}{tc:TT}{te:TE}{Q:VK}{σ:St}{H:Hp}(Pv:Nat->List V->Hp->Prop)(hz:N<=sizeLine)(h0:Pv 0 [] H)(hl:∀i ys H,i<=N->Pv i ys H->ys.length<=i)
  (hs:∀i ys H,i<N->Pv i ys H->g (.int (lo+i)) (cY n js σ) H fun σ2 H3=>tc σ2 H3 fun b H4=>if b=true then te σ2 H4 fun v H5=>Pv (i+1) (ys++[v]) H5 else Pv (i+1) ys H4)
  (hd:∀ys H p,Pv N ys H->H p=none->Q (.ref p) (upd H p (.lst ys))):iH (dh lo N) n js g tc te σ H Q:=by
 refine⟨fun i m ys H=>m=N-i/\i<=N/\Pv i ys H,⟨N,by simp,Nat.zero_le _,h0⟩,?_⟩
 rintro i m ys H ⟨rfl,hi,p⟩
 have q:=hl i ys H hi p
 by_cases hlt:i<N
 ·refine .inr ⟨hlt,by omega,Pv (i+1),fun ys' H' p'=>⟨N-(i+1),by omega,rfl,hlt,p'⟩,fun x H' y=>?_⟩
  obtain⟨e,y⟩:=y
  subst e y
  exact hs i ys _ hlt p
 ·have e:i=N:=by omega
  subst e
  exact .inl ⟨Ep _,fun p' hp=>hd ys H p' p hp⟩
end L2
namespace L2
open PySem PySem.Spec PyProof.Rows
structure Cal(P:Program)(w:World)(K:DS)(mg:Str->Option Value)(base:Heap)(x:Str)(k:Nat)(ps:List Str)(sp:Sp):Prop where
 ex:∃(f:Addr) (fd:FuncData),mg x=some (.ref f)/\PySem.W.keepIn K (.ref f)=true/\Binds K fd ps []/\FnOk P w K mg base dm k f fd ps sp
structure Dfn(K:DS)(mg:Str->Option Value)(x:Str)(st:Stmt)(ps:List Str):Prop where
 ex:∃(f:Addr) (fd:FuncData),mg x=some (.ref f)/\Fun K x x st f fd/\Binds K fd ps []
section
variable {P:Program} {w:World} {K:DS} {mg:Str->Option Value} {base:Heap}
theorem Dfn.ok{x:Str}{st:Stmt}{N ps:List Str}{k:Nat}{sp:Sp}(D:Dfn K mg x st ps)(S:FnScope N ps (aI st))(len:∀vs H Q E,sp vs H Q E->vs.length=ps.length)
  (hbody:∀(X:Cx) (hX:∃f cdv A outer s H E,X=(fR dm P w K mg base N x (aI st) f cdv A outer s H E).nox/\Room k X.A) (H:Hp) (vs:List V) (Q:VK) (E:XK),sp vs H Q E →
   ∃t,cq X (eh st) t/\t { nx:=fun _ H'=>Q .non H',rt:=Q } (start N vs) H):Cal P w K mg base x (k+1) ps sp:=by
 obtain⟨f,fd,hm,F,hb⟩:=D.ex
 exact⟨f,fd,hm,F.kp,hb,F.ok S len fun cdv A outer s H vs Q E hr h=>hbody _ ⟨f,cdv,A,outer,s,H,E,rfl,hr⟩ H vs Q E h⟩
end
section
variable {X:Cx}
theorem aH{x:Str}{k j:Nat}{ps:List Str}{sp:Sp}{e:Expr}{es:List Expr}{t:TA}{p pos:Pos}(C:Cal X.prog X.w X.K X.mg X.base x j ps sp)(hr:Room k X.A)(ha:PA X (e::es) t)(hjk:j<=k:=by decide)(hg:Gl X x:=by rfl)(hdb:(x == ("__debug__":Str))=false:=by decide)
  (he:starEach (e::es) X.env=(false,eval e X.env)::starEach es X.env:=by rfl) (hpl:(backTo pos (starEach es X.env)).any (·.1)=false:=by rfl) :
  PE X (.Call (.Name x p) (e::es) [] pos) (lT sp [] E0 t):=by
 obtain⟨f,fd,hm,hk,hb,F⟩:=C.ex
 exact yr F (hr.mono hjk) hg hm hk hb .nil xy ha hdb he hpl
theorem Dk:bq X (binaryOp .FloorDiv) (rI (fun _ j=>0<j/\j<2 ^ 64) fun i j=>.int (i / j)):=jZ fun i j _ _ _ _ _ hc q=>by
 have h1:(0:Int)<j:=hc.1
 have h2:j<2 ^ 64:=hc.2
 refine floordiv_int (by omega) (by rw[Int.fdiv_eq_ediv_of_nonneg i (by omega)];exact q) (.inl (PyProof.noPylong_of_log2 ?_))
 have h0:j.natAbs≠0:=by omega
 have h64:j.natAbs<2 ^ 64:=by omega
 have:=(Nat.log2_lt h0).mpr h64
 omega
def dv(H:Hp):V->String->Prop
 | .non,n=>n = "NoneType"
 | .bl _,n=>n = "bool"
 | .int _,n=>n = "int"
 | .str _,n=>n = "str"
 | .ref a,n=>(n = "list"/\∃xs,H a=some (.lst xs))\/(n = "tuple"/\∃xs,H a=some (.tup xs))
 | _,_=>False
theorem dv.ty{K:DS}{H:Hp}{x:V}{n:String}(h:dv H x n):TyOf K H x (.type n):=by
 cases x with
 | non=>cases(show n = "NoneType" from h);exact .non
 | bl b=>cases(show n = "bool" from h);exact .bl b
 | int i=>cases(show n = "int" from h);exact .int i
 | str z=>cases(show n = "str" from h);exact .str z
 | ref a=>
  rcases h with⟨rfl,xs,e⟩ | ⟨rfl,xs,e⟩
  ·exact .lst e
  ·exact .tup e
 | _=>exact False.elim h
def fO:String->String->Option Bool
 | "NoneType","tuple"=>some false | "NoneType","int"=>some false | "NoneType","bool"=>some false | "NoneType","list"=>some false | "NoneType","str"=>some false
 | "bool","tuple"=>some false | "bool","int"=>some true | "bool","bool"=>some true | "bool","list"=>some false | "bool","str"=>some false
 | "int","tuple"=>some false | "int","int"=>some true | "int","bool"=>some false | "int","list"=>some false | "int","str"=>some false
 | "str","tuple"=>some false | "str","int"=>some false | "str","bool"=>some false | "str","list"=>some false | "str","str"=>some true
 | "list","tuple"=>some false | "list","int"=>some false | "list","bool"=>some false | "list","list"=>some true | "list","str"=>some false
 | "tuple","tuple"=>some true | "tuple","int"=>some false | "tuple","bool"=>some false | "tuple","list"=>some false | "tuple","str"=>some false
 | _,_=>none
theorem CS{K:DS}{n T:String}{b:Bool}(h:fO n T=some b):PySem.W.kitOne K (.type n) (.type T)=some b:=by
 unfold fO at h
 split at h<;>first
  | (cases h;kernel_rfl)
  | cases h
def wA:List V->Hp->VK->Prop:=fun xs H Q=>∃x n T b,xs=[x,.ty T]/\dv H x n/\fO n T=some b/\Q (.bl b) H
theorem eO:bV X (.builtin "isinstance") wA:=by
 intro pins s σ H xs us Q I r h
 obtain⟨x,n,T,b,rfl,hk,hb,q⟩:=h
 obtain⟨u,w',rfl,r1,r2⟩:=vals2 r
 cases(show w'=Value.type T from r2)
 exact yP I r1 hk.ty (CS hb) fun tk=>⟨.bl b,H,I.tok tk,rfl,q⟩
def jL(K:DS):List V->Hp->VK->Prop:=fun xs H Q=>∃p ys,xs=[.ref p]/\(ag K H p ys\/ah K H p ys)/\Q (.int ys.length) H
theorem Dh:bV X (.builtin "len") (jL X.K):=yT
def mL(K:DS):List V->Hp->VK->Prop:=fun xs H Q=>∃p ys,xs=[.ref p]/\((ag K H p ys/\∀l,H l=none->Q (.ref l) (upd H l (.tup ys)))\/(ah K H p ys/\Q (.ref p) H))
theorem Ay:bV X (.type "tuple") (mL X.K):=xo
def xh:List V->Hp->VK->Prop:=fun xs H Q=>(∃i,xs=[.int i]/\Q (.int i) H)\/∃k,xs=[.bl k]/\Q (.int (if k then 1 else 0)) H
theorem AJ:bV X (.type "int") xh:=Bn
def rH:List V->Hp->VK->Prop:=fun xs H Q=>∃i j,xs=[.int i,.int j]/\Q (.int (if j>i then j else i)) H
theorem BO(hc:X.calm=true):bV X (.builtin "max") rH:=zM hc
def rV:List V->Hp->VK->Prop:=fun xs H Q=>∃i j,xs=[.int i,.int j]/\Q (.int (if j<i then j else i)) H
theorem yF(hc:X.calm=true):bV X (.builtin "min") rV:=zQ hc
end
end L2
namespace L2
open PySem PySem.Spec PyProof.Rows
def Ext(H H':Hp):Prop:=∀b o,H b=some o->H' b=some o
theorem Ext.rfl'(H:Hp):Ext H H:=fun _ _ h=>h
theorem Ext.trans{H H1 H2:Hp}(a:Ext H H1)(b:Ext H1 H2):Ext H H2:=fun x o h=>b x o (a x o h)
theorem Ext.none{H H':Hp}(e:Ext H H'){l:Addr}(h:H' l=Option.none):H l=Option.none:=by
 cases q:H l with
 | none=>rfl
 | some o=>rw[e l o q]at h;cases h
section
variable {X:Cx} (K:DS)
theorem aS(h:X.K=K:=by rfl):jg X (mj K):=by subst h;exact zV
theorem aB(h:X.K=K:=by rfl):jg X (nz K):=by subst h;exact Cd
theorem jt(h:X.K=K:=by rfl):mP X (mC K):=by subst h;exact yj
theorem qT(h:X.K=K:=by rfl):bq X (compareOp .In) (mJ K false):=by subst h;exact CN
theorem cH(h:X.K=K:=by rfl):bV X (.builtin "len") (jL K):=by subst h;exact Dh
theorem jI(h:X.K=K:=by rfl):bV X (.type "tuple") (mL K):=by subst h;exact Ay
theorem cz{tg l:Expr}{tl:TE}(hl:PE X l tl)(h:X.K=K:=by rfl):PI X tg l (oq K tl):=by subst h;exact Au hl
theorem kJ{tg l:Expr}{tl:TE}(hl:PE X l tl)(h:X.K=K:=by rfl):PI X tg l (m6 K tl):=by subst h;exact xB hl
theorem fj{es:List Expr}{k:Nat}{t:eQ}{n:Nat}{pos:Pos}(hc:X.calm=true)(hg:iM X es t)(h:X.K=K:=by rfl)
  (hn:(assignEach es X.env).length=n:=by rfl) (hst:(assignEach es X.env).findIdx? (·.1)=none:=by rfl):PG X (.Tuple es k pos) (nE K n t):=by subst h;exact Al hc hg hn hst
theorem bE{o e:Expr}{es:List Expr}{to:TE}{t:TA}{name:Str}{apos cpos:Pos}{T id:String}{r:V->List V->Hp->VK->Prop}(pa:PlainAttrs T)(slot:Slot T name id)(hty:typeOf (.builtin id)=pure (.type "method_descriptor"))(hm:mZ X id r)(ho:PE X o to)(ha:PA X (e::es) t)(h:X.K=K:=by rfl)
  (hbase:attributeBase o name X.env (eval o X.env)=eval o X.env:=by rfl)
  (hfew:((backTo cpos (starEach (e::es) X.env)).all (fun x=>!x.1) && (backToKw cpos (keywordEach [] X.env)).all (fun x=>x.1.isSome)
   && decide ((e::es).length+([]:List Keyword).length+(if([]:List Keyword).isEmpty then 0 else 1)<30))=true:=by rfl)
  (hline:(apos.endLine == cpos.line)=true:=by rfl) (hs:starEach (e::es) X.env=(false,eval e X.env)::starEach es X.env:=by rfl) (hplain:(backTo cpos (starEach es X.env)).any (·.1)=false:=by rfl) :
  PE X (.Call (.Attribute o name apos) (e::es) [] cpos) (og K T r to t):=by subst h;exact zo pa slot hty hm ho ha hbase hfew hline hs hplain
end
def uA(ns:List Int):TA:=fun _ H Q=>Q (ns.map V.int) H
inductive IntsE:List Expr->List Int->Prop
 | n:IntsE [] []
 | c {i j pos es ns}:IntsE es ns->IntsE (.Constant (.int i) j pos::es) (i::ns)
theorem za{X:Cx}{es:List Expr}{ns:List Int}(h:IntsE es ns):PA X es (uA ns):=by
 induction h with
 | n=>exact ae
 | @c i j pos es ns _ ih=>
  intro p pins s σ H Q I hq
  exact aa (e:=.Constant (.int i) j pos) af ih rfl p pins s σ H Q I hq
theorem rd_ints{σ:St}{H:Hp}{ns:List Int}{R:List V->Hp->Prop}(h:R (ns.map V.int) H):uA ns σ H R:=h
def mT(c:TT)(t u:TS):TS:=fun D σ H=>∃R:St->Hp->Prop,(c σ H fun b H1=>if b=true then t { D with nx:=R } σ H1 else u { D with nx:=R } σ H1)/\∀σ' H',R σ' H'->D.nx σ' H'
theorem cO{X:Cx}{c:Expr}{a b:List Stmt}{tc:TT}{t u:TS}{pos:Pos}(hc:PT X c tc)(ha:cq X a t)(hb:cq X b u):PS X (.If c a b pos) (mT tc t u):=by
 intro pins s σ H D I h
 obtain⟨R,h,hR⟩:=h
 refine ay (bU hc ha hb pins s σ H { D with nx:=R } I h) fun f s1 q=>?_
 cases f with
 | next=>
  obtain⟨σ',H',I',q⟩:=q
  exact⟨σ',H',I',hR σ' H' q⟩
 | ret v=>exact q
 | brk=>exact q
 | cont=>exact q
def px(K:DS):V->Hp->(It->Hp->Prop)->Prop:=fun x H R=>∃a,x=.ref a/\(∃xs,ag K H a xs)/\R (fA K a) H
def vN(K:DS):V->Hp->(It->Hp->Prop)->Prop:=fun x H R=>∃a,x=.ref a/\(∃xs,ah K H a xs)/\R (dA K a) H
def xj:List V->Hp->(It->Hp->Prop)->Prop:=fun vs H R=>∃j:Int,vs=[.int j]/\-(2 ^ 62)<=j/\j<2 ^ 62/\R (dh 0 j.toNat) H
def qg:List V->Hp->(It->Hp->Prop)->Prop:=fun vs H R=>∃i j:Int,vs=[.int i,.int j]/\(-(2 ^ 62)<=i/\i<2 ^ 62/\-(2 ^ 62)<=j/\j<2 ^ 62)/\R (dh i (j-i).toNat) H
def i8(J:It)(g:TG)(tb:TS)(D:Ends)(σ:St)(H:Hp):Prop:=∃W:Nat->Nat->St->Hp->Prop,(∃m,W 0 m σ H)/\∀i m σ H,W i m σ H →
 (J.stop i H/\D.nx σ H)\/(J.go i H/\∃N:St->Hp->Prop,(∀σ' H',N σ' H'->∃m',m'<m/\W (i+1) m' σ' H')/\∀x H',J.yld i H x H'->g x σ H' fun σ2 H2=>tb { D with nx:=N,ct:=N,bk:=D.nx } σ2 H2)
theorem forL{K:DS}{a:Addr}{xs:List V}{g:TG}{tb:TS}{D:Ends}{σ:St}{H:Hp}(Pv:Nat->St->Hp->Prop)(h0:Pv 0 σ H)(hl:∀i σ H,i<=xs.length->Pv i σ H->ag K H a xs)
  (hs:∀i x σ H,xs[i]?=some x->Pv i σ H->g x σ H fun σ2 H2=>tb ⟨Pv (i+1),D.rt,D.nx,Pv (i+1)⟩ σ2 H2) (hd:∀σ H,Pv xs.length σ H->D.nx σ H):i8 (fA K a) g tb D σ H:=yo Pv h0 hl hs hd
theorem A8{K:DS}{a:Addr}{xs:List V}{g:TG}{tb:TS}{D:Ends}{σ:St}{H:Hp}(Pv:Nat->St->Hp->Prop)(h0:Pv 0 σ H)(hl:∀i σ H,i<=xs.length->Pv i σ H->ah K H a xs)
  (hs:∀i x σ H,xs[i]?=some x->Pv i σ H->g x σ H fun σ2 H2=>tb ⟨Pv (i+1),D.rt,D.nx,Pv (i+1)⟩ σ2 H2) (hd:∀σ H,Pv xs.length σ H->D.nx σ H):i8 (dA K a) g tb D σ H:=Bo Pv h0 hl hs hd
theorem forR{lo:Int}{n:Nat}{g:TG}{tb:TS}{D:Ends}{σ:St}{H:Hp}(Pv:Nat->St->Hp->Prop)(h0:Pv 0 σ H)
  (hs:∀i σ H,i<n->Pv i σ H->g (.int (lo+i)) σ H fun σ2 H2=>tb ⟨Pv (i+1),D.rt,D.nx,Pv (i+1)⟩ σ2 H2) (hd:∀σ H,Pv n σ H->D.nx σ H):i8 (dh lo n) g tb D σ H:=DA Pv h0 hs hd
def fb(H:Hp)(o:HO)(R:VK):Prop:=∀p,H p=none->R (.ref p) (upd H p o)
section
variable {K:DS} {D:Ends} {σ:St} {H:Hp} {Q:VK} {ta tb tc te:TE} {t u:TS} {c c':TT}
theorem rd_seq(h:t ⟨u D,D.rt,D.bk,D.ct⟩ σ H):tT t u D σ H:=h
theorem rd_next(h:D.nx σ H):xc D σ H:=h
theorem rd_ret(h:te σ H D.rt):rR te D σ H:=h
theorem rd_asg{g:TG}(h:te σ H fun x H1=>g x σ H1 D.nx):jl te g D σ H:=h
theorem rd_drop(h:te σ H fun _ H1=>D.nx σ H1):vP te D σ H:=h
theorem rd_ifS(h:c σ H fun b H1=>if b=true then t D σ H1 else u D σ H1):pO c t u D σ H:=h
theorem gY(R:St->Hp->Prop)(h:c σ H fun b H1=>if b=true then t ⟨R,D.rt,D.bk,D.ct⟩ σ H1 else u ⟨R,D.rt,D.bk,D.ct⟩ σ H1)(k:∀σ' H',R σ' H'->D.nx σ' H'):mT c t u D σ H:=⟨R,h,k⟩
theorem b7(h:c σ H fun b H1=>if b=true then t D σ H1 else u D σ H1):mT c t u D σ H:=⟨D.nx,h,fun _ _ h=>h⟩
theorem rd_name{i:Nat}{v:V}{R:St->Hp->Prop}(h:R (σ.set i (some v)) H):ie i v σ H R:=h
theorem rd_var{i:Nat}{v:V}(e:σ[i]?=some (some v))(h:Q v H):nK i σ H Q:=⟨v,e,h⟩
theorem rd_c{v:V}(h:Q v H):tC v σ H Q:=h
theorem rd_op{r:R2}(h:ta σ H fun x H1=>tb σ H1 fun y H2=>r x y H2 Q):gN r ta tb σ H Q:=h
theorem rd_un{r:V->Hp->VK->Prop}(h:ta σ H fun x H1=>r x H1 Q):pY r ta σ H Q:=h
theorem rd_CB{r:List V->Hp->VK->Prop}{a:TA}(h:a σ H fun vs H1=>r vs H1 Q):jM r a σ H Q:=h
theorem rd_cons{a:TA}{R:List V->Hp->Prop}(h:ta σ H fun x H1=>a σ H1 fun xs H2=>R (x::xs) H2):lr ta a σ H R:=h
theorem rd_nil{R:List V->Hp->Prop}(h:R [] H):mS σ H R:=h
theorem rd_test{R:Bool->Hp->Prop}(h:te σ H fun x H'=>∃k,x=.bl k/\R k H'):wj te σ H R:=h
theorem rd_B{R:Bool->Hp->Prop}(h:te σ H fun x H'=>∃k,x=.bl k/\R k H'):tB te σ H R:=h
theorem rd_exb{b:Bool}{R:Bool->Prop}(h:R b):∃k,V.bl b=V.bl k/\R k:=⟨b,rfl,h⟩
theorem rd_not{R:Bool->Hp->Prop}(h:c σ H fun b H1=>R (!b) H1):vB c σ H R:=h
theorem rd_and{R:Bool->Hp->Prop}(h:c σ H fun b H1=>if b=true then c' σ H1 R else R false H1):ql c c' σ H R:=h
theorem rd_or{R:Bool->Hp->Prop}(h:c σ H fun b H1=>if b=true then R true H1 else c' σ H1 R):qU c c' σ H R:=h
theorem rd_andV(h:ta σ H fun x H1=>∃k,x=.bl k/\if k=true then tb σ H1 Q else Q (.bl false) H1):tj ta tb σ H Q:=h
theorem rd_orV(h:ta σ H fun x H1=>∃k,x=.bl k/\if k=true then Q (.bl true) H1 else tb σ H1 Q):o7 ta tb σ H Q:=h
theorem rd_notV(h:ta σ H fun x H1=>∃k,x=.bl k/\Q (.bl (!k)) H1):sC ta σ H Q:=h
theorem rd_yes{R:Bool->Hp->Prop}(h:R true H):sT σ H R:=h
theorem rd_I0{g:Int->Int->V}{i j:Int}(h:Q (g i j) H):eV g (.int i) (.int j) H Q:=⟨i,j,rfl,rfl,h⟩
theorem rd_I{C:Int->Int->Prop}{g:Int->Int->V}{i j:Int}(hc:C i j)(h:Q (g i j) H):rI C g (.int i) (.int j) H Q:=⟨i,j,rfl,rfl,hc,h⟩
theorem rd_U{g:Int->V}{i:Int}(h:Q (g i) H):rU g (.int i) H Q:=⟨i,rfl,h⟩
theorem rd_EqI{i j:Int}(h:Q (.bl (decide (i=j))) H):lK (.int i) (.int j) H Q:=⟨rfl,by
 have e:decide (V.int i=V.int j)=decide (i=j):=by rw[EI];simp
 rw[e];exact h⟩
theorem rd_NeI{i j:Int}(h:Q (.bl (!decide (i=j))) H):iY (.int i) (.int j) H Q:=⟨rfl,by
 have e:decide (V.int i=V.int j)=decide (i=j):=by rw[EI];simp
 rw[e];exact h⟩
theorem rd_EqB{i j:Bool}(h:Q (.bl (i == j)) H):lK (.bl i) (.bl j) H Q:=⟨rfl,by rw[kD];exact h⟩
theorem rd_NeB{i j:Bool}(h:Q (.bl (!(i == j))) H):iY (.bl i) (.bl j) H Q:=⟨rfl,by rw[kD];exact h⟩
theorem aQ{p:Addr}{xs:List V}{i:Int}{v:V}(e:ag K H p xs)(a:bA xs i=some v)(h:Q v H):mj K (.ref p) (.int i) H Q:=⟨p,xs,i,v,rfl,rfl,e,a,h⟩
theorem aA{p:Addr}{xs:List V}{i:Int}{v:V}(e:ah K H p xs)(a:bA xs i=some v)(h:Q v H):nz K (.ref p) (.int i) H Q:=⟨p,xs,i,v,rfl,rfl,e,a,h⟩
theorem dI{p:Addr}{xs:List V}(e:ag K H p xs)(h:Q (.int xs.length) H):jL K [.ref p] H Q:=⟨p,xs,rfl,.inl e,h⟩
theorem kf{p:Addr}{xs:List V}(e:ah K H p xs)(h:Q (.int xs.length) H):jL K [.ref p] H Q:=⟨p,xs,rfl,.inr e,h⟩
theorem lU{p:Addr}{xs:List V}(e:ag K H p xs)(h:fb H (.tup xs) Q):mL K [.ref p] H Q:=⟨p,xs,rfl,.inl ⟨e,h⟩⟩
theorem eA{x:V}{n T:String}{b:Bool}(hk:dv H x n)(hb:fO n T=some b)(h:Q (.bl b) H):wA [x,.ty T] H Q:=⟨x,n,T,b,rfl,hk,hb,h⟩
theorem rd_intB{k:Bool}(h:Q (.int (if k then 1 else 0)) H):xh [.bl k] H Q:=.inr ⟨k,rfl,h⟩
theorem rd_max2{i j:Int}(h:Q (.int (if j>i then j else i)) H):rH [.int i,.int j] H Q:=⟨i,j,rfl,h⟩
theorem rd_min2{i j:Int}(h:Q (.int (if j<i then j else i)) H):rV [.int i,.int j] H Q:=⟨i,j,rfl,h⟩
theorem rd_call{sp:Sp}{a:TA}{E:XK}(h:a σ H fun vs H1=>sp (vs++[]) H1 Q E):lT sp [] E a σ H Q:=h
theorem rd_BM{T:String}{r:V->List V->Hp->VK->Prop}{a:TA}(h:te σ H fun x H1=>iD K T x H1/\a σ H1 fun xs H2=>r x xs H2 Q):og K T r te a σ H Q:=h
theorem rd_tup{a:TA}(h:a σ H fun xs H1=>xs.length<=sizeLine/\fb H1 (.tup xs) Q):m8 a σ H Q:=h
theorem rd_lst{a:TA}(h:a σ H fun xs H1=>xs.length<=sizeLine/\fb H1 (.lst xs) Q):tu a σ H Q:=h
theorem rd_sl{r:V->Option Int->Option Int->Hp->VK->Prop}{tl th:TO}(h:te σ H fun x H1=>tl σ H1 fun l H2=>th σ H2 fun v H3=>r x l v H3 Q):pQ r te tl th σ H Q:=h
theorem rd_noPart{R:Option Int->Hp->Prop}(h:R none H):qI σ H R:=h
theorem rd_part{R:Option Int->Hp->Prop}(h:te σ H fun x H1=>∃i,x=.int i/\R (some i) H1):p6 te σ H R:=h
theorem rd_exi{i:Int}{R:Int->Prop}(h:R i):∃k,V.int i=V.int k/\R k:=⟨i,rfl,h⟩
theorem rd_chain{r r':R2}(h:ta σ H fun x H1=>tb σ H1 fun y H2=>r x y H2 fun z H3=>∃k,z=.bl k/\(if k=true then tc σ H3 fun w' H4=>r' y w' H4 Q else Q (.bl false) H3)):qw r r' ta tb tc σ H Q:=h
theorem rd_comp{n:Nat}{js:List Nat}{wi:TI}{g:TG}(h:wi σ H fun J H1=>iH J n js g c te σ H1 Q):nS n js wi g c te σ H Q:=h
theorem rd_iL{R:It->Hp->Prop}(h:te σ H fun x H1=>px K x H1 R):oq K te σ H R:=h
theorem rd_iT{R:It->Hp->Prop}(h:te σ H fun x H1=>vN K x H1 R):m6 K te σ H R:=h
theorem cw{p:Addr}{xs:List V}{R:It->Hp->Prop}(e:ag K H p xs)(h:R (fA K p) H):px K (.ref p) H R:=⟨p,rfl,⟨xs,e⟩,h⟩
theorem kZ{p:Addr}{xs:List V}{R:It->Hp->Prop}(e:ah K H p xs)(h:R (dA K p) H):vN K (.ref p) H R:=⟨p,rfl,⟨xs,e⟩,h⟩
theorem rd_i1{a:TA}{R:It->Hp->Prop}(h:a σ H fun vs H1=>xj vs H1 R):wB a σ H R:=h
theorem cR{j:Int}{R:It->Hp->Prop}(h1:-(2 ^ 62)<=j/\j<2 ^ 62)(h:R (dh 0 j.toNat) H):xj [.int j] H R:=⟨j,rfl,h1.1,h1.2,h⟩
theorem rd_i2{a:TA}{R:It->Hp->Prop}(h:a σ H fun vs H1=>qg vs H1 R):sR a σ H R:=h
theorem AI{i j:Int}{R:It->Hp->Prop}(h1:-(2 ^ 62)<=i/\i<2 ^ 62/\-(2 ^ 62)<=j/\j<2 ^ 62)(h:R (dh i (j-i).toNat) H):qg [.int i,.int j] H R:=⟨i,j,rfl,h1,h⟩
theorem rd_for{wi:TI}{g:TG}(h:wi σ H fun J H1=>i8 J g t D σ H1):ve wi g t D σ H:=h
theorem bN{l:Addr}{xs:List V}{y:V}(e:H l=some (.lst xs))(hz:xs.length<sizeLine)(h:Q .non (upd H l (.lst (xs++[y])))):wG (.ref l) [y] H Q:=⟨l,xs,y,rfl,rfl,e,hz,h⟩
theorem bP{p:Addr}{xs:List V}(e:ag K H p xs):iD K "list" (.ref p) H:=.inl ⟨rfl,xs,e⟩
theorem rd_sub{to ti:TE}{w:ju}{v:V}{R:St->Hp->Prop}(h:to σ H fun o H1=>ti σ H1 fun i H2=>w o i v H2 fun H3=>R σ H3):sy to ti w v σ H R:=h
theorem iR{p:Addr}{xs:List V}{k:Int}{j:Nat}{v:V}{R:Hp->Prop}(e:H p=some (.lst xs))(a:de xs.length k=some j)(h:R (upd H p (.lst (xs.set j v)))):tX (.ref p) (.int k) v H R:=⟨p,xs,k,j,rfl,rfl,e,a,h⟩
theorem fI{n:Nat}{g:eQ}{a:Addr}{xs:List V}{R:St->Hp->Prop}(e:ah K H a xs)(hl:xs.length=n)(h:g xs σ H R):nE K n g (.ref a) σ H R:=⟨a,xs,rfl,e,hl,h⟩
theorem rd_gcons{g:TG}{gs:eQ}{v:V}{r:List V}{R:St->Hp->Prop}(h:g v σ H fun σ' H'=>gs r σ' H' R):vw g gs (v::r) σ H R:=⟨v,r,rfl,h⟩
theorem rd_gnil{R:St->Hp->Prop}(h:R σ H):uk [] σ H R:=⟨rfl,h⟩
theorem gL{l b:Addr}{xs zs:List V}(e1:H l=some (.lst xs))(e2:H b=some (.lst zs))(hz:xs.length+zs.length<=sizeLine)(h:fb H (.lst (xs++zs)) Q):qk (.ref l) (.ref b) H Q:=⟨l,b,xs,zs,rfl,rfl,e1,e2,hz,h⟩
theorem rY{l:Addr}{k:Int}{xs:List V}(e:H l=some (.lst xs))(hk:0<=k/\k<10 ^ 6)(hz:xs.length*k.toNat<=sizeLine)(h:fb H (.lst (List.replicate k.toNat xs).flatten) Q):qX (.ref l) (.int k) H Q:=
 ⟨l,k,xs,rfl,rfl,e,by omega,by omega,hz,h⟩
theorem jW{a:Addr}{xs:List V}{lo hi:Option Int}(e:ag K H a xs)(h:fb H (.lst (dU xs lo hi)) Q):mC K (.ref a) lo hi H Q:=⟨a,xs,rfl,e,h⟩
theorem sI{neg:Bool}{x:V}{p:Addr}{xs:List V}(e:ag K H p xs\/ah K H p xs)(f:dW x=true)(fs:xs.all dW=true)(h:Q (.bl (if neg then !gI x xs else gI x xs)) H):mJ K neg x (.ref p) H Q:=⟨p,xs,rfl,e,f,fs,h⟩
theorem aq{o:HO}{R:VK}(h:∀p H',Ext H H'->H' p=some o->H p=none->R (.ref p) H'):fb H o R:=fun p hp=>
 h p _ (fun b u e=>by rw[az (bO e hp)];exact e) aL hp
theorem bw{p:Addr}{o:HO}(hp:H p=none):Ext H (upd H p o):=fun b u e=>by rw[az (bO e hp)];exact e
end
theorem dO{α:Type}{xs:List α}{i:Int}{v:α}(h0:0<=i)(h:xs[i.toNat]?=some v):bA xs i=some v:=by
 have:=dX h
 rwa [Ej h0]at this
theorem iE{n:Nat}{i:Int}(h0:0<=i)(h:i<n):de n i=some i.toNat:=by unfold de;rw[if_pos h0,if_pos h]
end L2
namespace L2
open PySem PySem.Spec PyProof.Rows
def dw:V->PyData->Prop
 | .non,.none=>True
 | .bl b,.bool c=>b=c
 | .int i,.int j=>i=j
 | .str x,.str y=>x=y/\(PyData.str y).canLay0=true
 | _,_=>False
def aV(H:Hp):Nat->V->PyData->Prop
 | 0,x,d=>dw x d
 | n+1,x,d=>dw x d\/∃a xs ds,x=.ref a/\((H a=some (.tup xs)/\d=.tuple ds)\/(H a=some (.lst xs)/\d=.list ds))/\Paired (aV H n) xs ds
section
variable {X:Cx} {pins:List (Addr×Obj)} {σ:St} {H:Hp} {s:Shared}
theorem dw.reads{x:V}{d:PyData}{u:Value}(h:dw x d)(r:RelV x u):∃as,Reads s.heap u d as:=by
 cases x with
 | non=>cases d<;>first | exact False.elim h | (cases r;exact⟨_,.none⟩)
 | bl b=>cases d<;>first | exact False.elim h | (cases(show b=_ from h);cases r;exact⟨_,.bool _⟩)
 | int i=>cases d<;>first | exact False.elim h | (cases(show i=_ from h);obtain⟨t,rfl⟩:=r;exact⟨_,.int _ t⟩)
 | str z=>cases d<;>first | exact False.elim h | (cases(show z=_/\_ from h).1;obtain⟨t,rfl⟩:=r;exact⟨_,.str _ t⟩)
 | _=>cases d<;>exact False.elim h
theorem dw.lay{x:V}{d:PyData}(h:dw x d):d.canLay0=true/\d.depth=0:=by
 cases x<;>cases d<;>first | exact False.elim h | exact ⟨rfl,rfl⟩ | exact ⟨h.2,rfl⟩
theorem md{R:V->PyData->Prop}(ih:∀{x:V} {d:PyData} {u:Value},R x d->RelV x u->∃as,Reads s.heap u d as):∀{xs:List V} {ds:List PyData} {us:List Value},Paired R xs ds->Vals xs us->∃as,ReadsAll s.heap us ds as
 | _,_,_,.nil,.nil=>⟨_,.nil⟩
 | _,_,_,.cons h t,.cons r rt=>by
  obtain⟨as,ha⟩:=ih h r
  obtain⟨bs,hb⟩:=md ih t rt
  exact⟨_,.cons ha hb⟩
theorem aV.reads(I:Inv X pins σ H s):∀(n:Nat) {x:V} {d:PyData} {u:Value},aV H n x d->RelV x u->∃as,Reads s.heap u d as
 | 0,_,_,_,h,r=>dw.reads h r
 | n+1,x,d,u,h,r=>by
  rcases h with h | ⟨a,xs,ds,rfl,hh,hp⟩
  ·exact dw.reads h r
  ·cases r
   rcases hh with⟨e,rfl⟩ | ⟨e,rfl⟩
   ·obtain⟨its,rv,⟨o,ho,hc,k,hd⟩,_⟩:=I.tuple (ah.of e)
    obtain⟨as,ha⟩:=md (fun{x d u}=>aV.reads I n) hp rv
    exact⟨_,.tuple ho hc hd (by simpa using ha)⟩
   ·obtain⟨its,k,rv,ho,_⟩:=I.lst e
    obtain⟨as,ha⟩:=md (fun{x d u}=>aV.reads I n) hp rv
    exact⟨_,.list ho rfl rfl (by simpa using ha)⟩
theorem je{R:V->PyData->Prop}{m:Nat}(ih:∀{x:V} {d:PyData},R x d->d.canLay0=true/\d.depth<=m):∀{xs:List V} {ds:List PyData},Paired R xs ds->PyData.canLayAll0 ds=true/\PyData.depthAll ds<=m
 | _,_,.nil=>⟨rfl,Nat.zero_le _⟩
 | _,_,.cons h t=>by
  obtain⟨h1,h2⟩:=ih h
  obtain⟨h3,h4⟩:=je ih t
  refine⟨?_,?_⟩
  ·simp only[PyData.canLayAll0,h1,h3,Bool.and_self]
  ·simp only[PyData.depthAll]
   exact Nat.max_le.mpr ⟨h2,h4⟩
theorem aV.lay:∀(n:Nat) {x:V} {d:PyData},aV H n x d->d.canLay0=true/\d.depth<=n
 | 0,_,_,h=>⟨(dw.lay h).1,Nat.le_of_eq (dw.lay h).2⟩
 | n+1,x,d,h=>by
  rcases h with h | ⟨a,xs,ds,rfl,hh,hp⟩
  ·exact⟨(dw.lay h).1,by rw[(dw.lay h).2];exact Nat.zero_le _⟩
  ·obtain⟨h1,h2⟩:=je (fun{x d}=>aV.lay n) hp
   rcases hh with⟨e,rfl⟩ | ⟨e,rfl⟩
   ·exact⟨h1,Nat.succ_le_succ h2⟩
   ·exact⟨h1,Nat.succ_le_succ h2⟩
def vq(neg:Bool):R2:=fun x y H Q=>∃n m d e,aV H n x d/\aV H m y e/\n<=50/\Q (.bl (if neg then !PyData.eqv d e else PyData.eqv d e)) H
theorem DO{k:Nat}(hr:Room k X.A):bq X (compareOp .Eq) (vq false):=by
 intro pins s σ H x y v u Q I rx ry h
 obtain⟨n,m,d,e,h1,h2,hn,q⟩:=h
 obtain⟨as,ra⟩:=aV.reads I n h1 rx
 obtain⟨bs,rb⟩:=aV.reads I m h2 ry
 have l1:=aV.lay n h1
 have l2:=aV.lay m h2
 have hu:=hr.units
 have hm:min d.depth e.depth<=50:=EE (Nat.min_le_left _ _) (EE l1.2 hn)
 exact SeqAt.compareEq_reads ra rb l1.1 l2.1 (by omega) ⟨.bl _,H,I,rfl,q⟩
theorem vt{k:Nat}(hr:Room k X.A):bq X (compareOp .NotEq) (vq true):=by
 intro pins s σ H x y v u Q I rx ry h
 obtain⟨n,m,d,e,h1,h2,hn,q⟩:=h
 obtain⟨as,ra⟩:=aV.reads I n h1 rx
 obtain⟨bs,rb⟩:=aV.reads I m h2 ry
 have l1:=aV.lay n h1
 have l2:=aV.lay m h2
 have hu:=hr.units
 have hm:min d.depth e.depth<=50:=EE (Nat.min_le_left _ _) (EE l1.2 hn)
 exact SeqAt.compareNe_reads ra rb l1.1 l2.1 (by omega) ⟨.bl _,H,I,rfl,q⟩
end
end L2
namespace L2
open PySem PySem.Spec PyProof.Rows
def Bd(K:DS):List V->Hp->VK->Prop:=fun xs H Q=>∃(p:Addr) (bs:List Bool),xs=[.ref p]/\ag K H p (bs.map V.bl)/\Q (.bl (bs.all id)) H
theorem oR:∀{bs:List Bool} {us:List Value},Vals (bs.map V.bl) us->us=bs.map Value.bool
 | [],_,r=>by cases r;rfl
 | b::bs,_,r=>by
  cases r with
  | cons r t=>cases r;rw[oR t];rfl
theorem all_range(bs:List Bool):((List.range bs.length).all fun i=>bs.getD i false)=bs.all id:=by
 rw[EI,EG,EG]
 constructor
 ·intro h b hb
  obtain⟨i,hi,e⟩:=List.mem_iff_getElem.mp hb
  have:=h i (List.mem_range.mpr hi)
  rw[List.getD_eq_getElem?_getD,DX hi]at this
  rw[←e]
  exact this
 ·intro h i hi
  have hi':=List.mem_range.mp hi
  rw[List.getD_eq_getElem?_getD,DX hi']
  exact h _ (Ez hi')
theorem sJ{X:Cx}(K:DS)(hc:X.calm=true)(hK:X.K=K:=by rfl):bV X (.builtin "all") (Bd K):=by
 subst hK
 intro pins s σ H xs us Q I r h
 obtain⟨p,bs,rfl,hq,q⟩:=h
 obtain⟨u,rfl,rx⟩:=vals1 r
 cases rx
 obtain⟨its,rv,pl,hz⟩:=I.list hq
 have eb:=oR rv
 have hne:p≠s.heap.objs.size:=Eo (by obtain⟨o,n,e,_⟩:=pl;exact DV e)
 refine call_all_walk (wpAny_pyIter_list pl.isList ?_)
 have I1:Inv X pins σ H { s with heap:=s.heap.push { cls:=.type "list_iterator",data:=.fields #[.ref p,.int 0 0] } }:=I.kept (t':=s.toks) fun b o e=>DT _ e
 have hf:=I.fpOk (H':=H) (Ep s.heap.objs.size) I.fresh
 refine⟨s.heap.objs.size,_,_,_,_,_,(fun i=>bs.getD i false),rfl,Walks.list (A:=X.A.in1) (I.ok.hd hc) _ p hne its.toArray,⟨⟨_,DU _ rfl,rfl,rfl⟩,?_⟩,?_,fun h' tk hk=>?_⟩
 ·exact pl.isList.push _
 ·intro i v s' Q' E' hv hQ
  rw[eb]at hv
  have hv':(bs.map Value.bool)[i]?=some v:=by simpa using hv
  rw[DY]at hv'
  cases eg:bs[i]? with
  | none=>rw[eg]at hv';cases hv'
  | some b=>
   rw[eg]at hv'
   cases hv'
   have eb':bs.getD i false=b:=by rw[List.getD_eq_getElem?_getD,eg];rfl
   have hQ':Q' (bs.getD i false) s':=hQ
   rw[eb']at hQ'
   exact wpAny_truthy_bool hQ'
 ·obtain⟨f0,f1,f2,f3,f4,f5⟩:=hf
  have hl:=rv.length
  rw[DW]at hl
  refine⟨.bl (bs.all id),H,I1.turned (it:=s.heap.objs.size) (fun b o hb e=>hk b o (by simpa using hb) e) f0 f1 f3 f4 f5,?_,q⟩
  show Value.bool _=Value.bool _
  rw[Eb,←hl,all_range]
end L2
namespace L2
open PySem PySem.Spec PyProof.Rows
def rD(c:TT)(tb:TS):TS:=fun D σ H=>∃(W:Nat->St->Hp->Prop) (R:St->Hp->Prop),(∃m,W m σ H)/\(∀m σ H,W m σ H →
 c σ H fun b H1=>if b=true then ∃N:St->Hp->Prop,(∀σ' H',N σ' H'->∃m',m'<m/\W m' σ' H')/\tb ⟨N,D.rt,R,N⟩ σ H1 else R σ H1)/\∀σ H,R σ H->D.nx σ H
theorem gq{X:Cx}{pos:Pos}{c:Expr}{body:List Stmt}{tc:TT}{tb:TS}(hp:PassesOwn (model X.prog X.w) X.A X.env X.xe)(hc:PT X c tc)(hb:cq X body tb):PS X (.While c body [] pos) (rD tc tb):=by
 intro pins s σ H D I h
 obtain⟨W,R,w0,hs,hR⟩:=h
 refine ay (y8 hp hc hb pins s σ H { D with nx:=R } I ⟨W,w0,hs⟩) fun f s1 q=>?_
 cases f with
 | next=>
  obtain⟨σ',H',I',q⟩:=q
  exact⟨σ',H',I',hR σ' H' q⟩
 | ret v=>exact q
 | brk=>exact q
 | cont=>exact q
section
variable {D:Ends} {σ:St} {H:Hp} {Q:VK} {te:TE} {t:TS} {c:TT}
theorem f6(W:Nat->St->Hp->Prop)(R:St->Hp->Prop)(m:Nat)(h0:W m σ H)(hs:∀m σ H,W m σ H->c σ H fun b H1=>if b=true then ∃N:St->Hp->Prop,(∀σ' H',N σ' H'->∃m',m'<m/\W m' σ' H')/\t ⟨N,D.rt,R,N⟩ σ H1 else R σ H1)(k:∀σ H,R σ H->D.nx σ H):rD c t D σ H:=⟨W,R,⟨m,h0⟩,hs,k⟩
theorem rd_aug{i:Nat}{ti:iQ}{x:V}(e:σ[i]?=some (some x))(h:te σ H fun y H1=>ti x y H1 fun z H2=>D.nx (σ.set i (some z)) H2):oY i te ti D σ H:=⟨x,e,h⟩
theorem rd_ipI{f:Int->Int->Int}{i j:Int}(h:Q (.int (f i j)) H):oF f (.int i) (.int j) H Q:=⟨i,j,rfl,rfl,h⟩
end
section
variable {prog:Program} {w:World} {A:Around} {E:Value->Shared->Prop} {s:Shared}
theorem DL{it t:Addr}{i:Nat}{ys:Array Value}{x:Value}{Q:Value->Shared->Prop}(gi:s.heap.IsTupleIter it t i)(gt:s.heap.IsTuple t ys)(gx:ys[i]?=some x)
  (q:∀h',h'.IsTupleIter it t (i+1)->Heap.SameBut it s.heap h'->Q x { s with heap:=h' }):wpAny (model prog w) A (Builtin.SmallTypes.nextOf (.ref it)) Q E s:=by
 obtain⟨u,gu,gc,gd⟩:=id gi
 obtain⟨v,gv,_,k,gk⟩:=gt
 unfold Builtin.SmallTypes.nextOf
 refine DQ (wpAny_callSpecial?_slot (name:=Str.ofString "__next__") gi.typeIs F.slot_tuple_iterator_next (wpAny_call_entry F.slot_tuple_iterator_next gi.typeIs F.entry_tuple_iterator_next ?_ (F.args_tuple_iterator_next_1 _)))
 show wpAny _ _ (field (Value.ref it) 0 >>= _) _ _ s
 refine DQ (wpAny_field gu gd (x:=Value.ref t) rfl ?_)
 show wpAny _ _ (if(Value.ref t == Value.none)=true then _ else _) _ _ s
 rw[if_neg (show ¬(Value.ref t == Value.none)=true from El)]
 show wpAny _ _ (field (Value.ref it) 1 >>= _) _ _ s
 refine DQ (wpAny_field gu gd (x:=Value.int i 0) rfl ?_)
 show wpAny _ _ (seqItems? (Value.ref t) >>= _) _ _ s
 refine DQ (wpAny_seqItems gv gk ?_)
 simp only[Ei,gx]
 refine DQ (wpAny_setField gu gd (by simp) (DR ⟨x,rfl,DR (q _ ?_ (Heap.SameBut.update ..))⟩))
 exact⟨_,Heap.get?_update_self _ gu (Obj.isFreed_of_fields (Obj.data_mapFields gd _)),(Obj.cls_mapFields ..).trans gc,by rw[Obj.data_mapFields gd];simp[rawInt]⟩
theorem ph{it t:Addr}{i:Nat}{ys:Array Value}{Q:Value->Shared->Prop}(hA:A.handled=none)(gi:s.heap.IsTupleIter it t i)(gt:s.heap.IsTuple t ys)(gx:ys[i]?=none)
  (q:∀h' e,Heap.ExtBut it s.heap h'->(∃o,h'.get? e=some o/\o.cls=.type "StopIteration")->E (.ref e) { s with heap:=h' }):wpAny (model prog w) A (Builtin.SmallTypes.nextOf (.ref it)) Q E s:=by
 obtain⟨u,gu,gc,gd⟩:=id gi
 obtain⟨v,gv,_,k,gk⟩:=gt
 unfold Builtin.SmallTypes.nextOf
 refine DQ (wpAny_callSpecial?_slot (name:=Str.ofString "__next__") gi.typeIs F.slot_tuple_iterator_next (wpAny_call_entry F.slot_tuple_iterator_next gi.typeIs F.entry_tuple_iterator_next ?_ (F.args_tuple_iterator_next_1 _)))
 show wpAny _ _ (field (Value.ref it) 0 >>= _) _ _ s
 refine DQ (wpAny_field gu gd (x:=Value.ref t) rfl ?_)
 show wpAny _ _ (if(Value.ref t == Value.none)=true then _ else _) _ _ s
 rw[if_neg (show ¬(Value.ref t == Value.none)=true from El)]
 show wpAny _ _ (field (Value.ref it) 1 >>= _) _ _ s
 refine DQ (wpAny_field gu gd (x:=Value.int i 0) rfl ?_)
 show wpAny _ _ (seqItems? (Value.ref t) >>= _) _ _ s
 refine DQ (wpAny_seqItems gv gk ?_)
 simp only[Ei,gx]
 refine DQ (wpAny_rule (DQ (wpAny_setField gu gd (by simp) ?_)))
 show wpAny _ _ (newExc (Value.type "StopIteration") [] >>= _) _ _ _
 refine DQ ?_
 simp only[newExc,newTuple]
 refine DQ (wpAny_newObj_type (hd:=by size_fits) ?_)
 refine DQ (m:=firstArgMember _ _) (wpAny_of_eq (a:=Value.none) (by first | rfl | (unfold firstArgMember;rfl)) ?_)
 refine wpAny_newObj_type (hd:=by size_fits) ?_
 simp only[raiseNew]
 refine DQ (wpAny_handled ?_)
 first | rw [show Around.handled A.in1=none from hA] | rw [hA]
 refine DQ (DR (wpAny_throw ?_))
 exact q _ _ (((Heap.SameBut.update ..).extBut.push _).push _) ⟨_,DU _ rfl,rfl⟩
end
section
variable {X:Cx} {pins:List (Addr×Obj)} {σ:St} {H:Hp} {s:Shared}
theorem Inv.same{it:Addr}{k h':Heap}(I:Inv X pins σ H { s with heap:=k })(f:cG X pins H it)(b:Heap.ExtBut it k h'):Inv X pins σ H { s with heap:=h' }:=by
 obtain⟨f0,f1,f2,f3,f4,f5⟩:=f
 exact Inv.turned (s:={ s with heap:=k }) (t':=s.toks) (it:=it) I (fun c o hb e=>b c o hb e) f0 f1 f3 f4 f5
end
section
variable {K:DS} {σ:St} {H:Hp} {Q:VK}
end
end L2
namespace L2
open PySem PySem.Spec PyProof.Rows
mutual
inductive LitE:Expr->TE->Prop
 | non {j pos}:LitE (.Constant .none j pos) (tC .non)
 | bl {b j pos}:LitE (.Constant (.bool b) j pos) (tC (.bl b))
 | int {i j pos}:LitE (.Constant (.int i) j pos) (tC (.int i))
 | str {x j pos}:LitE (.Constant (.str x) j pos) (tC (.str x))
 | tup {es ta k pos}:LitsE es ta->LitE (.Tuple es k pos) (m8 ta)
inductive LitsE:List Expr->TA->Prop
 | nil:LitsE [] mS
 | cons {e te es ta}:LitE e te->LitsE es ta->LitsE (e::es) (lr te ta)
end
theorem LitE.star{e:Expr}{te:TE}(h:LitE e te)(es:List Expr)(env:Env):starEach (e::es) env=(false,eval e env)::starEach es env:=by
 cases h<;>rfl
end L2
namespace L2
open PySem PySem.Spec PyProof.Rows
def fD(c:Addr)(q:Str):HO:=.ext fun h=>h.CodeRec (.ref c) q
theorem xJ{P:Program}{w:World}{H:Hp}{h:Heap}{c:Addr}{q:Str}(r:h.CodeRec (.ref c) q):bo P w H h c (fD c q):=by
 refine⟨r,?_,fun h1 h2 r1 k=>?_⟩
 ·obtain⟨c',o,vs,t,e,g,_⟩:=r
  cases e
  exact⟨o,g⟩
 ·obtain⟨c',o,vs,t,e,g,d⟩:=r1
  cases e
  exact⟨c,o,vs,t,rfl,k o g,d⟩
section
variable {X:Cx} {pins:List (Addr×Obj)} {σ:St} {H:Hp} {s:Shared}
end
section
variable {X:Cx} {pins:List (Addr×Obj)} {σ:St} {H:Hp} {s:Shared}
end
end L2
namespace L2
open PySem PySem.Spec PyProof.Rows
structure Tab(K:DS)(mg:Str->Option Value)(base:Heap)(x:Str)(c T:Addr):Prop where
 tin:PySem.W.tabIn K x=some (c,T)
 hd:PySem.W.CodeHd base c T
 blt:base.BuiltinsAt mg T
 gl:mainGlobals≠T
 kin:K.In base
 ns:base.Ns mainGlobals mg
section
variable {P:Program} {w:World} {K:DS} {mg:Str->Option Value} {base:Heap}
theorem DC{x:Str}{c T f:Addr}{o:Obj}{fd:FuncData}(ht:PySem.W.tabIn K x=some (c,T))(KX:K.In base)(G:base.Ns mainGlobals mg)(hm:mg x=some (.ref f))(lk:K.lookup f=some o)(hd:o.data=.func fd):fd.code=.ref c:=by
 unfold PySem.W.tabIn at ht
 split at ht
 ·rename_i f' hf
  have e1:=PySem.W.mg_of KX G hf
  rw[hm]at e1
  cases e1
  split at ht
  ·rename_i hfo
   rw[lk]at hfo
   cases hfo
   cases hd
   split at ht
   ·rename_i c2 hc
    split at ht
    ·split at ht
     ·cases ht;exact hc
     ·cases ht
    ·cases ht
   ·cases ht
  ·cases ht
 ·cases ht
theorem Dfn.okL{x:Str}{st:Stmt}{N ps:List Str}{k:Nat}{sp:Sp}{c T:Addr}(D:Dfn K mg x st ps)(B:Tab K mg base x c T)(S:FnScope N ps (aI st))(len:∀vs H Q E,sp vs H Q E->vs.length=ps.length)
  (hbody:∀(X:Cx) (hX:∃f A outer s H E,X=(fR dm P w K mg base N x (aI st) f (.ref c) A outer s H E).nox/\Room k X.A) (H:Hp) (vs:List V) (Q:VK) (E:XK),sp vs H Q E →
   ∃t,cq X (eh st) t/\t { nx:=fun _ H'=>Q .non H',rt:=Q } (start N vs) H):Cal P w K mg base x (k+1) ps sp:=by
 obtain⟨f,fd,hm,F,hb⟩:=D.ex
 refine⟨f,fd,hm,F.kp,hb,?_⟩
 obtain⟨oc,od,kV,doc,pm,an,cdv,ct,osl,rfl,lk,hcd⟩:=F.ex
 have e:cdv=.ref c:=DC B.tin B.kin B.ns hm lk rfl
 subst e
 refine uo lk hcd S len fun A outer s H vs Q E hr hsp=>?_
 obtain⟨t,h,q⟩:=hbody _ ⟨f,A,outer,s,H,E,rfl,hr⟩ H vs Q E hsp
 exact⟨t,h.nox,q⟩
end
def uF(tabs:List (Addr×Addr))(H:Hp):Prop:=∀q∈tabs,H q.2=some (.tbl #[])
theorem ze{P:Program}{w:World}{K:DS}{mg mb:Str->Option Value}{k:Nat}{fa a:Addr}{fd:FuncData}{x:Str}{sp:Sp}{s₁:Shared}{vs:List Value}{ns:List Int}{tabs:List (Addr×Addr)}
  (KX:K.In s₁.heap) (hK:PySem.W.noTabs K=true) (hT:PySem.W.TabsAt tabs s₁.heap) (hns:s₁.heap.Ns mainGlobals mg) (hb:s₁.heap.Ns builtinsNs mb) (hbb:∀x:Str,x≠"__name__"->mb x=bootBuiltins x) (hlim:s₁.heap.NoLimit)
  (hbm:∃bm ob,mg "__builtins__" = some (.ref bm)/\bm≠builtinsNs/\s₁.heap.get? bm=some ob/\ob.cls=.type "module"/\ob.dict=some builtinsNs/\ob.data=.plain) (hg:s₁.gens = #[])
  (ha:s₁.heap.get? a=some { cls:=.type "list",data:=.seq vs.toArray }) (hi:IntsAre vs ns) (hl:ns.length<=sizeLine) (hr:Room k callerA)
  (F:∀base:Heap,K.In base->base.Ns mainGlobals mg->(∀q∈tabs,PySem.W.CodeHd base q.1 q.2/\base.BuiltinsAt mg q.2/\mainGlobals≠q.2)->FnOk P w K mg base dm k fa fd [x] sp) (hbind:∀(s:Shared) (u:Value),BindsTo s fd ⟨[u],[]⟩ [(x,u)])
  (hsp:∀H:Hp,uF tabs H->ag K H a (ns.map V.int)->sp [.ref a] H (fun v _=>v=.bl true) fun _ _ _=>False) :
  codeAny (model P w) callerA (.call (.ref fa) ⟨[.ref a],[]⟩) (fun r s'=>r=.ok (.ret (.bool true))/\OldK s₁.heap s'.heap/\s'.os=s₁.os/\AllBare s'.gens) s₁:=by
 have rv:=qz hi
 have lenV:=hi.length
 have na:∀q∈tabs,a≠q.2:=fun q hq z=>by
  have:=(hT q hq).2
  rw[←z,ha]at this
  cases this
 have noT:∀{b:Addr} {o:Obj},s₁.heap.get? b=some o->o≠PySem.W.tabObj #[]->b∉tabs.map (·.2):=fun{b o} e n hm=>by
  obtain⟨q,hq,rfl⟩:=List.mem_map.mp hm
  have:=(hT q hq).2
  rw[e]at this
  exact n (Option.some.inj this)
 have core:∀H:Hp,uF tabs H->ag K H a (ns.map V.int)->aY P w H s₁.heap->(∀b,H b≠none->b=a\/b∈tabs.map (·.2))->(H a≠none->K.lookup a=none/\∃o xs,H a=some (.frz o (.lst xs))) →
   codeAny (model P w) callerA (.call (.ref fa) ⟨[.ref a],[]⟩) (fun r s'=>r=.ok (.ret (.bool true))/\OldK s₁.heap s'.heap/\s'.os=s₁.os/\AllBare s'.gens) s₁:=by
  intro H hO hS hok hA hKa
  have free:∀{b:Addr} {o:Obj},s₁.heap.get? b=some o->o≠PySem.W.tabObj #[]->b≠a->H b=none:=fun{b o} e n nb=>by
   cases q:H b with
   | none=>rfl
   | some u=>
    rcases hA b (by rw[q];simp)with z | z
    ·exact absurd z nb
    ·exact absurd z (noT e n)
  have nsK:∀{b:Addr} {m:Str->Option Value},s₁.heap.Ns b m->(eG s₁.heap H).Ns b m:=fun{b m} ⟨o,es,ep,e,d,r⟩=>⟨o,es,ep,kx e (free e (fun z=>by rw[z]at d;cases d) fun z=>by rw[z,ha]at e;cases e;cases(show Data.seq vs.toArray _=Data.dict es ep from d)),d,r⟩
  have hKb:K.In (eG s₁.heap H):=fun b o e=>kx (KX b o e) (by
   by_cases z:b=a
   ·subst z
    cases q:H b with
    | none=>rfl
    | some u=>
     have:=(hKa (by rw[q];simp)).1
     rw[this]at e
     cases e
   ·refine free (KX b o e) (fun z2=>?_) z
    have h2:=EG.mp hK (b,o) (PySem.W.mem_of_lookupK e)
    subst z2
    exact absurd (show false=true from h2) El)
  have hM:Mod K mg (eG s₁.heap H):=⟨hKb,nsK hns,⟨mb,nsK hb,hbb⟩,let ⟨mc,h1,h2⟩:=hlim;⟨mc,nsK h1,h2⟩⟩
  have e0:Env0 P w K mg (eG s₁.heap H) callerA [] s₁ H:=⟨rfl,hM,fun b o e=>BD e,Nat.le_of_eq (Dt _ _),trivial,fun b hb=>absurd (show b∈([]:List Addr)from hb) (by simp),hok,.of_eq hg⟩
  have tabsB:∀q∈tabs,PySem.W.CodeHd (eG s₁.heap H) q.1 q.2/\(eG s₁.heap H).BuiltinsAt mg q.2/\mainGlobals≠q.2:=fun q hq=>by
   refine⟨?_,?_,?_⟩
   ·obtain⟨o,us,file,tf,flags,tg,inF,text,tt,e,hc,r⟩:=(hT q hq).1
    exact⟨o,us,file,tf,flags,tg,inF,text,tt,kx e (free e (fun z=>by rw[z]at hc;cases hc) fun z=>by rw[z,ha]at e;cases e;simp at hc),hc,r⟩
   ·obtain⟨bm,ob,a1,a2,a3,a4,a5⟩:=hbm
    refine⟨bm,ob,a1,a2,fun z=>?_,fun z=>?_,kx a3 (free a3 (fun z=>by rw[z]at a4;cases a4) fun z=>by rw[z,ha]at a3;cases a3;simp at a4),a4,a5⟩
    ·obtain⟨o,es,ep,e,d,_⟩:=hns
     rw[←z,a3]at e
     cases e
     rw[a5.2]at d
     cases d
    ·have:=(hT q hq).2
     rw[←z,a3]at this
     cases this
     cases a4
   ·intro z
    obtain⟨o,es,ep,e,d,_⟩:=hns
    have:=(hT q hq).2
    rw[←z,e]at this
    cases this
    cases d
  refine codeAny_mono ((F _ hKb (nsK hns) tabsB).run callerA [] s₁ H ⟨[.ref a],[]⟩ [.ref a] [.ref a] _ _ hr e0 (hbind s₁ (.ref a)) (.cons rfl .nil) (hsp H hO hS)) fun r s' h=>?_
  cases r with
  | error e=>exact False.elim h
  | ok fl=>
   cases fl with
   | next=>exact False.elim h
   | brk=>exact False.elim h
   | cont=>exact False.elim h
   | ret u=>
    obtain⟨v,H',os,bare,un,hok',r',q⟩:=h
    have q':v=.bl true:=q
    subst q'
    obtain rfl:u=Value.bool true:=r'
    have keep:∀b o,s₁.heap.get? b=some o->b∉tabs.map (·.2)->s'.heap.get? b=some o:=fun b o e nt=>by
     cases q:H b with
     | none=>exact un.keep b o e q (by intro z;exact absurd (show b∈([]:List Addr)from z) (by simp)) (by simp)
     | some u=>
      rcases hA b (by rw[q];simp)with z | z
      ·subst z
       obtain⟨_,ob,xs,z⟩:=hKa (by rw[q];simp)
       have z2:=un.frzs b ob _ z
       obtain⟨e1,_⟩:=hok b _ z
       obtain⟨e2,_⟩:=hok' b _ z2
       rw[e]at e1;cases e1
       exact e2
      ·exact absurd z nt
    have grown:∀q∈tabs,∃more,s'.heap.get? q.2=some (PySem.W.tabObj (#[]++more)):=fun q hq=>by
     obtain⟨more,e⟩:=un.tbls q.2 _ (hO q hq)
     exact⟨more,hok' q.2 _ e⟩
    refine⟨rfl,⟨fun b o e=>?_,fun b o e=>?_⟩,os,bare⟩
    ·by_cases hm:b∈tabs.map (·.2)
     ·obtain⟨q,hq,rfl⟩:=List.mem_map.mp hm
      obtain⟨more,g⟩:=grown q hq
      have e2:=(hT q hq).2
      rw[e]at e2
      cases e2
      exact .inr (.inl ⟨((hT q hq).1.tab (hT q hq).2).isCodeTable,rfl,#[],more,rfl,g⟩)
     ·exact .inl (keep b o e hm)
    ·by_cases hm:b∈tabs.map (·.2)
     ·obtain⟨q,hq,rfl⟩:=List.mem_map.mp hm
      obtain⟨more,g⟩:=grown q hq
      exact⟨_,g⟩
     ·exact⟨o,keep b o e hm⟩
 have hTok:∀(H:Hp) b,b∈tabs.map (·.2)->bo P w H s₁.heap b (.tbl #[]):=fun H b hm=>by
  obtain⟨q,hq,rfl⟩:=List.mem_map.mp hm
  exact(hT q hq).2
 cases hk:K.lookup a with
 | some o=>
  have e:=KX a o hk
  rw[ha]at e
  cases e
  have at_:∀b,(if b∈tabs.map (·.2)then some (HO.tbl #[])else none)=(none:Option HO)\/b∈tabs.map (·.2):=fun b=>by
   by_cases hb:b∈tabs.map (·.2)
   ·exact .inr hb
   ·exact .inl (if_neg hb)
  have nota:a∉tabs.map (·.2):=fun hm=>by
   obtain⟨q,hq,e⟩:=List.mem_map.mp hm
   exact na q hq e.symm
  refine core (fun b=>if b∈tabs.map (·.2)then some (.tbl #[])else none) (fun q hq=>if_pos (List.mem_map.mpr ⟨q,hq,rfl⟩)) (.inr ⟨_,vs.toArray,_,hk,rfl,rfl,rfl,by rw[Eb,lenV];exact hl,by simpa using rv⟩) (fun b u z=>?_) (fun b z=>?_) fun z=>absurd (if_neg nota) z
  ·by_cases hb:b∈tabs.map (·.2)
   ·have z':=(if_pos hb).symm.trans z
    cases z'
    exact hTok _ b hb
   ·have z':=(if_neg hb).symm.trans z
    cases z'
  ·rcases at_ b with h | h
   ·exact absurd h z
   ·exact .inr h
 | none=>
  have nota:a∉tabs.map (·.2):=fun hm=>by
   obtain⟨q,hq,e⟩:=List.mem_map.mp hm
   exact na q hq e.symm
  refine core (fun b=>if b=a then some (.frz { cls:=.type "list",data:=.seq vs.toArray } (.lst (ns.map V.int)))else if b∈tabs.map (·.2)then some (.tbl #[])else none) (fun q hq=>?_) (.inl (.inr ⟨{ cls:=.type "list",data:=.seq vs.toArray },if_pos rfl⟩)) (fun b u z=>?_) (fun b z=>?_) fun _=>⟨hk,_,_,if_pos rfl⟩
  ·show(if q.2=a then _ else _)=_
   rw[if_neg (Ne.symm (na q hq)),if_pos (List.mem_map.mpr ⟨q,hq,rfl⟩)]
  ·by_cases hb:b=a
   ·have z':=(if_pos hb).symm.trans z
    cases z'
    subst hb
    exact⟨ha,by rw[DW];exact hl,vs,_,rv,ha⟩
   ·have z':=(if_neg hb).symm.trans z
    by_cases hb2:b∈tabs.map (·.2)
    ·have z2:=(if_pos hb2).symm.trans z'
     cases z2
     exact hTok _ b hb2
    ·have z2:=(if_neg hb2).symm.trans z'
     cases z2
  ·by_cases hb:b=a
   ·exact .inl hb
   ·by_cases hb2:b∈tabs.map (·.2)
    ·exact .inr hb2
    ·exact absurd ((if_neg hb).trans (if_neg hb2)) z
theorem Ct{l:PySem.W.OpenLaw}{n k:Nat}{q:Program}{loose:List Str}{XP:(Str->Option Value)->Heap->Prop}{YP:World->Heap->Prop}{d:DefRec}{K:Params->DS}{sp:World->Sp}{x:Str}(xs:List Str)
  (hn:l.most=some n) (hn2:n<=sizeLine) (hdf:d.params.defaults=[]) (hr:Room k callerA)
  (hY:∀(w:World) (h:Heap),YP w h->(K w.params).In h) (hK:∀w:World,PySem.W.noTabs (K w.params)=true) (hrec:∀y∈xs,((recsOf q).find? (fun e=>e.name == y)).isSome=true) (htab:∀(w:World),∀y∈xs,(PySem.W.tabIn (K w.params) y).isSome=true)
  (F:∀(w:World) (mg:Str->Option Value) (fa:Addr) (h:Heap),(K w.params).In h->h.Ns mainGlobals mg->mg d.name=some (.ref fa) →
   ∃fd:FuncData,(∀(s:Shared) (u:Value),BindsTo s fd ⟨[u],[]⟩ [(x,u)]) ∧
    ∀base:Heap,(K w.params).In base->base.Ns mainGlobals mg->(∀y∈xs,∃c T,Tab (K w.params) mg base y c T)->FnOk l.prog w (K w.params) mg base dm k fa fd [x] (sp w))
  (hsp:∀(w:World) (H:Hp) (a:Addr) (ns:List Int),ns.length<=n->(∀y∈xs,∀c T,PySem.W.tabIn (K w.params) y=some (c,T)->H T=some (.tbl #[]))->ag (K w.params) H a (ns.map V.int)->sp w [.ref a] H (fun v _=>v=.bl true) fun _ _ _=>False) :
  PySem.W.WalkO q loose XP YP l.row.toRowW d [] (fun f vs=>PySem.call f vs):=by
 refine Att.Bp hn hdf fun w s₀ s₁ mg mb fa o pm cd doc a vs ns G Y ho hd hcd hmg hobj hints hlen hg=>?_
 have KX:=hY w _ Y
 obtain⟨fd,hb,hF⟩:=F w mg fa _ KX G.T.g hmg
 have hT:PySem.W.TabsAt (xs.filterMap (PySem.W.tabIn (K w.params))) s₁.heap:=fun p hp=>by
  obtain⟨y,hy,e⟩:=List.mem_filterMap.mp hp
  obtain⟨dr,er⟩:=Option.isSome_iff_exists.mp (hrec y hy)
  exact PySem.W.tab_of G.T KX er e
 refine ze KX (hK w) hT G.T.g G.T.b G.T.builtins G.T.nolimit G.T.bmain hg hobj hints (EE hlen hn2) hr (fun base kb nb tb=>hF base kb nb fun y hy=>?_) hb fun H hO hS=>hsp w H a ns hlen (fun y hy c T e=>hO (c,T) (List.mem_filterMap.mpr ⟨y,hy,e⟩)) hS
 obtain⟨⟨c,T⟩,e⟩:=Option.isSome_iff_exists.mp (htab w y hy)
 obtain⟨h1,h2,h3⟩:=tb (c,T) (List.mem_filterMap.mpr ⟨y,hy,e⟩)
 exact⟨c,T,e,h1,h2,h3,kb,nb⟩
end L2
namespace L2
open PySem PySem.Spec PyProof.Rows
section
variable {prog:Program} {w:World} {A:Around} {E:Value->Shared->Prop}
end
section
variable {X:Cx} {pos:Pos}
end
def Et(H H':Hp):Prop:=∀b o,H b=some o->(∀ps,o≠.tbl ps)->H' b=some o
theorem Ext.et{H H':Hp}(e:Ext H H'):Et H H':=fun b o h _=>e b o h
theorem Et.rfl'(H:Hp):Et H H:=fun _ _ h _=>h
theorem Et.trans{H H1 H2:Hp}(a:Et H H1)(b:Et H1 H2):Et H H2:=fun x o h n=>b x o (a x o h n) n
def df(K:DS)(x q:Str)(line col:Nat)(H:Hp):Prop:=∀c T,PySem.W.tabIn K x=some (c,T) →
 H T=some (.tbl #[])\/∃c',H T=some (.tbl #[rawInt line,rawInt col,.ref c'])/\H c'=some (fD c' q)
theorem df.ext{K:DS}{x q:Str}{line col:Nat}{H H':Hp}(e:Ext H H')(h:df K x q line col H):df K x q line col H':=fun c T ht=>by
 rcases h c T ht with h | ⟨c',h1,h2⟩
 ·exact .inl (e _ _ h)
 ·exact .inr ⟨c',e _ _ h1,e _ _ h2⟩
end L2
namespace L2
open PySem PySem.Spec PyProof.Rows
section
variable {κ:Type} [DecidableEq κ]
def bx(kvs:List (κ×V))(k:κ):Option V:=(kvs.find? fun kv=>decide (kv.1=k)).map (·.2)
def putK(kvs:List (κ×V))(k:κ)(v:V):List (κ×V):=
 if(kvs.any fun kv=>decide (kv.1=k))=true then kvs.map (fun kv=>if kv.1=k then(kv.1,v)else kv)else kvs++[(k,v)]
theorem lN{p:κ×V}{r:List (κ×V)}{k:κ}(e:p.1=k):bx (p::r) k=some p.2:=by simp[bx,List.find?_cons,e]
theorem ir{p:κ×V}{r:List (κ×V)}{k:κ}(e:¬p.1=k):bx (p::r) k=bx r k:=by simp[bx,List.find?_cons,e]
theorem nB(k:κ):∀kvs:List (κ×V),(kvs.any fun kv=>decide (kv.1=k))=(bx kvs k).isSome
 | []=>rfl
 | p::r=>by
  rw[List.any_cons]
  by_cases e:p.1=k
  ·simp only[lN e,decide_eq_true e,Bool.true_or,Option.isSome_some]
  ·rw[ir e,decide_eq_false e,Bool.false_or];exact nB k r
theorem rX(kvs:List (κ×V))(k:κ)(v:V):(putK kvs k v).length<=kvs.length+1:=by
 unfold putK
 split
 ·rw[DW];omega
 ·rw[En,EA,List.length_nil];omega
theorem qV{kvs:List (κ×V)}{k:κ}(v:V)(h:bx kvs k=none):putK kvs k v=kvs++[(k,v)]:=by
 unfold putK
 rw[nB,h]
 exact if_neg (by decide)
theorem dy.isSome_eq{o:Option V}{u:Option Value}(r:dy o u):o.isSome=u.isSome:=by
 cases o with
 | none=>cases u with
  | none=>rfl
  | some _=>exact(show False from r).elim
 | some _=>cases u with
  | none=>exact(show False from r).elim
  | some _=>rfl
theorem KV.val{kvs:List (κ×V)}{vs:List (κ×Value)}(r:KV kvs vs)(k:κ):dy (bx kvs k) (valueAt vs k):=by
 unfold KV at r
 induction r with
 | nil=>exact True.intro
 | @cons p q ps qs h t ih=>
  obtain⟨h1,h2⟩:=h
  by_cases e:p.1=k
  ·have e':q.1=k:=h1.symm.trans e
   have b:valueAt (q::qs) k=some q.2:=by simp[valueAt,List.find?_cons,e']
   rw[lN e,b];exact h2
  ·have e':¬q.1=k:=fun z=>e (h1.trans z)
   have b:valueAt (q::qs) k=valueAt qs k:=by simp[valueAt,List.find?_cons,e']
   rw[ir e,b];exact ih
theorem KV.any{kvs:List (κ×V)}{vs:List (κ×Value)}(r:KV kvs vs)(k:κ):(kvs.any fun kv=>decide (kv.1=k))=vs.any fun kv=>decide (kv.1=k):=by
 unfold KV at r
 induction r with
 | nil=>rfl
 | cons h t ih=>rw[List.any_cons,List.any_cons,ih,h.1]
theorem KV.repl{kvs:List (κ×V)}{vs:List (κ×Value)}(r:KV kvs vs)(k:κ){y:V}{u:Value}(ry:RelV y u):
  KV (kvs.map fun kv=>if kv.1=k then(kv.1,y)else kv) (vs.map fun kv=>if kv.1=k then(kv.1,u)else kv):=by
 unfold KV at r ⊢
 induction r with
 | nil=>exact .nil
 | @cons p q ps qs h t ih=>
  rw[List.map_cons,List.map_cons]
  refine .cons ?_ ih
  obtain⟨h1,h2⟩:=h
  by_cases e:p.1=k
  ·rw[if_pos e,if_pos (h1.symm.trans e)];exact⟨h1,ry⟩
  ·rw[if_neg e,if_neg (fun z=>e (h1.trans z))];exact⟨h1,h2⟩
theorem KV.put{kvs:List (κ×V)}{vs:List (κ×Value)}(r:KV kvs vs)(k:κ){y:V}{u:Value}(ry:RelV y u):KV (putK kvs k y) (stored vs k u):=by
 unfold putK stored
 rw[r.any k]
 by_cases e:(vs.any fun kv=>decide (kv.1=k))=true
 ·rw[if_pos e,if_pos e];exact r.repl k ry
 ·rw[if_neg e,if_neg e];exact Paired.snoc r ⟨rfl,ry⟩
theorem KV.keys{kvs:List (κ×V)}{vs:List (κ×Value)}(r:KV kvs vs):kvs.map (·.1)=vs.map (·.1):=by
 unfold KV at r
 induction r with
 | nil=>rfl
 | cons h t ih=>rw[List.map_cons,List.map_cons,ih,h.1]
theorem KV.length{kvs:List (κ×V)}{vs:List (κ×Value)}(r:KV kvs vs):kvs.length=vs.length:=Paired.length r
end
theorem gG{P:Program}{w:World}{k:Key}{u:Value}(r:RelV (kV k) u):(aK P w).is k u=true:=by
 cases k with
 | inl i=>obtain⟨t,e⟩:=(show ∃t,u=Value.int i t from r);subst e;exact yn P w i t
 | inr x=>obtain⟨t,e⟩:=(show ∃t,u=Value.str x t from r);subst e;exact nW P w x t
theorem oQ{P:Program}{w:World}:∀{ks:List Key} {us:List Value},Vals (ks.map kV) us->ItemsAre (aK P w) ks us
 | [],_,r=>by rw[List.map_nil]at r;cases r;exact .nil
 | k::ks,_,r=>by
  rw[List.map_cons]at r
  cases r with
  | cons h t=>exact .cons (gG h) (oQ t)
abbrev KT(H:Hp):List (List Key×V)->List (List Key×Addr×Value)->Prop:=Paired fun p q=>p.1=q.1/\H q.2.1=some (.tup (p.1.map kV))/\RelV p.2 q.2.2
theorem KT.val{H:Hp}{kvs:List (List Key×V)}{xs:List (List Key×Addr×Value)}(r:KT H kvs xs)(k:List Key):dy (bx kvs k) ((atKey xs k).map (·.2)):=by
 induction r with
 | nil=>exact True.intro
 | @cons p q ps qs h t ih=>
  obtain⟨h1,_,h2⟩:=h
  by_cases e:p.1=k
  ·have e':q.1=k:=h1.symm.trans e
   have b:atKey (q::qs) k=some q.2:=by simp[atKey,List.find?_cons,e']
   rw[lN e,b];exact h2
  ·have e':¬q.1=k:=fun z=>e (h1.trans z)
   have b:atKey (q::qs) k=atKey qs k:=by simp[atKey,List.find?_cons,e']
   rw[ir e,b];exact ih
theorem KT.repl{H:Hp}{kvs:List (List Key×V)}{xs:List (List Key×Addr×Value)}(r:KT H kvs xs)(k:List Key){y:V}{u:Value}(ry:RelV y u):
  KT H (kvs.map fun kv=>if kv.1=k then(kv.1,y)else kv) (xs.map (putAt k u)):=by
 induction r with
 | nil=>exact .nil
 | @cons p q ps qs h t ih=>
  rw[List.map_cons,List.map_cons]
  refine .cons ?_ ih
  obtain⟨h1,h2,h3⟩:=h
  unfold putAt
  by_cases e:p.1=k
  ·rw[if_pos e,if_pos (h1.symm.trans e)];exact⟨h1,h2,ry⟩
  ·rw[if_neg e,if_neg (fun z=>e (h1.trans z))];exact⟨h1,h2,h3⟩
theorem KT.put{H:Hp}{kvs:List (List Key×V)}{xs:List (List Key×Addr×Value)}(r:KT H kvs xs)(k:List Key){b:Addr}{y:V}{u:Value}(hb:H b=some (.tup (k.map kV)))(ry:RelV y u):
  KT H (putK kvs k y) (storedH xs k b u):=by
 have e:(kvs.any fun kv=>decide (kv.1=k))=(atKey xs k).isSome:=by
  rw[nB,(r.val k).isSome_eq,Option.isSome_map]
 unfold putK storedH
 rw[e]
 by_cases q:(atKey xs k).isSome=true
 ·rw[if_pos q,if_pos q];exact r.repl k ry
 ·rw[if_neg q,if_neg q];exact Paired.snoc r ⟨rfl,hb,ry⟩
theorem KT.keeps{H H':Hp}{kvs:List (List Key×V)}{xs:List (List Key×Addr×Value)}(r:KT H kvs xs)(ht:∀b ys,H b=some (.tup ys)->H' b=some (.tup ys)):KT H' kvs xs:=
 Paired.mapP r fun _ _ z=>⟨z.1,ht _ _ z.2.1,z.2.2⟩
section
variable {P:Program} {w:World} {H:Hp} {h:Heap} {a:Addr}
theorem pH{u:HO}(ok:aY P w H h)(e:Rd H a u):bo P w H h a u:=e.ok ok
theorem jV{kvs:List (Key×V)}(ok:aY P w H h)(e:Rd H a (.dK kvs)):kvs.length<=sizeLine/\(a == sysModules)=false/\∃vs,KV kvs vs/\h.DictOf (aK P w) a vs:=
 show bo P w H h a (.dK kvs)from pH ok e
theorem CV{kvs:List (Key×V)}(ok:aY P w H h)(e:H a=some (.dK kvs)):kvs.length<=sizeLine/\(a == sysModules)=false/\∃vs,KV kvs vs/\h.DictOf (aK P w) a vs:=jV ok (.inl e)
theorem ic{ks:List Key}(ok:aY P w H h)(e:H a=some (.tup (ks.map kV))):(tupleKind (aK P w)).is h ks a:=by
 obtain⟨_,its,r,o,h1,h2,n,h3⟩:=(show bo P w H h a (.tup (ks.map kV))from ok a _ e)
 exact⟨o,its.toArray,n,h1,h2,h3,by simpa using oQ r⟩
theorem lx{kvs:List (List Key×V)}(ok:aY P w H h)(e:Rd H a (.dT kvs)):kvs.length<=sizeLine/\(a == sysModules)=false ∧
  ∃xs,KT H kvs xs/\h.DictOfH (tupleKind (aK P w)) a xs:=by
 obtain⟨z,y,xs,r,o,es,ep,h1,h2,h3,h4,h5⟩:=(show bo P w H h a (.dT kvs)from pH ok e)
 refine⟨z,y,xs,r,o,es,ep,h1,h2,h3,h4,fun x hx=>?_,h5⟩
 have all:∀{l:List (List Key×V)} {m:List (List Key×Addr×Value)},KT H l m->∀x∈m,(tupleKind (aK P w)).is h x.1 x.2.1:=by
  intro l m q
  induction q with
  | nil=>intro x hx;exact nomatch hx
  | @cons p q ps qs hq t ih=>
   intro x hx
   rcases Ek.mp hx with e | hx
   ·subst e
    exact ic ok (by rw[←hq.1];exact hq.2.1)
   ·exact ih x hx
 exact all r x hx
theorem qe{kvs:List (List Key×V)}(ok:aY P w H h)(e:H a=some (.dT kvs)):kvs.length<=sizeLine/\(a == sysModules)=false ∧
  ∃xs,KT H kvs xs/\h.DictOfH (tupleKind (aK P w)) a xs:=lx ok (.inl e)
end
def cN(H:Hp)(a:Addr)(y:V)(r:Option V):Prop:=
 (∃kvs k,Rd H a (.dK kvs)/\y=kV k/\r=bx kvs k)\/∃kvs k b,Rd H a (.dT kvs)/\y=.ref b/\H b=some (.tup (k.map kV))/\r=bx kvs k
def gw(H:Hp)(a:Addr)(y v:V)(H':Hp):Prop:=
 (∃kvs k,H a=some (.dK kvs)/\y=kV k/\kvs.length<sizeLine/\H'=upd H a (.dK (putK kvs k v))) ∨
 ∃kvs k b,H a=some (.dT kvs)/\y=.ref b/\H b=some (.tup (k.map kV))/\kvs.length<sizeLine/\H'=upd H a (.dT (putK kvs k v))
theorem cN.t{H:Hp}{a b:Addr}{kvs:List (List Key×V)}{k:List Key}(e:H a=some (.dT kvs))(eb:H b=some (.tup (k.map kV))):cN H a (.ref b) (bx kvs k):=.inr ⟨kvs,k,b,.inl e,rfl,eb,rfl⟩
theorem gw.t{H:Hp}{a b:Addr}{kvs:List (List Key×V)}{k:List Key}{v:V}(e:H a=some (.dT kvs))(eb:H b=some (.tup (k.map kV)))(hl:kvs.length<sizeLine):
  gw H a (.ref b) v (upd H a (.dT (putK kvs k v))):=.inr ⟨kvs,k,b,e,rfl,eb,hl,rfl⟩
section
variable {X:Cx} {pins:List (Addr×Obj)} {σ:St} {H:Hp} {s:Shared} {a:Addr} {y v:V} {u r:Value} {o:Option V} {A:Around} {E:Value->Shared->Prop}
theorem Inv.big(I:Inv X pins σ H s):sysModules<s.heap.objs.size:=by
 have h:mainGlobals<s.heap.objs.size:=(I.mod.glob.keeps I.bk).lt
 exact Nat.lt_trans (by decide) h
theorem A5{Q:Value->Shared->Prop}(hu:A.units+1<cLine)(I:Inv X pins σ H s)(g:cN H a y (some v))(ry:RelV y u)(h:∀w' s',Inv X pins σ H s'->RelV v w'->Q w' s'):
  wpAny (model X.prog X.w) A (getItem (.ref a) u) Q E s:=by
 rcases g with⟨kvs,k,e,ey,l⟩ | ⟨kvs,k,b,e,ey,eb,l⟩
 ·subst ey
  obtain⟨z,hd,vs,rel,dd⟩:=jV I.hok e
  obtain⟨w',hw,rw'⟩:=dy.some_of (v:=v) (o:=valueAt vs k) (by rw[l];exact rel.val k)
  exact wpAny_getItem_of (gG ry) dd.mapOf hw (h w' _ (I.tok _) rw')
 ·subst ey
  cases(show u=Value.ref b from ry)
  obtain⟨z,hd,xs,rel,dd⟩:=lx I.hok e
  obtain⟨w',hw,rw'⟩:=dy.some_of (v:=v) (o:=(atKey xs k).map (·.2)) (by rw[l];exact rel.val k)
  obtain⟨p,hp,hp2⟩:=Eh.mp hw
  refine wpAny_getItem_heap (tupleKind_room_in1 hu) (ic I.hok eb) dd hp ?_
  rw[hp2]
  exact h w' _ (I.tok _) rw'
theorem Be{Q:Value->Shared->Prop}(hu:A.units+1<cLine)(I:Inv X pins σ H s)(g:cN H a y o)(ry:RelV y u)(h:∀s',Inv X pins σ H s'->Q (.bool (!o.isSome)) s'):
  wpAny (model X.prog X.w) A (compareOp .NotIn u (.ref a)) Q E s:=by
 rcases g with⟨kvs,k,e,ey,l⟩ | ⟨kvs,k,b,e,ey,eb,l⟩
 ·subst ey
  obtain⟨z,hd,vs,rel,dd⟩:=jV I.hok e
  refine wpAny_notIn_of (gG ry) hd dd.mapOf ?_
  rw[←(rel.val k).isSome_eq,←l]
  exact h _ (I.tok _)
 ·subst ey
  cases(show u=Value.ref b from ry)
  obtain⟨z,hd,xs,rel,dd⟩:=lx I.hok e
  refine wpAny_notIn_heap (tupleKind_room_in1 hu) (ic I.hok eb) hd dd ?_
  have q:=(rel.val k).isSome_eq
  rw[Option.isSome_map]at q
  rw[←q,←l]
  exact h _ (I.tok _)
theorem mK{h':Heap}{t':Nat}{ob:HO}(I:Inv X pins σ H s)(mu:il (H a))(hs:Heap.SameBut a s.heap h')(he:∃q,h'.get? a=some q)(new:bo X.prog X.w (upd H a ob) h' a ob):
  Inv X pins σ (upd H a ob) { s with heap:=h',toks:=t' }:=
 I.write (x:=a) (e:=a) mu (.inl rfl) (fun b q hb z=>(hs.2 b hb).trans z) he new
theorem CB{P:Program}{w:World}{H':Hp}{h':Heap}{kvs:List (Key×V)}{vs:List (Key×Value)}(z:kvs.length<=sizeLine)(hd:(a == sysModules)=false)(rel:KV kvs vs)(dd:h'.DictOf (aK P w) a vs):
  bo P w H' h' a (.dK kvs):=⟨z,hd,vs,rel,dd⟩
theorem Bg{H':Hp}{Q:Unit->Shared->Prop}(hu:A.units+1<cLine)(I:Inv X pins σ H s)(g:gw H a y v H')(ry:RelV y u)(rv:RelV v r)(h:∀s',Inv X pins σ H' s'->Q () s'):
  wpAny (model X.prog X.w) A (setItem (.ref a) u r) Q E s:=by
 rcases g with⟨kvs,k,e,ey,l,eH⟩ | ⟨kvs,k,b,e,ey,eb,l,eH⟩
 ·subst ey eH
  obtain⟨z,hd,vs,rel,dd⟩:=CV I.hok e
  have hz:vs.length<=sizeLine:=by rw[←rel.length];exact z
  have hl:(putK kvs k v).length<=sizeLine:=by have:=rX kvs k v;omega
  refine wpAny_setItem_pairs (hsz:=hz) (gG ry) dd fun h' dd' hs=>h _ ?_
  have he:∃q,h'.get? a=some q:=let ⟨q,_,_,hq,_⟩:=dd';⟨q,hq⟩
  exact mK I (by rw[e];exact True.intro) hs he (CB hl hd (rel.put k rv) dd')
 ·subst ey eH
  cases(show u=Value.ref b from ry)
  obtain⟨z,hd,xs,rel,dd⟩:=qe I.hok e
  have hz:xs.length<=sizeLine:=by rw[←Paired.length rel];exact z
  have hl:(putK kvs k v).length<=sizeLine:=by have:=rX kvs k v;omega
  refine wpAny_setItem_heap (hsz:=hz) (tupleKind_room_in1 hu) (ic I.hok eb) dd fun h' dd' hs=>h _ ?_
  obtain⟨q,es,ep,hq,h2,h3,h4,_,h5⟩:=dd'
  refine mK I (by rw[e];exact True.intro) hs ⟨q,hq⟩ ⟨hl,hd,_,(rel.put k eb rv).keeps fun c ys ec=>?_,q,es,ep,hq,h2,h3,h4,h5⟩
  rw[az (cL ec e (fun z=>nomatch z))]
  exact ec
end
section
variable {X:Cx} {pins:List (Addr×Obj)} {σ:St} {H:Hp} {s:Shared} {a:Addr} {kvs:List (Key×V)} {k:Key} {u:Value} {A:Around} {E:Value->Shared->Prop}
end
def oG(i:Expr):Prop:=∀ov iv,subscripted i false ov iv=operate [ov,iv] (getItem ov iv)
theorem ug{prog:Program}{w:World}{A:Around}{E:Value->Shared->Prop}{s:Shared}{env:Env}{value slice:Expr}{pos:Pos}{T id:String}{Q:Value->Shared->Prop}
  (hl:typeLookup (.type T) "__getitem__" = pure (some (.builtin id))) (hs:oG slice)
  (h:wpAny (model prog w) A (eval value env) (fun o s₁=>wpAny (model prog w) A (eval slice env) (fun i s₂=>s₂.TypeIs o T/\wpAny (model prog w) A (getItem o i) Q E s₂) E s₁) E s) :
  wpAny (model prog w) A (eval (.Subscript value slice pos) env) Q E s:=by
 refine Subscript_ (wpAny_mono h (fun o s₁ h₁=>wpAny_mono h₁ (fun i s₂ h₂=>?_) fun _ _ x=>x) fun _ _ x=>x)
 obtain⟨hT,h₂⟩:=h₂
 unfold subscriptTail
 refine DQ ?_
 rw[getitemInPython_of_ne hT.not_modules]
 refine DQ (wpAny_specialOf hT hl ?_)
 have fin:wpAny (model prog w) A (subscripted slice false o i) (fun r s₃=>wpAny (model prog w) A (letTemporaryGo value o r >>= fun _=>pure r) Q E s₃) E s₂:=by
  rw[hs o i]
  exact wpAny_operating (wpAny_mono h₂ (fun r s₃ h₃=>DQ (wpAny_letTemporaryGo (DR h₃))) fun _ _ x=>x)
 first
  | exact DR (DQ fin)
  | exact DQ (DR (DQ fin))
  | exact DQ fin
theorem By{X:Cx}{pins:List (Addr×Obj)}{σ:St}{H:Hp}{s:Shared}{a:Addr}{y:V}{o:Option V}(I:Inv X pins σ H s)(g:cN H a y o):s.TypeIs (.ref a) "dict":=by
 rcases g with⟨kvs,k,e,_,_⟩ | ⟨kvs,k,b,e,_,_,_⟩
 ·obtain⟨_,_,vs,_,dd⟩:=jV I.hok e
  exact dd.typeIs
 ·obtain⟨_,_,xs,_,dd⟩:=lx I.hok e
  exact dd.typeIs
def wx(td ty:TE):TE:=fun σ H Q=>td σ H fun x H1=>ty σ H1 fun y H2=>∃a v,x=.ref a/\cN H2 a y (some v)/\Q v H2
def qA(ty td:TE):TE:=fun σ H Q=>ty σ H fun y H1=>td σ H1 fun x H2=>∃a o,x=.ref a/\cN H2 a y o/\Q (.bl (!o.isSome)) H2
def we(td ty tv:TE):TS:=fun D σ H=>tv σ H fun v H1=>td σ H1 fun x H2=>ty σ H2 fun y H3=>∃a H4,x=.ref a/\gw H3 a y v H4/\D.nx σ H4
section
variable {X:Cx} {o i e value:Expr} {pos pos' tpos:Pos} {td ty tv:TE}
theorem vY(hu:X.A.units+1<cLine)(ho:PE X o td)(hi:PE X i ty)(hs:oG i):PE X (.Subscript o i pos) (wx td ty):=by
 intro pins s σ H Q I h
 refine ug PySem.F.slot_dict_getitem.lookup hs (ay (ho pins s σ H _ I h) fun u s1 ⟨x,H1,I1,rx,q1⟩=>ay (hi pins s1 σ H1 _ I1 q1) fun iv s2 ⟨y,H2,I2,ry,a,v,ex,g,q2⟩=>?_)
 subst ex
 obtain rfl:u=Value.ref a:=rx
 exact⟨By I2 g,A5 hu I2 g ry fun w' s3 I3 rw'=>⟨v,H2,I3,rw',q2⟩⟩
theorem kO(hu:X.A.units+1<cLine)(hi:PE X i ty)(ho:PE X o td):PC X .NotIn i o (qA ty td):=by
 intro pins s σ H Q I h
 refine ay (hi pins s σ H _ I h) fun iv s1 ⟨y,H1,I1,ry,q1⟩=>ay (ho pins s1 σ H1 _ I1 q1) fun u s2 ⟨x,H2,I2,rx,a,ov,ex,g,q2⟩=>?_
 subst ex
 obtain rfl:u=Value.ref a:=rx
 exact Be hu I2 g ry fun s3 I3=>⟨.bl (!ov.isSome),H2,I3,rfl,q2⟩
theorem vD(hu:X.A.units+1<cLine)(ho:PE X o td)(hi:PE X i ty)(hv:PE X value tv)(hs:swapsWith value (some (.Subscript o i pos')) pos.line X.env=pure false):
  PS X (.Assign [.Subscript o i pos'] value pos) (we td ty tv):=by
 intro pins s σ H D I h
 refine wpAny_Assign_Subscript (ay (hv pins s σ H _ I h) fun r s1 ⟨v,H1,I1,rv,q1⟩=>ay (ho pins s1 σ H1 _ I1 q1) fun u s2 ⟨x,H2,I2,rx,q2⟩=>ay (hi pins s2 σ H2 _ I2 q2) fun iv s3 ⟨y,H3,I3,ry,a,H4,ex,g,q3⟩=>?_) hs
 subst ex
 obtain rfl:u=Value.ref a:=rx
 exact Bg hu I3 g ry rv fun s4 I4=>⟨σ,H4,I4,q3⟩
end
theorem BB{P:Program}{w:World}{H:Hp}(h:Heap)(hb:sysModules<h.objs.size):bo P w H (h.push { cls:=.type "dict",data:=.dict #[] }) h.objs.size (.dT []):=
 ⟨Nat.zero_le _,beq_eq_false_iff_ne.mpr (Ne.symm (Eo hb)),[],.nil,_,#[],0,DU _ rfl,⟨rfl,rfl,rfl⟩,rfl,rfl,List.nodup_nil⟩
section
variable {X:Cx} {pos:Pos}
end
section
variable {X:Cx} {pins:List (Addr×Obj)} {σ:St} {H:Hp} {s:Shared} {a:Addr} {y d:V} {u r:Value} {o:Option V} {A:Around} {E:Value->Shared->Prop}
end
section
variable {X:Cx} {o e f:Expr} {apos cpos:Pos} {td ty tx:TE}
end
section
variable {X:Cx} {pins:List (Addr×Obj)} {σ:St} {H:Hp} {s:Shared} {a:Addr} {kvs:List (Key×V)} {A:Around} {E:Value->Shared->Prop}
end
section
variable {X:Cx} {pins:List (Addr×Obj)} {σ:St} {H:Hp} {s:Shared} {a:Addr} {y:V} {u:Value} {A:Around} {E:Value->Shared->Prop}
end
end L2
namespace L2
open PySem PySem.Spec PyProof.Rows
section
variable {X:Cx}
end
section
variable {κ:Type} [DecidableEq κ]
end
end L2
namespace L2
open PySem PySem.Spec PyProof.Rows
section
variable {prog:Program} {w:World} {A:Around} {E:Value->Shared->Prop} {s:Shared} {dd:Option Addr}
end
section
variable {M:Model} {A:Around} {E:Value->Shared->Prop} {s:Shared} {dd:Option Addr}
end
end L2
namespace L2
open PySem PySem.Spec PyProof.Rows
section
variable {P:Program} {w:World} {K:DS} {mg:Str->Option Value} {base:Heap} {N:List Str} {qual:Str} {scope:Scope} {f:Addr} {cd:Value} {A:Around} {outer:List Env} {s₀:Shared} {H₀:Hp} {E:XK}
end
end L2
namespace L2
open PySem PySem.Spec PyProof.Rows
section
variable {prog:Program} {w:World} {A:Around} {E:Value->Shared->Prop} {K:DS} {x D:Addr} {ox:Obj} {s:Shared}
end
section
variable {X:Cx} {pins:List (Addr×Obj)} {σ:St} {H:Hp} {s:Shared} {x:Addr} {oe:Obj}
end
section
variable {P:Program} {w:World} {K:DS} {mg:Str->Option Value} {base:Heap} {N:List Str} {qual:Str} {scope:Scope} {f:Addr} {cd:Value} {A:Around} {outer:List Env} {s₀:Shared} {H₀:Hp} {E:XK}
end
section
end
section
variable {P:Program} {w:World} {K:DS} {mg:Str->Option Value} {base:Heap} {N:List Str} {qual:Str} {scope:Scope} {f:Addr} {cd:Value} {A:Around} {outer:List Env} {s₀:Shared} {H₀:Hp} {E:XK}
end
section
variable {K:DS} {D:Ends} {σ:St} {H:Hp} {Q:VK} {E:XK} {C x:Addr}
end
section
variable {K:DS} {D:Ends} {σ:St} {H:Hp} {E:St->XK} {C:Addr} {i:Nat} {t u tb:Ends->(St->XK)->St->Hp->Prop} {ts:Addr->Addr->Option Addr->TS} {c:TT}
end
end L2
namespace Tb
open PySem
def nx(m i:Nat):Nat:=(i*5+1) % (m+1)
def it(m:Nat):Nat->Nat->Nat
 | 0,i=>i
 | n+1,i=>it m n (nx m i)
theorem g8(m:Nat):∀a b i,it m (a+b) i=it m b (it m a i)
 | 0,b,i=>by rw[Nat.zero_add];rfl
 | a+1,b,i=>by rw[Nat.succ_add];exact g8 m a b (nx m i)
theorem CZ(m n i:Nat):it m (n+1) i=nx m (it m n i):=by rw[g8 m n 1 i];rfl
def oC(m:Nat):Nat->Nat->List Nat
 | 0,_=>[]
 | n+1,i=>i::oC m n (nx m i)
theorem uR{m:Nat}:∀{n i j:Nat},j∈oC m n i->∃k,k<n/\it m k i=j
 | 0,_,_,h=>by cases h
 | n+1,i,j,h=>by
  rcases Ek.mp h with rfl | h
  ·exact⟨0,Nat.succ_pos _,rfl⟩
  ·obtain⟨k,hk,e⟩:=uR h
   exact⟨k+1,Nat.succ_lt_succ hk,e⟩
def good(m:Nat):Bool:=(List.range (m+1)).all (fun j=>(oC m (m+1) 0).contains j) && it m (m+1) 0 == 0
theorem Dx:good 7=true:=by decide +kernel
theorem BA:good 31=true:=by decide +kernel
theorem BZ:good 127=true:=by decide +kernel
theorem yM:good 511=true:=by decide +kernel
def Full(N:Nat):Prop:=(∀j,j<N->∃k,k<N/\it (N-1) k 0=j)/\it (N-1) N 0=0
theorem kA{m:Nat}(h:good m=true):Full (m+1):=by
 unfold Tb.good at h
 rw[EJ,EG]at h
 refine⟨fun j hj=>?_,eq_of_beq h.2⟩
 have h1:=h.1 j (List.mem_range.mpr hj)
 rw[List.contains_iff_mem]at h1
 exact uR h1
def co:Nat->Nat
 | 0=>0
 | n+1=>5*co n+1
theorem qv(m:Nat):∀n i,it m n i % (m+1)=(5 ^ n*i+co n) % (m+1)
 | 0,i=>by simp[it,co]
 | n+1,i=>by
  rw[CZ]
  unfold nx
  rw[Nat.mod_mod,Nat.add_mod,Nat.mul_mod,qv m n i,←Nat.mul_mod,←Nat.add_mod]
  congr 1
  show(5 ^ n*i+co n)*5+1=5 ^ (n+1)*i+(5*co n+1)
  rw[Nat.pow_succ,Nat.add_mul]
  have:5 ^ n*i*5=5 ^ n*5*i:=by rw[Nat.mul_assoc,Nat.mul_comm i 5,Nat.mul_assoc]
  omega
theorem oo(m:Nat):∀n i,i<=m->it m n i<=m
 | 0,i,h=>h
 | n+1,i,h=>by
  refine oo m n _ ?_
  unfold nx
  have:=Nat.mod_lt (i*5+1) (show 0<m+1 by omega)
  omega
theorem qJ{m n i:Nat}(h:i<=m):it m n i=(5 ^ n*i+co n) % (m+1):=by
 rw[←qv,Nat.mod_eq_of_lt (Nat.lt_succ_of_le (oo m n i h))]
theorem Cn(n:Nat):5 ^ n % 2=1:=by
 induction n with
 | zero=>rfl
 | succ n ih=>rw[Nat.pow_succ,Nat.mul_mod,ih]
theorem vQ:∀n,4*co n+1=5 ^ n
 | 0=>rfl
 | n+1=>by
  have:=vQ n
  show 4*(5*co n+1)+1=5 ^ (n+1)
  rw[Nat.pow_succ]
  omega
theorem BQ{a N:Nat}(h:a % 2=1)(r:Nat):(a*N+r) % (2*N)=(N+r) % (2*N):=by
 obtain⟨c,rfl⟩:∃c,a=2*c+1:=⟨a / 2,by omega⟩
 have:(2*c+1)*N+r=(N+r)+2*N*c:=by
  rw[Nat.add_mul,Nat.one_mul,Nat.mul_assoc,Nat.mul_comm c N,←Nat.mul_assoc]
  omega
 rw[this,Nat.add_mul_mod_self_left]
theorem two{x N:Nat}(h:x<2*N)(hN:0<N):x=x % N\/x=N+x % N:=by
 rcases Nat.lt_or_ge x N with a | a
 ·exact .inl (Nat.mod_eq_of_lt a).symm
 ·refine .inr ?_
  rw[Nat.mod_eq_sub_mod a,Nat.mod_eq_of_lt (by omega)]
  omega
theorem Full.double{N:Nat}(hN:0<N)(h:Full N)(hc:co N % (2*N)=N):Full (2*N):=by
 obtain⟨h1,h2⟩:=h
 have hm:2*N-1+1=2*N:=by omega
 have hm1:N-1+1=N:=by omega
 have val:∀n i,i<=2*N-1->it (2*N-1) n i=(5 ^ n*i+co n) % (2*N):=fun n i hi=>by rw[qJ hi,hm]
 have eN:it (2*N-1) N 0=N:=by rw[val N 0 (by omega),Nat.mul_zero,Nat.zero_add,hc]
 have up:∀k,it (2*N-1) (N+k) 0=(N+it (2*N-1) k 0) % (2*N):=fun k=>by
  rw[g8,eN,val k N (by omega),val k 0 (by omega),Nat.mul_zero,Nat.zero_add,BQ (Cn k)]
  rw[Nat.add_mod_mod]
 refine⟨fun j hj=>?_,?_⟩
 ·obtain⟨k,hk,ek⟩:=h1 (j % N) (Nat.mod_lt _ hN)
  have e1:it (2*N-1) k 0 % N=j % N:=by
   rw[val k 0 (by omega),Nat.mul_zero,Nat.zero_add,Nat.mod_mul_left_mod,←ek,qJ (Nat.zero_le _),hm1,Nat.mul_zero,Nat.zero_add]
  have e2:it (2*N-1) k 0<2*N:=by
   have:=oo (2*N-1) k 0 (Nat.zero_le _)
   omega
  by_cases e:it (2*N-1) k 0=j
  ·exact⟨k,by omega,e⟩
  ·refine⟨N+k,by omega,?_⟩
   rw[up k]
   have t1:=two hj hN
   have t2:=two e2 hN
   rw[e1]at t2
   generalize it (2*N-1) k 0=x at *
   generalize j % N=r at *
   rcases t1 with a | a<;>rcases t2 with b | b
   ·omega
   ·have:N+x=j+2*N:=by omega
    rw[this,Nat.add_mod_right,Nat.mod_eq_of_lt hj]
   ·have:N+x=j:=by omega
    rw[this,Nat.mod_eq_of_lt hj]
   ·omega
 ·rw[show 2*N=N+N by omega,show N+N-1=2*N-1 by omega,up N,eN,show N+N=2*N by omega,Nat.mod_self]
theorem jY{N c:Nat}(h:4*c+1=5 ^ N):co N=c:=by
 have:=vQ N
 omega
theorem B7:Full 8:=kA Dx
theorem Cb:Full 32:=kA BA
theorem BS:Full 128:=kA BZ
theorem wD:Full 512:=kA yM
theorem A7:co 512 % (2*512)=512:=by rw[jY (c:=(5 ^ 512-1) / 4) (by decide +kernel)];decide +kernel
theorem Ao:co 1024 % (2*1024)=1024:=by rw[jY (c:=(5 ^ 1024-1) / 4) (by decide +kernel)];decide +kernel
theorem Dg:co 2048 % (2*2048)=2048:=by rw[jY (c:=(5 ^ 2048-1) / 4) (by decide +kernel)];decide +kernel
theorem yO:co 4096 % (2*4096)=4096:=by rw[jY (c:=(5 ^ 4096-1) / 4) (by decide +kernel)];decide +kernel
theorem oZ:Full 2048:=Full.double (N:=1024) (by decide) (wD.double (by decide) A7) Ao
theorem Bq:Full 8192:=Full.double (N:=4096) (by decide) (oZ.double (by decide) Dg) yO
def Mask(m:Nat):Prop:=m=7\/m=31\/m=127\/m=511\/m=2047\/m=8191
theorem Mask.full{m:Nat}(h:Mask m):Full (m+1):=by
 rcases h with rfl | rfl | rfl | rfl | rfl | rfl
 ·exact B7
 ·exact Cb
 ·exact BS
 ·exact wD
 ·exact oZ
 ·exact Bq
theorem tQ{m:Nat}(h:Mask m){j:Nat}(hj:j<=m):∃k,k<=m/\it m k 0=j:=by
 obtain⟨k,hk,e⟩:=h.full.1 j (by omega)
 exact⟨k,by omega,e⟩
theorem round0{m:Nat}(h:Mask m):it m (m+1) 0=0:=h.full.2
theorem reach{m:Nat}(h:Mask m){i j:Nat}(hi:i<=m)(hj:j<=m):∃k,k<=m/\it m k i=j:=by
 obtain⟨a,ha,ea⟩:=tQ h hi
 obtain⟨b,hb,eb⟩:=tQ h hj
 rcases Nat.lt_or_ge b a with hlt | hge
 ·refine⟨m+1-a+b,by omega,?_⟩
  rw[←ea,←g8,show a+(m+1-a+b)=(m+1)+b by omega,g8,round0 h]
  exact eb
 ·refine⟨b-a,by omega,?_⟩
  rw[←ea,←g8,show a+(b-a)=b by omega]
  exact eb
def lp(m:Nat):Nat->Nat×Nat->Nat×Nat
 | 0,s=>s
 | n+1,s=>lp m n (SetTable.leap m s.1 s.2)
theorem nJ(m:Nat):∀n s,lp m (n+1) s=SetTable.leap m (lp m n s).1 (lp m n s).2
 | 0,s=>rfl
 | n+1,s=>by
  show lp m (n+1) (SetTable.leap m s.1 s.2)=_
  rw[nJ m n]
  rfl
theorem qL(m:Nat):∀n s,(lp m n s).2=s.2 / 32 ^ n
 | 0,s=>by simp[lp]
 | n+1,s=>by
  rw[nJ m n s]
  show(lp m n s).2 / 32=_
  rw[qL m n s,Nat.div_div_eq_div_mul,Nat.pow_succ]
theorem rT(m:Nat):∀n s,s.1<=m->(lp m n s).1<=m
 | 0,s,h=>h
 | n+1,s,h=>by
  rw[nJ m n s]
  show(_ % (m+1))<=m
  have:=Nat.mod_lt ((lp m n s).1*5+1+(lp m n s).2 / 32) (show 0<m+1 by omega)
  omega
theorem xi(m:Nat):∀n i,(lp m n (i,0)).1=it m n i
 | 0,i=>rfl
 | n+1,i=>by
  show(lp m n (SetTable.leap m i 0)).1=it m n (nx m i)
  have:SetTable.leap m i 0=(nx m i,0):=rfl
  rw[this]
  exact xi m n _
theorem pJ(m:Nat):∀a b s,lp m (a+b) s=lp m b (lp m a s)
 | 0,b,s=>by rw[Nat.zero_add];rfl
 | a+1,b,s=>by rw[Nat.succ_add];exact pJ m a b _
theorem uI{m:Nat}(h:Mask m){i p j:Nat}(hi:i<=m)(hp:p<2 ^ 64)(hj:j<=m):∃n,n<=m+13/\(lp m n (i,p)).1=j:=by
 have hz:(lp m 13 (i,p)).2=0:=by
  rw[qL]
  exact Nat.div_eq_of_lt (ED hp (by decide))
 obtain⟨k,hk,e⟩:=reach h (rT m 13 (i,p) hi) hj
 refine⟨13+k,by omega,?_⟩
 rw[pJ]
 have:lp m 13 (i,p)=((lp m 13 (i,p)).1,0):=by rw[←hz]
 rw[this,xi]
 exact e
theorem sN(h:Int):SetTable.bits h<2 ^ 64:=by
 unfold SetTable.bits
 have h1:=Int.emod_lt_of_pos h (show(0:Int)<2 ^ 64 by decide)
 have h2:=Int.emod_nonneg h (show(2:Int) ^ 64≠0 by decide)
 omega
def aJ(t:SetTable):Nat->SetTable.Probe->SetTable.Probe
 | 0,p=>p
 | n+1,p=>aJ t n (t.advance p)
theorem gE(t:SetTable):∀a b p,aJ t (a+b) p=aJ t b (aJ t a p)
 | 0,b,p=>by rw[Nat.zero_add];rfl
 | a+1,b,p=>by rw[Nat.succ_add];exact gE t a b _
def at_(t:SetTable)(s:Nat×Nat):SetTable.Probe:={ j:=s.1,more:=SetTable.runEnd t.mask s.1-s.1,i:=s.1,perturb:=s.2,dummy:=none }
theorem nM(t:SetTable):∀(r:Nat) (p:SetTable.Probe),p.more=r->aJ t (r+1) p={ p with j:=(SetTable.leap t.mask p.i p.perturb).1,more:=SetTable.runEnd t.mask (SetTable.leap t.mask p.i p.perturb).1-(SetTable.leap t.mask p.i p.perturb).1,i:=(SetTable.leap t.mask p.i p.perturb).1,perturb:=(SetTable.leap t.mask p.i p.perturb).2 }
 | 0,p,h=>by
  show t.advance p=_
  unfold SetTable.advance
  rw[if_neg (by omega)]
 | r+1,p,h=>by
  show aJ t (r+1) (t.advance p)=_
  have e:t.advance p={ p with j:=p.j+1,more:=p.more-1 }:=by
   unfold SetTable.advance
   rw[if_pos (by omega)]
  rw[e,nM t r _ (by show p.more-1=r;omega)]
theorem DI(t:SetTable)(s:Nat×Nat):∃k,k<=10/\aJ t k (at_ t s)=at_ t (SetTable.leap t.mask s.1 s.2):=by
 refine⟨SetTable.runEnd t.mask s.1-s.1+1,?_,?_⟩
 ·unfold SetTable.runEnd
  split<;>omega
 ·exact(nM t (SetTable.runEnd t.mask s.1-s.1) (at_ t s) rfl).trans rfl
theorem wo(t:SetTable):∀(n:Nat) (s:Nat×Nat),∃k,k<=10*n/\aJ t k (at_ t s)=at_ t (lp t.mask n s)
 | 0,s=>⟨0,Ep _,rfl⟩
 | n+1,s=>by
  obtain⟨k1,h1,e1⟩:=DI t s
  obtain⟨k2,h2,e2⟩:=wo t n (SetTable.leap t.mask s.1 s.2)
  refine⟨k1+k2,by omega,?_⟩
  rw[gE,e1,e2]
  rfl
theorem Cv(t:SetTable)(h:Int):t.probeStart h=at_ t (SetTable.bits h % (t.mask+1),SetTable.bits h):=rfl
theorem ya{t:SetTable}(hm:Mask t.mask){j:Nat}(hj:j<=t.mask)(h:Int):∃K,K<10*SetTable.turns t.mask/\(aJ t K (t.probeStart h)).j=j:=by
 have h1:SetTable.bits h % (t.mask+1)<=t.mask:=by
  have:=Nat.mod_lt (SetTable.bits h) (show 0<t.mask+1 by omega)
  omega
 obtain⟨n,hn,e⟩:=uI hm h1 (sN h) hj
 obtain⟨K,hK,eK⟩:=wo t n (SetTable.bits h % (t.mask+1),SetTable.bits h)
 refine⟨K,by unfold SetTable.turns;omega,?_⟩
 rw[Cv,eK]
 exact e
theorem kI{t:SetTable}{j i:Nat}(h:t.slot j=.live i):t.place[i]?=some j:=by
 unfold SetTable.slot at h
 dsimp only at h
 split at h
 ·rename_i hq
  cases h
  exact eq_of_beq hq
 ·split at h<;>cases h
theorem vF(j:Nat):SetTable.has #[] j=false:=rfl
theorem ny{t:SetTable}(hd:t.dummies = #[])(j:Nat):t.slot j=.empty\/∃i,t.slot j=.live i:=by
 unfold SetTable.slot
 dsimp only
 split
 ·exact .inr ⟨_,rfl⟩
 ·rw[hd,vF]
  exact .inl rfl
theorem wH:∀(n:Nat) (l:List Nat),(∀j,j<n->j∈l)->n<=l.length
 | 0,l,_=>Nat.zero_le _
 | n+1,l,h=>by
  have hn:=h n (Nat.lt_succ_self n)
  have:=wH n (l.erase n) fun j hj=>(List.mem_erase_of_ne (by omega)).mpr (h j (by omega))
  rw[List.length_erase_of_mem hn]at this
  have:0<l.length:=List.length_pos_of_mem hn
  omega
theorem xP{t:SetTable}(hd:t.dummies = #[])(h:t.place.size<=t.mask):∃j,j<=t.mask/\t.slot j=.empty:=by
 rcases Classical.em (∃j,j<=t.mask/\t.slot j=.empty)with h1 | h1
 ·exact h1
 ·exfalso
  have:=wH (t.mask+1) t.place.toList fun j hj=>by
   rcases ny hd j with h2 | ⟨i,h2⟩
   ·exact absurd ⟨j,by omega,h2⟩ h1
   ·have:=kI h2
    rw[←Array.getElem?_toList]at this
    exact Ef this
  rw[Ea]at this
  omega
theorem iq(t:SetTable):∀n p,(aJ t n p).dummy=p.dummy
 | 0,p=>rfl
 | n+1,p=>by
  show(aJ t n (t.advance p)).dummy=_
  rw[iq t n]
  unfold SetTable.advance
  split<;>rfl
theorem rL{α:Type}:∀{l:List (Option α)} {j:Nat} {k:α},l[j]?=some none->((l.set j (some k)).filterMap id).Perm (k::l.filterMap id)
 | [],j,k,h=>by cases h
 | x::l,0,k,h=>by
  have:x=none:=by simpa using h
  subst this
  exact .refl _
 | x::l,j+1,k,h=>by
  have h':l[j]?=some none:=by simpa using h
  have ih:=rL (k:=k) h'
  cases x with
  | none=>exact ih
  | some y=>exact(List.Perm.cons y ih).trans (.swap _ _ _)
theorem xp{α:Type}(l:List (Option α)):(l.filterMap id).length+(l.filter (·.isNone)).length=l.length:=by
 induction l with
 | nil=>rfl
 | cons x l ih=>
  cases x<;>simp at ih ⊢<;>omega
theorem y4{m:Nat}(hm:Mask m)(owner:Array (Option Nat))(hz:owner.size=m+1){j:Nat}(hj:owner[j]?=some none):∀(fuel n i p:Nat),i<=m->n<fuel->(lp m n (i,p)).1=j →
  ∃j',SetTable.layClean.free m owner fuel i p=some j'/\owner[j']?=some none:=by
 intro fuel
 induction fuel with
 | zero=>intro n i p _ h;omega
 | succ fuel ih=>
  intro n i p hi hn he
  unfold SetTable.layClean.free
  split
  ·rename_i k hk
   have h1:=List.find?_some hk
   have h2:=List.mem_range.mp (List.mem_of_find?_eq_some hk)
   refine⟨i+k,rfl,?_⟩
   have hb:i+k<owner.size:=by
    rw[hz]
    unfold SetTable.runEnd at h2
    split at h2<;>omega
   rw[Array.getElem?_eq_getElem hb]
   have:owner.getD (i+k) (some 0)=owner[i+k]:=by
    rw[Array.getD_eq_getD_getElem?,Array.getElem?_eq_getElem hb]
    rfl
   rw[this]at h1
   congr 1
   cases hq:owner[i+k]with
   | none=>rfl
   | some y=>rw[hq]at h1;cases h1
  ·rename_i hk
   cases n with
   | zero=>
    exfalso
    have h0:i=j:=he
    have:=List.find?_eq_none.mp hk 0 (List.mem_range.mpr (by unfold SetTable.runEnd;split<;>omega))
    rw[Nat.add_zero,h0,Array.getD_eq_getD_getElem?,hj]at this
    simp at this
   | succ n=>
    have:=rT m 1 (i,p) hi
    exact ih n (SetTable.leap m i p).1 (SetTable.leap m i p).2 this (by omega) he
def lS(mask:Nat)(acc:Option (Array (Option Nat)×Nat))(h:Int):Option (Array (Option Nat)×Nat):=do
 let (owner,k) ←acc
 let j ←SetTable.layClean.free mask owner (SetTable.turns mask) (SetTable.bits h % (mask+1)) (SetTable.bits h)
 pure (owner.setIfInBounds j (some k),k+1)
theorem xE{l:List (Option Nat)}(h:(l.filterMap id).length<l.length):∃j:Nat,l[j]?=some none:=by
 have:=xp l
 have h1:0<(l.filter (·.isNone)).length:=by omega
 obtain⟨x,hx⟩:=List.exists_mem_of_length_pos h1
 obtain⟨hx1,hx2⟩:=List.mem_filter.mp hx
 have:x=none:=by cases x<;>simp_all
 subst this
 obtain⟨j,hj⟩:=List.getElem?_of_mem hx1
 exact⟨j,hj⟩
theorem mx{α:Type}(xs:Array α)(p:Nat)(x:α):(SetTable.insertAt xs p x).size=xs.size+1:=by
 unfold SetTable.insertAt
 simp
 omega
theorem Dr{α:Type}{xs:Array α}{p:Nat}{x e:α}(h:e∈(SetTable.insertAt xs p x).toList):e=x\/e∈xs.toList:=by
 unfold SetTable.insertAt at h
 simp only[Array.toList_append,Array.toList_push,Array.toList_extract,Ew,Eg]at h
 rcases h with(h | h) | h
 ·exact .inr (List.mem_of_mem_take (by simpa using h))
 ·exact .inl h
 ·exact .inr (List.mem_of_mem_drop (List.mem_of_mem_take h))
theorem xA:SetTable.sizeAbove 20-1=31:=by decide +kernel
theorem Ar:SetTable.sizeAbove 76-1=127:=by decide +kernel
theorem BG:SetTable.sizeAbove 308-1=511:=by decide +kernel
theorem CC:SetTable.sizeAbove 1228-1=2047:=by decide +kernel
theorem AD:SetTable.sizeAbove 4916-1=8191:=by decide +kernel
end Tb
namespace Tb
open PySem
theorem least{P:Nat->Prop}:∀n,P n->∃m,m<=n/\P m/\∀k,k<m->¬P k:=by
 intro n
 induction n using Nat.strongRecOn with
 | ind n ih=>
  intro h
  rcases Classical.em (∃k,k<n/\P k)with⟨k,hk,pk⟩ | hn
  ·obtain⟨m,h1,h2,h3⟩:=ih k hk pk
   exact⟨m,by omega,h2,h3⟩
  ·exact⟨n,Ep _,h,fun k hk pk=>hn ⟨k,hk,pk⟩⟩
theorem nV{xs:Array Nat}(h:xs.toList.Pairwise (· < ·)){a b x y:Nat}(ha:xs[a]?=some x)(hb:xs[b]?=some y)(hab:a<b):x<y:=by
 obtain⟨h1,e1⟩:=Array.getElem?_eq_some_iff.mp ha
 obtain⟨h2,e2⟩:=Array.getElem?_eq_some_iff.mp hb
 have:=List.pairwise_iff_getElem.mp h a b (by simpa using h1) (by simpa using h2) hab
 simp only[Array.getElem_toList]at this
 rw[e1,e2]at this
 exact this
theorem oh(xs:Array Nat)(j:Nat)(hs:xs.toList.Pairwise (· < ·)):∀fuel lo hi,hi-lo<=fuel->lo<=hi->hi<=xs.size->(∀k x,k<lo->xs[k]?=some x->x<j)->(∀k x,hi<=k->xs[k]?=some x->j<=x) →
  SetTable.below.go xs j fuel lo hi<=xs.size/\(∀k x,k<SetTable.below.go xs j fuel lo hi->xs[k]?=some x->x<j)/\(∀k x,SetTable.below.go xs j fuel lo hi<=k->xs[k]?=some x->j<=x)
 | 0,lo,hi,h1,h2,h3,h4,h5=>by
  have:lo=hi:=by omega
  subst this
  exact⟨h3,h4,h5⟩
 | fuel+1,lo,hi,h1,h2,h3,h4,h5=>by
  unfold SetTable.below.go
  by_cases hlt:lo<hi
  ·rw[if_pos hlt]
   dsimp only
   have hm:(lo+hi) / 2<xs.size:=by omega
   have em:xs[(lo+hi) / 2]?=some xs[(lo+hi) / 2]:=getElem?_pos xs _ hm
   have eg:xs.getD ((lo+hi) / 2) j=xs[(lo+hi) / 2]:=by
    rw[Array.getD_eq_getD_getElem?,em]
    rfl
   rw[eg]
   by_cases hc:xs[(lo+hi) / 2]<j
   ·rw[if_pos hc]
    refine oh xs j hs fuel _ _ (by omega) (by omega) h3 (fun k x hk ek=>?_) h5
    rcases Nat.lt_or_ge k ((lo+hi) / 2)with a | a
    ·have:=nV hs ek em a
     omega
    ·have:k=(lo+hi) / 2:=by omega
     subst this
     rw[em]at ek
     cases ek
     exact hc
   ·rw[if_neg hc]
    refine oh xs j hs fuel _ _ (by omega) (by omega) (by omega) h4 (fun k x hk ek=>?_)
    rcases Nat.lt_or_ge ((lo+hi) / 2) k with a | a
    ·have:=nV hs em ek a
     omega
    ·have:k=(lo+hi) / 2:=by omega
     subst this
     rw[em]at ek
     cases ek
     omega
  ·rw[if_neg hlt]
   have:lo=hi:=by omega
   subst this
   exact⟨h3,h4,h5⟩
theorem ow{xs:Array Nat}(hs:xs.toList.Pairwise (· < ·))(j:Nat):SetTable.below xs j<=xs.size/\(∀k x,k<SetTable.below xs j->xs[k]?=some x->x<j)/\(∀k x,SetTable.below xs j<=k->xs[k]?=some x->j<=x):=
 oh xs j hs xs.size 0 xs.size (by omega) (Nat.zero_le _) (Ep _) (fun k x hk=>by omega) (fun k x hk e=>by
  have:=(Array.getElem?_eq_some_iff.mp e).1
  omega)
theorem slot_mem{t:SetTable}(hs:t.place.toList.Pairwise (· < ·)){j i:Nat}(h:t.place[i]?=some j):t.slot j=.live i:=by
 obtain⟨h1,h2,h3⟩:=ow hs j
 have e:SetTable.below t.place j=i:=by
  have hi:=(Array.getElem?_eq_some_iff.mp h).1
  rcases Nat.lt_or_ge i (SetTable.below t.place j)with a | a
  ·have:=h2 i j a h
   omega
  ·rcases Nat.lt_or_ge (SetTable.below t.place j) i with b | b
   ·have eb:t.place[SetTable.below t.place j]?=some t.place[SetTable.below t.place j]:=getElem?_pos t.place _ (by omega)
    have c1:=h3 _ _ (Ep _) eb
    have c2:=nV hs eb h b
    omega
   ·omega
 unfold SetTable.slot
 dsimp only
 rw[e,h,if_pos (beq_self_eq_true _)]
theorem gQ{α:Type}(xs:Array α)(p:Nat)(x:α):(SetTable.insertAt xs p x).toList=xs.toList.take p++(x::xs.toList.drop p):=by
 unfold SetTable.insertAt
 rw[Array.toList_append,Array.toList_push,Array.toList_extract,Array.toList_extract]
 show List.take (p-0) (xs.toList.drop 0)++[x]++List.take (xs.size-p) (xs.toList.drop p)=_
 rw[List.take_of_length_le (l:=xs.toList.drop p) (by rw[List.length_drop,Ea];exact Ep _),List.append_assoc]
 rfl
theorem pM{α:Type}(xs:Array α){p:Nat}(hp:p<=xs.size)(x:α)(i:Nat):(SetTable.insertAt xs p x)[i]?=if i<p then xs[i]? else if i=p then some x else xs[i-1]?:=by
 rw[←Array.getElem?_toList,gQ,List.getElem?_append,List.length_take,Ea,show min p xs.size=p by omega]
 by_cases h:i<p
 ·rw[if_pos h,if_pos h,List.getElem?_take_of_lt h,Array.getElem?_toList]
 ·rw[if_neg h,if_neg h]
  by_cases e:i=p
  ·rw[if_pos e,e,Nat.sub_self]
   rfl
  ·rw[if_neg e]
   obtain⟨k,rfl⟩:∃k,i=p+(k+1):=⟨i-p-1,by omega⟩
   rw[show p+(k+1)-p=k+1 by omega,List.getElem?_cons_succ,List.getElem?_drop,Array.getElem?_toList]
   congr 1
theorem DB{xs:Array Nat}(hs:xs.toList.Pairwise (· < ·)){j:Nat}(hn:j∉xs.toList):(SetTable.insertAt xs (SetTable.below xs j) j).toList.Pairwise (· < ·):=by
 obtain⟨h1,h2,h3⟩:=ow hs j
 rw[gQ]
 have hs':=hs
 rw[←List.take_append_drop (SetTable.below xs j) xs.toList,List.pairwise_append]at hs'
 rw[List.pairwise_append,List.pairwise_cons]
 refine⟨hs'.1,⟨fun y hy=>?_,hs'.2.1⟩,fun x hx y hy=>?_⟩
 ·obtain⟨k,hk,e⟩:=List.mem_iff_getElem.mp hy
  rw[List.length_drop,Ea]at hk
  rw[List.getElem_drop,Array.getElem_toList]at e
  have ex:xs[SetTable.below xs j+k]?=some y:=by
   rw[getElem?_pos xs _ (by omega),e]
  have:=h3 _ _ (by omega) ex
  have ne:y≠j:=fun z=>hn (by rw[←z];exact Array.mem_toList_iff.mpr (Array.mem_of_getElem? ex))
  omega
 ·have hxj:x<j:=by
   obtain⟨k,hk,e⟩:=List.mem_iff_getElem.mp hx
   rw[List.length_take,Ea]at hk
   rw[List.getElem_take,Array.getElem_toList]at e
   exact h2 k x (by omega) (by rw[getElem?_pos xs _ (by omega),e])
  rcases Ek.mp hy with rfl | hy
  ·exact hxj
  ·exact hs'.2.2 x hx y hy
abbrev tM(m:Nat):SetTable:={ mask:=m,place:=#[],dummies:=#[],finger:=0,led:=false,moves:=0,plain:=false }
def pm(m:Nat)(h:Int)(k:Nat):Nat:=(aJ (tM m) k ((tM m).probeStart h)).j
theorem xf(t:SetTable):∀k p,aJ t k p=aJ (tM t.mask) k p
 | 0,p=>rfl
 | k+1,p=>xf t k _
theorem sZ(t:SetTable)(h:Int)(k:Nat):(aJ t k (t.probeStart h)).j=pm t.mask h k:=by
 rw[xf]
 rfl
structure TOk(m:Nat)(pl:Array Nat)(hs:Array Int):Prop where
 len:pl.size=hs.size
 inc:pl.toList.Pairwise (· < ·)
 rch:∀(i j:Nat) (h:Int),pl[i]?=some j->hs[i]?=some h->∃K,K<10*SetTable.turns m/\pm m h K=j/\∀k,k<K->pm m h k∈pl.toList
theorem TOk.nil(m:Nat):TOk m #[] #[]:=⟨rfl,.nil,fun i j h e=>by simp at e⟩
theorem TOk.put{m:Nat}{pl:Array Nat}{hs:Array Int}(T:TOk m pl hs){h:Int}{K:Nat}(hK:K<10*SetTable.turns m)(hn:pm m h K∉pl.toList)(hb:∀k,k<K->pm m h k∈pl.toList):
  TOk m (SetTable.insertAt pl (SetTable.below pl (pm m h K)) (pm m h K)) (SetTable.insertAt hs (SetTable.below pl (pm m h K)) h):=by
 have hle:=(ow T.inc (pm m h K)).1
 have more:∀x,x∈pl.toList->x∈(SetTable.insertAt pl (SetTable.below pl (pm m h K)) (pm m h K)).toList:=fun x hx=>by
  rw[gQ]
  rw[←List.take_append_drop (SetTable.below pl (pm m h K)) pl.toList]at hx
  rcases Ew.mp hx with a | a
  ·exact List.mem_append_left _ a
  ·exact List.mem_append_right _ (DZ _ a)
 have old:∀(i j:Nat) (h':Int),pl[i]?=some j->hs[i]?=some h'->∃K',K'<10*SetTable.turns m/\pm m h' K'=j/\∀k,k<K'->pm m h' k∈(SetTable.insertAt pl (SetTable.below pl (pm m h K)) (pm m h K)).toList:=fun i j h' e1 e2=>by
  obtain⟨K',h1,h2,h3⟩:=T.rch i j h' e1 e2
  exact⟨K',h1,h2,fun k hk=>more _ (h3 k hk)⟩
 refine⟨by rw[mx,mx,T.len],DB T.inc hn,fun i j h' e1 e2=>?_⟩
 rw[pM pl hle]at e1
 rw[pM hs (by rw[←T.len];exact hle)]at e2
 by_cases c1:i<SetTable.below pl (pm m h K)
 ·rw[if_pos c1]at e1 e2
  exact old i j h' e1 e2
 ·rw[if_neg c1]at e1 e2
  by_cases c2:i=SetTable.below pl (pm m h K)
  ·rw[if_pos c2]at e1 e2
   cases e1
   cases e2
   exact⟨K,hK,rfl,fun k hk=>more _ (hb k hk)⟩
  ·rw[if_neg c2]at e1 e2
   exact old _ j h' e1 e2
theorem xH{t:SetTable}(hd:t.dummies = #[]){j:Nat}(h:t.slot j≠.empty):j∈t.place.toList:=by
 rcases ny hd j with e | ⟨i,e⟩
 ·exact absurd e h
 ·exact Array.mem_toList_iff.mpr (Array.mem_of_getElem? (kI e))
theorem sf{t:SetTable}(hs:t.place.toList.Pairwise (· < ·)){j:Nat}(h:j∈t.place.toList):∃i,t.slot j=.live i/\t.place[i]?=some j:=by
 obtain⟨i,hi⟩:=List.getElem?_of_mem h
 rw[Array.getElem?_toList]at hi
 exact⟨i,slot_mem hs hi,hi⟩
theorem xG{t:SetTable}(hs:t.place.toList.Pairwise (· < ·)){j:Nat}(h:t.slot j=.empty):j∉t.place.toList:=fun hm=>by
 obtain⟨i,e,_⟩:=sf hs hm
 rw[h]at e
 cases e
theorem zy{t:SetTable}(hd:t.dummies = #[])(hm:Mask t.mask)(hp:t.place.size<=t.mask)(h:Int):∃K,K<10*SetTable.turns t.mask/\t.slot (pm t.mask h K)=.empty/\∀k,k<K->t.slot (pm t.mask h k)≠.empty:=by
 obtain⟨j0,hj0,hs0⟩:=xP hd hp
 obtain⟨N,hN,eN⟩:=ya hm hj0 h
 rw[sZ]at eN
 obtain⟨K,h1,h2,h3⟩:=least (P:=fun n=>t.slot (pm t.mask h n)=.empty) N (by show t.slot (pm t.mask h N)=_;rw[eN];exact hs0)
 exact⟨K,by omega,h2,h3⟩
theorem pq{t:SetTable}(hd:t.dummies = #[])(hash:Nat->Int)(h:Int):∀(K fuel:Nat) (p:SetTable.Probe),K<fuel->p.dummy=none->(∀k,k<K->t.slot (aJ t k p).j≠.empty) →
  (∃k i,k<K/\SetTable.probe.go t hash h fuel p=some (.candidate (aJ t k p).j i (aJ t (k+1) p))/\t.slot (aJ t k p).j=.live i)\/SetTable.probe.go t hash h fuel p=SetTable.probe.go t hash h (fuel-K) (aJ t K p):=by
 intro K
 induction K with
 | zero=>intro fuel p _ _ _;exact .inr rfl
 | succ K ih=>
  intro fuel p hf hp hs
  obtain⟨f,rfl⟩:∃f,fuel=f+1:=⟨fuel-1,by omega⟩
  have h0:t.slot p.j≠.empty:=hs 0 (by omega)
  rcases ny hd p.j with h1 | ⟨i,h1⟩
  ·exact absurd h1 h0
  ·by_cases hq:(hash i == h)=true
   ·refine .inl ⟨0,i,by omega,?_,h1⟩
    conv=>lhs;unfold SetTable.probe.go
    rw[h1]
    dsimp only
    rw[if_pos hq]
    rfl
   ·have e:SetTable.probe.go t hash h (f+1) p=SetTable.probe.go t hash h f (t.advance p):=by
     conv=>lhs;unfold SetTable.probe.go
     rw[h1]
     dsimp only
     rw[if_neg hq]
    rw[e]
    have hp':(t.advance p).dummy=none:=by
     have:=iq t 1 p
     rw[hp]at this
     exact this
    rcases ih f (t.advance p) (by omega) hp' (fun k hk=>hs (k+1) (by omega))with⟨k,i',hk,e',hl⟩ | e'
    ·exact .inl ⟨k+1,i',by omega,e',hl⟩
    ·refine .inr ?_
     rw[e',show f+1-(K+1)=f-K by omega]
     rfl
theorem Bh{t:SetTable}(hd:t.dummies = #[])(hash:Nat->Int)(h:Int){K fuel:Nat}{p:SetTable.Probe}(hf:K<fuel)(hp:p.dummy=none)(hs:∀k,k<K->t.slot (aJ t k p).j≠.empty)(he:t.slot (aJ t K p).j=.empty):
  (∃k i,k<K/\SetTable.probe.go t hash h fuel p=some (.candidate (aJ t k p).j i (aJ t (k+1) p))/\t.slot (aJ t k p).j=.live i)\/SetTable.probe.go t hash h fuel p=some (.empty (aJ t K p).j none):=by
 rcases pq hd hash h K fuel p hf hp hs with a | a
 ·exact .inl a
 ·refine .inr ?_
  rw[a]
  obtain⟨f,hf'⟩:∃f,fuel-K=f+1:=⟨fuel-K-1,by omega⟩
  rw[hf']
  unfold SetTable.probe.go
  rw[he]
  dsimp only
  rw[iq,hp]
theorem De{t:SetTable}(hd:t.dummies = #[])(hash:Nat->Int)(h:Int){K fuel i0:Nat}{p:SetTable.Probe}(hf:K<fuel)(hp:p.dummy=none)(hs:∀k,k<K->t.slot (aJ t k p).j≠.empty)(he:t.slot (aJ t K p).j=.live i0)(hh:hash i0=h):
  ∃k i,k<=K/\SetTable.probe.go t hash h fuel p=some (.candidate (aJ t k p).j i (aJ t (k+1) p))/\t.slot (aJ t k p).j=.live i:=by
 rcases pq hd hash h K fuel p hf hp hs with⟨k,i,hk,e,hl⟩ | a
 ·exact⟨k,i,by omega,e,hl⟩
 ·refine⟨K,i0,Ep _,?_,he⟩
  rw[a]
  obtain⟨f,hf'⟩:∃f,fuel-K=f+1:=⟨fuel-K-1,by omega⟩
  rw[hf']
  conv=>lhs;unfold SetTable.probe.go
  rw[he]
  dsimp only
  rw[if_pos (by rw[hh];exact beq_self_eq_true _)]
  rw[gE]
  rfl
theorem uW(t:SetTable):∀(k:Nat) (p:SetTable.Probe),k<=p.more->aJ t k p={ p with j:=p.j+k,more:=p.more-k }
 | 0,p,h=>rfl
 | k+1,p,h=>by
  show aJ t k (t.advance p)=_
  have e:t.advance p={ p with j:=p.j+1,more:=p.more-1 }:=by
   unfold SetTable.advance
   rw[if_pos (by omega)]
  rw[e,uW t k _ (by show k<=p.more-1;omega)]
  simp only[SetTable.Probe.mk.injEq,true_and,and_true]
  omega
theorem zm{m i:Nat}(h:i<=m):SetTable.runEnd m i<=m/\i<=SetTable.runEnd m i/\SetTable.runEnd m i<=i+9:=by
 unfold SetTable.runEnd
 split<;>omega
theorem nA{t:SetTable}{i p k:Nat}(h:k<=SetTable.runEnd t.mask i-i):(aJ t k (at_ t (i,p))).j=i+k:=by
 rw[uW t k _ h]
 rfl
theorem vM{owner:Array (Option Nat)}{j:Nat}(hj:j<owner.size)(h:(owner.getD j (some 0)).isNone=false):∃x,owner[j]?=some (some x):=by
 rw[Array.getD_eq_getD_getElem?,getElem?_pos owner j hj]at h
 rw[getElem?_pos owner j hj]
 cases e:owner[j]with
 | none=>rw[e]at h;cases h
 | some x=>exact⟨x,rfl⟩
theorem sD{t:SetTable}(owner:Array (Option Nat))(hz:owner.size=t.mask+1):∀(fuel i p j':Nat),i<=t.mask->SetTable.layClean.free t.mask owner fuel i p=some j' →
  ∃K,K<10*fuel/\(aJ t K (at_ t (i,p))).j=j'/\∀k,k<K->∃x,owner[(aJ t k (at_ t (i,p))).j]?=some (some x)
 | 0,i,p,j',hi,h=>by cases h
 | fuel+1,i,p,j',hi,h=>by
  obtain⟨r1,r2,r3⟩:=zm hi
  unfold SetTable.layClean.free at h
  split at h
  ·rename_i k0 hk
   cases h
   rw[List.find?_range_eq_some]at hk
   obtain⟨hk1,hk2,hk3⟩:=hk
   have hk2:=List.mem_range.mp hk2
   refine⟨k0,by omega,nA (by omega),fun k hk=>?_⟩
   rw[nA (by omega)]
   refine vM (by omega) ?_
   have:=hk3 k hk
   simpa using this
  ·rename_i hk
   rw[List.find?_range_eq_none]at hk
   have hnx:(SetTable.leap t.mask i p).1<=t.mask:=by
    show(_ % (t.mask+1))<=t.mask
    have:=Nat.mod_lt (i*5+1+p / 32) (show 0<t.mask+1 by omega)
    omega
   obtain⟨K,h1,h2,h3⟩:=sD owner hz fuel _ _ j' hnx h
   have hr:aJ t (SetTable.runEnd t.mask i-i+1) (at_ t (i,p))=at_ t (SetTable.leap t.mask i p):=(nM t (SetTable.runEnd t.mask i-i) (at_ t (i,p)) rfl).trans rfl
   refine⟨SetTable.runEnd t.mask i-i+1+K,by omega,?_,fun k hk'=>?_⟩
   ·rw[gE,hr]
    exact h2
   ·rcases Nat.lt_or_ge k (SetTable.runEnd t.mask i-i+1)with a | a
    ·rw[nA (by omega)]
     refine vM (by omega) ?_
     have:=hk k (by omega)
     simpa using this
    ·obtain⟨k',rfl⟩:∃k',k=SetTable.runEnd t.mask i-i+1+k':=⟨k-(SetTable.runEnd t.mask i-i+1),by omega⟩
     rw[gE,hr]
     exact h3 k' (by omega)
def my(m:Nat)(F:Nat->Int)(owner:Array (Option Nat)):Prop:=∀j x:Nat,owner[j]?=some (some x)->∃K,K<10*SetTable.turns m/\pm m (F x) K=j/\∀k,k<K->∃y,owner[pm m (F x) k]?=some (some y)
theorem tm{m:Nat}(hm:Mask m)(F:Nat->Int):∀(hs:List Int) (owner:Array (Option Nat)) (k:Nat),owner.size=m+1->(owner.toList.filterMap id).Perm (List.range k)->k+hs.length<=m->(∀i h,hs[i]?=some h->F (k+i)=h)->my m F owner →
  ∃owner',hs.foldl (lS m) (some (owner,k))=some (owner',k+hs.length)/\owner'.size=m+1/\(owner'.toList.filterMap id).Perm (List.range (k+hs.length))/\my m F owner'
 | [],owner,k,h1,h2,h3,h4,h5=>⟨owner,rfl,h1,h2,h5⟩
 | h::hs,owner,k,h1,h2,h3,h4,h5=>by
  rw[EA]at h3 ⊢
  have hlt:(owner.toList.filterMap id).length<owner.toList.length:=by
   rw[h2.length_eq,List.length_range,Ea,h1]
   omega
  obtain⟨j,hj⟩:=xE hlt
  rw[Array.getElem?_toList]at hj
  have hjm:j<=m:=by
   have:=(Array.getElem?_eq_some_iff.mp hj).1
   omega
  have hi:SetTable.bits h % (m+1)<=m:=by
   have:=Nat.mod_lt (SetTable.bits h) (show 0<m+1 by omega)
   omega
  obtain⟨n,hn,en⟩:=uI hm hi (sN h) hjm
  obtain⟨j',e',hj'⟩:=y4 hm owner h1 hj (SetTable.turns m) n _ _ hi (by unfold SetTable.turns;omega) en
  obtain⟨K,K1,K2,K3⟩:=sD (t:=tM m) owner h1 (SetTable.turns m) _ _ j' hi e'
  have step:lS m (some (owner,k)) h=some (owner.setIfInBounds j' (some k),k+1):=by
   unfold lS
   simp[e']
  rw[List.foldl_cons,step]
  have hp:((owner.setIfInBounds j' (some k)).toList.filterMap id).Perm (List.range (k+1)):=by
   rw[Array.toList_setIfInBounds]
   rw[←Array.getElem?_toList]at hj'
   refine(rL hj').trans ?_
   rw[List.range_succ]
   exact(List.Perm.cons k h2).trans (List.perm_append_comm (l₁:=[k]) (l₂:=List.range k))
  have hj's:j'<owner.size:=(Array.getElem?_eq_some_iff.mp hj').1
  have keep:∀i x,owner[i]?=some (some x)->(owner.setIfInBounds j' (some k))[i]?=some (some x):=fun i x e=>by
   rw[Array.getElem?_setIfInBounds,if_neg]
   ·exact e
   ·rintro rfl
    rw[hj']at e
    cases e
  have hR:my m F (owner.setIfInBounds j' (some k)):=fun i x e=>by
   rw[Array.getElem?_setIfInBounds]at e
   by_cases c:j'=i
   ·rw[if_pos c,if_pos hj's]at e
    cases e
    have eF:F k=h:=by
     have:=h4 0 h rfl
     rwa [Nat.add_zero]at this
    rw[eF]
    refine⟨K,K1,?_,fun k' hk'=>?_⟩
    ·rw[←c]
     exact K2
    ·obtain⟨y,hy⟩:=K3 k' hk'
     exact⟨y,keep _ _ hy⟩
   ·rw[if_neg c]at e
    obtain⟨K',q1,q2,q3⟩:=h5 i x e
    refine⟨K',q1,q2,fun k' hk'=>?_⟩
    obtain⟨y,hy⟩:=q3 k' hk'
    exact⟨y,keep _ _ hy⟩
  obtain⟨o',f1,f2,f3,f4⟩:=tm hm F hs (owner.setIfInBounds j' (some k)) (k+1) (by simpa using h1) hp (by omega) (fun i h' e=>by
   have:=h4 (i+1) h' e
   rwa [show k+(i+1)=k+1+i by omega]at this) hR
  exact⟨o',by rw[f1];congr 2;omega,f2,by rw[show k+(hs.length+1)=k+1+hs.length by omega];exact f3,f4⟩
theorem mi{α:Type}(es:Array α):∀(l:List Nat),(∀i∈l,i<es.size)->∀n:Nat,(l.filterMap (es[·]?))[n]?=(l[n]?).bind (es[·]?)
 | [],_,n=>by simp
 | x::l,h,n=>by
  have hx:=h x Ec
  have e:(x::l).filterMap (es[·]?)=es[x]::l.filterMap (es[·]?):=by
   rw[List.filterMap_cons]
   simp[hx]
  rw[e]
  cases n with
  | zero=>simp[hx]
  | succ n=>simpa using mi es l (fun i hi=>h i (DZ _ hi)) n
theorem vV{f:Nat->Option (Nat×Nat)}(hf:∀j x,f j=some x->x.1=j):∀(l:List Nat),(∀x∈(l.filterMap f),f x.1=some x)/\((l.filterMap f).map (·.1))=l.filter (fun j=>(f j).isSome)
 | []=>⟨fun x hx=>(by cases hx),rfl⟩
 | a::l=>by
  obtain⟨i1,i2⟩:=vV hf l
  cases e:f a with
  | none=>
   rw[List.filterMap_cons_none e,List.filter_cons_of_neg (by rw[e];simp)]
   exact⟨i1,i2⟩
  | some x=>
   rw[List.filterMap_cons_some e,List.filter_cons_of_pos (by rw[e];rfl),List.map_cons,i2,hf a x e]
   refine⟨fun y hy=>?_,rfl⟩
   rcases Ek.mp hy with rfl | hy
   ·rw[hf a y e]
    exact e
   ·exact i1 y hy
theorem xD(t:SetTable){es:Array (Int×Value)}{wanted m:Nat}(hm:Mask m)(hw:SetTable.sizeAbove wanted-1=m)(hn:es.size<=m):
  ∃t' order,t.relaid (es.map (·.1)) wanted=some (t',order)/\t'.place.size=es.size/\t'.dummies = #[]/\t'.mask=m/\order.toList.Perm (List.range es.size)/\t'.led=t.led/\t'.plain=t.plain/\TOk m t'.place ((order.filterMap (es[·]?)).map (·.1)):=by
 obtain⟨o',f1,f2,f3,f4⟩:=tm hm (fun i=>((es[i]?).map (·.1)).getD 0) (es.map (·.1)).toList (Array.replicate (m+1) none) 0 (by simp) (by simp) (by rw[Ea,Array.size_map];omega) (fun i h e=>by
   rw[Array.getElem?_toList,Array.getElem?_map]at e
   show((es[0+i]?).map (·.1)).getD 0=h
   rw[Nat.zero_add,e]
   rfl) (fun j x e=>by
   rw[Array.getElem?_replicate]at e
   split at e<;>cases e)
 rw[Ea,Nat.zero_add,Array.size_map]at f1 f3
 have hlay:SetTable.layClean m (es.map (·.1))=some o':=by
  show((es.map (·.1)).foldl (lS m) (some (Array.replicate (m+1) none,0))).map (·.1)=some o'
  rw[←Array.foldl_toList,f1]
  rfl
 have hsnd:((List.range (m+1)).filterMap fun j=>(o'.getD j none).map (j,·)).map (·.2)=o'.toList.filterMap id:=by
  rw[List.map_filterMap]
  have:o'.toList=(List.range (m+1)).map fun j=>o'.getD j none:=by
   apply List.ext_getElem
   ·rw[Ea,DW,List.length_range,f2]
   ·intro i h1 h2
    rw[Ea]at h1
    simp[h1]
  rw[this,List.filterMap_map]
  congr 1
  funext j
  show((o'.getD j none).map (j,·)).map (·.2)=o'.getD j none
  cases o'.getD j none<;>rfl
 have hrel:t.relaid (es.map (·.1)) wanted=some (({ mask:=m,place:=(((List.range (m+1)).filterMap fun j=>(o'.getD j none).map (j,·)).map (·.1)).toArray,dummies:=#[],finger:=t.finger,led:=t.led,moves:=t.movedTo m,plain:=t.plain }:SetTable),(((List.range (m+1)).filterMap fun j=>(o'.getD j none).map (j,·)).map (·.2)).toArray):=by
  unfold SetTable.relaid
  rw[hw]
  unfold SetTable.laid
  rw[hlay]
  rfl
 obtain⟨lv1,lv2⟩:=vV (f:=fun j=>(o'.getD j none).map (j,·)) (fun j x e=>by
  obtain⟨y,_,rfl⟩:=Eh.mp e
  rfl) (List.range (m+1))
 have hlen:((List.range (m+1)).filterMap fun j=>(o'.getD j none).map (j,·)).length=es.size:=by
  have:=congrArg List.length hsnd
  rwa [DW,f3.length_eq,List.length_range]at this
 have hall:∀i∈((List.range (m+1)).filterMap fun j=>(o'.getD j none).map (j,·)).map (·.2),i<es.size:=fun i hi=>by
  rw[hsnd]at hi
  exact List.mem_range.mp (f3.mem_iff.mp hi)
 refine⟨_,_,hrel,?_,rfl,rfl,?_,rfl,rfl,?_⟩
 ·show(((List.range (m+1)).filterMap fun j=>(o'.getD j none).map (j,·)).map (·.1)).toArray.size=_
  rw[Eb,DW,hlen]
 ·show(((List.range (m+1)).filterMap fun j=>(o'.getD j none).map (j,·)).map (·.2)).toArray.toList.Perm _
  rw[List.toList_toArray,hsnd]
  exact f3
 ·generalize hlv:((List.range (m+1)).filterMap fun j=>(o'.getD j none).map (j,·))=lv at lv1 lv2 hlen hall
  show TOk m (lv.map (·.1)).toArray (((lv.map (·.2)).toArray.filterMap (es[·]?)).map (·.1))
  have mem:∀j,(∃y,o'[j]?=some (some y))->j∈(lv.map (·.1)).toArray.toList:=fun j ⟨y,hy⟩=>by
   rw[List.toList_toArray,lv2,List.mem_filter]
   have hj:=(Array.getElem?_eq_some_iff.mp hy).1
   refine⟨List.mem_range.mpr (by omega),?_⟩
   rw[Array.getD_eq_getD_getElem?,hy]
   rfl
  have hes:∀n:Nat,((((lv.map (·.2)).toArray.filterMap (es[·]?)).map (·.1)))[n]?=(((lv.map (·.2))[n]?).bind (es[·]?)).map (·.1):=fun n=>by
   rw[Array.getElem?_map,←Array.getElem?_toList,Array.toList_filterMap,List.toList_toArray,mi es _ hall]
  refine⟨?_,?_,fun i j h e1 e2=>?_⟩
  ·rw[Array.size_map,←Ea,←Ea,Array.toList_filterMap,List.toList_toArray,List.toList_toArray,DW]
   have key:∀l:List Nat,(∀i∈l,i<es.size)->(l.filterMap (es[·]?)).length=l.length:=by
    intro l
    induction l with
    | nil=>intro _;rfl
    | cons x l ih=>
     intro hl
     have hx:=hl x Ec
     rw[List.filterMap_cons,getElem?_pos es x hx,EA,EA,ih fun i hi=>hl i (DZ _ hi)]
   rw[key _ hall,DW]
  ·rw[List.toList_toArray,lv2]
   exact List.Pairwise.filter _ List.pairwise_lt_range
  ·rw[hes]at e2
   rw[List.getElem?_toArray,DY]at e1
   rw[DY]at e2
   obtain⟨⟨j',x⟩,hx,rfl⟩:=Eh.mp e1
   rw[hx]at e2
   have hf:=lv1 _ (Ef hx)
   have hx':o'.getD j' none=some x:=by
    obtain⟨y,hy,ey⟩:=Eh.mp hf
    cases ey
    exact hy
   have ho:o'[j']?=some (some x):=by
    rw[Array.getD_eq_getD_getElem?]at hx'
    cases q:o'[j']? with
    | none=>rw[q]at hx';cases hx'
    | some y=>rw[q]at hx';cases hx';rfl
   obtain⟨K,q1,q2,q3⟩:=f4 j' x ho
   have eF:((es[x]?).map (·.1)).getD 0=h:=by
    have:(es[x]?).map (·.1)=some h:=e2
    rw[this]
    rfl
   dsimp only at q2 q3
   rw[eF]at q2 q3
   exact⟨K,q1,q2,fun k hk=>mem _ (q3 k hk)⟩
end Tb
namespace L2
open PySem PySem.Spec PyProof.Rows
section
variable {P:Program} {w:World} {A:Around} {E:Value->Shared->Prop} {s:Shared} {K:Type} [DecidableEq K] {knd:KeyKind P w K}
theorem nH{ks:List K}{vs:List Value}(h:ItemsAre knd ks vs):∀v∈vs,∀b,v≠.ref b:=fun v hv b e=>by
 have:=h.byValue v hv
 subst e
 cases this
theorem yd(n:Nat){v:Value}(h:∀b,v≠.ref b):ofAClassStatement n v=pure false:=by
 cases v with
 | ref b=>exact absurd rfl (h b)
 | _=>unfold ofAClassStatement;rfl
theorem qZ{ks:List K}{b:Addr}{Q:Bool->Shared->Prop}(hk:IsTupleKey knd s.heap ks b)(h:Q false s):wpAny (model P w) A (ofAClassStatement 8 (.ref b)) Q E s:=by
 have hT:=hk.typeIs
 obtain⟨o,items,n,ho,hc,hd,hi⟩:=hk
 unfold ofAClassStatement
 refine DQ (wpAny_typeOf hT ?_)
 dsimp only
 refine DQ (DR ?_)
 simp only[Bool.not_true,Bool.false_eq_true,if_false]
 refine DQ (wpAny_seqItems ho hd ?_)
 dsimp only
 refine DQ ?_
 rw[←Array.forIn_toList]
 refine wpAny_forIn_list _ (fun rest r s'=>r.1=none/\s'=s/\∀v∈rest,∀b,v≠.ref b) _ ?_ ?_ _ _ ⟨rfl,rfl,nH hi⟩
 ·rintro v rest r s' ⟨hr,rfl,hall⟩
  rw[yd _ (hall v Ec)]
  refine DQ (DR ?_)
  simp only[Bool.false_eq_true,if_false]
  exact DR ⟨rfl,rfl,fun u hu=>hall u (DZ _ hu)⟩
 ·rintro⟨r1,r2⟩ s' ⟨hr,rfl,_⟩
  simp only at hr
  subst hr
  exact DR h
theorem rZ{ks:List K}{b:Addr}{l:List Value}{Q:Bool->Shared->Prop}(hk:IsTupleKey knd s.heap ks b)(hl:∀y∈l,∃b' k',y=.ref b'/\IsTupleKey knd s.heap k' b')(h:Q false s):wpAny (model P w) A (searchCouldBeSeen (.ref b) l) Q E s:=by
 unfold searchCouldBeSeen
 refine DQ ?_
 refine wpAny_forIn_list _ (fun rest r s'=>r.1=none/\s'=s/\∀y∈rest,∃b' k',y=.ref b'/\IsTupleKey knd s.heap k' b') _ ?_ ?_ _ _ ⟨rfl,rfl,hl⟩
 ·rintro v rest r s' ⟨hr,rfl,hall⟩
  obtain⟨b',k',rfl,hk'⟩:=hall v Ec
  have next:∀y∈rest,∃b' k',y=.ref b'/\IsTupleKey knd s'.heap k' b':=fun y hy=>hall y (DZ _ hy)
  dsimp only
  split
  ·exact DR ⟨rfl,rfl,next⟩
  ·refine DQ (wpAny_eqIsQuiet_tuple hk ?_)
   simp only[Bool.not_true,Bool.false_eq_true,if_false]
   refine DQ (wpAny_eqIsQuiet_tuple hk' ?_)
   simp only[Bool.not_true,Bool.false_eq_true,if_false]
   refine DQ (qZ hk ?_)
   simp only[Bool.false_eq_true,if_false]
   refine DQ (qZ hk' ?_)
   simp only[Bool.false_eq_true,if_false]
   exact DR ⟨rfl,rfl,next⟩
 ·rintro⟨r1,r2⟩ s' ⟨hr,rfl,_⟩
  simp only at hr
  subst hr
  exact DR h
theorem sH{t:SetTable}(hm:Tb.Mask t.mask):t.gaveWay=false:=by
 unfold SetTable.gaveWay
 rcases hm with e | e | e | e | e | e<;>rw[e]<;>rfl
theorem AE{a b:Addr}{k:List K}{h:Int}{o:Obj}{es:Array (Int×Value)}{ep:Nat}{t:SetTable}(hu:A.units<cLine)(hk:IsTupleKey knd s.heap k b)(ho:s.heap.get? a=some o)(hd:o.data=.set es ep t)(hf:t.fits es.size=true)(hm:Tb.Mask t.mask)(hdm:t.dummies = #[])
  (hall:∀e∈es.toList,∃b' k',e.2=.ref b'/\IsTupleKey knd s.heap k' b'/\k'≠k) {Q:SetFound->Shared->Prop} :
  ∀(K fuel:Nat) (stand:Option SetTable.Probe),K<fuel->K<10*SetTable.turns t.mask->(stand.getD (t.probeStart h)).dummy=none->(∀k',k'<K->t.slot (Tb.aJ t k' (stand.getD (t.probeStart h))).j≠.empty)->t.slot (Tb.aJ t K (stand.getD (t.probeStart h))).j=.empty →
   Q (.free (Tb.aJ t K (stand.getD (t.probeStart h))).j false) s->wpAny (model P w) A (setSearchFrom a (.ref b) h true fuel stand) Q E s:=by
 intro K
 induction K using Nat.strongRecOn with
 | ind K ih=>
  intro fuel stand hfu hK hdu hne hs hQ
  obtain⟨f,rfl⟩:∃f,fuel=f+1:=⟨fuel-1,by omega⟩
  unfold setSearchFrom
  refine DQ (wpAny_setState_of ho hd hf ?_)
  dsimp only
  have hg:=sH hm
  have hsz:t.place.size=es.size:=by
   simp only[SetTable.fits,EJ,beq_iff_eq]at hf
   exact hf.1
  have hsm:t.sameMemory t.moves t.mask=some true:=by
   unfold SetTable.sameMemory
   rw[if_pos (beq_self_eq_true _)]
  rw[hg]
  simp only[Bool.false_eq_true,if_false]
  generalize hr:t.probe _ h (stand.getD (t.probeStart h))=r
  obtain⟨g,hr⟩:∃g,SetTable.probe.go t g h (10*SetTable.turns t.mask) (stand.getD (t.probeStart h))=r:=⟨_,hr⟩
  rcases Tb.Bh hdm g h hK hdu hne hs with⟨k',i,hk',e,hl⟩ | e
  ·rw[e]at hr
   subst hr
   have hpl:=Tb.kI hl
   have hi:i<es.size:=by
    rw[←hsz]
    exact(Array.getElem?_eq_some_iff.mp hpl).1
   have hmem:es[i]∈es.toList:=by simp
   obtain⟨b',k2,hy,hk2,hne2⟩:=hall _ hmem
   have hes:es[i]?=some (es[i].1,.ref b'):=by
    rw[Array.getElem?_eq_getElem hi,←hy]
   have hst:∀y∈((es.filter fun x=>x.1 == h).toList.map fun x=>x.2),∃b' k',y=Value.ref b'/\IsTupleKey knd s.heap k' b':=fun y hy=>by
    obtain⟨e0,he0,rfl⟩:=List.mem_map.mp hy
    have he1:e0∈es.toList:=by
     have:=Array.mem_toList_iff.mp he0
     exact Array.mem_toList_iff.mpr (Array.mem_filter.mp this).1
    obtain⟨b3,k3,h1,h2,_⟩:=hall e0 he1
    exact⟨b3,k3,h1,h2⟩
   have eK:∀x,Tb.aJ t (k'+1+x) (stand.getD (t.probeStart h))=Tb.aJ t x (Tb.aJ t (k'+1) (stand.getD (t.probeStart h))):=fun x=>Tb.gE t _ _ _
   have again:wpAny (model P w) A (setSearchFrom a (.ref b) h true f (some (Tb.aJ t (k'+1) (stand.getD (t.probeStart h))))) Q E s:=by
    refine ih (K-(k'+1)) (by omega) f _ (by omega) (by omega) ?_ (fun x hx=>?_) ?_ ?_
    ·show(Tb.aJ t (k'+1) _).dummy=none
     rw[Tb.iq]
     exact hdu
    ·show t.slot (Tb.aJ t x (Tb.aJ t (k'+1) _)).j≠_
     rw[←eK]
     exact hne _ (by omega)
    ·show t.slot (Tb.aJ t (K-(k'+1)) (Tb.aJ t (k'+1) _)).j=_
     rw[←eK,show k'+1+(K-(k'+1))=K by omega]
     exact hs
    ·show Q (.free (Tb.aJ t (K-(k'+1)) (Tb.aJ t (k'+1) _)).j false) s
     rw[←eK,show k'+1+(K-(k'+1))=K by omega]
     exact hQ
   have same:isSame (Value.ref b') (Value.ref b')=pure true:=by
    unfold isSame
    simp
   dsimp only
   cases hled:t.led
   ·simp only[Bool.not_false,if_true]
    refine DQ (rZ hk hst ?_)
    simp only[Bool.false_eq_true,if_false]
    rw[hes]
    dsimp only
    refine DQ (wpAny_holding (wpAny_eqBool_tuple hu hk2 hk ?_))
    rw[decide_eq_false hne2]
    refine DQ (wpAny_setState_of ho hd hf ?_)
    dsimp only
    simp only[Bool.and_false,Bool.false_eq_true,if_false,hsm,if_true,hl,hes,same]
    exact DQ (DR (DQ (DR again)))
   ·simp only[Bool.not_true,Bool.false_eq_true,if_false]
    rw[hes]
    dsimp only
    refine DQ (wpAny_holding (wpAny_eqBool_tuple hu hk2 hk ?_))
    rw[decide_eq_false hne2]
    refine DQ (wpAny_setState_of ho hd hf ?_)
    dsimp only
    simp only[Bool.and_false,Bool.false_eq_true,if_false,hsm,if_true,hl,hes,same]
    exact DQ (DR (DQ (DR again)))
  ·rw[e]at hr
   subst hr
   exact DR hQ
theorem Bx{a b:Addr}{k:List K}{h:Int}{o:Obj}{es:Array (Int×Value)}{ep i0:Nat}{t:SetTable}(hu:A.units<cLine)(hk:IsTupleKey knd s.heap k b)(ho:s.heap.get? a=some o)(hd:o.data=.set es ep t)(hf:t.fits es.size=true)(hm:Tb.Mask t.mask)(hdm:t.dummies = #[])
  (hall:∀e∈es.toList,∃b' k',e.2=.ref b'/\IsTupleKey knd s.heap k' b') (hi0:∃b0,es[i0]?=some (h,.ref b0)/\IsTupleKey knd s.heap k b0) {Q:SetFound->Shared->Prop} (hQ:Q (.there none) s) :
  ∀(K fuel:Nat) (stand:Option SetTable.Probe),K<fuel->K<10*SetTable.turns t.mask->(stand.getD (t.probeStart h)).dummy=none->(∀k',k'<K->t.slot (Tb.aJ t k' (stand.getD (t.probeStart h))).j≠.empty)->t.slot (Tb.aJ t K (stand.getD (t.probeStart h))).j=.live i0 →
   wpAny (model P w) A (setSearchFrom a (.ref b) h true fuel stand) Q E s:=by
 obtain⟨b0,hb0,hkb0⟩:=hi0
 intro K
 induction K using Nat.strongRecOn with
 | ind K ih=>
  intro fuel stand hfu hK hdu hne hs
  obtain⟨f,rfl⟩:∃f,fuel=f+1:=⟨fuel-1,by omega⟩
  unfold setSearchFrom
  refine DQ (wpAny_setState_of ho hd hf ?_)
  dsimp only
  have hg:=sH hm
  have hsz:t.place.size=es.size:=by
   simp only[SetTable.fits,EJ,beq_iff_eq]at hf
   exact hf.1
  have hsm:t.sameMemory t.moves t.mask=some true:=by
   unfold SetTable.sameMemory
   rw[if_pos (beq_self_eq_true _)]
  rw[hg]
  simp only[Bool.false_eq_true,if_false]
  generalize hr:t.probe _ h (stand.getD (t.probeStart h))=r
  obtain⟨g,hgi,hr⟩:∃g:Nat->Int,g i0=h/\SetTable.probe.go t g h (10*SetTable.turns t.mask) (stand.getD (t.probeStart h))=r:=⟨_,by show((es[i0]?).map (·.1)).getD 0=h;rw[hb0];rfl,hr⟩
  obtain⟨k',i,hk',e,hl⟩:=Tb.De hdm g h hK hdu hne hs hgi
  rw[e]at hr
  subst hr
  have hpl:=Tb.kI hl
  have hi:i<es.size:=by
   rw[←hsz]
   exact(Array.getElem?_eq_some_iff.mp hpl).1
  have hmem:es[i]∈es.toList:=by simp
  obtain⟨b',k2,hy,hk2⟩:=hall _ hmem
  have hes:es[i]?=some (es[i].1,.ref b'):=by
   rw[Array.getElem?_eq_getElem hi,←hy]
  have hst:∀y∈((es.filter fun x=>x.1 == h).toList.map fun x=>x.2),∃b' k',y=Value.ref b'/\IsTupleKey knd s.heap k' b':=fun y hy=>by
   obtain⟨e0,he0,rfl⟩:=List.mem_map.mp hy
   have he1:e0∈es.toList:=by
    have:=Array.mem_toList_iff.mp he0
    exact Array.mem_toList_iff.mpr (Array.mem_filter.mp this).1
   obtain⟨b3,k3,h1,h2⟩:=hall e0 he1
   exact⟨b3,k3,h1,h2⟩
  have eK:∀x,Tb.aJ t (k'+1+x) (stand.getD (t.probeStart h))=Tb.aJ t x (Tb.aJ t (k'+1) (stand.getD (t.probeStart h))):=fun x=>Tb.gE t _ _ _
  have again:k2≠k->wpAny (model P w) A (setSearchFrom a (.ref b) h true f (some (Tb.aJ t (k'+1) (stand.getD (t.probeStart h))))) Q E s:=fun hne2=>by
   have hlt:k'<K:=by
    rcases Nat.lt_or_ge k' K with q | q
    ·exact q
    ·have:k'=K:=by omega
     subst this
     rw[hs]at hl
     cases hl
     rw[hb0]at hes
     cases hes
     obtain⟨o1,i1,n1,z1,_,z2,z3⟩:=hk2
     obtain⟨o2,i2,n2,y1,_,y2,y3⟩:=hkb0
     rw[z1]at y1
     cases y1
     rw[z2]at y2
     cases y2
     exact absurd (z3.inj y3) hne2
   refine ih (K-(k'+1)) (by omega) f _ (by omega) (by omega) ?_ (fun x hx=>?_) ?_
   ·show(Tb.aJ t (k'+1) _).dummy=none
    rw[Tb.iq]
    exact hdu
   ·show t.slot (Tb.aJ t x (Tb.aJ t (k'+1) _)).j≠_
    rw[←eK]
    exact hne _ (by omega)
   ·show t.slot (Tb.aJ t (K-(k'+1)) (Tb.aJ t (k'+1) _)).j=_
    rw[←eK,show k'+1+(K-(k'+1))=K by omega]
    exact hs
  have same:isSame (Value.ref b') (Value.ref b')=pure true:=by
   unfold isSame
   simp
  have fin:wpAny (model P w) A (do
    let equal ←holding [Value.ref b'] (eqBool (.ref b') (.ref b))
    let (es',_,t') ←setState a
    if(true && equal)=true then return SetFound.there none
    let some same:=t'.sameMemory t.moves t.mask | unsupported "set.changed-during-lookup:is-the-new-block-at-the-old-address"
    let still ←match (if same=true then t'.slot (Tb.aJ t k' (stand.getD (t.probeStart h))).j else .empty)with
     | .live i'=>match es'[i']? with
      | some (_,y')=>do pure (if ←isSame y' (.ref b')then some i' else none)
      | none=>pure none
     | _=>pure none
    match still with
    | none=>rule "set.search.anew";setSearchFrom a (.ref b) h true f none
    | some i'=>if equal=true then return .there (some i')else setSearchFrom a (.ref b) h true f (some (Tb.aJ t (k'+1) (stand.getD (t.probeStart h))))) Q E s:=by
   refine DQ (wpAny_holding (wpAny_eqBool_tuple hu hk2 hk ?_))
   refine DQ (wpAny_setState_of ho hd hf ?_)
   dsimp only
   by_cases hq:k2=k
   ·rw[decide_eq_true hq]
    simp only[Bool.and_self,if_true]
    exact DR hQ
   ·rw[decide_eq_false hq]
    simp only[Bool.and_false,Bool.false_eq_true,if_false,hsm,if_true,hl,hes,same]
    exact DQ (DR (DQ (DR (again hq))))
  dsimp only
  cases hled:t.led
  ·simp only[Bool.not_false,if_true]
   refine DQ (rZ hk hst ?_)
   simp only[Bool.false_eq_true,if_false]
   rw[hes]
   exact fin
  ·simp only[Bool.not_true,Bool.false_eq_true,if_false]
   rw[hes]
   exact fin
theorem iL{h h':Heap}{a b:Addr}{k:List K}{o:Obj}{es:Array (Int×Value)}{ep:Nat}{t:SetTable}(hk:IsTupleKey knd h k b)(ho:h.get? a=some o)(hd:o.data=.set es ep t)(hs:Heap.SameBut a h h'):IsTupleKey knd h' k b:=by
 obtain⟨o',items,n,ho',hc,hd',hi⟩:=hk
 have hne:b≠a:=by
  rintro rfl
  rw[ho]at ho'
  cases ho'
  rw[hd]at hd'
  cases hd'
 exact⟨o',items,n,(hs.2 b hne).trans ho',hc,hd',hi⟩
theorem qC(n:Nat){v:Value}(h:∀b,v≠.ref b):∃c,hashByValue n v=pure c:=by
 cases v with
 | ref b=>exact absurd rfl (h b)
 | _=>exact⟨_,by cases n<;>unfold hashByValue<;>rfl⟩
theorem yc{ks:List K}{b:Addr}{Q:Bool->Shared->Prop}(hk:IsTupleKey knd s.heap ks b)(h:∀c,Q c s):wpAny (model P w) A (hashByValue 8 (.ref b)) Q E s:=by
 have hT:=hk.typeIs
 obtain⟨o,items,n,ho,hc,hd,hi⟩:=hk
 unfold hashByValue
 refine DQ (wpAny_specialOf hT F.slot_tuple_hash.lookup ?_)
 dsimp only
 refine DQ (wpAny_seqItems ho hd ?_)
 dsimp only[Option.getD_some]
 refine DQ ?_
 rw[←Array.forIn_toList]
 refine wpAny_forIn_list _ (fun rest r s'=>(r.1=none\/∃c,r.1=some c)/\s'=s/\∀v∈rest,∀b,v≠.ref b) _ ?_ ?_ _ _ ⟨.inl rfl,rfl,nH hi⟩
 ·rintro v rest r s' ⟨hr,rfl,hall⟩
  obtain⟨c,hc'⟩:=qC 7 (hall v Ec)
  rw[hc']
  refine DQ (DR ?_)
  cases c
  ·show wpAny _ _ (pure (ForInStep.done (some false,()))) _ _ _
   exact DR (DR (h false))
  ·simp only[Bool.not_true,Bool.false_eq_true,if_false]
   exact DR ⟨.inl rfl,rfl,fun u hu=>hall u (DZ _ hu)⟩
 ·rintro⟨r1,r2⟩ s' ⟨hr,rfl,_⟩
  simp only at hr
  rcases hr with rfl | ⟨c,rfl⟩
  ·exact DR (h true)
  ·exact DR (h c)
theorem Dl{α:Type}{es:Array α}{order:Array Nat}(h:order.toList.Perm (List.range es.size)):(order.filterMap (es[·]?)).size=es.size/\∀e∈(order.filterMap (es[·]?)).toList,e∈es.toList:=by
 have key:∀l:List Nat,(∀i∈l,i<es.size)->(l.filterMap (es[·]?)).length=l.length/\∀e∈l.filterMap (es[·]?),e∈es.toList:=by
  intro l
  induction l with
  | nil=>intro _;exact⟨rfl,fun e he=>by cases he⟩
  | cons x l ih=>
   intro hl
   obtain⟨i1,i2⟩:=ih fun i hi=>hl i (DZ _ hi)
   have hx:=hl x Ec
   have e:(x::l).filterMap (es[·]?)=es[x]::l.filterMap (es[·]?):=by
    rw[List.filterMap_cons]
    simp[hx]
   rw[e]
   refine⟨by rw[EA,EA,i1],fun y hy=>?_⟩
   rcases Ek.mp hy with rfl | hy
   ·simp
   ·exact i2 y hy
 have hlt:∀i∈order.toList,i<es.size:=fun i hi=>List.mem_range.mp (h.mem_iff.mp hi)
 obtain⟨k1,k2⟩:=key order.toList hlt
 rw[Array.toList_filterMap]
 refine⟨?_,k2⟩
 rw[←Ea,Array.toList_filterMap,k1,h.length_eq,List.length_range]
theorem DN{α:Type}{es:Array α}{order:Array Nat}(h:order.toList.Perm (List.range es.size)):(order.filterMap (es[·]?)).toList.Perm es.toList:=by
 rw[Array.toList_filterMap]
 have e:(List.range es.size).filterMap (es[·]?)=es.toList:=by
  apply List.ext_getElem?
  intro n
  have e0:es.toList[n]?=es[n]?:=Array.getElem?_toList
  rw[e0,Tb.mi es _ (fun i hi=>List.mem_range.mp hi)]
  by_cases hn:n<es.size
  ·rw[List.getElem?_range hn]
   rfl
  ·have e1:(List.range es.size)[n]?=none:=List.getElem?_eq_none (by rw[List.length_range];omega)
   rw[e1,Array.getElem?_eq_none (by omega)]
   rfl
 rw[←e]
 exact h.filterMap _
end
section
variable {P:Program} {w:World} {A:Around} {E:Value->Shared->Prop} {s:Shared}
theorem items_str{ks:List Key}{vs:List Value}(h:ItemsAre (aK P w) ks vs){x:Str}(hx:Sum.inr x∈ks):∃t,Value.str x t∈vs:=by
 induction h with
 | nil=>cases hx
 | @cons k v ks vs hk _ ih=>
  rcases Ek.mp hx with rfl | hx
  ·rcases eD (show fY (.inr x) v=true from hk)with⟨i,t,e,_⟩ | ⟨y,t,e,rfl⟩
   ·cases e
   ·cases e
    exact⟨t,Ec⟩
  ·obtain⟨t,ht⟩:=ih hx
   exact⟨t,DZ _ ht⟩
theorem Ab{ks:List Key}{b:Addr}{x:Str}{Q:Bool->Shared->Prop}(hk:IsTupleKey (aK P w) s.heap ks b)(hx:Sum.inr x∈ks)(h:Q false s):wpAny (model P w) A (hashByValue 8 (.ref b)) Q E s:=by
 have hT:=hk.typeIs
 obtain⟨o,items,n,ho,hc,hd,hi⟩:=hk
 unfold hashByValue
 refine DQ (wpAny_specialOf hT F.slot_tuple_hash.lookup ?_)
 dsimp only
 refine DQ (wpAny_seqItems ho hd ?_)
 dsimp only[Option.getD_some]
 refine DQ ?_
 rw[←Array.forIn_toList]
 refine wpAny_forIn_list _ (fun rest r s'=>r.1=none/\s'=s/\(∀v∈rest,∀b,v≠.ref b)/\∃t,Value.str x t∈rest) _ ?_ ?_ _ _ ⟨rfl,rfl,nH hi,items_str hi hx⟩
 ·rintro v rest r s' ⟨hr,rfl,hall,t,ht⟩
  obtain⟨c,hc'⟩:=qC 7 (hall v Ec)
  rw[hc']
  refine DQ (DR ?_)
  cases c
  ·show wpAny _ _ (pure (ForInStep.done (some false,()))) _ _ _
   exact DR (DR h)
  ·simp only[Bool.not_true,Bool.false_eq_true,if_false]
   refine DR ⟨rfl,rfl,fun u hu=>hall u (DZ _ hu),t,?_⟩
   rcases Ek.mp ht with rfl | ht
   ·exact absurd hc' (fun z=>by
     have:hashByValue 7 (Value.str x t)=pure false:=by unfold hashByValue;rfl
     rw[this]at z
     injection z with z
     cases z)
   ·exact ht
 ·rintro⟨r1,r2⟩ s' ⟨hr,rfl,_,t,ht⟩
  cases ht
def dG(P:Program)(w:World)(B:Addr->List Key->Prop)(h:Heap)(a:Addr)(ks:List (List Key)):Prop:=ks.Nodup ∧
 ∃o es ep t,h.get? a=some o/\o.ExactSet/\o.data=.set es ep t/\t.dummies = #[]/\Tb.Mask t.mask/\es.size*5<t.mask*3/\es.size=ks.length/\Tb.TOk t.mask t.place (es.map (·.1)) ∧
  (∀e∈es.toList,∃b k,e=(tupleKeyHash (aK P w) k,.ref b)/\k∈ks/\IsTupleKey (aK P w) h k b/\B b k)/\(∀k∈ks,∃b,(tupleKeyHash (aK P w) k,.ref b)∈es.toList/\IsTupleKey (aK P w) h k b)/\((∀k∈ks,∃x,Sum.inr x∈k)->ks=[]\/t.plain=false)
theorem AH{B:Addr->List Key->Prop}{a:Addr}{o:Obj}{es es1:Array (Int×Value)}{ep n:Nat}{t t1:SetTable}{ks1:List (List Key)}{Q:Bool->Shared->Prop}(hnd:ks1.Nodup)(ho:s.heap.get? a=some o)(hex:o.ExactSet)(hd:o.data=.set es ep t)(hs1:es1.size=n+1)(hdm1:t1.dummies = #[])
  (hm1:Tb.Mask t1.mask) (hfull:n*5<t1.mask*3) (hn:n<1400) (hlen:ks1.length=n+1) (hT1:Tb.TOk t1.mask t1.place (es1.map (·.1))) (hall1:∀e∈es1.toList,∃b k,e=(tupleKeyHash (aK P w) k,.ref b)/\k∈ks1/\IsTupleKey (aK P w) s.heap k b/\B b k)
  (hin1:∀k∈ks1,∃b,(tupleKeyHash (aK P w) k,.ref b)∈es1.toList/\IsTupleKey (aK P w) s.heap k b) (hpl1:(∀k∈ks1,∃x,Sum.inr x∈k)->t1.plain=false)
  (h:∀h',Heap.SameBut a s.heap h'->dG P w B h' a ks1->Q true { s with heap:=h' }) :
  wpAny (model P w) A (do
   storeSet a es1 t1
   if(!false && t1.tooFull)=true then do
    setRelay a (SetTable.grown (n+1))
    pure true
   else pure true) Q E s:=by
 have hline:n+1<=sizeLine:=EE (show n+1<=10000 by omega) (by decide)
 have hp1:t1.place.size=es1.size:=by rw[hT1.len,Array.size_map]
 refine DQ (wpAny_storeSet_of ho hd ?_ (by omega))
 have ho1:(s.heap.update a (Obj.putSet es1 t1)).get? a=some { o with data:=.set es1 (ep+1) t1 }:=by
  have:=Heap.get?_update_self (Obj.putSet es1 t1) ho (by rw[putSet_of es1 t1 hd];rfl)
  rw[putSet_of es1 t1 hd]at this
  exact this
 have hsb1:=Heap.SameBut.update s.heap a (Obj.putSet es1 t1)
 generalize s.heap.update a (Obj.putSet es1 t1)=h1 at ho1 hsb1
 have hall2:∀e∈es1.toList,∃b k,e=(tupleKeyHash (aK P w) k,.ref b)/\k∈ks1/\IsTupleKey (aK P w) h1 k b/\B b k:=fun e he=>by
  obtain⟨b,k,z1,z2,z3,z4⟩:=hall1 e he
  exact⟨b,k,z1,z2,iL z3 ho hd hsb1,z4⟩
 have hin2:∀k∈ks1,∃b,(tupleKeyHash (aK P w) k,.ref b)∈es1.toList/\IsTupleKey (aK P w) h1 k b:=fun k hk=>by
  obtain⟨b,z1,z2⟩:=hin1 k hk
  exact⟨b,z1,iL z2 ho hd hsb1⟩
 have hfill:t1.fill=n+1:=by
  unfold SetTable.fill
  rw[hdm1,hp1,hs1]
  rfl
 by_cases hq:t1.tooFull=true
 ·rw[hq]
  simp only[Bool.not_false,Bool.and_self,if_true]
  have hq':t1.mask*3<=(n+1)*5:=by
   unfold SetTable.tooFull at hq
   rw[hfill]at hq
   simpa using hq
  obtain⟨m,hm,hw,hmn,hlt⟩:∃m,Tb.Mask m/\SetTable.sizeAbove (SetTable.grown (n+1))-1=m/\n+1<=m/\(n+1)*5<m*3/\SetTable.sizeAbove (SetTable.grown (n+1))<=sizeLine:=by
   have hg:SetTable.grown (n+1)=(n+1)*4:=by
    unfold SetTable.grown
    rw[if_neg (by omega)]
   rw[hg]
   rcases hm1 with e | e | e | e | e | e<;>rw[e]at hfull hq'
   ·obtain rfl:n=4:=by omega
    exact⟨31,.inr (.inl rfl),Tb.xA,by omega,by omega,by decide +kernel⟩
   ·obtain rfl:n=18:=by omega
    exact⟨127,.inr (.inr (.inl rfl)),Tb.Ar,by omega,by omega,by decide +kernel⟩
   ·obtain rfl:n=76:=by omega
    exact⟨511,.inr (.inr (.inr (.inl rfl))),Tb.BG,by omega,by omega,by decide +kernel⟩
   ·obtain rfl:n=306:=by omega
    exact⟨2047,.inr (.inr (.inr (.inr (.inl rfl)))),Tb.CC,by omega,by omega,by decide +kernel⟩
   ·obtain rfl:n=1228:=by omega
    exact⟨8191,.inr (.inr (.inr (.inr (.inr rfl)))),Tb.AD,by omega,by omega,by decide +kernel⟩
   ·omega
  have hfit1:t1.fits es1.size=true:=by
   simp only[SetTable.fits,EJ,beq_iff_eq,decide_eq_true_eq]
   refine⟨hp1,?_⟩
   rw[hfill]
   rcases hm1 with e | e | e | e | e | e<;>omega
  obtain⟨t2,order,hrel,hp2,hd2,hm2,hperm,_,hpl2,hT2⟩:=Tb.xD t1 (es:=es1) hm hw (by omega)
  obtain⟨r1,r2⟩:=Dl hperm
  have r3:=DN hperm
  refine DQ ?_
  unfold setRelay
  refine DQ (wpAny_setState_of (s:={ s with heap:=h1 }) ho1 rfl hfit1 ?_)
  dsimp only
  rw[if_neg (Nat.not_lt.mpr hlt.2),hrel]
  refine DQ ?_
  show wpAny _ _ (do
   if(order.filterMap (es1[·]?)).size != es1.size then unsupported "internal:set-table-lost-an-element"
   pure (order.filterMap (es1[·]?),t2)) _ _ _
  rw[r1]
  simp only[bne_self_eq_false,Bool.false_eq_true,if_false]
  refine DR ?_
  dsimp only
  refine wpAny_storeSet_of (s:={ s with heap:=h1 }) ho1 rfl ?_ (by rw[r1];omega)
  have ho2:(h1.update a (Obj.putSet (order.filterMap (es1[·]?)) t2)).get? a=some { o with data:=.set (order.filterMap (es1[·]?)) (ep+1+1) t2 }:=by
   have:=Heap.get?_update_self (Obj.putSet (order.filterMap (es1[·]?)) t2) ho1 (by rw[putSet_of _ _ (o:={ o with data:=.set es1 (ep+1) t1 }) rfl];rfl)
   rw[putSet_of _ _ (o:={ o with data:=.set es1 (ep+1) t1 }) rfl]at this
   exact this
  have hsb2:=Heap.SameBut.update h1 a (Obj.putSet (order.filterMap (es1[·]?)) t2)
  refine DR (h _ (hsb1.trans hsb2) ⟨hnd,_,_,_,t2,ho2,hex,rfl,hd2,by rw[hm2];exact hm,by rw[r1,hm2,hs1];exact hlt.1,by rw[r1,hs1,hlen],by rw[hm2];exact hT2,fun e he=>?_,fun k hk=>?_,fun hx=>.inr (hpl2.trans (hpl1 hx))⟩)
  ·obtain⟨b,k,z1,z2,z3,z4⟩:=hall2 e (r2 e he)
   exact⟨b,k,z1,z2,iL z3 ho1 rfl hsb2,z4⟩
  ·obtain⟨b,z1,z2⟩:=hin2 k hk
   exact⟨b,r3.mem_iff.mpr z1,iL z2 ho1 rfl hsb2⟩
 ·have hq0:t1.tooFull=false:=by simpa using hq
  rw[hq0]
  simp only[Bool.and_false,Bool.false_eq_true,if_false]
  have hq':(n+1)*5<t1.mask*3:=by
   unfold SetTable.tooFull at hq0
   rw[hfill]at hq0
   simpa using hq0
  exact DR (h h1 hsb1 ⟨hnd,_,es1,_,t1,ho1,hex,rfl,hdm1,hm1,by rw[hs1];exact hq',by rw[hs1,hlen],hT1,hall2,hin2,fun hx=>.inr (hpl1 hx)⟩)
theorem w9{α:Type}{xs:Array α}{p:Nat}{x e:α}(h:e=x\/e∈xs.toList):e∈(SetTable.insertAt xs p x).toList:=by
 rw[Tb.gQ]
 rcases h with rfl | h
 ·exact List.mem_append_right _ Ec
 ·rw[←List.take_append_drop p xs.toList]at h
  rcases Ew.mp h with a | a
  ·exact List.mem_append_left _ a
  ·exact List.mem_append_right _ (DZ _ a)
theorem ins_map{α β:Type}(f:α->β)(xs:Array α)(p:Nat)(x:α):(SetTable.insertAt xs p x).map f=SetTable.insertAt (xs.map f) p (f x):=by
 apply Array.toList_inj.mp
 rw[Array.toList_map,Tb.gQ,Tb.gQ,Array.toList_map]
 simp
theorem AW{B:Addr->List Key->Prop}{a b:Addr}{k:List Key}{ks:List (List Key)}{Q:Bool->Shared->Prop}(hu:A.units<cLine)(hk:IsTupleKey (aK P w) s.heap k b)(hB:B b k)(hS:dG P w B s.heap a ks)(hsz:ks.length<1400)
  (h:∀h' r ks',Heap.SameBut a s.heap h'->dG P w B h' a ks'->ks'.length<=ks.length+1->(∀x,x∈ks'↔x∈ks\/x=k)->Q r { s with heap:=h' }):wpAny (model P w) A (setAddHashed a (.ref b) (tupleKeyHash (aK P w) k)) Q E s:=by
 obtain⟨hnd,o,es,ep,t,ho,hex,hd,hdm,hm,hfull,hlen,hT,hall,hin,hpl⟩:=id hS
 have hp:t.place.size=es.size:=by rw[hT.len,Array.size_map]
 have hle:es.size<=t.mask:=by omega
 have hf:t.fits es.size=true:=by
  simp only[SetTable.fits,EJ,beq_iff_eq,decide_eq_true_eq]
  refine⟨hp,?_⟩
  unfold SetTable.fill
  rw[hdm,hp]
  simpa using hle
 have hturn:10*SetTable.turns t.mask<100000:=by
  unfold SetTable.turns
  rcases hm with e | e | e | e | e | e<;>rw[e]<;>decide
 have hst:∀x,(Tb.aJ t x (Option.getD none (t.probeStart (tupleKeyHash (aK P w) k)))).j=Tb.pm t.mask (tupleKeyHash (aK P w) k) x:=fun x=>Tb.sZ t _ x
 unfold setAddHashed setAddHashedIn
 refine wpAny_holding (DQ (wpAny_setState_of ho hd hf ?_))
 dsimp only
 have hsc:byScan (.ref b) es=false:=rfl
 rw[hsc]
 simp only[Bool.false_eq_true,if_false]
 unfold setSearch
 rcases Classical.em (k∈ks)with hold | hold
 ·obtain⟨b0,hb0,hkb0⟩:=hin k hold
  obtain⟨i0,hi0⟩:=List.getElem?_of_mem hb0
  rw[Array.getElem?_toList]at hi0
  have hi0s:=(Array.getElem?_eq_some_iff.mp hi0).1
  obtain⟨j0,hj0⟩:∃j0,t.place[i0]?=some j0:=⟨_,getElem?_pos t.place i0 (by omega)⟩
  obtain⟨K,q1,q2,q3⟩:=hT.rch i0 j0 (tupleKeyHash (aK P w) k) hj0 (by rw[Array.getElem?_map,hi0];rfl)
  refine DQ (Bx hu hk ho hd hf hm hdm (fun e he=>?_) ⟨b0,hi0,hkb0⟩ ?_ K 100000 none (by omega) q1 rfl (fun x hx=>?_) ?_)
  ·obtain⟨b',k',e1,_,e3,_⟩:=hall e he
   exact⟨b',k',by rw[e1],e3⟩
  ·dsimp only
   refine DR ?_
   have e:s={ s with heap:=s.heap }:=by cases s;rfl
   rw[e]
   exact h s.heap _ ks (Heap.SameBut.refl a s.heap) hS (Nat.le_succ _) fun x=>⟨.inl,fun z=>z.elim id fun e=>e ▸ hold⟩
  ·rw[hst]
   obtain⟨i,e,_⟩:=Tb.sf hT.inc (q3 x hx)
   rw[e]
   intro z
   cases z
  ·rw[hst,q2]
   exact Tb.slot_mem hT.inc hj0
 ·obtain⟨K,q1,q2,q3⟩:=Tb.zy hdm hm (by rw[hp];exact hle) (tupleKeyHash (aK P w) k)
  have hall':∀e∈es.toList,∃b' k',e.2=.ref b'/\IsTupleKey (aK P w) s.heap k' b'/\k'≠k:=fun e he=>by
   obtain⟨b',k',h1,h2,h3,_⟩:=hall e he
   exact⟨b',k',by rw[h1],h3,fun z=>hold (z ▸ h2)⟩
  refine DQ (AE hu hk ho hd hf hm hdm hall' K 100000 none (by omega) q1 rfl (fun x hx=>by rw[hst];exact q3 x hx) (by rw[hst];exact q2) ?_)
  rw[hst]
  dsimp only
  refine DQ (wpAny_setState_of ho hd hf ?_)
  dsimp only
  have hnm:=Tb.xG hT.inc q2
  have hTp:=hT.put q1 hnm (fun x hx=>Tb.xH hdm (q3 x hx))
  have hput:(t.put (Tb.pm t.mask (tupleKeyHash (aK P w) k) K)).1.dummies = #[]:=by
   show(if SetTable.has t.dummies _=true then _ else t.dummies) = #[]
   rw[hdm,Tb.vF]
   rfl
  generalize Tb.pm t.mask (tupleKeyHash (aK P w) k) K=j at hTp hput
  have hT1:Tb.TOk t.mask (t.put j).1.place ((SetTable.insertAt es (t.put j).2 (tupleKeyHash (aK P w) k,Value.ref b)).map (·.1)):=by
   rw[ins_map]
   exact hTp
  have hins:∀e∈(SetTable.insertAt es (t.put j).2 (tupleKeyHash (aK P w) k,Value.ref b)).toList,∃b' k',e=(tupleKeyHash (aK P w) k',.ref b')/\k'∈k::ks/\IsTupleKey (aK P w) s.heap k' b'/\B b' k':=fun e he=>by
   rcases Tb.Dr he with rfl | he
   ·exact⟨b,k,rfl,Ec,hk,hB⟩
   ·obtain⟨b',k',z1,z2,z3,z4⟩:=hall e he
    exact⟨b',k',z1,DZ _ z2,z3,z4⟩
  have hin':∀k'∈k::ks,∃b',(tupleKeyHash (aK P w) k',Value.ref b')∈(SetTable.insertAt es (t.put j).2 (tupleKeyHash (aK P w) k,Value.ref b)).toList/\IsTupleKey (aK P w) s.heap k' b':=fun k' hk'=>by
   rcases Ek.mp hk' with rfl | hk'
   ·exact⟨b,w9 (.inl rfl),hk⟩
   ·obtain⟨b',z1,z2⟩:=hin k' hk'
    exact⟨b',w9 (.inr z1),z2⟩
  have hnd':(k::ks).Nodup:=List.nodup_cons.mpr ⟨hold,hnd⟩
  have h':∀h',Heap.SameBut a s.heap h'->dG P w B h' a (k::ks)->Q true { s with heap:=h' }:=fun h2 sb hS'=>h h2 true _ sb hS' (Ep _) fun x=>by rw[Ek];exact⟨fun z=>z.symm,fun z=>z.symm⟩
  have fin:∀c:Bool,((∀k'∈k::ks,∃x,Sum.inr x∈k')->(t.put j).1.plain=false\/c=false)->wpAny (model P w) A (do
    storeSet a (SetTable.insertAt es (t.put j).2 (tupleKeyHash (aK P w) k,Value.ref b)) (if c=true then(t.put j).1 else{ (t.put j).1 with plain:=false })
    if(!false && (if c=true then(t.put j).1 else{ (t.put j).1 with plain:=false }).tooFull)=true then do
     setRelay a (SetTable.grown (es.size+1))
     pure true
    else pure true) Q E s:=fun c hcp=>by
   refine AH (ks1:=k::ks) hnd' ho hex hd (Tb.mx _ _ _) ?_ ?_ ?_ (by omega) (by rw[EA,hlen]) ?_ hins hin' ?_ h'
   ·cases c<;>exact hput
   ·cases c<;>exact hm
   ·cases c<;>exact hfull
   ·cases c<;>exact hT1
   ·intro hx
    cases c
    ·rfl
    ·rcases hcp hx with z | z
     ·exact z
     ·cases z
  cases hpl':(t.put j).1.plain
  ·simp only[Bool.false_eq_true,if_false]
   exact DQ (DR (fin true fun _=>.inl hpl'))
  ·simp only[if_true]
   rcases Classical.em (∃x,Sum.inr x∈k)with⟨x,hx⟩ | hx
   ·exact DQ (Ab hk hx (fin false fun _=>.inr rfl))
   ·exact DQ (yc hk fun c=>fin c fun hall=>absurd (hall k Ec) hx)
end
section
variable {P:Program} {w:World} {A:Around} {I:Addr} {fp wr:List Addr} {G:Array GenState->Array GenState->Prop} {n:Nat} {Pz:Nat->Value->Prop} {St:Nat->Shared->Prop}
theorem dG.moved{B:Addr->List Key->Prop}{h h':Heap}{a:Addr}{ks:List (List Key)}{wr:List Addr}(hS:dG P w B h a ks)(hk:∀b o,b∉wr->h.get? b=some o->h'.get? b=some o)(ha:a∉wr)(hw:∀b∈wr,∀o,h.get? b=some o->∃vs,o.data=.fields vs):dG P w B h' a ks:=by
 obtain⟨hnd,o,es,ep,t,ho,hex,hd,h1,h2,h3,h4,h5,hall,hin,hpl⟩:=hS
 have mv:∀k b,IsTupleKey (aK P w) h k b->IsTupleKey (aK P w) h' k b:=fun k b ⟨o',items,m,ho',hc,hd',hi⟩=>⟨o',items,m,hk b o' (fun hb=>by
   obtain⟨vs,hv⟩:=hw b hb o' ho'
   rw[hd']at hv
   cases hv) ho',hc,hd',hi⟩
 refine⟨hnd,o,es,ep,t,hk a o ha ho,hex,hd,h1,h2,h3,h4,h5,fun e he=>?_,fun k hk=>?_,hpl⟩
 ·obtain⟨b,k,z1,z2,z3,z4⟩:=hall e he
  exact⟨b,k,z1,z2,mv k b z3,z4⟩
 ·obtain⟨b,z1,z2⟩:=hin k hk
  exact⟨b,z1,mv k b z2⟩
theorem vb{B:Addr->List Key->Prop}(W:WalksS P w A.in1 I fp wr G n Pz St)(S:Addr)(hS:S∉fp)(hu:A.in1.units<cLine)(bs:List Addr)(kk:List (List Key))(hnk:kk.length=n)(hBk:∀(j:Nat) b k,bs[j]?=some b->kk[j]?=some k->B b k)(hsz:n<1400)
  (hval:∀i v,Pz i v->∃b,v=.ref b/\bs[i]?=some b) (hwr:∀i s,St i s->∀b∈wr,∀o,s.heap.get? b=some o->∃vs,o.data=.fields vs) {R:Result->Shared->Prop} :
  ∀(m i:Nat) (s:Shared) (D:List (List Key)),n-i=m->i<=n->St i s->dG P w B s.heap S D->D.length<=i->(∀k,k∈D↔k∈kk.take i)->(∀(j:Nat) (b:Addr) (k:List Key),bs[j]?=some b->kk[j]?=some k->IsTupleKey (aK P w) s.heap k b) →
   (∀s' D,Moved (S::wr) G s s'->dG P w B s'.heap S D->(∀k,k∈D↔k∈kk)->R (.ok (.ret .none)) s') →
   codeAny (model P w) A (.builtin "set.update.loop" ⟨[.ref S,.ref I],[]⟩) R s:=by
 have hSw:S∉wr:=fun z=>hS (W.sub _ z)
 have more:∀b∈wr,b∈S::wr:=fun b z=>DZ _ z
 intro m
 induction m with
 | zero=>
  intro i s D hm hi hst hset _ hD hkeys hR
  obtain rfl:i=n:=by omega
  refine codeAny_builtin F.entry_set_update_loop ?_
  rw[Around.under_plainId F.plain_set_update_loop _]
  show wpAny _ A.in1 (pyNext (.ref I) >>= _) _ _ s
  refine DQ (W.done s _ _ hst fun s' mv=>?_)
  rw[←hnk,EB]at hD
  exact DR (hR s' D (mv.mono more) (hset.moved mv.heap hSw (hwr _ s hst)) hD)
 | succ m ih=>
  intro i s D hm hi hst hset hDl hD hkeys hR
  have hlt:i<n:=by omega
  refine codeAny_builtin F.entry_set_update_loop ?_
  rw[Around.under_plainId F.plain_set_update_loop _]
  show wpAny _ A.in1 (pyNext (.ref I) >>= _) _ _ s
  refine DQ (W.item i s _ _ hlt hst fun v s' hP hst' mv=>?_)
  obtain⟨b,rfl,hb⟩:=hval i v hP
  have hki:kk[i]?=some kk[i]:=DX (by omega)
  have hset':=hset.moved mv.heap hSw (hwr _ s hst)
  have hkeys':∀(j:Nat) (b:Addr) (k:List Key),bs[j]?=some b->kk[j]?=some k->IsTupleKey (aK P w) s'.heap k b:=fun j b k e1 e2=>by
   obtain⟨o',items,q,ho',hc,hd',hi'⟩:=hkeys j b k e1 e2
   refine⟨o',items,q,mv.heap b o' (fun hbw=>?_) ho',hc,hd',hi'⟩
   obtain⟨vs,hv⟩:=hwr _ s hst b hbw o' ho'
   rw[hd']at hv
   cases hv
  show wpAny _ A.in1 (holding [Value.ref b] (setAdd S (.ref b)) >>= _) _ _ s'
  refine DQ (wpAny_holding ?_)
  unfold setAdd
  refine wpAny_holding (DQ (wpAny_pyHash_tuple hu (hkeys' i b _ hb hki) ?_))
  refine AW (s:={ s' with toks:=s'.toks+(kk[i].length+1) }) hu (hkeys' i b _ hb hki) (hBk i b _ hb hki) hset' (by omega) fun h' r D1 sb hset2 hD1l hD1=>?_
  have htk:∀k,k∈D1↔k∈kk.take (i+1):=fun k=>by
   rw[hD1,hD k,List.take_add_one,hki,Ew]
   simp
  obtain⟨_,oS,esS,epS,tS,hoS,_,hdS,_⟩:=id hset'
  refine DR ⟨plainId_quiet F.plain_set_update_loop _,ih (i+1) _ _ (by omega) hlt (W.frame _ s' _ _ hst' (Nat.le_add_right _ _) fun c hc o e=>?_) hset2 (by omega) htk (fun j c k e1 e2=>iL (hkeys' j c k e1 e2) hoS hdS sb) fun s'' D2 mv2 hS2=>?_⟩
  ·rw[sb.2 c (fun z:c=S=>hS (z ▸ hc))]
   exact e
  ·refine hR s'' D2 (Moved.trans W.gtrans ((mv.mono more).then_heap (Nat.le_add_right _ _) fun c o hc e=>?_) mv2) hS2
   rw[sb.2 c (fun z:c=S=>hc (by rw[z];exact Ec))]
   exact e
end
end L2
namespace L2
open PySem PySem.Spec PyProof.Rows
section
variable {P:Program} {w:World} {A:Around} {E:Value->Shared->Prop} {s:Shared}
abbrev ck(led:Bool):Obj:={ cls:=.type "set",dict:=none,data:=.set #[] 0 (.fresh 0 0 led) }
def iJ(P:Program)(w:World)(s:Shared)(bs:List Addr)(kk D:List (List Key))(h':Heap):Prop:=
 dG P w (fun b k=>∃j:Nat,bs[j]?=some b/\kk[j]?=some k) h' s.heap.objs.size D/\(∀k,k∈D↔k∈kk)/\∀b o,b<s.heap.objs.size->s.heap.get? b=some o->h'.get? b=some o
theorem zg:isSubtype (.type "tuple") (.type "frozenset")=pure false:=by
 rw[isSubtype_type]
 kernel_rfl
theorem CI{t:Addr}{ys:Array Value}{bs:List Addr}{kk:List (List Key)}{Q:Value->Shared->Prop}(hA:A.handled=none)(hu:A.units+5<cLine)(gt:s.heap.IsTuple t ys)(hb:ys.toList=bs.map Value.ref)
  (hn:kk.length=ys.size) (hz:ys.size<1400) (hkey:∀(j:Nat) (b:Addr) (k:List Key),bs[j]?=some b->kk[j]?=some k->IsTupleKey (aK P w) s.heap k b)
  (h:∀(h':Heap) (tk:Nat) (D:List (List Key)),iJ P w s bs kk D h'->Q (.ref s.heap.objs.size) { s with heap:=h',toks:=tk }):wpAny (model P w) A (call (.type "set") [.ref t]) Q E s:=by
 have x1:=F.called_set.notType
 have x2:=F.called_set.canCreate
 have x3:=F.typeCall_set_1 (.ref t)
 have x4:=F.called_set.made
 have x5:=F.called_set.sub
 obtain⟨c,tl,x6⟩:=F.called_set.mro
 refine wpAny_call (codeAny_of_tree ?_)
 show wpAny _ _ (callAny (.type "set") _) _ _ _
 refine DR ⟨Code.quiet_builtin _ (by decide +kernel),codeAny_builtin F.entry_type_call ?_⟩
 rw[Around.under_plain (weight_type_call_type "set" [.ref t] []) rfl]
 repeat (any_goals (first | assumption | wp_step))
 refine codeAny_mono (code_set_new_1 (.ref t) (E:=E) (Q₁:=fun v s1=>∃led,v=.ref s.heap.objs.size/\s1={ s with heap:=s.heap.push (ck led) }) fun led=>⟨led,rfl,rfl⟩) fun r s1 hr=>?_
 cases r with
 | error e=>exact hr
 | ok fl=>
  cases fl with
  | ret v=>
   obtain⟨led,rfl,rfl⟩:=hr
   have gS:(s.heap.push (ck led)).get? s.heap.objs.size=some (ck led):=DU _ rfl
   have hT:Shared.TypeIs { s with heap:=s.heap.push (ck led) } (.ref s.heap.objs.size) "set":=⟨_,gS,rfl⟩
   have x7:=F.called_set.init.lookup
   have x8:=F.called_set.init.bind (.ref s.heap.objs.size)
   repeat (any_goals (first | assumption | wp_step))
   refine codeAny_mono (codeAny_call_builtin (R:=wants (fun r s2=>r=.none/\∃h' tk D,s2={ s with heap:=h',toks:=tk }/\iJ P w s bs kk D h') E) F.called_set.init.plain F.entry_set_init (check_set_init_1 hT ?_)) fun r2 s2 hr2=>?_
   ·have g1:(s.heap.push (ck led)).IsTuple t ys:=gt.push _
    have hlt:t<s.heap.objs.size:=by
     obtain⟨o,ho,_⟩:=gt
     exact DV ho
    obtain⟨ol,hol,hcl,nl,hdl⟩:=id g1
    obtain⟨c0,d0,dt,sl⟩:=ol
    simp only at hcl hdl
    subst hcl hdl
    have y1:=F.sub_tuple_set
    have y2:=zg
    have y3:(Value.type "tuple" == Value.type "dict")=false:=by decide
    unfold Builtin.«set.__init__» noKeywords Builtin.Frozenset.updateFrom
    generalize hit:pyIter=PI
    wp_walk
    subst hit
    refine wpAny_pyIter_tuple g1 ?_
    refine DQ (wpAny_runValue ?_)
    have e1:(s.heap.push (ck led)).objs.size=s.heap.objs.size+1:=Heap.size_push _ _
    have hA3:A.in1.in1.in1.handled=none:=by simp[hA]
    have hne:t≠(s.heap.push (ck led)).objs.size:=by
     rw[e1]
     exact Eo (Nat.lt_succ_of_lt hlt)
    have hSf:s.heap.objs.size∉[(s.heap.push (ck led)).objs.size,t]:=by
     intro z
     rcases Ek.mp z with z | z
     ·rw[e1]at z
      exact Eo (Nat.lt_succ_self _) z
     ·exact Nat.ne_of_gt hlt (Eg.mp z)
    have hbs:∀i:Nat,ys[i]?=(bs[i]?).map Value.ref:=fun i=>by
     rw[←Array.getElem?_toList,hb,DY]
    refine vb (B:=fun b k=>∃j:Nat,bs[j]?=some b/\kk[j]?=some k) ((Walks.tuple hA3 _ t hne ys).toS) s.heap.objs.size hSf (by simp only[Around.in1_units];omega) bs kk hn (fun j b k q1 q2=>⟨j,q1,q2⟩) hz (fun i v hv=>?_) (fun i s' hs b hb' o ho=>?_) (ys.size-0) 0 _ [] (by omega) (Nat.zero_le _) ⟨⟨_,DU _ rfl,rfl,rfl⟩,g1.push _⟩ ⟨List.nodup_nil,ck led,#[],0,_,DT _ gS,⟨rfl,rfl,rfl⟩,rfl,rfl,.inl rfl,(show 0*5<7*3 by decide),rfl,(by rw[Array.map_empty];exact Tb.TOk.nil 7),fun e he=>(by simp at he),fun k hk=>(by cases hk),fun _=>.inl rfl⟩ (Ep _) (fun k=>by simp) (fun j b k e1 e2=>?_) fun s' D mv hS' hD=>?_
    ·have hv':ys[i]?=some v:=hv
     rw[hbs i]at hv'
     obtain⟨b,e,rfl⟩:=Eh.mp hv'
     exact⟨b,rfl,e⟩
    ·cases Eg.mp hb'
     obtain⟨o',ho',_,hd'⟩:=hs.1
     rw[ho']at ho
     cases ho
     exact⟨_,hd'⟩
    ·obtain⟨o,items,q,ho,r⟩:=hkey j b k e1 e2
     exact⟨o,items,q,DT _ (DT _ ho),r⟩
    ·obtain⟨h',g',d',tk',os'⟩:=s'
     have q1:g'=s.gens:=mv.gens
     have q2:d'=s.drawn:=mv.drawn
     have q3:os'=s.os:=mv.os
     subst q1 q2 q3
     show wpAny _ _ _ _ _ _
     refine DR ?_
     show wpAny _ _ (ret Value.none) _ _ _
     refine DR ⟨rfl,h',tk',D,rfl,hS',hD,fun b o hb e=>mv.heap b o (fun z=>?_) (DT _ (DT _ e))⟩
     rcases Ek.mp z with z | z
     ·exact Eo hb z
     ·have z:=Eg.mp z
      rw[e1]at z
      exact Eo (Nat.lt_succ_of_lt hb) z
   ·cases r2 with
    | error e=>exact hr2
    | ok f2=>
     cases f2 with
     | ret r=>
      obtain⟨rfl,h',tk,D,rfl,hS'⟩:=hr2
      repeat (any_goals (first | assumption | wp_step))
      exact h _ _ D hS'
     | _=>exact hr2.elim
  | _=>exact hr.elim
theorem zP{t:Addr}{ys:Array Value}{bs:List Addr}{kk:List (List Key)}{Q:Value->Shared->Prop}(hA:A.handled=none)(hu:A.units+5<cLine)(gt:s.heap.IsList t ys)(hb:ys.toList=bs.map Value.ref)
  (hn:kk.length=ys.size) (hz:ys.size<1400) (hkey:∀(j:Nat) (b:Addr) (k:List Key),bs[j]?=some b->kk[j]?=some k->IsTupleKey (aK P w) s.heap k b)
  (h:∀(h':Heap) (tk:Nat) (D:List (List Key)),iJ P w s bs kk D h'->Q (.ref s.heap.objs.size) { s with heap:=h',toks:=tk }):wpAny (model P w) A (call (.type "set") [.ref t]) Q E s:=by
 have x1:=F.called_set.notType
 have x2:=F.called_set.canCreate
 have x3:=F.typeCall_set_1 (.ref t)
 have x4:=F.called_set.made
 have x5:=F.called_set.sub
 obtain⟨c,tl,x6⟩:=F.called_set.mro
 refine wpAny_call (codeAny_of_tree ?_)
 show wpAny _ _ (callAny (.type "set") _) _ _ _
 refine DR ⟨Code.quiet_builtin _ (by decide +kernel),codeAny_builtin F.entry_type_call ?_⟩
 rw[Around.under_plain (weight_type_call_type "set" [.ref t] []) rfl]
 repeat (any_goals (first | assumption | wp_step))
 refine codeAny_mono (code_set_new_1 (.ref t) (E:=E) (Q₁:=fun v s1=>∃led,v=.ref s.heap.objs.size/\s1={ s with heap:=s.heap.push (ck led) }) fun led=>⟨led,rfl,rfl⟩) fun r s1 hr=>?_
 cases r with
 | error e=>exact hr
 | ok fl=>
  cases fl with
  | ret v=>
   obtain⟨led,rfl,rfl⟩:=hr
   have gS:(s.heap.push (ck led)).get? s.heap.objs.size=some (ck led):=DU _ rfl
   have hT:Shared.TypeIs { s with heap:=s.heap.push (ck led) } (.ref s.heap.objs.size) "set":=⟨_,gS,rfl⟩
   have x7:=F.called_set.init.lookup
   have x8:=F.called_set.init.bind (.ref s.heap.objs.size)
   repeat (any_goals (first | assumption | wp_step))
   refine codeAny_mono (codeAny_call_builtin (R:=wants (fun r s2=>r=.none/\∃h' tk D,s2={ s with heap:=h',toks:=tk }/\iJ P w s bs kk D h') E) F.called_set.init.plain F.entry_set_init (check_set_init_1 hT ?_)) fun r2 s2 hr2=>?_
   ·have g1:(s.heap.push (ck led)).IsList t ys:=gt.push _
    have hlt:t<s.heap.objs.size:=by
     obtain⟨o,ho,_⟩:=gt
     exact DV ho
    obtain⟨ol,hol,hcl,nl,hdl⟩:=id g1
    obtain⟨c0,d0,dt,sl⟩:=ol
    simp only at hcl hdl
    subst hcl hdl
    have y1:=F.sub_list_set
    have y2:=F.sub_list_frozenset
    have y3:(Value.type "list" == Value.type "dict")=false:=by decide
    unfold Builtin.«set.__init__» noKeywords Builtin.Frozenset.updateFrom
    generalize hit:pyIter=PI
    wp_walk
    subst hit
    refine wpAny_pyIter_list g1 ?_
    refine DQ (wpAny_runValue ?_)
    have e1:(s.heap.push (ck led)).objs.size=s.heap.objs.size+1:=Heap.size_push _ _
    have hA3:A.in1.in1.in1.handled=none:=by simp[hA]
    have hne:t≠(s.heap.push (ck led)).objs.size:=by
     rw[e1]
     exact Eo (Nat.lt_succ_of_lt hlt)
    have hSf:s.heap.objs.size∉[(s.heap.push (ck led)).objs.size,t]:=by
     intro z
     rcases Ek.mp z with z | z
     ·rw[e1]at z
      exact Eo (Nat.lt_succ_self _) z
     ·exact Nat.ne_of_gt hlt (Eg.mp z)
    have hbs:∀i:Nat,ys[i]?=(bs[i]?).map Value.ref:=fun i=>by
     rw[←Array.getElem?_toList,hb,DY]
    refine vb (B:=fun b k=>∃j:Nat,bs[j]?=some b/\kk[j]?=some k) ((Walks.list hA3 _ t hne ys).toS) s.heap.objs.size hSf (by simp only[Around.in1_units];omega) bs kk hn (fun j b k q1 q2=>⟨j,q1,q2⟩) hz (fun i v hv=>?_) (fun i s' hs b hb' o ho=>?_) (ys.size-0) 0 _ [] (by omega) (Nat.zero_le _) ⟨⟨_,DU _ rfl,rfl,rfl⟩,g1.push _⟩ ⟨List.nodup_nil,ck led,#[],0,_,DT _ gS,⟨rfl,rfl,rfl⟩,rfl,rfl,.inl rfl,(show 0*5<7*3 by decide),rfl,(by rw[Array.map_empty];exact Tb.TOk.nil 7),fun e he=>(by simp at he),fun k hk=>(by cases hk),fun _=>.inl rfl⟩ (Ep _) (fun k=>by simp) (fun j b k e1 e2=>?_) fun s' D mv hS' hD=>?_
    ·have hv':ys[i]?=some v:=hv
     rw[hbs i]at hv'
     obtain⟨b,e,rfl⟩:=Eh.mp hv'
     exact⟨b,rfl,e⟩
    ·cases Eg.mp hb'
     obtain⟨o',ho',_,hd'⟩:=hs.1
     rw[ho']at ho
     cases ho
     exact⟨_,hd'⟩
    ·obtain⟨o,items,q,ho,r⟩:=hkey j b k e1 e2
     exact⟨o,items,q,DT _ (DT _ ho),r⟩
    ·obtain⟨h',g',d',tk',os'⟩:=s'
     have q1:g'=s.gens:=mv.gens
     have q2:d'=s.drawn:=mv.drawn
     have q3:os'=s.os:=mv.os
     subst q1 q2 q3
     show wpAny _ _ _ _ _ _
     refine DR ?_
     show wpAny _ _ (ret Value.none) _ _ _
     refine DR ⟨rfl,h',tk',D,rfl,hS',hD,fun b o hb e=>mv.heap b o (fun z=>?_) (DT _ (DT _ e))⟩
     rcases Ek.mp z with z | z
     ·exact Eo hb z
     ·have z:=Eg.mp z
      rw[e1]at z
      exact Eo (Nat.lt_succ_of_lt hb) z
   ·cases r2 with
    | error e=>exact hr2
    | ok f2=>
     cases f2 with
     | ret r=>
      obtain⟨rfl,h',tk,D,rfl,hS'⟩:=hr2
      repeat (any_goals (first | assumption | wp_step))
      exact h _ _ D hS'
     | _=>exact hr2.elim
  | _=>exact hr.elim
end
end L2
namespace L2
open PySem PySem.Spec PyProof.Rows
namespace SF
end SF
section
variable {P:Program} {w:World} {A:Around} {E:Value->Shared->Prop} {s:Shared}
end
end L2
namespace L2
open PySem PySem.Spec PyProof.Rows
section
variable {P:Program} {w:World} {A:Around} {E:Value->Shared->Prop} {s:Shared}
end
end L2
namespace PyProof.Rows
open PySem
section
variable {prog:Program} {w:World} {A:Around} {E:Value->Shared->Prop} {s:Shared} {κ:SortKind} {X:Keyed->Prop}
open Classical in
end
end PyProof.Rows
namespace L2
open PySem PySem.Spec PyProof.Rows
section
variable {P:Program} {w:World} {A:Around} {E:Value->Shared->Prop} {s:Shared}
end
end L2
namespace L2
open PySem PySem.Spec PyProof.Rows
section
variable {P:Program} {w:World} {A:Around} {E:Value->Shared->Prop} {s:Shared}
open Classical in
theorem tZ{α:Type}{D ds:List α}(hd:D.Nodup)(hs:∀k∈D,k∈ds)(hl:ds.length=D.length):ds.Perm D:=by
 induction D generalizing ds with
 | nil=>
  rw[List.length_nil,List.length_eq_zero_iff]at hl
  subst hl
  exact .refl _
 | cons d D ih=>
  have hm:=hs d Ec
  have p1:=List.perm_cons_erase hm
  have hd':=List.nodup_cons.mp hd
  refine p1.trans ((ih hd'.2 (fun k hk=>?_) ?_).cons d)
  ·refine(List.mem_erase_of_ne ?_).mpr (hs k (DZ _ hk))
   rintro rfl
   exact hd'.1 hk
  ·rw[List.length_erase_of_mem hm,hl]
   rfl
theorem key_inj{h:Heap}{b:Addr}{k1 k2:List Key}(h1:IsTupleKey (aK P w) h k1 b)(h2:IsTupleKey (aK P w) h k2 b):k1=k2:=by
 obtain⟨o1,i1,n1,z1,_,z2,z3⟩:=h1
 obtain⟨o2,i2,n2,y1,_,y2,y3⟩:=h2
 rw[z1]at y1
 cases y1
 rw[z2]at y2
 cases y2
 exact z3.inj y3
end
end L2
namespace L2
open PySem PySem.Spec PyProof.Rows
abbrev qN(P:Program)(w:World)(x:Addr×List Key):Int×Value:=(tupleKeyHash (aK P w) x.2,.ref x.1)
def jO(P:Program)(w:World)(h:Heap)(a:Addr)(L:List (Addr×List Key)):Prop:=∃o es ep t,h.get? a=some o/\o.ExactSet/\o.data=.set es ep t/\t.dummies = #[]/\Tb.Mask t.mask/\es.size*5<t.mask*3/\Tb.TOk t.mask t.place (es.map (·.1))/\es.toList=L.map (qN P w)/\((∀x∈L,∃z,Sum.inr z∈x.2)->L=[]\/t.plain=false)
def lH(P:Program)(w:World)(a:Addr)(L:List (Addr×List Key)):HO:=.ext fun h=>jO P w h a L
section
variable {P:Program} {w:World}
theorem oV{h:Heap}{B:Addr->List Key->Prop}{D:List (List Key)}:∀{es:List (Int×Value)},(∀e∈es,∃b k,e=(tupleKeyHash (aK P w) k,Value.ref b)/\k∈D/\IsTupleKey (aK P w) h k b/\B b k)->∃L:List (Addr×List Key),es=L.map (qN P w)/\∀x∈L,x.2∈D/\IsTupleKey (aK P w) h x.2 x.1/\B x.1 x.2
 | [],_=>⟨[],rfl,fun x hx=>by cases hx⟩
 | e::es,hall=>by
  obtain⟨L,h1,h2⟩:=oV (es:=es) fun x hx=>hall x (DZ _ hx)
  obtain⟨b,k,rfl,hk,hkb,hBb⟩:=hall e Ec
  refine⟨(b,k)::L,by rw[h1];rfl,fun x hx=>?_⟩
  rcases Ek.mp hx with rfl | hx
  ·exact⟨hk,hkb,hBb⟩
  ·exact h2 x hx
theorem dG.obj{B:Addr->List Key->Prop}{h:Heap}{a:Addr}{D:List (List Key)}(hS:dG P w B h a D):∃L,jO P w h a L/\(L.map (·.2)).Perm D/\∀x∈L,B x.1 x.2:=by
 obtain⟨hnd,o,es,ep,t,ho,hex,hd,hdm,hm,hfull,hlen,hT,hall,hin,hpl⟩:=hS
 obtain⟨L,h1,h2⟩:=oV hall
 have hl:L.length=D.length:=by
  rw[←hlen,←Ea,h1,DW]
 refine⟨L,⟨o,es,ep,t,ho,hex,hd,hdm,hm,hfull,hT,h1,fun hx=>?_⟩,tZ hnd (fun k hk=>?_) (by rw[DW,hl]),fun x hx=>(h2 x hx).2.2⟩
 ·have hx':∀k∈D,∃z,Sum.inr z∈k:=fun k hk=>by
   obtain⟨b,hb,hkb⟩:=hin k hk
   rw[h1]at hb
   obtain⟨x,hx',e⟩:=List.mem_map.mp hb
   have e2:Value.ref x.1=Value.ref b:=congrArg Prod.snd e
   cases e2
   rw[key_inj hkb (h2 x hx').2.1]
   exact hx x hx'
  rcases hpl hx' with e | e
  ·subst e
   rw[List.length_nil,List.length_eq_zero_iff]at hl
   exact .inl hl
  ·exact .inr e
 ·obtain⟨b,hb,hkb⟩:=hin k hk
  rw[h1]at hb
  obtain⟨x,hx',e⟩:=List.mem_map.mp hb
  have e2:Value.ref x.1=Value.ref b:=congrArg Prod.snd e
  cases e2
  rw[key_inj hkb (h2 x hx').2.1]
  exact List.mem_map.mpr ⟨x,hx',rfl⟩
theorem BX{H:Hp}{h:Heap}{a:Addr}{L:List (Addr×List Key)}(S:jO P w h a L):bo P w H h a (lH P w a L):=by
 refine⟨S,?_,fun h1 h2 z k=>?_⟩
 ·obtain⟨o,es,ep,t,ho,_⟩:=S
  exact⟨o,ho⟩
 ·obtain⟨o',es',ep',t',ho',r⟩:=z
  exact⟨o',es',ep',t',k _ ho',r⟩
end
section
variable {X:Cx} {pins:List (Addr×Obj)} {σ:St} {H:Hp} {s:Shared}
theorem oK:∀{bs:List Addr} {us:List Value},Vals (bs.map V.ref) us->us=bs.map Value.ref
 | [],_,.nil=>rfl
 | b::bs,_,.cons r t=>by
  rw[List.map_cons,←oK (bs:=bs) t]
  exact congrArg (· :: _) r
theorem BP(I:Inv X pins σ H s){b:Addr}{k:List Key}(e:H b=some (.tup (k.map kV))):IsTupleKey (aK X.prog X.w) s.heap k b:=by
 obtain⟨_,is,rk,o,ho,hc,n,hd⟩:=I.hok b _ e
 exact⟨o,_,n,ho,hc,hd,oQ rk⟩
def i7(H:Hp)(bs:List Addr)(kk:List (List Key)):Prop:=bs.length=kk.length/\∀(j:Nat) (b:Addr) (k:List Key),bs[j]?=some b->kk[j]?=some k->H b=some (.tup (k.map kV))
theorem i7.ext{H H':Hp}{bs:List Addr}{kk:List (List Key)}(e:Ext H H')(h:i7 H bs kk):i7 H' bs kk:=⟨h.1,fun j b k e1 e2=>e _ _ (h.2 j b k e1 e2)⟩
end
section
variable {X:Cx}
def CD(P:Program)(w:World):List V->Hp->VK->Prop:=fun xs H Q=>∃p bs kk,xs=[.ref p]/\(H p=some (.tup (bs.map V.ref))\/H p=some (.lst (bs.map V.ref)))/\i7 H bs kk/\kk.length<1400 ∧
 ∀l L,H l=none->(L.map Prod.snd).Nodup->(∀k,k∈L.map Prod.snd↔k∈kk)->(∀x∈L,H x.1=some (.tup (x.2.map kV)))->Q (.ref l) (upd H l (lH P w l L))
theorem zw{k:Nat}(hr:Room k X.A):bV X (.type "set") (CD X.prog X.w):=by
 intro pins s σ H xs us Q I r h
 obtain⟨p,bs,kk,rfl,hp,⟨h2,h3⟩,hz,q⟩:=h
 obtain⟨u,rfl,rx⟩:=vals1 r
 cases rx
 have hu:=hr.units
 have hA:=hr.hd
 have keys:∀(j:Nat) (b:Addr) (k:List Key),bs[j]?=some b->kk[j]?=some k->IsTupleKey (aK X.prog X.w) s.heap k b:=fun j b k e1 e2=>BP I (h3 j b k e1 e2)
 have fin:∀(h':Heap) (tk:Nat) (D:List (List Key)),iJ X.prog X.w s bs kk D h'->∃v H',Inv X pins σ H' { s with heap:=h',toks:=tk }/\RelV v (.ref s.heap.objs.size)/\Q v H':=fun h' tk D hm=>by
  obtain⟨hS,hD,hk⟩:=hm
  obtain⟨L,hO,hLp,hLB⟩:=hS.obj
  have hfr:=I.hok.fresh (Ep _)
  refine⟨.ref s.heap.objs.size,_,I.laid (t':=tk) (fun b o e=>hk b o (DV e) e) (Ep _) (BX hO),rfl,q _ L hfr (hLp.nodup_iff.mpr hS.1) (fun k=>(hLp.mem_iff.trans (hD k))) fun x hx=>?_⟩
  obtain⟨j,e1,e2⟩:=hLB x hx
  exact h3 j _ _ e1 e2
 rcases hp with hp | hp
 ·obtain⟨_,its,rv,gt⟩:=I.hok p _ hp
  have ei:=oK rv
  subst ei
  refine CI (kk:=kk) (bs:=bs) hA (by omega) (show s.heap.IsTuple p _ from gt) rfl (by simp[h2]) (by simp[h2];exact hz) keys fin
 ·obtain⟨_,its,n,rv,gt⟩:=I.hok p _ hp
  have ei:=oK rv
  subst ei
  refine zP (kk:=kk) (bs:=bs) hA (by omega) (show s.heap.IsList p _ from⟨_,gt,rfl,n,rfl⟩) rfl (by simp[h2]) (by simp[h2];exact hz) keys fin
def xr(P:Program)(w:World):List V->Hp->VK->Prop:=fun xs H Q=>∃p L,xs=[.ref p]/\H p=some (lH P w p L)/\L.length<1400/\Q (.int L.length) H
theorem xO:bV X (.builtin "len") (xr X.prog X.w):=by
 intro pins s σ H xs us Q I r h
 obtain⟨p,L,rfl,hp,hn,q⟩:=h
 obtain⟨u,rfl,rx⟩:=vals1 r
 cases rx
 obtain⟨⟨o,es,ep,t,ho,hex,hd,hdm,hm,hfull,hT,hel,_⟩,_⟩:=I.hok p _ hp
 have hpl:t.place.size=es.size:=by rw[hT.len,Array.size_map]
 have hs:es.size=L.length:=by rw[←Ea,hel,DW]
 have hf:t.fits es.size=true:=by
  simp only[SetTable.fits,EJ,beq_iff_eq,decide_eq_true_eq]
  refine⟨hpl,?_⟩
  unfold SetTable.fill
  rw[hdm,hpl]
  have:es.size<=t.mask:=by omega
  simpa using this
 refine call_len_set ho hex hd hf (by omega) ⟨.int L.length,H,I.tok _,⟨s.toks+1,by rw[hs]⟩,q⟩
end
end L2
namespace L2
open PySem PySem.Spec PyProof.Rows
section
variable {X:Cx} {pins:List (Addr×Obj)} {σ:St} {H:Hp} {s:Shared}
theorem Inv.turnedNew{h':Heap}{L:List Addr}{o:HO}{t':Nat}(I:Inv X pins σ H s)(k:∀b u,b∉L->s.heap.get? b=some u->h'.get? b=some u)(f:∀b∈L,cG X pins H b)
  (new:bo X.prog X.w (upd H s.heap.objs.size o) h' s.heap.objs.size o):Inv X pins σ (upd H s.heap.objs.size o) { s with heap:=h',toks:=t' }:=by
 have hn:H s.heap.objs.size=none:=I.hok.fresh (Ep _)
 have nin:∀b u,H b=some u->b∉L:=fun b u e z=>by
  rw[(f b z).1]at e
  cases e
 have up:∀b u,H b=some u->upd H s.heap.objs.size o b=some u:=fun b u e=>by
  rw[az (bO e hn)]
  exact e
 refine I.step (g':=s.gens) (d':=s.drawn) (ch:=L) (fun b hb=>?_) (fun b u _ _ hc e _=>k b u hc e) (fun b u _ _ hc e _=>⟨u.slots,k b u hc e⟩) (fun b u _ e n=>?_) (fun b u hc e=>⟨u,k b u hc e⟩) (fun b xs e=>up b _ e) (fun b u v e=>up b _ e) (fun b ps e=>⟨#[],by rw[up b _ e];simp⟩) (fun m hm=>?_) (fun b u e=>?_) I.bare
 ·obtain⟨f0,f1,f2,f3,f4,f5⟩:=f b hb
  exact⟨f3,f1,f4,f5⟩
 ·rw[az (Eo (DV e))]
  exact n
 ·obtain⟨u,es,ep,hu,r⟩:=hm
  exact⟨u,es,ep,k _ u (fun z=>(f _ z).2.1 rfl) hu,r⟩
 ·by_cases hb:b=s.heap.objs.size
  ·subst hb
   rw[aL]at e
   cases e
   exact new
  ·rw[az hb]at e
   refine(I.hok b u e).stay (fun c v hc q=>k c v ?_ q) (fun c q=>up c _ q) fun c xs q=>up c _ q
   rcases hc with z | z
   ·rw[z];exact nin b u e
   ·exact nin c _ z
end
theorem BK{P:Program}{w:World}{A:Around}(hA:A.handled=none)(it t:Addr)(ne:t≠it)(ys:Array Value):Draws P w A it [it,t] ys.size (fun i v=>ys[i]?=some v) (fun i h=>h.IsTupleIter it t i/\h.IsTuple t ys) where
 live:=fun i h st=>by
  obtain⟨⟨o,ho,_⟩,_⟩:=st
  exact⟨o,ho⟩
 frame:=fun i h h' st k=>by
  obtain⟨⟨o,ho,r⟩,⟨u,hu,q⟩⟩:=st
  exact⟨⟨o,k it (by simp) o ho,r⟩,⟨u,k t (by simp) u hu,q⟩⟩
 item:=fun i s Q E hi st hQ=>DL st.1 st.2 (x:=ys[i]) (by simp[hi]) fun h' gi sb=>hQ _ h' s.toks (by simp[hi]) ⟨gi,by
  obtain⟨u,hu,q⟩:=st.2
  exact⟨u,(sb.2 t ne).trans hu,q⟩⟩ sb
 done:=fun s Q E st hE=>ph hA st.1 st.2 (by simp) hE
abbrev jU(h:Heap)(a:Addr):Heap:=h.push { cls:=.type "tuple_iterator",data:=.fields #[.ref a,.int 0 0] }
abbrev mE(h:Heap)(a:Addr):Heap:=(jU h a).push { cls:=.type "enumerate",data:=.fields #[.none,.bool false,.ref h.objs.size,rawInt 0,.none,.none] }
open AutoSeq1 (wpAny_loadPart')in
theorem zE(a:Addr)(ys:Array Value)(ob:Obj):Meets (Builtin.«enumerate.__new__» ⟨[.type "enumerate",.ref a],[]⟩) (fun _ R s=>s.heap.get? a=some ob/\s.heap.IsTuple a ys/\R (.ok (.ret (.ref (jU s.heap a).objs.size))) { s with heap:=mE s.heap a }):=
 .of_wp fun prog w A R s q=>by
  obtain⟨hp,g,d,tk,os⟩:=s
  obtain⟨ga,gt,q⟩:=q
  have hsub:=sub_enumerate
  obtain⟨o,go,gc,n,gd⟩:=id gt
  obtain⟨c0,d0,dt,sl⟩:=o
  simp only at gc gd
  subst gc gd
  have gT:Heap.IsTuple (Shared.heap ⟨hp,g,d,tk,os⟩) a ys:=gt
  wp_walk using wpAny_loadPart' go
  refine wpAny_stack_any fun st=>DR ?_
  split
  ·rename_i c _ _ _ _ _
   cases(c == Value.type "enumerate")<;>(wp_walk using wpAny_loadPart' go,wpAny_pyIter_tuple gT;exact⟨_,rfl,q⟩)
  ·wp_walk using wpAny_loadPart' go,wpAny_pyIter_tuple gT
   exact⟨_,rfl,q⟩
theorem Bi{prog:Program}{w:World}{A:Around}{E:Value->Shared->Prop}{s:Shared}{a:Addr}{ys:Array Value}{Q:Value->Shared->Prop}(gt:s.heap.IsTuple a ys)
  (q:∀h',IsEnum h' (s.heap.objs.size+1) s.heap.objs.size 0 .none->h'.IsTupleIter s.heap.objs.size a 0->(∀c o,s.heap.get? c=some o->h'.get? c=some o)->Q (.ref (s.heap.objs.size+1)) { s with heap:=h' }) :
  wpAny (model prog w) A (call (.type "enumerate") [.ref a]) Q E s:=by
 obtain⟨o,go,r⟩:=id gt
 refine callType_new F.called_enumerate (by decide) (F.typeCall_enumerate_1 _) (F.newCall_enumerate_1 _) (fun ob=>F.args_object_init_2 ob _) F.entry_enumerate_new (zE a ys o) ⟨go,gt,?_⟩
 have n1:(jU s.heap a).objs.size=s.heap.objs.size+1:=Heap.size_push ..
 have k2:(mE s.heap a).get? (jU s.heap a).objs.size=some _:=DU _ rfl
 have k1:(mE s.heap a).get? s.heap.objs.size=some _:=DT _ (DU _ rfl)
 show _/\_
 rw[n1]at k2 ⊢
 exact⟨⟨_,k2,rfl⟩,q _ k2 ⟨_,k1,rfl,rfl⟩ fun c o x=>DT _ (DT _ x)⟩
def gF(K:DS)(a:Addr):It:=⟨(dA K a).go,fun i H x H'=>∃p v,x=.ref p/\H p=none/\H'=upd H p (.tup [.int i,v])/\(dA K a).yld i H v H,(dA K a).stop⟩
theorem A6{P:Program}{w:World}{K:DS}{elts:List Expr}{kk:Nat}{ps:Pos}(a e it:Addr)(ne:e≠it):Turn P w K (.Tuple elts kk ps) (gF K a) [e,it] e (fun i h=>(∃old,IsEnum h e it i old)/\h.IsTupleIter it a i) where
 mem:=by simp
 obj:=fun i h st b hb=>by
  obtain⟨⟨old,ge⟩,o,go,gc,gd⟩:=st
  rcases Ek.mp hb with rfl | hb
  ·exact⟨_,ge,fun v z=>by cases(show Data.fields _=Data.cell v from z)⟩
  ·cases Eg.mp hb
   exact⟨o,go,fun v z=>by rw[gd]at z;cases z⟩
 keep:=fun i h h' st k=>by
  obtain⟨⟨old,ge⟩,gi⟩:=st
  exact⟨⟨old,k e (by simp) _ ge⟩,gi.at fun o z=>k it (by simp) o z⟩
 item:=by
  intro X hP hw hK hc i pins s σ H E I hf st hg
  subst hP hw hK
  obtain⟨⟨old,ge⟩,gi⟩:=st
  obtain⟨xs,x,hq,hx⟩:=hg
  obtain⟨its,rv,p,hz⟩:=I.tuple hq
  obtain⟨u,hu,ru⟩:=rv.get hx
  have hi:i<its.toArray.size:=by
   have:=(Ee.mp hu).1
   simpa using this
  have hA:X.A.in1.handled=none:=I.ok.hd hc
  have hta:a≠it:=fun z=>by
   obtain⟨o,ho,hcl,_⟩:=p
   obtain⟨o',ho',hcl',_⟩:=gi
   rw[z,ho']at ho
   cases ho
   rw[hcl]at hcl'
   exact absurd (Value.type.inj hcl') (by decide)
  have hea:e∉[it,a]:=fun z=>by
   rcases Ek.mp z with z | z
   ·exact ne z
   ·cases Eg.mp z
    obtain⟨o,ho,hcl,_⟩:=p
    rw[ge]at ho
    cases ho
    exact absurd (Value.type.inj hcl) (by decide)
  refine wpAny_pyNext_enum_itemD (BK hA it a hta its.toArray) ge ⟨gi,show s.heap.IsTuple a its.toArray from p⟩ hi ne hea fun y h' tk hy geo gs gT gz gk=>⟨_,rfl,?_⟩
  have ey:y=u:=by
   have:its[i]?=some y:=by simpa using hy
   rw[hu]at this
   exact(Option.some.inj this).symm
  subst ey
  have lt:∀b∈[e,it],b≠s.heap.objs.size:=fun b hb=>by
   rcases Ek.mp hb with rfl | hb
   ·exact Eo (DV ge)
   ·cases Eg.mp hb
    obtain⟨o,ho,_⟩:=gi
    exact Eo (DV ho)
  have I1:Inv X pins σ (upd H s.heap.objs.size (.tup [.int i,x])) { s with heap:=h',toks:=tk+1 }:=
   Inv.turnedNew (L:=[e,it]) I (fun b o hb z=>gk b o (fun q=>hb (by simp[q])) (fun q=>hb (by simp[q])) z) hf ⟨by show 2<=sizeLine;decide,[.int i tk,y],.cons ⟨tk,rfl⟩ (.cons ru .nil),⟨_,gT,rfl,_,rfl⟩⟩
  have fe:cG X pins (upd H s.heap.objs.size (.tup [.int i,x])) e:=by
   obtain⟨c0,c1,c2,c3,c4,c5⟩:=hf e (by simp)
   exact⟨by rw[az (lt e (by simp))];exact c0,c1,c2,c3,c4,c5⟩
  refine wpAny_letOwnedTupleGo_enum (s:={ s with heap:=h',toks:=tk+1 }) geo fun k gk' bk=>?_
  refine⟨.ref s.heap.objs.size,upd H s.heap.objs.size (.tup [.int i,x]),Inv.same (s:={ s with heap:=h',toks:=tk+1 }) (k:=h') I1 fe bk.extBut,rfl,⟨_,x,rfl,I.hok.fresh (Ep _),rfl,rfl,fun zs hzs=>by rw[I.tuple_inj hzs hq];exact hx⟩,⟨⟨y,by simpa using gk'⟩,gs.1.at fun o z=>bk.extBut it o (Ne.symm ne) z⟩,fun b hb=>?_⟩
  rw[az (lt b hb)]
  exact(hf b hb).1
 done:=by
  intro X hP hw hK hc i pins s σ H E I hf st hg
  subst hP hw hK
  obtain⟨⟨old,ge⟩,gi⟩:=st
  obtain⟨xs,hq,hx⟩:=hg
  obtain⟨its,rv,p,hz⟩:=I.tuple hq
  have hA:X.A.in1.handled=none:=I.ok.hd hc
  have gT:s.TypeIs (.ref e) "enumerate":=⟨_,ge,rfl⟩
  have hl:=rv.length
  unfold pyNext
  refine DQ (wpAny_attempt (wpAny_callSpecial?_slot (name:=Str.ofString "__next__") gT F.slot_enumerate_next (wpAny_call_entry F.slot_enumerate_next gT F.entry_enumerate_next ?_ (F.args_enumerate_next_1 _))))
  show wpAny _ _ (field (Value.ref e) 2 >>= _) _ _ _
  refine DQ (wpAny_field ge rfl (x:=Value.ref it) rfl ?_)
  refine DQ (ph hA gi (show s.heap.IsTuple a its.toArray from p) (by simp;omega) fun h' x he hx'=>?_)
  obtain⟨o,ho,hc'⟩:=hx'
  refine DQ (wpAny_isInstance (s:={ s with heap:=h' }) (T:="StopIteration") (b:=true) ⟨o,ho,hc'⟩ isSubtype_stop ?_)
  exact DR ⟨rfl,Inv.same (k:=s.heap) I (hf it (by simp)) he⟩
 self:=fun _ _ _ _ _ st h=>by
  obtain⟨⟨old,ge⟩,_⟩:=st
  exact wpAny_pyIter_enum ge h
section
variable {K:DS} {σ:St} {H:Hp} {Q:VK}
def mY(K:DS):List V->Hp->(It->Hp->Prop)->Prop:=fun vs H R=>∃a xs,vs=[.ref a]/\ah K H a xs/\R (gF K a) H
def uM(K:DS)(ta:TA):TI:=fun σ H R=>ta σ H fun vs H1=>mY K vs H1 R
theorem v9{X:Cx}{elts:List Expr}{kk:Nat}{ps:Pos}(K:DS){a:Expr}{ta:TA}{p pos:Pos}(hg:Gl X "enumerate")(hm:X.mg "enumerate" = none)(ha:PA X [a] ta)(hK:X.K=K:=by rfl)(hs:starEach [a] X.env=[(false,eval a X.env)]:=by rfl):
  PI X (.Tuple elts kk ps) (.Call (.Name "enumerate" p) [a] [] pos) (uM K ta):=by
 subst hK
 intro pins s σ H R I h
 refine Call_ (fL I hg hm PyProof.Rows.boot_enumerate (PyProof.Rows.callWith_type1 (ay (ha pos pins s σ H _ I h) fun us s1 ⟨vs,H1,I1,r1,q1⟩=>?_) (by rw[hs];rfl) rfl))
 obtain⟨l,xs,e,hq,q⟩:=q1
 subst e
 obtain⟨u,rfl,rx⟩:=vals1 r1
 cases rx
 obtain⟨its,_,p1,_⟩:=I1.tuple hq
 refine Bi (show s1.heap.IsTuple l its.toArray from p1) fun h' ge gi k=>?_
 refine wpAny_pyIter_enum (s:={ s1 with heap:=h' }) ge ?_
 refine⟨s1.heap.objs.size+1,[s1.heap.objs.size+1,s1.heap.objs.size],_,_,H1,rfl,I1.kept (t':=s1.toks) k,A6 l (s1.heap.objs.size+1) s1.heap.objs.size (fun z=>by have z':@Eq Nat _ _:=z;omega),⟨⟨_,ge⟩,gi⟩,fun b hb=>?_,q⟩
 have le:@LE.le Nat _ s1.heap.objs.size b:=by
  rcases Ek.mp hb with rfl | hb
  ·exact Nat.le_add_right _ _
  ·cases Eg.mp hb
   exact Ep _
 exact I1.fpOk le (I1.hok.fresh le)
theorem rd_enum{a:TA}{R:It->Hp->Prop}(h:a σ H fun vs H1=>mY K vs H1 R):uM K a σ H R:=h
theorem qO{a:Addr}{xs:List V}{R:It->Hp->Prop}(ha:ah K H a xs)(h:R (gF K a) H):mY K [.ref a] H R:=⟨a,xs,rfl,ha,h⟩
theorem CH{a:Addr}{xs:List V}{g:TG}{tb:TS}{D:Ends}(Pv:Nat->St->Hp->Prop)(h0:Pv 0 σ H)(hl:∀i σ H,i<=xs.length->Pv i σ H->ah K H a xs)
  (hs:∀i u σ H p H',xs[i]?=some u->Pv i σ H->Ext H H'->H' p=some (.tup [.int i,u])->H p=none->g (.ref p) σ H' fun σ2 H2=>tb { D with nx:=Pv (i+1),ct:=Pv (i+1),bk:=D.nx } σ2 H2) (hd:∀σ H,Pv xs.length σ H->D.nx σ H) :
  ∃W:Nat->Nat->St->Hp->Prop,(∃m,W 0 m σ H)/\∀i m σ H,W i m σ H →
   ((gF K a).stop i H/\D.nx σ H)\/((gF K a).go i H/\∃N:St->Hp->Prop,(∀σ' H',N σ' H'->∃m',m'<m/\W (i+1) m' σ' H')/\∀x H',(gF K a).yld i H x H'->g x σ H' fun σ2 H2=>tb { D with nx:=N,ct:=N,bk:=D.nx } σ2 H2):=by
 refine⟨fun i m σ H=>m=xs.length-i/\i<=xs.length/\Pv i σ H,⟨xs.length,by simp,Nat.zero_le _,h0⟩,?_⟩
 rintro i m σ H ⟨rfl,hi,p⟩
 have qa:=hl i σ H hi p
 by_cases hlt:i<xs.length
 ·refine .inr ⟨⟨xs,xs[i],qa,by simp[hlt]⟩,Pv (i+1),fun σ' H' p'=>⟨xs.length-(i+1),by omega,rfl,hlt,p'⟩,fun x H' y=>?_⟩
  obtain⟨pp,u,rfl,hn,rfl,yu⟩:=y
  exact hs i u σ H pp _ (yu.2 xs qa) p (bw hn) aL hn
 ·have e:i=xs.length:=by omega
  subst e
  exact .inl ⟨⟨xs,qa,Ep _⟩,hd σ H p⟩
end
section
variable {X:Cx}
def ni(neg:Bool):R2:=fun x y H Q=>∃n p xs d ds,aV H n x d/\y=.ref p/\H p=some (.lst xs)/\Paired (aV H n) xs ds/\n<=50/\Q (.bl (if neg then !(ds.any fun e=>PyData.eqv e d)else ds.any fun e=>PyData.eqv e d)) H
theorem DP{k:Nat}(hr:Room k X.A):bq X (compareOp .In) (ni false):=by
 intro pins s σ H x y v u Q I rx ry h
 obtain⟨n,p,xs,d,ds,h1,rfl,h2,h3,hn,q⟩:=h
 have h4:aV H (n+1) (.ref p) (.list ds):=.inr ⟨p,xs,ds,rfl,.inr ⟨h2,rfl⟩,h3⟩
 obtain⟨as,ra⟩:=aV.reads I n h1 rx
 obtain⟨bs,rb⟩:=aV.reads I (n+1) h4 ry
 have l1:=aV.lay n h1
 have l2:=je (fun{x d}=>aV.lay (H:=H) n) h3
 have hu:=hr.units
 have hm:min (PyData.depthAll ds) d.depth<=50:=EE (Nat.min_le_right _ _) (EE l1.2 hn)
 exact SeqAt.in_list_reads rb ra l2.1 l1.1 (by omega) ⟨.bl _,H,I,rfl,q⟩
theorem Ci{k:Nat}(hr:Room k X.A):bq X (compareOp .NotIn) (ni true):=by
 intro pins s σ H x y v u Q I rx ry h
 obtain⟨n,p,xs,d,ds,h1,rfl,h2,h3,hn,q⟩:=h
 have h4:aV H (n+1) (.ref p) (.list ds):=.inr ⟨p,xs,ds,rfl,.inr ⟨h2,rfl⟩,h3⟩
 obtain⟨as,ra⟩:=aV.reads I n h1 rx
 obtain⟨bs,rb⟩:=aV.reads I (n+1) h4 ry
 have l1:=aV.lay n h1
 have l2:=je (fun{x d}=>aV.lay (H:=H) n) h3
 have hu:=hr.units
 have hm:min (PyData.depthAll ds) d.depth<=50:=EE (Nat.min_le_right _ _) (EE l1.2 hn)
 exact SeqAt.notIn_list_reads rb ra l2.1 l1.1 (by omega) ⟨.bl _,H,I,rfl,q⟩
theorem Cw{neg:Bool}{n:Nat}{x:V}{p:Addr}{xs:List V}{d:PyData}{ds:List PyData}{H:Hp}{Q:VK}(h1:aV H n x d)(h2:H p=some (.lst xs))(h3:Paired (aV H n) xs ds)(hn:n<=50)(q:Q (.bl (if neg then !(ds.any fun e=>PyData.eqv e d)else ds.any fun e=>PyData.eqv e d)) H):ni neg x (.ref p) H Q:=
 ⟨n,p,xs,d,ds,h1,rfl,h2,h3,hn,q⟩
end
end L2
namespace L2
open PySem PySem.Spec PyProof.Rows
abbrev Row3:=Str×Tok×Value
def jG(w:World)(e:Row3):DictEntry:=⟨PyData.keyHash w.params e.1,.str e.1 e.2.1,e.2.2⟩
def gK(w:World)(l:List Row3)(ep:Nat):Obj:={ cls:=.type "dict",dict:=none,data:=.dict (l.map (jG w)).toArray ep,slots:=#[] }
structure GDict(w:World)(K:DS)(a:Addr)(kvs:List (Key×V)):Prop where
 has:∃l ep,K.lookup a=some (gK w l ep)/\KV kvs (l.map fun e=>((Sum.inr e.1:Key),e.2.2))
 nd:(kvs.map (·.1)).Nodup
 sm:(a == sysModules)=false
theorem vZ{P:Program}{w:World}:∀l:List Row3,Pairs (aK P w) (l.map (jG w)) (l.map fun e=>((Sum.inr e.1:Key),e.2.2))
 | []=>.nil
 | e::l=>.cons (nW P w e.1 e.2.1) rfl (vZ l)
theorem Dj{P:Program}{w:World}(l:List Row3):KeysOf (aK P w) (l.map (jG w)).toArray:=fun e he=>by
 have he':e∈l.map (jG w):=by simpa using he
 obtain⟨x,_,rfl⟩:=List.mem_map.mp he'
 exact⟨.inr x.1,nW P w x.1 x.2.1,rfl⟩
theorem GDict.at{X:Cx}{pins:List (Addr×Obj)}{σ:St}{H:Hp}{s:Shared}{a:Addr}{kvs:List (Key×V)}(D:GDict X.w X.K a kvs)(I:Inv X pins σ H s):∃vs,KV kvs vs/\s.heap.DictOf (aK X.prog X.w) a vs:=by
 obtain⟨l,ep,hl,r⟩:=D.has
 refine⟨_,r,gK X.w l ep,_,ep,I.kIn _ _ hl,⟨rfl,rfl,rfl⟩,rfl,Dj l,vZ l,?_⟩
 rw[←r.keys]
 exact D.nd
section
variable {X:Cx} {x:Str} {a:Addr} {kvs:List (Key×V)} {i:Expr} {ty:TE} {p pos:Pos}
def wL(kvs:List (Key×V))(ty:TE):TE:=fun σ H Q=>ty σ H fun y H1=>∃k v,y=kV k/\bx kvs k=some v/\Q v H1
def sq(neg:Bool)(kvs:List (Key×V))(ty:TE):TE:=fun σ H Q=>ty σ H fun y H1=>∃k,y=kV k/\Q (.bl (if neg then !(bx kvs k).isSome else(bx kvs k).isSome)) H1
theorem tG(hg:Gl X x)(hm:X.mg x=some (.ref a))(D:GDict X.w X.K a kvs)(hi:PE X i ty)(hs:oG i)(hd:(x == ("__debug__":Str))=false:=by decide):PE X (.Subscript (.Name x p) i pos) (wL kvs ty):=by
 intro pins s σ H Q I h
 refine ug PySem.F.slot_dict_getitem.lookup hs (iW I hg hm (ay (hi pins s σ H _ I h) fun iv s2 ⟨y,H2,I2,ry,k,v,ey,hv,q⟩=>?_) hd)
 subst ey
 obtain⟨vs,rel,dd⟩:=D.at I2
 obtain⟨w',hw,rw'⟩:=dy.some_of (v:=v) (o:=valueAt vs k) (by rw[←hv];exact rel.val k)
 exact⟨dd.typeIs,wpAny_getItem_of (gG ry) dd.mapOf hw ⟨v,H2,I2.tok _,rw',q⟩⟩
theorem yH(hg:Gl X x)(hm:X.mg x=some (.ref a))(D:GDict X.w X.K a kvs)(hi:PE X i ty)(hd:(x == ("__debug__":Str))=false:=by decide):PC X .In i (.Name x p) (sq false kvs ty):=by
 intro pins s σ H Q I h
 refine ay (hi pins s σ H _ I h) fun iv s1 ⟨y,H1,I1,ry,k,ey,q⟩=>iW I1 hg hm ?_ hd
 subst ey
 obtain⟨vs,rel,dd⟩:=D.at I1
 refine wpAny_in_of (gG ry) D.sm dd.mapOf ?_
 rw[←(rel.val k).isSome_eq]
 exact⟨.bl (bx kvs k).isSome,H1,I1.tok _,rfl,q⟩
theorem rd_gget{σ:St}{H:Hp}{Q:VK}(h:ty σ H fun y H1=>∃k v,y=kV k/\bx kvs k=some v/\Q v H1):wL kvs ty σ H Q:=h
theorem rd_gin{neg:Bool}{σ:St}{H:Hp}{Q:VK}(h:ty σ H fun y H1=>∃k,y=kV k/\Q (.bl (if neg then !(bx kvs k).isSome else(bx kvs k).isSome)) H1):sq neg kvs ty σ H Q:=h
theorem sv{R:V->Prop}{z:Str}{v:V}(hv:bx kvs (.inr z)=some v)(h:R v):∃k v,V.str z=kV k/\bx kvs k=some v/\R v:=⟨.inr z,v,rfl,hv,h⟩
def uD:R2:=fun x y H Q=>∃a b,x=.str a/\y=.str b/\Q (.bl (!decide (b.cps.toList<a.cps.toList))) H
theorem uh:bq X (compareOp .LtE) uD:=by
 intro pins s σ H x y v u Q I rx ry h
 obtain⟨a,b,rfl,rfl,q⟩:=h
 obtain⟨t,rfl⟩:=rx
 obtain⟨t',rfl⟩:=ry
 exact PySem.P.le_str ⟨.bl _,H,I,rfl,q⟩
theorem rd_leS{a b:Str}{H:Hp}{Q:VK}(h:Q (.bl (!decide (b.cps.toList<a.cps.toList))) H):uD (.str a) (.str b) H Q:=⟨a,b,rfl,rfl,h⟩
theorem Vals.rev{xs:List V}{us:List Value}(r:Vals xs us):Vals xs.reverse us.reverse:=by
 induction r with
 | nil=>exact .nil
 | cons h t ih=>
  rw[List.reverse_cons,List.reverse_cons]
  exact Vals.append ih (.cons h .nil)
def nI(K:DS):V->Hp->VK->Prop:=fun x H Q=>∃a xs,x=.ref a/\ag K H a xs/\fb H (.lst xs.reverse) Q
theorem Ak{K:DS}{H:Hp}{Q:VK}{a:Addr}{xs:List V}(e:ag K H a xs)(h:fb H (.lst xs.reverse) Q):nI K (.ref a) H Q:=⟨a,xs,rfl,e,h⟩
theorem rd_dget{td:TE}{σ:St}{H:Hp}{Q:VK}(h:td σ H fun x H1=>ty σ H1 fun y H2=>∃a v,x=.ref a/\cN H2 a y (some v)/\Q v H2):wx td ty σ H Q:=h
end
end L2
namespace L2
open PySem PySem.Spec PyProof.Rows
theorem Af:typeLookup (.type "list_reverseiterator") "__len__" = pure none:=by rw[typeLookup_type,builtinLookup_eq_fast];kernel_rfl
theorem yR:typeLookup (.type "list_reverseiterator") "__length_hint__" = pure (some (.builtin "list_reverseiterator.__length_hint__")):=by rw[typeLookup_type,builtinLookup_eq_fast];kernel_rfl
section
variable {prog:Program} {w:World} {A:Around} {E:Value->Shared->Prop} {s:Shared} {r d:Addr}
theorem yX{Q:Bool->Shared->Prop}(hT:s.TypeIs (.ref r) "list_reverseiterator")(h:Q false s):wpAny (model prog w) A (Builtin.List.listLengthHint (.ref r)) Q E s:=by
 unfold Builtin.List.listLengthHint
 refine DQ (wpAny_specialOf hT Af ?_)
 show wpAny _ _ (specialOf (Value.ref r) (Str.ofString "__length_hint__") >>= _) _ _ _
 refine DQ (wpAny_specialOf hT yR ?_)
 generalize hid:("list_reverseiterator.__length_hint__":String)=id0
 wp_delta
 rw[show splitId id0=some ("list_reverseiterator","__length_hint__")from by subst hid;decide +kernel]
 subst hid
 refine DQ (wpAny_isInstance (T:="list_reverseiterator") (b:=true) hT (by rw[isSubtype_type];kernel_rfl) ?_)
 refine wpAny_ite_split (fun hab=>absurd hab (by decide)) (fun _=>?_)
 refine wpAny_ite_split (fun _=>?_) (fun hab=>absurd (by decide +kernel) hab)
 refine wpAny_ite_split (fun hab=>absurd hab (by decide +kernel)) (fun _=>?_)
 exact DR h
theorem Cu{R:Result->Shared->Prop}{items:Array Value}(hh:A.handled=none)(hne:d≠r)(hit:s.heap.IsRevIter r d ((items.size:Int)-1))(hl:s.heap.IsList d items)(S:Addr)(hSr:S≠r)(hSd:S≠d)(res:Value)(c₀:Nat)(hS:s.heap.get? S=some { cls:=.type "list",data:=.seq #[] c₀ })
  (hR:∀h' tk acc' c',(∀b o,b≠S->b≠r->s.heap.get? b=some o->h'.get? b=some o)->h'.get? S=some { cls:=.type "list",dict:=none,data:=.seq acc' c',slots:=#[] }->ItemsOf (fun i v=>items[items.size-1-i]?=some v) acc' items.size->R (.ok (.ret res)) { s with heap:=h',toks:=tk }) (hn:items.size<=sizeLine) :
  wpAny (model prog w) A.in1 (Builtin.List.listExtendWith (.ref S) (.ref r) res)
   (fun fin s'=>match fin with | .done f=>R (.ok f) s' | .again c'=>c'.quiet=true/\codeAny (model prog w) A c' R s') (fun e s'=>R (.error e) s') s:=by
 have hSf:S∉[r,d]:=by simp only[Ek,EF,or_false,not_or];exact⟨hSr,hSd⟩
 have W:=Walks.listRev (prog:=prog) (w:=w) (A:=A.in1) hh r d hne items
 have st:0<=items.size/\s.heap.IsRevIter r d ((items.size:Int)-1-((0:Nat):Int))/\s.heap.IsList d items:=⟨Nat.zero_le _,by rw[show (items.size:Int)-1-((0:Nat):Int)=(items.size:Int)-1 by omega];exact hit,hl⟩
 unfold Builtin.List.listExtendWith
 refine DQ (wpAny_typeOf (T:="list_reverseiterator") hit.typeIs ?_)
 have h1:Builtin.List.listSameRef (.ref S) (.ref r)=false:=by simp[Builtin.List.listSameRef,hSr]
 have h2:(Value.type "list_reverseiterator" == Value.type "list")=false:=by decide
 have h3:(Value.type "list_reverseiterator" == Value.type "tuple")=false:=by decide
 simp only[h1,h2,h3,Bool.or_false,Bool.false_eq_true,if_false]
 refine DQ (W.self 0 _ _ _ st ?_)
 refine DQ (wpAny_holding (yX hit.typeIs ?_))
 refine wpAny_ite_split (fun hab=>absurd hab (by decide +kernel)) (fun _=>?_)
 refine DR ⟨plainId_quiet PySem.F.plain_extend_loop _,?_⟩
 refine codeAny_extend_loopS W.toS hn S hSf res items.size 0 s #[] c₀ rfl (Nat.zero_le _) st hS (ItemsOf.nil _) fun s' acc' c' hm hS' hacc=>?_
 rw[Moved.eq_with hm]
 refine hR s'.heap s'.toks acc' c' (fun b o hb hb2 e=>hm.heap b o (fun hmem=>?_) e) hS' hacc
 rcases Ek.mp hmem with e' | hmem
 ·exact hb e'
 ·exact hb2 (Eg.mp hmem)
theorem zd{R:Result->Shared->Prop}{items:Array Value}(hh:A.handled=none)(hne:d≠r)(hit:s.heap.IsRevIter r d ((items.size:Int)-1))(hl:s.heap.IsList d items)(S:Addr)(hSr:S≠r)(hSd:S≠d)(hS:s.heap.get? S=some { cls:=.type "list",data:=.seq #[] })
  (hR:∀h' tk acc' c',(∀b o,b≠S->b≠r->s.heap.get? b=some o->h'.get? b=some o)->h'.get? S=some { cls:=.type "list",dict:=none,data:=.seq acc' c',slots:=#[] }->ItemsOf (fun i v=>items[items.size-1-i]?=some v) acc' items.size->R (.ok (.ret .none)) { s with heap:=h',toks:=tk }) (hn:items.size<=sizeLine) :
  wpAny (model prog w) A.in1 (Builtin.«list.__init__» ⟨[.ref S,.ref r],[]⟩)
   (fun fin s'=>match fin with | .done f=>R (.ok f) s' | .again c'=>c'.quiet=true/\codeAny (model prog w) A c' R s') (fun e s'=>R (.error e) s') s:=by
 show wpAny _ _ (do let old ←Builtin.List.listItems (.ref S);Builtin.List.listUpdate (.ref S) (fun _=>#[]);letGo old.toList.reverse;Builtin.List.listExtendWith (.ref S) (.ref r) .none) _ _ s
 refine DQ ?_
 unfold Builtin.List.listItems
 refine DQ (wpAny_seqItems hS rfl (DR ?_))
 show wpAny _ _ (updateSeq S (fun _=>#[]) >>= fun _=>letGo (#[]:Array Value).toList.reverse >>= fun _=>Builtin.List.listExtendWith (.ref S) (.ref r) .none) _ _ s
 refine DQ (wpAny_updateSeq hS rfl ?_)
 have hS₂:=Heap.get?_update_self (Obj.mapSeq (fun _=>(#[]:Array Value))) hS rfl
 have oth:∀b o,b≠S->s.heap.get? b=some o->(s.heap.update S (Obj.mapSeq (fun _=>(#[]:Array Value)))).get? b=some o:=
  fun b o hb e=>(Heap.get?_update_other _ _ (Ne.symm hb)).trans e
 refine DQ (wpAny_letGo ?_)
 refine Cu hh hne (hit.at fun o e=>oth _ _ hSr.symm e) (hl.at fun o e=>oth _ _ hSd.symm e) S hSr hSd .none _ hS₂ (fun h' tk acc' c' hk hS' hacc=>?_) hn
 exact hR h' tk acc' c' (fun b o hb hb2 e=>hk b o hb hb2 (oth b o hb e)) hS' hacc
theorem A9{Q:Value->Shared->Prop}{items:Array Value}(hh:A.handled=none)(hne:d≠r)(hit:s.heap.IsRevIter r d ((items.size:Int)-1))(hl:s.heap.IsList d items)(hn:items.size<=sizeLine)
  (hQ:∀h' tk acc' c',(∀b o,b≠r->s.heap.get? b=some o->h'.get? b=some o)->h'.get? s.heap.objs.size=some { cls:=.type "list",dict:=none,data:=.seq acc' c',slots:=#[] }->ItemsOf (fun i v=>items[items.size-1-i]?=some v) acc' items.size->Q (.ref s.heap.objs.size) { s with heap:=h',toks:=tk }) :
  wpAny (model prog w) A (call (.type "list") [.ref r]) Q E s:=by
 refine callType_codes (Q₁:=fun obj s₁=>obj=.ref s.heap.objs.size/\s₁={ s with heap:=s.heap.push { cls:=.type "list",data:=.seq #[] } }) PySem.F.called_list (PySem.F.typeCall_list_1 _) PySem.F.entry_list_init
  (code_list_new _ ⟨rfl,rfl⟩) fun obj s₁ h₁=>?_
 obtain⟨rfl,rfl⟩:=h₁
 have hS:(s.heap.push { cls:=.type "list",data:=.seq #[] }).get? s.heap.objs.size=some { cls:=.type "list",data:=.seq #[] }:=DU _ rfl
 have l1:r<s.heap.objs.size:=let ⟨o,ho,_⟩:=hit;DV ho
 have l2:d<s.heap.objs.size:=let ⟨o,ho,_⟩:=hl;DV ho
 refine⟨⟨_,hS,rfl⟩,PySem.F.args_list_init_2 _ _,zd (A:=A.in1) hh hne (hit.at fun o e=>DT _ e) (hl.at fun o e=>DT _ e) _ (Nat.ne_of_gt l1) (Nat.ne_of_gt l2) hS (fun h' tk acc' c' hk hS' hacc=>?_) hn⟩
 exact⟨rfl,hQ h' tk acc' c' (fun b o hb e=>hk b o (Eo (DV e)) hb (DT _ e)) hS' hacc⟩
end
theorem Az{its:List Value}{acc:Array Value}(h:ItemsOf (fun i v=>its.toArray[its.toArray.size-1-i]?=some v) acc its.toArray.size):acc=its.reverse.toArray:=by
 have h1:acc.size=its.length:=h.1.trans Eb
 have h2:=h.2
 refine Array.ext_getElem? fun i=>?_
 by_cases hi:i<acc.size
 ·have h3:=h2 i acc[i] (Array.getElem?_eq_getElem hi)
  rw[Array.getElem?_eq_getElem hi,←h3,List.getElem?_toArray,List.getElem?_toArray,Eb,List.getElem?_reverse (by omega)]
 ·rw[Array.getElem?_eq_none (by omega),List.getElem?_toArray,List.getElem?_eq_none (by rw[List.length_reverse];omega)]
section
variable {X:Cx}
def qr(K:DS)(te:TE):TE:=fun σ H Q=>te σ H fun x H1=>nI K x H1 Q
theorem yC{e:Expr}{te:TE}{p p2 pos pos2:Pos}(K:DS)(hc:X.calm=true)(hg:Gl X "list")(hm:X.mg "list" = none)(hg2:Gl X "reversed")(hm2:X.mg "reversed" = none)(he:PE X e te)(hK:X.K=K:=by rfl)
  (h1:starEach [e] X.env=(false,eval e X.env)::starEach [] X.env:=by rfl)
  (h2:starEach [.Call (.Name "reversed" p2) [e] [] pos2] X.env=(false,eval (.Call (.Name "reversed" p2) [e] [] pos2) X.env)::starEach [] X.env:=by rfl) :
  PE X (.Call (.Name "list" p) [.Call (.Name "reversed" p2) [e] [] pos2] [] pos) (qr K te):=by
 subst hK
 intro pins s σ H Q I h
 refine wpAny_Call_Name_kw (fL I hg hm PyProof.Rows.boot_list ?_ (by decide) (by decide))
 refine PyProof.Rows.callWith_type1 ?_ h2 rfl
 rw[h2]
 show wpAny _ _ (spliced ((false,eval (.Call (.Name "reversed" p2) [e] [] pos2) X.env)::backTo pos (starEach [] X.env))) _ _ s
 refine Calls.spliced_cons ?_
 refine wpAny_Call_Name_kw (fL I hg2 hm2 PyProof.Rows.boot_reversed ?_ (by decide) (by decide))
 refine PyProof.Rows.callWith_type1 ?_ h1 rfl
 rw[h1]
 show wpAny _ _ (spliced ((false,eval e X.env)::backTo pos2 (starEach [] X.env))) _ _ s
 refine Calls.spliced_cons (ay (he pins s σ H _ I h) fun u s1 ⟨x,H1,I1,r1,q1⟩=>?_)
 refine Calls.spliced_nil ?_
 obtain⟨a,xs,rfl,hx,q⟩:=q1
 cases r1
 obtain⟨its,r,pl,hz⟩:=I1.list hx
 have hlen:=r.length
 refine call_reversed_list pl.isList ?_
 refine Calls.spliced_nil ?_
 have la:a<s1.heap.objs.size:=let ⟨o,ho,_⟩:=pl.isList;DV ho
 have hsz:(s1.heap.push (revObj a ((its.toArray.size:Int)-1))).objs.size=s1.heap.objs.size+1:=Heap.size_push ..
 refine A9 (items:=its.toArray) (d:=a) (r:=s1.heap.objs.size) (I1.ok.hd hc) (Eo la) ⟨_,DU _ rfl,rfl,rfl⟩ (pl.isList.at fun o e=>DT _ e) (by rw[Eb];omega) fun h' tk acc' c' hk hS' hacc=>?_
 have hk':∀b o,s1.heap.get? b=some o->h'.get? b=some o:=fun b o e=>hk b o (Eo (DV e)) (DT _ e)
 have hle:s1.heap.objs.size<=(s1.heap.push (revObj a ((its.toArray.size:Int)-1))).objs.size:=by rw[hsz];exact Nat.le_succ _
 rw[Az hacc]at hS'
 exact⟨.ref _,_,I1.laid (t':=tk) (o:=.lst xs.reverse) hk' hle ⟨by rw[List.length_reverse];exact hz,_,c',r.rev,hS'⟩,rfl,q _ (I1.hok.fresh hle)⟩
def pG(tk tv:TE):TE:=fun σ H Q=>∀p,H p=none->tk σ (upd H p (.dT [])) fun x H1=>tv σ H1 fun v H2=>∃b k,x=.ref b/\H2 b=some (.tup (List.map kV k))/\H2 p=some (.dT [])/\Q (.ref p) (upd H2 p (.dT [(k,v)]))
theorem p7{ek ev:Expr}{tk tv:TE}{pos:Pos}(hu:X.A.units+1<cLine)(hk:PE X ek tk)(hv:PE X ev tv):PE X (.Dict [some ek] [ev] pos) (pG tk tv):=by
 intro pins s σ H Q I q
 have hn:=I.hok.fresh (Ep s.heap.objs.size)
 have I1:=I.laid (a:=s.heap.objs.size) (o:=.dT []) (h':=s.heap.push { cls:=.type "dict",data:=.dict #[] }) (t':=s.toks) (fun _ _ q=>DT _ q) (Ep _) (BB s.heap I.big)
 refine wpAny_Dict_any rfl rfl (by simp) (by simp) ?_
 refine pairTrees_cons_walk (ay (hk pins _ σ _ _ I1 (q _ hn)) fun u s1 ⟨x,H1,I1,rx,q1⟩=>ay (hv pins s1 σ H1 _ I1 q1) fun w2 s2 ⟨v,H2,I2,ry,q2⟩=>pairTrees_nil_walk ?_)
 obtain⟨b,k,rfl,hb,e,q3⟩:=q2
 cases(show u=Value.ref b from rx)
 obtain⟨z,hd,xs,rel,dd⟩:=qe I2.hok e
 have hz:xs.length<=sizeLine:=by rw[←Paired.length rel];exact Nat.zero_le _
 unfold storeAll
 rw[List.forIn_cons]
 refine DQ (DQ (wpAny_dictSet_heap (hsz:=hz) (show(tupleKind (aK X.prog X.w)).room X.A from Nat.lt_of_succ_lt hu) (ic I2.hok hb) dd fun h' dd' hs=>DR ?_))
 dsimp only
 rw[List.forIn_nil]
 refine DR ⟨.ref s.heap.objs.size,_,?_,rfl,q3⟩
 obtain⟨q,es,ep,hq,h2,h3,h4,_,h5⟩:=dd'
 refine mK I2 (by rw[e];exact True.intro) hs ⟨q,hq⟩ ⟨by rw[sizeLine_eq];simp,hd,_,(rel.put k hb ry).keeps fun c ys ec=>?_,q,es,ep,hq,h2,h3,h4,h5⟩
 rw[az (cL ec e (fun z=>nomatch z))]
 exact ec
theorem rd_lrev{K:DS}{te:TE}{σ:St}{H:Hp}{Q:VK}(h:te σ H fun x H1=>nI K x H1 Q):qr K te σ H Q:=h
theorem rd_disp1{tk tv:TE}{σ:St}{H:Hp}{Q:VK}(h:∀p,H p=none->tk σ (upd H p (.dT [])) fun x H1=>tv σ H1 fun v H2=>∃b k,x=.ref b/\H2 b=some (.tup (List.map kV k))/\H2 p=some (.dT [])/\Q (.ref p) (upd H2 p (.dT [(k,v)]))):pG tk tv σ H Q:=h
theorem rd_dnin{ty td:TE}{σ:St}{H:Hp}{Q:VK}(h:ty σ H fun y H1=>td σ H1 fun x H2=>∃a o,x=.ref a/\cN H2 a y o/\Q (.bl (!o.isSome)) H2):qA ty td σ H Q:=h
theorem rd_dput{td ty tv:TE}{D:Ends}{σ:St}{H:Hp}(h:tv σ H fun v H1=>td σ H1 fun x H2=>ty σ H2 fun y H3=>∃a H4,x=.ref a/\gw H3 a y v H4/\D.nx σ H4):we td ty tv D σ H:=h
end
end L2
namespace L2
open PySem PySem.Spec PyProof.Rows
section
variable {X:Cx}
theorem LitE.pe{e:Expr}{te:TE}(h:LitE e te):PE X e te:=
 LitE.rec (motive_1:=fun e te _=>PE X e te) (motive_2:=fun es ta _=>PA X es ta) gB bR af bD (fun _ ih=>aM ih) ae (fun h _ ih1 ih2=>aa ih1 ih2 (h.star _ _)) h
theorem kN{e:Expr}{te:TE}{es:List Expr}{t:TA}(h:LitE e te)(hr:PA X es t):PA X (e::es) (lr te t):=aa h.pe hr (h.star _ _)
end
end L2
namespace L2
open PySem PySem.Spec PyProof.Rows
section
variable {X:Cx} {tg:Expr}
end
section
variable {prog:Program} {w:World} {A:Around} {E:Value->Shared->Prop} {s:Shared}
end
section
variable {X:Cx} {tg:Expr}
end
end L2
namespace L2
open PySem PySem.Spec PyProof.Rows
section
variable {X:Cx}
end
def CQ(K:DS):List V->Hp->VK->Prop:=fun xs H Q=>∃(p:Addr) (bs:List Bool),xs=[.ref p]/\ag K H p (bs.map V.bl)/\Q (.bl (bs.any id)) H
theorem any_range(bs:List Bool):((List.range bs.length).any fun i=>bs.getD i false)=bs.any id:=by
 rw[EI,EH,EH]
 constructor
 ·rintro⟨i,hi,h⟩
  have hi':=List.mem_range.mp hi
  rw[List.getD_eq_getElem?_getD,DX hi']at h
  exact⟨_,Ez hi',h⟩
 ·rintro⟨b,hb,h⟩
  obtain⟨i,hi,e⟩:=List.mem_iff_getElem.mp hb
  refine⟨i,List.mem_range.mpr hi,?_⟩
  rw[List.getD_eq_getElem?_getD,DX hi,e]
  exact h
theorem BC{X:Cx}(K:DS)(hc:X.calm=true)(hK:X.K=K:=by rfl):bV X (.builtin "any") (CQ K):=by
 subst hK
 intro pins s σ H xs us Q I r h
 obtain⟨p,bs,rfl,hq,q⟩:=h
 obtain⟨u,rfl,rx⟩:=vals1 r
 cases rx
 obtain⟨its,rv,pl,hz⟩:=I.list hq
 have eb:=oR rv
 have hne:p≠s.heap.objs.size:=Eo (by obtain⟨o,n,e,_⟩:=pl;exact DV e)
 refine call_any_walk (wpAny_pyIter_list pl.isList ?_)
 have I1:Inv X pins σ H { s with heap:=s.heap.push { cls:=.type "list_iterator",data:=.fields #[.ref p,.int 0 0] } }:=I.kept (t':=s.toks) fun b o e=>DT _ e
 have hf:=I.fpOk (H':=H) (Ep s.heap.objs.size) I.fresh
 refine⟨s.heap.objs.size,_,_,_,_,_,(fun i=>bs.getD i false),rfl,Walks.list (A:=X.A.in1) (I.ok.hd hc) _ p hne its.toArray,⟨⟨_,DU _ rfl,rfl,rfl⟩,?_⟩,?_,fun h' tk hk=>?_⟩
 ·exact pl.isList.push _
 ·intro i v s' Q' E' hv hQ
  rw[eb]at hv
  have hv':(bs.map Value.bool)[i]?=some v:=by simpa using hv
  rw[DY]at hv'
  cases eg:bs[i]? with
  | none=>rw[eg]at hv';cases hv'
  | some b=>
   rw[eg]at hv'
   cases hv'
   have eb':bs.getD i false=b:=by rw[List.getD_eq_getElem?_getD,eg];rfl
   have hQ':Q' (bs.getD i false) s':=hQ
   rw[eb']at hQ'
   exact wpAny_truthy_bool hQ'
 ·obtain⟨f0,f1,f2,f3,f4,f5⟩:=hf
  have hl:=rv.length
  rw[DW]at hl
  refine⟨.bl (bs.any id),H,I1.turned (it:=s.heap.objs.size) (fun b o hb e=>hk b o (by simpa using hb) e) f0 f1 f3 f4 f5,?_,q⟩
  show Value.bool _=Value.bool _
  rw[Eb,←hl,any_range]
end L2
namespace L2
open PySem PySem.Spec PyProof.Rows
section
variable {X:Cx}
end
section
variable {X:Cx}
end
end L2
namespace L2
open PySem PySem.Spec PyProof.Rows
section
variable {X:Cx}
end
end L2
namespace L2
open PySem PySem.Spec PyProof.Rows
section
variable {P:Program} {w:World} {K:DS} {mg:Str->Option Value} {base:Heap}
end
section
variable {X:Cx}
end
end L2
namespace L2
open PySem PySem.Spec PyProof.Rows
section
variable {P:Program} {w:World} {A:Around} {E:Value->Shared->Prop} {s:Shared}
end
section
variable {P:Program} {w:World} {A:Around} {E:Value->Shared->Prop} {s:Shared}
end
end L2
namespace L2
open PySem PySem.Spec PyProof.Rows
section
variable {P:Program} {w:World} {A:Around} {E:Value->Shared->Prop} {s:Shared}
end
end L2
namespace L2
open PySem PySem.Spec PyProof.Rows
section
variable {X:Cx} {pins:List (Addr×Obj)} {σ:St} {H:Hp} {s:Shared}
end
section
variable {X:Cx}
end
end L2
namespace L2
open PySem PySem.Spec PyProof.Rows
section
variable {P:Program} {w:World} {A:Around} {E:Value->Shared->Prop} {s:Shared}
end
section
variable {X:Cx}
end
end L2
namespace L2
open PySem PySem.Spec PyProof.Rows
section
variable {X:Cx}
end
end L2
namespace L2
open PySem PySem.Spec PyProof.Rows
section
variable {X:Cx} {pins:List (Addr×Obj)} {σ:St} {H:Hp} {s:Shared}
end
section
variable {X:Cx}
end
end L2
namespace L2
open PySem PySem.Spec PyProof.Rows
section
variable {X:Cx}
end
end L2
namespace L2
open PySem PySem.Spec PyProof.Rows
end L2
namespace L2
open PySem PySem.Spec PyProof.Rows
section
variable {X:Cx} {x:Addr} {oe:Obj}
end
end L2
namespace L2
open PySem PySem.Spec PyProof.Rows
section
variable {prog:Program} {w:World} {A:Around} {E:Value->Shared->Prop} {s:Shared} {dd:Option Addr}
end
section
variable {X:Cx} {x:Addr} {oe:Obj}
end
end L2
namespace L2
open PySem PySem.Spec PyProof.Rows
section
variable {X:Cx}
end
end L2
namespace L2
open PySem PySem.Spec PyProof.Rows
section
variable {prog:Program} {w:World} {A:Around} {E:Value->Shared->Prop} {K:DS} {x D:Addr} {ox:Obj} {h:Heap} {g:Array GenState} {dr:Drawn} {t:Nat} {os:OsState}
variable {nm q:Str} {N:Addr} {bs bm bmB:List Value} {sn:List Str} {sub:List Value} {ab:Bool} {col:Option Bool} {dd:Option Addr} {k0 k1 k2 k3 k5:Option Value} {newId:String} {name:Str} {v:Value}
end
section
variable {prog:Program} {w:World} {A:Around} {E:Value->Shared->Prop} {h:Heap} {g:Array GenState} {d:Drawn} {t:Nat} {os:OsState}
variable {nm q:Str} {C N:Addr} {bs bm bmB:List Value} {hdct:Bool} {sn:List Str} {sub:List Value} {ab:Bool} {col:Option Bool} {dd:Option Addr} {k0 k1 k2 k3 k5:Option Value} {B newId initId:String} {K:DS}
end
section
variable {P:Program} {w:World} {A:Around} {E:Value->Shared->Prop} {K:DS} {s:Shared} {e C:Addr} {oe:Obj} {v:Value}
end
section
variable {M:Model} {A:Around} {E:Value->Shared->Prop} {env:Env} {nm q:Str} {C N:Addr} {bs bm bmB:List Value} {hdct:Bool} {sn:List Str} {sub:List Value} {ab:Bool} {col:Option Bool} {dd:Option Addr} {k0 k1 k2 k3 k5:Option Value} {newId:String}
end
section
variable {prog:Program} {w:World} {A:Around} {E:Value->Shared->Prop} {s:Shared} {env:Env} {K:DS} {nm q:Str} {C N:Addr} {bs bm bmB:List Value} {hdct:Bool} {sn:List Str} {sub:List Value} {ab:Bool} {col:Option Bool} {dd:Option Addr} {k0 k1 k2 k3 k5:Option Value} {B newId initId:String}
end
section
variable {P:Program} {w:World} {K:DS} {mg:Str->Option Value} {base:Heap} {N:List Str} {qual:Str} {scope:Scope} {f:Addr} {cd:Value} {A:Around} {outer:List Env} {s₀:Shared} {H₀:Hp} {E:XK}
end
end L2
namespace L2
open PySem PySem.Spec PyProof.Rows
section
variable {P:Program} {w:World} {K:DS} {mg:Str->Option Value} {base:Heap}
end
section
variable {Y:Cx} {x:Addr} {oe:Obj}
end
end L2
namespace L2
open PySem PySem.Spec PyProof.Rows
section
variable {prog:Program} {w:World} {A:Around} {E:Value->Shared->Prop} {K:DS} {x D:Addr} {ox:Obj} {od:Option Obj} {name:Str} {v:Value}
end
section
variable {X:Cx} {x D:Addr} {oe:Obj} {da:Option Addr}
end
end L2
namespace L2
open PySem PySem.Spec PyProof.Rows
section
variable {P:Program} {w:World} {A:Around} {E:Value->Shared->Prop} {s:Shared}
end
section
variable {P:Program} {w:World} {A:Around} {E:Value->Shared->Prop} {s:Shared}
end
end L2
namespace L2
open PySem PySem.Spec PyProof.Rows
section
variable {P:Program} {w:World} {A:Around} {E:Value->Shared->Prop} {s:Shared}
end
section
variable {X:Cx}
end
end L2
namespace L2
open PySem PySem.Spec PyProof.Rows
section
variable {prog:Program} {w:World} {A:Around} {E:Value->Shared->Prop} {s:Shared}
end
section
variable {prog:Program} {w:World} {A:Around} {E:Value->Shared->Prop} {s:Shared}
end
section
variable {X:Cx}
end
end L2
namespace L2
open PySem PySem.Spec PyProof.Rows
theorem iA{x:Str}{c:Addr}:∀(names:List (Str×NameKind)) (n:Nat) (acc:List (Str×Addr)),(cellsFrom n names acc).lookup x=some c->acc.lookup x=some c\/(n<=c/\(x,NameKind.cell)∈names)
 | [],_,_,h=>.inl h
 | (y,k)::r,n,acc,h=>by
  unfold cellsFrom at h
  by_cases hk:(k == NameKind.cell)=true
  ·rw[if_pos hk]at h
   have hk':k=.cell:=by simpa using hk
   subst hk'
   rcases iA r (n+1) ((y,n)::acc) h with h | ⟨h1,h2⟩
   ·rw[List.lookup_cons]at h
    cases hb:x == y with
    | true=>
     rw[hb]at h
     cases h
     rw[beq_iff_eq.mp hb]
     exact .inr ⟨Ep _,Ec⟩
    | false=>rw[hb]at h;exact .inl h
   ·exact .inr ⟨Nat.le_of_succ_le h1,DZ _ h2⟩
  ·rw[if_neg hk]at h
   rcases iA r n acc h with h | ⟨h1,h2⟩
   ·exact .inl h
   ·exact .inr ⟨h1,DZ _ h2⟩
theorem mw{x y:Str}{c:Addr}:∀(names:List (Str×NameKind)) (n:Nat) (acc:List (Str×Addr)),(∀x c,acc.lookup x=some c->@LT.lt Nat _ c n)->(∀x y c,acc.lookup x=some c->acc.lookup y=some c->x=y)->(cellsFrom n names acc).lookup x=some c->(cellsFrom n names acc).lookup y=some c->x=y
 | [],_,_,_,hi,h1,h2=>hi _ _ _ h1 h2
 | (z,k)::r,n,acc,hb,hi,h1,h2=>by
  unfold cellsFrom at h1 h2
  by_cases hk:(k == NameKind.cell)=true
  ·rw[if_pos hk]at h1 h2
   refine mw r (n+1) ((z,n)::acc) (fun x c h=>?_) (fun x y c h1 h2=>?_) h1 h2
   ·rw[List.lookup_cons]at h
    cases e:x == z with
    | true=>rw[e]at h;cases h;exact Nat.lt_succ_self _
    | false=>rw[e]at h;exact Nat.lt_succ_of_lt (hb x c h)
   ·rw[List.lookup_cons]at h1 h2
    cases e1:x == z with
    | true=>
     rw[e1]at h1
     cases h1
     cases e2:y == z with
     | true=>rw[beq_iff_eq.mp e1,beq_iff_eq.mp e2]
     | false=>rw[e2]at h2;exact absurd (hb _ _ h2) (Nat.lt_irrefl _)
    | false=>
     rw[e1]at h1
     cases e2:y == z with
     | true=>rw[e2]at h2;cases h2;exact absurd (hb _ _ h1) (Nat.lt_irrefl _)
     | false=>rw[e2]at h2;exact hi _ _ _ h1 h2
  ·rw[if_neg hk]at h1 h2
   exact mw r n acc hb hi h1 h2
section
variable {M:Model} {A:Around} {E:Value->Shared->Prop} {s:Shared}
end
section
variable {X:Cx} {pins:List (Addr×Obj)} {σ:St} {H:Hp} {s:Shared}
end
end L2
namespace L2
open PySem PySem.Spec PyProof.Rows
def cM(c:Addr)(o:Obj):HO:=.ext fun h=>h.get? c=some o
theorem yI{P:Program}{w:World}{H:Hp}{h:Heap}{c:Addr}{o:Obj}(r:h.get? c=some o):bo P w H h c (cM c o):=⟨r,⟨o,r⟩,fun h1 h2 r1 k=>k o r1⟩
def bz(cs:List (Addr×Obj))(H:Hp):Hp:=fun b=>match cs.lookup b with | some o=>some (cM b o) | none=>H b
def aW(cs:List (Addr×Obj))(H:Hp):Hp:=fun b=>match cs.lookup b with | some _=>none | none=>H b
section
variable {cs:List (Addr×Obj)} {H H':Hp} {b:Addr} {o:Obj} {P:Program} {w:World} {h h':Heap} {fs ex:List Addr}
theorem dZ(q:cs.lookup b=some o):bz cs H b=some (cM b o):=by unfold bz;rw[q]
theorem cD(q:cs.lookup b=none):bz cs H b=H b:=by unfold bz;rw[q]
theorem f9(q:cs.lookup b=some o):aW cs H b=none:=by unfold aW;rw[q]
theorem b8(q:cs.lookup b=none):aW cs H b=H b:=by unfold aW;rw[q]
theorem Cj{u:HO}(q:aW cs H b=some u):cs.lookup b=none/\H b=some u:=by
 cases e:cs.lookup b with
 | none=>rw[b8 e]at q;exact⟨rfl,q⟩
 | some o=>rw[f9 e]at q;cases q
theorem mr{u:HO}(hc:∀b o,cs.lookup b=some o->H b=none)(q:H b=some u):bz cs H b=some u:=by
 cases e:cs.lookup b with
 | none=>rw[cD e];exact q
 | some o=>rw[hc b o e]at q;cases q
theorem wF(hok:aY P w H h)(hc:∀b o,cs.lookup b=some o->h.get? b=some o)(hn:∀b o,cs.lookup b=some o->H b=none):aY P w (bz cs H) h:=fun b u e=>by
 cases q:cs.lookup b with
 | some o=>rw[dZ q]at e;cases e;exact yI (hc b o q)
 | none=>
  rw[cD q]at e
  exact(hok b u e).stay (fun d v _ g=>g) (fun d hd=>mr hn hd) fun d xs hd=>mr hn hd
theorem uq(hok:aY P w H h)(hc:∀b o,cs.lookup b=some o->H b=some (cM b o)):aY P w (aW cs H) h:=fun b u e=>by
 obtain⟨q,e⟩:=Cj e
 have nt:∀d x,H d=some x->(∀f,x≠.ext f)->aW cs H d=some x:=fun d x hd nx=>by
  cases z:cs.lookup d with
  | none=>rw[b8 z];exact hd
  | some o'=>rw[hc d o' z]at hd;cases hd;exact absurd rfl (nx _)
 exact(hok b u e).stay (fun d v _ g=>g) (fun d hd=>nt d _ hd fun f z=>by cases z) fun d xs hd=>nt d _ hd fun f z=>by cases z
theorem yE(u:Un fs ex (bz cs H) H' h h')(hok':aY P w H' h')(hc:∀b o,cs.lookup b=some o->h.get? b=some o)(hn:∀b o,cs.lookup b=some o->H b=none)(hc':∀b o,cs.lookup b=some o->H' b=some (cM b o)):Un fs ex H (aW cs H') h h' where
 keep:=fun b o e n nf nx=>by
  cases q:cs.lookup b with
  | none=>exact u.keep b o e (by rw[cD q];exact n) nf nx
  | some o'=>
   rw[hc b o' q]at e
   cases e
   exact(hok' b _ (hc' b _ q)).1
 slot:=fun b o e n nf nx=>by
  cases q:cs.lookup b with
  | none=>exact u.slot b o e (by rw[cD q];exact n) nf nx
  | some o'=>
   rw[hc b o' q]at e
   cases e
   exact⟨_,(hok' b _ (hc' b _ q)).1⟩
 free:=fun b o e n nx=>by
  cases q:cs.lookup b with
  | none=>rw[b8 q];exact u.free b o e (by rw[cD q];exact n) nx
  | some o'=>exact f9 q
 there:=u.there
 tups:=fun b xs e=>by
  cases q:cs.lookup b with
  | none=>rw[b8 q];exact u.tups b xs (by rw[cD q];exact e)
  | some o'=>rw[hn b o' q]at e;cases e
 frzs:=fun b o x e=>by
  cases q:cs.lookup b with
  | none=>rw[b8 q];exact u.frzs b o x (by rw[cD q];exact e)
  | some o'=>rw[hn b o' q]at e;cases e
 tbls:=fun b ps e=>by
  cases q:cs.lookup b with
  | none=>rw[b8 q];exact u.tbls b ps (by rw[cD q];exact e)
  | some o'=>rw[hn b o' q]at e;cases e
theorem Bb(u:Un fs ex (aW cs H) H' h h')(hc:∀b o,cs.lookup b=some o->H b=some (cM b o)):Un fs ex H (bz cs H') h h' where
 keep:=fun b o e n nf nx=>by
  cases q:cs.lookup b with
  | none=>exact u.keep b o e (by rw[b8 q];exact n) nf nx
  | some o'=>rw[hc b o' q]at n;cases n
 slot:=fun b o e n nf nx=>by
  cases q:cs.lookup b with
  | none=>exact u.slot b o e (by rw[b8 q];exact n) nf nx
  | some o'=>rw[hc b o' q]at n;cases n
 free:=fun b o e n nx=>by
  cases q:cs.lookup b with
  | none=>rw[cD q];exact u.free b o e (by rw[b8 q];exact n) nx
  | some o'=>rw[hc b o' q]at n;cases n
 there:=u.there
 tups:=fun b xs e=>by
  cases q:cs.lookup b with
  | none=>rw[cD q];exact u.tups b xs (by rw[b8 q];exact e)
  | some o'=>rw[hc b o' q]at e;cases e
 frzs:=fun b o x e=>by
  cases q:cs.lookup b with
  | none=>rw[cD q];exact u.frzs b o x (by rw[b8 q];exact e)
  | some o'=>rw[hc b o' q]at e;cases e
 tbls:=fun b ps e=>by
  cases q:cs.lookup b with
  | none=>rw[cD q];exact u.tbls b ps (by rw[b8 q];exact e)
  | some o'=>rw[hc b o' q]at e;cases e
end
structure FunR(P:Program)(w:World)(K:DS)(mg:Str->Option Value)(base:Heap)(k:Nat)(f:Addr)(pre:Hp->Prop)(R:List V->Hp->VK->Prop):Prop where
 at_:∀H h,aY P w H h->pre H->PySem.W.FnAt f h
 run:∀(A:Around) (outer:List Env) (s:Shared) (H:Hp) (us:List Value) (vs:List V) (Q:VK),Room k A->Env0 P w K mg base A outer s H->pre H->Vals vs us->R vs H Q →
  codeAny (model P w) A (.call (.ref f) ⟨us,[]⟩) (CR dm outer P w H s Q E0) s
def o5(P:Program)(w:World)(K:DS)(mg:Str->Option Value)(base:Heap)(k:Nat)(tf:TE)(ta:TA):TE:=fun σ H Q=>tf σ H fun fv H1=>∃f pre R,fv=.ref f/\FunR P w K mg base k f pre R/\pre H1/\ta σ H1 fun vs H2=>pre H2/\R vs H2 Q
theorem uY{X:Cx}{P:Program}{w:World}{K:DS}{mg:Str->Option Value}{base:Heap}{k:Nat}{x:Str}{p pos:Pos}{e:Expr}{es:List Expr}{tf:TE}{ta:TA}{A0:Around}(hr:Room k A0)(hf:PE X (.Name x p) tf)(ha:PA X (e::es) ta)(hA:X.A=A0:=by rfl)(hP:X.prog=P:=by rfl)(hw:X.w=w:=by rfl)(hK:X.K=K:=by rfl)(hm:X.mg=mg:=by rfl)(hB:X.base=base:=by rfl)
  (he:starEach (e::es) X.env=(false,eval e X.env)::starEach es X.env:=by rfl) (hpl:(backTo pos (starEach es X.env)).any (·.1)=false:=by rfl):PE X (.Call (.Name x p) (e::es) [] pos) (o5 P w K mg base k tf ta):=by
 subst hA
 subst hP
 subst hw
 subst hK
 subst hm
 subst hB
 intro pins s σ H Q I h
 refine wpAny_Call_Name_kw (ay (hf pins s σ H _ I h) fun fv s1 ⟨v,H1,I1,r1,⟨f,pre,R,ev,F,hp,q1⟩⟩=>?_)
 subst ev
 cases r1
 refine PySem.W.callWith_F (first:=[]) (F.at_ _ _ I1.hok hp) (ay (ha pos pins s1 σ H1 _ I1 q1) fun us s2 ⟨vs,H2,I2,r2,⟨hp2,q2⟩⟩=>?_) he hpl
 refine⟨F.at_ _ _ I2.hok hp2,?_⟩
 refine wpAny_call (codeAny_mono (F.run X.A X.stack s2 H2 us vs Q hr I2.env0 hp2 r2 q2) fun r s' hq=>?_)
 cases r with
 | error e=>exact False.elim hq
 | ok fl=>
  cases fl with
  | ret u=>exact I2.after hq
  | next=>exact False.elim hq
  | brk=>exact False.elim hq
  | cont=>exact False.elim hq
structure Cap where
 n:Str
 c:Addr
 o:Obj
 v:V
abbrev cellsOf(cp:List Cap):List (Addr×Obj):=cp.map fun e=>(e.c,e.o)
structure CapAt(X:Cx)(σ:St)(h:Heap)(js:List Nat)(cp:List Cap):Prop where
 len:cp.length=js.length
 at_:∀(i j:Nat) (e:Cap),js[i]?=some j->cp[i]?=some e->X.N[j]?=some e.n/\X.env.cells.lookup e.n=some e.c/\σ[j]?=some (some e.v)/\h.get? e.c=some e.o/\∃u,e.o.data=.cell (some u)/\RelV e.v u
theorem fS{cp:List Cap}{b:Addr}{o:Obj}(h:(cellsOf cp).lookup b=some o):∃e∈cp,e.c=b/\e.o=o:=by
 have hm:(b,o)∈cellsOf cp:=by
  have go:∀{l:List (Addr×Obj)},l.lookup b=some o->(b,o)∈l:=by
   intro l
   induction l with
   | nil=>intro h;cases h
   | cons x r ih=>
    intro h
    obtain⟨y,z⟩:=x
    rw[List.lookup_cons]at h
    cases hb:b == y with
    | true=>rw[hb]at h;cases h;rw[beq_iff_eq.mp hb];exact Ec
    | false=>rw[hb]at h;exact DZ _ (ih h)
  exact go h
 obtain⟨e,he,eq⟩:=List.mem_map.mp hm
 cases eq
 exact⟨e,he,rfl,rfl⟩
theorem CU{cp:List Cap}{e:Cap}(h:e∈cp):∃o,(cellsOf cp).lookup e.c=some o:=by
 induction cp with
 | nil=>cases h
 | cons x r ih=>
  show ∃o,List.lookup e.c ((x.c,x.o)::cellsOf r)=some o
  rw[List.lookup_cons]
  cases hb:e.c == x.c with
  | true=>exact⟨_,rfl⟩
  | false=>
   rcases Ek.mp h with rfl | h
   ·simp at hb
   ·exact ih h
def ji(sc:Scope)(N:List Str)(js:List Nat):Bool:=js.all fun j=>decide (j<N.length) && (sc.names.lookup (N.getD j "") == some .cell)
section
variable {X:Cx} {pins:List (Addr×Obj)} {σ:St} {H:Hp} {s:Shared}
theorem Inv.capAt(I:Inv X pins σ H s):∀{js:List Nat},ji X.env.scope X.N js=true->(∀j∈js,∃v,σ[j]?=some (some v))->∃cp,CapAt X σ s.heap js cp
 | [],_,_=>⟨[],rfl,fun i j e h=>by simp at h⟩
 | j::js,hj,hv=>by
  have hj2:(decide (j<X.N.length) && (X.env.scope.names.lookup (X.N.getD j "") == some .cell))=true/\ji X.env.scope X.N js=true:=by
   simpa[ji]using hj
  obtain⟨cp,hcp⟩:=I.capAt (js:=js) hj2.2 fun i hi=>hv i (DZ _ hi)
  obtain⟨v,ev⟩:=hv j Ec
  have h1:=hj2.1
  simp only[EJ,decide_eq_true_eq,beq_iff_eq]at h1
  have eN:X.N[j]?=some (X.N.getD j ""):=by
   rw[List.getD_eq_getElem?_getD,DX h1.1]
   rfl
  obtain⟨m,hn,hl⟩:=I.loc
  obtain⟨u,r,l⟩:=hl j _ v eN ev (.inr (.inl h1.2))
  rcases l with⟨z,_⟩ | ⟨_,c,hc,o,ho,hd⟩
  ·have z':X.env.scope.names.lookup (X.N.getD j "")=some .local:=z
   rw[h1.2]at z'
   cases z'
  ·refine⟨⟨X.N.getD j "",c,o,v⟩::cp,by simp[hcp.len],fun i k e h2 h3=>?_⟩
   cases i with
   | zero=>
    cases h2
    cases h3
    exact⟨eN,hc,ev,ho,u,hd,r⟩
   | succ i=>
    simp at h2 h3
    exact hcp.at_ i k e h2 h3
theorem CapAt.mem{js:List Nat}{cp:List Cap}{h:Heap}(C:CapAt X σ h js cp){e:Cap}(he:e∈cp):X.env.cells.lookup e.n=some e.c/\h.get? e.c=some e.o/\∃u,e.o.data=.cell (some u)/\RelV e.v u:=by
 obtain⟨i,hi⟩:=List.getElem?_of_mem he
 have hl:i<js.length:=by rw[←C.len];exact(Ee.mp hi).1
 obtain⟨_,h2,_,h4,h5⟩:=C.at_ i _ e (DX hl) hi
 exact⟨h2,h4,h5⟩
theorem zT{k:Nat}{f:Addr}{fd:FuncData}{ps:List Str}{sp:Sp}{Q:VK}{us:List Value}{vs:List V}{js:List Nat}{cp:List Cap}(F:FnOk X.prog X.w X.K X.mg X.base dm k f fd ps sp)(hr:Room k X.A)(hb:Binds X.K fd ps [])
  (I:Inv X pins σ H s) (C:CapAt X σ s.heap js cp) (hfn:∀e∈cp,X.fn e.n=true) (r:Vals vs us)
  (h:sp vs (bz (cellsOf cp) H) (fun v H'=>(∀b o,(cellsOf cp).lookup b=some o->H' b=some (cM b o))/\Q v (aW (cellsOf cp) H')) E0):wpAny (model X.prog X.w) X.A (call (.ref f) us) (EP X pins σ Q) X.xe s:=by
 have hc:∀b o,(cellsOf cp).lookup b=some o->s.heap.get? b=some o:=fun b o e=>by
  obtain⟨x,hx,rfl,rfl⟩:=fS e
  exact(C.mem hx).2.1
 have hn:∀b o,(cellsOf cp).lookup b=some o->H b=none:=fun b o e=>by
  obtain⟨x,hx,rfl,rfl⟩:=fS e
  exact I.freeC _ _ (C.mem hx).1
 have hab:∀b o,(cellsOf cp).lookup b=some o->X.s₀.heap.objs.size<=b:=fun b o e=>by
  obtain⟨x,hx,rfl,rfl⟩:=fS e
  exact I.ok.cab _ _ (hfn x hx) (C.mem hx).1
 have e0:=I.env0
 have e1:Env0 X.prog X.w X.K X.mg X.base X.A X.stack s (bz (cellsOf cp) H):=by
  refine⟨e0.frames,e0.mod,fun b o e=>⟨(e0.bs b o e).1,?_⟩,e0.bsz,e0.funs,fun b hb'=>?_,wF e0.hok hc hn,e0.bare⟩
  ·cases q:(cellsOf cp).lookup b with
   | none=>rw[cD q];exact(e0.bs b o e).2
   | some o'=>exact absurd (ED (DV (I.ok.bs b o e).1) (hab b o' q)) (Nat.lt_irrefl _)
  ·cases q:(cellsOf cp).lookup b with
   | none=>rw[cD q];exact e0.frf b hb'
   | some o'=>
    exfalso
    rcases Ek.mp (I.stkSub b hb')with z | z
    ·obtain⟨m,⟨ob,es,ep,ho,hd,_⟩,_⟩:=I.loc
     obtain⟨x,hx,rfl,rfl⟩:=fS q
     obtain⟨_,g,u,hu,_⟩:=C.mem hx
     rw[←z,g]at ho
     cases ho
     rw[hu]at hd
     cases hd
    ·obtain⟨_,ob,ho,_⟩:=I.ok.funs.mem z
     exact absurd (ED (DV ho) (hab b o' q)) (Nat.lt_irrefl _)
 have hl:us.length=ps.length:=by rw[←r.length];exact F.len _ _ _ _ h
 refine wpAny_call (codeAny_mono (F.run X.A X.stack s (bz (cellsOf cp) H) ⟨us,[]⟩ us vs _ E0 hr e1 (by have:=hb s us I.kIn (by simpa using hl);rw[List.append_nil]at this;exact this) r h) fun r s' hq=>?_)
 cases r with
 | error e=>exact False.elim hq
 | ok fl=>
  cases fl with
  | ret u=>
   obtain⟨v,H',os,bare,un,hok,rv,hc',q⟩:=hq
   exact I.after ⟨v,aW (cellsOf cp) H',os,bare,yE un hok hc hn hc',uq hok hc',rv,q⟩
  | next=>exact False.elim hq
  | brk=>exact False.elim hq
  | cont=>exact False.elim hq
def iG(sp:Sp)(js:List Nat)(cells:List (Str×Addr))(N:List Str)(ta:TA):TE:=fun σ H Q=>ta σ H fun vs H1=>(∀j∈js,∃v,σ[j]?=some (some v)) ∧
 ∀cp:List Cap,cp.length=js.length->(∀(i j:Nat) (e:Cap),js[i]?=some j->cp[i]?=some e->N[j]?=some e.n/\cells.lookup e.n=some e.c/\σ[j]?=some (some e.v)/\H1 e.c=none/\∃u,e.o.data=.cell (some u)/\RelV e.v u) →
  sp vs (bz (cellsOf cp) H1) (fun v H'=>(∀b o,(cellsOf cp).lookup b=some o->H' b=some (cM b o))/\Q v (aW (cellsOf cp) H')) E0
theorem oM{x:Str}{k j:Nat}{ps:List Str}{sp:Sp}{e:Expr}{es:List Expr}{t:TA}{p pos:Pos}(js:List Nat)(C:Cal X.prog X.w X.K X.mg X.base x j ps sp)(hr:Room k X.A)(ha:PA X (e::es) t)(hjk:j<=k:=by decide)(hg:Gl X x:=by rfl)(hdb:(x == ("__debug__":Str))=false:=by decide)
  (hj:ji X.env.scope X.N js=true:=by rfl) (hfn:∀y,X.fn y=true:=by intro _;rfl)
  (he:starEach (e::es) X.env=(false,eval e X.env)::starEach es X.env:=by rfl) (hpl:(backTo pos (starEach es X.env)).any (·.1)=false:=by rfl) :
  PE X (.Call (.Name x p) (e::es) [] pos) (iG sp js X.env.cells X.N t):=by
 obtain⟨f,fd,hm,hk,hb,F⟩:=C.ex
 intro pins s σ H Q I h
 refine wpAny_Call_Name_kw (iW I hg hm ?_ hdb)
 refine PySem.W.callWith_K (h₀:=X.base) I.ok.mod.kin hk (ay (ha pos pins s σ H _ I h) fun us s1 ⟨vs,H1,I1,r,hv,q⟩=>⟨I1.kIn,?_⟩) he hpl
 obtain⟨cp,hcp⟩:=I1.capAt hj hv
 refine zT F (hr.mono hjk) hb I1 hcp (fun e _=>hfn _) r (q cp hcp.len fun i j e h1 h2=>?_)
 obtain⟨a1,a2,a3,_,a5⟩:=hcp.at_ i j e h1 h2
 exact⟨a1,a2,a3,I1.freeC _ _ a2,a5⟩
end
end L2
namespace L2
open PySem PySem.Spec PyProof.Rows
def dJ(f c:Addr)(q:Str)(params:Arguments)(body:Expr)(scope:Scope)(cl:List (Str×Addr)):HO:=.ext fun h=>∃pm ctv,h.get? f=some (PySem.W.kla_obj "<lambda>" q params body scope cl pm c ctv)
theorem wJ{P:Program}{w:World}{H:Hp}{h:Heap}{f c:Addr}{q:Str}{params:Arguments}{body:Expr}{scope:Scope}{cl:List (Str×Addr)}{pm ctv:Value}(r:h.get? f=some (PySem.W.kla_obj "<lambda>" q params body scope cl pm c ctv)):bo P w H h f (dJ f c q params body scope cl):=
 ⟨⟨pm,ctv,r⟩,⟨_,r⟩,fun h1 h2 ⟨a,b,g⟩ k=>⟨a,b,k _ g⟩⟩
def iS(sc:Scope):Bool:=sc.names.all fun p=>sc.names.lookup p.1 == some p.2
def nO(sc out:Scope):Bool:=sc.names.all fun p=>p.2 != .free || out.names.lookup p.1 == some .cell || out.names.lookup p.1 == some .free
theorem sP{sc:Scope}(h:iS sc=true){p:Str×NameKind}(hp:p∈sc.names):sc.names.lookup p.1=some p.2:=by simpa using EG.mp h p hp
theorem uE{sc out:Scope}(h:nO sc out=true){p:Str×NameKind}(hp:p∈sc.names)(hf:p.2=.free):out.names.lookup p.1=some .cell\/out.names.lookup p.1=some .free:=by
 have:=EG.mp h p hp
 simp[hf]at this
 exact this
structure ClOk(sc:Scope)(cells cl:List (Str×Addr)):Prop where
 one:iS sc=true
 fr:∀x c,cl.lookup x=some c->sc.names.lookup x=some .free/\cells.lookup x=some c
 has:∀x,sc.names.lookup x=some .free->∃c,cl.lookup x=some c
 inj:∀x y c,cl.lookup x=some c->cl.lookup y=some c->x=y
theorem yY{X:Cx}(ok:X.Ok){sc:Scope}(hsc:iS sc=true)(ho:nO sc X.env.scope=true):ClOk sc X.env.cells (dg sc.names X.env.cells):=by
 have fr:∀x c,(dg sc.names X.env.cells).lookup x=some c->sc.names.lookup x=some .free/\X.env.cells.lookup x=some c:=fun x c h=>by
  rcases n5 X.env.cells sc.names [] x c h with⟨h1,h2⟩ | h1
  ·obtain⟨d,hd⟩:=ok.has x (uE ho h1 rfl)
   refine⟨sP hsc h1,?_⟩
   rw[hd]at h2 ⊢
   rw[h2]
   rfl
  ·simp at h1
 exact⟨hsc,fr,fun x h=>kY (gU h),fun x y c h1 h2=>ok.inj x y c (fr x c h1).2 (fr y c h2).2⟩
section
variable {X:Cx} {pins:List (Addr×Obj)} {σ:St} {H:Hp} {s:Shared}
theorem Cy{cl:List (Str×Addr)}{P c f:Addr}{ps more:Array Value}{q:Str}{params:Arguments}{body:Expr}{scope:Scope}{pm ctv:Value}{h':Heap}{tk:Nat}(I:Inv X pins σ H s)(hP:H P=some (.tbl ps))(b:Heap.ExtBut P s.heap h')(hc:s.heap.objs.size<=c)(hcf:c<f)(gP:h'.get? P=some { cls:=.none,data:=.fields (ps++more) })
  (gc:h'.CodeRec (.ref c) q) (gf:h'.get? f=some (PySem.W.kla_obj "<lambda>" q params body scope cl pm c ctv)) :
  Inv X pins σ (upd (upd (upd H P (.tbl (ps++more))) c (fD c q)) f (dJ f c q params body scope cl)) { s with heap:=h',toks:=tk }:=by
 have hf:@LE.le Nat _ s.heap.objs.size f:=EE hc (Nat.le_of_lt hcf)
 have nc:H c=none:=I.hok.fresh hc
 have nf:H f=none:=I.hok.fresh hf
 have cf:f≠c:=Nat.ne_of_gt hcf
 have Pc:c≠P:=fun z=>by rw[z,hP]at nc;cases nc
 have Pf:f≠P:=fun z=>by rw[z,hP]at nf;cases nf
 have old:∀b o,H b=some o->b≠P->upd (upd (upd H P (.tbl (ps++more))) c (fD c q)) f (dJ f c q params body scope cl) b=some o:=fun b o e n=>by
  rw[az (bO e nf),az (bO e nc),az n];exact e
 have nP:∀b,H b=none->b≠P:=fun b e z=>by rw[z,hP]at e;cases e
 refine I.un ⟨fun b' o e n _ _=>b b' o (nP b' n) e,fun b' o e n _ _=>⟨o.slots,b b' o (nP b' n) e⟩,fun b' o e n _=>?_,fun b' o e _=>?_,fun b' xs e=>old b' _ e (fun z=>by rw[z,hP]at e;cases e),fun b' o u e=>old b' _ e (fun z=>by rw[z,hP]at e;cases e),fun b' qs e=>?_⟩ fun b' u e=>?_
 ·have lt:@LT.lt Nat _ b' s.heap.objs.size:=DV e
  rw[az (Eo (ED lt hf)),az (Eo (ED lt hc)),az (nP b' n)];exact n
 ·by_cases z:b'=P
  ·rw[z];exact⟨_,gP⟩
  ·exact⟨o,b b' o z e⟩
 ·by_cases z:b'=P
  ·subst z
   rw[hP]at e
   cases e
   exact⟨more,by rw[az (Ne.symm Pf),az (Ne.symm Pc),aL]⟩
  ·exact⟨#[],by rw[old b' _ e z];simp⟩
 ·by_cases z:b'=f
  ·subst z
   rw[aL]at e
   cases e
   exact wJ gf
  ·rw[az z]at e
   by_cases z2:b'=c
   ·subst z2
    rw[aL]at e
    cases e
    exact xJ gc
   ·rw[az z2]at e
    by_cases z3:b'=P
    ·subst z3
     rw[aL]at e
     cases e
     exact gP
    ·rw[az z3]at e
     refine(I.hok b' u e).stay (fun d v hd g=>b d v ?_ g) (fun d hd=>old d _ hd (fun y=>by rw[y,hP]at hd;cases hd)) fun d xs hd=>old d _ hd (fun y=>by rw[y,hP]at hd;cases hd)
     rcases hd with rfl | hd
     ·exact z3
     ·exact fun y=>by rw[y,hP]at hd;cases hd
end
def oJ(P:Addr)(pos:Pos)(q:Str)(params:Arguments)(body:Expr)(scope:Scope)(cells:List (Str×Addr))(H:Hp)(Q:VK):Prop:=∀cl,ClOk scope cells cl →
 (H P=some (.tbl #[])/\∀f c,H c=none->H f=none->c≠P->f≠P->f≠c->Q (.ref f) (upd (upd (upd H P (.tbl #[rawInt pos.line,rawInt pos.col,.ref c])) c (fD c q)) f (dJ f c q params body scope cl))) ∨
 ∃c,H P=some (.tbl #[rawInt pos.line,rawInt pos.col,.ref c])/\H c=some (fD c q)/\∀f,H f=none->Q (.ref f) (upd H f (dJ f c q params body scope cl))
def rA(P:Addr)(pos:Pos)(q:Str)(params:Arguments)(body:Expr)(scope:Scope)(cells:List (Str×Addr)):TE:=fun _ H Q=>oJ P pos q params body scope cells H Q
theorem mf{X:Cx}{params:Arguments}{body:Expr}{scope:Scope}{pos:Pos}{c P:Addr}(hcode:X.env.code=.ref c)(hgl:X.env.globals=mainGlobals)(C:PySem.W.CodeHd X.base c P)(hB:X.base.BuiltinsAt X.mg P)(hgP:mainGlobals≠P)(hsc:iS scope=true)(hout:nO scope X.env.scope=true)
  (hd0:params.defaults=[]) (hk0:params.kw_defaults=[]):PE X (.Lambda params body scope pos) (rA P pos (X.env.qual ++ "<lambda>") params body scope X.env.cells):=by
 intro pins s σ H Q I h
 rw[arm_eval_Lambda,PySem.defaultsOf_eq,hk0,hd0]
 refine DQ (DR (DQ (wpAny_holding (DR ?_))))
 have hcl:closureFor scope X.env=pure (dg scope.names X.env.cells):=nT fun p hp hf=>I.ok.has p.1 (uE hout hp hf)
 have h:=h _ (yY I.ok hsc hout)
 have C':PySem.W.CodeHd s.heap c P:=C.keeps fun b o e=>(I.bs b o e).1
 have hg:s.heap.Ns mainGlobals X.mg:=by
  obtain⟨o,es,ep,e,r⟩:=I.ok.mod.glob
  exact⟨o,es,ep,(I.bs _ _ e).1,r⟩
 have hb:s.heap.BuiltinsAt X.mg P:=by
  obtain⟨bm,o,a1,a2,a3,a4,a5,a6⟩:=hB
  exact⟨bm,o,a1,a2,a3,a4,(I.bs _ _ a5).1,a6⟩
 rcases h with⟨hP,q⟩ | ⟨c',hP,hc',q⟩
 ·have gP:s.heap.get? P=some (PySem.W.tabObj #[]):=I.hok P _ hP
  refine PySem.W.kla_makeFunction hcl hgl hg hcode C' gP trivial rfl hgP hb fun c' ctv h' tk hx hge hlt hrec htb=>?_
  have nc:H c'=none:=I.hok.fresh hge
  have hf:@LE.le Nat _ s.heap.objs.size h'.objs.size:=EE hge (Nat.le_of_lt hlt)
  have nf:H h'.objs.size=none:=I.hok.fresh hf
  have lP:@LT.lt Nat _ P s.heap.objs.size:=DV gP
  have J:=Cy (cl:=dg scope.names X.env.cells) (tk:=tk) (f:=h'.objs.size) (h':=h'.push (PySem.W.kla_obj "<lambda>" (X.env.qual ++ "<lambda>") params body scope (dg scope.names X.env.cells) ((X.mg "__name__").getD .none) c' ctv)) (more:=#[rawInt pos.line,rawInt pos.col,.ref c']) I hP (fun b o n e=>DT _ (hx b o n e)) hge hlt (DT _ htb) (hrec.push _) (DU _ rfl)
  rw[Array.empty_append]at J
  exact⟨.ref h'.objs.size,_,J,rfl,q _ c' nc nf (Nat.ne_of_gt (ED lP hge)) (Nat.ne_of_gt (ED lP hf)) (Nat.ne_of_gt hlt)⟩
 ·have gP:s.heap.get? P=some (PySem.W.tabObj #[rawInt pos.line,rawInt pos.col,.ref c']):=I.hok P _ hP
  refine PySem.W.kla_makeFunctionHit (cv:=.ref c') hcl hgl hg hcode C' gP trivial (by simp[codeAmong,rawInt]) hb fun ctv h' tk hx hge=>?_
  exact⟨.ref h'.objs.size,_,I.laid (t':=tk) (o:=dJ h'.objs.size c' (X.env.qual ++ "<lambda>") params body scope (dg scope.names X.env.cells)) (fun b o e=>DT _ (hx b o e)) hge (wJ (DU _ rfl)),rfl,q _ (I.hok.fresh hge)⟩
theorem mW{cells:List (Str×Addr)}{K:DS}{x q:Str}{params:Arguments}{body:Expr}{scope:Scope}{H:Hp}{Q:VK}{c T:Addr}{pos:Pos}(ht:df K x q pos.line pos.col H)(e:PySem.W.tabIn K x=some (c,T))
  (h:∀f c' cl H',ClOk scope cells cl->Et H H'->df K x q pos.line pos.col H'->(∀y q2 l2 k2,(∀c2 T2,PySem.W.tabIn K y=some (c2,T2)->T2≠T)->df K y q2 l2 k2 H->df K y q2 l2 k2 H')->H' f=some (dJ f c' q params body scope cl)->H' c'=some (fD c' q)->Q (.ref f) H'):oJ T pos q params body scope cells H Q:=by
 intro cl hcl
 rcases ht c T e with hT | ⟨c',hT,hc'⟩
 ·refine .inl ⟨hT,fun f c' nc nf cT fT fc=>?_⟩
  have old:∀b o,H b=some o->b≠T->upd (upd (upd H T (.tbl #[rawInt pos.line,rawInt pos.col,.ref c'])) c' (fD c' q)) f (dJ f c' q params body scope cl) b=some o:=fun b o hb n=>by
   rw[az (bO hb nf),az (bO hb nc),az n]
   exact hb
  refine h f c' cl _ hcl (fun b o hb n=>old b o hb fun z=>by rw[z,hT]at hb;cases hb;exact n _ rfl) (fun c2 T2 e2=>.inr ⟨c',?_,?_⟩) (fun y q2 l2 k2 hn hy c2 T2 e2=>?_) aL ?_
  ·rw[e]at e2
   cases e2
   rw[az (Ne.symm fT),az (Ne.symm cT),aL]
  ·rw[az (Ne.symm fc),aL]
  ·rcases hy c2 T2 e2 with g | ⟨c3,g1,g2⟩
   ·exact .inl (old _ _ g (hn c2 T2 e2))
   ·exact .inr ⟨c3,old _ _ g1 (hn c2 T2 e2),old _ _ g2 fun z=>by rw[z,hT]at g2;cases g2⟩
  ·rw[az (Ne.symm fc),aL]
 ·refine .inr ⟨c',hT,hc',fun f nf=>?_⟩
  have ex:Ext H (upd H f (dJ f c' q params body scope cl)):=bw nf
  exact h f c' cl _ hcl ex.et (df.ext ex ht) (fun y q2 l2 k2 _ hy=>hy.ext ex) aL (ex _ _ hc')
theorem m9{P:Addr}{pos:Pos}{q:Str}{params:Arguments}{body:Expr}{scope:Scope}{cells:List (Str×Addr)}{σ:St}{H:Hp}{Q:VK}(h:oJ P pos q params body scope cells H Q):rA P pos q params body scope cells σ H Q:=h
end L2
namespace L2
open PySem PySem.Spec PyProof.Rows
theorem iZ{x:Str}{c:Addr}:∀(names:List (Str×NameKind)) (n:Nat) (a acc:List (Str×Addr)),(cellsFrom n names (a++acc)).lookup x=some c->acc.lookup x=some c\/(cellsFrom n names a).lookup x=some c
 | [],_,a,acc,h=>by
  unfold cellsFrom at h ⊢
  rw[List.lookup_append]at h
  cases q:a.lookup x with
  | none=>rw[q]at h;exact .inl h
  | some d=>rw[q]at h;exact .inr h
 | (y,k)::r,n,a,acc,h=>by
  unfold cellsFrom at h ⊢
  by_cases hk:(k == NameKind.cell)=true
  ·rw[if_pos hk]at h ⊢
   exact iZ r (n+1) ((y,n)::a) acc h
  ·rw[if_neg hk]at h ⊢
   exact iZ r n a acc h
structure InL(s₀:Shared)(L:Addr)(m:Str->Option Value)(own:List (Str×Addr))(cm:Str->Option Value)(s:Shared):Prop where
 same:∃h' tk,s={ s₀ with heap:=h',toks:=tk }
 ns:s.heap.Ns L m
 keep:∀b o,s₀.heap.get? b=some o->s.heap.get? b=some o
 fresh:s₀.heap.objs.size<=L
 cell:∀n c,own.lookup n=some c->s.heap.IsCell c (cm n)
 apart:own.Pairwise fun x y=>x.2≠y.2
 above:∀n c,(n,c)∈own->L<c
section
variable {M:Model} {A:Around} {E:Value->Shared->Prop} {s₀ s:Shared} {m cm:Str->Option Value} {env:Env} {own:List (Str×Addr)}
theorem InL.st{n:Str}{v:Value}{Q:Unit->Shared->Prop}(x:InL s₀ env.locals m own cm s)(hk:env.scope.kind=.function)(hl:env.kindOf n=some .local)
  (h:∀s',InL s₀ env.locals (fun y=>if y=n then some v else m y) own cm s'->Q () s'):wpAny M A (storeName env n v) Q E s:=by
 refine wpAny_storeName_local hl x.ns (fun h' hn' hs'=>h _ ⟨?_,hn',fun b o e=>?_,x.fresh,fun k c hc=>?_,x.apart,x.above⟩) (by rw[hk];rfl)
 ·obtain⟨h₁,tk,rfl⟩:=x.same
  exact⟨h',_,rfl⟩
 ·exact hs'.extBut b o (Eo (ED (DV e) x.fresh)) (x.keep b o e)
 ·exact(x.cell k c hc).sameBut hs' (Nat.ne_of_gt (x.above k c (PySem.mem_of_lookup hc)))
theorem InL.stC{n:Str}{c:Addr}{v:Value}{Q:Unit->Shared->Prop}(x:InL s₀ env.locals m own cm s)(hk:env.scope.kind=.function)(hl:env.kindOf n=some .cell)
  (hc:env.cells.lookup n=some c) (ho:own.lookup n=some c)
  (h:∀s',InL s₀ env.locals m own (fun y=>if y=n then some v else cm y) s'->Q () s'):wpAny M A (storeName env n v) Q E s:=by
 have hLc:=x.above n c (PySem.mem_of_lookup ho)
 refine wpAny_storeName_cell hk hl hc (x.cell n c ho) fun h' hc' hs'=>h _ ⟨?_,x.ns.sameBut hs' (Eo hLc),fun b o e=>?_,x.fresh,fun k c' hk'=>?_,x.apart,x.above⟩
 ·obtain⟨h₁,tk,rfl⟩:=x.same
  exact⟨h',_,rfl⟩
 ·exact hs'.extBut b o (Eo (Nat.lt_trans (ED (DV e) x.fresh) hLc)) (x.keep b o e)
 ·by_cases hkn:k=n
  ·subst hkn
   rw[ho]at hk';cases hk'
   simpa using hc'
  ·rw[if_neg hkn]
   exact(x.cell k c' hk').sameBut hs' fun e=>hkn (name_of_addr x.apart (PySem.mem_of_lookup hk') (e ▸ PySem.mem_of_lookup ho))
theorem InL.binds(f:Str×Value->PUnit->Sem (ForInStep PUnit))(hf:∀n v u,f (n,v) u=(do storeName env n v;pure (.yield ⟨⟩)))(hk:env.scope.kind=.function):
  ∀(binds:List (Str×Value)) (m cm:Str->Option Value) (s:Shared) (Q:PUnit->Shared->Prop),InL s₀ env.locals m own cm s →
   (∀x∈binds,env.kindOf x.1=some .local\/(env.kindOf x.1=some .cell/\∃c,env.cells.lookup x.1=some c/\own.lookup x.1=some c)) →
   (∀s',InL s₀ env.locals (bindL env.kindOf binds m) own (bindC env.kindOf binds cm) s'->Q ⟨⟩ s')->wpAny M A (forIn binds ⟨⟩ f) Q E s
 | [],m,cm,s,Q,x,_,h=>by rw[List.forIn_nil];exact DR (h s x)
 | (n,v)::r,m,cm,s,Q,x,hkind,h=>by
  rw[List.forIn_cons,hf]
  have hr:∀y∈r,env.kindOf y.1=some .local\/(env.kindOf y.1=some .cell/\∃c,env.cells.lookup y.1=some c/\own.lookup y.1=some c):=fun y hy=>hkind y (DZ _ hy)
  rcases hkind (n,v) Ec with hl | ⟨hl,c,hc,ho⟩
  ·refine DQ (DQ (InL.st x hk hl fun s' x'=>DR (InL.binds f hf hk r _ _ s' Q x' hr fun s'' x''=>h s'' ?_)))
   unfold bindL bindC;rw[if_pos hl,if_pos hl];exact x''
  ·have hnl:¬env.kindOf n=some .local:=by rw[hl];decide
   refine DQ (DQ (InL.stC x hk hl hc ho fun s' x'=>DR (InL.binds f hf hk r _ _ s' Q x' hr fun s'' x''=>h s'' ?_)))
   unfold bindL bindC;rw[if_neg hnl,if_neg hnl];exact x''
end
def dQ(q:Str)(scope:Scope)(L f:Addr)(cd:Value)(cl:List (Str×Addr)):Env:=
 { scope:=scope,locals:=L,globals:=mainGlobals,cells:=cellsFrom (L+1) scope.names cl,qual:=q ++ ".<locals>.",func:=some f,code:=cd,frame:=some L,builtins:=builtinsNs }
section
variable {M:Model} {A:Around} {E:Value->Shared->Prop} {s:Shared}
theorem Dy {scope : Scope} {cl : List (Str × Addr)} {binds : List (Str × Value)} {q : Str} {f : Addr} {cd : Value} {Q : Env → Shared → Prop} (hk : scope.kind = .function) (hsc : iS scope = true) (hcl : ∀ x c, cl.lookup x = some c → scope.names.lookup x = some .free)
    (hkind : ∀ x ∈ binds, scope.names.lookup x.1 = some .local ∨ scope.names.lookup x.1 = some .cell)
    (hQ : ∀ s', InL s s.heap.objs.size (bindL (dQ q scope s.heap.objs.size f cd cl).kindOf binds fun _ => none) (cellsFrom (s.heap.objs.size + 1) scope.names []) (bindC (dQ q scope s.heap.objs.size f cd cl).kindOf binds fun _ => none) s' → Q (dQ q scope s.heap.objs.size f cd cl) s') :
    wpAny M A (newFunctionEnv scope mainGlobals cl binds (q ++ ".<locals>.") (some f) cd none builtinsNs) Q E s := by
  simp only [newFunctionEnv, Option.isSome_none, Bool.false_eq_true, if_false]
  refine DQ (wpAny_alloc ?_)
  refine DQ (wpAny_layCells _ (fun name kind cells => by cases hkc : kind == NameKind.cell <;> simp [hkc]) _ _ _ _ ?_)
  have ok := cellsFrom_ok scope.names (s.heap.push { cls := .type "frame", data := .dict #[] }) (s.heap.objs.size + 1) [] ⟨fun _ _ hm => (nomatch hm), List.Pairwise.nil⟩ (by rw [Heap.size_push]; exact Ep _)
  rw [Heap.size_push] at ok
  rw [show ({ s with heap := s.heap.push { cls := .type "frame", data := .dict #[] } } : Shared).heap.objs.size = s.heap.objs.size + 1 from Heap.size_push ..]
  refine DQ (InL.binds (s₀ := s) (env := dQ q scope s.heap.objs.size f cd cl) (own := cellsFrom (s.heap.objs.size + 1) scope.names [])
    _ (fun _ _ _ => rfl) hk binds (fun _ => none) (fun _ => none) _ _
    ⟨⟨_, _, rfl⟩, (Heap.Ns.new s.heap (.type "frame")).keeps (pushCells_keeps _ _), fun b o e => pushCells_keeps _ _ b o (DT _ e), Ep _,
      fun n c hc => (ok.empty n c (PySem.mem_of_lookup hc)).1, ok.apart, fun n c hm => (ok.empty n c hm).2⟩
    (fun x hx => ?_) fun s' x => DR (hQ s' x))
  rcases hkind x hx with h | h
  · exact .inl h
  · obtain ⟨c, hc⟩ := Option.isSome_iff_exists.mp (PySem.W.cellsFrom_some scope.names (s.heap.objs.size + 1) cl (.inl h))
    rcases iZ scope.names (s.heap.objs.size + 1) [] cl hc with h2 | h2
    · rw [hcl _ _ h2] at h; cases h
    · exact .inr ⟨h, c, hc, h2⟩
end
def ja(P:Program)(w:World)(K:DS)(mg:Str->Option Value)(base:Heap)(N:List Str)(q:Str)(scope:Scope)(f:Addr)(cd:Value)(cl:List (Str×Addr))(A:Around)(outer:List Env)(s:Shared)(H:Hp):Cx where
 prog:=P
 w:=w
 K:=K
 mg:=mg
 base:=base
 A:=A.deeper (dQ q scope s.heap.objs.size f cd cl)
 N:=N
 s₀:=s
 H₀:=H
 env:=dQ q scope s.heap.objs.size f cd cl
 outer:=outer
 stack:=dQ q scope s.heap.objs.size f cd cl::outer
 ex:=[]
 calm:=true
 fn:=fun x=>scope.names.lookup x == some .cell
 pn:=[]
 xe:=fun _ _=>False
structure Caps(H:Hp)(cl:List (Str×Addr))(cp:List Cap):Prop where
 at_:∀e∈cp,cl.lookup e.n=some e.c/\H e.c=some (cM e.c e.o)/\∃u,e.o.data=.cell (some u)/\RelV e.v u
 all:∀x c,cl.lookup x=some c->∃e∈cp,e.n=x/\e.c=c
theorem Caps.ext{H H':Hp}(e:Ext H H'){cl:List (Str×Addr)}{cp:List Cap}(h:Caps H cl cp):Caps H' cl cp:=⟨fun x hx=>⟨(h.at_ x hx).1,e _ _ (h.at_ x hx).2.1,(h.at_ x hx).2.2⟩,h.all⟩
theorem Caps.look{H:Hp}{cl:List (Str×Addr)}{cp:List Cap}(h:Caps H cl cp):∀b o,(cellsOf cp).lookup b=some o->H b=some (cM b o):=fun b o e=>by
 obtain⟨x,hx,rfl,rfl⟩:=fS e
 exact(h.at_ x hx).2.1
structure LamSc(ps:List Str)(sc:Scope):Prop where
 kind:sc.kind=.function
 co:sc.isCoroutine=false
 gen:sc.isGenerator=false
 nd:ps.Nodup
 par:∀x∈ps,sc.names.lookup x=some .local\/sc.names.lookup x=some .cell
theorem DF{P:Program}{w:World}{K:DS}{mg:Str->Option Value}{base:Heap}{ps:List Str}{q:Str}{scope:Scope}{f:Addr}{cd:Value}{cl cells:List (Str×Addr)}{cp:List Cap}{A:Around}{outer:List Env}{s s1:Shared}{H:Hp}{us:List Value}{vs:List V}
  (S:LamSc ps scope) (C:ClOk scope cells cl) (hcp:Caps H cl cp) (hd:A.handled=none) (e0:Env0 P w K mg base A outer s H) (hl:vs.length=ps.length) (r:Vals vs us)
  (x:InL s s.heap.objs.size (bindL (dQ q scope s.heap.objs.size f cd cl).kindOf (ps.zip us) fun _=>none) (cellsFrom (s.heap.objs.size+1) scope.names []) (bindC (dQ q scope s.heap.objs.size f cd cl).kindOf (ps.zip us) fun _=>none) s1) :
  Inv (ja P w K mg base (ps++cp.map (·.n)) q scope f cd cl A outer s (aW (cellsOf cp) H)) [] (vs.map some++cp.map fun e=>some e.v) (aW (cellsOf cp) H) s1:=by
 obtain⟨h1,tk,rfl⟩:=x.same
 have hk:=x.keep
 have noA:∀b:Addr,b∉(ja P w K mg base (ps++cp.map (·.n)) q scope f cd cl A outer s (aW (cellsOf cp) H)).ex:=fun b z=>absurd (show b∈([]:List Addr)from z) (by simp)
 have nn:∀b,H b=none->aW (cellsOf cp) H b=none:=fun b hb=>by
  cases z:(cellsOf cp).lookup b with
  | none=>rw[b8 z];exact hb
  | some o=>exact f9 z
 have obj:∀e∈cp,s.heap.get? e.c=some e.o:=fun e he=>(e0.hok _ _ (hcp.at_ e he).2.1).1
 have clt:∀y c,cl.lookup y=some c->@LT.lt Nat _ c s.heap.objs.size:=fun y c h=>by
  obtain⟨e,he,_,rfl⟩:=hcp.all y c h
  exact DV (obj e he)
 have cinC:∀y c,cl.lookup y=some c->aW (cellsOf cp) H c=none:=fun y c h=>by
  obtain⟨e,he,_,rfl⟩:=hcp.all y c h
  obtain⟨o,ho⟩:=CU he
  exact f9 ho
 have hfr:∀y,scope.names.lookup y=some .free->∃c,cl.lookup y=some c/\(cellsFrom (s.heap.objs.size+1) scope.names cl).lookup y=some c:=fun y hy=>by
  obtain⟨c,hc⟩:=C.has y hy
  obtain⟨c',hc'⟩:=Option.isSome_iff_exists.mp (PySem.W.cellsFrom_some scope.names (s.heap.objs.size+1) cl (x:=y) (.inr (by rw[hc];rfl)))
  rcases iA _ _ _ hc' with h | ⟨_,h⟩
  ·rw[hc]at h;cases h;exact⟨c,hc,hc'⟩
  ·have:=sP C.one h
   rw[hy]at this
   cases this
 refine⟨⟨e0.mod,S.kind,rfl,rfl,Ep _,fun y z c h1 h2=>?_,fun y hy=>?_,fun y c h hc=>?_,fun _=>hd,Around.frames_deeper e0.frames,.inr ⟨rfl,rfl⟩,fun b z=>absurd z (noA b),fun b o e=>⟨(e0.bs b o e).1,nn b (e0.bs b o e).2⟩,e0.bsz,fun b _ _=>noA b,fun b z=>absurd z (noA b),e0.funs,fun b hb=>nn b (e0.frf b hb)⟩,
  rfl,e0.bare,Un.kept hk,⟨_,x.ns,fun i y v h1 h2 h3=>?_⟩,fun y c h=>?_,nn _ (e0.hok.fresh (Ep _)),fun y c h=>?_,fun p hp=>absurd (show p∈([]:List (Addr×Obj))from hp) (by simp),(uq e0.hok hcp.look).kept hk,?_⟩
 ·exact mw scope.names _ _ (fun x c e=>Nat.lt_succ_of_lt (clt x c e)) C.inj h1 h2
 ·have hy:scope.names.lookup y=some .cell\/scope.names.lookup y=some .free:=hy
  rcases hy with hy | hy
  ·exact Option.isSome_iff_exists.mp (PySem.W.cellsFrom_some scope.names _ _ (.inl hy))
  ·obtain⟨c,_,h⟩:=hfr y hy
   exact⟨c,h⟩
 ·have hy:scope.names.lookup y=some .cell:=by simpa[ja]using h
  have hc':(cellsFrom (s.heap.objs.size+1) scope.names cl).lookup y=some c:=hc
  rcases iA _ _ _ hc' with h2 | ⟨h2,_⟩
  ·rw[(C.fr y c h2).1]at hy;cases hy
  ·exact Nat.le_of_succ_le h2
 ·by_cases hi:i<vs.length
  ·have ha:vs[i]?=some v:=by
    rw[Ey (by simpa using hi),DY]at h2
    cases e:vs[i]? with
    | none=>rw[e]at h2;cases h2
    | some a=>rw[e]at h2;cases h2;rfl
   obtain⟨u,hu,rv⟩:=r.get ha
   have hp:ps[i]?=some y:=by
    have h1':(ps++cp.map (·.n))[i]?=some y:=h1
    rw[Ey (by omega)]at h1'
    exact h1'
   refine⟨u,rv,?_⟩
   rcases S.par y (Ef hp)with k | k
   ·exact .inl ⟨k,m7 S.nd hp hu k⟩
   ·obtain⟨c,e⟩:=Option.isSome_iff_exists.mp (PySem.W.cellsFrom_some scope.names (s.heap.objs.size+1) cl (.inl k))
    refine .inr ⟨.inl k,c,e,?_⟩
    rcases iZ scope.names (s.heap.objs.size+1) [] cl e with h4 | h4
    ·rw[(C.fr y c h4).1]at k;cases k
    ·have qq:=x.cell y c h4
     rw[m5 S.nd hp hu (by show scope.names.lookup y≠_;rw[k];decide)]at qq
     exact qq
  ·have h1':(ps++cp.map (·.n))[i]?=some y:=h1
   rw[Ex (by omega),DY]at h1'
   rw[Ex (by simpa using Nat.le_of_not_lt hi),DW,DY]at h2
   rw[hl]at h2
   cases he:cp[i-ps.length]? with
   | none=>rw[he]at h2;cases h2
   | some e=>
    rw[he]at h1' h2
    cases h1'
    cases h2
    have hm:=Ef he
    obtain⟨a1,a2,u,hu,rv⟩:=hcp.at_ e hm
    have hf:=(C.fr _ _ a1).1
    obtain⟨c,b1,b2⟩:=hfr e.n hf
    rw[a1]at b1
    cases b1
    exact⟨u,rv,.inr ⟨.inr hf,e.c,b2,e.o,hk _ _ (obj e hm),hu⟩⟩
 ·have h':(cellsFrom (s.heap.objs.size+1) scope.names cl).lookup y=some c:=h
  rcases iZ scope.names (s.heap.objs.size+1) [] cl h' with h2 | h2
  ·obtain⟨e,he,_,rfl⟩:=hcp.all y c h2
   obtain⟨_,_,u,hu,_⟩:=hcp.at_ e he
   exact⟨some u,e.o,hk _ _ (obj e he),hu⟩
  ·exact⟨_,x.cell y c h2⟩
 ·have h':(cellsFrom (s.heap.objs.size+1) scope.names cl).lookup y=some c:=h
  rcases iA _ _ _ h' with h2 | ⟨h2,_⟩
  ·exact cinC y c h2
  ·exact nn c (e0.hok.fresh (Nat.le_of_succ_le h2))
 ·show(vs.map some++cp.map fun e=>some e.v).length=(ps++cp.map (·.n)).length
  simp[hl]
def gh(f c:Addr)(q:Str)(params:Arguments)(body:Expr)(scope:Scope)(cl:List (Str×Addr))(cp:List Cap)(H:Hp):Prop:=H f=some (dJ f c q params body scope cl)/\H c=some (fD c q)/\Caps H cl cp
theorem gh.ext{H H':Hp}(e:Ext H H'){f c:Addr}{q:Str}{params:Arguments}{body:Expr}{scope:Scope}{cl:List (Str×Addr)}{cp:List Cap}(h:gh f c q params body scope cl cp H):gh f c q params body scope cl cp H':=⟨e _ _ h.1,e _ _ h.2.1,h.2.2.ext e⟩
theorem Ai{P:Program}{w:World}{K:DS}{mg:Str->Option Value}{base:Heap}{k:Nat}{f c:Addr}{q:Str}{params:Arguments}{body:Expr}{scope:Scope}{cl cells:List (Str×Addr)}{cp:List Cap}{ps:List Str}{R:List V->Hp->VK->Prop}(I:Hp->Prop)
  (S:LamSc ps scope) (C:ClOk scope cells cl) (bind:∀(pm cv ctv:Value) (us:List Value),us.length=ps.length->bindArgs (PySem.W.kla_fn "<lambda>" q params body scope cl pm cv ctv) ⟨us,[]⟩=pure (ps.zip us))
  (hR:∀vs H Q,R vs H Q->vs.length=ps.length)
  (hbody:∀(A:Around) (outer:List Env) (s:Shared) (H:Hp) (vs:List V) (Q:VK),Room k (A.deeper (dQ q scope s.heap.objs.size f (.ref c) cl))->gh f c q params body scope cl cp H->I H->R vs H Q →
   ∃te,PE (ja P w K mg base (ps++cp.map (·.n)) q scope f (.ref c) cl A outer s (aW (cellsOf cp) H)) body te/\te (vs.map some++cp.map fun e=>some e.v) (aW (cellsOf cp) H) fun v H'=>(∀b o,(cellsOf cp).lookup b=some o->H' b=none)->Q v (bz (cellsOf cp) H')) :
  FunR P w K mg base (k+1) f (fun H=>gh f c q params body scope cl cp H/\I H) R:=by
 refine⟨fun H h hok hp=>?_,fun A outer s H us vs Q hr e0 hp r hq=>?_⟩
 ·obtain⟨⟨pm,ctv,gf⟩,_⟩:=hok f _ hp.1.1
  exact⟨_,_,_,_,gf⟩
 ·obtain⟨⟨hf,hc,hcp⟩,hI⟩:=id hp
  obtain⟨⟨pm,ctv,gf⟩,_⟩:=e0.hok f _ hf
  obtain⟨gc,_⟩:=e0.hok c _ hc
  have lim:s.heap.NoLimit:=e0.mod.nolimit.keeps fun b o e=>(e0.bs b o e).1
  have hl:=hR vs H Q hq
  refine PySem.W.kla_callFunE hr.depth gf rfl S.co S.gen rfl gc ?_
  rw[bind _ _ _ us (by rw[←r.length];exact hl)]
  refine DR ?_
  refine Dy (q:=q) (f:=f) (cd:=.ref c) S.kind C.one (fun x c h=>(C.fr x c h).1) (fun z hz=>?_) fun s1 z=>?_
  ·exact S.par z.1 (List.of_mem_zip hz).1
  refine⟨lim.keeps z.keep,PySem.W.kla_codeExpr ?_⟩
  have J:=DF S C hcp hr.hd e0 hl r z
  obtain⟨te,ht,hq'⟩:=hbody A outer s H vs Q (hr.deeper _) hp.1 hI hq
  refine wpAny_mono (ht [] s1 _ _ _ J hq') (fun u s' ⟨v,H',J',rv,q'⟩=>?_) fun e s' hs=>hs.elim
  have obj:∀b o,(cellsOf cp).lookup b=some o->s.heap.get? b=some o:=fun b o e=>(e0.hok _ _ (hcp.look b o e)).1
  have nfs:∀b o,(cellsOf cp).lookup b=some o->b∉cJ outer:=fun b o e hb=>by
   have:=e0.frf b hb
   rw[hcp.look b o e]at this
   cases this
  have un:Un (cJ outer) [] (aW (cellsOf cp) H) H' s.heap s'.heap:=J'.base
  exact⟨v,bz (cellsOf cp) H',J'.os,J'.bare,Bb un hcp.look,wF J'.hok (fun b o e=>un.keep b o (obj b o e) (f9 e) (nfs b o e) (by simp)) (fun b o e=>un.free b o (obj b o e) (f9 e) (by simp)),rv,q' fun b o e=>un.free b o (obj b o e) (f9 e) (by simp)⟩
end L2
namespace L2
open PySem PySem.Spec PyProof.Rows
section
variable {X:Cx}
def xV:V->List V->Hp->VK->Prop:=fun x vs H Q=>∃(n:Nat) (p:Addr) (xs:List V) (a:V) (d:PyData) (ds:List PyData) (j:Nat),x=.ref p/\vs=[a]/\aV H n a d/\H p=some (.lst xs)/\Paired (aV H n) xs ds/\n<=50/\(∃e,ds[j]?=some e/\PyData.eqv e d=true)/\(∀m e,m<j->ds[m]?=some e->PyData.eqv e d=false)/\j<2 ^ 32/\Q (.int (j:Int)) H
theorem zY{k:Nat}{A0:Around}(hr:Room k A0)(hA:X.A=A0:=by rfl):mZ X "list.index" xV:=by
 subst hA
 intro pins s σ H x xs v us Q I rx rv h
 obtain⟨n,p,ys,a,d,ds,j,rfl,rfl,h1,h2,h3,hn,⟨e,hj,he⟩,hno,hjs,q⟩:=h
 cases rx
 obtain⟨u,rfl,ru⟩:=rv.one
 have h4:aV H (n+1) (.ref p) (.list ds):=.inr ⟨p,ys,ds,rfl,.inr ⟨h2,rfl⟩,h3⟩
 obtain⟨as,ra⟩:=aV.reads I n h1 ru
 obtain⟨bs,rb⟩:=aV.reads I (n+1) h4 rfl
 have l1:=aV.lay n h1
 have l2:=je (fun{x d}=>aV.lay (H:=H) n) h3
 have hu:=hr.units
 have hm:min (PyData.depthAll ds) d.depth<=50:=EE (Nat.min_le_right _ _) (EE l1.2 hn)
 obtain⟨_,its,nn,rvv,gt⟩:=I.hok p _ h2
 cases rb with
 | list g1 g2 g3 g4=>
  rw[gt]at g1
  cases g1
  cases g3
  have mp:=SeqAt.readsAll_map ds _ _ l2.1 g4
  have hlen:its.length=ds.length:=by rw[←mp,DW]
  have hjl:j<ds.length:=(Ee.mp hj).1
  have hsz:j<its.toArray.size:=by rw[Eb];omega
  have hat:∀m (hm:m<its.toArray.size),ds[m]?=some (SeqAt.readOf s.heap its.toArray[m]):=fun m hm=>by
   have hm':m<its.length:=by simpa using hm
   rw[←mp,DY]
   simp[hm']
  refine call_meets PySem.F.slot_list_index ⟨_,gt,rfl⟩ PySem.F.entry_list_index (PySem.F.args_list_index_2 _ _) (SeqAt.list_indexAt p its.toArray nn none #[] u (fun y=>PyData.eqv (SeqAt.readOf s.heap y) d) j hsz (by omega) ?_ ?_)
   ⟨gt,SeqAt.items_eqAt g4 ra l2.1 l1.1 (by omega),?_⟩
  ·have:=hat j hsz
   rw[hj]at this
   cases this
   exact he
  ·intro m hm hmj
   exact hno m _ hmj (hat m hm)
  ·exact⟨.int _,H,I.tok _,⟨_,rfl⟩,q⟩
end
end L2
namespace St
def nR(lo hi:Int)(xs:List Int):Prop:=xs.Pairwise (· < ·)/\∀x∈xs,lo<=x/\x<hi
structure Ok(b s:Int)(o a:List Int):Prop where
 hb:0<=b
 hs:1<=s
 ho:nR 0 b o
 ha:nR b (b+s) a
def mem(b s:Int)(o a:List Int)(x:Int):Bool:=if x<b then o.contains x else a.contains (b+(x-b) % s)
section
variable {b s:Int} {o a:List Int}
theorem uj(x:Int)(h:x<b):mem b s o a x=o.contains x:=if_pos h
theorem pN(x:Int)(h:b<=x):mem b s o a x=a.contains (b+(x-b) % s):=if_neg (by omega)
end
end St
namespace St
def br(f:Nat->Bool)(b d:Nat):Prop:=∀x,b<=x->f (x+d)=f x
theorem br.mul{f:Nat->Bool}{b d:Nat}(h:br f b d):∀k x,b<=x->f (x+k*d)=f x
 | 0,x,hx=>by simp
 | k+1,x,hx=>by
  rw[Nat.succ_mul,←Nat.add_assoc,h _ (by omega),h.mul k x hx]
theorem br.times{f:Nat->Bool}{b d:Nat}(h:br f b d)(k:Nat):br f b (k*d):=fun x hx=>h.mul k x hx
theorem br.down{f:Nat->Bool}{b s b' d:Nat}(h:br f b s)(hs:1<=s)(h':br f b' d):br f b d:=fun x hx=>by
 have e1:=h.mul b' (x+d) (by omega)
 have e2:=h.mul b' x hx
 rw[←e1,←e2,show x+d+b'*s=(x+b'*s)+d by omega]
 exact h' _ (by have:b'*1<=b'*s:=Nat.mul_le_mul_left _ hs;omega)
theorem br.mod{f:Nat->Bool}{b s d:Nat}(h:br f b s)(h':br f b d):br f b (s % d):=fun x hx=>by
 have e:=(h'.times (s / d)) (x+s % d) (by omega)
 rw[←e,show x+s % d+s / d*d=x+s by have:=Nat.div_add_mod s d;rw[Nat.mul_comm]at this;omega]
 exact h x hx
structure Least(f:Nat->Bool)(st low:Nat):Prop where
 pos:1<=st
 per:br f low st
 step:∀d b,1<=d->br f b d->st<=d
 base:∀b,br f b st->low<=b
def Alike(f:Nat->Bool)(b s d:Nat):Prop:=s % d=0/\∀i,i+d<s->f (b+i+d)=f (b+i)
theorem Alike.per{f:Nat->Bool}{b s d:Nat}(h:br f b s)(hs:1<=s)(hd:1<=d)(a:Alike f b s d):br f b d:=by
 obtain⟨q,rfl⟩:∃q,s=d*q:=⟨s / d,by have:=Nat.div_add_mod s d;rw[a.1]at this;omega⟩
 have hq:1<=q:=by
  cases q with
  | zero=>simp at hs
  | succ q=>omega
 have inner:∀k i,i<d->k<q->f (b+i+k*d)=f (b+i):=by
  intro k
  induction k with
  | zero=>intro i _ _;simp
  | succ k ih=>
   intro i hi hk
   have e:=a.2 (i+k*d) (by
    have:(k+1+1)*d<=q*d:=Nat.mul_le_mul_right _ (by omega)
    rw[Nat.succ_mul,Nat.succ_mul,Nat.mul_comm q d]at this
    omega)
   rw[show b+i+(k+1)*d=b+(i+k*d)+d by rw[Nat.succ_mul];omega,e,←Nat.add_assoc]
   exact ih i hi (by omega)
 have all:∀n,f (b+n)=f (b+n % d):=fun n=>by
  have e1:f (b+n)=f (b+n % (d*q)):=by
   have:=h.mul (n / (d*q)) (b+n % (d*q)) (by omega)
   rw[←this]
   congr 1
   have:=Nat.div_add_mod n (d*q)
   rw[Nat.mul_comm (d*q)]at this
   omega
  rw[e1]
  have hlt:n % (d*q)<d*q:=Nat.mod_lt _ (by omega)
  have e2:n % (d*q)=n % (d*q) % d+n % (d*q) / d*d:=by
   have:=Nat.div_add_mod (n % (d*q)) d
   rw[Nat.mul_comm]at this
   omega
  have e3:n % (d*q) % d=n % d:=Nat.mod_mul_right_mod n d q
  have e4:n % (d*q) / d<q:=Nat.div_lt_of_lt_mul hlt
  rw[e2,←Nat.add_assoc,inner _ _ (Nat.mod_lt _ (by omega)) e4,e3]
 intro x hx
 obtain⟨n,rfl⟩:∃n,x=b+n:=⟨x-b,by omega⟩
 rw[Nat.add_assoc,all (n+d),all n,Nat.add_mod_right]
theorem br.alike{f:Nat->Bool}{b s d:Nat}(h:br f b d)(hm:s % d=0):Alike f b s d:=⟨hm,fun i _=>h (b+i) (by omega)⟩
theorem Cs{f:Nat->Bool}{b s d:Nat}(h:br f b s)(hs:1<=s)(hd:1<=d)(a:Alike f b s d)(first:∀e,1<=e->e<d->¬Alike f b s e):br f b d/\∀e b',1<=e->br f b' e->d<=e:=by
 have pd:=a.per h hs hd
 refine⟨pd,fun e b' he pe=>?_⟩
 have pe':br f b e:=h.down hs pe
 -- the least one that goes round
 have go:∀n e,e<=n->1<=e->br f b e->d<=e:=by
  intro n
  induction n with
  | zero=>intro e h1 h2;omega
  | succ n ih=>
   intro e h1 h2 pe
   by_cases hz:s % e=0
   ·rcases Nat.lt_or_ge e d with hlt | hge
    ·exact absurd (pe.alike hz) (first e h2 hlt)
    ·exact hge
   ·have hlt:s % e<e:=Nat.mod_lt _ (by omega)
    have:=ih (s % e) (by omega) (by omega) (h.mod pe)
    omega
 exact go e e (Ep _) he pe'
theorem Ce{f:Nat->Bool}{b s d low:Nat}(h:br f b s)(hs:1<=s)(hd:1<=d)(a:Alike f b s d)(first:∀e,1<=e->e<d->¬Alike f b s e)(hl:low<=b)
  (down:∀x,low<=x->x<b->f x=f (x+d)) (stop:low=0\/f (low-1)≠f (low-1+d)):Least f d low:=by
 obtain⟨pd,hmin⟩:=Cs h hs hd a first
 refine⟨hd,fun x hx=>?_,hmin,fun b' pb=>?_⟩
 ·rcases Nat.lt_or_ge x b with hlt | hge
  ·exact(down x hx hlt).symm
  ·exact pd x hge
 ·rcases stop with h0 | hne
  ·omega
  ·rcases Nat.lt_or_ge b' low with hlt | hge
   ·exact absurd (pb (low-1) (by omega)).symm hne
   ·exact hge
def row(f:Nat->Bool)(lo n:Nat):List Int:=((List.range n).filter fun i=>f (lo+i)).map fun i=>((lo+i:Nat):Int)
end St
namespace St
theorem qR(f:Nat->Bool)(lo n:Nat):row f lo (n+1)=row f lo n++if f (lo+n)then[((lo+n:Nat):Int)]else[]:=by
 unfold row
 rw[List.range_succ,List.filter_append,Em]
 congr 1
 by_cases h:f (lo+n)=true<;>simp[h]
theorem vO(f:Nat->Bool)(lo n:Nat):(row f lo n).length<=n:=by
 unfold row
 rw[DW]
 exact EE (List.length_filter_le _ _) (by simp)
theorem me{f:Nat->Bool}{lo n:Nat}{x:Int}:x∈row f lo n↔(lo:Int)<=x/\x<lo+n/\f x.toNat=true:=by
 unfold row
 simp only[List.mem_map,List.mem_filter,List.mem_range]
 constructor
 ·rintro⟨i,⟨hi,hf⟩,rfl⟩
  refine⟨by omega,by omega,?_⟩
  rw[Ei];exact hf
 ·rintro⟨h1,h2,h3⟩
  refine⟨x.toNat-lo,⟨by omega,?_⟩,by omega⟩
  rw[show lo+(x.toNat-lo)=x.toNat by omega];exact h3
theorem rC(f:Nat->Bool)(lo n:Nat):nR lo (lo+n) (row f lo n):=by
 refine⟨?_,fun x hx=>⟨(me.mp hx).1,(me.mp hx).2.1⟩⟩
 unfold row
 rw[List.pairwise_map]
 refine List.Pairwise.imp (R:=fun a b=>a<b) (fun h=>by omega) ?_
 exact List.Pairwise.filter _ List.pairwise_lt_range
theorem v8{f:Nat->Bool}{lo n:Nat}{x:Int}(h1:(lo:Int)<=x)(h2:x<lo+n):(row f lo n).contains x=f x.toNat:=by
 rw[EI,List.contains_iff_mem,me]
 constructor
 ·exact fun h=>h.2.2
 ·exact fun h=>⟨h1,h2,h⟩
theorem Cp(f:Nat->Bool)(b s:Nat)(hs:1<=s):Ok b s (row f 0 b) (row f b s):=
 ⟨by omega,by omega,by have:=rC f 0 b;simpa using this,rC f b s⟩
theorem Cf{f:Nat->Bool}{b s:Nat}(hs:1<=s)(h:br f b s)(x:Nat):mem b s (row f 0 b) (row f b s) x=f x:=by
 by_cases hx:x<b
 ·rw[uj _ (by omega),v8 (by omega) (by omega),Ei]
 ·rw[pN _ (by omega)]
  have r0:0<=((x:Int)-b) % s:=Int.emod_nonneg _ (by omega)
  have r1:((x:Int)-b) % s<s:=Int.emod_lt_of_pos _ (by omega)
  rw[v8 (by omega) (by omega)]
  have e:((b:Int)+((x:Int)-b) % s).toNat=b+(x-b) % s:=by
   have:((x:Int)-b) % s=(((x-b) % s:Nat):Int):=by
    rw[show (x:Int)-b=((x-b:Nat):Int) by omega]
    rfl
   omega
  rw[e]
  have:=h.mul ((x-b) / s) (b+(x-b) % s) (by omega)
  rw[←this]
  congr 1
  have:=Nat.div_add_mod (x-b) s
  rw[Nat.mul_comm]at this
  omega
end St
namespace St
end St
namespace St
end St
namespace Bfs
theorem jm:∀(N:Nat) (l:List Nat),l.Nodup->(∀x∈l,x<N)->l.length<=N
 | 0,l,_,h=>by
  cases l with
  | nil=>exact Ep _
  | cons x l=>exact absurd (h x Ec) (Nat.not_lt_zero _)
 | N+1,l,hn,h=>by
  have ih:=jm N (l.erase N) (hn.erase N) (fun x hx=>by
   have:=h x (List.mem_of_mem_erase hx)
   have hne:x≠N:=fun e=>by
    subst e
    exact(List.Nodup.not_mem_erase hn) hx
   omega)
  by_cases hm:N∈l
  ·rw[List.length_erase_of_mem hm]at ih
   omega
  ·rw[List.erase_of_not_mem hm]at ih
   omega
abbrev Pl:=Int×Int
def inR(T:Int)(x:Pl):Prop:=0<=x.1/\x.1<12/\0<=x.2/\x.2<=T
theorem AF{T:Int}{l:List Pl}(hT:T<=2000)(hn:l.Nodup)(h:∀x∈l,inR T x):l.length<=24012:=by
 have hmap:(l.map fun x=>(x.1*2001+x.2).toNat).Nodup:=by
  unfold List.Nodup at hn ⊢
  rw[List.pairwise_map]
  refine List.Pairwise.imp_of_mem ?_ hn
  intro a b ha hb hab e
  obtain⟨a1,a2,a3,a4⟩:=h a ha
  obtain⟨b1,b2,b3,b4⟩:=h b hb
  refine hab (Prod.ext ?_ ?_)<;>omega
 have:=jm 24012 _ hmap (fun y hy=>by
  obtain⟨x,hx,rfl⟩:=List.mem_map.mp hy
  obtain⟨a1,a2,a3,a4⟩:=h x hx
  omega)
 rwa [DW]at this
section
variable (nx:Pl->Nat->Option Pl) (s:Pl)
inductive Wk:Nat->Pl->Prop
 | zero:Wk 0 s
 | succ {n:Nat} {x y:Pl} {k:Nat}:Wk n x->nx x k=some y->Wk (n+1) y
def eP(n:Nat)(x:Pl):Prop:=Wk nx s n x/\∀m,m<n->¬Wk nx s m x
abbrev Ent:=Pl×Nat×Option (Pl×Nat)
structure QI(q:List Ent)(i B:Nat):Prop where
 nd:(q.map (·.1)).Nodup
 par:∀e∈q,(e.2.2=none/\e.1=s/\e.2.1=0)\/∃p k d o,e.2.2=some (p,k)/\nx p k=some e.1/\e.2.1=d+1/\(p,d,o)∈q
 le:∀e∈q,e.2.1<=B+1
 lo:∀j e,q[j]?=some e->i<=j->B<=e.2.1
 srt:q.Pairwise fun a b=>a.2.1<=b.2.1
 cl:∀j e,j<i->q[j]?=some e->∀k y,nx e.1 k=some y->∃e'∈q,e'.1=y/\e'.2.1<=e.2.1+1
 s0:(s,0,none)∈q
theorem QI.begin:QI nx s [(s,0,none)] 0 0:=by
 refine⟨by simp,?_,?_,?_,by simp,?_,by simp⟩
 ·intro e he
  rw[Eg]at he
  subst he
  exact .inl ⟨rfl,rfl,rfl⟩
 ·intro e he
  rw[Eg]at he
  subst he
  simp
 ·intro j e _ _
  exact Nat.zero_le _
 ·intro j e hj
  exact absurd hj (Nat.not_lt_zero _)
variable {nx s}
theorem QI.wk{q:List Ent}{i B:Nat}(h:QI nx s q i B):∀(d:Nat) (e:Ent),e∈q->e.2.1=d->Wk nx s d e.1
 | 0,e,he,hd=>by
  rcases h.par e he with⟨_,hs,_⟩ | ⟨p,k,d,o,_,_,hd',_⟩
  ·rw[hs];exact .zero
  ·omega
 | d+1,e,he,hd=>by
  rcases h.par e he with⟨_,_,h0⟩ | ⟨p,k,d',o,_,hn,hd',hm⟩
  ·omega
  ·have:d'=d:=by omega
   subst this
   exact .succ (QI.wk h d' _ hm rfl) hn
theorem QI.all {q : List Ent} {i B : Nat} (h : QI nx s q i B) : ∀ (n : Nat) (y : Pl), Wk nx s n y → (n ≤ B ∨ i = q.length) → ∃ e ∈ q, e.1 = y ∧ e.2.1 ≤ n := by
  intro n y w
  induction w with
  | zero => intro _; exact ⟨_, h.s0, rfl, Ep _⟩
  | @succ n x y k w hk ih =>
    intro hB
    obtain ⟨e, he, hx, hd⟩ := ih (by rcases hB with h | h; · left; omega
                                     · exact .inr h)
    obtain ⟨j, hj⟩ := List.getElem?_of_mem he
    have hji : j < i := by
      rcases hB with hB | hB
      · rcases Nat.lt_or_ge j i with l | l
        · exact l
        · have := h.lo j e hj l
          omega
      · rw [hB]
        exact (Ee.mp hj).1
    obtain ⟨e', he', hy, hd'⟩ := h.cl j e hji hj k y (by rw [hx]; exact hk)
    exact ⟨e', he', hy, by omega⟩
theorem xn{q:List Ent}(hn:(q.map (·.1)).Nodup){e e':Ent}(h:e∈q)(h':e'∈q)(he:e.1=e'.1):e=e':=by
 induction q with
 | nil=>cases h
 | cons a q ih=>
  rw[List.map_cons,List.nodup_cons]at hn
  rcases Ek.mp h with r | r<;>rcases Ek.mp h' with r' | r'
  ·rw[r,r']
  ·subst r
   exact absurd (List.mem_map.mpr ⟨e',r',he.symm⟩) hn.1
  ·subst r'
   exact absurd (List.mem_map.mpr ⟨e,r,he⟩) hn.1
  ·exact ih hn.2 r r'
theorem QI.dist{q:List Ent}{i B:Nat}(h:QI nx s q i B){e:Ent}(he:e∈q):eP nx s e.2.1 e.1:=by
 refine⟨h.wk _ e he rfl,fun m hm w=>?_⟩
 have:=h.le e he
 obtain⟨e',he',hy,hd⟩:=h.all m e.1 w (.inl (by omega))
 have:=xn h.nd he' he hy
 subst this
 omega
theorem QI.done{q:List Ent}{B:Nat}(h:QI nx s q q.length B){y:Pl}(hy:y∉q.map (·.1))(n:Nat):¬eP nx s n y:=fun d=>by
 obtain⟨e,he,hx,_⟩:=h.all n y d.1 (.inr rfl)
 exact hy (List.mem_map.mpr ⟨e,he,hx⟩)
theorem vC{q:List Ent}(hs:q.Pairwise fun a b=>a.2.1<=b.2.1){i j:Nat}{a b:Ent}(ha:q[i]?=some a)(hb:q[j]?=some b)(hij:i<=j):a.2.1<=b.2.1:=by
 rcases Nat.lt_or_ge i j with l | l
 ·obtain⟨h1,e1⟩:=Ee.mp ha
  obtain⟨h2,e2⟩:=Ee.mp hb
  have:=List.pairwise_iff_getElem.mp hs i j h1 h2 l
  rw[e1,e2]at this
  exact this
 ·have:i=j:=by omega
  subst this
  rw[ha]at hb
  cases hb
  exact Ep _
theorem QI.deepAt{q:List Ent}{i B:Nat}(h:QI nx s q i B):∀(j:Nat) (e:Ent),q[j]?=some e->e.2.1<=j:=by
 intro j
 induction j using Nat.strongRecOn with
 | _ j ih=>
  intro e he
  rcases h.par e (Ef he)with⟨_,_,h0⟩ | ⟨p,k,d,o,_,_,hd,hm⟩
  ·omega
  ·obtain⟨j',hj'⟩:=List.getElem?_of_mem hm
   have hlt:j'<j:=by
    rcases Nat.lt_or_ge j' j with l | l
    ·exact l
    ·have:=vC h.srt he hj' l
     dsimp only at this
     omega
   have:=ih j' hlt _ hj'
   dsimp only at this
   omega
theorem QI.deep{q:List Ent}{i B:Nat}(h:QI nx s q i B){e:Ent}(he:e∈q):e.2.1<=q.length:=by
 obtain⟨j,hj⟩:=List.getElem?_of_mem he
 have h1:=h.deepAt j e hj
 have h2:=(Ee.mp hj).1
 omega
structure QF(q:List Ent)(i:Nat)(h:Ent)(ks:List Nat)(m:Nat):Prop where
 at_:q[i]?=some h
 nd:(q.map (·.1)).Nodup
 par:∀e∈q,(e.2.2=none/\e.1=s/\e.2.1=0)\/∃p k d o,e.2.2=some (p,k)/\nx p k=some e.1/\e.2.1=d+1/\(p,d,o)∈q
 le:∀e∈q,e.2.1<=h.2.1+1
 srt:q.Pairwise fun a b=>a.2.1<=b.2.1
 cl:∀j e,j<i->q[j]?=some e->∀k y,nx e.1 k=some y->∃e'∈q,e'.1=y/\e'.2.1<=e.2.1+1
 ch:∀k∈ks.take m,∀y,nx h.1 k=some y->∃e'∈q,e'.1=y/\e'.2.1<=h.2.1+1
 s0:(s,0,none)∈q
theorem QI.look{q:List Ent}{i B:Nat}{h:Ent}(H:QI nx s q i B)(ha:q[i]?=some h)(ks:List Nat):QF (nx:=nx) (s:=s) q i h ks 0:=by
 refine⟨ha,H.nd,H.par,fun e he=>?_,H.srt,H.cl,fun k hk=>by simp at hk,H.s0⟩
 have:=H.le e he
 have:=H.lo i h ha (Ep _)
 omega
theorem QF.next{q:List Ent}{i:Nat}{h:Ent}{ks:List Nat}(H:QF (nx:=nx) (s:=s) q i h ks ks.length)(hk:∀k y,nx h.1 k=some y->k∈ks):QI nx s q (i+1) h.2.1:=by
 refine⟨H.nd,H.par,H.le,fun j e hj hij=>vC H.srt H.at_ hj (by omega),H.srt,fun j e hj he k y hy=>?_,H.s0⟩
 rcases Nat.lt_or_ge j i with l | l
 ·exact H.cl j e l he k y hy
 ·have:j=i:=by omega
  subst this
  have e':=H.at_
  rw[he]at e'
  cases e'
  exact H.ch k (by rw[EB];exact hk k y hy) y hy
theorem QF.skip{q:List Ent}{i:Nat}{h:Ent}{ks:List Nat}{m k:Nat}(H:QF (nx:=nx) (s:=s) q i h ks m)(hk:ks[m]?=some k)(hy:∀y,nx h.1 k=some y->y∈q.map (·.1)):QF (nx:=nx) (s:=s) q i h ks (m+1):=by
 refine⟨H.at_,H.nd,H.par,H.le,H.srt,H.cl,fun k' hk' y hy'=>?_,H.s0⟩
 rw[List.take_succ,hk]at hk'
 rcases Ew.mp hk' with z | z
 ·exact H.ch k' z y hy'
 ·have:k'=k:=by simpa using z
  subst this
  obtain⟨e,he,hx⟩:=List.mem_map.mp (hy y hy')
  exact⟨e,he,hx,H.le e he⟩
theorem QF.add{q:List Ent}{i:Nat}{h:Ent}{ks:List Nat}{m k:Nat}{y:Pl}(H:QF (nx:=nx) (s:=s) q i h ks m)(hk:ks[m]?=some k)(hy:nx h.1 k=some y)(hn:y∉q.map (·.1)):
  QF (nx:=nx) (s:=s) (q++[(y,h.2.1+1,some (h.1,k))]) i h ks (m+1):=by
 have hil:=(Ee.mp H.at_).1
 have hmem:h∈q:=Ef H.at_
 refine⟨by rw[Ey hil];exact H.at_,?_,?_,?_,?_,?_,?_,List.mem_append_left _ H.s0⟩
 ·rw[Em,List.nodup_append]
  refine⟨H.nd,by simp,fun a ha b hb e=>?_⟩
  have:b=y:=by simpa using hb
  subst this
  subst e
  exact hn ha
 ·intro e he
  rcases Ew.mp he with z | z
  ·rcases H.par e z with p | ⟨p,k',d,o,h1,h2,h3,h4⟩
   ·exact .inl p
   ·exact .inr ⟨p,k',d,o,h1,h2,h3,List.mem_append_left _ h4⟩
  ·have:e=(y,h.2.1+1,some (h.1,k)):=by simpa using z
   subst this
   exact .inr ⟨h.1,k,h.2.1,h.2.2,rfl,hy,rfl,List.mem_append_left _ hmem⟩
 ·intro e he
  rcases Ew.mp he with z | z
  ·exact H.le e z
  ·have:e=(y,h.2.1+1,some (h.1,k)):=by simpa using z
   subst this
   exact Ep _
 ·rw[List.pairwise_append]
  refine⟨H.srt,by simp,fun a ha b hb=>?_⟩
  have:b=(y,h.2.1+1,some (h.1,k)):=by simpa using hb
  subst this
  exact H.le a ha
 ·intro j e hj he k' y' hy'
  rw[Ey (by omega)]at he
  obtain⟨e',h1,h2⟩:=H.cl j e hj he k' y' hy'
  exact⟨e',List.mem_append_left _ h1,h2⟩
 ·intro k' hk' y' hy'
  rw[List.take_succ,hk]at hk'
  rcases Ew.mp hk' with z | z
  ·obtain⟨e',h1,h2⟩:=H.ch k' z y' hy'
   exact⟨e',List.mem_append_left _ h1,h2⟩
  ·have:k'=k:=by simpa using z
   subst this
   rw[hy]at hy'
   cases hy'
   exact⟨_,List.mem_append_right _ Ec,rfl,Ep _⟩
def gone:Pl->List Nat->Option Pl
 | x,[]=>some x
 | x,k::r=>(nx x k).bind fun y=>gone y r
end
end Bfs
namespace Bfs
inductive Rw(S:Pl->Pl->Prop):Nat->Pl->Pl->Prop
 | nil {x:Pl}:Rw S 0 x x
 | snoc {n:Nat} {x y z:Pl}:Rw S n x y->S y z->Rw S (n+1) x z
theorem Rw.trans{S:Pl->Pl->Prop}{n k:Nat}{x y z:Pl}(h:Rw S n x y)(g:Rw S k y z):Rw S (n+k) x z:=by
 induction g with
 | nil=>exact h
 | snoc _ hs ih=>exact .snoc (ih h) hs
theorem Rw.imp{S S':Pl->Pl->Prop}(hS:∀a c,S a c->S' a c){n:Nat}{x y:Pl}(h:Rw S n x y):Rw S' n x y:=by
 induction h with
 | nil=>exact .nil
 | snoc _ hs ih=>exact .snoc ih (hS _ _ hs)
theorem Rw.cons{S:Pl->Pl->Prop}{n:Nat}{x y z:Pl}(h:S x y)(g:Rw S n y z):Rw S (n+1) x z:=by
 have:=Rw.trans (.snoc .nil h) g
 rwa [show 0+1+n=n+1 by omega]at this
theorem Rw.fn{S:Pl->Pl->Prop}{n:Nat}{x y:Pl}(h:Rw S n x y):∃w:Nat->Pl,w 0=x/\w n=y/\∀i,i<n->S (w i) (w (i+1)):=by
 induction h with
 | @nil x=>exact⟨fun _=>x,rfl,rfl,fun i hi=>absurd hi (Nat.not_lt_zero _)⟩
 | @snoc n x y z _ hs ih=>
  obtain⟨w,h0,hn,hw⟩:=ih
  refine⟨fun i=>if i<=n then w i else z,by simp[h0],(by show(if n+1<=n then w (n+1)else z)=z;rw[if_neg (by omega)]),fun i hi=>?_⟩
  try dsimp only
  rcases Nat.lt_or_ge i n with l | l
  ·rw[if_pos (by omega),if_pos (by omega)]
   exact hw i l
  ·have:i=n:=by omega
   subst this
   rw[if_pos (Ep _),if_neg (by omega),hn]
   exact hs
theorem vk{S:Pl->Pl->Prop}{w:Nat->Pl}{i:Nat}:∀(k:Nat),(∀j,i<=j->j<i+k->S (w j) (w (j+1)))->Rw S k (w i) (w (i+k))
 | 0,_=>.nil
 | k+1,h=>.snoc (vk k fun j h1 h2=>h j h1 (by omega)) (h (i+k) (by omega) (by omega))
theorem jf{S:Pl->Pl->Prop}{w:Nat->Pl}{i j:Nat}(hij:i<=j)(h:∀k,i<=k->k<j->S (w k) (w (k+1))):Rw S (j-i) (w i) (w j):=by
 have:=vk (S:=S) (w:=w) (i:=i) (j-i) (fun k h1 h2=>h k h1 (by omega))
 rwa [show i+(j-i)=j by omega]at this
theorem iT{h:Nat->Int}{l:Int}:∀(P:Nat),(∀i,i<P->h (i+1)<=h i+1)->h 0<=l->l<=h P->∃u,u<=P/\h u=l/\∀i,u<i->i<=P->l<h i
 | 0,_,h0,hP=>⟨0,Ep _,by omega,fun i h1 h2=>by omega⟩
 | P+1,hs,h0,hP=>by
  by_cases e:h (P+1)=l
  ·exact⟨P+1,Ep _,e,fun i h1 h2=>by omega⟩
  ·have:=hs P (by omega)
   obtain⟨u,hu,hl,hi⟩:=iT P (fun i hi=>hs i (by omega)) h0 (by omega)
   refine⟨u,by omega,hl,fun i h1 h2=>?_⟩
   rcases Nat.lt_or_ge P i with g | g
   ·have:i=P+1:=by omega
    subst this
    omega
   ·exact hi i h1 g
theorem rh{h:Nat->Int}{l:Int}{P n:Nat}(hP:P<=n)(hs:∀i,P<=i->i<n->h i<=h (i+1)+1)(h0:h n<=l)(hl:l<=h P):∃d,P<=d/\d<=n/\h d=l/\∀i,P<=i->i<d->l<h i:=by
 obtain⟨u,hu,hul,hui⟩:=iT (h:=fun i=>h (n-i)) (l:=l) (n-P) (fun i hi=>by
  have:=hs (n-(i+1)) (by omega) (by omega)
  rwa [show n-(i+1)+1=n-i by omega]at this) (by simpa using h0) (by
  try dsimp only
  rw[show n-(n-P)=P by omega];exact hl)
 refine⟨n-u,by omega,by omega,hul,fun i h1 h2=>?_⟩
 have:=hui (n-i) (by omega) (by omega)
 (try dsimp only at this)
 rwa [show n-(n-i)=i by omega]at this
theorem code_inj{m r s r' s':Int}(hs:0<=s)(hs1:s<m)(hs':0<=s')(hs1':s'<m)(e:r*m+s=r'*m+s'):r=r'/\s=s':=by
 have h1:s=s':=by
  have:=congrArg (· % m) e
  (try dsimp only at this)
  rw[Int.add_comm,Int.add_mul_emod_self_right,Int.add_comm (r'*m),Int.add_mul_emod_self_right,Int.emod_eq_of_lt hs hs1,Int.emod_eq_of_lt hs' hs1']at this
  exact this
 refine⟨?_,h1⟩
 have h2:r*m=r'*m:=by omega
 exact Int.eq_of_mul_eq_mul_right (by omega) h2
theorem mG{m r s:Int}(hr:0<=r)(hr1:r<m)(hs:0<=s)(hs1:s<m):0<=r*m+s/\r*m+s<m*m:=by
 have h1:0<=r*m:=Int.mul_nonneg hr (by omega)
 have h2:(r+1)*m<=m*m:=Int.mul_le_mul_of_nonneg_right (by omega) (by omega)
 rw[Int.add_mul,Int.one_mul]at h2
 omega
theorem twice{K:Nat}(code:Nat->Nat)(h:∀j,j<=K->code j<K):∃i j,i<j/\j<=K/\code i=code j:=by
 refine Classical.byContradiction fun no=>?_
 have hn:((List.range (K+1)).map code).Nodup:=by
  unfold List.Nodup
  rw[List.pairwise_map]
  refine List.Pairwise.imp_of_mem ?_ (List.pairwise_lt_range (n:=K+1))
  intro a b ha hb hab e
  exact no ⟨a,b,hab,by have:=List.mem_range.mp hb;omega,e⟩
 have:=jm K _ hn (fun x hx=>by
  obtain⟨j,hj,rfl⟩:=List.mem_map.mp hx
  exact h j (by have:=List.mem_range.mp hj;omega))
 rw[DW,List.length_range]at this
 omega
theorem cut{S:Pl->Pl->Prop}{m:Int}(hm:0<m)(h1:∀x y,S x y->y.2<=x.2+1/\x.2<=y.2+1)(h2:∀x y c,S x y->0<=c->1<=x.2-c->1<=y.2-c->S (x.1,x.2-c) (y.1,y.2-c))
  (h3:∀x y,S x y->0<=y.1/\y.1<m) {b:Int} (hb:0<=b):∀(n:Nat) (x g:Pl),Rw S n x g->0<=x.1->x.1<m->x.2<=b->g.2<=b->∃n',n'<=n/\Rw (fun a c=>S a c/\c.2<=b+m*m) n' x g:=by
 intro n
 induction n using Nat.strongRecOn with
 | _ n ih=>
  intro x g hw x0 x1 xb gb
  obtain⟨w,hw0,hwn,hws⟩:=hw.fn
  by_cases hall:∀i,i<=n->(w i).2<=b+m*m
  ·refine⟨n,Ep _,?_⟩
   have:=jf (S:=fun a c=>S a c/\c.2<=b+m*m) (w:=w) (Nat.zero_le n) (fun k _ hk=>⟨hws k hk,hall (k+1) (by omega)⟩)
   rw[hw0,hwn]at this
   exact this
  ·obtain⟨P,hP⟩:=Classical.not_forall.mp hall
   obtain⟨hPn,hPh⟩:P<=n/\b+m*m<(w P).2:=by
    by_cases c:P<=n
    ·exact⟨c,by
      by_cases d:(w P).2<=b+m*m
      ·exact absurd (fun _=>d) hP
      ·omega⟩
    ·exact absurd (fun z=>absurd z c) hP
   have hmm:0<=m*m:=Int.mul_nonneg (by omega) (by omega)
   have room:∀i,i<=n->0<=(w i).1/\(w i).1<m:=by
    intro i hi
    cases i with
    | zero=>rw[hw0];exact⟨x0,x1⟩
    | succ i=>exact h3 _ _ (hws i (by omega))
   have hu:∀j:Nat,∃u,(j<=(m*m).toNat->u<=P/\(w u).2=b+1+j/\∀i,u<i->i<=P->b+1+j<(w i).2):=by
    intro j
    by_cases hj:j<=(m*m).toNat
    ·obtain⟨u,a1,a2,a3⟩:=iT (h:=fun i=>(w i).2) (l:=b+1+j) P (fun i hi=>(h1 _ _ (hws i (by omega))).1) (by(try dsimp only);rw[hw0];omega) (by(try dsimp only);omega)
     exact⟨u,fun _=>⟨a1,a2,a3⟩⟩
    ·exact⟨0,fun z=>absurd z hj⟩
   have hd:∀j:Nat,∃d,(j<=(m*m).toNat->P<=d/\d<=n/\(w d).2=b+1+j/\∀i,P<=i->i<d->b+1+j<(w i).2):=by
    intro j
    by_cases hj:j<=(m*m).toNat
    ·obtain⟨d,a1,a2,a3,a4⟩:=rh (h:=fun i=>(w i).2) (l:=b+1+j) hPn (fun i _ hi=>(h1 _ _ (hws i hi)).2) (by(try dsimp only);rw[hwn];omega) (by(try dsimp only);omega)
     exact⟨d,fun _=>⟨a1,a2,a3,a4⟩⟩
    ·exact⟨0,fun z=>absurd z hj⟩
   obtain⟨u,hu⟩:=Classical.axiomOfChoice hu
   obtain⟨d,hd⟩:=Classical.axiomOfChoice hd
   obtain⟨i,j,hij,hjK,hcode⟩:=twice (K:=(m*m).toNat) (fun j=>((w (u j)).1*m+(w (d j)).1).toNat) (fun j hj=>by
    have a1:=hu j hj
    have a2:=hd j hj
    have r1:=room (u j) (by omega)
    have r2:=room (d j) (by omega)
    have:=mG r1.1 r1.2 r2.1 r2.2
    try dsimp only
    omega)
   obtain⟨ui1,ui2,ui3⟩:=hu i (by omega)
   obtain⟨uj1,uj2,uj3⟩:=hu j hjK
   obtain⟨di0,di1,di2,di3⟩:=hd i (by omega)
   obtain⟨dj0,dj1,dj2,dj3⟩:=hd j hjK
   have hr:(w (u i)).1=(w (u j)).1/\(w (d i)).1=(w (d j)).1:=by
    have r1:=room (u i) (by omega)
    have r2:=room (d i) (by omega)
    have r3:=room (u j) (by omega)
    have r4:=room (d j) (by omega)
    have c1:=mG r1.1 r1.2 r2.1 r2.2
    have c2:=mG r3.1 r3.2 r4.1 r4.2
    (try dsimp only at hcode)
    exact code_inj r2.1 r2.2 r4.1 r4.2 (by omega)
   have huu:u i<u j:=by
    rcases Nat.lt_trichotomy (u i) (u j)with z | z | z
    ·exact z
    ·rw[z]at ui2;omega
    ·have:=uj3 (u i) z ui1;omega
   have hdd:d j<d i:=by
    rcases Nat.lt_trichotomy (d j) (d i)with z | z | z
    ·exact z
    ·rw[z]at dj2;omega
    ·have:=dj3 (d i) di0 z;omega
   have s1:Rw S (u i-0) (w 0) (w (u i)):=jf (Nat.zero_le _) (fun k _ hk=>hws k (by omega))
   have s3:Rw S (n-d i) (w (d i)) (w n):=jf di1 (fun k _ hk=>hws k hk)
   have hi:∀k,u j<=k->k<=d j->b+1+j<=(w k).2:=by
    intro k k1 k2
    rcases Nat.lt_or_ge k P with z | z
    ·rcases Nat.lt_or_ge (u j) k with y | y
     ·have:=uj3 k y (by omega);omega
     ·have:k=u j:=by omega
      subst this;omega
    ·rcases Nat.lt_or_ge k (d j)with y | y
     ·have:=dj3 k z y;omega
     ·have:k=d j:=by omega
      subst this;omega
   have s2:Rw S (d j-u j) ((w (u j)).1,(w (u j)).2-(j-i:Nat)) ((w (d j)).1,(w (d j)).2-(j-i:Nat)):=
    jf (S:=S) (w:=fun k=>((w k).1,(w k).2-(j-i:Nat))) (show u j<=d j by omega) (fun k k1 k2=>h2 _ _ _ (hws k (by omega)) (by omega) (by have:=hi k k1 (by omega);omega) (by have:=hi (k+1) (by omega) (by omega);omega))
   have e1:((w (u j)).1,(w (u j)).2-((j-i:Nat):Int))=w (u i):=Prod.ext hr.1.symm (by(try dsimp only);omega)
   have e2:((w (d j)).1,(w (d j)).2-((j-i:Nat):Int))=w (d i):=Prod.ext hr.2.symm (by(try dsimp only);omega)
   rw[e1,e2]at s2
   have s:=(s1.trans s2).trans s3
   rw[hw0,hwn]at s
   obtain⟨n',hn',hr'⟩:=ih _ (by omega) x g s x0 x1 xb gb
   exact⟨n',by omega,hr'⟩
theorem Wk.rw{nx:Pl->Nat->Option Pl}{s y:Pl}{n:Nat}(h:Wk nx s n y):Rw (fun a c=>∃k,nx a k=some c) n s y:=by
 induction h with
 | zero=>exact .nil
 | succ _ hk ih=>exact .snoc ih ⟨_,hk⟩
theorem Rw.wk{nx:Pl->Nat->Option Pl}{s y:Pl}{n:Nat}{S:Pl->Pl->Prop}(hS:∀a c,S a c->∃k,nx a k=some c)(h:Rw S n s y):Wk nx s n y:=by
 induction h with
 | nil=>exact .zero
 | snoc _ hk ih=>
  obtain⟨k,hk⟩:=hS _ _ hk
  exact .succ ih hk
theorem Rw.rev{S S':Pl->Pl->Prop}{I:Pl->Prop}(hS:∀a c,I a->S a c->S' c a/\I c){n:Nat}{x y:Pl}(h:Rw S n x y)(hx:I x):Rw S' n y x/\I y:=by
 induction h with
 | nil=>exact⟨.nil,hx⟩
 | snoc _ hs ih=>
  obtain⟨i1,i2⟩:=ih hx
  obtain⟨h1,h2⟩:=hS _ _ i2 hs
  exact⟨.cons h1 i1,h2⟩
theorem zZ{nx:Pl->Nat->Option Pl}{s y:Pl}:∀(n:Nat),Wk nx s n y->∃k,k<=n/\eP nx s k y:=by
 intro n
 induction n using Nat.strongRecOn with
 | _ n ih=>
  intro w
  by_cases h:∃k,k<n/\Wk nx s k y
  ·obtain⟨k,hk,w'⟩:=h
   obtain⟨k',h1,h2⟩:=ih k hk w'
   exact⟨k',by omega,h2⟩
  ·exact⟨n,Ep _,w,fun k hk w'=>h ⟨k,hk,w'⟩⟩
end Bfs
namespace Bfs
end Bfs
namespace My
open PySem L2 St
def stq (i : Nat) : Stmt := PySem.Challenge.pw_stairrooms_k41_far_answers.main.body.getD i (.Pass ⟨0, 0, 0, 0⟩)
local macro_rules | `(tactic| walk_at "cond") => `(tactic| first | decide | omega | (dsimp only; omega) | (unfold lI; omega) | (unfold wd; exact ⟨by decide, by decide, by decide⟩) | (dsimp only; exact ⟨by omega, by omega⟩) | exact .inr ⟨by decide, by decide⟩ | exact .inl ⟨by decide, by decide⟩ | (unfold SmallR; omega))
local macro_rules | `(tactic| walk_at "rd") => do
 let ts ← ("seq ret retN asg drop ifS next name var c op un CB cons nil ints test B exb not and or andV orV notV ifE yes I0 I U EqI NeI EqB NeB call BM tup lst sl noPart part exi chain comp iL iT i1 i2 i3 for tTru intB max2 min2 sub gcons gnil aug ipI zip rev par par2 lam calV raise fs try bseq bnext bplain bif bcall enum gget gin revL leS disp dget lrev disp1 din dnin dput min3 iS iD bm0 revS iD2 iLT thaw iD3 iDL dgt2 fs3 fs5".splitOn " ").toArray.mapM fun n =>
  let i := Lean.mkIdent (.mkSimple ("rd_" ++ n))
  if n == "var" || n == "aug" then `(tacticSeq| ((with_reducible apply $i); (exact rfl)))
  else if n == "I" then `(tacticSeq| ((with_reducible apply $i); (walk_at "cond")))
  else `(tacticSeq| with_reducible refine $i ?_)
 `(tactic| repeat (first $[| $ts]* | dsimp only))
structure Blt(mg:Str->Option Value):Prop where
 len_:mg "len" = none
 isinstance_:mg "isinstance" = none
 tuple_:mg "tuple" = none
 list_:mg "list" = none
 int_:mg "int" = none
 bool_:mg "bool" = none
 range_:mg "range" = none
 zip_:mg "zip" = none
 max_:mg "max" = none
 min_:mg "min" = none
 abs_:mg "abs" = none
 all_:mg "all" = none
 enumerate_:mg "enumerate" = none
 set_:mg "set" = none
 str_:mg "str" = none
 reversed_:mg "reversed" = none
 any_:mg "any" = none
def isInt:V->Bool
 | .int _=>true
 | _=>false
def isStr:V->Bool
 | .str _=>true
 | _=>false
def isTup(H:Hp):V->Bool
 | .ref p=>match H p with
  | some (.tup _)=>true
  | _=>false
 | _=>false
theorem xW{H:Hp}{v:V}{n:String}(h:dv H v n):∃b c,fO n "int" = some b/\fO n "bool" = some c/\(b && !c)=isInt v:=by
 cases v with
 | non=>cases(show n = "NoneType" from h);exact⟨_,_,rfl,rfl,rfl⟩
 | bl b=>cases(show n = "bool" from h);exact⟨_,_,rfl,rfl,rfl⟩
 | int i=>cases(show n = "int" from h);exact⟨_,_,rfl,rfl,rfl⟩
 | str z=>cases(show n = "str" from h);exact⟨_,_,rfl,rfl,rfl⟩
 | ref a=>rcases h with⟨rfl,xs,e⟩ | ⟨rfl,xs,e⟩<;>exact⟨_,_,rfl,rfl,rfl⟩
 | _=>exact False.elim h
theorem va{H:Hp}{v:V}{n:String}(h:dv H v n):fO n "str" = some (isStr v):=by
 cases v with
 | non=>cases(show n = "NoneType" from h);rfl
 | bl b=>cases(show n = "bool" from h);rfl
 | int i=>cases(show n = "int" from h);rfl
 | str z=>cases(show n = "str" from h);rfl
 | ref a=>rcases h with⟨rfl,xs,e⟩ | ⟨rfl,xs,e⟩<;>rfl
 | _=>exact False.elim h
theorem nh{H:Hp}{v:V}{n:String}(h:dv H v n):fO n "tuple" = some (isTup H v):=by
 cases v with
 | non=>cases(show n = "NoneType" from h);rfl
 | bl b=>cases(show n = "bool" from h);rfl
 | int i=>cases(show n = "int" from h);rfl
 | str z=>cases(show n = "str" from h);rfl
 | ref a=>rcases h with⟨rfl,xs,e⟩ | ⟨rfl,xs,e⟩<;>(unfold isTup;dsimp only;rw[e];rfl)
 | _=>exact False.elim h
def bF(H:Hp):Nat->V->Prop
 | _,.non=>True
 | _,.bl _=>True
 | _,.int _=>True
 | _,.str z=>z.length<=1000
 | 0,.ref _=>False
 | n+1,.ref p=>∃xs,(H p=some (.tup xs)\/H p=some (.lst xs))/\xs.length<=2000/\∀x∈xs,bF H n x
 | _,_=>False
theorem bF.ext{H H':Hp}(e:Ext H H'):∀{n:Nat} {v:V},bF H n v->bF H' n v:=by
 intro n
 induction n with
 | zero=>intro v h;cases v<;>exact h
 | succ n ih=>
  intro v h
  cases v with
  | ref p=>
   obtain⟨xs,h1,h2,h3⟩:=h
   exact⟨xs,h1.imp (e _ _) (e _ _),h2,fun x hx=>ih (h3 x hx)⟩
  | _=>exact h
theorem bF.kind{H:Hp}{n:Nat}{v:V}(h:bF H n v):∃k,dv H v k:=by
 cases v with
 | non=>exact⟨_,rfl⟩
 | bl b=>exact⟨_,rfl⟩
 | int i=>exact⟨_,rfl⟩
 | str z=>exact⟨_,rfl⟩
 | ref p=>
  cases n with
  | zero=>exact h.elim
  | succ n=>
   obtain⟨xs,h1,_⟩:=h
   rcases h1 with h1 | h1
   ·exact⟨"tuple",.inr ⟨rfl,xs,h1⟩⟩
   ·exact⟨"list",.inl ⟨rfl,xs,h1⟩⟩
 | _=>cases n<;>exact h.elim
theorem kF{H:Hp}{v:V}(h:isTup H v=true):∃p xs,v=.ref p/\H p=some (.tup xs):=by
 cases v with
 | ref p=>
  unfold isTup at h
  dsimp only at h
  split at h
  ·rename_i xs e
   exact⟨p,xs,rfl,e⟩
  ·cases h
 | _=>cases h
theorem bF.items{H:Hp}{n:Nat}{p:Addr}{xs:List V}(h:bF H (n+1) (.ref p))(e:H p=some (.tup xs)):xs.length<=2000/\∀x∈xs,bF H n x:=by
 obtain⟨ys,h1,h2,h3⟩:=h
 rcases h1 with h1 | h1<;>rw[e]at h1<;>cases h1
 exact⟨h2,h3⟩
theorem iN{n:Nat}(h:n<=2000):n<=sizeLine:=EE h (by decide)
def oy(K:DS):Sp:=fun vs H Q _=>∃v n,vs=[v]/\dv H v n/\Q (.bl (isInt v)) H
abbrev jj:Stmt:=stq 6
theorem rB:FnScope ["thing"] ["thing"] (aI jj):=⟨rfl,rfl,rfl,by decide +kernel,rfl,by decide +kernel,by decide +kernel⟩
theorem yw{P:Program}{w:World}{K:DS}{mg:Str->Option Value}{base:Heap}(D:Dfn K mg "is_whole" jj ["thing"])(T:Blt mg):Cal P w K mg base "is_whole" 1 ["thing"] (oy K):=by
 have nd:=(rB).nd
 refine D.ok rB (fun vs H Q E h=>?_) (fun X hX H vs Q E h=>?_)
 ·obtain⟨v,n,rfl,_⟩:=h;rfl
 ·obtain⟨f,cdv,A,outer,s,H0,E0,rfl,hr⟩:=hX
  obtain⟨v,n,rfl,hk,q⟩:=h
  obtain⟨b,c,hb,hc,e⟩:=xW hk
  refine⟨_,(av (aF (eM (bc eO rfl T.isinstance_ PyProof.Rows.boot_isinstance (aa (pv 0) (aa (eJ (v:=.ty "int") rfl T.int_ PyProof.Rows.boot_int rfl) ae))) (eB (uH (bc eO rfl T.isinstance_ PyProof.Rows.boot_isinstance (aa (pv 0) (aa (eJ (v:=.ty "bool") rfl T.bool_ PyProof.Rows.boot_bool rfl) ae)))))))),?_⟩
  walk_at "rd"
  refine eA hk hb ?_
  walk_at "rd"
  cases b with
  | false=>refine aw ?_;rw[←e]at q;exact q
  | true=>
   refine aC ?_
   walk_at "rd"
   refine eA hk hc ?_
   walk_at "rd"
   rw[←e]at q;exact q
def eR(m:Int):V->Bool
 | .int i=>decide (0<=i) && decide (i<m)
 | _=>false
def iw:List (Key×V):=[(.inr "up",.str "down"),(.inr "down",.str "up"),(.inr "stay",.str "stay"),(.inr "zero",.str "zero")]
theorem pW{w:World}{K:DS}{a:Addr}{t1 t2 t3 t4 t5 t6 t7 t8:Tok}{ep:Nat}(h:K.lookup a=some (gK w [("up",t1,.str "down" t2),("down",t3,.str "up" t4),("stay",t5,.str "stay" t6),("zero",t7,.str "zero" t8)] ep))(hs:(a == sysModules)=false):GDict w K a iw:=
 ⟨⟨_,_,h,.cons ⟨rfl,⟨_,rfl⟩⟩ (.cons ⟨rfl,⟨_,rfl⟩⟩ (.cons ⟨rfl,⟨_,rfl⟩⟩ (.cons ⟨rfl,⟨_,rfl⟩⟩ .nil)))⟩,by decide +kernel,hs⟩
def ib:V->Bool
 | .str z=>(bx iw (.inr z)).isSome
 | _=>false
def lM(z:Str):Bool:=!decide (z.cps.toList<(Str.ofString "a").cps.toList) && !decide ((Str.ofString "z").cps.toList<z.cps.toList)
def g5:V->Bool
 | .str z=>decide (z.length=1) && lM z
 | _=>false
theorem w5{v:V}(h:isInt v=true):∃i,v=.int i:=by
 cases v<;>first | exact ⟨_,rfl⟩ | cases h
theorem isStr_of{v:V}(h:isStr v=true):∃z,v=.str z:=by
 cases v<;>first | exact ⟨_,rfl⟩ | cases h
theorem Cr{m:Int}{v:V}(h:isInt v=false):eR m v=false:=by
 cases v<;>first | rfl | cases h
theorem ym{v:V}(h:isStr v=false):ib v=false:=by
 cases v<;>first | rfl | cases h
theorem B8{v:V}(h:isStr v=false):g5 v=false:=by
 cases v<;>first | rfl | cases h
def nk(K:DS):Sp:=fun vs H Q _=>∃v m n,vs=[v,.int m]/\dv H v n/\Q (.bl (eR m v)) H
abbrev lE:Stmt:=stq 15
theorem rG:FnScope ["thing","many"] ["thing","many"] (aI lE):=⟨rfl,rfl,rfl,by decide +kernel,rfl,by decide +kernel,by decide +kernel⟩
theorem xF{P:Program}{w:World}{K:DS}{mg:Str->Option Value}{base:Heap}(D:Dfn K mg "is_room" lE ["thing","many"])(T:Blt mg)(C_is_whole:Cal P w K mg base "is_whole" 1 ["thing"] (oy K)):Cal P w K mg base "is_room" 2 ["thing","many"] (nk K):=by
 have nd:=(rG).nd
 refine D.ok rG (fun vs H Q E h=>?_) (fun X hX H vs Q E h=>?_)
 ·obtain⟨i,m,n,rfl,_⟩:=h;rfl
 ·obtain⟨f,cdv,A,outer,s,H0,E0,rfl,hr⟩:=hX
  obtain⟨v,m,n,rfl,hk,q⟩:=h
  refine⟨_,(av (aF (eM (aH C_is_whole hr (aa (pv 0) ae)) (eB (mq i9 fM af (pv 0) (pv 1)))))),?_⟩
  walk_at "rd"
  refine⟨v,n,rfl,hk,?_⟩
  refine rd_exb ?_
  cases hv:isInt v with
  | false=>
   refine aw ?_
   rw[Cr hv]at q
   exact q
  | true=>
   obtain⟨i,rfl⟩:=w5 hv
   refine aC ?_
   walk_at "rd"
   unfold eR at q
   dsimp only at q
   cases h0:decide (0<=i)with
   | false=>
    refine aw ?_
    rw[h0]at q
    exact q
   | true=>
    refine aC ?_
    walk_at "rd"
    rw[h0,Bool.true_and]at q
    exact q
def rP(K:DS):Sp:=fun vs H Q _=>∃v n,vs=[v]/\dv H v n/\Q (.bl (ib v)) H
abbrev jk:Stmt:=stq 16
theorem v7:FnScope ["thing"] ["thing"] (aI jk):=⟨rfl,rfl,rfl,by decide +kernel,rfl,by decide +kernel,by decide +kernel⟩
theorem y7{P:Program}{w:World}{K:DS}{mg:Str->Option Value}{base:Heap}(D:Dfn K mg "is_deed" jk ["thing"])(T:Blt mg)(g_TURNED:∃a,mg "TURNED" = some (.ref a)/\GDict w K a iw):Cal P w K mg base "is_deed" 1 ["thing"] (rP K):=by
 have nd:=(v7).nd
 refine D.ok v7 (fun vs H Q E h=>?_) (fun X hX H vs Q E h=>?_)
 ·obtain⟨z,n,rfl,_⟩:=h;rfl
 ·obtain⟨f,cdv,A,outer,s,H0,E0,rfl,hr⟩:=hX
  obtain⟨a_TURNED,m_TURNED,d_TURNED⟩:=g_TURNED
  obtain⟨v,n,rfl,hk,q⟩:=h
  refine⟨_,(av (aF (eM (bc eO rfl T.isinstance_ PyProof.Rows.boot_isinstance (aa (pv 0) (aa (eJ (v:=.ty "str") rfl T.str_ PyProof.Rows.boot_str rfl) ae))) (eB (Cg (yH rfl m_TURNED d_TURNED (pv 0)) (by with_unfolding_all rfl)))))),?_⟩
  walk_at "rd"
  refine eA hk (va hk) ?_
  walk_at "rd"
  cases hv:isStr v with
  | false=>
   refine aw ?_
   rw[ym hv]at q
   exact q
  | true=>
   obtain⟨z,rfl⟩:=isStr_of hv
   refine aC ?_
   walk_at "rd"
   exact⟨.inr z,rfl,q⟩
def qx(K:DS):Sp:=fun vs H Q _=>∃v n j,vs=[v]/\dv H v n/\bF H j v/\Q (.bl (g5 v)) H
abbrev jT:Stmt:=stq 17
theorem pE:FnScope ["thing"] ["thing"] (aI jT):=⟨rfl,rfl,rfl,by decide +kernel,rfl,by decide +kernel,by decide +kernel⟩
theorem yp{P:Program}{w:World}{K:DS}{mg:Str->Option Value}{base:Heap}(D:Dfn K mg "is_sign" jT ["thing"])(T:Blt mg):Cal P w K mg base "is_sign" 1 ["thing"] (qx K):=by
 have nd:=(pE).nd
 refine D.ok pE (fun vs H Q E h=>?_) (fun X hX H vs Q E h=>?_)
 ·obtain⟨z,n,j,rfl,_⟩:=h;rfl
 ·obtain⟨f,cdv,A,outer,s,H0,E0,rfl,hr⟩:=hX
  obtain⟨v,n,j,rfl,hk,ht,q⟩:=h
  refine⟨_,(av (aF (eM (bc eO rfl T.isinstance_ PyProof.Rows.boot_isinstance (aa (pv 0) (aa (eJ (v:=.ty "str") rfl T.str_ PyProof.Rows.boot_str rfl) ae))) (eM (el bL (bc Dc rfl T.len_ PySem.boot_len (aa (pv 0) ae)) af (aP _)) (eB (mq uh uh bD (pv 0) bD)))))),?_⟩
  walk_at "rd"
  refine eA hk (va hk) ?_
  walk_at "rd"
  cases hv:isStr v with
  | false=>
   refine aw ?_
   rw[B8 hv]at q
   exact q
  | true=>
   obtain⟨z,rfl⟩:=isStr_of hv
   refine aC ?_
   walk_at "rd"
   refine⟨_,rfl,iN (EE (show z.length<=1000 by cases j<;>exact ht) (by decide)),?_⟩
   walk_at "rd"
   unfold g5 lM at q
   dsimp only at q
   by_cases h1:z.length=1
   ·rw[decide_eq_true (show((z.length:Nat):Int)=1 by omega)]
    refine aC ?_
    walk_at "rd"
    rw[decide_eq_true h1,Bool.true_and]at q
    cases h2:!decide (z.cps.toList<(Str.ofString "a").cps.toList)with
    | false=>
     refine aw ?_
     rw[h2]at q
     exact q
    | true=>
     refine aC ?_
     walk_at "rd"
     rw[h2,Bool.true_and]at q
     exact q
   ·rw[decide_eq_false (show ¬((z.length:Nat):Int)=1 by omega)]
    refine aw ?_
    rw[decide_eq_false h1,Bool.false_and]at q
    exact q
def gy(m:Int):List V->Bool
 | [a,b,c,d]=>eR m a && (eR m c && (ib b && g5 d))
 | _=>false
def bZ(H:Hp)(m:Int):V->Bool
 | .ref p=>match H p with
  | some (.tup xs)=>gy m xs
  | _=>false
 | _=>false
theorem r6{H:Hp}{m:Int}{v:V}(h:isTup H v=false):bZ H m v=false:=by
 cases v with
 | ref p=>
  unfold isTup at h
  unfold bZ
  dsimp only at h ⊢
  split
  ·rename_i xs e
   rw[e]at h
   cases h
  ·rfl
 | _=>rfl
theorem oB{H:Hp}{m:Int}{p:Addr}{xs:List V}(h:H p=some (.tup xs)):bZ H m (.ref p)=gy m xs:=by
 unfold bZ
 dsimp only
 rw[h]
theorem pz{m:Int}{xs:List V}(h:xs.length≠4):gy m xs=false:=by
 unfold gy
 split
 ·exact absurd rfl h
 ·rfl
theorem four{xs:List V}(h:xs.length=4):∃a b c d,xs=[a,b,c,d]:=by
 match xs,h with
 | [a,b,c,d],_=>exact⟨a,b,c,d,rfl⟩
def vx(K:DS):Sp:=fun vs H Q _=>∃v m,vs=[v,.int m]/\bF H 2 v/\Q (.bl (bZ H m v)) H
abbrev lF:Stmt:=stq 18
theorem tD:FnScope ["thing","many"] ["thing","many"] (aI lF):=⟨rfl,rfl,rfl,by decide +kernel,rfl,by decide +kernel,by decide +kernel⟩
theorem zD{P:Program}{w:World}{K:DS}{mg:Str->Option Value}{base:Heap}(D:Dfn K mg "is_way" lF ["thing","many"])(T:Blt mg)(C_is_sign:Cal P w K mg base "is_sign" 1 ["thing"] (qx K))(C_is_deed:Cal P w K mg base "is_deed" 1 ["thing"] (rP K))(C_is_room:Cal P w K mg base "is_room" 2 ["thing","many"] (nk K)):Cal P w K mg base "is_way" 3 ["thing","many"] (vx K):=by
 have nd:=(tD).nd
 refine D.ok tD (fun vs H Q E h=>?_) (fun X hX H vs Q E h=>?_)
 ·obtain⟨p,m,rfl,_⟩:=h;rfl
 ·obtain⟨f,cdv,A,outer,s,H0,E0,rfl,hr⟩:=hX
  obtain⟨v,m,rfl,ht,q⟩:=h
  obtain⟨n,hk⟩:=ht.kind
  refine⟨_,(aj (bU (PW.pt (dC (eU (b9 (bc eO rfl T.isinstance_ PyProof.Rows.boot_isinstance (aa (pv 0) (aa (eJ (v:=.ty "tuple") rfl T.tuple_ PyProof.Rows.boot_tuple rfl) ae))))) (dM (aT eY (bc (cH K) rfl T.len_ PySem.boot_len (aa (pv 0) ae)) af (aP _))))) (av (aF bR)) bf)
    (aj (bU (PW.pt (dC (eU (b9 (aH C_is_room hr (aa (ai (aB K) (pv 0) af (fun _ _=>rfl)) (aa (pv 1) ae))))) (dM (eU (b9 (aH C_is_room hr (aa (ai (aB K) (pv 0) af (fun _ _=>rfl)) (aa (pv 1) ae)))))))) (av (aF bR)) bf)
    (av (aF (eM (aH C_is_deed hr (aa (ai (aB K) (pv 0) af (fun _ _=>rfl)) ae)) (eB (aH C_is_sign hr (aa (ai (aB K) (pv 0) af (fun _ _=>rfl)) ae)))))))),?_⟩
  walk_at "rd"
  refine eA hk (nh hk) ?_
  walk_at "rd"
  cases hv:isTup H v with
  | false=>
   refine aC ?_
   walk_at "rd"
   rw[r6 hv]at q
   exact q
  | true=>
   refine aw ?_
   obtain⟨p,xs,rfl,hp⟩:=kF hv
   obtain⟨hx1,hx2⟩:=ht.items hp
   rw[oB hp]at q
   walk_at "rd"
   refine kf (ah.of hp) ?_
   walk_at "rd"
   by_cases h4:xs.length=4
   ·obtain⟨a,b,c,d,rfl⟩:=four h4
    have ta:=hx2 a (by simp)
    have tb:=hx2 b (by simp)
    have tc:=hx2 c (by simp)
    have td:=hx2 d (by simp)
    obtain⟨ka,hka⟩:=ta.kind
    obtain⟨kb,hkb⟩:=tb.kind
    obtain⟨kc,hkc⟩:=tc.kind
    obtain⟨kd,hkd⟩:=td.kind
    unfold gy at q
    dsimp only at q
    refine aw ?_
    walk_at "rd"
    refine aA (ah.of hp) (v:=a) rfl ?_
    walk_at "rd"
    refine⟨a,m,ka,rfl,hka,?_⟩
    walk_at "rd"
    cases ra:eR m a with
    | false=>
     refine aC ?_
     walk_at "rd"
     rw[ra]at q
     exact q
    | true=>
     refine aw ?_
     walk_at "rd"
     refine aA (ah.of hp) (v:=c) rfl ?_
     walk_at "rd"
     refine⟨c,m,kc,rfl,hkc,?_⟩
     walk_at "rd"
     rw[ra,Bool.true_and]at q
     cases rc:eR m c with
     | false=>
      refine aC ?_
      walk_at "rd"
      rw[rc]at q
      exact q
     | true=>
      refine aw ?_
      walk_at "rd"
      refine aA (ah.of hp) (v:=b) rfl ?_
      walk_at "rd"
      refine⟨b,kb,rfl,hkb,?_⟩
      walk_at "rd"
      rw[rc,Bool.true_and]at q
      cases rb:ib b with
      | false=>
       refine aw ?_
       rw[rb]at q
       exact q
      | true=>
       refine aC ?_
       walk_at "rd"
       refine aA (ah.of hp) (v:=d) rfl ?_
       walk_at "rd"
       rw[rb,Bool.true_and]at q
       exact⟨d,kd,1,rfl,hkd,td,q⟩
   ·rw[pz h4]at q
    rw[decide_eq_false (show ¬((xs.length:Nat):Int)=4 by omega)]
    refine aC ?_
    walk_at "rd"
    exact q
theorem ao{n:Nat}(h:n<=1000000):n<=sizeLine:=EE h (by decide)
def qF(K:DS):Sp:=fun vs H Q _=>∃(a:Addr) (ns:List Int) (k:Int),vs=[.ref a,.int k]/\ag K H a (ns.map V.int)/\ns.length<=63/\0<=k/\∀z,Q (.int z) H
theorem sM{ns:List Int}{i:Int}(h0:0<=i)(h:i<ns.length):∃z,bA (ns.map V.int) i=some (.int z)/\ns[i.toNat]?=some z:=by
 have hi:i.toNat<ns.length:=by omega
 refine⟨ns[i.toNat],dO h0 ?_,DX hi⟩
 rw[DY,DX hi]
 rfl
abbrev jq:Stmt:=stq 59
theorem qM:FnScope ["_law_script","_law_k"] ["_law_script","_law_k"] (aI jq):=⟨rfl,rfl,rfl,by decide +kernel,rfl,by decide +kernel,by decide +kernel⟩
theorem Av{P:Program}{w:World}{K:DS}{mg:Str->Option Value}{base:Heap}(D:Dfn K mg "_law_cell" jq ["_law_script","_law_k"])(T:Blt mg):Cal P w K mg base "_law_cell" 1 ["_law_script","_law_k"] (qF K):=by
 have nd:=(qM).nd
 refine D.ok qM (fun vs H Q E h=>?_) (fun X hX H vs Q E h=>?_)
 ·obtain⟨a,ns,k,rfl,_⟩:=h;rfl
 ·obtain⟨f,cdv,A,outer,s,H0,E0,rfl,hr⟩:=hX
  obtain⟨a,ns,k,rfl,ha,hl,hk,q⟩:=h
  refine⟨_,(aj (bU (aT bL (bc (cH K) rfl T.len_ PySem.boot_len (aa (pv 0) ae)) af (aP _)) (av (aF (aD eZ af (aD bH (pv 1) af)))) bf)
    (aj (bU (aT fM (pv 1) (bc (cH K) rfl T.len_ PySem.boot_len (aa (pv 0) ae)) (aP _)) (av (aF (ai (aS K) (pv 0) (pv 1) (fun _ _=>rfl)))) bf)
    (av (aF (aD bH (ai (aS K) (pv 0) (aD cC (pv 1) (bc (cH K) rfl T.len_ PySem.boot_len (aa (pv 0) ae))) (fun _ _=>rfl)) (aD eZ af (pv 1))))))),?_⟩
  walk_at "rd"
  refine dI ha ?_
  walk_at "rd"
  rw[DW]
  by_cases h0:(ns.length:Int)=0
  ·rw[decide_eq_true h0]
   refine aC ?_
   walk_at "rd"
   exact q _
  ·rw[decide_eq_false h0]
   refine aw ?_
   walk_at "rd"
   refine dI ha ?_
   walk_at "rd"
   rw[DW]
   by_cases h1:k<ns.length
   ·rw[decide_eq_true h1]
    refine aC ?_
    obtain⟨z,hz,_⟩:=sM hk h1
    walk_at "rd"
    refine aQ ha hz ?_
    exact q _
   ·rw[decide_eq_false h1]
    refine aw ?_
    walk_at "rd"
    refine dI ha ?_
    rw[DW]
    have hp:(0:Int)<ns.length:=by omega
    refine rd_I hp ?_
    obtain⟨z,hz,_⟩:=sM (ns:=ns) (Int.emod_nonneg k (by omega)) (Int.emod_lt_of_pos k hp)
    refine aQ ha hz ?_
    walk_at "rd"
    exact q _
def qc(K:DS):Sp:=fun vs H Q _=>∃c k p,vs=[.int c,.int k,.int p]/\0<=k/\k<100000/\0<p/\∀z,0<=z->z<p->Q (.int z) H
abbrev lA:Stmt:=stq 60
theorem qj:FnScope ["_law_cell_here","_law_k","_law_prime","_law_far"] ["_law_cell_here","_law_k","_law_prime"] (aI lA):=⟨rfl,rfl,rfl,by decide +kernel,rfl,by decide +kernel,by decide +kernel⟩
theorem zc{P:Program}{w:World}{K:DS}{mg:Str->Option Value}{base:Heap}(D:Dfn K mg "_law_mixed" lA ["_law_cell_here","_law_k","_law_prime"])(T:Blt mg):Cal P w K mg base "_law_mixed" 1 ["_law_cell_here","_law_k","_law_prime"] (qc K):=by
 have nd:=(qj).nd
 refine D.ok qj (fun vs H Q E h=>?_) (fun X hX H vs Q E h=>?_)
 ·obtain⟨c,k,p,rfl,_⟩:=h;rfl
 ·obtain⟨f,cdv,A,outer,s,H0,E0,rfl,hr⟩:=hX
  obtain⟨c,k,p,rfl,hk,hk2,hp,q⟩:=h
  refine⟨_,(aj (aG (i:=3) nd rfl (Or.inl rfl) (aD cC (aD eZ (aD bH (aD bH (aD bH (pv 0) (aD eZ (aD eZ af (pv 1)) (pv 1))) (aD eZ af (pv 1))) af) af) af))
    (aj (aG (i:=3) nd rfl (Or.inl rfl) (aD cC (aD eZ (pv 3) (pv 3)) af))
    (av (aF (aD cC (aD eZ (pv 3) af) (pv 2)))))),?_⟩
  walk_at "rd"
  exact q _ (Int.emod_nonneg _ (by omega)) (Int.emod_lt_of_pos _ hp)
theorem cB{H H2:Hp}{q:Addr}{o:HO}(e:Ext H H2)(hq:H q=none):Ext H (upd H2 q o):=fun b u hb=>by
 rw[az (bO hb hq)]
 exact e b u hb
def vA(K:DS):Sp:=fun vs H Q _=>∃(c:Int) (w:Addr) (ws:List Int) (p:Int),vs=[.int c,.ref w,.int p]/\H w=some (.lst (ws.map V.int))/\(∀x∈ws,0<x/\x<2 ^ 40)/\ws.length<=10000/\0<p ∧
 ∀(q:Addr) (ds:List Int) (H':Hp),Ext H H'->H' q=some (.lst (ds.map V.int))->H q=none->ds.length=ws.length->(∀(i:Nat) d x,ds[i]?=some d->ws[i]?=some x->0<=d/\d<x)->Q (.ref q) H'
abbrev jN:Stmt:=stq 61
theorem wN:FnScope ["_law_cell_here","_law_widths","_law_prime","_law_left","_law_found","_law_k"] ["_law_cell_here","_law_widths","_law_prime"] (aI jN):=⟨rfl,rfl,rfl,by decide +kernel,rfl,by decide +kernel,by decide +kernel⟩
theorem yl{P:Program}{w:World}{K:DS}{mg:Str->Option Value}{base:Heap}(D:Dfn K mg "_law_draws" jN ["_law_cell_here","_law_widths","_law_prime"])(T:Blt mg)(C__law_mixed:Cal P w K mg base "_law_mixed" 1 ["_law_cell_here","_law_k","_law_prime"] (qc K)):Cal P w K mg base "_law_draws" 2 ["_law_cell_here","_law_widths","_law_prime"] (vA K):=by
 have nd:=(wN).nd
 refine D.ok wN (fun vs H Q E h=>?_) (fun X hX H vs Q E h=>?_)
 ·obtain⟨c,w,ws,p,rfl,_⟩:=h;rfl
 ·obtain⟨f,cdv,A,outer,s,H0,E0,rfl,hr⟩:=hX
  obtain⟨c,w,ws,p,rfl,hw,hpos,hlen,hp,q⟩:=h
  refine⟨_,(aj (aG (i:=3) nd rfl (Or.inl rfl) af)
    (aj (cO (aT vy (pv 0) (aD sY af af) (aP _)) (av (aG (i:=3) nd rfl (Or.inl rfl) (aD dR (pv 0) (aD sY af af)))) bf)
    (aj (aG (i:=4) nd rfl (Or.inl rfl) (bJ ae))
    (aj (cj PassesOwn.never rfl (cX rfl T.range_ (aa (bc (cH K) rfl T.len_ PySem.boot_len (aa (pv 1) ae)) ae)) (aO (i:=5) nd rfl (Or.inl rfl)) (av (cO (aT gA (pv 3) af (aP _)) (aj (bh (bE K Ed Er Es bQ (pv 4) (aa (aD cC (pv 3) (ai (aS K) (pv 1) (pv 5) (fun _ _=>rfl))) ae)))
    (av (aG (i:=3) nd rfl (Or.inl rfl) (aD Dk (pv 3) (ai (aS K) (pv 1) (pv 5) (fun _ _=>rfl)))))) (av (bh (bE K Ed Er Es bQ (pv 4) (aa (aD cC (aH C__law_mixed hr (aa (pv 0) (aa (pv 5) (aa (pv 2) ae)))) (ai (aS K) (pv 1) (pv 5) (fun _ _=>rfl))) ae)))))))
    (av (aF (pv 4))))))),?_⟩
  walk_at "rd"
  refine gY (fun σ' H'=>H'=H/\∃l,σ'=[some (.int c),some (.ref w),some (.int p),some (.int l),none,none]) ?_ ?_
  ·walk_at "rd"
   refine w6 (fun h=>?_) (fun h=>?_)
   ·walk_at "rd"
    exact⟨rfl,_,rfl⟩
   ·walk_at "rd"
    exact⟨rfl,_,rfl⟩
  rintro σ' H' ⟨rfl,l,rfl⟩
  walk_at "rd"
  refine⟨ao (by simp),aq fun f H1 e1 hf hfn=>?_⟩
  walk_at "rd"
  refine dI (ag.of (e1 _ _ hw)) ?_
  rw[DW]
  walk_at "rd"
  refine cR (by omega) ?_
  refine forR (fun i σ H2=>Ext H' H2/\∃(l:Int) (k:Option V) (ds:List Int),σ=[some (.int c),some (.ref w),some (.int p),some (.int l),some (.ref f),k]/\H2 f=some (.lst (ds.map V.int))/\ds.length=i/\∀(i:Nat) d x,ds[i]?=some d->ws[i]?=some x->0<=d/\d<x)
   ⟨e1,l,none,[],rfl,hf,rfl,fun i d x hd=>by simp at hd⟩ ?_ ?_
  ·rintro i σ H2 hi ⟨e2,l,k,ds,rfl,hf2,hds,hb⟩
   rw[Ei]at hi
   have hwi:ws[i]?=some ws[i]:=DX hi
   have hx:=hpos ws[i] (Ez hi)
   have hat:bA (ws.map V.int) (0+(i:Int))=some (.int ws[i]):=by
    rw[Int.zero_add]
    exact dX (by rw[DY,hwi];rfl)
   have next:∀d,0<=d->d<ws[i]->∀(j:Nat) (d' x:Int),(ds++[d])[j]?=some d'->ws[j]?=some x->0<=d'/\d'<x:=fun d h0 h1 j d' x hj hx'=>by
    rcases Nat.lt_or_ge j ds.length with h | h
    ·rw[Ey h]at hj
     exact hb j d' x hj hx'
    ·rw[Ex h]at hj
     have hj0:j-ds.length=0:=by
      rcases Nat.eq_zero_or_pos (j-ds.length)with h | h
      ·exact h
      ·rw[List.getElem?_eq_none (by simp;omega)]at hj;cases hj
     rw[hj0]at hj
     have hji:j=i:=by omega
     subst hji
     rw[hwi]at hx'
     cases hx'
     have:d=d':=by simpa using hj
     rw[←this]
     exact⟨h0,h1⟩
   walk_at "rd"
   refine b7 ?_
   walk_at "rd"
   refine w6 (fun h=>?_) (fun h=>?_)
   ·have h':1<l:=by simpa using h
    walk_at "rd"
    refine⟨bP (ag.of hf2),?_⟩
    walk_at "rd"
    refine aQ (ag.of (e2 _ _ hw)) hat ?_
    refine rd_I (show 0<ws[i] by omega) ?_
    walk_at "rd"
    refine bN hf2 (by rw[DW];exact Nat.lt_of_le_of_lt (show ds.length<=10000 by omega) (by decide)) ?_
    walk_at "rd"
    refine aQ (ag.of (cB e2 hfn _ _ hw)) hat ?_
    refine rd_I (show 0<ws[i]/\ws[i]<2 ^ 64 by omega) ?_
    walk_at "rd"
    refine⟨cB e2 hfn,_,_,ds++[l % ws[i]],rfl,?_,by rw[En,hds];rfl,next _ (Int.emod_nonneg _ (by omega)) (Int.emod_lt_of_pos _ (by omega))⟩
    rw[aL,Em]
    rfl
   ·walk_at "rd"
    refine⟨bP (ag.of hf2),?_⟩
    walk_at "rd"
    refine⟨c,0+(i:Int),p,rfl,by omega,by omega,hp,fun z hz0 hz1=>?_⟩
    walk_at "rd"
    refine aQ (ag.of (e2 _ _ hw)) hat ?_
    refine rd_I (show 0<ws[i] by omega) ?_
    walk_at "rd"
    refine bN hf2 (by rw[DW];exact Nat.lt_of_le_of_lt (show ds.length<=10000 by omega) (by decide)) ?_
    walk_at "rd"
    refine⟨cB e2 hfn,_,_,ds++[z % ws[i]],rfl,?_,by rw[En,hds];rfl,next _ (Int.emod_nonneg _ (by omega)) (Int.emod_lt_of_pos _ (by omega))⟩
    rw[aL,Em]
    rfl
  ·rintro σ H2 ⟨e2,l,k,ds,rfl,hf2,hds,hb⟩
   walk_at "rd"
   exact q f ds H2 e2 hf2 hfn (by rw[hds,Ei]) hb
def qm:List V->List Key
 | [.int a,.str b,.int c,.str d]=>[.inl a,.inr b,.inl c,.inr d]
 | _=>[]
def fU(H:Hp):V->List Key
 | .ref p=>match H p with
  | some (.tup xs)=>qm xs
  | _=>[]
 | _=>[]
theorem tE{H:Hp}{p:Addr}{xs:List V}(h:H p=some (.tup xs)):fU H (.ref p)=qm xs:=by
 unfold fU
 dsimp only
 rw[h]
theorem Dz{H:Hp}{m:Int}{v:V}(h:bZ H m v=true):∃p a b c d,v=.ref p/\H p=some (.tup [.int a,.str b,.int c,.str d])/\(0<=a/\a<m)/\(0<=c/\c<m)/\ib (.str b)=true/\g5 (.str d)=true:=by
 cases ht:isTup H v with
 | false=>rw[r6 ht]at h;cases h
 | true=>
  obtain⟨p,xs,rfl,hp⟩:=kF ht
  rw[oB hp]at h
  by_cases h4:xs.length=4
  ·obtain⟨a,b,c,d,rfl⟩:=four h4
   unfold gy at h
   simp only[EJ]at h
   obtain⟨h1,h2,h3,h5⟩:=h
   cases a with
   | int i=>
    cases c with
    | int j=>
     cases b with
     | str y=>
      cases d with
      | str z=>
       unfold eR at h1 h2
       simp only[EJ,decide_eq_true_eq]at h1 h2
       exact⟨p,i,y,j,z,rfl,hp,h1,h2,h3,h5⟩
      | _=>cases h5
     | _=>cases h3
    | _=>cases h2
   | _=>cases h1
  ·rw[pz h4]at h
   cases h
theorem tU{H:Hp}{m:Int}:∀{xs:List V},xs.all (bZ H m)=true->∃bs:List Addr,xs=bs.map V.ref/\i7 H bs (xs.map (fU H))
 | [],_=>⟨[],rfl,rfl,fun j b k e=>by simp at e⟩
 | x::xs,h=>by
  rw[List.all_cons,EJ]at h
  obtain⟨bs,e,h1,h2⟩:=tU h.2
  obtain⟨p,a,b,c,d,rfl,hp,_⟩:=Dz h.1
  refine⟨p::bs,by rw[List.map_cons,←e],by rw[EA,List.map_cons,EA,h1],fun j b' k e1 e2=>?_⟩
  cases j with
  | zero=>
   cases e1
   rw[List.map_cons,tE hp]at e2
   cases e2
   exact hp
  | succ j=>exact h2 j b' k e1 e2
theorem xR{H H':Hp}{m:Int}{n:Nat}{v:V}(e:Ext H H')(h:bF H n v):bZ H' m v=bZ H m v:=by
 cases v with
 | ref p=>
  cases n with
  | zero=>exact h.elim
  | succ n=>
   obtain⟨xs,h1,_⟩:=h
   unfold bZ
   dsimp only
   rcases h1 with h1 | h1<;>rw[h1,e _ _ h1]
 | _=>rfl
def jK(H:Hp)(m:Int)(xs:List V):Bool:=decide (xs.length<=100) && (xs.all (bZ H m) && decide (xs.map (fU H)).Nodup)
def gM(H:Hp)(m:Int):V->Bool
 | .ref p=>match H p with
  | some (.tup xs)=>jK H m xs
  | _=>false
 | _=>false
theorem AU{H:Hp}{m:Int}{v:V}(h:isTup H v=false):gM H m v=false:=by
 cases v with
 | ref p=>
  unfold isTup at h
  unfold gM
  dsimp only at h ⊢
  split
  ·rename_i xs e
   rw[e]at h
   cases h
  ·rfl
 | _=>rfl
theorem uB{H:Hp}{m:Int}{p:Addr}{xs:List V}(h:H p=some (.tup xs)):gM H m (.ref p)=jK H m xs:=by
 unfold gM
 dsimp only
 rw[h]
open Classical in
theorem jB{α:Type}:∀{D l:List α},D.Nodup->(∀k∈D,k∈l)->D.length<=l.length
 | [],l,_,_=>Nat.zero_le _
 | d::D,l,hn,hs=>by
  have hn':=List.nodup_cons.mp hn
  have hm:=hs d Ec
  have:=jB (D:=D) (l:=l.erase d) hn'.2 fun k hk=>(List.mem_erase_of_ne (by rintro rfl;exact hn'.1 hk)).mpr (hs k (DZ _ hk))
  rw[List.length_erase_of_mem hm]at this
  have h0:0<l.length:=List.length_pos_of_mem hm
  rw[EA]
  omega
theorem nodup_iff{α:Type}{D l:List α}(hn:D.Nodup)(hm:∀k,k∈D↔k∈l):D.length=l.length↔l.Nodup:=by
 constructor
 ·intro e
  exact(tZ hn (fun k hk=>(hm k).mp hk) e.symm).nodup_iff.mpr hn
 ·intro hl
  have h1:=jB hn fun k hk=>(hm k).mp hk
  have h2:=jB hl fun k hk=>(hm k).mpr hk
  omega
def pL(K:DS):Sp:=fun vs H Q _=>∃v m,vs=[v,.int m]/\bF H 3 v/\∀H',Ext H H'->Q (.bl (gM H m v)) H'
abbrev kS:Stmt:=stq 19
theorem sE:FnScope ["thing","many"] ["thing","many"] (aI kS):=⟨rfl,rfl,rfl,by decide +kernel,rfl,by decide +kernel,by decide +kernel⟩
theorem yK{P:Program}{w:World}{K:DS}{mg:Str->Option Value}{base:Heap}(D:Dfn K mg "are_ways" kS ["thing","many"])(T:Blt mg)(g_GREATEST_WAYS:∃t,mg "GREATEST_WAYS" = some (.int 100 t))(C_is_way:Cal P w K mg base "is_way" 3 ["thing","many"] (vx K)):Cal P w K mg base "are_ways" 4 ["thing","many"] (pL K):=by
 have nd:=(sE).nd
 refine D.ok sE (fun vs H Q E h=>?_) (fun X hX H vs Q E h=>?_)
 ·obtain⟨p,m,rfl,_⟩:=h;rfl
 ·obtain⟨f,cdv,A,outer,s,H0,E0,rfl,hr⟩:=hX
  obtain⟨t_GREATEST_WAYS,c_GREATEST_WAYS⟩:=g_GREATEST_WAYS
  obtain⟨v,m,rfl,ht,q⟩:=h
  obtain⟨n,hk⟩:=ht.kind
  refine⟨_,(aj (bU (PW.pt (dC (eU (b9 (bc eO rfl T.isinstance_ PyProof.Rows.boot_isinstance (aa (pv 0) (aa (eJ (v:=.ty "tuple") rfl T.tuple_ PyProof.Rows.boot_tuple rfl) ae))))) (dM (aT gA (bc (cH K) rfl T.len_ PySem.boot_len (aa (pv 0) ae)) (mn (v:=.int 100) rfl c_GREATEST_WAYS ⟨_,rfl⟩) (aP _))))) (av (aF bR)) bf)
    (av (aF (eM (bc (sJ K rfl) rfl T.all_ PyProof.Rows.boot_all (aa (di ["way"] [1] (kJ K (pv 0)) (fun _=>(aO (i:=0) (show(["way","many"]:List Str).Nodup from by decide +kernel) rfl (Or.inl rfl) (Or.inr rfl))) (fun _=>dY) (fun _=>(aH C_is_way hr (aa (pv 0) (aa (pv 1) ae))))) ae)) (eB (el bL (bc xO rfl T.len_ PySem.boot_len (aa (gW (zw hr) rfl T.set_ PyProof.Rows.boot_set (aa (pv 0) ae)) ae)) (bc (cH K) rfl T.len_ PySem.boot_len (aa (pv 0) ae)) (aP _))))))),?_⟩
  walk_at "rd"
  refine eA hk (nh hk) ?_
  walk_at "rd"
  cases hv:isTup H v with
  | false=>
   refine aC ?_
   walk_at "rd"
   rw[AU hv]at q
   exact q H fun _ _ z=>z
  | true=>
   refine aw ?_
   obtain⟨p,xs,rfl,hp⟩:=kF hv
   obtain⟨hx1,hx2⟩:=ht.items hp
   rw[uB hp]at q
   unfold jK at q
   walk_at "rd"
   refine kf (ah.of hp) ?_
   walk_at "rd"
   by_cases h4:xs.length<=100
   ·rw[decide_eq_false (show ¬((100:Int)<((xs.length:Nat):Int)) by omega)]
    rw[decide_eq_true h4,Bool.true_and]at q
    refine aw ?_
    walk_at "rd"
    refine kZ (ah.of hp) ?_
    refine mR (xs:=xs) (fun i ys H'=>Ext H H'/\ys=((xs.take i).map (bZ H m)).map V.bl) (iN hx1) ⟨fun _ _ z=>z,rfl⟩ (fun i ys H' hi h=>⟨ah.of (h.1 _ _ hp),by rw[h.2,DW,DW,List.length_take];omega⟩) ?_ ?_
    ·rintro i x ys H' hx ⟨e,rfl⟩
     have hxt:=hx2 x (Ef hx)
     walk_at "rd"
     refine aC ?_
     walk_at "rd"
     refine⟨x,m,rfl,hxt.ext e,e,?_⟩
     rw[xR e hxt,List.take_add_one,hx]
     simp
    ·rintro ys H' pl ⟨e,rfl⟩ hpl
     rw[EB]
     walk_at "rd"
     have eN:Ext H (upd H' pl (.lst ((xs.map (bZ H m)).map V.bl))):=e.trans (bw hpl)
     refine⟨pl,xs.map (bZ H m),rfl,ag.of aL,?_⟩
     have ea:(xs.map (bZ H m)).all id=xs.all (bZ H m):=by
      rw[List.all_map]
      rfl
     rw[ea]
     walk_at "rd"
     cases hall:xs.all (bZ H m)with
     | false=>
      refine aw ?_
      rw[hall,Bool.false_and]at q
      exact q _ eN
     | true=>
      refine aC ?_
      rw[hall,Bool.true_and]at q
      obtain⟨bs,ebs,hka⟩:=tU hall
      generalize upd H' pl (.lst ((xs.map (bZ H m)).map V.bl))=H2 at eN ⊢
      walk_at "rd"
      refine⟨p,bs,xs.map (fU H),rfl,.inl (by rw[←ebs];exact eN _ _ hp),hka.ext eN,by rw[DW];omega,fun l L hl hnd hmem hL=>?_⟩
      have hll:L.length<=xs.length:=by
       have:=jB hnd fun k hk=>(hmem k).mp hk
       rwa [DW,DW]at this
      walk_at "rd"
      refine⟨l,L,rfl,aL,by omega,?_⟩
      walk_at "rd"
      have eL:Ext H (upd H2 l (lH P w l L)):=eN.trans (bw hl)
      refine kf (ah.of (eL _ _ hp)) ?_
      walk_at "rd"
      have hiff:=nodup_iff hnd hmem
      rw[DW,DW]at hiff
      have eb:decide ((((L.length:Nat):Int))=((xs.length:Nat):Int))=decide ((xs.map (fU H)).Nodup):=by
       by_cases hq:(xs.map (fU H)).Nodup
       ·rw[decide_eq_true (show((L.length:Nat):Int)=((xs.length:Nat):Int) by have:=hiff.mpr hq;omega)]
        exact(decide_eq_true hq).symm
       ·rw[decide_eq_false (show ¬((L.length:Nat):Int)=((xs.length:Nat):Int)from fun z=>hq (hiff.mp (by omega)))]
        exact(decide_eq_false hq).symm
      rw[eb]
      exact q _ eL
   ·rw[decide_eq_true (show((100:Int)<((xs.length:Nat):Int)) by omega)]
    rw[decide_eq_false h4,Bool.false_and]at q
    refine aC ?_
    walk_at "rd"
    exact q H fun _ _ z=>z
def gg(H:Hp):List V->Bool
 | [.int m,q]=>decide (1<=m) && (decide (m<=12) && gM H m q)
 | _=>false
def f7(H:Hp):V->Bool
 | .ref p=>match H p with
  | some (.tup xs)=>gg H xs
  | _=>false
 | _=>false
theorem zH{H:Hp}{v:V}(h:isTup H v=false):f7 H v=false:=by
 cases v with
 | ref p=>
  unfold isTup at h
  unfold f7
  dsimp only at h ⊢
  split
  ·rename_i xs e
   rw[e]at h
   cases h
  ·rfl
 | _=>rfl
theorem qB{H:Hp}{p:Addr}{xs:List V}(h:H p=some (.tup xs)):f7 H (.ref p)=gg H xs:=by
 unfold f7
 dsimp only
 rw[h]
theorem Cc{H:Hp}{xs:List V}(h:xs.length≠2):gg H xs=false:=by
 unfold gg
 split
 ·exact absurd rfl h
 ·rfl
theorem yh{H:Hp}{a b:V}(h:isInt a=false):gg H [a,b]=false:=by
 cases a<;>first | rfl | cases h
theorem Aw{xs:List V}(h:xs.length=2):∃a b,xs=[a,b]:=by
 match xs,h with
 | [a,b],_=>exact⟨a,b,rfl⟩
def tL(K:DS):Sp:=fun vs H Q _=>∃v,vs=[v]/\bF H 4 v/\∀H',Ext H H'->Q (.bl (f7 H v)) H'
abbrev jP:Stmt:=stq 20
theorem uS:FnScope ["thing"] ["thing"] (aI jP):=⟨rfl,rfl,rfl,by decide +kernel,rfl,by decide +kernel,by decide +kernel⟩
theorem DH{P:Program}{w:World}{K:DS}{mg:Str->Option Value}{base:Heap}(D:Dfn K mg "is_house" jP ["thing"])(T:Blt mg)(g_GREATEST_MANY:∃t,mg "GREATEST_MANY" = some (.int 12 t))(C_are_ways:Cal P w K mg base "are_ways" 4 ["thing","many"] (pL K))(C_is_whole:Cal P w K mg base "is_whole" 1 ["thing"] (oy K)):Cal P w K mg base "is_house" 5 ["thing"] (tL K):=by
 have nd:=(uS).nd
 refine D.ok uS (fun vs H Q E h=>?_) (fun X hX H vs Q E h=>?_)
 ·obtain⟨p,rfl,_⟩:=h;rfl
 ·obtain⟨f,cdv,A,outer,s,H0,E0,rfl,hr⟩:=hX
  obtain⟨t_GREATEST_MANY,c_GREATEST_MANY⟩:=g_GREATEST_MANY
  obtain⟨v,rfl,ht,q⟩:=h
  obtain⟨n,hk⟩:=ht.kind
  refine⟨_,(aj (bU (PW.pt (dC (eU (b9 (bc eO rfl T.isinstance_ PyProof.Rows.boot_isinstance (aa (pv 0) (aa (eJ (v:=.ty "tuple") rfl T.tuple_ PyProof.Rows.boot_tuple rfl) ae))))) (dM (aT eY (bc (cH K) rfl T.len_ PySem.boot_len (aa (pv 0) ae)) af (aP _))))) (av (aF bR)) bf)
    (av (aF (eM (aH C_is_whole hr (aa (ai (aB K) (pv 0) af (fun _ _=>rfl)) ae)) (eM (mq i9 i9 af (ai (aB K) (pv 0) af (fun _ _=>rfl)) (mn (v:=.int 12) rfl c_GREATEST_MANY ⟨_,rfl⟩)) (eB (aH C_are_ways hr (aa (ai (aB K) (pv 0) af (fun _ _=>rfl)) (aa (ai (aB K) (pv 0) af (fun _ _=>rfl)) ae))))))))),?_⟩
  walk_at "rd"
  refine eA hk (nh hk) ?_
  walk_at "rd"
  cases hv:isTup H v with
  | false=>
   refine aC ?_
   walk_at "rd"
   rw[zH hv]at q
   exact q H fun _ _ z=>z
  | true=>
   refine aw ?_
   obtain⟨p,xs,rfl,hp⟩:=kF hv
   obtain⟨hx1,hx2⟩:=ht.items hp
   rw[qB hp]at q
   walk_at "rd"
   refine kf (ah.of hp) ?_
   walk_at "rd"
   by_cases h4:xs.length=2
   ·obtain⟨a,b,rfl⟩:=Aw h4
    have ta:=hx2 a (by simp)
    have tb:=hx2 b (by simp)
    obtain⟨ka,hka⟩:=ta.kind
    refine aw ?_
    walk_at "rd"
    refine aA (ah.of hp) (v:=a) rfl ?_
    walk_at "rd"
    refine⟨a,ka,rfl,hka,?_⟩
    refine rd_exb ?_
    cases ha:isInt a with
    | false=>
     refine aw ?_
     rw[yh ha]at q
     exact q H fun _ _ z=>z
    | true=>
     obtain⟨m,rfl⟩:=w5 ha
     refine aC ?_
     unfold gg at q
     dsimp only at q
     walk_at "rd"
     refine aA (ah.of hp) (v:=.int m) rfl ?_
     walk_at "rd"
     cases h1:decide (1<=m)with
     | false=>
      refine aw ?_
      walk_at "rd"
      refine aw ?_
      rw[h1]at q
      exact q H fun _ _ z=>z
     | true=>
      refine aC ?_
      walk_at "rd"
      rw[h1,Bool.true_and]at q
      cases h2:decide (m<=12)with
      | false=>
       refine aw ?_
       rw[h2]at q
       exact q H fun _ _ z=>z
      | true=>
       refine aC ?_
       walk_at "rd"
       refine aA (ah.of hp) (v:=b) rfl ?_
       walk_at "rd"
       refine aA (ah.of hp) (v:=.int m) rfl ?_
       walk_at "rd"
       rw[h2,Bool.true_and]at q
       exact⟨b,m,rfl,tb,q⟩
   ·rw[Cc h4]at q
    rw[decide_eq_false (show ¬((xs.length:Nat):Int)=2 by omega)]
    refine aC ?_
    walk_at "rd"
    exact q H fun _ _ z=>z
def cb(H:Hp)(p:Addr)(kk:List (List Key)):Prop:=∃bs:List Addr,H p=some (.tup (bs.map V.ref))/\bs.length=kk.length/\∀(j:Nat) (b:Addr) (k:List Key),bs[j]?=some b->kk[j]?=some k->H b=some (.tup (k.map kV))
theorem cb.ext{H H':Hp}{p:Addr}{kk:List (List Key)}(e:Ext H H')(h:cb H p kk):cb H' p kk:=by
 obtain⟨bs,h1,h2,h3⟩:=h
 exact⟨bs,e _ _ h1,h2,fun j b k e1 e2=>e _ _ (h3 j b k e1 e2)⟩
structure Way where
 room:Int
 deed:Str
 other:Int
 sign:Str
 deriving DecidableEq
abbrev Way.key(w:Way):List Key:=[.inl w.room,.inr w.deed,.inl w.other,.inr w.sign]
abbrev Way.vs(w:Way):List V:=[.int w.room,.str w.deed,.int w.other,.str w.sign]
theorem Way.key_inj{w u:Way}(h:w.key=u.key):w=u:=by
 cases w;cases u
 simp only[Way.key,List.cons.injEq,Sum.inl.injEq,Sum.inr.injEq]at h
 obtain⟨rfl,rfl,rfl,rfl,_⟩:=h
 rfl
def gO(z:Str):Prop:=∃c:Nat,97<=c/\c<=122/\z=⟨#[c]⟩
def bC(z:Str):Prop:=z = "up"\/z = "down"\/z = "stay"\/z = "zero"
structure Way.Ok(m:Int)(w:Way):Prop where
 r0:0<=w.room
 r1:w.room<m
 o0:0<=w.other
 o1:w.other<m
 dd:bC w.deed
 sg:gO w.sign
structure HOuse(m:Int)(ws:List Way):Prop where
 m1:1<=m
 m12:m<=12
 few:ws.length<=100
 ok:∀w∈ws,w.Ok m
 nd:ws.Nodup
def aU(H:Hp)(v:V)(m:Int)(ws:List Way):Prop:=∃p q,v=.ref p/\H p=some (.tup [.int m,.ref q])/\cb H q (ws.map Way.key)
theorem aU.ext{H H':Hp}{v:V}{m:Int}{ws:List Way}(e:Ext H H')(h:aU H v m ws):aU H' v m ws:=by
 obtain⟨p,q,rfl,h1,h2⟩:=h
 exact⟨p,q,rfl,e _ _ h1,h2.ext e⟩
theorem cb.item{H:Hp}{ws:List Way}{bs:List Addr}(h:∀(j:Nat) (b:Addr) (k:List Key),bs[j]?=some b->(ws.map Way.key)[j]?=some k->H b=some (.tup (k.map kV))){j:Nat}{b:Addr}{w:Way}(e1:bs[j]?=some b)(e2:ws[j]?=some w):H b=some (.tup w.vs):=
 h j b w.key e1 (by rw[DY,e2];rfl)
def aE(H:Hp)(bs:List Addr)(ws:List Way):Prop:=bs.length=ws.length/\∀(j:Nat) (b:Addr) (w:Way),bs[j]?=some b->ws[j]?=some w->H b=some (.tup w.vs)
theorem aE.ext{H H':Hp}{bs:List Addr}{ws:List Way}(e:Ext H H')(h:aE H bs ws):aE H' bs ws:=⟨h.1,fun j b w e1 e2=>e _ _ (h.2 j b w e1 e2)⟩
theorem aE.put{H:Hp}{f:Addr}{xs ys:List V}{bs:List Addr}{ws:List Way}(hf:H f=some (.lst xs))(h:aE H bs ws):aE (upd H f (.lst ys)) bs ws:=⟨h.1,fun j b w e1 e2=>by
 have:=h.2 j b w e1 e2
 rw[az (cL this hf (by intro z;cases z))]
 exact this⟩
theorem aE.nil(H:Hp):aE H [] []:=⟨rfl,fun j b w e=>by simp at e⟩
theorem aE.snoc{H:Hp}{bs:List Addr}{ws:List Way}{b:Addr}{w:Way}(h:aE H bs ws)(hb:H b=some (.tup w.vs)):aE H (bs++[b]) (ws++[w]):=by
 refine⟨by simp[h.1],fun j b' w' e1 e2=>?_⟩
 rcases Nat.lt_or_ge j bs.length with hj | hj
 ·rw[Ey hj]at e1
  rw[Ey (by rw[←h.1];exact hj)]at e2
  exact h.2 j b' w' e1 e2
 ·rw[Ex hj]at e1
  rw[Ex (by rw[←h.1];exact hj),←h.1]at e2
  cases hk:j-bs.length with
  | zero=>
   rw[hk]at e1 e2
   cases e1;cases e2
   exact hb
  | succ k=>rw[hk]at e1;simp at e1
theorem aE.ways{H:Hp}{p:Addr}{bs:List Addr}{ws:List Way}(h:aE H bs ws)(hp:H p=some (.tup (bs.map V.ref))):cb H p (ws.map Way.key):=
 ⟨bs,hp,by rw[DW];exact h.1,fun j b k e1 e2=>by
  rw[DY]at e2
  obtain⟨w,hw,rfl⟩:=Eh.mp e2
  exact h.2 j b w e1 hw⟩
theorem cb.al{H:Hp}{p:Addr}{ws:List Way}(h:cb H p (ws.map Way.key)):∃bs:List Addr,H p=some (.tup (bs.map V.ref))/\aE H bs ws:=by
 obtain⟨bs,h1,h2,h3⟩:=h
 rw[DW]at h2
 exact⟨bs,h1,h2,fun j b w e1 e2=>cb.item h3 e1 e2⟩
theorem om{m i:Int}(h:0<=i)(h':i<m):eR m (.int i)=true:=by
 unfold eR
 dsimp only
 rw[decide_eq_true h,decide_eq_true h']
 rfl
def fV(H:Hp)(n:Nat)(xs:List V):Prop:=∀x∈xs,bF H n x
theorem fV.nil(H:Hp)(n:Nat):fV H n []:=fun x hx=>by cases hx
theorem fV.cons{H:Hp}{n:Nat}{x:V}{xs:List V}(h:bF H n x)(h':fV H n xs):fV H n (x::xs):=fun y hy=>by
 rcases Ek.mp hy with rfl | hy
 ·exact h
 ·exact h' y hy
theorem nU{H:Hp}{n:Nat}{p:Addr}{xs:List V}(h:H p=some (.tup xs))(hl:xs.length<=2000)(hx:fV H n xs):bF H (n+1) (.ref p):=⟨xs,.inl h,hl,hx⟩
theorem bF.up{H:Hp}:∀{n:Nat} {v:V},bF H n v->bF H (n+1) v:=by
 intro n
 induction n with
 | zero=>
  intro v h
  cases v<;>first | exact h | exact h.elim
 | succ n ih=>
  intro v h
  cases v with
  | ref p=>
   obtain⟨xs,h1,h2,h3⟩:=h
   exact⟨xs,h1,h2,fun x hx=>ih (h3 x hx)⟩
  | _=>exact h
theorem oa(H:Hp)(n:Nat)(i:Int):bF H n (.int i):=by cases n<;>trivial
theorem rQ(H:Hp)(n:Nat){z:Str}(h:z.length<=1000):bF H n (.str z):=by cases n<;>exact h
theorem yV{z:Str}(h:bC z):z.length<=1000:=by
 rcases h with rfl | rfl | rfl | rfl<;>decide +kernel
theorem Bk{z:Str}(h:gO z):z.length<=1000:=by
 obtain⟨c,_,_,rfl⟩:=h
 show 1<=1000
 decide
theorem zq{H:Hp}{m:Int}{w:Way}(ok:w.Ok m):fV H 0 w.vs:=
 .cons (oa _ _ _) (.cons (rQ _ _ (yV ok.dd)) (.cons (oa _ _ _) (.cons (rQ _ _ (Bk ok.sg)) (.nil _ _))))
theorem Br{H:Hp}{v:V}{m:Int}{ws:List Way}(h:aU H v m ws)(ok:HOuse m ws):∃p q bs,v=.ref p/\H p=some (.tup [.int m,.ref q])/\H q=some (.tup (bs.map V.ref))/\bs.length=ws.length/\aE H bs ws/\fV H 1 (bs.map V.ref):=by
 obtain⟨p,q,rfl,h1,h2⟩:=h
 obtain⟨bs,h3,h4⟩:=h2.al
 refine⟨p,q,bs,rfl,h1,h3,h4.1,h4,fun x hx=>?_⟩
 obtain⟨b,hb,rfl⟩:=List.mem_map.mp hx
 obtain⟨j,hj,e⟩:=List.mem_iff_getElem.mp hb
 have hjw:j<ws.length:=by rw[←h4.1];exact hj
 have hw:ws[j]?=some ws[j]:=DX hjw
 exact nU (h4.2 j b _ (by rw[DX hj,e]) hw) (by show 4<=2000;decide) (zq (ok.ok _ (Ez _)))
theorem xX{c:Nat}(h1:97<=c)(h2:c<=122):lM ⟨#[c]⟩=true:=by
 have ea:(Str.ofString "a").cps.toList=[97]:=by decide +kernel
 have ez:(Str.ofString "z").cps.toList=[122]:=by decide +kernel
 unfold lM
 rw[ea,ez]
 show(!decide (([c]:List Nat) < [97]) && !decide (([122]:List Nat) < [c]))=true
 rw[decide_eq_false (fun z=>by rw[List.cons_lt_cons_iff]at z;simp at z;omega),decide_eq_false (fun z=>by rw[List.cons_lt_cons_iff]at z;simp at z;omega)]
 rfl
theorem Aj{z:Str}(h:bC z):ib (.str z)=true:=by
 rcases h with rfl | rfl | rfl | rfl<;>decide +kernel
theorem BY{H:Hp}{b:Addr}{m:Int}{w:Way}(h:H b=some (.tup w.vs))(ok:w.Ok m):bZ H m (.ref b)=true:=by
 rw[oB h]
 obtain⟨c,h1,h2,e⟩:=ok.sg
 unfold Way.vs gy
 dsimp only
 rw[om ok.r0 ok.r1,om ok.o0 ok.o1,Aj ok.dd,e]
 unfold g5
 dsimp only
 rw[xX h1 h2]
 rfl
theorem qP{H:Hp}:∀{bs:List Addr} {ws:List Way},aE H bs ws->(bs.map V.ref).map (fU H)=ws.map Way.key
 | [],[],_=>rfl
 | [],_::_,h=>by cases h.1
 | _::_,[],h=>by cases h.1
 | b::bs,w::ws,h=>by
  rw[List.map_cons,List.map_cons,List.map_cons,qP (bs:=bs) (ws:=ws) ⟨Nat.succ.inj h.1,fun j b w e1 e2=>h.2 (j+1) b w e1 e2⟩,tE (h.2 0 b w rfl rfl)]
  rfl
theorem CF{H:Hp}{m:Int}{bs:List Addr}{ws:List Way}(h:aE H bs ws)(ok:∀w∈ws,w.Ok m):(bs.map V.ref).all (bZ H m)=true:=by
 rw[EG]
 intro x hx
 obtain⟨b,hb,rfl⟩:=List.mem_map.mp hx
 obtain⟨j,hj,e⟩:=List.mem_iff_getElem.mp hb
 have hjw:j<ws.length:=by rw[←h.1];exact hj
 exact BY (h.2 j b _ (by rw[DX hj,e]) (DX hjw)) (ok _ (Ez hjw))
theorem zF{H:Hp}{p q:Addr}{m:Int}{bs:List Addr}{ws:List Way}(h1:H p=some (.tup [.int m,.ref q]))(h2:H q=some (.tup (bs.map V.ref)))(h3:aE H bs ws)(m1:1<=m)(m2:m<=12)(ok:∀w∈ws,w.Ok m)(nd:ws.Nodup):f7 H (.ref p)=decide (ws.length<=100):=by
 rw[qB h1]
 unfold gg
 dsimp only
 rw[decide_eq_true m1,decide_eq_true m2,uB h2]
 unfold jK
 have hk:(ws.map Way.key).Nodup:=by
  unfold List.Nodup at nd ⊢
  rw[List.pairwise_map]
  exact nd.imp fun ne e=>ne (Way.key_inj e)
 rw[CF h3 ok,qP h3,decide_eq_true hk,DW,h3.1]
 simp
theorem vd{H:Hp}{v:V}{m:Int}{ws:List Way}(hv:aU H v m ws)(ok:HOuse m ws):bF H 4 v/\f7 H v=true:=by
 obtain⟨p,q,bs,rfl,h1,h2,h3,h4,h5⟩:=Br hv ok
 have hfew:=ok.few
 have t2:bF H 2 (.ref q):=nU h2 (by rw[DW,h3];omega) h5
 exact⟨nU h1 (by simp) (.cons (oa _ _ _) (.cons t2.up (.nil _ _))),(zF h1 h2 h4 ok.m1 ok.m12 ok.ok ok.nd).trans (decide_eq_true ok.few)⟩
def hZ(K:DS):Sp:=fun vs H Q _=>∃v m ws,vs=[v]/\aU H v m ws/\HOuse m ws/\∀H',Ext H H'->Q .non H'
abbrev lB:Stmt:=stq 21
theorem sL:FnScope ["thing"] ["thing"] (aI lB):=⟨rfl,rfl,rfl,by decide +kernel,rfl,by decide +kernel,by decide +kernel⟩
theorem zB{P:Program}{w:World}{K:DS}{mg:Str->Option Value}{base:Heap}(D:Dfn K mg "refuse_no_house" lB ["thing"])(T:Blt mg)(C_is_house:Cal P w K mg base "is_house" 5 ["thing"] (tL K)):Cal P w K mg base "refuse_no_house" 6 ["thing"] (hZ K):=by
 have nd:=(sL).nd
 refine D.ok sL (fun vs H Q E h=>?_) (fun X hX H vs Q E h=>?_)
 ·obtain⟨p,w,m,rfl,_⟩:=h;rfl
 ·obtain⟨f,cdv,A,outer,s,H0,E0,rfl,hr⟩:=hX
  obtain⟨v,m,ws,rfl,h1,ok,q⟩:=h
  refine⟨_,(av (bU (eU (b9 (aH C_is_house hr (aa (pv 0) ae)))) (av nQ) bf)),?_⟩
  walk_at "rd"
  refine⟨v,rfl,(vd h1 ok).1,fun H' e=>?_⟩
  rw[(vd h1 ok).2]
  refine rd_exb (aw ?_)
  walk_at "rd"
  exact q H' e
theorem aU.mk{H:Hp}{p q:Addr}{m:Int}{ws:List Way}(h1:H p=some (.tup [.int m,.ref q]))(h2:cb H q (ws.map Way.key)):aU H (.ref p) m ws:=⟨p,q,rfl,h1,h2⟩
theorem iI{n:Nat}(h:n<=1000):n<sizeLine:=Nat.lt_of_le_of_lt h (by decide)
def du(z:Str):Str:=if z = "up" then "down" else if z = "down" then "up" else z
theorem BR{z:Str}(h:bC z):bx iw (.inr z)=some (.str (du z)):=by
 rcases h with rfl | rfl | rfl | rfl<;>decide +kernel
def Way.turn(w:Way):Way:=⟨w.other,du w.deed,w.room,w.sign⟩
theorem zl{z:Str}(h:bC z):bC (du z):=by
 rcases h with rfl | rfl | rfl | rfl
 ·exact .inr (.inl (by decide +kernel))
 ·exact .inl (by decide +kernel)
 ·exact .inr (.inr (.inl (by decide +kernel)))
 ·exact .inr (.inr (.inr (by decide +kernel)))
theorem yx{z:Str}(h:bC z):du (du z)=z:=by
 rcases h with rfl | rfl | rfl | rfl<;>decide +kernel
theorem Way.turn_turn{m:Int}{w:Way}(h:w.Ok m):w.turn.turn=w:=by
 obtain⟨a,b,c,d⟩:=w
 show(⟨a,du (du b),c,d⟩:Way)=_
 rw[yx h.dd]
theorem Way.Ok.turn{m:Int}{w:Way}(h:w.Ok m):w.turn.Ok m:=⟨h.o0,h.o1,h.r0,h.r1,zl h.dd,h.sg⟩
theorem AQ{m:Int}{ws:List Way}(h:∀w∈ws,w.Ok m):(ws.map Way.turn).map Way.turn=ws:=by
 rw[List.map_map]
 conv=>rhs;rw[←List.map_id ws]
 exact List.map_congr_left fun w hw=>Way.turn_turn (h w hw)
theorem HOuse.turn{m:Int}{ws:List Way}(h:HOuse m ws):HOuse m (ws.map Way.turn) where
 m1:=h.m1
 m12:=h.m12
 few:=by rw[DW];exact h.few
 ok:=fun w hw=>by
  obtain⟨u,hu,rfl⟩:=List.mem_map.mp hw
  exact(h.ok u hu).turn
 nd:=by
  have nd:=h.nd
  unfold List.Nodup at nd ⊢
  rw[List.pairwise_map]
  refine nd.imp_of_mem fun{a b} ha hb ne e=>ne ?_
  rw[←Way.turn_turn (h.ok a ha),←Way.turn_turn (h.ok b hb),e]
def xa(K:DS):Sp:=fun vs H Q _=>∃p w,vs=[.ref p]/\H p=some (.tup (Way.vs w))/\bC w.deed/\∀v H',Ext H H'->H' v=some (.tup (Way.vs w.turn))->Q (.ref v) H'
abbrev ko:Stmt:=stq 23
theorem pK:FnScope ["way"] ["way"] (aI ko):=⟨rfl,rfl,rfl,by decide +kernel,rfl,by decide +kernel,by decide +kernel⟩
theorem Ck{P:Program}{w:World}{K:DS}{mg:Str->Option Value}{base:Heap}(D:Dfn K mg "turned_way" ko ["way"])(T:Blt mg)(g_TURNED:∃a,mg "TURNED" = some (.ref a)/\GDict w K a iw):Cal P w K mg base "turned_way" 1 ["way"] (xa K):=by
 have nd:=(pK).nd
 refine D.ok pK (fun vs H Q E h=>?_) (fun X hX H vs Q E h=>?_)
 ·obtain⟨p,w,rfl,_⟩:=h;rfl
 ·obtain⟨f,cdv,A,outer,s,H0,E0,rfl,hr⟩:=hX
  obtain⟨a_TURNED,m_TURNED,d_TURNED⟩:=g_TURNED
  obtain⟨p,w,rfl,hp,od,q⟩:=h
  refine⟨_,(av (aF (aM (aa (ai (aB K) (pv 0) af (fun _ _=>rfl)) (aa (tG rfl m_TURNED d_TURNED (ai (aB K) (pv 0) af (fun _ _=>rfl)) (fun _ _=>rfl)) (aa (ai (aB K) (pv 0) af (fun _ _=>rfl)) (aa (ai (aB K) (pv 0) af (fun _ _=>rfl)) ae))))))),?_⟩
  walk_at "rd"
  refine aA (ah.of hp) (v:=.int w.other) rfl ?_
  walk_at "rd"
  refine aA (ah.of hp) (v:=.str w.deed) rfl ?_
  walk_at "rd"
  refine sv (BR od) ?_
  walk_at "rd"
  refine aA (ah.of hp) (v:=.int w.room) rfl ?_
  walk_at "rd"
  refine aA (ah.of hp) (v:=.str w.sign) rfl ?_
  walk_at "rd"
  exact⟨ao (by simp),aq fun v H' e hv _=>q v H' e hv⟩
def rF(K:DS):Sp:=fun vs H Q _=>∃v m ws,vs=[v]/\aU H v m ws/\HOuse m ws/\∀u H',Ext H H'->aU H' u m (List.map Way.turn ws)->Q u H'
abbrev kr:Stmt:=stq 24
theorem uv:FnScope ["house"] ["house"] (aI kr):=⟨rfl,rfl,rfl,by decide +kernel,rfl,by decide +kernel,by decide +kernel⟩
theorem Bl{P:Program}{w:World}{K:DS}{mg:Str->Option Value}{base:Heap}(D:Dfn K mg "turned_about" kr ["house"])(T:Blt mg)(C_turned_way:Cal P w K mg base "turned_way" 1 ["way"] (xa K))(C_refuse_no_house:Cal P w K mg base "refuse_no_house" 6 ["thing"] (hZ K)):Cal P w K mg base "turned_about" 7 ["house"] (rF K):=by
 have nd:=(uv).nd
 refine D.ok uv (fun vs H Q E h=>?_) (fun X hX H vs Q E h=>?_)
 ·obtain⟨v,m,ws,rfl,_⟩:=h;rfl
 ·obtain⟨f,cdv,A,outer,s,H0,E0,rfl,hr⟩:=hX
  obtain⟨v,m,ws,rfl,h1,ok,q⟩:=h
  have hfew:=ok.few
  refine⟨_,(aj (bh (aH C_refuse_no_house hr (aa (pv 0) ae)))
    (av (aF (aM (aa (ai (aB K) (pv 0) af (fun _ _=>rfl)) (aa (gW (jI K) rfl T.tuple_ PyProof.Rows.boot_tuple (aa (di ["way"] [] (kJ K (ai (aB K) (pv 0) af (fun _ _=>rfl))) (fun _=>(aO (i:=0) (show(["way"]:List Str).Nodup from by decide +kernel) rfl (Or.inl rfl) (Or.inr rfl))) (fun _=>dY) (fun _=>(aH C_turned_way hr (aa (pv 0) ae)))) ae)) ae)))))),?_⟩
  walk_at "rd"
  refine⟨v,m,ws,rfl,h1,ok,fun H1 e1=>?_⟩
  obtain⟨p,r,rfl,g1,g2⟩:=h1.ext e1
  obtain⟨bs,g3,al⟩:=cb.al g2
  walk_at "rd"
  refine aA (ah.of g1) (v:=.int m) rfl ?_
  walk_at "rd"
  refine aA (ah.of g1) (v:=.ref r) rfl ?_
  refine kZ (ah.of g3) ?_
  refine mR (xs:=bs.map V.ref) (fun i ys H'=>Ext H1 H'/\∃cs,ys=cs.map V.ref/\aE H' cs ((ws.take i).map Way.turn)) (iN (by rw[DW,al.1];omega)) ⟨Ext.rfl' _,[],rfl,aE.nil _⟩ (fun i ys H' hi h=>⟨ah.of (h.1 _ _ g3),?_⟩) ?_ ?_
  ·obtain⟨_,cs,rfl,hc,_⟩:=h
   rw[DW,hc,DW,List.length_take]
   exact Nat.min_le_left _ _
  ·rintro i x ys H' hx ⟨e2,cs,rfl,al2⟩
   rw[DY]at hx
   obtain⟨b,hb,rfl⟩:=Eh.mp hx
   have hi:i<ws.length:=by
    rw[←al.1]
    exact(Ee.mp hb).1
   have hwi:ws[i]?=some ws[i]:=DX hi
   walk_at "rd"
   refine aC ?_
   walk_at "rd"
   refine⟨b,ws[i],rfl,e2 _ _ (al.2 i b _ hb hwi),(ok.ok _ (Ez hi)).dd,fun v H3 e3 hv=>?_⟩
   refine⟨e2.trans e3,cs++[v],by rw[Em];rfl,?_⟩
   rw[List.take_add_one,hwi,Em]
   exact(al2.ext e3).snoc hv
  ·rintro ys H' l ⟨e2,cs,rfl,al2⟩ hl
   rw[DW,al.1,EB]at al2
   walk_at "rd"
   have e3:Ext H1 (upd H' l (.lst (cs.map V.ref))):=e2.trans (bw hl)
   have al3:=al2.ext (bw (o:=.lst (cs.map V.ref)) hl)
   have hl3:upd H' l (.lst (cs.map V.ref)) l=some (.lst (cs.map V.ref)):=aL
   generalize upd H' l (.lst (cs.map V.ref))=H4 at e3 al3 hl3 ⊢
   refine lU (ag.of hl3) (aq fun t H5 e5 ht _=>?_)
   walk_at "rd"
   refine⟨ao (by simp),aq fun u H6 e6 hu _=>?_⟩
   exact q _ H6 (e1.trans (e3.trans (e5.trans e6))) (aU.mk hu (((al3.ext e5).ways ht).ext e6))
theorem iP{a b:Str}:decide (V.str a=V.str b)=decide (a=b):=by
 by_cases h:a=b
 ·subst h;simp
 ·rw[decide_eq_false h,decide_eq_false (fun z=>h (V.str.inj z))]
theorem cg{a b:Str}{H:Hp}{Q:VK}(h:Q (.bl (decide (a=b))) H):lK (.str a) (.str b) H Q:=⟨rfl,by rw[iP];exact h⟩
theorem Ap{a b:Str}{H:Hp}{Q:VK}(h:Q (.bl (!decide (a=b))) H):iY (.str a) (.str b) H Q:=⟨rfl,by rw[iP];exact h⟩
theorem fK{α β:Type}{F:α->β->Prop}{cs:List α}{ts:List β}(h:Paired F cs ts):∀{i:Nat} {c:α},cs[i]?=some c->∃t,ts[i]?=some t/\F c t:=by
 induction h with
 | nil=>intro i c e;simp at e
 | cons h t ih=>
  intro i c e
  cases i with
  | zero=>cases e;exact⟨_,rfl,h⟩
  | succ i=>exact ih e
theorem o4{α β:Type}{F:α->β->Prop}{cs:List α}{ts:List β}(h:Paired F cs ts):∀{i:Nat} {t:β},ts[i]?=some t->∃c,cs[i]?=some c/\F c t:=by
 induction h with
 | nil=>intro i c e;simp at e
 | cons h t ih=>
  intro i c e
  cases i with
  | zero=>cases e;exact⟨_,rfl,h⟩
  | succ i=>exact ih e
abbrev ax(H:Hp)(a:Addr)(x:Bfs.Pl):Prop:=H a=some (.tup [.int x.1,.int x.2])
abbrev aX(x:Bfs.Pl):List Key:=[.inl x.1,.inl x.2]
theorem vE{x y:Bfs.Pl}(h:aX x=aX y):x=y:=by
 simp only[aX,List.cons.injEq,Sum.inl.injEq,and_true]at h
 exact Prod.ext h.1 h.2
theorem ax.put{H:Hp}{f a:Addr}{x:Bfs.Pl}{o o':HO}(hf:H f=some o)(hn:∀xs,o≠.tup xs)(h:ax H a x):ax (upd H f o') a x:=by
 show upd H f o' a=_
 rw[az (cL h hf (fun z=>hn _ z.symm))]
 exact h
def cn(m:Int)(x:Bfs.Pl):Prop:=0<=x.1/\x.1<m/\0<=x.2/\x.2<=1000
def oU(K:DS):Sp:=fun vs H Q _=>∃hp hq m l as xs,vs=[.ref hp,.ref l]/\H hp=some (.tup [.int m,hq])/\H l=some (.lst (List.map V.ref as))/\Paired (ax H) as xs/\(∀x∈xs,cn m x)/\Q .non H
abbrev kQ:Stmt:=stq 22
theorem uC:FnScope ["house","places","place"] ["house","places"] (aI kQ):=⟨rfl,rfl,rfl,by decide +kernel,rfl,by decide +kernel,by decide +kernel⟩
theorem As{P:Program}{w:World}{K:DS}{mg:Str->Option Value}{base:Heap}(D:Dfn K mg "refuse_bad_places" kQ ["house","places"])(T:Blt mg)(g_GREATEST_NUMBER:∃t,mg "GREATEST_NUMBER" = some (.int 1000 t))(C_is_room:Cal P w K mg base "is_room" 2 ["thing","many"] (nk K)):Cal P w K mg base "refuse_bad_places" 3 ["house","places"] (oU K):=by
 have nd:=(uC).nd
 refine D.ok uC (fun vs H Q E h=>?_) (fun X hX H vs Q E h=>?_)
 ·obtain⟨hp,hq,m,l,as,xs,rfl,_⟩:=h;rfl
 ·obtain⟨f,cdv,A,outer,s,H0,E0,rfl,hr⟩:=hX
  obtain⟨t_GREATEST_NUMBER,c_GREATEST_NUMBER⟩:=g_GREATEST_NUMBER
  obtain⟨hp,hq,m,l,as,xs,rfl,h1,h2,h3,hin,q⟩:=h
  refine⟨_,(aj (cj PassesOwn.never rfl (cz K (pv 1)) (aO (i:=2) nd rfl (Or.inl rfl)) (av (bU (PW.pt (dC (eU (b9 (aH C_is_room hr (aa (ai (aB K) (pv 2) af (fun _ _=>rfl)) (aa (ai (aB K) (pv 0) af (fun _ _=>rfl)) ae))))) (dM (aT fM (ai (aB K) (pv 2) af (fun _ _=>rfl)) af (aP _))))) (av nQ) bf)))
    (av (cj PassesOwn.never rfl (cz K (pv 1)) (aO (i:=2) nd rfl (Or.inl rfl)) (av (bU (aT gA (ai (aB K) (pv 2) af (fun _ _=>rfl)) (mn (v:=.int 1000) rfl c_GREATEST_NUMBER ⟨_,rfl⟩) (aP _)) (av nQ) bf))))),?_⟩
  walk_at "rd"
  refine cw (ag.of h2) ?_
  refine forL (xs:=List.map V.ref as) (fun i σ H'=>H'=H/\∃k,σ=[some (.ref hp),some (.ref l),k]) ⟨rfl,none,rfl⟩ (fun i σ H' _ h=>by rw[h.1];exact ag.of h2) ?_ ?_
  ·rintro i x σ H' hx ⟨rfl,k,rfl⟩
   rw[DY]at hx
   obtain⟨b,hb,rfl⟩:=Eh.mp hx
   obtain⟨t,ht,hp3⟩:=fK h3 hb
   obtain⟨r0,r1,n0,n1⟩:=hin t (Ef ht)
   walk_at "rd"
   refine aA (ah.of hp3) (v:=.int t.1) rfl ?_
   walk_at "rd"
   refine aA (ah.of h1) (v:=.int m) rfl ?_
   walk_at "rd"
   refine⟨_,_,"int",rfl,rfl,?_⟩
   rw[om r0 r1]
   walk_at "rd"
   refine aw ?_
   walk_at "rd"
   refine aA (ah.of hp3) (v:=.int t.2) rfl ?_
   walk_at "rd"
   rw[decide_eq_false (show ¬t.2<0 by omega)]
   refine aw ?_
   walk_at "rd"
   exact⟨rfl,_,rfl⟩
  ·rintro σ H' ⟨rfl,k,rfl⟩
   walk_at "rd"
   refine cw (ag.of h2) ?_
   refine forL (xs:=List.map V.ref as) (fun i σ H2=>H2=H'/\∃k,σ=[some (.ref hp),some (.ref l),k]) ⟨rfl,_,rfl⟩ (fun i σ H2 _ h=>by rw[h.1];exact ag.of h2) ?_ ?_
   ·rintro i x σ H2 hx ⟨rfl,k,rfl⟩
    rw[DY]at hx
    obtain⟨b,hb,rfl⟩:=Eh.mp hx
    obtain⟨t,ht,hp3⟩:=fK h3 hb
    obtain⟨r0,r1,n0,n1⟩:=hin t (Ef ht)
    walk_at "rd"
    refine aA (ah.of hp3) (v:=.int t.2) rfl ?_
    walk_at "rd"
    rw[decide_eq_false (show ¬(1000:Int)<t.2 by omega)]
    refine aw ?_
    walk_at "rd"
    exact⟨rfl,_,rfl⟩
   ·rintro σ H2 ⟨rfl,k,rfl⟩
    walk_at "rd"
    exact q
def bY(w:Way)(r n:Int):Bool:=decide (w.room=r) && (if decide (w.deed = "down")=true then decide (0<n)else(!decide (w.deed = "zero") || decide (n=0)))
def m3(K:DS):Sp:=fun vs H Q _=>∃b w p x,vs=[.ref b,.ref p]/\H b=some (.tup (Way.vs w))/\ax H p x/\Q (.bl (bY w x.1 x.2)) H
abbrev jX:Stmt:=stq 25
theorem wa:FnScope ["way","place"] ["way","place"] (aI jX):=⟨rfl,rfl,rfl,by decide +kernel,rfl,by decide +kernel,by decide +kernel⟩
theorem yU{P:Program}{w:World}{K:DS}{mg:Str->Option Value}{base:Heap}(D:Dfn K mg "is_open" jX ["way","place"])(T:Blt mg):Cal P w K mg base "is_open" 1 ["way","place"] (m3 K):=by
 have nd:=(wa).nd
 refine D.ok wa (fun vs H Q E h=>?_) (fun X hX H vs Q E h=>?_)
 ·obtain⟨b,w,p,x,rfl,_⟩:=h;rfl
 ·obtain⟨f,cdv,A,outer,s,H0,E0,rfl,hr⟩:=hX
  obtain⟨b,w,p,⟨r,n⟩,rfl,h1,h2,q⟩:=h
  refine⟨_,(aj (bU (aT eY (ai (aB K) (pv 0) af (fun _ _=>rfl)) (ai (aB K) (pv 1) af (fun _ _=>rfl)) (aP _)) (av (aF bR)) bf)
    (aj (bU (aT bL (ai (aB K) (pv 0) af (fun _ _=>rfl)) bD (aP _)) (av (aF (el gA (ai (aB K) (pv 1) af (fun _ _=>rfl)) af (aP _)))) bf)
    (av (aF (t9 (el eY (ai (aB K) (pv 0) af (fun _ _=>rfl)) bD (aP _)) (eB (el bL (ai (aB K) (pv 1) af (fun _ _=>rfl)) af (aP _)))))))),?_⟩
  walk_at "rd"
  refine aA (ah.of h1) (v:=.int w.room) rfl ?_
  walk_at "rd"
  refine aA (ah.of h2) (v:=.int r) rfl ?_
  walk_at "rd"
  unfold bY at q
  dsimp only at q
  by_cases e:w.room=r
  ·rw[decide_eq_true e]
   refine aw ?_
   walk_at "rd"
   rw[decide_eq_true e,Bool.true_and]at q
   refine aA (ah.of h1) (v:=.str w.deed) rfl ?_
   walk_at "rd"
   refine cg ?_
   refine rd_exb ?_
   cases ed:decide (w.deed = "down")with
   | true=>
    rw[ed]at q
    refine aC ?_
    walk_at "rd"
    refine aA (ah.of h2) (v:=.int n) rfl ?_
    walk_at "rd"
    exact q
   | false=>
    rw[ed]at q
    refine aw ?_
    walk_at "rd"
    refine aA (ah.of h1) (v:=.str w.deed) rfl ?_
    walk_at "rd"
    refine Ap ?_
    refine rd_exb ?_
    cases ez:decide (w.deed = "zero")with
    | true=>
     rw[ez]at q
     refine aw ?_
     walk_at "rd"
     refine aA (ah.of h2) (v:=.int n) rfl ?_
     walk_at "rd"
     exact q
    | false=>
     rw[ez]at q
     exact aC q
  ·rw[decide_eq_false e]
   refine aC ?_
   walk_at "rd"
   rw[decide_eq_false e,Bool.false_and]at q
   exact q
def oO:List (Key×V):=[(.inr "up",.int 1),(.inr "down",.int (-1)),(.inr "stay",.int 0),(.inr "zero",.int 0)]
theorem BM{w:World}{K:DS}{a:Addr}{t1 t2 t3 t4 t5 t6 t7 t8:Tok}{ep:Nat}(h:K.lookup a=some (gK w [("up",t1,.int 1 t2),("down",t3,.int (-1) t4),("stay",t5,.int 0 t6),("zero",t7,.int 0 t8)] ep))(hs:(a == sysModules)=false):GDict w K a oO:=
 ⟨⟨_,_,h,.cons ⟨rfl,⟨_,rfl⟩⟩ (.cons ⟨rfl,⟨_,rfl⟩⟩ (.cons ⟨rfl,⟨_,rfl⟩⟩ (.cons ⟨rfl,⟨_,rfl⟩⟩ .nil)))⟩,by decide +kernel,hs⟩
def rz(z:Str):Int:=if z = "up" then 1 else if z = "down" then -1 else 0
theorem CM{z:Str}(h:bC z):bx oO (.inr z)=some (.int (rz z)):=by
 rcases h with rfl | rfl | rfl | rfl<;>decide +kernel
def pj(K:DS):Sp:=fun vs H Q _=>∃b w,vs=[.ref b]/\H b=some (.tup (Way.vs w))/\bC w.deed/\Q (.int (rz w.deed)) H
abbrev lg:Stmt:=stq 26
theorem vG:FnScope ["way"] ["way"] (aI lg):=⟨rfl,rfl,rfl,by decide +kernel,rfl,by decide +kernel,by decide +kernel⟩
theorem Di{P:Program}{w:World}{K:DS}{mg:Str->Option Value}{base:Heap}(D:Dfn K mg "raised_by" lg ["way"])(T:Blt mg)(g_RAISED:∃a,mg "RAISED" = some (.ref a)/\GDict w K a oO):Cal P w K mg base "raised_by" 1 ["way"] (pj K):=by
 have nd:=(vG).nd
 refine D.ok vG (fun vs H Q E h=>?_) (fun X hX H vs Q E h=>?_)
 ·obtain⟨b,w,rfl,_⟩:=h;rfl
 ·obtain⟨f,cdv,A,outer,s,H0,E0,rfl,hr⟩:=hX
  obtain⟨a_RAISED,m_RAISED,d_RAISED⟩:=g_RAISED
  obtain⟨b,w,rfl,h1,hd,q⟩:=h
  refine⟨_,(av (aF (tG rfl m_RAISED d_RAISED (ai (aB K) (pv 0) af (fun _ _=>rfl)) (fun _ _=>rfl)))),?_⟩
  walk_at "rd"
  refine aA (ah.of h1) (v:=.str w.deed) rfl ?_
  exact sv (CM hd) q
theorem xx(z:Str):-1<=rz z:=by
 unfold rz
 split
 ·decide
 ·split<;>decide
theorem BF(z:Str):rz z<=1:=by
 unfold rz
 split
 ·decide
 ·split<;>decide
def nZ(K:DS):Sp:=fun vs H Q _=>∃b w p x,vs=[.ref b,.ref p]/\H b=some (.tup (Way.vs w))/\bC w.deed/\ax H p x/\∀t H',Ext H H'->ax H' t (w.other,x.2+rz w.deed)->H t=none->Q (.ref t) H'
abbrev lO:Stmt:=stq 27
theorem pF:FnScope ["way","place"] ["way","place"] (aI lO):=⟨rfl,rfl,rfl,by decide +kernel,rfl,by decide +kernel,by decide +kernel⟩
theorem AO{P:Program}{w:World}{K:DS}{mg:Str->Option Value}{base:Heap}(D:Dfn K mg "led_to" lO ["way","place"])(T:Blt mg)(C_raised_by:Cal P w K mg base "raised_by" 1 ["way"] (pj K)):Cal P w K mg base "led_to" 2 ["way","place"] (nZ K):=by
 have nd:=(pF).nd
 refine D.ok pF (fun vs H Q E h=>?_) (fun X hX H vs Q E h=>?_)
 ·obtain⟨b,w,p,x,rfl,_⟩:=h;rfl
 ·obtain⟨f,cdv,A,outer,s,H0,E0,rfl,hr⟩:=hX
  obtain⟨b,w,p,⟨r,n⟩,rfl,h1,hd,h2,q⟩:=h
  refine⟨_,(av (aF (aM (aa (ai (aB K) (pv 0) af (fun _ _=>rfl)) (aa (aD bH (ai (aB K) (pv 1) af (fun _ _=>rfl)) (aH C_raised_by hr (aa (pv 0) ae))) ae))))),?_⟩
  walk_at "rd"
  refine aA (ah.of h1) (v:=.int w.other) rfl ?_
  walk_at "rd"
  refine aA (ah.of h2) (v:=.int n) rfl ?_
  walk_at "rd"
  refine⟨b,w,rfl,h1,hd,?_⟩
  walk_at "rd"
  refine⟨ao (by simp),aq fun t H1 e1 ht htn=>?_⟩
  exact q t H1 e1 ht htn
theorem sV{K:DS}{a:Addr}{xs:List V}{g:TG}{tb:TS}{D:Ends}{σ:St}{H:Hp}(Pv:Nat->St->Hp->Prop)(h0:Pv 0 σ H)(hl:∀i σ H,i<=xs.length->Pv i σ H->ah K H a xs)
  (hs:∀i u σ H p H',xs[i]?=some u->Pv i σ H->Ext H H'->H' p=some (.tup [.int i,u])->H p=none->g (.ref p) σ H' fun σ2 H2=>tb { D with nx:=Pv (i+1),ct:=Pv (i+1),bk:=D.nx } σ2 H2) (hd:∀σ H,Pv xs.length σ H->D.nx σ H) :
  i8 (gF K a) g tb D σ H:=CH Pv h0 hl hs hd
def stp(z:Str)(n:Int):Option Int:=
 if decide (z = "up")=true then some (n+1)else if decide (z = "down")=true then(if decide (0<n)=true then some (n-1)else none)else if decide (z = "stay")=true then some n else if decide (z = "zero")=true then(if decide (n=0)=true then some n else none)else none
def dE(w:Way)(r n:Int)(j:Nat):List (Int×Int×Int):=if decide (w.room=r)=true then((stp w.deed n).map fun n'=>((j:Int),w.other,n')).toList else[]
def cP(ws:List Way)(r n:Int):Nat->List (Int×Int×Int)
 | 0=>[]
 | k+1=>cP ws r n k++((ws[k]?).map fun w=>dE w r n k).getD []
theorem zk{ws:List Way}{r n:Int}{i:Nat}{w:Way}(h:ws[i]?=some w):cP ws r n (i+1)=cP ws r n i++dE w r n i:=by
 show _++((ws[i]?).map fun w=>dE w r n i).getD []=_
 rw[h]
 rfl
theorem zi(w:Way)(r n:Int)(j:Nat):(dE w r n j).length<=1:=by
 unfold dE
 split
 ·cases stp w.deed n<;>simp
 ·simp
theorem oi(ws:List Way)(r n:Int):∀k,(cP ws r n k).length<=k
 | 0=>Ep _
 | k+1=>by
  have:=oi ws r n k
  show(cP ws r n k++((ws[k]?).map fun w=>dE w r n k).getD []).length<=k+1
  rw[En]
  cases h:ws[k]? with
  | none=>simp;omega
  | some w=>
   have:=zi w r n k
   simp;omega
theorem sQ{w:Way}{r n:Int}{j:Nat}(h:w.room≠r):dE w r n j=[]:=by
 unfold dE
 rw[decide_eq_false h]
 rfl
theorem fB{w:Way}{r n:Int}{j:Nat}{o:Option Int}(h:w.room=r)(hs:stp w.deed n=o):dE w r n j=(o.map fun n'=>((j:Int),w.other,n')).toList:=by
 unfold dE
 rw[decide_eq_true h,hs]
 rfl
def cK(H:Hp)(c:Addr)(t:Int×Int×Int):Prop:=∃d,H c=some (.tup [.int t.1,.ref d])/\H d=some (.tup [.int t.2.1,.int t.2.2])
theorem vK{H H':Hp}(f:∀c t,cK H c t->cK H' c t){cs:List Addr}{ts:List (Int×Int×Int)}(h:Paired (cK H) cs ts):Paired (cK H') cs ts:=by
 induction h with
 | nil=>exact .nil
 | cons h t ih=>exact .cons (f _ _ h) ih
theorem Bj{H:Hp}{cs:List Addr}{ts:List (Int×Int×Int)}{c:Addr}{t:Int×Int×Int}(h:Paired (cK H) cs ts)(ht:cK H c t):Paired (cK H) (cs++[c]) (ts++[t]):=by
 induction h with
 | nil=>exact .cons ht .nil
 | cons h _ ih=>exact .cons h ih
theorem cK.ext{H H':Hp}(e:Ext H H'){c:Addr}{t:Int×Int×Int}(h:cK H c t):cK H' c t:=by
 obtain⟨d,h1,h2⟩:=h
 exact⟨d,e _ _ h1,e _ _ h2⟩
theorem cK.put{H:Hp}{f:Addr}{xs ys:List V}(hf:H f=some (.lst xs)){c:Addr}{t:Int×Int×Int}(h:cK H c t):cK (upd H f (.lst ys)) c t:=by
 obtain⟨d,h1,h2⟩:=h
 exact⟨d,by rw[az (cL h1 hf (by intro z;cases z))];exact h1,by rw[az (cL h2 hf (by intro z;cases z))];exact h2⟩
structure BL(H0 H:Hp)(f:Addr)(ts:List (Int×Int×Int)):Prop where
 ext:Ext H0 H
 at_:∃cs:List Addr,H f=some (.lst (cs.map V.ref))/\Paired (cK H) cs ts
theorem BL.push{H0 H H1:Hp}{f c d:Addr}{ts:List (Int×Int×Int)}{j o n:Int}(h:BL H0 H f ts)(hfn:H0 f=none)(e:Ext H H1)(hd:H1 d=some (.tup [.int o,.int n]))(hc:H1 c=some (.tup [.int j,.ref d])):
  ∃xs,H1 f=some (.lst xs)/\xs.length=ts.length/\BL H0 (upd H1 f (.lst (xs++[.ref c]))) f (ts++[(j,o,n)]):=by
 obtain⟨e0,cs,hf,al⟩:=h
 have hf1:=e _ _ hf
 have hp:cK H1 c (j,o,n):=⟨d,hc,hd⟩
 refine⟨cs.map V.ref,hf1,by rw[DW];exact Paired.length al,cB (e0.trans e) hfn,cs++[c],by rw[aL,Em];rfl,Bj (vK (fun _ _ z=>(z.ext e).put hf1) al) (hp.put hf1)⟩
theorem BL.ty{K:DS}{H0 H H1:Hp}{f:Addr}{ts:List (Int×Int×Int)}(h:BL H0 H f ts)(e:Ext H H1):iD K "list" (.ref f) H1:=by
 obtain⟨_,cs,hf,al⟩:=h
 exact bP (ag.of (e _ _ hf))
theorem BL.step{H0 H H1:Hp}{f:Addr}{ts:List (Int×Int×Int)}(h:BL H0 H f ts)(e:Ext H H1):BL H0 H1 f ts:=by
 obtain⟨e0,cs,hf,al⟩:=h
 exact⟨e0.trans e,cs,e _ _ hf,vK (fun _ _ z=>z.ext e) al⟩
theorem pA:decide ((Str.ofString "up")=Str.ofString "down")=false:=by decide +kernel
theorem zu:decide ((Str.ofString "up")=Str.ofString "stay")=false:=by decide +kernel
theorem s9:decide ((Str.ofString "up")=Str.ofString "zero")=false:=by decide +kernel
theorem tK:decide ((Str.ofString "down")=Str.ofString "up")=false:=by decide +kernel
theorem vX:decide ((Str.ofString "down")=Str.ofString "stay")=false:=by decide +kernel
theorem oW:decide ((Str.ofString "down")=Str.ofString "zero")=false:=by decide +kernel
theorem qo:decide ((Str.ofString "stay")=Str.ofString "up")=false:=by decide +kernel
theorem mO:decide ((Str.ofString "stay")=Str.ofString "down")=false:=by decide +kernel
theorem pU:decide ((Str.ofString "zero")=Str.ofString "up")=false:=by decide +kernel
theorem oD:decide ((Str.ofString "zero")=Str.ofString "down")=false:=by decide +kernel
theorem tJ:decide ((Str.ofString "zero")=Str.ofString "stay")=false:=by decide +kernel
theorem eT(z:Str):decide (z=z)=true:=decide_eq_true rfl
theorem gC(n:Int):stp "up" n=some (n+1):=by unfold stp;rw[eT];rfl
theorem fg(n:Int):stp "down" n=if decide (0<n)=true then some (n-1)else none:=by unfold stp;rw[tK,eT];rfl
theorem gr(n:Int):stp "stay" n=some n:=by unfold stp;rw[qo,mO,eT];rfl
theorem ft(n:Int):stp "zero" n=if decide (n=0)=true then some n else none:=by unfold stp;rw[pU,oD,tJ,eT];rfl
def qb(K:DS):Sp:=fun vs H Q _=>∃v m ws p r n,vs=[v,.ref p]/\aU H v m ws/\HOuse m ws/\H p=some (.tup [.int r,.int n]) ∧
 ∀l H' cs,Ext H H'->H l=none->H' l=some (.lst (List.map V.ref cs))->Paired (cK H') cs (cP ws r n ws.length)->Q (.ref l) H'
abbrev jE:Stmt:=stq 62
theorem tR:FnScope ["_law_house","_law_place","_law_found","_law_k","_law_room","_law_deed","_law_other","_law_sign"] ["_law_house","_law_place"] (aI jE):=⟨rfl,rfl,rfl,by decide +kernel,rfl,by decide +kernel,by decide +kernel⟩
theorem xq{P:Program}{w:World}{K:DS}{mg:Str->Option Value}{base:Heap}(D:Dfn K mg "_law_behind" jE ["_law_house","_law_place"])(T:Blt mg):Cal P w K mg base "_law_behind" 1 ["_law_house","_law_place"] (qb K):=by
 have nd:=(tR).nd
 refine D.ok tR (fun vs H Q E h=>?_) (fun X hX H vs Q E h=>?_)
 ·obtain⟨v,m,ws,p,r,n,rfl,_⟩:=h;rfl
 ·obtain⟨f,cdv,A,outer,s,H0,E0,rfl,hr⟩:=hX
  obtain⟨v,m,ws,p,r,n,rfl,⟨hh,t,rfl,g1,g2⟩,ok,hp,q⟩:=h
  obtain⟨bs,g3,al⟩:=cb.al g2
  have hfew:=ok.few
  refine⟨_,(aj (aG (i:=2) nd rfl (Or.inl rfl) (bJ ae))
    (aj (cj PassesOwn.never rfl (v9 K rfl T.enumerate_ (aa (ai (aB K) (pv 0) af (fun _ _=>rfl)) ae)) (fj (n:=2) K rfl (bG (aO (i:=3) nd rfl (Or.inl rfl)) (bG (fj (n:=4) K rfl (bG (aO (i:=4) nd rfl (Or.inl rfl)) (bG (aO (i:=5) nd rfl (Or.inl rfl)) (bG (aO (i:=6) nd rfl (Or.inl rfl)) (bG (aO (i:=7) nd rfl (Or.inl rfl)) fi))))) fi))) (av (cO (aT bL (pv 4) (ai (aB K) (pv 1) af (fun _ _=>rfl)) (aP _)) (aj (cO (aT bL (pv 5) bD (aP _)) (av (bh (bE K Ed Er Es bQ (pv 2) (aa (aM (aa (pv 3) (aa (aM (aa (pv 6) (aa (aD bH (ai (aB K) (pv 1) af (fun _ _=>rfl)) af) ae))) ae))) ae)))) bf)
    (aj (cO (PW.pt (gm (aT bL (pv 5) bD (aP _)) (gR (aT gA (ai (aB K) (pv 1) af (fun _ _=>rfl)) af (aP _))))) (av (bh (bE K Ed Er Es bQ (pv 2) (aa (aM (aa (pv 3) (aa (aM (aa (pv 6) (aa (aD dR (ai (aB K) (pv 1) af (fun _ _=>rfl)) af) ae))) ae))) ae)))) bf)
    (av (cO (PW.pt (dC (aT bL (pv 5) bD (aP _)) (dM (PW.pt (gm (aT bL (pv 5) bD (aP _)) (gR (aT bL (ai (aB K) (pv 1) af (fun _ _=>rfl)) af (aP _)))))))) (av (bh (bE K Ed Er Es bQ (pv 2) (aa (aM (aa (pv 3) (aa (aM (aa (pv 6) (aa (ai (aB K) (pv 1) af (fun _ _=>rfl)) ae))) ae))) ae)))) bf)))) bf)))
    (av (aF (pv 2))))),?_⟩
  walk_at "rd"
  refine⟨ao (by simp),aq fun f H1 e1 hf hfn=>?_⟩
  walk_at "rd"
  refine aA (ah.of (e1 _ _ g1)) (v:=.ref t) rfl ?_
  walk_at "rd"
  refine qO (ah.of (e1 _ _ g3)) ?_
  refine sV (xs:=bs.map V.ref) (fun i σ H'=>∃k1 k2 k3 k4 k5,σ=[some (.ref hh),some (.ref p),some (.ref f),k1,k2,k3,k4,k5]/\BL H H' f (cP ws r n i)) ⟨none,none,none,none,none,rfl,e1,[],hf,.nil⟩ (fun i σ H' _ h=>by obtain⟨_,_,_,_,_,_,bl⟩:=h;exact ah.of (bl.ext _ _ g3)) ?_ ?_
  ·rintro i u σ H2 pp H3 hu ⟨k1,k2,k3,k4,k5,rfl,bl0⟩ e3 hpp _
   rw[DY]at hu
   obtain⟨b,hb,rfl⟩:=Eh.mp hu
   have hi:i<ws.length:=by
    rw[←al.1]
    exact(Ee.mp hb).1
   have hwi:ws[i]?=some ws[i]:=DX hi
   have bl:=bl0.step e3
   have hw:=bl.ext _ _ (al.2 i b _ hb hwi)
   have hp3:=bl.ext _ _ hp
   have okw:=(ok.ok _ (Ez hi)).dd
   rw[zk hwi]
   have hlen:=oi ws r n i
   generalize cP ws r n i=ts at bl hlen
   clear bl0 hwi
   generalize ws[i]=w at hw okw ⊢
   obtain⟨room,deed,other,sign⟩:=w
   refine fI (ah.of hpp) rfl ?_
   walk_at "rd"
   refine fI (ah.of hw) rfl ?_
   walk_at "rd"
   refine b7 ?_
   walk_at "rd"
   refine aA (ah.of hp3) (v:=.int r) rfl ?_
   walk_at "rd"
   by_cases er:room=r
   rotate_left
   ·rw[decide_eq_false er]
    refine aw ?_
    walk_at "rd"
    refine⟨_,_,_,_,_,rfl,?_⟩
    rw[sQ er,List.append_nil]
    exact bl
   ·rw[decide_eq_true er]
    refine aC ?_
    rcases okw with e | e | e | e<;>(simp only at e;subst e)
    ·rw[fB er (gC n)]
     walk_at "rd"
     refine b7 ?_
     walk_at "rd"
     refine cg ?_
     rw[eT]
     refine rd_exb (aC ?_)
     walk_at "rd"
     refine⟨bl.ty (Ext.rfl' _),?_⟩
     walk_at "rd"
     refine aA (ah.of hp3) (v:=.int n) rfl ?_
     walk_at "rd"
     refine⟨ao (by simp),aq fun d H4 e4 hd _=>?_⟩
     walk_at "rd"
     refine⟨ao (by simp),aq fun c H5 e5 hc _=>?_⟩
     walk_at "rd"
     obtain⟨xs,hx,hlx,bl'⟩:=bl.push hfn (e4.trans e5) (e5 _ _ hd) hc
     refine bN hx (iI (by omega)) ?_
     generalize upd H5 f _=H6 at bl' ⊢
     walk_at "rd"
     refine b7 ?_
     walk_at "rd"
     refine cg ?_
     rw[pA]
     refine rd_exb (aw ?_)
     refine aw ?_
     walk_at "rd"
     refine b7 ?_
     walk_at "rd"
     refine cg ?_
     rw[zu]
     refine rd_exb (aw ?_)
     walk_at "rd"
     refine cg ?_
     rw[s9]
     refine rd_exb (aw ?_)
     refine aw ?_
     walk_at "rd"
     exact⟨_,_,_,_,_,rfl,bl'⟩
    ·-- down
     walk_at "rd"
     refine b7 ?_
     walk_at "rd"
     refine cg ?_
     rw[tK]
     refine rd_exb (aw ?_)
     walk_at "rd"
     refine b7 ?_
     walk_at "rd"
     refine cg ?_
     rw[eT]
     refine rd_exb (aC ?_)
     walk_at "rd"
     refine aA (ah.of hp3) (v:=.int n) rfl ?_
     walk_at "rd"
     by_cases hn:0<n
     ·rw[decide_eq_true hn]
      refine aC ?_
      walk_at "rd"
      refine⟨bl.ty (Ext.rfl' _),?_⟩
      walk_at "rd"
      refine aA (ah.of hp3) (v:=.int n) rfl ?_
      walk_at "rd"
      refine⟨ao (by simp),aq fun d H4 e4 hd _=>?_⟩
      walk_at "rd"
      refine⟨ao (by simp),aq fun c H5 e5 hc _=>?_⟩
      walk_at "rd"
      obtain⟨xs,hx,hlx,bl'⟩:=bl.push hfn (e4.trans e5) (e5 _ _ hd) hc
      refine bN hx (iI (by omega)) ?_
      generalize upd H5 f _=H6 at bl' ⊢
      walk_at "rd"
      refine b7 ?_
      walk_at "rd"
      refine cg ?_
      rw[vX]
      refine rd_exb (aw ?_)
      walk_at "rd"
      refine cg ?_
      rw[oW]
      refine rd_exb (aw ?_)
      refine aw ?_
      walk_at "rd"
      refine⟨_,_,_,_,_,rfl,?_⟩
      rw[fB er (fg n),decide_eq_true hn]
      exact bl'
     ·rw[decide_eq_false hn]
      refine aw ?_
      walk_at "rd"
      refine b7 ?_
      walk_at "rd"
      refine cg ?_
      rw[vX]
      refine rd_exb (aw ?_)
      walk_at "rd"
      refine cg ?_
      rw[oW]
      refine rd_exb (aw ?_)
      refine aw ?_
      walk_at "rd"
      refine⟨_,_,_,_,_,rfl,?_⟩
      rw[fB er (fg n),decide_eq_false hn]
      simpa using bl
    ·-- stay
     walk_at "rd"
     refine b7 ?_
     walk_at "rd"
     refine cg ?_
     rw[qo]
     refine rd_exb (aw ?_)
     walk_at "rd"
     refine b7 ?_
     walk_at "rd"
     refine cg ?_
     rw[mO]
     refine rd_exb (aw ?_)
     refine aw ?_
     walk_at "rd"
     refine b7 ?_
     walk_at "rd"
     refine cg ?_
     rw[eT]
     refine rd_exb (aC ?_)
     refine aC ?_
     walk_at "rd"
     refine⟨bl.ty (Ext.rfl' _),?_⟩
     walk_at "rd"
     refine aA (ah.of hp3) (v:=.int n) rfl ?_
     walk_at "rd"
     refine⟨ao (by simp),aq fun d H4 e4 hd _=>?_⟩
     walk_at "rd"
     refine⟨ao (by simp),aq fun c H5 e5 hc _=>?_⟩
     walk_at "rd"
     obtain⟨xs,hx,hlx,bl'⟩:=bl.push hfn (e4.trans e5) (e5 _ _ hd) hc
     refine bN hx (iI (by omega)) ?_
     generalize upd H5 f _=H6 at bl' ⊢
     walk_at "rd"
     refine⟨_,_,_,_,_,rfl,?_⟩
     rw[fB er (gr n)]
     exact bl'
    ·-- zero
     walk_at "rd"
     refine b7 ?_
     walk_at "rd"
     refine cg ?_
     rw[pU]
     refine rd_exb (aw ?_)
     walk_at "rd"
     refine b7 ?_
     walk_at "rd"
     refine cg ?_
     rw[oD]
     refine rd_exb (aw ?_)
     refine aw ?_
     walk_at "rd"
     refine b7 ?_
     walk_at "rd"
     refine cg ?_
     rw[tJ]
     refine rd_exb (aw ?_)
     walk_at "rd"
     refine cg ?_
     rw[eT]
     refine rd_exb (aC ?_)
     walk_at "rd"
     refine aA (ah.of hp3) (v:=.int n) rfl ?_
     walk_at "rd"
     by_cases hn:n=0
     ·rw[decide_eq_true hn]
      refine aC ?_
      walk_at "rd"
      refine⟨bl.ty (Ext.rfl' _),?_⟩
      walk_at "rd"
      refine aA (ah.of hp3) (v:=.int n) rfl ?_
      walk_at "rd"
      refine⟨ao (by simp),aq fun d H4 e4 hd _=>?_⟩
      walk_at "rd"
      refine⟨ao (by simp),aq fun c H5 e5 hc _=>?_⟩
      walk_at "rd"
      obtain⟨xs,hx,hlx,bl'⟩:=bl.push hfn (e4.trans e5) (e5 _ _ hd) hc
      refine bN hx (iI (by omega)) ?_
      generalize upd H5 f _=H6 at bl' ⊢
      walk_at "rd"
      refine⟨_,_,_,_,_,rfl,?_⟩
      rw[fB er (ft n),decide_eq_true hn]
      exact bl'
     ·rw[decide_eq_false hn]
      refine aw ?_
      walk_at "rd"
      refine⟨_,_,_,_,_,rfl,?_⟩
      rw[fB er (ft n),decide_eq_false hn]
      simpa using bl
  ·rintro σ H' ⟨k1,k2,k3,k4,k5,rfl,bl⟩
   rw[DW,al.1]at bl
   obtain⟨ew,cs,hcs,hpd⟩:=bl
   walk_at "rd"
   exact q f H' cs ew hfn hcs hpd
theorem AN{α:Type}{l:List α}(hn:l.Nodup){i j:Nat}{a:α}(hi:l[i]?=some a)(hj:l[j]?=some a):i=j:=by
 obtain⟨h1,e1⟩:=Ee.mp hi
 obtain⟨h2,e2⟩:=Ee.mp hj
 rcases Nat.lt_trichotomy i j with z | z | z
 ·exact absurd (e1.trans e2.symm) (List.pairwise_iff_getElem.mp hn i j h1 h2 z)
 ·exact z
 ·exact absurd (e2.trans e1.symm) (List.pairwise_iff_getElem.mp hn j i h2 h1 z)
def cQ(ws:List Way)(r:Int)(k:Nat):List Nat:=(List.range k).filter fun j=>(ws[j]?).any fun w=>decide (w.room=r)
theorem CW{ws:List Way}{r:Int}{i:Nat}{w:Way}(h:ws[i]?=some w):cQ ws r (i+1)=cQ ws r i++if w.room=r then[i]else[]:=by
 unfold cQ
 rw[List.range_succ,List.filter_append]
 congr 1
 simp only[List.filter_cons,List.filter_nil,h,Option.any_some]
 by_cases e:w.room=r
 ·rw[decide_eq_true e,if_pos rfl,if_pos e]
 ·rw[decide_eq_false e,if_neg (by decide),if_neg e]
theorem AZ(ws:List Way)(r:Int)(k:Nat):(cQ ws r k).length<=k:=by
 unfold cQ
 exact EE (List.length_filter_le _ _) (Nat.le_of_eq List.length_range)
theorem yb{ws:List Way}{r:Int}{j:Nat}{w:Way}(h:ws[j]?=some w)(e:w.room=r):j∈cQ ws r ws.length:=by
 unfold cQ
 rw[List.mem_filter,List.mem_range,h]
 exact⟨(Ee.mp h).1,by simp[e]⟩
theorem zX{ws:List Way}{r:Int}{j:Nat}(h:j∈cQ ws r ws.length):∃w,ws[j]?=some w/\w.room=r:=by
 unfold cQ at h
 rw[List.mem_filter,List.mem_range]at h
 have e:=DX h.1
 rw[e]at h
 exact⟨_,e,by simpa using h.2⟩
theorem cA{n:Nat}(h:n<=24100):n<sizeLine:=Nat.lt_of_le_of_lt h (by decide)
abbrev bK(l:List Nat):List V:=l.map fun j:Nat=>V.int (j:Int)
theorem wq(l:List Nat)(k:Nat):bK (l++[k])=bK l++[.int (k:Int)]:=Em
structure CT(H:Hp)(c:Addr)(m:Int)(ls:List Addr)(ws:List Way)(k:Nat):Prop where
 at_:H c=some (.lst (List.map V.ref ls))
 len:ls.length=m.toNat
 nd:ls.Nodup
 it:∀(r:Nat) (l:Addr),ls[r]?=some l->H l=some (.lst (bK (cQ ws r k)))
theorem CT.ext{H H':Hp}{c:Addr}{m:Int}{ls:List Addr}{ws:List Way}{k:Nat}(e:Ext H H')(h:CT H c m ls ws k):CT H' c m ls ws k:=
 ⟨e _ _ h.at_,h.len,h.nd,fun r l hl=>e _ _ (h.it r l hl)⟩
def wg(K:DS):Sp:=fun vs H Q _=>∃v m ws,vs=[v]/\aU H v m ws/\HOuse m ws/\∀c ls H',Ext H H'->CT H' c m ls ws ws.length->Q (.ref c) H'
abbrev kT:Stmt:=stq 48
theorem qQ:FnScope ["house","counts","count","way"] ["house"] (aI kT):=⟨rfl,rfl,rfl,by decide +kernel,rfl,by decide +kernel,by decide +kernel⟩
theorem yJ{P:Program}{w:World}{K:DS}{mg:Str->Option Value}{base:Heap}(D:Dfn K mg "counts_by_room" kT ["house"])(T:Blt mg):Cal P w K mg base "counts_by_room" 1 ["house"] (wg K):=by
 have nd:=(qQ).nd
 refine D.ok qQ (fun vs H Q E h=>?_) (fun X hX H vs Q E h=>?_)
 ·obtain⟨v,m,ws,rfl,_⟩:=h;rfl
 ·obtain⟨f,cdv,A,outer,s,H0,E0,rfl,hr⟩:=hX
  obtain⟨v,m,ws,rfl,⟨hh,t,rfl,g1,g2⟩,ok,q⟩:=h
  obtain⟨bs,g3,al⟩:=cb.al g2
  have hfew:=ok.few
  have m1:=ok.m1
  have m2:=ok.m12
  refine⟨_,(aj (fZ (i:=1) ["room"] [] nd rfl (Or.inl rfl) (cX rfl T.range_ (aa (ai (aB K) (pv 0) af (fun _ _=>rfl)) ae)) (fun _=>(aO (i:=0) (show(["room"]:List Str).Nodup from by decide +kernel) rfl (Or.inl rfl) (Or.inr rfl))) (fun _=>dY) (fun _=>(bJ ae)))
    (aj (cj PassesOwn.never rfl (v9 K rfl T.enumerate_ (aa (ai (aB K) (pv 0) af (fun _ _=>rfl)) ae)) (fj (n:=2) K rfl (bG (aO (i:=2) nd rfl (Or.inl rfl)) (bG (aO (i:=3) nd rfl (Or.inl rfl)) fi))) (av (bh (bE K Ed Er Es bQ (ai (aS K) (pv 1) (ai (aB K) (pv 3) af (fun _ _=>rfl)) (fun _ _=>rfl)) (aa (pv 2) ae)))))
    (av (aF (pv 1))))),?_⟩
  walk_at "rd"
  refine aA (ah.of g1) (v:=.int m) rfl ?_
  walk_at "rd"
  refine cR ⟨by omega,by omega⟩ ?_
  refine ef (fun i ys H'=>Ext H H'/\∃ls:List Addr,ys=List.map V.ref ls/\ls.length=i/\ls.Nodup/\∀l∈ls,H' l=some (.lst [])/\H l=none) (iN (by omega)) ⟨Ext.rfl' _,[],rfl,rfl,List.nodup_nil,fun l h=>by cases h⟩ (fun i ys H' _ h=>by obtain⟨_,ls,rfl,hl,_⟩:=h;rw[DW,hl];exact Ep _) ?_ ?_
  ·rintro i ys H' hi ⟨e,ls,rfl,hl,hnd,hls⟩
   walk_at "rd"
   refine aC ?_
   walk_at "rd"
   refine⟨ao (by simp),aq fun l H1 e1 hl1 hln=>?_⟩
   refine⟨e.trans e1,ls++[l],by rw[Em];rfl,by rw[En,hl];rfl,?_,?_⟩
   ·rw[List.nodup_append]
    refine⟨hnd,by simp,fun a ha b hb z=>?_⟩
    have:b=l:=by simpa using hb
    subst this
    subst z
    rw[(hls a ha).1]at hln
    cases hln
   ·intro a ha
    rcases Ew.mp ha with z | z
    ·exact⟨e1 _ _ (hls a z).1,(hls a z).2⟩
    ·have:a=l:=by simpa using z
     subst this
     exact⟨hl1,e.none hln⟩
  ·rintro ys H1 c ⟨e,ls,rfl,hl,hnd,hls⟩ hc
   walk_at "rd"
   have eN:Ext H (upd H1 c (.lst (List.map V.ref ls))):=e.trans (bw hc)
   have hcH:H c=none:=e.none hc
   have ct0:CT (upd H1 c (.lst (List.map V.ref ls))) c m ls ws 0:=⟨aL,hl,hnd,fun r l hl=>by
    have:=(hls l (Ef hl)).1
    rw[az (bO this hc)]
    exact this⟩
   have hcl:∀l∈ls,H l=none:=fun l h=>(hls l h).2
   generalize upd H1 c (.lst (List.map V.ref ls))=H2 at eN ct0 ⊢
   clear hls hc e H1
   refine aA (ah.of (eN _ _ g1)) (v:=.ref t) rfl ?_
   walk_at "rd"
   refine qO (ah.of (eN _ _ g3)) ?_
   refine sV (xs:=bs.map V.ref) (fun i σ H'=>∃k1 k2,σ=[some (.ref hh),some (.ref c),k1,k2]/\Ext H H'/\CT H' c m ls ws i) ⟨none,none,rfl,eN,ct0⟩ (fun i σ H' _ h=>by obtain⟨_,_,_,e,_⟩:=h;exact ah.of (e _ _ g3)) ?_ ?_
   ·rintro i u σ H3 pp H4 hu ⟨k1,k2,rfl,e3,ct3⟩ e4 hpp _
    rw[DY]at hu
    obtain⟨b,hb,rfl⟩:=Eh.mp hu
    have hi:i<ws.length:=by
     rw[←al.1]
     exact(Ee.mp hb).1
    have hwi:ws[i]?=some ws[i]:=DX hi
    have e34:=e3.trans e4
    have ct:=ct3.ext e4
    have okw:=ok.ok _ (Ez hi)
    have hw:=e34 _ _ (al.2 i b _ hb hwi)
    have csu:=fun r:Nat=>CW (r:=(r:Int)) hwi
    clear ct3
    generalize ws[i]=w at hw okw csu hwi
    have r0:=okw.r0
    have r1:=okw.r1
    have hlr:w.room.toNat<ls.length:=by rw[ct.len];omega
    have hlg:ls[w.room.toNat]?=some ls[w.room.toNat]:=DX hlr
    generalize ls[w.room.toNat]=l at hlg
    have hl:=ct.it _ _ hlg
    have hlen:=AZ ws (w.room.toNat:Nat) i
    refine fI (ah.of hpp) rfl ?_
    walk_at "rd"
    refine aA (ah.of hw) (v:=.int w.room) rfl ?_
    refine aQ (ag.of ct.at_) (v:=.ref l) ?_ ?_
    ·refine dO r0 ?_
     rw[DY,hlg]
     rfl
    refine⟨bP (ag.of hl),?_⟩
    walk_at "rd"
    refine bN hl (iI (by rw[DW];omega)) ?_
    have lc:l≠c:=cL hl ct.at_ (fun z=>by
     have z':=HO.lst.inj z
     have hlc:=congrArg List.length z'
     cases hcn:cQ ws (w.room.toNat:Nat) i with
     | nil=>
      rw[hcn]at hlc
      rw[DW,DW]at hlc
      have:ls.length=0:=hlc.symm
      omega
     | cons a r=>
      rw[hcn]at z'
      cases ls with
      | nil=>cases z'
      | cons x y=>cases(List.cons.inj z').1)
    walk_at "rd"
    refine⟨_,_,rfl,cB e34 (hcl l (Ef hlg)),?_⟩
    refine⟨by rw[az lc.symm];exact ct.at_,ct.len,ct.nd,fun r l' hl'=>?_⟩
    rw[csu r]
    by_cases er:r=w.room.toNat
    ·subst er
     rw[hlg]at hl'
     cases hl'
     rw[aL,if_pos (by omega),wq]
    ·have nl:l'≠l:=fun z=>er (by
      subst z
      exact AN ct.nd hl' hlg)
     rw[az nl,if_neg (by omega),List.append_nil]
     exact ct.it r l' hl'
   ·rintro σ H' ⟨k1,k2,rfl,e3,ct⟩
    rw[DW,al.1]at ct
    walk_at "rd"
    exact q c ls H' e3 ct
def bW(m:Int)(x g:Bfs.Pl):Int:=(if g.2>x.2 then g.2 else x.2)+m*m
def tF(K:DS):Sp:=fun vs H Q _=>∃v m ws a b x g,vs=[v,.ref a,.ref b]/\aU H v m ws/\HOuse m ws/\ax H a x/\ax H b g/\Q (.int (bW m x g)) H
abbrev lh:Stmt:=stq 49
theorem ur:FnScope ["house","place","goal"] ["house","place","goal"] (aI lh):=⟨rfl,rfl,rfl,by decide +kernel,rfl,by decide +kernel,by decide +kernel⟩
theorem yZ{P:Program}{w:World}{K:DS}{mg:Str->Option Value}{base:Heap}(D:Dfn K mg "greatest_met" lh ["house","place","goal"])(T:Blt mg):Cal P w K mg base "greatest_met" 1 ["house","place","goal"] (tF K):=by
 have nd:=(ur).nd
 refine D.ok ur (fun vs H Q E h=>?_) (fun X hX H vs Q E h=>?_)
 ·obtain⟨v,m,ws,a,b,x,g,rfl,_⟩:=h;rfl
 ·obtain⟨f,cdv,A,outer,s,H0,E0,rfl,hr⟩:=hX
  obtain⟨v,m,ws,a,b,x,g,rfl,⟨hh,t,rfl,g1,g2⟩,ok,hx,hg,q⟩:=h
  have m1:=ok.m1
  have m2:=ok.m12
  refine⟨_,(av (aF (aD bH (bc (BO rfl) rfl T.max_ PyProof.Rows.boot_max (aa (ai (aB K) (pv 1) af (fun _ _=>rfl)) (aa (ai (aB K) (pv 2) af (fun _ _=>rfl)) ae))) (aD eZ (ai (aB K) (pv 0) af (fun _ _=>rfl)) (ai (aB K) (pv 0) af (fun _ _=>rfl)))))),?_⟩
  walk_at "rd"
  refine aA (ah.of hx) (v:=.int x.2) rfl ?_
  walk_at "rd"
  refine aA (ah.of hg) (v:=.int g.2) rfl ?_
  walk_at "rd"
  refine aA (ah.of g1) (v:=.int m) rfl ?_
  walk_at "rd"
  refine aA (ah.of g1) (v:=.int m) rfl ?_
  walk_at "rd"
  try refine rd_I (.inl ⟨by omega,by omega⟩) ?_
  walk_at "rd"
  exact q
def bt(ws:List Way)(T:Int)(x:Bfs.Pl)(k:Nat):Option Bfs.Pl:=
 (ws[k]?).bind fun w=>if w.room=x.1 then(stp w.deed x.2).bind fun n=>if n<=T then some (w.other,n)else none else none
theorem iU:rz "up" = 1:=by decide +kernel
theorem kE:rz "down" = -1:=by decide +kernel
theorem lV:rz "stay" = 0:=by decide +kernel
theorem ou:rz "zero" = 0:=by decide +kernel
theorem rg{z:Str}{n n':Int}(hz:bC z)(h:stp z n=some n'):n'=n+rz z:=by
 rcases hz with e | e | e | e<;>rw[e]at h ⊢
 ·rw[gC]at h;rw[iU];cases h;rfl
 ·rw[fg]at h
  rw[kE]
  split at h
  ·cases h;omega
  ·cases h
 ·rw[gr]at h;rw[lV];cases h;omega
 ·rw[ft]at h
  rw[ou]
  split at h
  ·cases h;omega
  ·cases h
theorem nv{w:Way}(hz:bC w.deed)(x:Bfs.Pl):bY w x.1 x.2=true↔w.room=x.1/\stp w.deed x.2=some (x.2+rz w.deed):=by
 unfold bY
 rcases hz with e | e | e | e<;>rw[e]
 ·rw[pA,s9,gC,iU];simp
 ·rw[eT,fg,kE]
  by_cases h:0<x.2
  ·rw[decide_eq_true h];simp[Int.sub_eq_add_neg]
  ·rw[decide_eq_false h];simp
 ·rw[mO,decide_eq_false (show ¬(Str.ofString "stay")=Str.ofString "zero" by decide +kernel),gr,lV];simp
 ·rw[oD,eT,ft,ou]
  by_cases h:x.2=0
  ·rw[decide_eq_true h];simp
  ·rw[decide_eq_false h];simp
theorem yz{ws:List Way}{T:Int}{x:Bfs.Pl}{k:Nat}{w:Way}(h:ws[k]?=some w)(hz:bC w.deed)(ho:bY w x.1 x.2=true)(ht:x.2+rz w.deed<=T):bt ws T x k=some (w.other,x.2+rz w.deed):=by
 obtain⟨h1,h2⟩:=(nv hz x).mp ho
 unfold bt
 rw[h,EC,if_pos h1,h2,EC,if_pos ht]
theorem hV{ws:List Way}{T:Int}{x y:Bfs.Pl}{k:Nat}(h:bt ws T x k=some y):∃w,ws[k]?=some w/\w.room=x.1/\stp w.deed x.2=some y.2/\y.1=w.other/\y.2<=T:=by
 unfold bt at h
 obtain⟨w,hw,h⟩:=Option.bind_eq_some_iff.mp h
 split at h
 ·rename_i hr
  obtain⟨n,hn,h⟩:=Option.bind_eq_some_iff.mp h
  split at h
  ·rename_i ht
   cases h
   exact⟨w,hw,hr,hn,rfl,ht⟩
  ·cases h
 ·cases h
theorem sU{ws:List Way}{T:Int}{x y:Bfs.Pl}{k:Nat}{w:Way}(hw:ws[k]?=some w)(hz:bC w.deed)(h:bt ws T x k=some y):bY w x.1 x.2=true/\y=(w.other,x.2+rz w.deed)/\x.2+rz w.deed<=T:=by
 obtain⟨w',hw',hr,hs,ho,ht⟩:=hV h
 rw[hw]at hw'
 cases hw'
 have e:=rg hz hs
 rw[e]at ht hs
 exact⟨(nv hz x).mpr ⟨hr,hs⟩,Prod.ext ho e,ht⟩
theorem sF{z:Str}{n n':Int}(hz:bC z)(h0:0<=n)(h:stp z n=some n'):0<=n':=by
 rcases hz with e | e | e | e<;>rw[e]at h
 ·rw[gC]at h;cases h;omega
 ·rw[fg]at h
  split at h
  ·rename_i g
   have:=of_decide_eq_true g
   cases h;omega
  ·cases h
 ·rw[gr]at h;cases h;exact h0
 ·rw[ft]at h
  split at h
  ·cases h;exact h0
  ·cases h
def fE(H:Hp)(v:V):Option (Bfs.Pl×Nat)->Prop
 | none=>v=.non
 | some (p,k)=>∃a b,v=.ref a/\H a=some (.tup [.ref b,.int (k:Int)])/\ax H b p
theorem fE.ext{H H':Hp}(e:Ext H H'){v:V}{o:Option (Bfs.Pl×Nat)}(h:fE H v o):fE H' v o:=by
 cases o with
 | none=>exact h
 | some pk=>
  obtain⟨a,b,h1,h2,h3⟩:=h
  exact⟨a,b,h1,e _ _ h2,e _ _ h3⟩
theorem fE.put{H:Hp}{f:Addr}{u u':HO}(hf:H f=some u)(hn:∀xs,u≠.tup xs){v:V}{o:Option (Bfs.Pl×Nat)}(h:fE H v o):fE (upd H f u') v o:=by
 cases o with
 | none=>exact h
 | some pk=>
  obtain⟨a,b,h1,h2,h3⟩:=h
  exact⟨a,b,h1,by rw[az (cL h2 hf (fun z=>hn _ z.symm))];exact h2,ax.put hf hn h3⟩
abbrev nX(H:Hp)(kv:List Key×V)(e:Bfs.Ent):Prop:=kv.1=aX e.1/\fE H kv.2 e.2.2
abbrev Bv(H:Hp)(a:Addr)(e:Bfs.Ent):Prop:=ax H a e.1
section
variable {β:Type} {F:List Key×V->β->Prop} {key:β->Bfs.Pl} {kvs:List (List Key×V)} {q:List β}
theorem iB(hF:∀kv e,F kv e->kv.1=aX (key e))(h:Paired F kvs q){x:Bfs.Pl}(hx:x∉q.map key):bx kvs (aX x)=none:=by
 induction h with
 | nil=>rfl
 | @cons a b as bs h t ih=>
  rw[List.map_cons,Ek,not_or]at hx
  rw[ir (fun z=>hx.1 (vE (z.symm.trans (hF _ _ h))))]
  exact ih hx.2
theorem gZ(hF:∀kv e,F kv e->kv.1=aX (key e))(h:Paired F kvs q)(nd:(q.map key).Nodup){e:β}(he:e∈q):∃v,bx kvs (aX (key e))=some v/\F (aX (key e),v) e:=by
 induction h with
 | nil=>cases he
 | @cons a b as bs h t ih=>
  rw[List.map_cons,List.nodup_cons]at nd
  rcases Ek.mp he with z | z
  ·subst z
   have e1:=hF _ _ h
   refine⟨a.2,lN e1,?_⟩
   rw[←e1]
   exact h
  ·obtain⟨v,h1,h2⟩:=ih nd.2 z
   refine⟨v,?_,h2⟩
   rw[ir (fun w=>nd.1 ?_)]
   ·exact h1
   ·rw[vE ((hF _ _ h).symm.trans w)]
    exact List.mem_map.mpr ⟨e,z,rfl⟩
end
structure FF(H0 H:Hp)(f rw:Addr)(q:List Bfs.Ent):Prop where
 ext:Ext H0 H
 fn:H0 f=none
 rn:H0 rw=none
 d:∃kvs,H f=some (.dT kvs)/\Paired (nX H) kvs q
 r:∃as,H rw=some (.lst (List.map V.ref as))/\Paired (Bv H) as q
theorem FF.step{H0 H H1:Hp}{f rw:Addr}{q:List Bfs.Ent}(h:FF H0 H f rw q)(e:Ext H H1):FF H0 H1 f rw q:=by
 obtain⟨h1,h2,h3,⟨kvs,h4,h5⟩,as,h6,h7⟩:=h
 exact⟨h1.trans e,h2,h3,⟨kvs,e _ _ h4,Paired.mapP h5 fun _ _ z=>⟨z.1,z.2.ext e⟩⟩,as,e _ _ h6,Paired.mapP h7 fun _ _ z=>e _ _ z⟩
theorem FF.push{H0 H:Hp}{f rw th t b:Addr}{q:List Bfs.Ent}{y p:Bfs.Pl}{k d:Nat}(h:FF H0 H f rw q)(hy:y∉q.map (·.1))(hth:ax H th y)(hb:ax H b p)(ht:H t=some (.tup [.ref b,.int (k:Int)])):
  ∃kvs,H f=some (.dT kvs)/\kvs.length=q.length/\∃as,upd H f (.dT (putK kvs (aX y) (.ref t))) rw=some (.lst (List.map V.ref as))/\as.length=q.length ∧
   FF H0 (upd (upd H f (.dT (putK kvs (aX y) (.ref t)))) rw (.lst (List.map V.ref as++[.ref th]))) f rw (q++[(y,d,some (p,k))]):=by
 obtain⟨h1,h2,h3,⟨kvs,h4,h5⟩,as,h6,h7⟩:=h
 have nf:∀xs,(HO.dT kvs)≠.tup xs:=fun xs z=>by cases z
 have nr:∀xs,(HO.lst (List.map V.ref as))≠.tup xs:=fun xs z=>by cases z
 have ne:rw≠f:=cL h6 h4 (by intro z;cases z)
 have h6':upd H f (.dT (putK kvs (aX y) (.ref t))) rw=some (.lst (List.map V.ref as)):=by rw[az ne];exact h6
 have vp:fE H (.ref t) (some (p,k)):=⟨t,b,rfl,ht,hb⟩
 refine⟨kvs,h4,Paired.length h5,as,h6',Paired.length h7,cB (cB h1 h2) h3,h2,h3,⟨kvs++[(aX y,.ref t)],?_,?_⟩,as++[th],?_,?_⟩
 ·rw[az ne.symm,aL,qV _ (iB (fun _ _ z=>z.1) h5 hy)]
 ·exact Paired.snoc (Paired.mapP h5 fun _ _ z=>⟨z.1,(z.2.put h4 nf).put h6' nr⟩) ⟨rfl,(vp.put h4 nf).put h6' nr⟩
 ·rw[aL,Em];rfl
 ·exact Paired.snoc (Paired.mapP h7 fun _ _ z=>ax.put h6' nr (ax.put h4 nf z)) (ax.put h6' nr (ax.put h4 nf hth))
def bI(m T:Int)(x:Bfs.Pl):Prop:=0<=x.1/\x.1<m/\0<=x.2/\x.2<=T
theorem bI.few{m T:Int}{l:List Bfs.Pl}(hm:m<=12)(hT:T<=2000)(hn:l.Nodup)(h:∀x∈l,bI m T x):l.length<=24012:=
 Bfs.AF hT hn fun x hx=>by
  obtain⟨a,b,c,d⟩:=h x hx
  exact⟨a,by omega,c,d⟩
theorem zO{m T:Int}{ws:List Way}(ok:HOuse m ws){x y:Bfs.Pl}{k:Nat}(hx:0<=x.2)(h:bt ws T x k=some y):bI m T y:=by
 obtain⟨w,hw,hr,hs,ho,ht⟩:=hV h
 have okw:=ok.ok w (Ef hw)
 exact⟨by rw[ho];exact okw.o0,by rw[ho];exact okw.o1,sF okw.dd hx hs,ht⟩
def o8(H1:Hp)(ws:List Way)(m T:Int)(x:Bfs.Pl)(v:V)(pa ga c f rw:Addr)(M:Nat)(σ:St)(H':Hp):Prop:=
 ∃q i B k1 k2 k3 k4,σ=[some v,some (.ref pa),some (.ref ga),some (.int T),some (.ref c),some (.ref f),some (.ref rw),some (.int ((i:Nat):Int)),k1,k2,k3,k4]/\FF H1 H' f rw q/\Bfs.QI (bt ws T) x q i B/\(∀e∈q,bI m T e.1)/\i<=q.length/\M+i=24013
def AM(H1:Hp)(ws:List Way)(T:Int)(x g:Bfs.Pl)(v:V)(pa ga c f rw:Addr)(σ:St)(H':Hp):Prop:=
 ∃q i B k0 k1 k2 k3 k4,σ=[some v,some (.ref pa),some (.ref ga),some (.int T),some (.ref c),some (.ref f),some (.ref rw),k0,k1,k2,k3,k4]/\FF H1 H' f rw q/\Bfs.QI (bt ws T) x q i B/\q.length<=24012/\(i=q.length\/g∈q.map (·.1))
def Bm(H1:Hp)(ws:List Way)(m T:Int)(x:Bfs.Pl)(v:V)(pa ga c f rw b:Addr)(i:Nat)(h:Bfs.Ent)(ks:List Nat)(j:Nat)(σ:St)(H':Hp):Prop:=
 ∃q k1 k2 k3,σ=[some v,some (.ref pa),some (.ref ga),some (.int T),some (.ref c),some (.ref f),some (.ref rw),some (.int ((i:Nat):Int)),some (.ref b),k1,k2,k3]/\FF H1 H' f rw q/\Bfs.QF (nx:=bt ws T) (s:=x) q (i-1) h ks j/\(∀e∈q,bI m T e.1)/\ax H' b h.1
theorem Bz{m:Int}{x g:Bfs.Pl}(h0:0<=m)(hm:m<=12)(hx:x.2<=1000)(hg:g.2<=1000):bW m x g<=2000:=by
 unfold bW
 have:m*m<=12*12:=Int.mul_le_mul hm hm h0 (by decide)
 split<;>omega
theorem Dn{m:Int}{x g:Bfs.Pl}(h0:0<=m):x.2<=bW m x g/\g.2<=bW m x g:=by
 unfold bW
 have:0<=m*m:=Int.mul_nonneg h0 h0
 split<;>constructor<;>omega
def vH(K:DS):Sp:=fun vs H Q _=>∃v m ws pa ga x g,vs=[v,.ref pa,.ref ga]/\aU H v m ws/\HOuse m ws/\ax H pa x/\ax H ga g/\cn m x/\cn m g ∧
 ∀f H' kvs q i B,Ext H H'->H' f=some (.dT kvs)->Paired (nX H') kvs q->Bfs.QI (bt ws (bW m x g)) x q i B->q.length<=24012->(i=q.length\/g∈q.map (·.1))->Q (.ref f) H'
abbrev lX:Stmt:=stq 50
theorem sr:FnScope ["house","place","goal","greatest","counts","found","row","looked","here","count","way","there"] ["house","place","goal"] (aI lX):=⟨rfl,rfl,rfl,by decide +kernel,rfl,by decide +kernel,by decide +kernel⟩
theorem BE{P:Program}{w:World}{K:DS}{mg:Str->Option Value}{base:Heap}(D:Dfn K mg "found_from" lX ["house","place","goal"])(T:Blt mg)(C_is_open:Cal P w K mg base "is_open" 1 ["way","place"] (m3 K))(C_led_to:Cal P w K mg base "led_to" 2 ["way","place"] (nZ K))(C_counts_by_room:Cal P w K mg base "counts_by_room" 1 ["house"] (wg K))(C_greatest_met:Cal P w K mg base "greatest_met" 1 ["house","place","goal"] (tF K)):Cal P w K mg base "found_from" 3 ["house","place","goal"] (vH K):=by
 have nd:=(sr).nd
 refine D.ok sr (fun vs H Q E h=>?_) (fun X hX H vs Q E h=>?_)
 ·obtain⟨v,m,ws,pa,ga,x,g,rfl,_⟩:=h;rfl
 ·obtain⟨f,cdv,A,outer,s,H0,E0,rfl,hr⟩:=hX
  obtain⟨v,m,ws,pa,ga,x,g,rfl,hv,ok,hx,hg,ix,ig,q⟩:=h
  have m1:=ok.m1
  have m2:=ok.m12
  have hfew:=ok.few
  have hT:=Bz (m:=m) (x:=x) (g:=g) (by omega) m2 ix.2.2.2 ig.2.2.2
  have hxT:=(Dn (m:=m) (x:=x) (g:=g) (by omega)).1
  refine⟨_,(aj (aG (i:=3) nd rfl (Or.inl rfl) (aH C_greatest_met hr (aa (pv 0) (aa (pv 1) (aa (pv 2) ae)))))
    (aj (aG (i:=4) nd rfl (Or.inl rfl) (aH C_counts_by_room hr (aa (pv 0) ae)))
    (aj (aG (i:=5) nd rfl (Or.inl rfl) (p7 (eI hr) (pv 1) gB))
    (aj (aG (i:=6) nd rfl (Or.inl rfl) (bJ (aa (pv 1) ae)))
    (aj (aG (i:=7) nd rfl (Or.inl rfl) af)
    (aj (gq PassesOwn.never (PW.pt (gm (aT fM (pv 7) (bc (cH K) rfl T.len_ PySem.boot_len (aa (pv 6) ae)) (aP _)) (gR (j9 (kO (eI hr) (pv 2) (pv 5)) (by with_unfolding_all rfl))))) (aj (aG (i:=8) nd rfl (Or.inl rfl) (ai (aS K) (pv 6) (pv 7) (fun _ _=>rfl)))
    (aj (jv (i:=7) nd rfl (Or.inl rfl) af oA)
    (av (cj PassesOwn.never rfl (cz K (ai (aS K) (pv 4) (ai (aB K) (pv 8) af (fun _ _=>rfl)) (fun _ _=>rfl))) (aO (i:=9) nd rfl (Or.inl rfl)) (aj (aG (i:=10) nd rfl (Or.inl rfl) (ai (aB K) (ai (aB K) (pv 0) af (fun _ _=>rfl)) (pv 9) (fun _ _=>rfl)))
    (aj (aG (i:=11) nd rfl (Or.inl rfl) (aH C_led_to hr (aa (pv 10) (aa (pv 8) ae))))
    (av (cO (PW.pt (gm (b9 (aH C_is_open hr (aa (pv 10) (aa (pv 8) ae)))) (gm (aT i9 (ai (aB K) (pv 11) af (fun _ _=>rfl)) (pv 3) (aP _)) (gR (j9 (kO (eI hr) (pv 11) (pv 5)) (by with_unfolding_all rfl)))))) (aj (vD (eI hr) (pv 5) (pv 11) (aM (aa (pv 8) (aa (pv 9) ae))) rfl)
    (av (bh (bE K Ed Er Es bQ (pv 6) (aa (pv 11) ae))))) bf)))))))))
    (av (aF (pv 5))))))))),?_⟩
  walk_at "rd"
  refine⟨v,m,ws,pa,ga,x,g,rfl,hv,ok,hx,hg,?_⟩
  generalize bW m x g=T at q hT hxT ⊢
  walk_at "rd"
  refine⟨v,m,ws,rfl,hv,ok,fun c ls H1 e1 ct=>?_⟩
  walk_at "rd"
  refine fun f hfn=>?_
  walk_at "rd"
  refine⟨pa,aX x,rfl,(bw hfn) _ _ (e1 _ _ hx),aL,?_⟩
  walk_at "rd"
  refine⟨ao (by simp),aq fun rw H3 e3 hrw hrn=>?_⟩
  walk_at "rd"
  have e13:Ext H1 (upd (upd H1 f (.dT [])) f (.dT [(aX x,.non)])):=fun b o hb=>by
   rw[az (bO hb hfn),az (bO hb hfn)];exact hb
  have hrn1:H1 rw=none:=e13.none hrn
  have hf3:H3 f=some (.dT [(aX x,.non)]):=e3 _ _ aL
  have ff0:FF H1 H3 f rw [(x,0,none)]:=⟨e13.trans e3,hfn,hrn1,⟨_,hf3,.cons ⟨rfl,rfl⟩ .nil⟩,[pa],hrw,.cons (e3 _ _ (e13 _ _ (e1 _ _ hx))) .nil⟩
  refine f6 (o8 H1 ws m T x v pa ga c f rw) (AM H1 ws T x g v pa ga c f rw) 24013 ⟨[(x,0,none)],0,0,_,_,_,_,rfl,ff0,Bfs.QI.begin _ _,?_,by simp,rfl⟩ ?_ ?_
  ·intro e he
   rw[Eg]at he
   subst he
   exact⟨ix.1,ix.2.1,ix.2.2.1,hxT⟩
  ·clear ff0 hf3 hrn1 e13 hrw hrn e3
   rintro M σ H4 ⟨qq,i,B,k1,k2,k3,k4,rfl,ff,qi,hin,hi,hM⟩
   have hqn:qq.length<=24012:=by
    have:=bI.few m2 hT qi.nd (fun y hy=>by
     obtain⟨e,he,rfl⟩:=List.mem_map.mp hy
     exact hin e he)
    rwa [DW]at this
   obtain⟨kvs,hd,pk⟩:=ff.d
   obtain⟨as,hr,pr⟩:=ff.r
   have hal:=Paired.length pr
   have hg4:ax H4 ga g:=ff.ext _ _ (e1 _ _ hg)
   walk_at "rd"
   refine dI (ag.of hr) ?_
   walk_at "rd"
   by_cases hlt:i<qq.length
   rotate_left
   ·rw[decide_eq_false (show ¬((i:Nat):Int)<((List.map V.ref as).length:Nat) by rw[DW,hal];omega)]
    refine aw ?_
    refine aw ?_
    exact⟨qq,i,B,_,_,_,_,_,rfl,ff,qi,hqn,.inl (by omega)⟩
   ·rw[decide_eq_true (show((i:Nat):Int)<((List.map V.ref as).length:Nat) by rw[DW,hal];omega)]
    refine aC ?_
    walk_at "rd"
    refine⟨f,_,rfl,cN.t hd (k:=aX g) hg4,?_⟩
    by_cases hgk:g∈qq.map (·.1)
    ·obtain⟨e,he,rfl⟩:=List.mem_map.mp hgk
     obtain⟨v1,hv1,_⟩:=gZ (fun _ _ z=>z.1) pk qi.nd he
     rw[hv1]
     refine rd_exb (aw ?_)
     exact⟨qq,i,B,_,_,_,_,_,rfl,ff,qi,hqn,.inr hgk⟩
    ·rw[iB (fun _ _ z=>z.1) pk hgk]
     refine rd_exb (aC ?_)
     refine⟨fun σ' H'=>∃m',m'<M/\o8 H1 ws m T x v pa ga c f rw m' σ' H',fun _ _ h=>h,?_⟩
     have hqi:=DX hlt
     generalize qq[i]=hh at hqi
     obtain⟨b,hb,hbp⟩:=o4 pr hqi
     have qf:=qi.look hqi (cQ ws hh.1.1 ws.length)
     have hih:=hin hh (Ef hqi)
     obtain⟨hr0,hr1,hn0,hn1⟩:=hih
     clear qi hgk hg4 pr hal pk hd
     walk_at "rd"
     refine aQ (ag.of hr) (dX (v:=.ref b) (by rw[DY,hb];rfl)) ?_
     walk_at "rd"
     refine aA (ah.of hbp) (v:=.int hh.1.1) rfl ?_
     walk_at "rd"
     have ct4:=ct.ext ff.ext
     have hlr:hh.1.1.toNat<ls.length:=by rw[ct.len];omega
     have hlg:ls[hh.1.1.toNat]?=some ls[hh.1.1.toNat]:=DX hlr
     generalize ls[hh.1.1.toNat]=l at hlg
     have hll:=ct.it _ _ hlg
     rw[show ((hh.1.1.toNat:Nat):Int)=hh.1.1 by omega]at hll
     refine aQ (ag.of ct4.at_) (v:=.ref l) (dO hr0 (by rw[DY,hlg];rfl)) ?_
     refine cw (ag.of (ff.ext _ _ hll)) ?_
     obtain⟨hp,ht,rfl,g1,g2⟩:=hv.ext e1
     obtain⟨bs,g3,al⟩:=cb.al g2
     refine forL (xs:=bK (cQ ws hh.1.1 ws.length)) (Bm H1 ws m T x (.ref hp) pa ga c f rw b (i+1) hh (cQ ws hh.1.1 ws.length)) ?_ (fun j σ H' _ h=>?_) ?_ ?_
     ·exact⟨qq,k2,k3,k4,rfl,ff,qf,hin,hbp⟩
     ·obtain⟨_,_,_,_,_,ff',_⟩:=h
      exact ag.of (ff'.ext _ _ hll)
     ·clear qf ff hbp hr hqi hlt hqn hin
      rintro j u σ H5 hu ⟨q5,c1,c2,c3,rfl,ff,qf,hin,hbp⟩
      rw[DY]at hu
      obtain⟨k,hk,rfl⟩:=Eh.mp hu
      obtain⟨w,hw,hroom⟩:=zX (Ef hk)
      have okw:=ok.ok w (Ef hw)
      have hkb:k<bs.length:=by rw[al.1];exact(Ee.mp hw).1
      have hbk:=DX hkb
      generalize bs[k]=bk at hbk
      have hwt:=al.2 k bk w hbk hw
      have hqn:q5.length<=24012:=by
       have:=bI.few m2 hT qf.nd (fun y hy=>by
        obtain⟨e,he,rfl⟩:=List.mem_map.mp hy
        exact hin e he)
       rwa [DW]at this
      walk_at "rd"
      refine aA (ah.of (ff.ext _ _ g1)) (v:=.ref ht) rfl ?_
      walk_at "rd"
      refine aA (ah.of (ff.ext _ _ g3)) (v:=.ref bk) (dX (by rw[DY,hbk];rfl)) ?_
      walk_at "rd"
      refine⟨bk,w,b,hh.1,rfl,ff.ext _ _ hwt,okw.dd,hbp,fun th H6 e6 hth hthn=>?_⟩
      have ff6:=ff.step e6
      have hb6:ax H6 b hh.1:=e6 _ _ hbp
      clear ff hbp
      walk_at "rd"
      refine b7 ?_
      walk_at "rd"
      refine⟨bk,w,b,hh.1,rfl,ff6.ext _ _ hwt,hb6,?_⟩
      refine rd_exb ?_
      cases ho:bY w hh.1.1 hh.1.2 with
      | false=>
       refine aw ?_
       refine aw ?_
       walk_at "rd"
       exact⟨q5,_,_,_,rfl,ff6,qf.skip hk (fun y hy=>by rw[(sU hw okw.dd hy).1]at ho;cases ho),hin,hb6⟩
      | true=>
       refine aC ?_
       walk_at "rd"
       refine aA (ah.of hth) (v:=.int (hh.1.2+rz w.deed)) rfl ?_
       walk_at "rd"
       by_cases hle:hh.1.2+rz w.deed<=T
       rotate_left
       ·rw[decide_eq_false hle]
        refine aw ?_
        refine aw ?_
        walk_at "rd"
        exact⟨q5,_,_,_,rfl,ff6,qf.skip hk (fun y hy=>absurd (sU hw okw.dd hy).2.2 hle),hin,hb6⟩
       ·rw[decide_eq_true hle]
        refine aC ?_
        walk_at "rd"
        have hy:=yz (T:=T) hw okw.dd ho hle
        obtain⟨kvs,hd,pk⟩:=ff6.d
        refine⟨f,_,rfl,cN.t hd (k:=aX (w.other,hh.1.2+rz w.deed)) hth,?_⟩
        by_cases hnew:(w.other,hh.1.2+rz w.deed)∈q5.map (·.1)
        ·obtain⟨e,he,hee⟩:=List.mem_map.mp hnew
         obtain⟨v1,hv1,_⟩:=gZ (fun _ _ z=>z.1) pk qf.nd he
         rw[hee]at hv1
         rw[hv1]
         refine rd_exb (aw ?_)
         walk_at "rd"
         exact⟨q5,_,_,_,rfl,ff6,qf.skip hk (fun y hy'=>by rw[hy]at hy';cases hy';exact hnew),hin,hb6⟩
        ·rw[iB (fun _ _ z=>z.1) pk hnew]
         refine rd_exb (aC ?_)
         clear pk hd
         walk_at "rd"
         refine⟨ao (by simp),aq fun t H7 e7 ht7 _=>?_⟩
         walk_at "rd"
         obtain⟨kvs,hd,hkl,as,hr7,hal,ff8⟩:=(ff6.step e7).push (d:=hh.2.1+1) hnew (e7 _ _ hth) (e7 _ _ hb6) ht7
         have hb8:=ax.put (o':=.lst (List.map V.ref as++[.ref th])) hr7 (fun xs z=>by cases z) (ax.put (o':=.dT (putK kvs (aX (w.other,hh.1.2+rz w.deed)) (.ref t))) hd (fun xs z=>by cases z) (e7 _ _ hb6))
         refine⟨f,_,rfl,gw.t hd (k:=aX (w.other,hh.1.2+rz w.deed)) (e7 _ _ hth) (cA (by omega)),?_⟩
         walk_at "rd"
         refine⟨bP (ag.of hr7),?_⟩
         walk_at "rd"
         refine bN hr7 (cA (by rw[DW];omega)) ?_
         refine⟨_,_,_,_,rfl,ff8,qf.add hk hy hnew,?_,hb8⟩
         intro e he
         rcases Ew.mp he with z | z
         ·exact hin e z
         ·rw[Eg]at z
          subst z
          exact zO ok hn0 hy
     ·rintro σ H5 ⟨q5,c1,c2,c3,rfl,ff5,qf5,hin5,hbp5⟩
      rw[DW]at qf5
      refine⟨M-1,by omega,q5,i+1,hh.2.1,_,_,_,_,rfl,ff5,qf5.next (fun k y hy=>?_),hin5,?_,by omega⟩
      ·obtain⟨w,hw,hr,_⟩:=hV hy
       exact yb hw hr
      ·have:=(Ee.mp qf5.at_).1
       omega
  ·rintro σ H4 ⟨qq,i,B,k0,k1,k2,k3,k4,rfl,ff,qi,hqn,hend⟩
   obtain⟨kvs,hd,pk⟩:=ff.d
   walk_at "rd"
   exact q f H4 kvs qq i B (e1.trans ff.ext) hd pk qi hqn hend
def sG(K:DS):Sp:=fun vs H Q _=>∃(f ga:Addr) (kvs:List (List Key×V)) (q:List Bfs.Ent) (nx:Bfs.Pl->Nat->Option Bfs.Pl) (s:Bfs.Pl) (i B:Nat) (e:Bfs.Ent),vs=[.ref f,.ref ga]/\H f=some (.dT kvs)/\Paired (nX H) kvs q/\Bfs.QI nx s q i B/\ax H ga e.1/\e∈q/\e.2.1<=24012 ∧
 ∀l H' ks,Ext H H'->H' l=some (.lst (bK ks))->H l=none->ks.length=e.2.1->Bfs.gone (nx:=nx) s ks=some e.1->Q (.ref l) H'
def wz(H:Hp)(f ga l:Addr)(q:List Bfs.Ent)(nx:Bfs.Pl->Nat->Option Bfs.Pl)(e:Bfs.Ent)(M:Nat)(σ:St)(H':Hp):Prop:=
 ∃v u ks,σ=[some (.ref f),some (.ref ga),some (.ref l),some v]/\Ext H H'/\H' l=some (.lst (bK ks))/\u∈q/\fE H' v u.2.2/\u.2.1=M/\ks.length+M=e.2.1/\Bfs.gone (nx:=nx) u.1 ks.reverse=some e.1
abbrev lL:Stmt:=stq 51
theorem vJ:FnScope ["found","goal","walk","step"] ["found","goal"] (aI lL):=⟨rfl,rfl,rfl,by decide +kernel,rfl,by decide +kernel,by decide +kernel⟩
theorem xu{P:Program}{w:World}{K:DS}{mg:Str->Option Value}{base:Heap}(D:Dfn K mg "walk_back" lL ["found","goal"])(T:Blt mg):Cal P w K mg base "walk_back" 1 ["found","goal"] (sG K):=by
 have nd:=(vJ).nd
 refine D.ok vJ (fun vs H Q E h=>?_) (fun X hX H vs Q E h=>?_)
 ·obtain⟨f,ga,kvs,q,nx,s,i,B,e,rfl,_⟩:=h;rfl
 ·obtain⟨f,cdv,A,outer,s,H0,E0,rfl,hr⟩:=hX
  obtain⟨f,ga,kvs,q,nx,s,i,B,e,rfl,hf,pk,qi,hg,he,hle,qq⟩:=h
  refine⟨_,(aj (aG (i:=2) nd rfl (Or.inl rfl) (bJ ae))
    (aj (aG (i:=3) nd rfl (Or.inl rfl) (vY (eI hr) (pv 0) (pv 1) (fun _ _=>rfl)))
    (aj (gq PassesOwn.never (aT yk (pv 3) gB (aP _)) (aj (bh (bE K Ed Er Es bQ (pv 2) (aa (ai (aB K) (pv 3) af (fun _ _=>rfl)) ae)))
    (av (aG (i:=3) nd rfl (Or.inl rfl) (vY (eI hr) (pv 0) (ai (aB K) (pv 3) af (fun _ _=>rfl)) (fun _ _=>rfl))))))
    (av (aF (yC K rfl rfl T.list_ rfl T.reversed_ (pv 2))))))),?_⟩
  walk_at "rd"
  refine⟨ao (by simp),aq fun l H1 e1 hl hln=>?_⟩
  walk_at "rd"
  obtain⟨v0,hv0,_,hp0⟩:=gZ (fun _ _ z=>z.1) pk qi.nd he
  refine⟨f,v0,rfl,by rw[←hv0];exact cN.t (e1 _ _ hf) (k:=aX e.1) (e1 _ _ hg),?_⟩
  walk_at "rd"
  refine f6 (wz H f ga l q nx e) (fun σ H'=>∃v ks,σ=[some (.ref f),some (.ref ga),some (.ref l),some v]/\Ext H H'/\H' l=some (.lst (bK ks))/\ks.length=e.2.1/\Bfs.gone (nx:=nx) s ks.reverse=some e.1) e.2.1 ⟨v0,e,[],rfl,e1,hl,he,hp0.ext e1,rfl,by simp,rfl⟩ ?_ ?_
  ·rintro M σ H4 ⟨v,u,ks,rfl,e4,hl4,hu,hvp,hM,hks,hgo⟩
   walk_at "rd"
   rcases qi.par u hu with⟨p1,p2,p3⟩ | ⟨p,k,d,o,p1,p2,p3,p4⟩
   ·rw[p1]at hvp
    obtain rfl:v=.non:=hvp
    refine⟨rfl,?_⟩
    refine rd_exb (aw ?_)
    exact⟨_,ks,rfl,e4,hl4,by omega,by rw[←p2];exact hgo⟩
   ·rw[p1]at hvp
    obtain⟨a,b,rfl,ha,hb⟩:=hvp
    refine⟨rfl,?_⟩
    rw[decide_eq_false (show ¬(V.ref a=V.non) by intro z;cases z)]
    refine rd_exb (aC ?_)
    refine⟨fun σ' H'=>∃m',m'<M/\wz H f ga l q nx e m' σ' H',fun _ _ h=>h,?_⟩
    walk_at "rd"
    refine⟨bP (ag.of hl4),?_⟩
    walk_at "rd"
    refine aA (ah.of ha) (v:=.int (k:Int)) rfl ?_
    walk_at "rd"
    refine bN hl4 (cA (by rw[DW];omega)) ?_
    walk_at "rd"
    have nl:∀xs,(HO.lst (bK ks))≠.tup xs:=fun xs z=>by cases z
    have ha5:upd H4 l (.lst (bK ks++[.int (k:Int)])) a=some (.tup [.ref b,.int (k:Int)]):=by
     rw[az (cL ha hl4 (by intro z;cases z))];exact ha
    have hb5:=ax.put (o':=.lst (bK ks++[.int (k:Int)])) hl4 nl hb
    refine aA (ah.of ha5) (v:=.ref b) rfl ?_
    obtain⟨v1,hv1,_,hp1⟩:=gZ (fun _ _ z=>z.1) pk qi.nd p4
    have hf5:upd H4 l (.lst (bK ks++[.int (k:Int)])) f=some (.dT kvs):=by
     rw[az (cL (e4 _ _ hf) hl4 (by intro z;cases z))];exact e4 _ _ hf
    have eH:Ext H (upd H4 l (.lst (bK ks++[.int (k:Int)]))):=cB e4 hln
    refine⟨f,v1,rfl,by rw[←hv1];exact cN.t hf5 (k:=aX p) hb5,?_⟩
    walk_at "rd"
    refine⟨d,by omega,v1,(p,d,o),ks++[k],rfl,eH,by rw[aL,wq],p4,hp1.ext eH,rfl,by rw[En];simp;omega,?_⟩
    rw[List.reverse_append]
    show(nx p k).bind _=_
    rw[p2]
    exact hgo
  ·rintro σ H4 ⟨v,ks,rfl,e4,hl4,hks,hgo⟩
   walk_at "rd"
   refine Ak (ag.of hl4) (aq fun r H5 e5 hr hrn=>?_)
   refine qq r H5 ks.reverse (e4.trans e5) ?_ (e4.none hrn) (by rw[List.length_reverse];exact hks) hgo
   rw[hr,←List.map_reverse]
def uG(K:DS):Sp:=fun vs H Q _=>∃v m ws pa ga x g,vs=[v,.ref pa,.ref ga]/\aU H v m ws/\HOuse m ws/\ax H pa x/\ax H ga g/\cn m x/\cn m g ∧
 ((∀n,¬Bfs.eP (bt ws (bW m x g)) x n g)->∀H',Ext H H'->Q .non H')/\∀n l H' ks,Bfs.eP (bt ws (bW m x g)) x n g->n<=24012->Ext H H'->H l=none->H' l=some (.lst (bK ks))->ks.length=n->Bfs.gone (nx:=bt ws (bW m x g)) x ks=some g->Q (.ref l) H'
abbrev lR:Stmt:=stq 52
theorem wI:FnScope ["house","place","goal","found"] ["house","place","goal"] (aI lR):=⟨rfl,rfl,rfl,by decide +kernel,rfl,by decide +kernel,by decide +kernel⟩
theorem zx{P:Program}{w:World}{K:DS}{mg:Str->Option Value}{base:Heap}(D:Dfn K mg "sought_walk" lR ["house","place","goal"])(T:Blt mg)(C_walk_back:Cal P w K mg base "walk_back" 1 ["found","goal"] (sG K))(C_found_from:Cal P w K mg base "found_from" 3 ["house","place","goal"] (vH K)):Cal P w K mg base "sought_walk" 4 ["house","place","goal"] (uG K):=by
 have nd:=(wI).nd
 refine D.ok wI (fun vs H Q E h=>?_) (fun X hX H vs Q E h=>?_)
 ·obtain⟨v,m,ws,pa,ga,x,g,rfl,_⟩:=h;rfl
 ·obtain⟨f,cdv,A,outer,s,H0,E0,rfl,hr⟩:=hX
  obtain⟨v,m,ws,pa,ga,x,g,rfl,hv,ok,hx,hg,ix,ig,qn,qy⟩:=h
  refine⟨_,(aj (aG (i:=3) nd rfl (Or.inl rfl) (aH C_found_from hr (aa (pv 0) (aa (pv 1) (aa (pv 2) ae)))))
    (aj (bU (j9 (kO (eI hr) (pv 2) (pv 3)) (by with_unfolding_all rfl)) (av (aF gB)) bf)
    (av (aF (aH C_walk_back hr (aa (pv 3) (aa (pv 2) ae))))))),?_⟩
  walk_at "rd"
  refine⟨v,m,ws,pa,ga,x,g,rfl,hv,ok,hx,hg,ix,ig,fun f H1 kvs q i B e1 hf pk qi hql hend=>?_⟩
  generalize bW m x g=T at qn qy qi
  walk_at "rd"
  refine⟨f,_,rfl,cN.t hf (k:=aX g) (e1 _ _ hg),?_⟩
  by_cases hgk:g∈q.map (·.1)
  ·obtain⟨e,he,rfl⟩:=List.mem_map.mp hgk
   obtain⟨v1,hv1,_⟩:=gZ (fun _ _ z=>z.1) pk qi.nd he
   rw[hv1]
   refine rd_exb (aw ?_)
   walk_at "rd"
   have hd:=qi.dist he
   have hlv:e.2.1<=24012:=EE (qi.deep he) hql
   refine⟨f,ga,kvs,q,bt ws T,x,i,B,e,rfl,hf,pk,qi,e1 _ _ hg,he,hlv,fun l H2 ks e2 hl hln hks hgo=>?_⟩
   exact qy _ l H2 ks hd hlv (e1.trans e2) (e1.none hln) hl hks hgo
  ·rw[iB (fun _ _ z=>z.1) pk hgk]
   refine rd_exb (aC ?_)
   walk_at "rd"
   refine qn (fun n=>?_) H1 e1
   rcases hend with h | h
   ·subst h
    exact qi.done hgk n
   ·exact absurd h hgk
def vS(K:DS):Sp:=fun vs H Q _=>∃v m ws pa ga x g,vs=[v,.ref pa,.ref ga]/\aU H v m ws/\HOuse m ws/\ax H pa x/\ax H ga g/\cn m x/\cn m g ∧
 ((∀n,¬Bfs.eP (bt ws (bW m x g)) x n g)->∀H',Ext H H'->Q .non H')/\∀n l H' ks,Bfs.eP (bt ws (bW m x g)) x n g->n<=24012->Ext H H'->H l=none->H' l=some (.lst (bK ks))->ks.length=n->Bfs.gone (nx:=bt ws (bW m x g)) x ks=some g->Q (.ref l) H'
abbrev lZ:Stmt:=stq 53
theorem vm:FnScope ["house","place","goal"] ["house","place","goal"] (aI lZ):=⟨rfl,rfl,rfl,by decide +kernel,rfl,by decide +kernel,by decide +kernel⟩
theorem zr{P:Program}{w:World}{K:DS}{mg:Str->Option Value}{base:Heap}(D:Dfn K mg "shortest" lZ ["house","place","goal"])(T:Blt mg)(C_sought_walk:Cal P w K mg base "sought_walk" 4 ["house","place","goal"] (uG K))(C_refuse_bad_places:Cal P w K mg base "refuse_bad_places" 3 ["house","places"] (oU K))(C_refuse_no_house:Cal P w K mg base "refuse_no_house" 6 ["thing"] (hZ K)):Cal P w K mg base "shortest" 7 ["house","place","goal"] (vS K):=by
 have nd:=(vm).nd
 refine D.ok vm (fun vs H Q E h=>?_) (fun X hX H vs Q E h=>?_)
 ·obtain⟨v,m,ws,pa,ga,x,g,rfl,_⟩:=h;rfl
 ·obtain⟨f,cdv,A,outer,s,H0,E0,rfl,hr⟩:=hX
  obtain⟨v,m,ws,pa,ga,x,g,rfl,hv,ok,hx,hg,ix,ig,qn,qy⟩:=h
  refine⟨_,(aj (bh (aH C_refuse_no_house hr (aa (pv 0) ae)))
    (aj (bh (aH C_refuse_bad_places hr (aa (pv 0) (aa (bJ (aa (pv 1) (aa (pv 2) ae))) ae))))
    (av (aF (aH C_sought_walk hr (aa (pv 0) (aa (pv 1) (aa (pv 2) ae)))))))),?_⟩
  walk_at "rd"
  refine⟨v,m,ws,rfl,hv,ok,fun H1 e1=>?_⟩
  walk_at "rd"
  refine⟨ao (by simp),aq fun l H2 e2 hl _=>?_⟩
  walk_at "rd"
  have e12:=e1.trans e2
  obtain⟨hh,t,rfl,g1,g2⟩:=hv.ext e12
  refine⟨hh,_,m,l,[pa,ga],[x,g],rfl,g1,hl,.cons (e12 _ _ hx) (.cons (e12 _ _ hg) .nil),?_,?_⟩
  ·intro y hy
   rcases Ek.mp hy with rfl | hy
   ·exact ix
   ·rw[Eg]at hy
    subst hy
    exact ig
  walk_at "rd"
  exact⟨_,m,ws,pa,ga,x,g,rfl,⟨hh,t,rfl,g1,g2⟩,ok,e12 _ _ hx,e12 _ _ hg,ix,ig,fun h H' e=>qn h H' (e12.trans e),fun n l H' ks hd hn e hln hl hks hgo=>qy n l H' ks hd hn (e12.trans e) (e12.none hln) hl hks hgo⟩
def aN(n:Nat)(f:Nat->Bool):List V:=(List.range n).map fun i=>V.bl (f i)
theorem cx(n:Nat)(f:Nat->Bool):(aN n f).length=n:=by simp[aN]
theorem fm{n i:Nat}(f:Nat->Bool)(h:i<n):(aN n f)[i]?=some (.bl (f i)):=by
 unfold aN
 rw[DY,List.getElem?_range h]
 rfl
theorem dN{n:Nat}{f g:Nat->Bool}(h:∀i,i<n->f i=g i):aN n f=aN n g:=by
 unfold aN
 apply List.map_congr_left
 intro i hi
 rw[h i (List.mem_range.mp hi)]
theorem jb(n:Nat)(f:Nat->Bool):aN (n+1) f=aN n f++[V.bl (f n)]:=by
 unfold aN
 rw[List.range_succ,Em]
 rfl
theorem mI{n k:Nat}(f:Nat->Bool)(c:Bool)(hk:k<n):(aN n f).set k (.bl c)=aN n fun i=>if i=k then c else f i:=by
 apply List.ext_getElem?
 intro i
 rcases Nat.lt_or_ge i n with hi | hi
 ·rw[List.getElem?_set,cx,fm _ hi,fm _ hi]
  by_cases h:k=i
  ·subst h
   simp[hi]
  ·rw[if_neg h,if_neg (Ne.symm h)]
 ·rw[List.getElem?_eq_none (by rw[List.length_set,cx];exact hi),List.getElem?_eq_none (by rw[cx];exact hi)]
theorem dj{n:Nat}{f:Nat->Bool}{i:Int}(h0:0<=i)(h:i<n):bA (aN n f) i=some (.bl (f i.toNat)):=dO h0 (fm f (by omega))
theorem rM(n:Nat)(c:Bool):(List.replicate n [V.bl c]).flatten=aN n fun _=>c:=by
 induction n with
 | zero=>rfl
 | succ n ih=>
  rw[List.replicate_succ',List.flatten_append,ih,jb]
  rfl
theorem AA{n:Nat}{f:Nat->Bool}{i:Int}(h0:0<=i)(h:i<=n):dU (aN n f) none (some i)=aN i.toNat f:=by
 unfold dU
 rw[cx,HT.ux]
 have e:HT.b6 n n (some i)=i.toNat:=by
  show(if i<0 then(i+(n:Int)).toNat else min i.toNat n)=i.toNat
  rw[if_neg (by omega)]
  omega
 rw[e,List.drop_zero,Nat.sub_zero]
 apply List.ext_getElem?
 intro k
 rcases Nat.lt_or_ge k i.toNat with hk | hk
 ·rw[List.getElem?_take_of_lt hk,fm _ (by omega),fm _ hk]
 ·rw[List.getElem?_eq_none (by rw[List.length_take,cx];omega),List.getElem?_eq_none (by rw[cx];omega)]
def Rows(H:Hp)(q:Addr)(rs:List Addr)(n:Nat)(M:Nat->Nat->Bool):Prop:=H q=some (.lst (rs.map V.ref))/\∀(i:Nat) (r:Addr),rs[i]?=some r->H r=some (.lst (aN n (M i)))
theorem Rows.ext{H H':Hp}(e:Ext H H'){q:Addr}{rs:List Addr}{n:Nat}{M:Nat->Nat->Bool}(h:Rows H q rs n M):Rows H' q rs n M:=⟨e _ _ h.1,fun i r hi=>e _ _ (h.2 i r hi)⟩
def jC(K:DS):Sp:=fun vs H Q _=>∃vh m ws d,vs=[vh,.str d]/\aU H vh m ws/\HOuse m ws/\∀l cs us H',Ext H H'->H l=none->H' l=some (.lst (List.map V.ref cs))->aE H' cs us->us=ws.filter (fun w=>decide (w.deed=d))->Q (.ref l) H'
abbrev kg:Stmt:=stq 30
theorem wW:FnScope ["house","deed"] ["house","deed"] (aI kg):=⟨rfl,rfl,rfl,by decide +kernel,rfl,by decide +kernel,by decide +kernel⟩
theorem CY{P:Program}{w:World}{K:DS}{mg:Str->Option Value}{base:Heap}(D:Dfn K mg "ways_of_deed" kg ["house","deed"])(T:Blt mg):Cal P w K mg base "ways_of_deed" 1 ["house","deed"] (jC K):=by
 have nd:=(wW).nd
 refine D.ok wW (fun vs H Q E h=>?_) (fun X hX H vs Q E h=>?_)
 ·obtain⟨vh,m,ws,d,rfl,_⟩:=h;rfl
 ·obtain⟨f,cdv,A,outer,s,H0,E0,rfl,hr⟩:=hX
  obtain⟨vh,m,ws,d,rfl,hv,ok,q⟩:=h
  have few:=ok.few
  obtain⟨hp0,hq0,rfl,hh,hw⟩:=id hv
  obtain⟨bs,hq,hal⟩:=cb.al hw
  have hbl:=hal.1
  refine⟨_,(@av _ _ _ (@aF _ _ _ _ (di ["way"] [1] (kJ K (@ai _ _ _ _ _ _ _ (aB K) (pv 0) af (fun _ _=>rfl))) (fun _=>(aO (i:=0) (show(["way","deed"]:List Str).Nodup from by decide +kernel) rfl (Or.inl rfl) (Or.inr rfl))) (fun _=>(fh (aT bL (@ai _ _ _ _ _ _ _ (aB K) (pv 0) af (fun _ _=>rfl)) (pv 1) (aP _)))) (fun _=>(pv 0))))),?_⟩
  walk_at "rd"
  refine aA (ah.of hh) (v:=.ref hq0) rfl ?_
  walk_at "rd"
  refine kZ (ah.of hq) ?_
  refine mR (xs:=bs.map V.ref) (fun i ys H'=>H'=H/\∃cs us,ys=List.map V.ref cs/\aE H cs us/\us=(ws.take i).filter fun w=>decide (w.deed=d)) (ao (by rw[DW];omega)) ⟨rfl,[],[],rfl,aE.nil _,rfl⟩ ?_ ?_ ?_
  ·rintro i ys H' _ ⟨rfl,cs,us,rfl,hau,rfl⟩
   refine⟨ah.of hq,?_⟩
   rw[DW,hau.1]
   exact EE (List.length_filter_le _ _) (by rw[List.length_take];omega)
  ·rintro i v ys H' hx ⟨rfl,cs,us,rfl,hau,hus⟩
   rw[DY]at hx
   obtain⟨b,hb,rfl⟩:=Eh.mp hx
   have hiw:i<ws.length:=by
    have:=(Ee.mp hb).1
    omega
   have hwi:ws[i]?=some ws[i]:=DX hiw
   have hbw:=hal.2 i b _ hb hwi
   generalize ws[i]=w0 at hwi hbw
   walk_at "rd"
   refine aA (ah.of hbw) (v:=.str w0.deed) rfl ?_
   walk_at "rd"
   refine cg (rd_exb ?_)
   cases hc:decide (w0.deed=d)with
   | true=>
    refine aC ?_
    walk_at "rd"
    refine⟨rfl,cs++[b],us++[w0],?_,hau.snoc hbw,?_⟩
    ·rw[Em];rfl
    ·rw[hus,List.take_add_one,hwi,List.filter_append]
     congr 1
     show[w0]=List.filter _ [w0]
     rw[List.filter_cons,if_pos hc]
     rfl
   | false=>
    refine aw ⟨rfl,cs,us,rfl,hau,?_⟩
    rw[hus,List.take_add_one,hwi,List.filter_append]
    have:List.filter (fun w:Way=>decide (w.deed=d)) [w0]=[]:=by
     rw[List.filter_cons,if_neg (by rw[hc];exact El)]
     rfl
    show _=_++List.filter _ [w0]
    rw[this,List.append_nil]
  ·rintro ys H' pc ⟨hH,cs,us,rfl,hau,hus⟩ hpc
   subst hH
   rw[DW,hbl,EB]at hus
   have e:=bw (o:=.lst (List.map V.ref cs)) hpc
   exact q pc cs us _ e hpc aL (hau.ext e) hus
theorem tW{x:Addr}:∀{l:List Addr} {i:Nat},l.Nodup->x∉l->(l.set i x).Nodup
 | [],_,_,_=>List.nodup_nil
 | a::l,0,h,hx=>by
  rw[List.nodup_cons]at h
  exact List.nodup_cons.mpr ⟨fun z=>hx (DZ _ z),h.2⟩
 | a::l,i+1,h,hx=>by
  rw[List.nodup_cons]at h
  refine List.nodup_cons.mpr ⟨fun z=>?_,tW h.2 fun z=>hx (DZ _ z)⟩
  rcases List.mem_or_eq_of_mem_set z with z | z
  ·exact h.1 z
  ·exact hx (by rw[z];exact Ec)
structure TB(H H':Hp)(q:Addr)(rs rs':List Addr)(n:Nat)(M:Nat->Nat->Bool):Prop where
 keep:∀b o,b≠q->H b=some o->H' b=some o
 len:rs'.length=n
 nd:rs'.Nodup
 nq:q∉rs'
 old:∀r∈rs',r∈rs\/H r=none
 rows:Rows H' q rs' n M
theorem TB.congr{H H':Hp}{q:Addr}{rs rs':List Addr}{n:Nat}{M M':Nat->Nat->Bool}(h:TB H H' q rs rs' n M)(e:∀i j,i<n->j<n->M i j=M' i j):TB H H' q rs rs' n M':=
 ⟨h.keep,h.len,h.nd,h.nq,h.old,h.rows.1,fun i r hi=>by
  rw[h.rows.2 i r hi]
  have hl:i<n:=by rw[←h.len];exact(Ee.mp hi).1
  congr 2
  exact dN fun j hj=>e i j hl hj⟩
theorem TB.set{H H1:Hp}{q p9:Addr}{rs rs1:List Addr}{n i:Nat}{M:Nat->Nat->Bool}{f:Nat->Bool}(h:TB H H1 q rs rs1 n M)(hi:i<n)(hp:H1 p9=none):TB H (upd (upd H1 p9 (.lst (aN n f))) q (.lst ((rs1.map V.ref).set i (.ref p9)))) q rs (rs1.set i p9) n (fun a b=>if a=i then f b else M a b):=by
 have hq:H1 q=some (.lst (rs1.map V.ref)):=h.rows.1
 have nqp:q≠p9:=fun z=>by rw[z,hp]at hq;cases hq
 have nin:p9∉rs1:=fun z=>by
  obtain⟨j,hj⟩:=List.getElem?_of_mem z
  rw[h.rows.2 j p9 hj]at hp
  cases hp
 refine⟨fun b o nb e=>?_,by rw[List.length_set];exact h.len,tW h.nd nin,fun z=>?_,fun r hr=>?_,?_,fun a r ha=>?_⟩
 ·have e1:=h.keep b o nb e
  rw[az nb,az (bO e1 hp)]
  exact e1
 ·rcases List.mem_or_eq_of_mem_set z with z | z
  ·exact h.nq z
  ·exact nqp z
 ·rcases List.mem_or_eq_of_mem_set hr with hr | rfl
  ·exact h.old r hr
  ·right
   cases e:H r with
   | none=>rfl
   | some o=>rw[h.keep r o (Ne.symm nqp) e]at hp;cases hp
 ·rw[aL,List.map_set]
 ·rw[List.getElem?_set]at ha
  by_cases hai:i=a
  ·subst hai
   rw[if_pos rfl,if_pos (by rw[h.len];exact hi)]at ha
   cases ha
   rw[az (Ne.symm nqp),aL]
   congr 2
   exact dN fun j _=>by dsimp only;rw[if_pos rfl]
  ·rw[if_neg hai]at ha
   have e:=h.rows.2 a r ha
   have nrq:r≠q:=fun z=>h.nq (z ▸ Ef ha)
   rw[az nrq,az (bO e hp),e]
   congr 2
   exact dN fun j _=>by dsimp only;rw[if_neg (Ne.symm hai)]
def jn(M:Nat->Nat->Bool)(k:Nat):Nat->Nat->Bool:=fun i j=>M i j || (M i k && M k j)
def bB(M:Nat->Nat->Bool):Nat->Nat->Nat->Bool
 | 0=>M
 | k+1=>jn (bB M k) k
structure Joined(n:Nat)(M M':Nat->Nat->Bool):Prop where
 le:∀i j,M i j=true->M' i j=true
 tr:∀i a j,a<n->M' i a=true->M' a j=true->M' i j=true
 least:∀S:Nat->Nat->Prop,(∀i a j,S i a->S a j->S i j)->(∀i j,M i j=true->S i j)->∀i j,M' i j=true->S i j
theorem q0(M:Nat->Nat->Bool):∀k,Joined k M (bB M k)
 | 0=>⟨fun _ _ h=>h,fun _ _ _ h=>absurd h (Nat.not_lt_zero _),fun _ _ h=>h⟩
 | k+1=>by
  have ih:=q0 M k
  have up:∀i j,bB M (k+1) i j=true↔(bB M k i j=true\/(bB M k i k=true/\bB M k k j=true)):=fun i j=>by
   show(bB M k i j || (bB M k i k && bB M k k j))=true↔_
   simp
  refine⟨fun i j h=>(up i j).mpr (.inl (ih.le i j h)),fun i a j ha h1 h2=>?_,fun S ht hm i j h=>?_⟩
  ·rw[up]at h1 h2 ⊢
   by_cases hak:a=k
   ·subst hak
    have x1:bB M a i a=true:=by rcases h1 with h | h;exact h;exact h.1
    have x2:bB M a a j=true:=by rcases h2 with h | h;exact h;exact h.2
    exact .inr ⟨x1,x2⟩
   ·have hlt:a<k:=by omega
    rcases h1 with h1 | ⟨h1,h1'⟩<;>rcases h2 with h2 | ⟨h2,h2'⟩
    ·exact .inl (ih.tr i a j hlt h1 h2)
    ·exact .inr ⟨ih.tr i a k hlt h1 h2,h2'⟩
    ·exact .inr ⟨h1,ih.tr k a j hlt h1' h2⟩
    ·exact .inr ⟨h1,h2'⟩
  ·rcases(up i j).mp h with h | ⟨h1,h2⟩
   ·exact ih.least S ht hm i j h
   ·exact ht i k j (ih.least S ht hm i k h1) (ih.least S ht hm k j h2)
def vR(K:DS):Sp:=fun vs H Q _=>∃q rs n M,vs=[.ref q]/\TB H H q rs rs n M/\n<=12/\∀rs' M' H',TB H H' q rs rs' n M'->Joined n M M'->Q .non H'
abbrev jJ:Stmt:=stq 33
theorem wb:FnScope ["table","many","middle","p"] ["table"] (aI jJ):=⟨rfl,rfl,rfl,by decide +kernel,rfl,by decide +kernel,by decide +kernel⟩
theorem yL{P:Program}{w:World}{K:DS}{mg:Str->Option Value}{base:Heap}(D:Dfn K mg "join_walks" jJ ["table"])(T:Blt mg):Cal P w K mg base "join_walks" 1 ["table"] (vR K):=by
 have nd:=(wb).nd
 refine D.ok wb (fun vs H Q E h=>?_) (fun X hX H vs Q E h=>?_)
 ·obtain⟨q,rs,n,M,rfl,_⟩:=h;rfl
 ·obtain⟨f,cdv,A,outer,s,H0,E0,rfl,hr⟩:=hX
  obtain⟨qt,rs,n,M,rfl,ht,hn,q⟩:=h
  refine⟨_,(@aj _ _ _ _ _ (@aG _ _ 1 _ _ _ _ nd rfl (Or.inl rfl) (bc (cH K) rfl T.len_ PySem.boot_len (@aa _ _ _ _ _ (pv 0) ae rfl)) rfl (Or.inl rfl))
    (@av _ _ _ (cj PassesOwn.never rfl (cX rfl T.range_ (@aa _ _ _ _ _ (pv 1) ae rfl)) (aO (i:=2) nd rfl (Or.inr rfl)) (@av _ _ _ (cj PassesOwn.never rfl (cX rfl T.range_ (@aa _ _ _ _ _ (pv 1) ae rfl)) (aO (i:=3) nd rfl (Or.inr rfl)) (@av _ _ _ (cO (b9 (@ai _ _ _ _ _ _ _ (aS K) (@ai _ _ _ _ _ _ _ (aS K) (pv 0) (pv 3) (fun _ _=>rfl)) (pv 2) (fun _ _=>rfl))) (@av _ _ _ (@gX _ _ _ _ _ _ (di ["q"] [0,3,2] (cX rfl T.range_ (@aa _ _ _ _ _ (pv 1) ae rfl)) (fun _=>(aO (i:=0) (show(["q","table","p","middle"]:List Str).Nodup from by decide +kernel) rfl (Or.inl rfl) (Or.inr rfl))) (fun _=>dY) (fun _=>(t9 (@ai _ _ _ _ _ _ _ (aS K) (@ai _ _ _ _ _ _ _ (aS K) (pv 1) (pv 2) (fun _ _=>rfl)) (pv 0) (fun _ _=>rfl)) (eB (@ai _ _ _ _ _ _ _ (aS K) (@ai _ _ _ _ _ _ _ (aS K) (pv 1) (pv 3) (fun _ _=>rfl)) (pv 0) (fun _ _=>rfl)))))) (iF (pv 0) (pv 3) set_list) rfl rfl rfl)) bf))))))),?_⟩
  walk_at "rd"
  refine dI (ag.of ht.rows.1) ?_
  rw[DW,ht.len]
  walk_at "rd"
  refine cR (by omega) ?_
  rw[Ei]
  refine forR (fun k σ H'=>∃rs1 k1 k2,TB H H' qt rs rs1 n (bB M k)/\σ=[some (.ref qt),some (.int (n:Nat)),k1,k2]) ⟨rs,_,_,ht,rfl⟩ ?_ ?_
  ·rintro k σ H1 hk ⟨rs1,k1,k2,tb,rfl⟩
   rw[show (0:Int)+(k:Int)=((k:Nat):Int) by omega]
   walk_at "rd"
   refine cR (by omega) ?_
   rw[Ei]
   refine forR (fun p σ H'=>∃rs2 k2,TB H H' qt rs rs2 n (fun i j=>if i<p then jn (bB M k) k i j else bB M k i j)/\σ=[some (.ref qt),some (.int (n:Nat)),some (.int (k:Nat)),k2]) ⟨rs1,_,tb,rfl⟩ ?_ ?_
   ·rintro p σ H2 hp ⟨rs2,k2,tb2,rfl⟩
    rw[show (0:Int)+(p:Int)=((p:Nat):Int) by omega]
    have hp2:p<rs2.length:=by rw[tb2.len];exact hp
    have hk2:k<rs2.length:=by rw[tb2.len];exact hk
    have gp:rs2[p]?=some rs2[p]:=DX hp2
    have gk:rs2[k]?=some rs2[k]:=DX hk2
    have rp:=tb2.rows.2 p _ gp
    have rk:=tb2.rows.2 k _ gk
    generalize rs2[p]=ap at gp rp
    generalize rs2[k]=ak at gk rk
    have ap1:bA (rs2.map V.ref) ((p:Nat):Int)=some (.ref ap):=dX (by rw[DY,gp];rfl)
    have ak1:bA (rs2.map V.ref) ((k:Nat):Int)=some (.ref ak):=dX (by rw[DY,gk];rfl)
    have rp':H2 ap=some (.lst (aN n (bB M k p))):=by
     rw[rp]
     congr 2
     exact dN fun j _=>by dsimp only;rw[if_neg (Nat.lt_irrefl _)]
    have rk':H2 ak=some (.lst (aN n (bB M k k))):=by
     rw[rk]
     congr 2
     refine dN fun j _=>?_
     dsimp only
     by_cases hkp:k<p
     ·rw[if_pos hkp]
      unfold jn
      cases bB M k k j<;>simp
     ·rw[if_neg hkp]
    walk_at "rd"
    refine b7 ?_
    walk_at "rd"
    refine aQ (ag.of tb2.rows.1) ap1 ?_
    walk_at "rd"
    refine aQ (ag.of rp') (dj (by omega) (by omega)) ?_
    rw[Ei]
    walk_at "rd"
    cases hc:bB M k p k with
    | false=>
     refine aw ?_
     walk_at "rd"
     refine⟨rs2,_,tb2.congr fun i j hi hj=>?_,rfl⟩
     try dsimp only
     by_cases h1:i<p
     ·rw[if_pos h1,if_pos (by omega)]
     ·rw[if_neg h1]
      by_cases h2:i<p+1
      ·have:i=p:=by omega
       subst this
       rw[if_pos h2]
       unfold jn
       rw[hc]
       simp
      ·rw[if_neg h2]
    | true=>
     refine aC ?_
     walk_at "rd"
     refine cR (by omega) ?_
     rw[Ei]
     refine ef (fun i ys H'=>H'=H2/\ys=aN i (jn (bB M k) k p)) (ao (by omega)) ⟨rfl,rfl⟩ ?_ ?_ ?_
     ·rintro i ys H' _ ⟨_,rfl⟩
      rw[cx];exact Ep _
     ·rintro i ys H3 hi ⟨rfl,rfl⟩
      rw[show (0:Int)+(i:Int)=((i:Nat):Int) by omega]
      walk_at "rd"
      refine aC ?_
      walk_at "rd"
      refine aQ (ag.of tb2.rows.1) ap1 ?_
      walk_at "rd"
      refine aQ (ag.of rp') (dj (by omega) (by omega)) ?_
      rw[Ei]
      refine rd_exb ?_
      cases hv:bB M k p i with
      | true=>
       refine aC ⟨rfl,?_⟩
       rw[jb]
       congr 1
       show[V.bl true]=[V.bl (bB M k p i || _)]
       rw[hv]
       rfl
      | false=>
       refine aw ?_
       walk_at "rd"
       refine aQ (ag.of tb2.rows.1) ak1 ?_
       walk_at "rd"
       refine aQ (ag.of rk') (dj (by omega) (by omega)) ?_
       rw[Ei]
       refine⟨rfl,?_⟩
       rw[jb]
       congr 1
       show[V.bl (bB M k k i)]=[V.bl (bB M k p i || (bB M k p k && bB M k k i))]
       rw[hv,hc]
       simp
     ·rintro ys H3 p9 ⟨hH,rfl⟩ hp9
      subst hH
      have hq2:(upd H3 p9 (.lst (aN n (jn (bB M k) k p)))) qt=some (.lst (rs2.map V.ref)):=(bw hp9) _ _ tb2.rows.1
      walk_at "rd"
      refine iR hq2 (iE (by omega) (by rw[DW,tb2.len];omega)) ?_
      rw[Ei]
      refine⟨_,_,(tb2.set (f:=jn (bB M k) k p) hp hp9).congr fun i j hi hj=>?_,rfl⟩
      try dsimp only
      by_cases h1:i=p
      ·subst h1
       rw[if_pos rfl,if_pos (by omega)]
      ·rw[if_neg h1]
       by_cases h2:i<p
       ·rw[if_pos h2,if_pos (by omega)]
       ·rw[if_neg h2,if_neg (by omega)]
   ·rintro σ H2 ⟨rs2,k2,tb2,rfl⟩
    exact⟨rs2,_,_,tb2.congr (fun i j hi hj=>by rw[if_pos hi];rfl),rfl⟩
  ·rintro σ H1 ⟨rs1,k1,k2,tb,rfl⟩
   walk_at "rd"
   exact q rs1 _ H1 tb (q0 M n)
def put2(M:Nat->Nat->Bool)(i x:Nat):Nat->Nat->Bool:=fun j y=>if j=i/\y=x then true else M j y
structure TW(H H':Hp)(q:Addr)(rs:List Addr)(n:Nat)(M:Nat->Nat->Bool):Prop where
 keep:∀b o,b∉rs->H b=some o->H' b=some o
 len:rs.length=n
 nd:rs.Nodup
 nq:q∉rs
 rows:Rows H' q rs n M
theorem TW.mark{H H1:Hp}{q r:Addr}{rs:List Addr}{n i j:Nat}{M:Nat->Nat->Bool}(h:TW H H1 q rs n M)(hi:rs[i]?=some r)(hj:j<n):TW H (upd H1 r (.lst ((aN n (M i)).set j (.bl true)))) q rs n (put2 M i j):=by
 have hm:=Ef hi
 have nqr:q≠r:=fun z=>h.nq (z ▸ hm)
 refine⟨fun b o nb e=>?_,h.len,h.nd,h.nq,?_,fun a r' ha=>?_⟩
 ·have nbr:b≠r:=fun z=>nb (by rw[z];exact hm)
  rw[az nbr]
  exact h.keep b o nb e
 ·rw[az nqr]
  exact h.rows.1
 ·by_cases hai:a=i
  ·subst hai
   rw[hi]at ha
   cases ha
   rw[aL,mI _ _ hj]
   congr 2
   refine dN fun y _=>?_
   unfold put2
   by_cases hy:y=j
   ·rw[if_pos hy,if_pos ⟨rfl,hy⟩]
   ·rw[if_neg hy,if_neg fun z=>hy z.2]
  ·have nr:r'≠r:=fun z=>hai ((List.getElem?_inj (by rw[h.len];exact(by rw[←h.len];exact(Ee.mp ha).1)) h.nd).mp (by rw[ha,hi,z]))
   rw[az nr,h.rows.2 a r' ha]
   congr 2
   exact dN fun y _=>by unfold put2;rw[if_neg fun z=>hai z.1]
structure ArchR(n:Nat)(us ds:List Way)(M M':Nat->Nat->Bool)(ad:Bool):Prop where
 le:∀i j,M i j=true->M' i j=true
 same:ad=false->∀i j,M' i j=M i j
 more:ad=true->∃i j,i<n/\j<n/\M i j=false/\M' i j=true
 least:∀S:Nat->Nat->Prop,(∀u∈us,∀d∈ds,S u.other.toNat d.room.toNat->S u.room.toNat d.other.toNat)->(∀i j,M i j=true->S i j)->∀i j,M' i j=true->S i j
theorem ArchR.refl{n:Nat}{us ds:List Way}{M:Nat->Nat->Bool}:ArchR n us ds M M false:=⟨fun _ _ h=>h,fun _ _ _=>rfl,fun h=>(nomatch h),fun _ _ h=>h⟩
theorem ArchR.put{n:Nat}{us ds:List Way}{M M':Nat->Nat->Bool}{ad:Bool}(h:ArchR n us ds M M' ad){u d:Way}(hu:u∈us)(hd:d∈ds)(h1:M' u.other.toNat d.room.toNat=true)(h2:M' u.room.toNat d.other.toNat=false)(hn1:u.room.toNat<n)(hn2:d.other.toNat<n):ArchR n us ds M (put2 M' u.room.toNat d.other.toNat) true:=by
 have le:∀i j,M i j=true->put2 M' u.room.toNat d.other.toNat i j=true:=fun i j hm=>by
  unfold put2
  split
  ·rfl
  ·exact h.le i j hm
 refine⟨le,fun z=>(nomatch z),fun _=>⟨_,_,hn1,hn2,?_,by unfold put2;rw[if_pos ⟨rfl,rfl⟩]⟩,fun S hS hm i j hp=>?_⟩
 ·rw[Bool.eq_false_iff]
  intro z
  rw[h.le _ _ z]at h2
  cases h2
 ·unfold put2 at hp
  split at hp
  ·rename_i z
   rw[z.1,z.2]
   exact hS u hu d hd (h.least S hS hm _ _ h1)
  ·exact h.least S hS hm i j hp
def wV(K:DS):Sp:=fun vs H Q _=>∃q rs n M lu cu us ld cd ds,vs=[.ref q,.ref lu,.ref ld]/\TW H H q rs n M/\H lu=some (.lst (List.map V.ref cu))/\aE H cu us/\H ld=some (.lst (List.map V.ref cd))/\aE H cd ds/\lu∉rs/\ld∉rs/\(∀w∈us++ds,0<=w.room/\w.room<(n:Int)/\0<=w.other/\w.other<(n:Int)) ∧
 ∀M' ad H',TW H H' q rs n M'->ArchR n us ds M M' ad->(ad=false->∀u∈us,∀d∈ds,M u.other.toNat d.room.toNat=true->M u.room.toNat d.other.toNat=true)->Q (.bl ad) H'
abbrev kC:Stmt:=stq 34
theorem uw:FnScope ["table","ups","downs","added","rise","fall"] ["table","ups","downs"] (aI kC):=⟨rfl,rfl,rfl,by decide +kernel,rfl,by decide +kernel,by decide +kernel⟩
theorem AL{P:Program}{w:World}{K:DS}{mg:Str->Option Value}{base:Heap}(D:Dfn K mg "add_arches" kC ["table","ups","downs"])(T:Blt mg):Cal P w K mg base "add_arches" 1 ["table","ups","downs"] (wV K):=by
 have nd:=(uw).nd
 refine D.ok uw (fun vs H Q E h=>?_) (fun X hX H vs Q E h=>?_)
 ·obtain⟨q,rs,n,M,lu,cu,us,ld,cd,ds,rfl,_⟩:=h;rfl
 ·obtain⟨f,cdv,A,outer,s,H0,E0,rfl,hr⟩:=hX
  obtain⟨qt,rs,n,M,lu,cu,us,ld,cd,ds,rfl,tw,hlu,hau,hld,had,nlu,nld,hin,q⟩:=h
  have hcu:=hau.1
  have hcd:=had.1
  refine⟨_,(@aj _ _ _ _ _ (@aG _ _ 3 _ _ _ _ nd rfl (Or.inl rfl) bR rfl (Or.inl rfl))
    (@aj _ _ _ _ _ (cj PassesOwn.never rfl (cz K (pv 1)) (aO (i:=4) nd rfl (Or.inl rfl)) (@av _ _ _ (cj PassesOwn.never rfl (cz K (pv 2)) (aO (i:=5) nd rfl (Or.inl rfl)) (@av _ _ _ (cO (PW.pt (gm (b9 (@ai _ _ _ _ _ _ _ (aS K) (@ai _ _ _ _ _ _ _ (aS K) (pv 0) (@ai _ _ _ _ _ _ _ (aB K) (pv 4) af (fun _ _=>rfl)) (fun _ _=>rfl)) (@ai _ _ _ _ _ _ _ (aB K) (pv 5) af (fun _ _=>rfl)) (fun _ _=>rfl))) (gR (eU (b9 (@ai _ _ _ _ _ _ _ (aS K) (@ai _ _ _ _ _ _ _ (aS K) (pv 0) (@ai _ _ _ _ _ _ _ (aB K) (pv 4) af (fun _ _=>rfl)) (fun _ _=>rfl)) (@ai _ _ _ _ _ _ _ (aB K) (pv 5) af (fun _ _=>rfl)) (fun _ _=>rfl))))))) (@aj _ _ _ _ _ (@gX _ _ _ _ _ _ bR (iF (@ai _ _ _ _ _ _ _ (aS K) (pv 0) (@ai _ _ _ _ _ _ _ (aB K) (pv 4) af (fun _ _=>rfl)) (fun _ _=>rfl)) (@ai _ _ _ _ _ _ _ (aB K) (pv 5) af (fun _ _=>rfl)) set_list) rfl rfl rfl)
    (@av _ _ _ (@aG _ _ 3 _ _ _ _ nd rfl (Or.inl rfl) bR rfl (Or.inl rfl)))) bf)))))
    (@av _ _ _ (@aF _ _ _ _ (pv 3))))),?_⟩
  have tupN:∀(b:Addr) (w:Way),H b=some (.tup w.vs)->b∉rs:=fun b w hb z=>by
   obtain⟨j,hj⟩:=List.getElem?_of_mem z
   rw[tw.rows.2 j b hj]at hb
   cases hb
  walk_at "rd"
  refine cw (ag.of hlu) ?_
  refine forL (xs:=List.map V.ref cu) (fun i σ H'=>∃M' ad k1 k2,TW H H' qt rs n M'/\ArchR n us ds M M' ad/\(ad=false->∀a,a<i->∀u,us[a]?=some u->∀d∈ds,M u.other.toNat d.room.toNat=true->M u.room.toNat d.other.toNat=true)/\σ=[some (.ref qt),some (.ref lu),some (.ref ld),some (.bl ad),k1,k2]) ⟨M,false,_,_,tw,.refl,fun _ a ha=>absurd ha (Nat.not_lt_zero _),rfl⟩ (fun i σ H' _ h=>by obtain⟨M',ad,k1,k2,t,_⟩:=h;exact ag.of (t.keep _ _ nlu hlu)) ?_ ?_
  ·rintro i v σ H1 hx ⟨M1,ad,k1,k2,tw1,ar1,cl1,rfl⟩
   rw[DY]at hx
   obtain⟨bu,hbu,rfl⟩:=Eh.mp hx
   have hiu:i<us.length:=by rw[←hcu];exact(Ee.mp hbu).1
   have gu:us[i]?=some us[i]:=DX hiu
   have hbu0:=hau.2 i bu _ hbu gu
   generalize us[i]=u at gu hbu0
   have hum:=Ef gu
   obtain⟨u0,u1,u2,u3⟩:=hin u (List.mem_append_left _ hum)
   walk_at "rd"
   refine cw (ag.of (tw1.keep _ _ nld hld)) ?_
   refine forL (xs:=List.map V.ref cd) (fun j σ H'=>∃M' ad k2,TW H H' qt rs n M'/\ArchR n us ds M M' ad/\(ad=false->(∀a,a<i->∀u,us[a]?=some u->∀d∈ds,M u.other.toNat d.room.toNat=true->M u.room.toNat d.other.toNat=true)/\∀b,b<j->∀d,ds[b]?=some d->M u.other.toNat d.room.toNat=true->M u.room.toNat d.other.toNat=true)/\σ=[some (.ref qt),some (.ref lu),some (.ref ld),some (.bl ad),some (.ref bu),k2]) ⟨M1,ad,_,tw1,ar1,fun h=>⟨cl1 h,fun b hb=>absurd hb (Nat.not_lt_zero _)⟩,rfl⟩ (fun j σ H' _ h=>by obtain⟨M',ad,k2,t,_⟩:=h;exact ag.of (t.keep _ _ nld hld)) ?_ ?_
   ·rintro j v σ H2 hx2 ⟨M2,ad2,k2,tw2,ar2,cl2,rfl⟩
    rw[DY]at hx2
    obtain⟨bd,hbd,rfl⟩:=Eh.mp hx2
    have hid:j<ds.length:=by rw[←hcd];exact(Ee.mp hbd).1
    have gd:ds[j]?=some ds[j]:=DX hid
    have hbd0:=had.2 j bd _ hbd gd
    generalize ds[j]=d at gd hbd0
    have hdm:=Ef gd
    obtain⟨d0,d1,d2,d3⟩:=hin d (List.mem_append_right _ hdm)
    have ku:=tw2.keep _ _ (tupN bu u hbu0) hbu0
    have kd:=tw2.keep _ _ (tupN bd d hbd0) hbd0
    have x1:u.other.toNat<rs.length:=by rw[tw2.len];omega
    have x2:u.room.toNat<rs.length:=by rw[tw2.len];omega
    have r1:rs[u.other.toNat]?=some rs[u.other.toNat]:=DX x1
    have r2:rs[u.room.toNat]?=some rs[u.room.toNat]:=DX x2
    have w1:=tw2.rows.2 _ _ r1
    have w2:=tw2.rows.2 _ _ r2
    generalize rs[u.other.toNat]=a1 at r1 w1
    generalize rs[u.room.toNat]=a2 at r2 w2
    have at1:bA (rs.map V.ref) u.other=some (.ref a1):=dO u2 (by rw[DY,r1];rfl)
    have at2:bA (rs.map V.ref) u.room=some (.ref a2):=dO u0 (by rw[DY,r2];rfl)
    have step:(M u.other.toNat d.room.toNat=true->M u.room.toNat d.other.toNat=true)->ad2=false->∀b,b<j+1->∀d',ds[b]?=some d'->M u.other.toNat d'.room.toNat=true->M u.room.toNat d'.other.toNat=true:=fun hs hf b hb d' hd'=>by
     by_cases hbj:b<j
     ·exact(cl2 hf).2 b hbj d' hd'
     ·have:b=j:=by omega
      subst this
      rw[gd]at hd'
      cases hd'
      exact hs
    walk_at "rd"
    refine b7 ?_
    walk_at "rd"
    refine aA (ah.of ku) (v:=.int u.other) rfl ?_
    walk_at "rd"
    refine aQ (ag.of tw2.rows.1) at1 ?_
    walk_at "rd"
    refine aA (ah.of kd) (v:=.int d.room) rfl ?_
    walk_at "rd"
    refine aQ (ag.of w1) (dj d0 (by omega)) ?_
    walk_at "rd"
    cases hm1:M2 u.other.toNat d.room.toNat with
    | false=>
     refine aw ?_
     walk_at "rd"
     refine⟨M2,ad2,_,tw2,ar2,fun hf=>⟨(cl2 hf).1,step (fun z=>?_) hf⟩,rfl⟩
     rw[ar2.same hf]at hm1
     rw[hm1]at z
     cases z
    | true=>
     refine aC ?_
     walk_at "rd"
     refine aA (ah.of ku) (v:=.int u.room) rfl ?_
     walk_at "rd"
     refine aQ (ag.of tw2.rows.1) at2 ?_
     walk_at "rd"
     refine aA (ah.of kd) (v:=.int d.other) rfl ?_
     walk_at "rd"
     refine aQ (ag.of w2) (dj d2 (by omega)) ?_
     walk_at "rd"
     cases hm2:M2 u.room.toNat d.other.toNat with
     | true=>
      refine aw ?_
      walk_at "rd"
      refine⟨M2,ad2,_,tw2,ar2,fun hf=>⟨(cl2 hf).1,step (fun _=>?_) hf⟩,rfl⟩
      rw[ar2.same hf]at hm2
      exact hm2
     | false=>
      refine aC ?_
      walk_at "rd"
      refine aA (ah.of ku) (v:=.int u.room) rfl ?_
      walk_at "rd"
      refine aQ (ag.of tw2.rows.1) at2 ?_
      walk_at "rd"
      refine aA (ah.of kd) (v:=.int d.other) rfl ?_
      walk_at "rd"
      refine iR w2 (iE d2 (by rw[cx];omega)) ?_
      walk_at "rd"
      exact⟨_,true,_,tw2.mark r2 (by omega),ar2.put hum hdm hm1 hm2 (by omega) (by omega),fun z=>(nomatch z),rfl⟩
   ·rintro σ H2 ⟨M2,ad2,k2,tw2,ar2,cl2,rfl⟩
    rw[DW,hcd]at cl2
    refine⟨M2,ad2,_,_,tw2,ar2,fun hf a ha u' hu'=>?_,rfl⟩
    by_cases hai:a<i
    ·exact(cl2 hf).1 a hai u' hu'
    ·have:a=i:=by omega
     subst this
     rw[gu]at hu'
     cases hu'
     intro d hd
     obtain⟨b,hb⟩:=List.getElem?_of_mem hd
     exact(cl2 hf).2 b (Ee.mp hb).1 d hb
  ·rintro σ H1 ⟨M1,ad,k1,k2,tw1,ar1,cl1,rfl⟩
   rw[DW,hcu]at cl1
   walk_at "rd"
   refine q M1 ad H1 tw1 ar1 fun hf u hu d hd=>?_
   obtain⟨a,ha⟩:=List.getElem?_of_mem hu
   exact cl1 hf a (Ee.mp ha).1 u ha d hd
inductive Kpt(ws:List Way)(n:Nat):Nat->Nat->Prop
 | refl {i:Nat}:i<n->Kpt ws n i i
 | stay {w:Way}:w∈ws->w.deed = "stay"->Kpt ws n w.room.toNat w.other.toNat
 | trans {i a j:Nat}:Kpt ws n i a->Kpt ws n a j->Kpt ws n i j
 | arch {u d:Way}:u∈ws->u.deed = "up"->d∈ws->d.deed = "down"->Kpt ws n u.other.toNat d.room.toNat->Kpt ws n u.room.toNat d.other.toNat
theorem g9{m:Int}{ws:List Way}(ok:∀w∈ws,w.Ok m){w:Way}(hw:w∈ws):w.room.toNat<m.toNat/\w.other.toNat<m.toNat:=by
 have h:=ok w hw
 have:=h.r0
 have:=h.r1
 have:=h.o0
 have:=h.o1
 omega
theorem Kpt.lt{m:Int}{ws:List Way}(ok:∀w∈ws,w.Ok m){i j:Nat}(h:Kpt ws m.toNat i j):i<m.toNat/\j<m.toNat:=by
 induction h with
 | refl h=>exact⟨h,h⟩
 | stay h _=>exact g9 ok h
 | trans _ _ h1 h2=>exact⟨h1.1,h2.2⟩
 | arch h1 _ h2 _ _ _=>exact⟨(g9 ok h1).1,(g9 ok h2).2⟩
def zR(ws:List Way)(M:Nat->Nat->Bool):Prop:=∀i j,M i j=true↔(i=j\/∃w∈ws,w.deed = "stay"/\w.room.toNat=i/\w.other.toNat=j)
def g6(n:Nat)(M:Nat->Nat->Bool):Nat:=((List.range n).flatMap fun i=>(List.range n).map fun j=>(i,j)).countP fun z=>!M z.1 z.2
theorem v5{α:Type}{p p':α->Bool}(hi:∀y,p' y=true->p y=true){a:α}(ha:p a=true)(ha':p' a=false):∀{L:List α},a∈L->L.countP p'<L.countP p
 | b::L,hm=>by
  have hle:L.countP p'<=L.countP p:=List.countP_mono_left fun y _=>hi y
  rw[List.countP_cons,List.countP_cons]
  rcases Ek.mp hm with rfl | hm
  ·rw[ha,ha']
   simp
   omega
  ·have:=v5 hi ha ha' hm
   cases h1:p' b with
   | false=>simp[h1];split<;>omega
   | true=>rw[hi b h1];simp;omega
theorem zL{n i j:Nat}{M M':Nat->Nat->Bool}(hi:i<n)(hj:j<n)(le:∀a b,M a b=true->M' a b=true)(h1:M i j=false)(h2:M' i j=true):g6 n M'<g6 n M:=by
 refine v5 (a:=(i,j)) (fun y hy=>?_) (by simp[h1]) (by simp[h2]) (by simp;exact⟨hi,hj⟩)
 have hy':M' y.1 y.2=false:=by simpa using hy
 have:M y.1 y.2=false:=by
  rw[Bool.eq_false_iff]
  intro z
  rw[le _ _ z]at hy'
  cases hy'
 simp[this]
structure KT(H H':Hp)(q:Addr)(rs:List Addr)(n:Nat)(M:Nat->Nat->Bool):Prop where
 ext:Ext H H'
 fq:H q=none
 fr:∀r∈rs,H r=none
 len:rs.length=n
 nd:rs.Nodup
 nq:q∉rs
 rows:Rows H' q rs n M
theorem KT.tw{H H':Hp}{q:Addr}{rs:List Addr}{n:Nat}{M:Nat->Nat->Bool}(h:KT H H' q rs n M):TW H' H' q rs n M:=⟨fun _ _ _ e=>e,h.len,h.nd,h.nq,h.rows⟩
theorem KT.tb{H H':Hp}{q:Addr}{rs:List Addr}{n:Nat}{M:Nat->Nat->Bool}(h:KT H H' q rs n M):TB H' H' q rs rs n M:=⟨fun _ _ _ e=>e,h.len,h.nd,h.nq,fun _ h=>.inl h,h.rows⟩
theorem KT.more{H H1 H2:Hp}{q:Addr}{rs:List Addr}{n:Nat}{M:Nat->Nat->Bool}(h:KT H H1 q rs n M)(e:Ext H1 H2):KT H H2 q rs n M:=⟨h.ext.trans e,h.fq,h.fr,h.len,h.nd,h.nq,h.rows.ext e⟩
theorem KT.byW{H H1 H2:Hp}{q:Addr}{rs:List Addr}{n:Nat}{M M':Nat->Nat->Bool}(h:KT H H1 q rs n M)(t:TW H1 H2 q rs n M'):KT H H2 q rs n M':=
 ⟨fun b o e=>t.keep b o (fun z=>by rw[h.fr b z]at e;cases e) (h.ext b o e),h.fq,h.fr,h.len,h.nd,h.nq,t.rows⟩
theorem KT.byB{H H1 H2:Hp}{q:Addr}{rs rs':List Addr}{n:Nat}{M M':Nat->Nat->Bool}(h:KT H H1 q rs n M)(t:TB H1 H2 q rs rs' n M'):KT H H2 q rs' n M':=
 ⟨fun b o e=>t.keep b o (fun z=>by rw[z,h.fq]at e;cases e) (h.ext b o e),h.fq,fun r hr=>by
  rcases t.old r hr with z | z
  ·exact h.fr r z
  ·cases e:H r with
   | none=>rfl
   | some o=>exact absurd ((h.ext r o e).symm.trans z) (by simp),t.len,t.nd,t.nq,t.rows⟩
def sh(K:DS):Sp:=fun vs H Q _=>∃vh m ws,vs=[vh]/\aU H vh m ws/\HOuse m ws/\∀q rs M H',KT H H' q rs m.toNat M->zR ws M->Q (.ref q) H'
abbrev jx:Stmt:=stq 32
theorem w8:FnScope ["house","table","p","way"] ["house"] (aI jx):=⟨rfl,rfl,rfl,by decide +kernel,rfl,by decide +kernel,by decide +kernel⟩
theorem CG{P:Program}{w:World}{K:DS}{mg:Str->Option Value}{base:Heap}(D:Dfn K mg "beginning_table" jx ["house"])(T:Blt mg)(C_ways_of_deed:Cal P w K mg base "ways_of_deed" 1 ["house","deed"] (jC K)):Cal P w K mg base "beginning_table" 2 ["house"] (sh K):=by
 have nd:=(w8).nd
 refine D.ok w8 (fun vs H Q E h=>?_) (fun X hX H vs Q E h=>?_)
 ·obtain⟨vh,m,ws,rfl,_⟩:=h;rfl
 ·obtain⟨f,cdv,A,outer,s,H0,E0,rfl,hr⟩:=hX
  obtain⟨vh,m,ws,rfl,hv,ok,q⟩:=h
  have m1:=ok.m1
  have m12:=ok.m12
  obtain⟨hp0,hq0,rfl,hh,_⟩:=id hv
  refine⟨_,(@aj _ _ _ _ _ (@aG _ _ 1 _ _ _ _ nd rfl (Or.inl rfl) (@bJ _ _ _ _ ae) rfl (Or.inl rfl))
    (@aj _ _ _ _ _ (cj PassesOwn.never rfl (cX rfl T.range_ (@aa _ _ _ _ _ (@ai _ _ _ _ _ _ _ (aB K) (pv 0) af (fun _ _=>rfl)) ae rfl)) (aO (i:=2) nd rfl (Or.inr rfl)) (@av _ _ _ (bh (bE K Ed Er Es bQ (pv 1) (@aa _ _ _ _ _ (di ["q"] [2] (cX rfl T.range_ (@aa _ _ _ _ _ (@ai _ _ _ _ _ _ _ (aB K) (pv 0) af (fun _ _=>rfl)) ae rfl)) (fun _=>(aO (i:=0) (show(["q","p"]:List Str).Nodup from by decide +kernel) rfl (Or.inl rfl) (Or.inr rfl))) (fun _=>dY) (fun _=>(el bL (pv 1) (pv 0) (aP _)))) ae rfl)))))
    (@aj _ _ _ _ _ (cj PassesOwn.never rfl (cz K (aH C_ways_of_deed hr (@aa _ _ _ _ _ (pv 0) (@aa _ _ _ _ _ bD ae rfl) rfl))) (aO (i:=3) nd rfl (Or.inl rfl)) (@av _ _ _ (@gX _ _ _ _ _ _ bR (iF (@ai _ _ _ _ _ _ _ (aS K) (pv 1) (@ai _ _ _ _ _ _ _ (aB K) (pv 3) af (fun _ _=>rfl)) (fun _ _=>rfl)) (@ai _ _ _ _ _ _ _ (aB K) (pv 3) af (fun _ _=>rfl)) set_list) rfl rfl rfl)))
    (@av _ _ _ (@aF _ _ _ _ (pv 1)))))),?_⟩
  walk_at "rd"
  refine⟨ao (by simp),aq fun tq H1 e1 htq hfq=>?_⟩
  walk_at "rd"
  refine aA (ah.of (e1 _ _ hh)) (v:=.int m) rfl ?_
  walk_at "rd"
  refine cR (by omega) ?_
  refine forR (fun p σ H'=>∃rs k1 k2,Ext H H'/\H' tq=some (.lst (List.map V.ref rs))/\(∀r∈rs,H r=none)/\rs.length=p/\rs.Nodup/\tq∉rs/\(∀(a:Nat) (r:Addr),rs[a]?=some r->H' r=some (.lst (aN m.toNat fun j=>decide (a=j))))/\σ=[some (.ref hp0),some (.ref tq),k1,k2]) ⟨[],_,_,e1,htq,fun r hr=>(by cases hr),rfl,List.nodup_nil,by simp,fun a r h=>by simp at h,rfl⟩ ?_ ?_
  ·rintro p σ H2 hp ⟨rs,k1,k2,e2,hq2,hfr,hln,hnd,hnq,hrs,rfl⟩
   rw[show (0:Int)+(p:Int)=((p:Nat):Int) by omega]
   walk_at "rd"
   refine⟨bP (ag.of hq2),?_⟩
   walk_at "rd"
   refine aA (ah.of (e2 _ _ hh)) (v:=.int m) rfl ?_
   walk_at "rd"
   refine cR (by omega) ?_
   refine ef (fun i ys H'=>H'=H2/\ys=aN i (fun j=>decide (p=j))) (ao (by omega)) ⟨rfl,rfl⟩ ?_ ?_ ?_
   ·rintro i ys H' _ ⟨_,rfl⟩
    rw[cx];exact Ep _
   ·rintro i ys H3 hi ⟨rfl,rfl⟩
    rw[show (0:Int)+(i:Int)=((i:Nat):Int) by omega]
    walk_at "rd"
    refine aC ?_
    walk_at "rd"
    refine⟨rfl,?_⟩
    rw[jb]
    congr 3
    rw[EI]
    simp
    omega
   ·rintro ys H3 p9 ⟨hH,rfl⟩ hp9
    subst hH
    have e3:=bw (o:=.lst (aN m.toNat fun j=>decide (p=j))) hp9
    have hq3:=e3 _ _ hq2
    have h9:(upd H3 p9 (.lst (aN m.toNat fun j=>decide (p=j)))) p9=_:=aL
    have e03:=e2.trans e3
    have hrs3:∀(a:Nat) (r:Addr),rs[a]?=some r->(upd H3 p9 (.lst (aN m.toNat fun j=>decide (p=j)))) r=some (.lst (aN m.toNat fun j=>decide (a=j))):=fun a r h=>e3 _ _ (hrs a r h)
    have n9:H p9=none:=by
     cases z:H p9 with
     | none=>rfl
     | some o=>rw[e2 _ _ z]at hp9;cases hp9
    have nin:p9∉rs:=fun z=>by
     obtain⟨j,hj⟩:=List.getElem?_of_mem z
     rw[hrs j p9 hj]at hp9
     cases hp9
    have nqp:tq≠p9:=fun z=>by rw[z,hp9]at hq2;cases hq2
    generalize upd H3 p9 (.lst (aN m.toNat fun j=>decide (p=j)))=H4 at e3 hq3 h9 e03 hrs3 ⊢
    walk_at "rd"
    refine bN hq3 (by rw[DW];exact Nat.lt_of_le_of_lt (show rs.length<=12 by omega) (by decide)) ?_
    walk_at "rd"
    have keep:∀b o,b≠tq->H4 b=some o->upd H4 tq (.lst (List.map V.ref rs++[.ref p9])) b=some o:=fun b o nb e=>by rw[az nb];exact e
    refine⟨rs++[p9],_,_,cB e03 hfq,?_,fun r hr=>?_,by rw[En,hln];rfl,?_,fun z=>?_,fun a r ha=>?_,rfl⟩
    ·rw[aL,Em];rfl
    ·rcases Ew.mp hr with hr | hr
     ·exact hfr r hr
     ·rw[Eg.mp hr];exact n9
    ·rw[List.nodup_append]
     refine⟨hnd,by simp,fun a ha c hc z=>?_⟩
     rw[Eg.mp hc]at z
     exact nin (z ▸ ha)
    ·rcases Ew.mp z with z | z
     ·exact hnq z
     ·exact nqp (Eg.mp z)
    ·by_cases hal:a<rs.length
     ·rw[Ey hal]at ha
      exact keep r _ (fun z=>hnq (z ▸ Ef ha)) (hrs3 a r ha)
     ·rw[Ex (by omega)]at ha
      have hz:a-rs.length=0:=by
       have:=(Ee.mp ha).1
       simp at this
       omega
      rw[hz]at ha
      cases ha
      have:a=p:=by omega
      subst this
      exact keep p9 _ (Ne.symm nqp) h9
  ·rintro σ H2 ⟨rs,k1,k2,e2,hq2,hfr,hln,hnd,hnq,hrs,rfl⟩
   have tw:TW H2 H2 tq rs m.toNat (fun i j=>decide (i=j)):=⟨fun _ _ _ e=>e,hln,hnd,hnq,hq2,hrs⟩
   have kt:KT H H2 tq rs m.toNat (fun i j=>decide (i=j)):=⟨e2,hfq,hfr,hln,hnd,hnq,hq2,hrs⟩
   walk_at "rd"
   refine⟨.ref hp0,m,ws,_,rfl,hv.ext e2,ok,fun l cs us H3 e3 hl3 hl hau hus=>?_⟩
   have kt3:=kt.more e3
   have nl:l∉rs:=fun z=>by
    obtain⟨j,hj⟩:=List.getElem?_of_mem z
    rw[hrs j l hj]at hl3
    cases hl3
   have hcs:=hau.1
   have tupN:∀(b:Addr) (w:Way),H3 b=some (.tup w.vs)->b∉rs:=fun b w hb z=>by
    obtain⟨j,hj⟩:=List.getElem?_of_mem z
    rw[kt3.rows.2 j b hj]at hb
    cases hb
   refine cw (ag.of hl) ?_
   refine forL (xs:=List.map V.ref cs) (fun i σ H'=>∃M k1 k2,TW H3 H' tq rs m.toNat M/\(∀a b,M a b=true↔(a=b\/∃w∈us.take i,w.room.toNat=a/\w.other.toNat=b))/\σ=[some (.ref hp0),some (.ref tq),k1,k2]) ⟨_,_,_,kt3.tw,fun a b=>by simp,rfl⟩ (fun i σ H' _ h=>by obtain⟨M,k1,k2,t,_⟩:=h;exact ag.of (t.keep _ _ nl hl)) ?_ ?_
   ·rintro i v σ H4 hx ⟨M,k1,k2,tw4,hM,rfl⟩
    rw[DY]at hx
    obtain⟨b,hb,rfl⟩:=Eh.mp hx
    have hi:i<us.length:=by rw[←hcs];exact(Ee.mp hb).1
    have gu:us[i]?=some us[i]:=DX hi
    have hb0:=hau.2 i b _ hb gu
    generalize us[i]=u at gu hb0
    have hum:u∈ws:=by
     have:=Ef gu
     rw[hus]at this
     exact(List.mem_filter.mp this).1
    have oku:=ok.ok u hum
    have u0:=oku.r0
    have u1:=oku.r1
    have u2:=oku.o0
    have u3:=oku.o1
    have kb:=tw4.keep _ _ (tupN b u hb0) hb0
    have x2:u.room.toNat<rs.length:=by rw[tw4.len];omega
    have r2:rs[u.room.toNat]?=some rs[u.room.toNat]:=DX x2
    have w2:=tw4.rows.2 _ _ r2
    generalize rs[u.room.toNat]=a2 at r2 w2
    have at2:bA (rs.map V.ref) u.room=some (.ref a2):=dO u0 (by rw[DY,r2];rfl)
    walk_at "rd"
    refine aA (ah.of kb) (v:=.int u.room) rfl ?_
    walk_at "rd"
    refine aQ (ag.of tw4.rows.1) at2 ?_
    walk_at "rd"
    refine aA (ah.of kb) (v:=.int u.other) rfl ?_
    walk_at "rd"
    refine iR w2 (iE u2 (by rw[cx];omega)) ?_
    refine⟨_,_,_,tw4.mark r2 (by omega),fun a c=>?_,rfl⟩
    rw[List.take_add_one,gu]
    unfold put2
    split
    ·rename_i z
     simp only[true_iff]
     exact .inr ⟨u,List.mem_append_right _ (by simp),z.1.symm,z.2.symm⟩
    ·rename_i z
     rw[hM]
     constructor
     ·rintro(h | ⟨w,hw,h⟩)
      ·exact .inl h
      ·exact .inr ⟨w,List.mem_append_left _ hw,h⟩
     ·rintro(h | ⟨w,hw,h1,h2⟩)
      ·exact .inl h
      ·rcases Ew.mp hw with hw | hw
       ·exact .inr ⟨w,hw,h1,h2⟩
       ·have:w=u:=by simpa using hw
        subst this
        exact absurd ⟨h1.symm,h2.symm⟩ z
   ·rintro σ H4 ⟨M,k1,k2,tw4,hM,rfl⟩
    rw[DW,hcs,EB]at hM
    walk_at "rd"
    refine q tq rs M H4 (kt3.byW tw4) fun a b=>?_
    rw[hM,hus]
    constructor
    ·rintro(h | ⟨w,hw,h⟩)
     ·exact .inl h
     ·obtain⟨h1,h2⟩:=List.mem_filter.mp hw
      exact .inr ⟨w,h1,of_decide_eq_true h2,h⟩
    ·rintro(h | ⟨w,hw,hd,h⟩)
     ·exact .inl h
     ·exact .inr ⟨w,List.mem_filter.mpr ⟨hw,decide_eq_true hd⟩,h⟩
structure UD(H:Hp)(tq:Addr)(rs:List Addr)(lu ld:Addr)(cu cd:List Addr)(us ds:List Way):Prop where
 u:H lu=some (.lst (List.map V.ref cu))
 au:aE H cu us
 d:H ld=some (.lst (List.map V.ref cd))
 ad:aE H cd ds
 nu:lu∉rs
 nd:ld∉rs
 qu:lu≠tq
 qd:ld≠tq
theorem aE.byW{H H':Hp}{q:Addr}{rs:List Addr}{n:Nat}{M M':Nat->Nat->Bool}(r:Rows H q rs n M)(t:TW H H' q rs n M'){bs:List Addr}{ws:List Way}(h:aE H bs ws):aE H' bs ws:=⟨h.1,fun j b w e1 e2=>by
 have hb:=h.2 j b w e1 e2
 refine t.keep b _ (fun z=>?_) hb
 obtain⟨j,hj⟩:=List.getElem?_of_mem z
 rw[r.2 j b hj]at hb
 cases hb⟩
theorem aE.byB{H H':Hp}{q:Addr}{rs rs':List Addr}{n:Nat}{M M':Nat->Nat->Bool}(r:Rows H q rs n M)(t:TB H H' q rs rs' n M'){bs:List Addr}{ws:List Way}(h:aE H bs ws):aE H' bs ws:=⟨h.1,fun j b w e1 e2=>by
 have hb:=h.2 j b w e1 e2
 refine t.keep b _ (fun z=>?_) hb
 rw[z,r.1]at hb
 cases hb⟩
theorem UD.byW{H H':Hp}{tq:Addr}{rs:List Addr}{lu ld:Addr}{cu cd:List Addr}{us ds:List Way}{n:Nat}{M M':Nat->Nat->Bool}(r:Rows H tq rs n M)(t:TW H H' tq rs n M')(h:UD H tq rs lu ld cu cd us ds):UD H' tq rs lu ld cu cd us ds:=
 ⟨t.keep _ _ h.nu h.u,h.au.byW r t,t.keep _ _ h.nd h.d,h.ad.byW r t,h.nu,h.nd,h.qu,h.qd⟩
theorem UD.byB{H H':Hp}{tq:Addr}{rs rs':List Addr}{lu ld:Addr}{cu cd:List Addr}{us ds:List Way}{n:Nat}{M M':Nat->Nat->Bool}(r:Rows H tq rs n M)(t:TB H H' tq rs rs' n M')(h:UD H tq rs lu ld cu cd us ds):UD H' tq rs' lu ld cu cd us ds:=by
 have no:∀l o,H l=some o->l∉rs->l∉rs':=fun l o hl hn z=>by
  rcases t.old l z with y | y
  ·exact hn y
  ·rw[hl]at y;cases y
 exact⟨t.keep _ _ h.qu h.u,h.au.byB r t,t.keep _ _ h.qd h.d,h.ad.byB r t,no _ _ h.u h.nu,no _ _ h.d h.nd,h.qu,h.qd⟩
def oj(ws:List Way)(n:Nat)(M:Nat->Nat->Bool):Prop:=∀i j,i<n->j<n->(M i j=true↔Kpt ws n i j)
structure KJ(ws:List Way)(n:Nat)(M:Nat->Nat->Bool):Prop where
 beg:∀i j,(i=j\/∃w∈ws,w.deed = "stay"/\w.room.toNat=i/\w.other.toNat=j)->M i j=true
 snd:∀i j,M i j=true->i=j\/Kpt ws n i j
theorem yy{m:Int}{ws:List Way}{M:Nat->Nat->Bool}(ok:∀w∈ws,w.Ok m)(h:KJ ws m.toNat M)(tr:∀i a j,a<m.toNat->M i a=true->M a j=true->M i j=true)(ar:∀u∈ws.filter (fun w=>decide (w.deed=Str.ofString "up")),∀d∈ws.filter (fun w=>decide (w.deed=Str.ofString "down")),M u.other.toNat d.room.toNat=true->M u.room.toNat d.other.toNat=true):oj ws m.toNat M:=by
 intro i j hi hj
 constructor
 ·intro hm
  rcases h.snd i j hm with rfl | h
  ·exact .refl hi
  ·exact h
 ·intro hk
  clear hi hj
  induction hk with
  | refl _=>exact h.beg _ _ (.inl rfl)
  | stay h1 h2=>exact h.beg _ _ (.inr ⟨_,h1,h2,rfl,rfl⟩)
  | trans h1 h2 i1 i2=>exact tr _ _ _ (Kpt.lt ok h1).2 i1 i2
  | arch h1 h2 h3 h4 h5 ih=>exact ar _ (List.mem_filter.mpr ⟨h1,decide_eq_true h2⟩) _ (List.mem_filter.mpr ⟨h3,decide_eq_true h4⟩) ih
theorem KJ.join{m:Int}{ws:List Way}{M M':Nat->Nat->Bool}(h:KJ ws m.toNat M)(j:Joined m.toNat M M'):KJ ws m.toNat M':=by
 refine⟨fun a b hb=>j.le _ _ (h.beg a b hb),fun a b hm=>j.least (fun a b=>a=b\/Kpt ws m.toNat a b) (fun i a j h1 h2=>?_) h.snd a b hm⟩
 rcases h1 with rfl | h1
 ·exact h2
 ·rcases h2 with rfl | h2
  ·exact .inr h1
  ·exact .inr (.trans h1 h2)
theorem KJ.arch{m:Int}{ws:List Way}{M M':Nat->Nat->Bool}{ad:Bool}(ok:∀w∈ws,w.Ok m)(h:KJ ws m.toNat M)(a:ArchR m.toNat (ws.filter fun w=>decide (w.deed=Str.ofString "up")) (ws.filter fun w=>decide (w.deed=Str.ofString "down")) M M' ad):KJ ws m.toNat M':=by
 refine⟨fun i j hb=>a.le _ _ (h.beg i j hb),fun i j hm=>a.least (fun a b=>a=b\/Kpt ws m.toNat a b) (fun u hu d hd hs=>?_) h.snd i j hm⟩
 obtain⟨u1,u2⟩:=List.mem_filter.mp hu
 obtain⟨d1,d2⟩:=List.mem_filter.mp hd
 have u2:=of_decide_eq_true u2
 have d2:=of_decide_eq_true d2
 right
 refine .arch u1 u2 d1 d2 ?_
 rcases hs with hs | hs
 ·rw[hs]
  exact .refl (g9 ok d1).1
 ·exact hs
def oN(K:DS):Sp:=fun vs H Q _=>∃vh m ws,vs=[vh]/\aU H vh m ws/\HOuse m ws/\∀q rs M H',KT H H' q rs m.toNat M->oj ws m.toNat M->Q (.ref q) H'
abbrev jr:Stmt:=stq 35
theorem qK:FnScope ["house","table","ups","downs"] ["house"] (aI jr):=⟨rfl,rfl,rfl,by decide +kernel,rfl,by decide +kernel,by decide +kernel⟩
theorem Cm{P:Program}{w:World}{K:DS}{mg:Str->Option Value}{base:Heap}(D:Dfn K mg "kept_table" jr ["house"])(T:Blt mg)(C_add_arches:Cal P w K mg base "add_arches" 1 ["table","ups","downs"] (wV K))(C_join_walks:Cal P w K mg base "join_walks" 1 ["table"] (vR K))(C_ways_of_deed:Cal P w K mg base "ways_of_deed" 1 ["house","deed"] (jC K))(C_beginning_table:Cal P w K mg base "beginning_table" 2 ["house"] (sh K)):Cal P w K mg base "kept_table" 3 ["house"] (oN K):=by
 have nd:=(qK).nd
 refine D.ok qK (fun vs H Q E h=>?_) (fun X hX H vs Q E h=>?_)
 ·obtain⟨vh,m,ws,rfl,_⟩:=h;rfl
 ·obtain⟨f,cdv,A,outer,s,H0,E0,rfl,hr⟩:=hX
  obtain⟨vh,m,ws,rfl,hv,ok,q⟩:=h
  have m1:=ok.m1
  have m12:=ok.m12
  refine⟨_,(aj (aG (i:=1) nd rfl (Or.inl rfl) (aH C_beginning_table hr (aa (pv 0) ae)))
    (aj (aG (i:=2) nd rfl (Or.inl rfl) (aH C_ways_of_deed hr (aa (pv 0) (aa bD ae))))
    (aj (aG (i:=3) nd rfl (Or.inl rfl) (aH C_ways_of_deed hr (aa (pv 0) (aa bD ae))))
    (aj (bh (aH C_join_walks hr (aa (pv 1) ae)))
    (aj (gq PassesOwn.never (b9 (aH C_add_arches hr (aa (pv 1) (aa (pv 2) (aa (pv 3) ae))))) (av (bh (aH C_join_walks hr (aa (pv 1) ae)))))
    (av (aF (pv 1)))))))),?_⟩
  walk_at "rd"
  refine⟨vh,m,ws,rfl,hv,ok,fun tq rs M H1 kt bg=>?_⟩
  walk_at "rd"
  refine⟨vh,m,ws,_,rfl,hv.ext kt.ext,ok,fun lu cu us H2 e2 hlu hlu2 hau hus=>?_⟩
  walk_at "rd"
  refine⟨vh,m,ws,_,rfl,hv.ext (kt.ext.trans e2),ok,fun ld cd ds H3 e3 hld hld2 had hds=>?_⟩
  have kt3:=kt.more (e2.trans e3)
  have kj:KJ ws m.toNat M:=⟨fun i j h=>(bg i j).mpr h,fun i j h=>by
   rcases(bg i j).mp h with h | ⟨w,hw,hd,rfl,rfl⟩
   ·exact .inl h
   ·exact .inr (.stay hw hd)⟩
  have nin:∀l,H1 l=none->l∉rs/\l≠tq:=fun l hl=>by
   refine⟨fun z=>?_,fun z=>?_⟩
   ·obtain⟨j,hj⟩:=List.getElem?_of_mem z
    rw[kt.rows.2 j l hj]at hl
    cases hl
   ·rw[z,kt.rows.1]at hl
    cases hl
  have hld1:H1 ld=none:=by
   cases z:H1 ld with
   | none=>rfl
   | some o=>rw[e2 _ _ z]at hld;cases hld
  have ud:UD H3 tq rs lu ld cu cd us ds:=⟨e3 _ _ hlu2,hau.ext e3,hld2,had,(nin lu hlu).1,(nin ld hld1).1,(nin lu hlu).2,(nin ld hld1).2⟩
  have hin:∀w∈us++ds,0<=w.room/\w.room<(m.toNat:Int)/\0<=w.other/\w.other<(m.toNat:Int):=fun w hw=>by
   have hw':w∈ws:=by
    rcases Ew.mp hw with h | h
    ·rw[hus]at h;exact(List.mem_filter.mp h).1
    ·rw[hds]at h;exact(List.mem_filter.mp h).1
   have h:=ok.ok w hw'
   have h1:=h.r0
   have h2:=h.r1
   have h3:=h.o0
   have h4:=h.o1
   omega
  clear hlu2 hau hld2 had nin hld1
  walk_at "rd"
  refine⟨tq,rs,m.toNat,M,rfl,kt3.tb,by omega,fun rs1 M1 H4 tb jd=>?_⟩
  have kt4:=kt3.byB tb
  have ud4:=ud.byB kt3.rows tb
  have kj4:=kj.join jd
  walk_at "rd"
  refine f6 (fun mm σ H'=>∃rs M,KT H H' tq rs m.toNat M/\UD H' tq rs lu ld cu cd us ds/\KJ ws m.toNat M/\(∀i a j,a<m.toNat->M i a=true->M a j=true->M i j=true)/\mm=g6 m.toNat M/\σ=[some vh,some (.ref tq),some (.ref lu),some (.ref ld)]) (fun σ H'=>∃rs M,KT H H' tq rs m.toNat M/\oj ws m.toNat M/\σ=[some vh,some (.ref tq),some (.ref lu),some (.ref ld)]) (g6 m.toNat M1) ⟨rs1,M1,kt4,ud4,kj4,jd.tr,rfl,rfl⟩ ?_ ?_
  ·rintro mm σ H5 ⟨rs5,M5,kt5,ud5,kj5,tr5,rfl,rfl⟩
   walk_at "rd"
   refine⟨tq,rs5,m.toNat,M5,lu,cu,us,ld,cd,ds,rfl,kt5.tw,ud5.u,ud5.au,ud5.d,ud5.ad,ud5.nu,ud5.nd,hin,fun M6 ad H6 tw ar cl=>?_⟩
   have kt6:=kt5.byW tw
   have ud6:=ud5.byW kt5.rows tw
   rw[hus,hds]at ar
   have kj6:=kj5.arch ok.ok ar
   walk_at "rd"
   cases ad with
   | false=>
    refine aw ⟨rs5,M6,kt6,yy ok.ok kj6 (fun i a j ha h1 h2=>?_) (fun u hu d hd hm=>?_),rfl⟩
    ·rw[ar.same rfl]at h1 h2 ⊢
     exact tr5 i a j ha h1 h2
    ·rw[ar.same rfl]at hm ⊢
     exact cl rfl u (by rw[hus];exact hu) d (by rw[hds];exact hd) hm
   | true=>
    refine aC ⟨fun σ' H'=>∃rs M,KT H H' tq rs m.toNat M/\UD H' tq rs lu ld cu cd us ds/\KJ ws m.toNat M/\(∀i a j,a<m.toNat->M i a=true->M a j=true->M i j=true)/\g6 m.toNat M<g6 m.toNat M5/\σ'=[some vh,some (.ref tq),some (.ref lu),some (.ref ld)],fun σ' H' ⟨rs,M,a1,a2,a3,a4,a5,a6⟩=>⟨_,a5,rs,M,a1,a2,a3,a4,rfl,a6⟩,?_⟩
    walk_at "rd"
    refine⟨tq,rs5,m.toNat,M6,rfl,kt6.tb,by omega,fun rs7 M7 H7 tb7 jd7=>?_⟩
    walk_at "rd"
    obtain⟨i,j,hi,hj,hf,ht⟩:=ar.more rfl
    exact⟨rs7,M7,kt6.byB tb7,ud6.byB kt6.rows tb7,kj6.join jd7,jd7.tr,zL hi hj (fun a b h=>jd7.le _ _ (ar.le _ _ h)) hf (jd7.le _ _ ht),rfl⟩
  ·rintro σ H5 ⟨rs5,M5,kt5,hk5,rfl⟩
   walk_at "rd"
   exact q tq rs5 M5 H5 kt5 hk5
theorem mz{sp:Sp}{js:List Nat}{cells:List (Str×Addr)}{N:List Str}{ta:TA}{σ:St}{H:Hp}{Q:VK} (h:ta σ H fun vs H1=>(∀j∈js,∃v,σ[j]?=some (some v)) ∧
 ∀cp:List Cap,cp.length=js.length->(∀(i j:Nat) (e:Cap),js[i]?=some j->cp[i]?=some e->N[j]?=some e.n/\cells.lookup e.n=some e.c/\σ[j]?=some (some e.v)/\H1 e.c=none/\∃u,e.o.data=.cell (some u)/\RelV e.v u) →
  sp vs (bz (cellsOf cp) H1) (fun v H'=>(∀b o,(cellsOf cp).lookup b=some o->H' b=some (cM b o))/\Q v (aW (cellsOf cp) H')) E0):iG sp js cells N ta σ H Q:=h
theorem wy{P:Program}{w:World}{K:DS}{mg:Str->Option Value}{base:Heap}{k:Nat}{tf:TE}{ta:TA}{σ:St}{H:Hp}{Q:VK}(h:tf σ H fun fv H1=>∃f pre R,fv=.ref f/\FunR P w K mg base k f pre R/\pre H1/\ta σ H1 fun vs H2=>pre H2/\R vs H2 Q):o5 P w K mg base k tf ta σ H Q:=h
theorem j8{cs:List (Addr×Obj)}{H:Hp}(hn:∀b o,cs.lookup b=some o->H b=none):Ext H (bz cs H):=fun b o e=>mr hn e
theorem fP{cs:List (Addr×Obj)}{H:Hp}(hc:∀b o,cs.lookup b=some o->H b=some (cM b o)){b:Addr}{x:HO}(hb:H b=some x)(nx:∀f,x≠.ext f):aW cs H b=some x:=by
 cases q:cs.lookup b with
 | none=>rw[b8 q];exact hb
 | some o=>rw[hc b o q]at hb;cases hb;exact absurd rfl (nx _)
theorem zh{cs:List (Addr×Obj)}{H:Hp}(hc:∀b o,cs.lookup b=some o->H b=some (cM b o)):Ext H (bz cs (aW cs H)):=fun b x e=>by
 cases q:cs.lookup b with
 | none=>rw[cD q,b8 q];exact e
 | some o=>rw[dZ q,←hc b o q];exact e
theorem zJ{cs:List (Addr×Obj)}{H H':Hp}(hn:∀b o,cs.lookup b=some o->H b=none)(e:Ext (bz cs H) H'):Ext H (aW cs H'):=fun b x hb=>by
 cases q:cs.lookup b with
 | none=>rw[b8 q];exact e b x (by rw[cD q];exact hb)
 | some o=>rw[hn b o q]at hb;cases hb
def cI(n:Nat)(g:Nat->Nat->Bool):Nat->List Bfs.Pl
 | 0=>[]
 | p+1=>cI n g p++((List.range n).filter (g p)).map fun q:Nat=>(((p:Nat):Int),((q:Nat):Int))
theorem hG{n:Nat}{g:Nat->Nat->Bool}{x:Bfs.Pl}:∀{k:Nat},x∈cI n g k↔∃p q:Nat,p<k/\q<n/\g p q=true/\x=(((p:Nat):Int),((q:Nat):Int))
 | 0=>⟨fun h=>(nomatch h),fun⟨p,_,h,_⟩=>absurd h (Nat.not_lt_zero _)⟩
 | k+1=>by
  show x∈cI n g k++_↔_
  rw[Ew,hG (k:=k)]
  constructor
  ·rintro(⟨p,q,h1,h2⟩ | h)
   ·exact⟨p,q,by omega,h2⟩
   ·obtain⟨q,hq,rfl⟩:=List.mem_map.mp h
    obtain⟨h1,h2⟩:=List.mem_filter.mp hq
    exact⟨k,q,by omega,List.mem_range.mp h1,h2,rfl⟩
  ·rintro⟨p,q,h1,h2,h3,rfl⟩
   by_cases hp:p<k
   ·exact .inl ⟨p,q,hp,h2,h3,rfl⟩
   ·have:p=k:=by omega
    subst this
    exact .inr (List.mem_map.mpr ⟨q,List.mem_filter.mpr ⟨List.mem_range.mpr h2,h3⟩,rfl⟩)
theorem mh(n:Nat)(g:Nat->Bool):((List.range n).filter g).length<=n:=EE (List.length_filter_le _ _) (by rw[List.length_range];exact Ep _)
theorem mN{n:Nat}{g:Nat->Nat->Bool}:∀k:Nat,(cI n g k).length<=k*n
 | 0=>by simp[cI]
 | k+1=>by
  show(cI n g k++_).length<=_
  rw[En,DW,Nat.succ_mul]
  have:=mN (n:=n) (g:=g) k
  have:=mh n (g k)
  omega
theorem bT{H H':Hp}(f:∀a x,ax H a x->ax H' a x){as:List Addr}{xs:List Bfs.Pl}(h:Paired (ax H) as xs):Paired (ax H') as xs:=by
 induction h with
 | nil=>exact .nil
 | cons h t ih=>exact .cons (f _ _ h) ih
theorem iX{H:Hp}{as:List Addr}{xs:List Bfs.Pl}{a:Addr}{x:Bfs.Pl}(h:Paired (ax H) as xs)(ht:ax H a x):Paired (ax H) (as++[a]) (xs++[x]):=by
 induction h with
 | nil=>exact .cons ht .nil
 | cons h _ ih=>exact .cons h ih
theorem rK{H:Hp}{as bs:List Addr}{xs ys:List Bfs.Pl}(h:Paired (ax H) as xs)(h':Paired (ax H) bs ys):Paired (ax H) (as++bs) (xs++ys):=by
 induction h with
 | nil=>exact h'
 | cons h _ ih=>exact .cons h ih
theorem cV{H:Hp}{as:List Addr}{xs:List Bfs.Pl}(h:Paired (ax H) as xs):as.length=xs.length:=by
 induction h with
 | nil=>rfl
 | cons _ _ ih=>rw[EA,EA,ih]
def mB(P:Program)(w:World)(K:DS)(mg:Str->Option Value)(base:Heap):Sp:=fun vs H Q _=>∃vh m ws f pre g,vs=[vh,.ref f]/\aU H vh m ws/\HOuse m ws/\FunR P w K mg base 1 f pre (fun vs H Q=>∃p q:Nat,vs=[.int (p:Nat),.int (q:Nat)]/\(p:Int)<m/\(q:Int)<m/\∀H',Ext H H'->Q (.bl (g p q)) H')/\pre H/\(∀H H',Ext H H'->pre H->pre H') ∧
 ∀l ps H',Ext H H'->H l=none->H' l=some (.lst (List.map V.ref ps))->Paired (ax H') ps (cI m.toNat g m.toNat)->Q (.ref l) H'
abbrev jQ:Stmt:=stq 31
theorem sX:FnScope ["house","choice","pairs","p"] ["house","choice"] (aI jQ):=⟨rfl,rfl,rfl,by decide +kernel,rfl,by decide +kernel,by decide +kernel⟩
theorem zA{P:Program}{w:World}{K:DS}{mg:Str->Option Value}{base:Heap}(D:Dfn K mg "told_pairs" jQ ["house","choice"])(T:Blt mg):Cal P w K mg base "told_pairs" 2 ["house","choice"] (mB P w K mg base):=by
 have nd:=(sX).nd
 refine D.ok sX (fun vs H Q E h=>?_) (fun X hX H vs Q E h=>?_)
 ·obtain⟨vh,m,ws,f,pre,g,rfl,_⟩:=h;rfl
 ·obtain⟨f,cdv,A,outer,s,H0,E0,rfl,hr⟩:=hX
  obtain⟨vh,m,ws,ff,pre,g,rfl,hv,ok,hF,hpre,hmono,q⟩:=h
  have m1:=ok.m1
  have m12:=ok.m12
  obtain⟨hp0,hq0,rfl,hh,_⟩:=id hv
  refine⟨_,(@aj _ _ _ _ _ (@aG _ _ 2 _ _ _ _ nd rfl (Or.inl rfl) (@bJ _ _ _ _ ae) rfl (Or.inl rfl))
    (@aj _ _ _ _ _ (cj PassesOwn.never rfl (cX rfl T.range_ (@aa _ _ _ _ _ (@ai _ _ _ _ _ _ _ (aB K) (pv 0) af (fun _ _=>rfl)) ae rfl)) (aO (i:=3) nd rfl (Or.inr rfl)) (@av _ _ _ (bh (bE K Ed PySem.F.slot_list_extend PySem.F.type_list_extend DK (pv 2) (@aa _ _ _ _ _ (di ["q"] [3,1] (cX rfl T.range_ (@aa _ _ _ _ _ (@ai _ _ _ _ _ _ _ (aB K) (pv 0) af (fun _ _=>rfl)) ae rfl)) (fun _=>(aO (i:=0) (show(["q","p","choice"]:List Str).Nodup from by decide +kernel) rfl (Or.inl rfl) (Or.inr rfl))) (fun _=>(fh (b9 (uY (P:=P) (w:=w) (K:=K) (mg:=mg) (base:=base) hr (pv 2) (@aa _ _ _ _ _ (pv 1) (@aa _ _ _ _ _ (pv 0) ae rfl) rfl))))) (fun _=>(@aM _ _ _ _ _ (@aa _ _ _ _ _ (pv 1) (@aa _ _ _ _ _ (pv 0) ae rfl) rfl)))) ae rfl)))))
    (@av _ _ _ (@aF _ _ _ _ (pv 2))))),?_⟩
  walk_at "rd"
  refine⟨ao (by simp),aq fun l H1 e1 hl hfl=>?_⟩
  walk_at "rd"
  refine aA (ah.of (e1 _ _ hh)) (v:=.int m) rfl ?_
  walk_at "rd"
  refine cR (by omega) ?_
  refine forR (fun p σ H'=>∃ps k1,Ext H H'/\H' l=some (.lst (List.map V.ref ps))/\Paired (ax H') ps (cI m.toNat g p)/\σ=[some (.ref hp0),some (.ref ff),some (.ref l),k1]) ⟨[],_,e1,hl,.nil,rfl⟩ ?_ ?_
  ·rintro p σ H2 hp ⟨ps,k1,e2,hl2,hps,rfl⟩
   rw[show (0:Int)+(p:Int)=((p:Nat):Int) by omega]
   have hpl:=cV hps
   have hpn:=mN (n:=m.toNat) (g:=g) p
   have hpm:p*m.toNat<=12*12:=Nat.mul_le_mul (by omega) (by omega)
   walk_at "rd"
   refine⟨bP (ag.of hl2),?_⟩
   walk_at "rd"
   refine aA (ah.of (e2 _ _ hh)) (v:=.int m) rfl ?_
   walk_at "rd"
   refine cR (by omega) ?_
   refine ef (fun i ys H'=>Ext H2 H'/\∃cs,ys=List.map V.ref cs/\Paired (ax H') cs (((List.range i).filter (g p)).map fun q:Nat=>(((p:Nat):Int),((q:Nat):Int)))) (ao (by omega)) ⟨Ext.rfl' _,[],rfl,.nil⟩ ?_ ?_ ?_
   ·rintro i ys H' _ ⟨_,cs,rfl,hcs⟩
    rw[DW,cV hcs,DW]
    exact mh i (g p)
   ·rintro i ys H3 hi ⟨e3,cs,rfl,hcs⟩
    rw[show (0:Int)+(i:Int)=((i:Nat):Int) by omega]
    have e23:=e2.trans e3
    walk_at "rd"
    refine wy ?_
    walk_at "rd"
    refine⟨ff,pre,_,rfl,hF,hmono _ _ e23 hpre,?_⟩
    walk_at "rd"
    refine⟨hmono _ _ e23 hpre,p,i,rfl,by omega,by omega,fun H4 e4=>?_⟩
    have e24:=e3.trans e4
    cases hg:g p i with
    | false=>
     refine rd_exb (aw ⟨e24,cs,rfl,?_⟩)
     rw[List.range_succ,List.filter_append]
     have:List.filter (g p) [i]=[]:=by
      rw[List.filter_cons,if_neg (by rw[hg];exact El)]
      rfl
     rw[this,List.append_nil]
     exact bT (fun a x h=>e4 _ _ h) hcs
    | true=>
     refine rd_exb (aC ?_)
     walk_at "rd"
     refine⟨ao (by simp),aq fun t H5 e5 ht _=>?_⟩
     refine⟨e24.trans e5,cs++[t],?_,?_⟩
     ·rw[Em];rfl
     ·rw[List.range_succ,List.filter_append,Em]
      have:List.filter (g p) [i]=[i]:=by
       rw[List.filter_cons,if_pos hg]
       rfl
      rw[this]
      exact iX (bT (fun a x h=>(e4.trans e5) _ _ h) hcs) ht
   ·rintro ys H3 p9 ⟨e3,cs,rfl,hcs⟩ hp9
    have e4:=bw (o:=.lst (List.map V.ref cs)) hp9
    have h9:(upd H3 p9 (.lst (List.map V.ref cs))) p9=_:=aL
    have hcs4:=bT (fun a x h=>e4 _ _ h) hcs
    have e24:=e3.trans e4
    have hl4:=e24 _ _ hl2
    have hps4:=bT (fun a x h=>e24 _ _ h) hps
    generalize upd H3 p9 (.lst (List.map V.ref cs))=H4 at e4 h9 hcs4 e24 hl4 hps4 ⊢
    have hcl:=cV hcs
    rw[DW]at hcl
    have hfl2:=mh m.toNat (g p)
    walk_at "rd"
    refine⟨l,p9,_,_,rfl,rfl,hl4,h9,ao (by rw[DW,DW];omega),?_⟩
    walk_at "rd"
    refine⟨ps++cs,_,cB (e2.trans e24) hfl,?_,?_,rfl⟩
    ·rw[aL,Em]
    ·exact rK (bT (fun a x h=>ax.put hl4 (fun xs z=>by cases z) h) hps4) (bT (fun a x h=>ax.put hl4 (fun xs z=>by cases z) h) hcs4)
  ·rintro σ H2 ⟨ps,k1,e2,hl2,hps,rfl⟩
   walk_at "rd"
   exact q l ps H2 e2 hfl hl2 hps
def eS(K:DS):Prop:=∀x∈(["kept","low_levels","risen"]:List Str),∀y∈(["kept","low_levels","risen"]:List Str),x≠y->∀c T c' T',PySem.W.tabIn K x=some (c,T)->PySem.W.tabIn K y=some (c',T')->T'≠T
def xM(K:DS):Bool:=(["kept","low_levels","risen"]:List Str).all fun x=>(["kept","low_levels","risen"]:List Str).all fun y=>x == y || (match PySem.W.tabIn K x,PySem.W.tabIn K y with | some a,some b=>b.2 != a.2 | _,_=>true)
theorem zj{K:DS}(h:xM K=true):eS K:=fun x hx y hy hn c T c' T' e1 e2=>by
 have h1:=EG.mp (EG.mp h x hx) y hy
 rw[e1,e2,Bool.or_eq_true]at h1
 rcases h1 with h1 | h1
 ·exact absurd (eq_of_beq h1) hn
 ·exact bne_iff_ne.mp h1
structure Tbs(K:DS)(H:Hp):Prop where
 kept:df K "kept" ("kept" ++ ".<locals>." ++ "<lambda>") 120 29 H
 low:df K "low_levels" ("low_levels" ++ ".<locals>." ++ "<lambda>") 153 39 H
 risen:df K "risen" ("risen" ++ ".<locals>." ++ "<lambda>") 125 29 H
theorem Tbs.ext{K:DS}{H H':Hp}(e:Ext H H')(h:Tbs K H):Tbs K H':=⟨h.kept.ext e,h.low.ext e,h.risen.ext e⟩
theorem cb.et{H H':Hp}{p:Addr}{kk:List (List Key)}(e:Et H H')(h:cb H p kk):cb H' p kk:=by
 obtain⟨bs,h1,h2,h3⟩:=h
 exact⟨bs,e _ _ h1 (fun ps z=>by cases z),h2,fun j b k e1 e2=>e _ _ (h3 j b k e1 e2) (fun ps z=>by cases z)⟩
theorem aU.et{H H':Hp}{v:V}{m:Int}{ws:List Way}(e:Et H H')(h:aU H v m ws):aU H' v m ws:=by
 obtain⟨p,q,rfl,h1,h2⟩:=h
 exact⟨p,q,rfl,e _ _ h1 (fun ps z=>by cases z),h2.et e⟩
theorem Rows.et{H H':Hp}(e:Et H H'){q:Addr}{rs:List Addr}{n:Nat}{M:Nat->Nat->Bool}(h:Rows H q rs n M):Rows H' q rs n M:=⟨e _ _ h.1 (fun ps z=>by cases z),fun i r hi=>e _ _ (h.2 i r hi) (fun ps z=>by cases z)⟩
theorem aE.et{H H':Hp}{bs:List Addr}{ws:List Way}(e:Et H H')(h:aE H bs ws):aE H' bs ws:=⟨h.1,fun j b w e1 e2=>e _ _ (h.2 j b w e1 e2) (fun ps z=>by cases z)⟩
theorem ax.et{H H':Hp}(e:Et H H'){p:Addr}{x:Bfs.Pl}(h:ax H p x):ax H' p x:=e _ _ h (fun ps z=>by cases z)
def dS(H:Hp)(l:Addr)(n:Nat)(R:Nat->Nat->Prop):Prop:=∃ps g,H l=some (.lst (List.map V.ref ps))/\Paired (ax H) ps (cI n g n)/\∀i j,i<n->j<n->(g i j=true↔R i j)
theorem dS.et{H H':Hp}(e:Et H H'){l:Addr}{n:Nat}{R:Nat->Nat->Prop}(h:dS H l n R):dS H' l n R:=by
 obtain⟨ps,g,h1,h2,h3⟩:=h
 exact⟨ps,g,e _ _ h1 (fun ps z=>by cases z),bT (fun a x h=>h.et e) h2,h3⟩
theorem held{cs:List (Addr×Obj)}{H3 H4:Hp}(hn:∀b o,cs.lookup b=some o->H3 b=none)(e4:Ext (bz cs H3) H4):(∀b o,cs.lookup b=some o->H4 b=some (cM b o))/\Ext H3 (aW cs H4)/\(∀l,bz cs H3 l=none->aW cs H4 l=H4 l)/\∀b x,H4 b=some x->(∀f,x≠.ext f)->aW cs H4 b=some x:=by
 have hc:∀b o,cs.lookup b=some o->H4 b=some (cM b o):=fun b o q=>e4 _ _ (dZ q)
 refine⟨hc,zJ hn e4,fun l hl=>?_,fun b x hb nx=>fP hc hb nx⟩
 cases q:cs.lookup l with
 | none=>exact b8 q
 | some o=>rw[dZ q]at hl;cases hl
theorem n8{α:Type}{cp:List α}(h:cp.length=1):∃e,cp=[e]:=by
 cases cp with
 | nil=>exact absurd h (by simp)
 | cons e r=>
  cases r with
  | nil=>exact⟨e,rfl⟩
  | cons _ _=>exact absurd h (by simp)
theorem jF{α:Type}{cp:List α}(h:cp.length=2):∃e e',cp=[e,e']:=by
 cases cp with
 | nil=>exact absurd h (by simp)
 | cons e r=>
  obtain⟨e',rfl⟩:=n8 (cp:=r) (by simpa using h)
  exact⟨e,e',rfl⟩
theorem zf{α:Type}{cp:List α}(h:cp.length=3):∃e e' e'',cp=[e,e',e'']:=by
 cases cp with
 | nil=>exact absurd h (by simp)
 | cons e r=>
  obtain⟨e',e'',rfl⟩:=jF (cp:=r) (by simpa using h)
  exact⟨e,e',e'',rfl⟩
theorem nN{P:Program}{w:World}{K:DS}{mg:Str->Option Value}{base:Heap}{k:Nat}{f c:Addr}{q:Str}{params:Arguments}{body:Expr}{scope:Scope}{cl cells:List (Str×Addr)}{H0:Hp}(hf:H0 f=some (dJ f c q params body scope cl))(C:ClOk scope cells cl)(ps:List Str)(cp:List Cap)(R:List V->Hp->VK->Prop)(I:Hp->Prop)
  (S:LamSc ps scope) (bind:∀(pm cv ctv:Value) (us:List Value),us.length=ps.length->bindArgs (PySem.W.kla_fn "<lambda>" q params body scope cl pm cv ctv) ⟨us,[]⟩=pure (ps.zip us))
  (hR:∀vs H Q,R vs H Q->vs.length=ps.length)
  (hbody:∀(A:Around) (outer:List Env) (s:Shared) (H:Hp) (vs:List V) (Q:VK),Room k (A.deeper (dQ q scope s.heap.objs.size f (.ref c) cl))->gh f c q params body scope cl cp H->I H->R vs H Q →
   ∃te,PE (ja P w K mg base (ps++cp.map (·.n)) q scope f (.ref c) cl A outer s (aW (cellsOf cp) H)) body te/\te (vs.map some++cp.map fun e=>some e.v) (aW (cellsOf cp) H) fun v H'=>(∀b o,(cellsOf cp).lookup b=some o->H' b=none)->Q v (bz (cellsOf cp) H')) :
  FunR P w K mg base (k+1) f (fun H=>gh f c q params body scope cl cp H/\I H) R:=Ai I S C bind hR hbody
def nG(K:DS):Sp:=fun vs H Q _=>∃vh m ws,vs=[vh]/\aU H vh m ws/\HOuse m ws/\eS K/\Tbs K H/\∀l H',Et H H'->Tbs K H'->dS H' l m.toNat (Kpt ws m.toNat)->Q (.ref l) H'
abbrev kh:Stmt:=stq 36
theorem xk:FnScope ["house","table"] ["house"] (aI kh):=⟨rfl,rfl,rfl,by decide +kernel,rfl,by decide +kernel,by decide +kernel⟩
theorem Df{P:Program}{w:World}{K:DS}{mg:Str->Option Value}{base:Heap}(D:Dfn K mg "kept" kh ["house"])(T:Blt mg){c9 T9:Addr}(B:Tab K mg base "kept" c9 T9)(C_told_pairs:Cal P w K mg base "told_pairs" 2 ["house","choice"] (mB P w K mg base))(C_kept_table:Cal P w K mg base "kept_table" 3 ["house"] (oN K))(C_refuse_no_house:Cal P w K mg base "refuse_no_house" 6 ["thing"] (hZ K)):Cal P w K mg base "kept" 7 ["house"] (nG K):=by
 have nd:=(xk).nd
 refine D.okL B xk (fun vs H Q E h=>?_) (fun X hX H vs Q E h=>?_)
 ·obtain⟨vh,m,ws,rfl,_⟩:=h;rfl
 ·obtain⟨f,A,outer,s,H0,E0,rfl,hr⟩:=hX
  obtain⟨vh,m,ws,rfl,hv,ok,dis,htb,q⟩:=h
  have m1:=ok.m1
  have m12:=ok.m12
  refine⟨_,(aj (bh (aH C_refuse_no_house hr (aa (pv 0) ae)))
    (aj (aG (i:=1) nd rfl (Or.inr rfl) (aH C_kept_table hr (aa (pv 0) ae)))
    (av (aF (oM [1] C_told_pairs hr (aa (pv 0) (aa (mf rfl rfl B.hd B.blt B.gl (by decide +kernel) rfl rfl rfl) ae))))))),?_⟩
  walk_at "rd"
  refine⟨vh,m,ws,rfl,hv,ok,fun H1 e1=>?_⟩
  walk_at "rd"
  refine⟨vh,m,ws,rfl,hv.ext e1,ok,fun tq rs M H2 kt km=>?_⟩
  have e02:=e1.trans kt.ext
  have hrows:=kt.rows
  have hrl:=kt.len
  walk_at "rd"
  show iG _ [1] _ (["house","table"]:List Str) _ _ _ _
  generalize PySem.Env.cells _=cells0
  refine mz ?_
  walk_at "rd"
  refine m9 ?_
  refine mW (x:="kept") (htb.ext e02).kept B.tin fun fl c' cl H3 hcl e3 ht3 ot hf hc'=>?_
  have t3:Tbs K H3:=⟨ht3,ot "low_levels" _ _ _ (fun c2 T2 e2=>dis "kept" (by simp) "low_levels" (by simp) (by decide +kernel) _ _ _ _ B.tin e2) (htb.ext e02).low,ot "risen" _ _ _ (fun c2 T2 e2=>dis "kept" (by simp) "risen" (by simp) (by decide +kernel) _ _ _ _ B.tin e2) (htb.ext e02).risen⟩
  walk_at "rd"
  refine⟨fun j hj=>?_,fun cp hlen hcp=>?_⟩
  ·rw[Eg.mp hj]
   exact⟨_,rfl⟩
  obtain⟨⟨n,c,o,v⟩,rfl⟩:=n8 hlen
  obtain⟨hN,hcc,hσ,hnone,u,hdat,hrel⟩:=hcp 0 1 _ rfl rfl
  clear hcp hlen
  dsimp only at hN hcc hσ hnone hdat hrel
  have hN':(Str.ofString "table")=n:=Option.some.inj hN
  have hσ':(V.ref tq)=v:=Option.some.inj (Option.some.inj hσ)
  clear hN hσ
  subst hN'
  subst hσ'
  have hn3:∀b o',(cellsOf [⟨Str.ofString "table",c,o,V.ref tq⟩]).lookup b=some o'->H3 b=none:=fun b o' hb=>by
   obtain⟨e,he,rfl,rfl⟩:=fS hb
   rw[Eg.mp he]
   exact hnone
  have ex:=j8 hn3
  have hrows3:=(hrows.et e3).ext ex
  have hv3:=((hv.ext e02).et e3).ext ex
  have hcaps:Caps (bz (cellsOf [⟨Str.ofString "table",c,o,V.ref tq⟩]) H3) cl [⟨Str.ofString "table",c,o,V.ref tq⟩]:=by
   obtain⟨c2,hc2⟩:=hcl.has (Str.ofString "table") rfl
   have hc3:=(hcl.fr _ _ hc2).2
   rw[hcc]at hc3
   cases hc3
   refine⟨fun e he=>?_,fun x d hx=>?_⟩
   ·rw[Eg.mp he]
    exact⟨hc2,dZ (by simp[cellsOf]),u,hdat,hrel⟩
   ·have hm:=gU (hcl.fr x d hx).1
    simp at hm
    subst hm
    rw[hc2]at hx
    cases hx
    exact⟨_,Eg.mpr rfl,rfl,rfl⟩
  have hF:=nN (P:=P) (w:=w) (K:=K) (mg:=mg) (base:=base) (k:=0) hf hcl (["p","q"]:List Str) [⟨Str.ofString "table",c,o,V.ref tq⟩] (fun vs H Q=>∃p q:Nat,vs=[.int (p:Nat),.int (q:Nat)]/\(p:Int)<m/\(q:Int)<m/\∀H',Ext H H'->Q (.bl (M p q)) H') (fun H=>Rows H tq rs m.toNat M) ⟨rfl,rfl,rfl,by decide +kernel,by decide +kernel⟩ (fun _ _ _ us hl=>by obtain⟨u1,u2,rfl⟩:=jF hl;rfl) (fun vs H Q h=>by obtain⟨p,q,rfl,_⟩:=h;rfl) (fun A outer s H vs Q hrL hpre hI hR=>by
   obtain⟨p,q,rfl,hp,hq,hQ⟩:=hR
   have hlk:=hpre.2.2.look
   have hI':Rows (aW (cellsOf [⟨Str.ofString "table",c,o,V.ref tq⟩]) H) tq rs m.toNat M:=⟨fP hlk hI.1 (fun f z=>by cases z),fun i r hi=>fP hlk (hI.2 i r hi) (fun f z=>by cases z)⟩
   refine⟨_,(ai (aS K) (ai (aS K) (pv 2) (pv 0) (fun _ _=>rfl)) (pv 1) (fun _ _=>rfl)),?_⟩
   have hb:=zh hlk
   generalize aW (cellsOf [⟨Str.ofString "table",c,o,V.ref tq⟩]) H=HU at hI' hb ⊢
   have hp2:p<rs.length:=by omega
   have gp:rs[p]?=some rs[p]:=DX hp2
   have rp:=hI'.2 p _ gp
   generalize rs[p]=ap at gp rp
   show gN _ _ _ [some (.int (p:Nat)),some (.int (q:Nat)),some (.ref tq)] _ _
   walk_at "rd"
   refine aQ (ag.of hI'.1) (v:=.ref ap) (dX (by rw[DY,gp];rfl)) ?_
   walk_at "rd"
   refine aQ (ag.of rp) (dj (by omega) (by omega)) ?_
   rw[Ei]
   exact fun _=>hQ _ hb)
  refine⟨vh,m,ws,fl,_,M,rfl,hv3,ok,hF,⟨⟨ex _ _ hf,ex _ _ hc',hcaps⟩,hrows3⟩,fun H H' e h=>⟨h.1.ext e,h.2.ext e⟩,fun l ps H4 e4 hl hl4 hps=>?_⟩
  obtain⟨a1,a2,a3,a4⟩:=held hn3 e4
  exact⟨a1,q l _ ((e02.et.trans e3).trans a2.et) (t3.ext a2) ⟨ps,M,a4 _ _ hl4 (fun f z=>by cases z),bT (fun a x h=>a4 _ _ h (fun f z=>by cases z)) hps,km⟩⟩
def aZ(ws:List Way)(n:Nat)(i j:Nat):Prop:=∃u∈ws,u.deed = "up"/\u.room.toNat=i/\Kpt ws n u.other.toNat j
theorem p0{cs:List (Addr×Obj)}{H H':Hp}(hc:∀b o,cs.lookup b=some o->H b=some (cM b o))(e:Ext (aW cs H) H'):Ext H (bz cs H'):=fun b x hb=>by
 cases q:cs.lookup b with
 | none=>rw[cD q];exact e b x (by rw[b8 q];exact hb)
 | some o=>rw[dZ q,←hc b o q];exact hb
def lW(us:List Way)(M:Nat->Nat->Bool)(p q:Nat):Bool:=((us.filter fun u=>decide (u.room=(p:Int))).map fun u=>M u.other.toNat q).any id
def mQ(K:DS):Sp:=fun vs H Q _=>∃vh m ws,vs=[vh]/\aU H vh m ws/\HOuse m ws/\eS K/\Tbs K H/\∀l H',Et H H'->Tbs K H'->dS H' l m.toNat (aZ ws m.toNat)->Q (.ref l) H'
abbrev kG:Stmt:=stq 37
theorem vg:FnScope ["house","table","ups"] ["house"] (aI kG):=⟨rfl,rfl,rfl,by decide +kernel,rfl,by decide +kernel,by decide +kernel⟩
theorem BH{P:Program}{w:World}{K:DS}{mg:Str->Option Value}{base:Heap}(D:Dfn K mg "risen" kG ["house"])(T:Blt mg){c9 T9:Addr}(B:Tab K mg base "risen" c9 T9)(C_told_pairs:Cal P w K mg base "told_pairs" 2 ["house","choice"] (mB P w K mg base))(C_ways_of_deed:Cal P w K mg base "ways_of_deed" 1 ["house","deed"] (jC K))(C_kept_table:Cal P w K mg base "kept_table" 3 ["house"] (oN K))(C_refuse_no_house:Cal P w K mg base "refuse_no_house" 6 ["thing"] (hZ K)):Cal P w K mg base "risen" 7 ["house"] (mQ K):=by
 have nd:=(vg).nd
 refine D.okL B vg (fun vs H Q E h=>?_) (fun X hX H vs Q E h=>?_)
 ·obtain⟨vh,m,ws,rfl,_⟩:=h;rfl
 ·obtain⟨f,A,outer,s,H0,E0,rfl,hr⟩:=hX
  obtain⟨vh,m,ws,rfl,hv,ok,dis,htb,q⟩:=h
  have m1:=ok.m1
  have m12:=ok.m12
  have few:=ok.few
  refine⟨_,(aj (bh (aH C_refuse_no_house hr (aa (pv 0) ae)))
    (aj (aG (i:=1) nd rfl (Or.inr rfl) (aH C_kept_table hr (aa (pv 0) ae)))
    (aj (aG (i:=2) nd rfl (Or.inr rfl) (aH C_ways_of_deed hr (aa (pv 0) (aa bD ae))))
    (av (aF (oM [2,1] C_told_pairs hr (aa (pv 0) (aa (mf rfl rfl B.hd B.blt B.gl (by decide +kernel) rfl rfl rfl) ae)))))))),?_⟩
  walk_at "rd"
  refine⟨vh,m,ws,rfl,hv,ok,fun H1 e1=>?_⟩
  walk_at "rd"
  refine⟨vh,m,ws,rfl,hv.ext e1,ok,fun tq rs M H1b kt km=>?_⟩
  walk_at "rd"
  refine⟨vh,m,ws,_,rfl,hv.ext (e1.trans kt.ext),ok,fun lu cu us H2 e2 hlu hlu2 hau hus=>?_⟩
  have e02:=(e1.trans kt.ext).trans e2
  have hrows:=kt.rows.ext e2
  have hrl:=kt.len
  have hcu:=hau.1
  have hul:us.length<=100:=by rw[hus];exact EE (List.length_filter_le _ _) few
  have hin:∀u∈us,u∈ws/\u.deed=Str.ofString "up":=fun u hu=>by
   rw[hus]at hu
   obtain⟨h1,h2⟩:=List.mem_filter.mp hu
   exact⟨h1,of_decide_eq_true h2⟩
  walk_at "rd"
  show iG _ [2,1] _ (["house","table","ups"]:List Str) _ _ _ _
  generalize PySem.Env.cells _=cells0
  refine mz ?_
  walk_at "rd"
  refine m9 ?_
  refine mW (x:="risen") (htb.ext e02).risen B.tin fun fl c' cl H3 hcl e3 ht3 ot hf hc'=>?_
  have t3:Tbs K H3:=⟨ot "kept" _ _ _ (fun c2 T2 e2=>dis "risen" (by simp) "kept" (by simp) (by decide +kernel) _ _ _ _ B.tin e2) (htb.ext e02).kept,ot "low_levels" _ _ _ (fun c2 T2 e2=>dis "risen" (by simp) "low_levels" (by simp) (by decide +kernel) _ _ _ _ B.tin e2) (htb.ext e02).low,ht3⟩
  walk_at "rd"
  refine⟨fun j hj=>?_,fun cp hlen hcp=>?_⟩
  ·rcases Ek.mp hj with rfl | hj
   ·exact⟨_,rfl⟩
   ·rw[Eg.mp hj]
    exact⟨_,rfl⟩
  obtain⟨⟨n,c,o,v⟩,⟨n',d,o',v'⟩,rfl⟩:=jF hlen
  obtain⟨hN,hcc,hσ,hnone,u,hdat,hrel⟩:=hcp 0 2 _ rfl rfl
  obtain⟨hN2,hcc2,hσ2,hnone2,u2,hdat2,hrel2⟩:=hcp 1 1 _ rfl rfl
  clear hcp hlen
  dsimp only at hN hcc hσ hnone hdat hrel hN2 hcc2 hσ2 hnone2 hdat2 hrel2
  have hN':(Str.ofString "ups")=n:=Option.some.inj hN
  have hσ':(V.ref lu)=v:=Option.some.inj (Option.some.inj hσ)
  have hN2':(Str.ofString "table")=n':=Option.some.inj hN2
  have hσ2':(V.ref tq)=v':=Option.some.inj (Option.some.inj hσ2)
  clear hN hσ hN2 hσ2
  subst hN'
  subst hσ'
  subst hN2'
  subst hσ2'
  obtain⟨c2,hc2⟩:=hcl.has (Str.ofString "ups") rfl
  obtain⟨d2,hd2⟩:=hcl.has (Str.ofString "table") rfl
  have hc3:=(hcl.fr _ _ hc2).2
  have hd3:=(hcl.fr _ _ hd2).2
  rw[hcc]at hc3
  rw[hcc2]at hd3
  cases hc3
  cases hd3
  have ncd:c≠d:=fun z=>by
   have:=hcl.inj _ _ _ hc2 (z ▸ hd2)
   exact absurd this (by decide +kernel)
  have hn3:∀b o9,(cellsOf [⟨Str.ofString "ups",c,o,V.ref lu⟩,⟨Str.ofString "table",d,o',V.ref tq⟩]).lookup b=some o9->H3 b=none:=fun b o9 hb=>by
   obtain⟨e,he,rfl,rfl⟩:=fS hb
   rcases Ek.mp he with rfl | he
   ·exact hnone
   ·rw[Eg.mp he]
    exact hnone2
  have ex:=j8 hn3
  have hrows3:=(hrows.et e3).ext ex
  have hlu3:=ex _ _ (e3 _ _ hlu2 (fun ps z=>by cases z))
  have hau3:=(hau.et e3).ext ex
  have hv3:=((hv.ext e02).et e3).ext ex
  have hcaps:Caps (bz (cellsOf [⟨Str.ofString "ups",c,o,V.ref lu⟩,⟨Str.ofString "table",d,o',V.ref tq⟩]) H3) cl [⟨Str.ofString "ups",c,o,V.ref lu⟩,⟨Str.ofString "table",d,o',V.ref tq⟩]:=by
   refine⟨fun e he=>?_,fun x g hx=>?_⟩
   ·rcases Ek.mp he with rfl | he
    ·exact⟨hc2,dZ (by simp[cellsOf]),u,hdat,hrel⟩
    ·rw[Eg.mp he]
     refine⟨hd2,dZ ?_,u2,hdat2,hrel2⟩
     show List.lookup d ((c,o)::[(d,o')])=some o'
     rw[List.lookup_cons,show (d == c)=false from beq_eq_false_iff_ne.mpr (Ne.symm ncd),List.lookup_cons,beq_self_eq_true]
   ·have hm:=gU (hcl.fr x g hx).1
    simp at hm
    rcases hm with rfl | rfl
    ·first | (rw[hc2]at hx;cases hx;exact⟨_,Ec,rfl,rfl⟩) | (rw[hd2]at hx;cases hx;exact⟨_,DZ _ (Eg.mpr rfl),rfl,rfl⟩)
    ·first | (rw[hc2]at hx;cases hx;exact⟨_,Ec,rfl,rfl⟩) | (rw[hd2]at hx;cases hx;exact⟨_,DZ _ (Eg.mpr rfl),rfl,rfl⟩)
  have hF:=nN (P:=P) (w:=w) (K:=K) (mg:=mg) (base:=base) (k:=0) hf hcl (["p","q"]:List Str) [⟨Str.ofString "ups",c,o,V.ref lu⟩,⟨Str.ofString "table",d,o',V.ref tq⟩] (fun vs H Q=>∃p q:Nat,vs=[.int (p:Nat),.int (q:Nat)]/\(p:Int)<m/\(q:Int)<m/\∀H',Ext H H'->Q (.bl (lW us M p q)) H') (fun H=>Rows H tq rs m.toNat M/\H lu=some (.lst (List.map V.ref cu))/\aE H cu us) ⟨rfl,rfl,rfl,by decide +kernel,by decide +kernel⟩ (fun _ _ _ us hl=>by obtain⟨u1,u2,rfl⟩:=jF hl;rfl) (fun vs H Q h=>by obtain⟨p,q,rfl,_⟩:=h;rfl) (fun A outer s H vs Q hrL hpre hI hR=>by
   obtain⟨p,q,rfl,hp,hq,hQ⟩:=hR
   have hlk:=hpre.2.2.look
   obtain⟨hI1,hI2,hI3⟩:=hI
   have hI1':Rows (aW (cellsOf [⟨Str.ofString "ups",c,o,V.ref lu⟩,⟨Str.ofString "table",d,o',V.ref tq⟩]) H) tq rs m.toNat M:=⟨fP hlk hI1.1 (fun f z=>by cases z),fun i r hi=>fP hlk (hI1.2 i r hi) (fun f z=>by cases z)⟩
   have hI2':=fP hlk hI2 (fun f z=>by cases z)
   have hI3':aE (aW (cellsOf [⟨Str.ofString "ups",c,o,V.ref lu⟩,⟨Str.ofString "table",d,o',V.ref tq⟩]) H) cu us:=⟨hI3.1,fun j b w e1 e2=>fP hlk (hI3.2 j b w e1 e2) (fun f z=>by cases z)⟩
   refine⟨_,(bc (BC K rfl) rfl T.any_ PyProof.Rows.boot_any (aa (di ["way"] [1,3,0] (cz K (pv 2)) (fun _=>(aO (i:=0) (show(["way","q","table","p"]:List Str).Nodup from by decide +kernel) rfl (Or.inl rfl) (Or.inr rfl))) (fun _=>(fh (aT bL (ai (aB K) (pv 0) af (fun _ _=>rfl)) (pv 3) (aP _)))) (fun _=>(ai (aS K) (ai (aS K) (pv 2) (ai (aB K) (pv 0) af (fun _ _=>rfl)) (fun _ _=>rfl)) (pv 1) (fun _ _=>rfl)))) ae)),?_⟩
   have hb:∀H',Ext (aW (cellsOf [⟨Str.ofString "ups",c,o,V.ref lu⟩,⟨Str.ofString "table",d,o',V.ref tq⟩]) H) H'->Ext H (bz (cellsOf [⟨Str.ofString "ups",c,o,V.ref lu⟩,⟨Str.ofString "table",d,o',V.ref tq⟩]) H'):=fun H' e=>p0 hlk e
   generalize aW (cellsOf [⟨Str.ofString "ups",c,o,V.ref lu⟩,⟨Str.ofString "table",d,o',V.ref tq⟩]) H=HU at hI1' hI2' hI3' hb ⊢
   show jM _ _ [some (.int (p:Nat)),some (.int (q:Nat)),some (.ref lu),some (.ref tq)] _ _
   walk_at "rd"
   refine cw (ag.of hI2') ?_
   refine gj (xs:=List.map V.ref cu) (fun i ys H'=>H'=HU/\ys=(((us.take i).filter fun u=>decide (u.room=(p:Int))).map fun u=>M u.other.toNat q).map V.bl) (ao (by rw[DW];omega)) ⟨rfl,rfl⟩ (fun i ys H' _ h=>⟨by rw[h.1];exact ag.of hI2',by rw[h.2,DW,DW];exact EE (List.length_filter_le _ _) (by rw[List.length_take];omega)⟩) ?_ ?_
   ·rintro i v ys H4 hx ⟨rfl,rfl⟩
    rw[DY]at hx
    obtain⟨b,hb',rfl⟩:=Eh.mp hx
    have hi:i<us.length:=by rw[←hcu];exact(Ee.mp hb').1
    have gu:us[i]?=some us[i]:=DX hi
    have hb0:=hI3'.2 i b _ hb' gu
    generalize us[i]=uu at gu hb0
    have oku:=ok.ok uu (hin uu (Ef gu)).1
    have v0:=oku.r0
    have v1:=oku.r1
    have v2:=oku.o0
    have v3:=oku.o1
    have x2:uu.other.toNat<rs.length:=by omega
    have r2:rs[uu.other.toNat]?=some rs[uu.other.toNat]:=DX x2
    have w2:=hI1'.2 _ _ r2
    generalize rs[uu.other.toNat]=a2 at r2 w2
    have at2:bA (rs.map V.ref) uu.other=some (.ref a2):=dO v2 (by rw[DY,r2];rfl)
    walk_at "rd"
    refine aA (ah.of hb0) (v:=.int uu.room) rfl ?_
    walk_at "rd"
    cases hc:decide (uu.room=(p:Int))with
    | true=>
     refine aC ?_
     walk_at "rd"
     refine aA (ah.of hb0) (v:=.int uu.other) rfl ?_
     walk_at "rd"
     refine aQ (ag.of hI1'.1) at2 ?_
     walk_at "rd"
     refine aQ (ag.of w2) (dj (by omega) (by omega)) ?_
     rw[Ei]
     refine⟨rfl,?_⟩
     rw[List.take_add_one,gu,List.filter_append,Em,Em]
     congr 1
     show[V.bl _]=List.map V.bl (List.map _ (List.filter _ [uu]))
     rw[List.filter_cons,if_pos hc]
     rfl
    | false=>
     refine aw ⟨rfl,?_⟩
     have hno:List.filter (fun u:Way=>decide (u.room=(p:Int))) [uu]=[]:=by
      rw[List.filter_cons,if_neg (by rw[hc];exact El)]
      rfl
     rw[List.take_add_one,gu,List.filter_append]
     show _=List.map V.bl (List.map _ (_++List.filter _ [uu]))
     rw[hno,List.append_nil]
   ·rintro ys H4 p9 ⟨hH,rfl⟩ hp9
    subst hH
    rw[DW,hcu,EB]
    have e9:=bw (o:=.lst (((us.filter fun u=>decide (u.room=(p:Int))).map fun u=>M u.other.toNat q).map V.bl)) hp9
    walk_at "rd"
    refine⟨p9,_,rfl,ag.of aL,?_⟩
    exact fun _=>hQ _ (hb _ e9))
  refine⟨vh,m,ws,fl,_,lW us M,rfl,hv3,ok,hF,⟨⟨ex _ _ hf,ex _ _ hc',hcaps⟩,hrows3,hlu3,hau3⟩,fun H H' e h=>⟨h.1.ext e,h.2.1.ext e,e _ _ h.2.2.1,h.2.2.2.ext e⟩,fun l ps H4 e4 hl hl4 hps=>?_⟩
  obtain⟨a1,a2,a3,a4⟩:=held hn3 e4
  refine⟨a1,q l _ ((e02.et.trans e3).trans a2.et) (t3.ext a2) ⟨ps,lW us M,a4 _ _ hl4 (fun f z=>by cases z),bT (fun a x h=>a4 _ _ h (fun f z=>by cases z)) hps,fun i j hi hj=>?_⟩⟩
  unfold lW aZ
  rw[List.any_map,EH]
  constructor
  ·rintro⟨x,hx,hm⟩
   obtain⟨x1,x2⟩:=List.mem_filter.mp hx
   have x2:=of_decide_eq_true x2
   obtain⟨y1,y2⟩:=hin x x1
   exact⟨x,y1,y2,by omega,(km _ _ (g9 ok.ok y1).2 hj).mp hm⟩
  ·rintro⟨x,h1,h2,h3,h4⟩
   have r0:=(ok.ok x h1).r0
   refine⟨x,List.mem_filter.mpr ⟨by rw[hus];exact List.mem_filter.mpr ⟨h1,decide_eq_true h2⟩,decide_eq_true (by omega)⟩,?_⟩
   exact(km _ _ (g9 ok.ok h1).2 hj).mpr h4
def cE(us:List Way)(x:Bfs.Pl):List Bfs.Pl:=(us.filter fun w=>bY w x.1 x.2).map fun w=>(w.other,x.2+rz w.deed)
def tp(K:DS):Sp:=fun vs H Q _=>∃l bs us p x,vs=[.ref l,.ref p]/\H l=some (.lst (List.map V.ref bs))/\aE H bs us/\(∀w∈us,bC w.deed)/\us.length<=100/\ax H p x/\∀l' ps H',Ext H H'->H l'=none->H' l'=some (.lst (List.map V.ref ps))->Paired (ax H') ps (cE us x)->Q (.ref l') H'
abbrev lC:Stmt:=stq 28
theorem vj:FnScope ["ways","place"] ["ways","place"] (aI lC):=⟨rfl,rfl,rfl,by decide +kernel,rfl,by decide +kernel,by decide +kernel⟩
theorem yq{P:Program}{w:World}{K:DS}{mg:Str->Option Value}{base:Heap}(D:Dfn K mg "led_to_from" lC ["ways","place"])(T:Blt mg)(C_is_open:Cal P w K mg base "is_open" 1 ["way","place"] (m3 K))(C_led_to:Cal P w K mg base "led_to" 2 ["way","place"] (nZ K)):Cal P w K mg base "led_to_from" 3 ["ways","place"] (tp K):=by
 have nd:=(vj).nd
 refine D.ok vj (fun vs H Q E h=>?_) (fun X hX H vs Q E h=>?_)
 ·obtain⟨l,bs,us,p,x,rfl,_⟩:=h;rfl
 ·obtain⟨f,cdv,A,outer,s,H0,E0,rfl,hr⟩:=hX
  obtain⟨l,bs,us,p,x,rfl,hl,hal,hdd,hul,hpx,q⟩:=h
  have hbl:=hal.1
  refine⟨_,(@av _ _ _ (@aF _ _ _ _ (di ["way"] [1] (cz K (pv 0)) (fun _=>(aO (i:=0) (show(["way","place"]:List Str).Nodup from by decide +kernel) rfl (Or.inl rfl) (Or.inr rfl))) (fun _=>(fh (b9 (aH C_is_open hr (@aa _ _ _ _ _ (pv 0) (@aa _ _ _ _ _ (pv 1) ae rfl) rfl))))) (fun _=>(aH C_led_to hr (@aa _ _ _ _ _ (pv 0) (@aa _ _ _ _ _ (pv 1) ae rfl) rfl)))))),?_⟩
  walk_at "rd"
  refine cw (ag.of hl) ?_
  refine gj (xs:=List.map V.ref bs) (fun i ys H'=>Ext H H'/\∃ps,ys=List.map V.ref ps/\Paired (ax H') ps (cE (us.take i) x)) (ao (by rw[DW];omega)) ⟨Ext.rfl' _,[],rfl,.nil⟩ (fun i ys H' _ h=>by
   obtain⟨e,ps,rfl,hps⟩:=h
   refine⟨ag.of (e _ _ hl),?_⟩
   rw[DW,cV hps]
   unfold cE
   rw[DW]
   exact EE (List.length_filter_le _ _) (by rw[List.length_take];omega)) ?_ ?_
  ·rintro i v ys H1 hx ⟨e1,ps,rfl,hps⟩
   rw[DY]at hx
   obtain⟨b,hb,rfl⟩:=Eh.mp hx
   have hi:i<us.length:=by rw[←hbl];exact(Ee.mp hb).1
   have gu:us[i]?=some us[i]:=DX hi
   have hb0:=e1 _ _ (hal.2 i b _ hb gu)
   generalize us[i]=u at gu hb0
   have hpx1:ax H1 p x:=e1 _ _ hpx
   walk_at "rd"
   refine⟨b,u,p,x,rfl,hb0,hpx1,?_⟩
   have step:cE (us.take (i+1)) x=cE (us.take i) x++cE [u] x:=by
    unfold cE
    rw[List.take_add_one,gu,List.filter_append,Em]
    rfl
   cases ho:bY u x.1 x.2 with
   | false=>
    refine rd_exb (aw ⟨e1,ps,rfl,?_⟩)
    rw[step]
    have:cE [u] x=[]:=by
     unfold cE
     rw[List.filter_cons,if_neg (by rw[ho];exact El)]
     rfl
    rw[this,List.append_nil]
    exact hps
   | true=>
    refine rd_exb (aC ?_)
    walk_at "rd"
    refine⟨b,u,p,x,rfl,hb0,hdd u (Ef gu),hpx1,fun t H2 e2 ht _=>?_⟩
    refine⟨e1.trans e2,ps++[t],?_,?_⟩
    ·rw[Em];rfl
    ·rw[step]
     have:cE [u] x=[(u.other,x.2+rz u.deed)]:=by
      unfold cE
      rw[List.filter_cons,if_pos ho]
      rfl
     rw[this]
     exact iX (bT (fun a x h=>e2 _ _ h) hps) ht
  ·rintro ys H1 p9 ⟨e1,ps,rfl,hps⟩ hp9
   rw[DW,hbl,EB]at hps
   have e2:=bw (o:=.lst (List.map V.ref ps)) hp9
   have h9:H p9=none:=by
    cases z:H p9 with
    | none=>rfl
    | some o=>rw[e1 _ _ z]at hp9;cases hp9
   exact q p9 ps _ (e1.trans e2) h9 aL (bT (fun a x h=>e2 _ _ h) hps)
structure WT(H:Hp)(c:Addr)(n:Nat)(ls:List Addr)(ws:List Way):Prop where
 at_:H c=some (.lst (List.map V.ref ls))
 len:ls.length=n
 it:∀(r:Nat) (l:Addr),ls[r]?=some l->∃bs,H l=some (.lst (List.map V.ref bs))/\aE H bs (ws.filter fun w=>decide (w.room=(r:Int)))
theorem WT.ext{H H':Hp}{c:Addr}{n:Nat}{ls:List Addr}{ws:List Way}(e:Ext H H')(h:WT H c n ls ws):WT H' c n ls ws:=
 ⟨e _ _ h.at_,h.len,fun r l hl=>by obtain⟨bs,h1,h2⟩:=h.it r l hl;exact⟨bs,e _ _ h1,h2.ext e⟩⟩
theorem WT.et{H H':Hp}{c:Addr}{n:Nat}{ls:List Addr}{ws:List Way}(e:Et H H')(h:WT H c n ls ws):WT H' c n ls ws:=
 ⟨e _ _ h.at_ (fun ps z=>by cases z),h.len,fun r l hl=>by obtain⟨bs,h1,h2⟩:=h.it r l hl;exact⟨bs,e _ _ h1 (fun ps z=>by cases z),h2.et e⟩⟩
theorem Ax{ws:List Way}{i:Nat}{w:Way}(h:ws[i]?=some w)(p:Way->Bool):(ws.take (i+1)).filter p=(ws.take i).filter p++if p w then[w]else[]:=by
 rw[List.take_add_one,h,List.filter_append]
 congr 1
 show List.filter p [w]=_
 rw[List.filter_cons]
 rfl
def vL(K:DS):Sp:=fun vs H Q _=>∃v m ws,vs=[v]/\aU H v m ws/\HOuse m ws/\∀c ls H',Ext H H'->WT H' c m.toNat ls ws->Q (.ref c) H'
abbrev ly:Stmt:=stq 39
theorem w4:FnScope ["house","ways","way"] ["house"] (aI ly):=⟨rfl,rfl,rfl,by decide +kernel,rfl,by decide +kernel,by decide +kernel⟩
theorem Ad{P:Program}{w:World}{K:DS}{mg:Str->Option Value}{base:Heap}(D:Dfn K mg "ways_by_room" ly ["house"])(T:Blt mg):Cal P w K mg base "ways_by_room" 1 ["house"] (vL K):=by
 have nd:=(w4).nd
 refine D.ok w4 (fun vs H Q E h=>?_) (fun X hX H vs Q E h=>?_)
 ·obtain⟨v,m,ws,rfl,_⟩:=h;rfl
 ·obtain⟨f,cdv,A,outer,s,H0,E0,rfl,hr⟩:=hX
  obtain⟨v,m,ws,rfl,hv,ok,q⟩:=h
  obtain⟨hp0,hq0,rfl,hh,hw⟩:=id hv
  obtain⟨bs,hq,hal⟩:=cb.al hw
  have hbl:=hal.1
  have few:=ok.few
  have m1:=ok.m1
  have m12:=ok.m12
  refine⟨_,(@aj _ _ _ _ _ (fZ (i:=1) ["room"] [] nd rfl (Or.inl rfl) (cX rfl T.range_ (@aa _ _ _ _ _ (@ai _ _ _ _ _ _ _ (aB K) (pv 0) af (fun _ _=>rfl)) ae rfl)) (fun _=>(aO (i:=0) (show(["room"]:List Str).Nodup from by decide +kernel) rfl (Or.inl rfl) (Or.inr rfl))) (fun _=>dY) (fun _=>(@bJ _ _ _ _ ae)))
    (@aj _ _ _ _ _ (cj PassesOwn.never rfl (kJ K (@ai _ _ _ _ _ _ _ (aB K) (pv 0) af (fun _ _=>rfl))) (aO (i:=2) nd rfl (Or.inl rfl)) (@av _ _ _ (bh (bE K Ed Er Es bQ (@ai _ _ _ _ _ _ _ (aS K) (pv 1) (@ai _ _ _ _ _ _ _ (aB K) (pv 2) af (fun _ _=>rfl)) (fun _ _=>rfl)) (@aa _ _ _ _ _ (pv 2) ae rfl)))))
    (@av _ _ _ (@aF _ _ _ _ (pv 1))))),?_⟩
  walk_at "rd"
  refine aA (ah.of hh) (v:=.int m) rfl ?_
  walk_at "rd"
  refine cR (by omega) ?_
  refine ef (fun i ys H'=>Ext H H'/\∃ls:List Addr,ys=List.map V.ref ls/\ls.length=i/\ls.Nodup/\∀l∈ls,H' l=some (.lst [])/\H l=none) (ao (by omega)) ⟨Ext.rfl' _,[],rfl,rfl,List.nodup_nil,fun l h=>(nomatch h)⟩ (fun i ys H' _ h=>by obtain⟨_,ls,rfl,h,_⟩:=h;rw[DW,h];exact Ep _) ?_ ?_
  ·rintro i ys H' hi ⟨e,ls,rfl,hl,hnd,hls⟩
   walk_at "rd"
   refine aC ?_
   walk_at "rd"
   refine⟨ao (by simp),aq fun l H1 e1 hl1 hln=>?_⟩
   refine⟨e.trans e1,ls++[l],by rw[Em];rfl,by rw[En,hl];rfl,?_,?_⟩
   ·rw[List.nodup_append]
    refine⟨hnd,by simp,fun a ha b hb z=>?_⟩
    have hbl:b=l:=by simpa using hb
    subst hbl
    subst z
    rw[(hls a ha).1]at hln
    cases hln
   ·intro a ha
    rcases Ew.mp ha with z | z
    ·exact⟨e1 _ _ (hls a z).1,(hls a z).2⟩
    ·have hal:a=l:=by simpa using z
     subst hal
     refine⟨hl1,?_⟩
     cases y:H a with
     | none=>rfl
     | some o=>rw[e _ _ y]at hln;cases hln
  ·rintro ys H1 c ⟨e,ls,rfl,hl,hnd,hls⟩ hc
   have eN:Ext H (upd H1 c (.lst (List.map V.ref ls))):=e.trans (bw hc)
   have hcH:H c=none:=by
    cases y:H c with
    | none=>rfl
    | some o=>rw[e _ _ y]at hc;cases hc
   have ncl:c∉ls:=fun z=>by rw[(hls c z).1]at hc;cases hc
   have hcl:∀l∈ls,H l=none:=fun l h=>(hls l h).2
   have hit:∀(r:Nat) (l:Addr),ls[r]?=some l->∃bs,(upd H1 c (.lst (List.map V.ref ls))) l=some (.lst (List.map V.ref bs))/\aE (upd H1 c (.lst (List.map V.ref ls))) bs ((ws.take 0).filter fun w=>decide (w.room=(r:Int))):=fun r l hr=>⟨[],(bw hc) _ _ (hls l (Ef hr)).1,aE.nil _⟩
   have hcc:(upd H1 c (.lst (List.map V.ref ls))) c=_:=aL
   generalize upd H1 c (.lst (List.map V.ref ls))=H2 at eN hit hcc ⊢
   clear hls hc e H1
   walk_at "rd"
   refine aA (ah.of (eN _ _ hh)) (v:=.ref hq0) rfl ?_
   walk_at "rd"
   refine kZ (ah.of (eN _ _ hq)) ?_
   refine A8 (xs:=bs.map V.ref) (fun i σ H'=>∃k1,σ=[some (.ref hp0),some (.ref c),k1]/\Ext H H'/\H' c=some (.lst (List.map V.ref ls))/\∀(r:Nat) (l:Addr),ls[r]?=some l->∃bs,H' l=some (.lst (List.map V.ref bs))/\aE H' bs ((ws.take i).filter fun w=>decide (w.room=(r:Int)))) ⟨none,rfl,eN,hcc,hit⟩ (fun i σ H' _ h=>by obtain⟨_,_,e,_⟩:=h;exact ah.of (e _ _ hq)) ?_ ?_
   ·rintro i u σ H3 hu ⟨k1,rfl,e3,hc3,hit3⟩
    rw[DY]at hu
    obtain⟨b,hb,rfl⟩:=Eh.mp hu
    have hi:i<ws.length:=by rw[←hbl];exact(Ee.mp hb).1
    have hwi:ws[i]?=some ws[i]:=DX hi
    have hbw:=e3 _ _ (hal.2 i b _ hb hwi)
    generalize ws[i]=w0 at hwi hbw
    have okw:=ok.ok w0 (Ef hwi)
    have r0:=okw.r0
    have r1:=okw.r1
    have hlr:w0.room.toNat<ls.length:=by rw[hl];omega
    have hlg:ls[w0.room.toNat]?=some ls[w0.room.toNat]:=DX hlr
    generalize ls[w0.room.toNat]=l at hlg
    have hlm:=Ef hlg
    obtain⟨cs,hl3,hcs⟩:=hit3 _ _ hlg
    have hcsl:cs.length<=100:=by
     rw[hcs.1]
     exact EE (List.length_filter_le _ _) (by rw[List.length_take];omega)
    have ncl':c≠l:=fun z=>ncl (z ▸ hlm)
    walk_at "rd"
    refine aA (ah.of hbw) (v:=.int w0.room) rfl ?_
    walk_at "rd"
    refine aQ (ag.of hc3) (v:=.ref l) (dO r0 (by rw[DY,hlg];rfl)) ?_
    refine⟨bP (ag.of hl3),?_⟩
    walk_at "rd"
    refine bN hl3 (by rw[DW];exact Nat.lt_of_le_of_lt hcsl (by decide)) ?_
    walk_at "rd"
    refine⟨_,rfl,cB e3 (hcl l hlm),by rw[az ncl'];exact hc3,fun r l' hr=>?_⟩
    rw[Ax hwi]
    by_cases hll:l'=l
    ·subst hll
     have hrr:r=w0.room.toNat:=(List.getElem?_inj (Ee.mp hr).1 hnd).mp (by rw[hr,hlg])
     subst hrr
     refine⟨cs++[b],?_,?_⟩
     ·rw[aL,Em];rfl
     ·rw[if_pos (decide_eq_true (by omega))]
      have put:aE (upd H3 l' (.lst (List.map V.ref cs++[.ref b]))) cs ((ws.take i).filter fun w=>decide (w.room=((w0.room.toNat:Nat):Int))):=hcs.put hl3
      exact put.snoc (by rw[az (cL hbw hl3 (fun z=>by cases z))];exact hbw)
    ·obtain⟨ds,h1,h2⟩:=hit3 r l' hr
     have hrr:¬(w0.room=(r:Int)):=fun z=>hll (by
      have:w0.room.toNat=r:=by omega
      rw[this,hr]at hlg
      exact Option.some.inj hlg)
     rw[if_neg (by simpa using hrr),List.append_nil]
     exact⟨ds,by rw[az hll];exact h1,h2.put hl3⟩
   ·rintro σ H3 ⟨k1,rfl,e3,hc3,hit3⟩
    rw[DW,hbl,EB]at hit3
    walk_at "rd"
    exact q c ls H3 e3 ⟨hc3,hl,hit3⟩
def LB(ws:List Way)(n:Nat)(top:Int)(x y:Bfs.Pl):Prop:=(∃w∈ws,bY w x.1 x.2=true/\y=(w.other,x.2+rz w.deed)/\y.2<=top)\/(top<=x.2/\∃i j:Nat,Kpt ws n i j/\x.1=(i:Int)/\y=((j:Int),top))
theorem eC{w:Way}{r n:Int}(h:bY w r n=true):w.room=r:=by
 unfold bY at h
 rw[EJ]at h
 exact of_decide_eq_true h.1
def sS(K:DS):Sp:=fun vs H Q _=>∃c kl top p m ws ls x,vs=[.ref c,.ref kl,.int top,.ref p]/\WT H c m.toNat ls ws/\dS H kl m.toNat (Kpt ws m.toNat)/\HOuse m ws/\ax H p x/\0<=x.1/\x.1<m ∧
 ∀l ps ys H',Ext H H'->H l=none->H' l=some (.lst (List.map V.ref ps))->Paired (ax H') ps ys->(∀y,y∈ys↔LB ws m.toNat top x y)->ys.length<=300->Q (.ref l) H'
abbrev jz:Stmt:=stq 41
theorem qp:FnScope ["ways","keeps","top","here","low"] ["ways","keeps","top","here"] (aI jz):=⟨rfl,rfl,rfl,by decide +kernel,rfl,by decide +kernel,by decide +kernel⟩
theorem DE{P:Program}{w:World}{K:DS}{mg:Str->Option Value}{base:Heap}(D:Dfn K mg "low_beside" jz ["ways","keeps","top","here"])(T:Blt mg)(C_led_to_from:Cal P w K mg base "led_to_from" 3 ["ways","place"] (tp K)):Cal P w K mg base "low_beside" 4 ["ways","keeps","top","here"] (sS K):=by
 have nd:=(qp).nd
 refine D.ok qp (fun vs H Q E h=>?_) (fun X hX H vs Q E h=>?_)
 ·obtain⟨c,kl,top,p,m,ws,ls,x,rfl,_⟩:=h;rfl
 ·obtain⟨f,cdv,A,outer,s,H0,E0,rfl,hr⟩:=hX
  obtain⟨c,kl,top,p,m,ws,ls,x,rfl,wt,prs,ok,hpx,x0,x1,q⟩:=h
  have m1:=ok.m1
  have m12:=ok.m12
  have few:=ok.few
  have hlr:x.1.toNat<ls.length:=by rw[wt.len];omega
  have hlg:ls[x.1.toNat]?=some ls[x.1.toNat]:=DX hlr
  generalize ls[x.1.toNat]=l0 at hlg
  obtain⟨bs,hl0,hal⟩:=wt.it _ _ hlg
  have hx1:((x.1.toNat:Nat):Int)=x.1:=by omega
  rw[hx1]at hal
  have husl:(ws.filter fun w=>decide (w.room=x.1)).length<=100:=EE (List.length_filter_le _ _) few
  obtain⟨kps,g,hkl,hkp,hkg⟩:=prs
  have hkpl:=cV hkp
  have hkpn:=mN (n:=m.toNat) (g:=g) m.toNat
  have hkpm:m.toNat*m.toNat<=12*12:=Nat.mul_le_mul (by omega) (by omega)
  refine⟨_,(@aj _ _ _ _ _ (fZ (i:=4) ["there"] [2] nd rfl (Or.inl rfl) (cz K (aH C_led_to_from hr (@aa _ _ _ _ _ (@ai _ _ _ _ _ _ _ (aS K) (pv 0) (@ai _ _ _ _ _ _ _ (aB K) (pv 3) af (fun _ _=>rfl)) (fun _ _=>rfl)) (@aa _ _ _ _ _ (pv 3) ae rfl) rfl))) (fun _=>(aO (i:=0) (show(["there","top"]:List Str).Nodup from by decide +kernel) rfl (Or.inl rfl) (Or.inr rfl))) (fun _=>(fh (aT i9 (@ai _ _ _ _ _ _ _ (aB K) (pv 0) af (fun _ _=>rfl)) (pv 1) (aP _)))) (fun _=>(pv 0)))
    (@aj _ _ _ _ _ (@bU _ _ _ _ _ _ _ _ (aT fM (@ai _ _ _ _ _ _ _ (aB K) (pv 3) af (fun _ _=>rfl)) (pv 2) (aP _)) (@av _ _ _ (@aF _ _ _ _ (pv 4))) bf)
    (@av _ _ _ (@aF _ _ _ _ (aD gJ (pv 4) (di ["p","q"] [2,3] (cz K (pv 1)) (fun _=>(fj (n:=2) K rfl (bG (aO (i:=0) (show(["p","q","top","here"]:List Str).Nodup from by decide +kernel) rfl (Or.inl rfl) (Or.inr rfl)) (bG (aO (i:=1) (show(["p","q","top","here"]:List Str).Nodup from by decide +kernel) rfl (Or.inl rfl) (Or.inr rfl)) fi)))) (fun _=>(fh (aT bL (pv 0) (@ai _ _ _ _ _ _ _ (aB K) (pv 3) af (fun _ _=>rfl)) (aP _)))) (fun _=>(@aM _ _ _ _ _ (@aa _ _ _ _ _ (pv 1) (@aa _ _ _ _ _ (pv 2) ae rfl) rfl))))))))),?_⟩
  walk_at "rd"
  refine aA (ah.of hpx) (v:=.int x.1) rfl ?_
  walk_at "rd"
  refine aQ (ag.of wt.at_) (v:=.ref l0) (dO x0 (by rw[DY,hlg];rfl)) ?_
  walk_at "rd"
  refine⟨l0,bs,_,p,x,rfl,hl0,hal,fun w hw=>(ok.ok w (List.mem_filter.mp hw).1).dd,husl,hpx,fun l1 ps1 H1 e1 hn1 hl1 hps1=>?_⟩
  have hp1l:=cV hps1
  have hledl:(cE (ws.filter fun w=>decide (w.room=x.1)) x).length<=100:=by
   unfold cE
   rw[DW]
   exact EE (List.length_filter_le _ _) husl
  have hled:∀y,y∈cE (ws.filter fun w=>decide (w.room=x.1)) x↔∃w∈ws,bY w x.1 x.2=true/\y=(w.other,x.2+rz w.deed):=fun y=>by
   unfold cE
   constructor
   ·intro h
    obtain⟨w,hw,rfl⟩:=List.mem_map.mp h
    obtain⟨h1,h2⟩:=List.mem_filter.mp hw
    exact⟨w,(List.mem_filter.mp h1).1,h2,rfl⟩
   ·rintro⟨w,hw,ho,rfl⟩
    exact List.mem_map.mpr ⟨w,List.mem_filter.mpr ⟨List.mem_filter.mpr ⟨hw,decide_eq_true (eC ho)⟩,ho⟩,rfl⟩
  generalize cE (ws.filter fun w=>decide (w.room=x.1)) x=zs at hps1 hp1l hledl hled
  walk_at "rd"
  refine cw (ag.of hl1) ?_
  refine gj (xs:=List.map V.ref ps1) (fun i ys H'=>H'=H1/\∃cs,ys=List.map V.ref cs/\Paired (ax H1) cs ((zs.take i).filter fun y=>decide (y.2<=top))) (ao (by rw[DW];omega)) ⟨rfl,[],rfl,.nil⟩ (fun i ys H' _ h=>by
   obtain⟨rfl,cs,rfl,hcs⟩:=h
   refine⟨ag.of hl1,?_⟩
   rw[DW,cV hcs]
   exact EE (List.length_filter_le _ _) (by rw[List.length_take];omega)) ?_ ?_
  ·rintro i v ys H2 hx ⟨rfl,cs,rfl,hcs⟩
   rw[DY]at hx
   obtain⟨b,hb,rfl⟩:=Eh.mp hx
   obtain⟨y,hy,hby⟩:=fK hps1 hb
   walk_at "rd"
   refine aA (ah.of hby) (v:=.int y.2) rfl ?_
   walk_at "rd"
   have step:(zs.take (i+1)).filter (fun y=>decide (y.2<=top))=(zs.take i).filter (fun y=>decide (y.2<=top))++if decide (y.2<=top)then[y]else[]:=by
    rw[List.take_add_one,hy,List.filter_append]
    congr 1
    show List.filter _ [y]=_
    rw[List.filter_cons]
    rfl
   cases hc:decide (y.2<=top)with
   | true=>
    refine aC ?_
    walk_at "rd"
    refine⟨rfl,cs++[b],?_,?_⟩
    ·rw[Em];rfl
    ·rw[step,hc]
     exact iX hcs hby
   | false=>
    refine aw ⟨rfl,cs,rfl,?_⟩
    rw[step,hc]
    simpa using hcs
  ·rintro ys H2 p9 ⟨hH,cs,rfl,hcs⟩ hp9
   subst hH
   rw[DW,hp1l,EB]at hcs
   have e2:=bw (o:=.lst (List.map V.ref cs)) hp9
   have h9:(upd H2 p9 (.lst (List.map V.ref cs))) p9=_:=aL
   have hcs2:=bT (fun a x h=>e2 _ _ h) hcs
   have hfn:H p9=none:=by
    cases z:H p9 with
    | none=>rfl
    | some o=>rw[e1 _ _ z]at hp9;cases hp9
   have e02:=e1.trans e2
   generalize upd H2 p9 (.lst (List.map V.ref cs))=H3 at e2 h9 hcs2 e02 ⊢
   have hcl:=cV hcs
   have hfl:=List.length_filter_le (fun y:Bfs.Pl=>decide (y.2<=top)) zs
   have first:∀y,y∈zs.filter (fun y=>decide (y.2<=top))↔∃w∈ws,bY w x.1 x.2=true/\y=(w.other,x.2+rz w.deed)/\y.2<=top:=fun y=>by
    rw[List.mem_filter,hled]
    constructor
    ·rintro⟨⟨w,h1,h2,h3⟩,h4⟩
     exact⟨w,h1,h2,h3,of_decide_eq_true h4⟩
    ·rintro⟨w,h1,h2,h3,h4⟩
     exact⟨⟨w,h1,h2,h3⟩,decide_eq_true h4⟩
   walk_at "rd"
   refine aA (ah.of (e02 _ _ hpx)) (v:=.int x.2) rfl ?_
   walk_at "rd"
   cases hc:decide (x.2<top)with
   | true=>
    have hc':=of_decide_eq_true hc
    refine aC ?_
    walk_at "rd"
    refine q p9 cs _ H3 e02 hfn h9 hcs2 (fun y=>?_) (by omega)
    rw[first]
    constructor
    ·exact fun h=>.inl h
    ·rintro(h | ⟨h,_⟩)
     ·exact h
     ·omega
   | false=>
    have hc':=of_decide_eq_false hc
    refine aw ?_
    walk_at "rd"
    have hkl3:=e02 _ _ hkl
    have hkp3:=bT (fun a x h=>e02 _ _ h) hkp
    refine cw (ag.of hkl3) ?_
    refine gj (xs:=List.map V.ref kps) (fun i ys H'=>Ext H3 H'/\∃ds,ys=List.map V.ref ds/\Paired (ax H') ds ((((cI m.toNat g m.toNat).take i).filter fun z=>decide (z.1=x.1)).map fun z=>(z.2,top))) (ao (by rw[DW];omega)) ⟨Ext.rfl' _,[],rfl,.nil⟩ (fun i ys H' _ h=>by
     obtain⟨e,ds,rfl,hds⟩:=h
     refine⟨ag.of (e _ _ hkl3),?_⟩
     rw[DW,cV hds,DW]
     exact EE (List.length_filter_le _ _) (by rw[List.length_take];omega)) ?_ ?_
    ·rintro i v ys H4 hx ⟨e4,ds,rfl,hds⟩
     rw[DY]at hx
     obtain⟨b,hb,rfl⟩:=Eh.mp hx
     obtain⟨z,hz,hbz⟩:=fK hkp3 hb
     have hbz4:ax H4 b z:=e4 _ _ hbz
     refine fI (ah.of hbz4) rfl ?_
     walk_at "rd"
     refine aA (ah.of ((e02.trans e4) _ _ hpx)) (v:=.int x.1) rfl ?_
     walk_at "rd"
     have step:(((cI m.toNat g m.toNat).take (i+1)).filter (fun z=>decide (z.1=x.1))).map (fun z=>(z.2,top))=(((cI m.toNat g m.toNat).take i).filter (fun z=>decide (z.1=x.1))).map (fun z=>(z.2,top))++if decide (z.1=x.1)then[(z.2,top)]else[]:=by
      rw[List.take_add_one,hz,List.filter_append,Em]
      congr 1
      show List.map _ (List.filter _ [z])=_
      rw[List.filter_cons]
      split<;>rfl
     cases hc2:decide (z.1=x.1)with
     | true=>
      refine aC ?_
      walk_at "rd"
      refine⟨ao (by simp),aq fun t H5 e5 ht _=>?_⟩
      refine⟨e4.trans e5,ds++[t],?_,?_⟩
      ·rw[Em];rfl
      ·rw[step,hc2]
       exact iX (bT (fun a x h=>e5 _ _ h) hds) ht
     | false=>
      refine aw ⟨e4,ds,rfl,?_⟩
      rw[step,hc2]
      simpa using hds
    ·rintro ys H4 p8 ⟨e4,ds,rfl,hds⟩ hp8
     rw[DW,hkpl,EB]at hds
     have e5:=bw (o:=.lst (List.map V.ref ds)) hp8
     have h8:(upd H4 p8 (.lst (List.map V.ref ds))) p8=_:=aL
     have hds5:=bT (fun a x h=>e5 _ _ h) hds
     have e35:=e4.trans e5
     generalize upd H4 p8 (.lst (List.map V.ref ds))=H5 at e5 h8 hds5 e35 ⊢
     have hdl:=cV hds
     rw[DW]at hdl
     have hfl2:=List.length_filter_le (fun z:Bfs.Pl=>decide (z.1=x.1)) (cI m.toNat g m.toNat)
     walk_at "rd"
     refine gL (e35 _ _ h9) h8 (ao (by rw[DW,DW];omega)) (aq fun l' H6 e6 hl' hn'=>?_)
     rw[←Em]at hl'
     have e06:=(e02.trans e35).trans e6
     have hn0:H l'=none:=by
      cases z:H l' with
      | none=>rfl
      | some o=>rw[(e02.trans e35) _ _ z]at hn';cases hn'
     refine q l' (cs++ds) _ H6 e06 hn0 hl' (rK (bT (fun a x h=>(e35.trans e6) _ _ h) hcs2) (bT (fun a x h=>e6 _ _ h) hds5)) (fun y=>?_) (by rw[En,DW];omega)
     rw[Ew,first]
     constructor
     ·rintro(h | h)
      ·exact .inl h
      ·obtain⟨z,hz,rfl⟩:=List.mem_map.mp h
       obtain⟨z1,z2⟩:=List.mem_filter.mp hz
       obtain⟨i,j,hi,hj,hg,rfl⟩:=hG.mp z1
       exact .inr ⟨by omega,i,j,(hkg i j hi hj).mp hg,(of_decide_eq_true z2).symm,rfl⟩
     ·rintro(h | ⟨_,i,j,hk,hxi,rfl⟩)
      ·exact .inl h
      ·right
       have hlt:=Kpt.lt ok.ok hk
       exact List.mem_map.mpr ⟨((i:Int),(j:Int)),List.mem_filter.mpr ⟨hG.mpr ⟨i,j,hlt.1,hlt.2,(hkg i j hlt.1 hlt.2).mpr hk,rfl⟩,decide_eq_true hxi.symm⟩,rfl⟩
structure RR(H0 H:Hp)(f rw:Addr)(qs:List Bfs.Pl):Prop where
 ext:Ext H0 H
 fn:H0 f=none
 rn:H0 rw=none
 d:∃kvs,H f=some (.dT kvs)/\Paired (fun(kv:List Key×V) z=>kv.1=aX z) kvs qs
 r:∃as,H rw=some (.lst (List.map V.ref as))/\Paired (ax H) as qs
theorem RR.step{H0 H H1:Hp}{f rw:Addr}{qs:List Bfs.Pl}(h:RR H0 H f rw qs)(e:Ext H H1):RR H0 H1 f rw qs:=by
 obtain⟨h1,h2,h3,⟨kvs,h4,h5⟩,as,h6,h7⟩:=h
 exact⟨h1.trans e,h2,h3,⟨kvs,e _ _ h4,h5⟩,as,e _ _ h6,bT (fun a x h=>e _ _ h) h7⟩
theorem oX{kvs:List (List Key×V)}{qs:List Bfs.Pl}(h:Paired (fun(kv:List Key×V) z=>kv.1=aX z) kvs qs){x:Bfs.Pl}(hx:x∉qs):bx kvs (aX x)=none:=
 iB (key:=fun z=>z) (fun _ _ z=>z) h (by simpa using hx)
theorem xw{kvs:List (List Key×V)}{qs:List Bfs.Pl}(h:Paired (fun(kv:List Key×V) z=>kv.1=aX z) kvs qs)(nd:qs.Nodup){x:Bfs.Pl}(hx:x∈qs):∃v,bx kvs (aX x)=some v:=by
 obtain⟨v,hv,_⟩:=gZ (key:=fun z=>z) (fun _ _ z=>z) h (by simpa using nd) hx
 exact⟨v,hv⟩
theorem RR.push{H0 H:Hp}{f rw th:Addr}{qs:List Bfs.Pl}{y:Bfs.Pl}{v:V}(h:RR H0 H f rw qs)(hy:y∉qs)(hth:ax H th y):
  ∃kvs,H f=some (.dT kvs)/\kvs.length=qs.length/\∃as,upd H f (.dT (putK kvs (aX y) v)) rw=some (.lst (List.map V.ref as))/\as.length=qs.length ∧
   RR H0 (upd (upd H f (.dT (putK kvs (aX y) v))) rw (.lst (List.map V.ref as++[.ref th]))) f rw (qs++[y]):=by
 obtain⟨h1,h2,h3,⟨kvs,h4,h5⟩,as,h6,h7⟩:=h
 have nf:∀xs,(HO.dT kvs)≠.tup xs:=fun xs z=>by cases z
 have nr:∀xs,(HO.lst (List.map V.ref as))≠.tup xs:=fun xs z=>by cases z
 have ne:rw≠f:=cL h6 h4 (by intro z;cases z)
 have h6':upd H f (.dT (putK kvs (aX y) v)) rw=some (.lst (List.map V.ref as)):=by rw[az ne];exact h6
 refine⟨kvs,h4,Paired.length h5,as,h6',Paired.length h7,cB (cB h1 h2) h3,h2,h3,⟨kvs++[(aX y,v)],?_,?_⟩,as++[th],?_,?_⟩
 ·rw[az ne.symm,aL,qV _ (oX h5 hy)]
 ·exact Paired.snoc h5 rfl
 ·rw[aL,Em];rfl
 ·exact iX (bT (fun a x z=>ax.put h6' nr (ax.put h4 nf z)) h7) (ax.put h6' nr (ax.put h4 nf hth))
structure RQ(S:Bfs.Pl->Bfs.Pl->Prop)(m T:Int)(x:Bfs.Pl)(qs:List Bfs.Pl)(i:Nat):Prop where
 nd:qs.Nodup
 has:x∈qs
 wk:∀z∈qs,∃n,Bfs.Rw S n x z
 ins:∀z∈qs,bI m T z
 cl:∀j,j<i->∀y,qs[j]?=some y->∀z,S y z->z∈qs
theorem RQ.done{S:Bfs.Pl->Bfs.Pl->Prop}{m T:Int}{x:Bfs.Pl}{qs:List Bfs.Pl}{i:Nat}(h:RQ S m T x qs i)(hi:qs.length<=i):∀z,z∈qs↔∃n,Bfs.Rw S n x z:=fun z=>by
 refine⟨h.wk z,fun⟨n,hn⟩=>?_⟩
 have go:∀(n:Nat) (a b:Bfs.Pl),Bfs.Rw S n a b->a∈qs->b∈qs:=by
  intro n a b hr
  induction hr with
  | nil=>exact fun h=>h
  | snoc _ hs ih=>
   intro ha
   obtain⟨j,hj⟩:=List.getElem?_of_mem (ih ha)
   have:=(Ee.mp hj).1
   exact h.cl j (by omega) _ hj _ hs
 exact go n x z hn h.has
def ua(m T:Int)(S:Bfs.Pl->Bfs.Pl->Prop):List V->Hp->VK->Prop:=fun vs H Q=>∃p y,vs=[.ref p]/\ax H p y/\bI m T y/\∀l ps ys H',Ext H H'->H l=none->H' l=some (.lst (List.map V.ref ps))->Paired (ax H') ps ys->(∀z,z∈ys↔S y z)->ys.length<=300->Q (.ref l) H'
def ub(P:Program)(w:World)(K:DS)(mg:Str->Option Value)(base:Heap):Sp:=fun vs H Q _=>∃pa f pre x m T S,vs=[.ref pa,.ref f]/\ax H pa x/\bI m T x/\m<=12/\T<=2000/\FunR P w K mg base 5 f pre (ua m T S)/\pre H/\(∀H H',Ext H H'->pre H->pre H')/\(∀y z,bI m T y->S y z->bI m T z) ∧
 ∀l as qs H',Ext H H'->H' l=some (.lst (List.map V.ref as))->Paired (ax H') as qs->(∀z∈qs,bI m T z)->qs.length<=24012->(∀z,z∈qs↔∃n,Bfs.Rw S n x z)->Q (.ref l) H'
abbrev jH:Stmt:=stq 40
theorem xl:FnScope ["place","beside","found","row","looked","here","there"] ["place","beside"] (aI jH):=⟨rfl,rfl,rfl,by decide +kernel,rfl,by decide +kernel,by decide +kernel⟩
theorem Du{P:Program}{w:World}{K:DS}{mg:Str->Option Value}{base:Heap}(D:Dfn K mg "reached" jH ["place","beside"])(T:Blt mg):Cal P w K mg base "reached" 6 ["place","beside"] (ub P w K mg base):=by
 have nd:=(xl).nd
 refine D.ok xl (fun vs H Q E h=>?_) (fun X hX H vs Q E h=>?_)
 ·obtain⟨pa,f,pre,x,m,T,S,rfl,_⟩:=h;rfl
 ·obtain⟨f,cdv,A,outer,s,H0,E0,rfl,hr⟩:=hX
  obtain⟨pa,ff,pre,x,m,TT,S,rfl,hx,ix,hm12,hT,hF,hpre,hmono,hSin,q⟩:=h
  refine⟨_,(@aj _ _ _ _ _ (@aG _ _ 2 _ _ _ _ nd rfl (Or.inl rfl) (p7 (eI hr) (pv 0) bR) rfl (Or.inl rfl))
    (@aj _ _ _ _ _ (@aG _ _ 3 _ _ _ _ nd rfl (Or.inl rfl) (@bJ _ _ _ _ (@aa _ _ _ _ _ (pv 0) ae rfl)) rfl (Or.inl rfl))
    (@aj _ _ _ _ _ (@aG _ _ 4 _ _ _ _ nd rfl (Or.inl rfl) af rfl (Or.inl rfl))
    (@aj _ _ _ _ _ (gq PassesOwn.never (aT fM (pv 4) (bc (cH K) rfl T.len_ PySem.boot_len (@aa _ _ _ _ _ (pv 3) ae rfl)) (aP _)) (@aj _ _ _ _ _ (@aG _ _ 5 _ _ _ _ nd rfl (Or.inl rfl) (@ai _ _ _ _ _ _ _ (aS K) (pv 3) (pv 4) (fun _ _=>rfl)) rfl (Or.inl rfl))
    (@aj _ _ _ _ _ (jv (i:=4) nd rfl (Or.inl rfl) af oA)
    (@av _ _ _ (cj PassesOwn.never rfl (cz K (uY (P:=P) (w:=w) (K:=K) (mg:=mg) (base:=base) hr (pv 1) (@aa _ _ _ _ _ (pv 5) ae rfl))) (aO (i:=6) nd rfl (Or.inl rfl)) (@av _ _ _ (cO (j9 (kO (eI hr) (pv 6) (pv 2)) (by with_unfolding_all rfl)) (@aj _ _ _ _ _ (vD (eI hr) (pv 2) (pv 6) bR rfl)
    (@av _ _ _ (bh (bE K Ed Er Es bQ (pv 3) (@aa _ _ _ _ _ (pv 6) ae rfl))))) bf)))))))
    (@av _ _ _ (@aF _ _ _ _ (pv 3))))))),?_⟩
  walk_at "rd"
  refine fun f hfn=>?_
  walk_at "rd"
  refine⟨pa,aX x,rfl,(bw hfn) _ _ hx,aL,?_⟩
  walk_at "rd"
  refine⟨ao (by simp),aq fun rw H3 e3 hrw hrn=>?_⟩
  walk_at "rd"
  have e13:Ext H (upd (upd H f (.dT [])) f (.dT [(aX x,.bl true)])):=fun b o hb=>by
   rw[az (bO hb hfn),az (bO hb hfn)];exact hb
  have hrn1:H rw=none:=by
   cases z:H rw with
   | none=>rfl
   | some o=>rw[e13 _ _ z]at hrn;cases hrn
  have hf3:H3 f=some (.dT [(aX x,.bl true)]):=e3 _ _ aL
  have rr0:RR H H3 f rw [x]:=⟨e13.trans e3,hfn,hrn1,⟨_,hf3,.cons rfl .nil⟩,[pa],hrw,.cons (e3 _ _ (e13 _ _ hx)) .nil⟩
  have rq0:RQ S m TT x [x] 0:=⟨by simp,by simp,fun z hz=>by rw[Eg.mp hz];exact⟨0,.nil⟩,fun z hz=>by rw[Eg.mp hz];exact ix,fun j hj=>absurd hj (Nat.not_lt_zero _)⟩
  clear hf3 hrn1 e13 hrw hrn e3
  refine f6 (fun M σ H'=>∃qs i k1 k2,RR H H' f rw qs/\RQ S m TT x qs i/\i<=qs.length/\M=24013-i/\σ=[some (.ref pa),some (.ref ff),some (.ref f),some (.ref rw),some (.int (i:Nat)),k1,k2]) (fun σ H'=>∃qs i k0 k1 k2,RR H H' f rw qs/\RQ S m TT x qs i/\qs.length<=i/\qs.length<=24012/\σ=[some (.ref pa),some (.ref ff),some (.ref f),some (.ref rw),k0,k1,k2]) 24013 ⟨[x],0,_,_,rr0,rq0,by simp,by simp,rfl⟩ ?_ ?_
  ·rintro M σ H4 ⟨qs,i,k1,k2,rr,rq,hi,rfl,rfl⟩
   have hqn:qs.length<=24012:=bI.few hm12 hT rq.nd rq.ins
   obtain⟨as,hr4,pr⟩:=rr.r
   have hal:=cV pr
   walk_at "rd"
   refine dI (ag.of hr4) ?_
   walk_at "rd"
   by_cases hlt:i<qs.length
   rotate_left
   ·rw[decide_eq_false (show ¬((i:Nat):Int)<((List.map V.ref as).length:Nat) by rw[DW,hal];omega)]
    refine aw ?_
    exact⟨qs,i,_,_,_,rr,rq,by omega,hqn,rfl⟩
   ·rw[decide_eq_true (show((i:Nat):Int)<((List.map V.ref as).length:Nat) by rw[DW,hal];omega)]
    refine aC ?_
    refine⟨fun σ' H'=>∃qs' k1 k2,RR H H' f rw qs'/\RQ S m TT x qs' (i+1)/\i+1<=qs'.length/\qs'.length<=24012/\σ'=[some (.ref pa),some (.ref ff),some (.ref f),some (.ref rw),some (.int ((i+1:Nat):Int)),k1,k2],fun σ' H' ⟨qs',k1,k2,a1,a2,a3,a4,a5⟩=>⟨24013-(i+1),by omega,qs',i+1,k1,k2,a1,a2,a3,rfl,a5⟩,?_⟩
    have hqi:qs[i]?=some qs[i]:=DX hlt
    generalize qs[i]=y at hqi
    obtain⟨b,hb,hby⟩:=o4 pr hqi
    have iy:=rq.ins y (Ef hqi)
    walk_at "rd"
    refine aQ (ag.of hr4) (dX (v:=.ref b) (by rw[DY,hb];rfl)) ?_
    walk_at "rd"
    refine wy ?_
    walk_at "rd"
    have hpre4:=hmono _ _ rr.ext hpre
    refine⟨ff,pre,_,rfl,hF,hpre4,?_⟩
    walk_at "rd"
    refine⟨hpre4,b,y,rfl,hby,iy,fun l ps ys H5 e5 hln hl5 hps hys hyl=>?_⟩
    have hpl:=cV hps
    have rr5:=rr.step e5
    obtain⟨kvs5,hd5,_⟩:=rr5.d
    obtain⟨as5,hr5,_⟩:=rr5.r
    have nlf:l≠f:=fun z=>by
     obtain⟨kvs,hd,_⟩:=rr.d
     rw[z,hd]at hln
     cases hln
    have nlr:l≠rw:=fun z=>by rw[z,hr4]at hln;cases hln
    refine cw (ag.of hl5) ?_
    refine forL (xs:=List.map V.ref ps) (fun j σ H'=>∃qs' k2,RR H H' f rw qs'/\qs'.Nodup/\(∃new,qs'=qs++new)/\(∀z∈qs',(∃n,Bfs.Rw S n x z)/\bI m TT z)/\(∀a,a<j->∀z,ys[a]?=some z->z∈qs')/\(∀c o,c≠f->c≠rw->H5 c=some o->H' c=some o)/\σ=[some (.ref pa),some (.ref ff),some (.ref f),some (.ref rw),some (.int ((i+1:Nat):Int)),some (.ref b),k2]) ⟨qs,_,rr5,rq.nd,⟨[],by simp⟩,fun z hz=>⟨rq.wk z hz,rq.ins z hz⟩,fun a ha=>absurd ha (Nat.not_lt_zero _),fun c o _ _ h=>h,rfl⟩ (fun j σ H' _ h=>by obtain⟨_,_,_,_,_,_,_,kp,_⟩:=h;exact ag.of (kp _ _ nlf nlr hl5)) ?_ ?_
    ·rintro j v σ H6 hv ⟨qs6,k2,rr6,nd6,⟨new,hnew⟩,in6,cl6,kp6,rfl⟩
     rw[DY]at hv
     obtain⟨th,hth,rfl⟩:=Eh.mp hv
     obtain⟨z,hz,hthz5⟩:=fK hps hth
     have nth:∀{c:Addr} {o:HO},H5 c=some o->(∀xs,o≠.tup xs)->th≠c:=fun{c o} hc hn=>cL hthz5 hc (fun e=>hn _ e.symm)
     have hthz:ax H6 th z:=kp6 _ _ (nth hd5 (fun xs e=>by cases e)) (nth hr5 (fun xs e=>by cases e)) hthz5
     have hSz:S y z:=(hys z).mp (Ef hz)
     have hq6:qs6.length<=24012:=bI.few hm12 hT nd6 fun z hz=>(in6 z hz).2
     obtain⟨kvs,hd,pk⟩:=rr6.d
     walk_at "rd"
     refine b7 ?_
     walk_at "rd"
     refine⟨f,_,rfl,cN.t hd (k:=aX z) hthz,?_⟩
     by_cases hin:z∈qs6
     ·obtain⟨v1,hv1⟩:=xw pk nd6 hin
      rw[hv1]
      refine rd_exb (aw ?_)
      walk_at "rd"
      refine⟨qs6,_,rr6,nd6,⟨new,hnew⟩,in6,fun a ha z' hz'=>?_,kp6,rfl⟩
      by_cases haj:a<j
      ·exact cl6 a haj z' hz'
      ·have:a=j:=by omega
       subst this
       rw[hz]at hz'
       cases hz'
       exact hin
     ·rw[oX pk hin]
      refine rd_exb (aC ?_)
      obtain⟨kvs,hd',hkl,as7,hr7,hal7,rr8⟩:=rr6.push (v:=.bl true) hin hthz
      walk_at "rd"
      refine⟨f,_,rfl,gw.t hd' (k:=aX z) hthz (cA (by omega)),?_⟩
      walk_at "rd"
      refine⟨bP (ag.of hr7),?_⟩
      walk_at "rd"
      refine bN hr7 (cA (by rw[DW];omega)) ?_
      walk_at "rd"
      obtain⟨n0,hn0⟩:=rq.wk y (Ef hqi)
      refine⟨qs6++[z],_,rr8,?_,⟨new++[z],by rw[hnew,List.append_assoc]⟩,fun z' hz'=>?_,fun a ha z' hz'=>?_,fun c o nf nr hc=>?_,rfl⟩
      ·rw[List.nodup_append]
       refine⟨nd6,by simp,fun a ha c hc e=>?_⟩
       rw[Eg.mp hc]at e
       exact hin (e ▸ ha)
      ·rcases Ew.mp hz' with h | h
       ·exact in6 z' h
       ·rw[Eg.mp h]
        exact⟨⟨n0+1,.snoc hn0 hSz⟩,hSin y z iy hSz⟩
      ·by_cases haj:a<j
       ·exact List.mem_append_left _ (cl6 a haj z' hz')
       ·have:a=j:=by omega
        subst this
        rw[hz]at hz'
        cases hz'
        exact List.mem_append_right _ (by simp)
      ·rw[az nr,az nf]
       exact kp6 c o nf nr hc
    ·rintro σ H6 ⟨qs6,k2,rr6,nd6,⟨new,hnew⟩,in6,cl6,kp6,rfl⟩
     rw[DW,hpl]at cl6
     have hq6:qs6.length<=24012:=bI.few hm12 hT nd6 fun z hz=>(in6 z hz).2
     have hle:qs.length<=qs6.length:=by rw[hnew,En];omega
     refine⟨qs6,_,_,rr6,⟨nd6,by rw[hnew];exact List.mem_append_left _ rq.has,fun z hz=>(in6 z hz).1,fun z hz=>(in6 z hz).2,fun j hj y' hy' z hz=>?_⟩,by omega,hq6,rfl⟩
     have hjq:j<qs.length:=by omega
     have hy2:qs[j]?=some y':=by
      rw[hnew,Ey hjq]at hy'
      exact hy'
     by_cases hji:j<i
     ·rw[hnew]
      exact List.mem_append_left _ (rq.cl j hji y' hy2 z hz)
     ·have:j=i:=by omega
      subst this
      rw[hqi]at hy2
      cases hy2
      obtain⟨a,ha⟩:=List.getElem?_of_mem ((hys z).mpr hz)
      exact cl6 a (Ee.mp ha).1 z ha
  ·rintro σ H4 ⟨qs,i,k0,k1,k2,rr,rq,hi,hqn,rfl⟩
   obtain⟨as,hr4,pr⟩:=rr.r
   walk_at "rd"
   exact q rw as qs H4 rr.ext hr4 pr rq.ins hqn (rq.done hi)
def Eu(H H':Hp):Prop:=∀b o,H b=some o->(∀f,o≠.ext f)->H' b=some o
theorem aE.eu{H H':Hp}{bs:List Addr}{ws:List Way}(e:Eu H H')(h:aE H bs ws):aE H' bs ws:=⟨h.1,fun j b w e1 e2=>e _ _ (h.2 j b w e1 e2) (fun f z=>by cases z)⟩
theorem ax.eu{H H':Hp}(e:Eu H H'){p:Addr}{x:Bfs.Pl}(h:ax H p x):ax H' p x:=e _ _ h (fun f z=>by cases z)
structure TL(H H':Hp)(q:Addr)(rs:List Addr)(n:Nat)(M:Nat->Nat->Bool):Prop where
 keep:∀b o,b∉rs->H b=some o->H' b=some o
 nd:rs.Nodup
 nq:q∉rs
 rows:Rows H' q rs n M
theorem TL.mark{H H1:Hp}{q r:Addr}{rs:List Addr}{n i j:Nat}{M:Nat->Nat->Bool}(h:TL H H1 q rs n M)(hi:rs[i]?=some r)(hj:j<n):TL H (upd H1 r (.lst ((aN n (M i)).set j (.bl true)))) q rs n (put2 M i j):=by
 have hm:=Ef hi
 have nqr:q≠r:=fun z=>h.nq (z ▸ hm)
 refine⟨fun b o nb e=>?_,h.nd,h.nq,?_,fun a r' ha=>?_⟩
 ·have nbr:b≠r:=fun z=>nb (by rw[z];exact hm)
  rw[az nbr]
  exact h.keep b o nb e
 ·rw[az nqr]
  exact h.rows.1
 ·by_cases hai:a=i
  ·subst hai
   rw[hi]at ha
   cases ha
   rw[aL,mI _ _ hj]
   congr 2
   refine dN fun y _=>?_
   unfold put2
   by_cases hy:y=j
   ·rw[if_pos hy,if_pos ⟨rfl,hy⟩]
   ·rw[if_neg hy,if_neg fun z=>hy z.2]
  ·have nr:r'≠r:=fun z=>hai ((List.getElem?_inj (Ee.mp ha).1 h.nd).mp (by rw[ha,hi,z]))
   rw[az nr,h.rows.2 a r' ha]
   congr 2
   exact dN fun y _=>by unfold put2;rw[if_neg fun z=>hai z.1]
theorem Dv{m:Int}{ws:List Way}(ok:HOuse m ws){top:Int}{x y:Bfs.Pl}(h0:0<=top)(hx:bI m top x)(h:LB ws m.toNat top x y):bI m top y:=by
 have m1:=ok.m1
 rcases h with⟨w,hw,ho,rfl,hle⟩ | ⟨_,i,j,hk,_,rfl⟩
 ·have okw:=ok.ok w hw
  refine⟨okw.o0,okw.o1,?_,hle⟩
  have hs:=(nv okw.dd x).mp ho
  exact sF okw.dd hx.2.2.1 hs.2
 ·have:=Kpt.lt ok.ok hk
  exact⟨by show(0:Int)<=(j:Int);omega,by show(j:Int)<m;omega,h0,Int.le_refl _⟩
theorem WT.eu{H H':Hp}{c:Addr}{n:Nat}{ls:List Addr}{ws:List Way}(e:Eu H H')(h:WT H c n ls ws):WT H' c n ls ws:=
 ⟨e _ _ h.at_ (fun f z=>by cases z),h.len,fun r l hl=>by obtain⟨bs,h1,h2⟩:=h.it r l hl;exact⟨bs,e _ _ h1 (fun f z=>by cases z),h2.eu e⟩⟩
theorem dS.eu{H H':Hp}(e:Eu H H'){l:Addr}{n:Nat}{R:Nat->Nat->Prop}(h:dS H l n R):dS H' l n R:=by
 obtain⟨ps,g,h1,h2,h3⟩:=h
 exact⟨ps,g,e _ _ h1 (fun f z=>by cases z),bT (fun a x h=>h.eu e) h2,h3⟩
theorem oE{K:DS}{x q:Str}{line col:Nat}{H H':Hp}{rs:List Addr}(e:∀b o,b∉rs->H b=some o->H' b=some o)(hr:∀r∈rs,∃xs,H r=some (.lst xs))(h:df K x q line col H):df K x q line col H':=fun c T ht=>by
 have no:∀b o,H b=some o->(∀xs,o≠.lst xs)->H' b=some o:=fun b o hb nl=>e b o (fun z=>by obtain⟨xs,hx⟩:=hr b z;rw[hx]at hb;cases hb;exact nl _ rfl) hb
 rcases h c T ht with h | ⟨c',h1,h2⟩
 ·exact .inl (no _ _ h (fun xs z=>by cases z))
 ·exact .inr ⟨c',no _ _ h1 (fun xs z=>by cases z),no _ _ h2 (fun xs z=>by cases z)⟩
theorem Tbs.kp{K:DS}{H H':Hp}{rs:List Addr}(e:∀b o,b∉rs->H b=some o->H' b=some o)(hr:∀r∈rs,∃xs,H r=some (.lst xs))(h:Tbs K H):Tbs K H':=⟨oE e hr h.kept,oE e hr h.low,oE e hr h.risen⟩
def nF(K:DS):Sp:=fun vs H Q _=>∃vh m ws pa x,vs=[vh,.ref pa]/\aU H vh m ws/\HOuse m ws/\ax H pa x/\cn m x/\eS K/\Tbs K H/\∀q rs M H',Et H H'->Tbs K H'->Rows H' q rs m.toNat M->(rs.length:Int)=x.2+1->(∀i r:Nat,(i:Int)<=x.2->(r:Int)<m->(M i r=true↔∃n,Bfs.Rw (LB ws m.toNat x.2) n x ((r:Int),(i:Int))))->Q (.ref q) H'
abbrev kL:Stmt:=stq 42
theorem vc:FnScope ["house","place","ways","keeps","levels","room","number"] ["house","place"] (aI kL):=⟨rfl,rfl,rfl,by decide +kernel,rfl,by decide +kernel,by decide +kernel⟩
theorem B6{P:Program}{w:World}{K:DS}{mg:Str->Option Value}{base:Heap}(D:Dfn K mg "low_levels" kL ["house","place"])(T:Blt mg){c9 T9:Addr}(B:Tab K mg base "low_levels" c9 T9)(C_reached:Cal P w K mg base "reached" 6 ["place","beside"] (ub P w K mg base))(C_kept:Cal P w K mg base "kept" 7 ["house"] (nG K))(C_ways_by_room:Cal P w K mg base "ways_by_room" 1 ["house"] (vL K))(C_low_beside:Cal P w K mg base "low_beside" 4 ["ways","keeps","top","here"] (sS K)):Cal P w K mg base "low_levels" 8 ["house","place"] (nF K):=by
 have nd:=(vc).nd
 refine D.okL B vc (fun vs H Q E h=>?_) (fun X hX H vs Q E h=>?_)
 ·obtain⟨vh,m,ws,pa,x,rfl,_⟩:=h;rfl
 ·obtain⟨f,A,outer,s,H0,E0,rfl,hr⟩:=hX
  obtain⟨vh,m,ws,pa,x,rfl,hv,ok,hpx,ix,dis,htb,q⟩:=h
  have m1:=ok.m1
  have m12:=ok.m12
  obtain⟨i0,i1,i2,i3⟩:=id ix
  refine⟨_,(aj (aG (i:=2) nd rfl (Or.inr rfl) (aH C_ways_by_room hr (aa (pv 0) ae)))
    (aj (aG (i:=3) nd rfl (Or.inr rfl) (aH C_kept hr (aa (pv 0) ae)))
    (aj (fZ (i:=4) ["number"] [0] nd rfl (Or.inl rfl) (cX rfl T.range_ (aa (aD bH (ai (aB K) (pv 1) af (fun _ _=>rfl)) af) ae)) (fun _=>(aO (i:=0) (show(["number","house"]:List Str).Nodup from by decide +kernel) rfl (Or.inl rfl) (Or.inr rfl))) (fun _=>dY) (fun _=>(aD uP (bJ (aa bR ae)) (ai (aB K) (pv 1) af (fun _ _=>rfl)))))
    (aj (cj PassesOwn.never rfl (cz K (oM [2,3,1] C_reached hr (aa (pv 1) (aa (mf rfl rfl B.hd B.blt B.gl (by decide +kernel) rfl rfl rfl) ae)))) (fj (n:=2) K rfl (bG (aO (i:=5) nd rfl (Or.inl rfl)) (bG (aO (i:=6) nd rfl (Or.inl rfl)) fi))) (av (gX bR (iF (ai (aS K) (pv 4) (pv 6) (fun _ _=>rfl)) (pv 5) set_list))))
    (av (aF (pv 4))))))),?_⟩
  walk_at "rd"
  refine⟨vh,m,ws,rfl,hv,ok,fun c ls H1 e1 wt=>?_⟩
  walk_at "rd"
  refine⟨vh,m,ws,rfl,hv.ext e1,ok,dis,htb.ext e1,fun kl H2 e2 tb2 prs=>?_⟩
  have e02:=e1.et.trans e2
  have wt2:=wt.et e2
  have hv2:=hv.et e02
  have hpx2:=hpx.et e02
  obtain⟨hp0,hq0,hvr,hh2,_⟩:=id hv2
  subst hvr
  walk_at "rd"
  refine aA (ah.of hpx2) (v:=.int x.2) rfl ?_
  walk_at "rd"
  refine cR (by omega) ?_
  refine ef (fun i ys H'=>Ext H2 H'/\∃rs:List Addr,ys=List.map V.ref rs/\rs.length=i/\rs.Nodup/\∀r∈rs,H' r=some (.lst (aN m.toNat fun _=>false))/\H2 r=none) (ao (by omega)) ⟨Ext.rfl' _,[],rfl,rfl,List.nodup_nil,fun l h=>(nomatch h)⟩ (fun i ys H' _ h=>by obtain⟨_,ls,rfl,h,_⟩:=h;rw[DW,h];exact Ep _) ?_ ?_
  ·rintro i ys H3 hi ⟨e3,rs,rfl,hl,hnd,hrs⟩
   walk_at "rd"
   refine aC ?_
   walk_at "rd"
   refine⟨ao (by simp),aq fun z1 H4 e4 hz1 _=>?_⟩
   walk_at "rd"
   refine aA (ah.of ((e3.trans e4) _ _ hh2)) (v:=.int m) rfl ?_
   refine rY hz1 (by omega) (ao (by simp;omega)) (aq fun z2 H5 e5 hz2 hn5=>?_)
   rw[rM]at hz2
   refine⟨(e3.trans e4).trans e5,rs++[z2],by rw[Em];rfl,by rw[En,hl];rfl,?_,fun r hr=>?_⟩
   ·rw[List.nodup_append]
    refine⟨hnd,by simp,fun a ha b hb z=>?_⟩
    rw[Eg.mp hb]at z
    subst z
    rw[e4 _ _ (hrs a ha).1]at hn5
    cases hn5
   ·rcases Ew.mp hr with h | h
    ·exact⟨(e4.trans e5) _ _ (hrs r h).1,(hrs r h).2⟩
    ·rw[Eg.mp h]
     refine⟨hz2,?_⟩
     cases y:H2 z2 with
     | none=>rfl
     | some o=>rw[(e3.trans e4) _ _ y]at hn5;cases hn5
  ·rintro ys H3 lq ⟨e3,rs,rfl,hrl,hnd,hrs⟩ hlq
   have e34:=bw (o:=.lst (List.map V.ref rs)) hlq
   have hlq4:(upd H3 lq (.lst (List.map V.ref rs))) lq=_:=aL
   have nql:lq∉rs:=fun z=>by rw[(hrs lq z).1]at hlq;cases hlq
   have rows4:Rows (upd H3 lq (.lst (List.map V.ref rs))) lq rs m.toNat (fun _ _=>false):=⟨aL,fun i r h=>e34 _ _ (hrs r (Ef h)).1⟩
   have e24:=e3.trans e34
   generalize upd H3 lq (.lst (List.map V.ref rs))=H4 at e34 hlq4 rows4 e24 ⊢
   have e04:=e02.trans e24.et
   have tb4:=tb2.ext e24
   have wt4:=wt2.ext e24
   have prs4:=prs.et e24.et
   have hpx4:ax H4 pa x:=e24 _ _ hpx2
   walk_at "rd"
   show iG _ [2,3,1] _ (["house","place","ways","keeps","levels","room","number"]:List Str) _ _ _ _
   generalize PySem.Env.cells _=cells0
   refine mz ?_
   walk_at "rd"
   refine m9 ?_
   refine mW (x:="low_levels") tb4.low B.tin fun fl c' cl H5 hcl e5 ht5 ot hf hc'=>?_
   have t5:Tbs K H5:=⟨ot "kept" _ _ _ (fun c2 T2 e2=>dis "low_levels" (by simp) "kept" (by simp) (by decide +kernel) _ _ _ _ B.tin e2) tb4.kept,ht5,ot "risen" _ _ _ (fun c2 T2 e2=>dis "low_levels" (by simp) "risen" (by simp) (by decide +kernel) _ _ _ _ B.tin e2) tb4.risen⟩
   walk_at "rd"
   refine⟨fun j hj=>?_,fun cp hlen hcp=>?_⟩
   ·simp only[Ek,EF,or_false]at hj
    rcases hj with rfl | rfl | rfl
    ·exact⟨_,rfl⟩
    ·exact⟨_,rfl⟩
    ·exact⟨_,rfl⟩
   obtain⟨⟨n1,d1,o1,v1⟩,⟨n2,d2,o2,v2⟩,⟨n3,d3,o3,v3⟩,rfl⟩:=zf hlen
   obtain⟨hN1,hcc1,hσ1,hno1,u1,hdat1,hrel1⟩:=hcp 0 2 _ rfl rfl
   obtain⟨hN2,hcc2,hσ2,hno2,u2,hdat2,hrel2⟩:=hcp 1 3 _ rfl rfl
   obtain⟨hN3,hcc3,hσ3,hno3,u3,hdat3,hrel3⟩:=hcp 2 1 _ rfl rfl
   clear hcp hlen
   dsimp only at hN1 hcc1 hσ1 hno1 hdat1 hrel1 hN2 hcc2 hσ2 hno2 hdat2 hrel2 hN3 hcc3 hσ3 hno3 hdat3 hrel3
   have hN1':(Str.ofString "ways")=n1:=Option.some.inj hN1
   have hσ1':(V.ref c)=v1:=Option.some.inj (Option.some.inj hσ1)
   have hN2':(Str.ofString "keeps")=n2:=Option.some.inj hN2
   have hσ2':(V.ref kl)=v2:=Option.some.inj (Option.some.inj hσ2)
   have hN3':(Str.ofString "place")=n3:=Option.some.inj hN3
   have hσ3':(V.ref pa)=v3:=Option.some.inj (Option.some.inj hσ3)
   clear hN1 hσ1 hN2 hσ2 hN3 hσ3
   subst hN1'
   subst hσ1'
   subst hN2'
   subst hσ2'
   subst hN3'
   subst hσ3'
   obtain⟨a1,ha1⟩:=hcl.has (Str.ofString "ways") rfl
   obtain⟨a2,ha2⟩:=hcl.has (Str.ofString "keeps") rfl
   obtain⟨a3,ha3⟩:=hcl.has (Str.ofString "place") rfl
   have hb1:=(hcl.fr _ _ ha1).2
   have hb2:=(hcl.fr _ _ ha2).2
   have hb3:=(hcl.fr _ _ ha3).2
   rw[hcc1]at hb1
   rw[hcc2]at hb2
   rw[hcc3]at hb3
   cases hb1
   cases hb2
   cases hb3
   have n12:d1≠d2:=fun z=>absurd (hcl.inj _ _ _ ha1 (z ▸ ha2)) (by decide +kernel)
   have n13:d1≠d3:=fun z=>absurd (hcl.inj _ _ _ ha1 (z ▸ ha3)) (by decide +kernel)
   have n23:d2≠d3:=fun z=>absurd (hcl.inj _ _ _ ha2 (z ▸ ha3)) (by decide +kernel)
   obtain⟨cp,hcp⟩:∃cp:List Cap,cp=[⟨Str.ofString "ways",d1,o1,V.ref c⟩,⟨Str.ofString "keeps",d2,o2,V.ref kl⟩,⟨Str.ofString "place",d3,o3,V.ref pa⟩]:=⟨_,rfl⟩
   have hn5:∀b o9,(cellsOf cp).lookup b=some o9->H5 b=none:=fun b o9 hb=>by
    obtain⟨e,he,rfl,rfl⟩:=fS hb
    rw[hcp]at he
    simp only[Ek,EF,or_false]at he
    rcases he with rfl | rfl | rfl
    ·exact hno1
    ·exact hno2
    ·exact hno3
   have ex:=j8 hn5
   have hcaps:Caps (bz (cellsOf cp) H5) cl cp:=by
    refine⟨fun e he=>?_,fun y g hy=>?_⟩
    ·rw[hcp]at he ⊢
     simp only[Ek,EF,or_false]at he
     rcases he with rfl | rfl | rfl
     ·exact⟨ha1,dZ (by simp[cellsOf]),u1,hdat1,hrel1⟩
     ·refine⟨ha2,dZ ?_,u2,hdat2,hrel2⟩
      show List.lookup d2 ((d1,o1)::(d2,o2)::[(d3,o3)])=some o2
      rw[List.lookup_cons,show (d2 == d1)=false from beq_eq_false_iff_ne.mpr (Ne.symm n12),List.lookup_cons,beq_self_eq_true]
     ·refine⟨ha3,dZ ?_,u3,hdat3,hrel3⟩
      show List.lookup d3 ((d1,o1)::(d2,o2)::[(d3,o3)])=some o3
      rw[List.lookup_cons,show (d3 == d1)=false from beq_eq_false_iff_ne.mpr (Ne.symm n13),List.lookup_cons,show (d3 == d2)=false from beq_eq_false_iff_ne.mpr (Ne.symm n23),List.lookup_cons,beq_self_eq_true]
    ·have hm:=gU (hcl.fr y g hy).1
     rw[hcp]
     simp at hm
     rcases hm with rfl | rfl | rfl
     all_goals first | (rw[ha1]at hy;cases hy;exact⟨⟨Str.ofString "ways",d1,o1,V.ref c⟩,by simp,rfl,rfl⟩) | (rw[ha2]at hy;cases hy;exact⟨⟨Str.ofString "keeps",d2,o2,V.ref kl⟩,by simp,rfl,rfl⟩) | (rw[ha3]at hy;cases hy;exact⟨⟨Str.ofString "place",d3,o3,V.ref pa⟩,by simp,rfl,rfl⟩)
   have wt5:=(wt4.et e5).ext ex
   have prs5:=(prs4.et e5).et ex.et
   have hpx5:ax (bz (cellsOf cp) H5) pa x:=ex _ _ (hpx4.et e5)
   subst hcp
   have hF:=
    nN (P:=P) (w:=w) (K:=K) (mg:=mg) (base:=base) (k:=4) hf hcl (["here"]:List Str) [⟨Str.ofString "ways",d1,o1,V.ref c⟩,⟨Str.ofString "keeps",d2,o2,V.ref kl⟩,⟨Str.ofString "place",d3,o3,V.ref pa⟩] (ua m x.2 (LB ws m.toNat x.2)) (fun H=>WT H c m.toNat ls ws/\dS H kl m.toNat (Kpt ws m.toNat)/\ax H pa x) ⟨rfl,rfl,rfl,by decide +kernel,by decide +kernel⟩ (fun _ _ _ us hl=>by obtain⟨u1,rfl⟩:=n8 hl;rfl) (fun vs H Q h=>by obtain⟨p,y,rfl,_⟩:=h;rfl) (fun A outer s H vs Q hrL hpre hI hR=>by
     obtain⟨p,y,rfl,hpy,iy,hQ⟩:=hR
     have hlk:=hpre.2.2.look
     obtain⟨hI1,hI2,hI3⟩:=hI
     have eu:Eu H (aW (cellsOf [⟨Str.ofString "ways",d1,o1,V.ref c⟩,⟨Str.ofString "keeps",d2,o2,V.ref kl⟩,⟨Str.ofString "place",d3,o3,V.ref pa⟩]) H):=fun b o hb nf=>fP hlk hb nf
     have k1:=hI1.eu eu
     have k2:=hI2.eu eu
     have k3:=hI3.eu eu
     have kp:=hpy.eu eu
     refine⟨_,(aH C_low_beside hrL (aa (pv 1) (aa (pv 2) (aa (ai (aB K) (pv 3) af (fun _ _=>rfl)) (aa (pv 0) ae))))),?_⟩
     have hb:∀H',Ext (aW (cellsOf [⟨Str.ofString "ways",d1,o1,V.ref c⟩,⟨Str.ofString "keeps",d2,o2,V.ref kl⟩,⟨Str.ofString "place",d3,o3,V.ref pa⟩]) H) H'->Ext H (bz (cellsOf [⟨Str.ofString "ways",d1,o1,V.ref c⟩,⟨Str.ofString "keeps",d2,o2,V.ref kl⟩,⟨Str.ofString "place",d3,o3,V.ref pa⟩]) H'):=fun H' e=>p0 hlk e
     have hu:∀l,(cellsOf [⟨Str.ofString "ways",d1,o1,V.ref c⟩,⟨Str.ofString "keeps",d2,o2,V.ref kl⟩,⟨Str.ofString "place",d3,o3,V.ref pa⟩]).lookup l=none->aW (cellsOf [⟨Str.ofString "ways",d1,o1,V.ref c⟩,⟨Str.ofString "keeps",d2,o2,V.ref kl⟩,⟨Str.ofString "place",d3,o3,V.ref pa⟩]) H l=H l:=fun l hl=>b8 hl
     generalize aW (cellsOf [⟨Str.ofString "ways",d1,o1,V.ref c⟩,⟨Str.ofString "keeps",d2,o2,V.ref kl⟩,⟨Str.ofString "place",d3,o3,V.ref pa⟩]) H=HU at k1 k2 k3 kp hb hu ⊢
     generalize cellsOf [⟨Str.ofString "ways",d1,o1,V.ref c⟩,⟨Str.ofString "keeps",d2,o2,V.ref kl⟩,⟨Str.ofString "place",d3,o3,V.ref pa⟩]=cs at hb hu ⊢
     show lT _ _ _ _ [some (.ref p),some (.ref c),some (.ref kl),some (.ref pa)] _ _
     walk_at "rd"
     refine aA (ah.of k3) (v:=.int x.2) rfl ?_
     walk_at "rd"
     refine⟨c,kl,x.2,p,m,ws,ls,y,rfl,k1,k2,ok,kp,iy.1,iy.2.1,fun l ps ys H' e hn hl hps hys hyl=>?_⟩
     intro hnc
     have nl:cs.lookup l=none:=by
      cases z:cs.lookup l with
      | none=>rfl
      | some o=>rw[hnc l o z]at hl;cases hl
     have et:=j8 hnc
     exact hQ l ps ys _ (hb H' e) (by rw[←hu l nl];exact hn) (et _ _ hl) (bT (fun a x h=>et _ _ h) hps) hys hyl)
   refine⟨pa,fl,_,x,m,x.2,LB ws m.toNat x.2,rfl,hpx5,⟨i0,i1,i2,Int.le_refl _⟩,m12,by omega,hF,⟨⟨ex _ _ hf,ex _ _ hc',hcaps⟩,wt5,prs5,hpx5⟩,fun H H' e h=>⟨h.1.ext e,h.2.1.ext e,h.2.2.1.et e.et,e _ _ h.2.2.2⟩,fun y z hy hS=>Dv ok i2 hy hS,fun l as qs H6 e6 hl6 hps hin hqn hqs=>?_⟩
   clear hF
   obtain⟨b1,b2,b3,b4⟩:=held hn5 e6
   refine⟨b1,?_⟩
   have hl7:=b4 _ _ hl6 (fun f z=>by cases z)
   have hps7:Paired (ax (aW _ H6)) as qs:=bT (fun a x h=>b4 _ _ h (fun f z=>by cases z)) hps
   have rows7:=(rows4.et e5).ext b2
   have e07:=(e04.trans e5).trans b2.et
   have t7:=t5.ext b2
   generalize aW _ H6=H7 at hl7 hps7 rows7 e07 t7 ⊢
   have hal:=cV hps7
   have fr0:∀r∈rs,∀o,H r=some o->(∀ps,o≠.tbl ps)->False:=fun r hr o ho no=>by
    have:=e02 _ _ ho no
    rw[(hrs r hr).2]at this
    cases this
   clear hcaps hn5 ex wt5 prs5 hpx5 e6 hl6 hps b1 b2 b3 b4 hf hc' hcl ha1 ha2 ha3 hcc1 hcc2 hcc3 hno1 hno2 hno3 hrel1 hrel2 hrel3 hdat1 hdat2 hdat3 n12 n13 n23 ot
   have tup1:∀(b:Addr) (z:Bfs.Pl),ax H7 b z->b∉rs:=fun b z hb hr=>by
    obtain⟨j,hj⟩:=List.getElem?_of_mem hr
    have h1:=rows7.2 j b hj
    have h2:H7 b=some (.tup [.int z.1,.int z.2]):=hb
    rw[h1]at h2
    cases h2
   have nl:l∉rs:=fun hr=>by
    obtain⟨j,hj⟩:=List.getElem?_of_mem hr
    have h1:=rows7.2 j l hj
    rw[hl7]at h1
    have h2:List.map V.ref as=aN m.toNat fun _=>false:=by
     injection h1 with h1
     injection h1
    have h3:=congrArg (fun z:List V=>z[0]?) h2
    try dsimp only at h3
    rw[fm _ (by omega),DY]at h3
    cases y:as[0]? with
    | none=>rw[y]at h3;cases h3
    | some a=>rw[y]at h3;cases h3
   refine cw (ag.of hl7) ?_
   refine forL (xs:=List.map V.ref as) (fun j σ H'=>∃M k1 k2,TL H7 H' lq rs m.toNat M/\(∀i r:Nat,M i r=true↔(((r:Nat):Int),((i:Nat):Int))∈qs.take j)/\σ=[some (.ref hp0),some (.ref pa),some (.ref c),some (.ref kl),some (.ref lq),k1,k2]) ⟨_,_,_,⟨fun _ _ _ e=>e,hnd,nql,rows7⟩,fun i r=>by simp,rfl⟩ (fun j σ H' _ h=>by obtain⟨M,k1,k2,tl,_⟩:=h;exact ag.of (tl.keep _ _ nl hl7)) ?_ ?_
   ·rintro j v σ H8 hx ⟨M,k1,k2,tl,hM,rfl⟩
    rw[DY]at hx
    obtain⟨b,hb,rfl⟩:=Eh.mp hx
    obtain⟨z,hz,hbz⟩:=fK hps7 hb
    obtain⟨z0,z1,z2,z3⟩:=hin z (Ef hz)
    have hbz8:ax H8 b z:=tl.keep _ _ (tup1 b z hbz) hbz
    have hrx:z.2.toNat<rs.length:=by omega
    have hrg:rs[z.2.toNat]?=some rs[z.2.toNat]:=DX hrx
    generalize rs[z.2.toNat]=ar at hrg
    have hrow:=tl.rows.2 _ _ hrg
    refine fI (ah.of hbz8) rfl ?_
    walk_at "rd"
    refine aQ (ag.of tl.rows.1) (v:=.ref ar) (dO z2 (by rw[DY,hrg];rfl)) ?_
    walk_at "rd"
    refine iR hrow (iE z0 (by rw[cx];omega)) ?_
    refine⟨_,_,_,tl.mark hrg (by omega),fun i r=>?_,rfl⟩
    rw[List.take_add_one,hz,Ew]
    unfold put2
    split
    ·rename_i y
     simp only[true_iff]
     right
     simp
     refine Prod.ext ?_ ?_
     ·show((r:Nat):Int)=z.1
      omega
     ·show((i:Nat):Int)=z.2
      omega
    ·rename_i y
     rw[hM]
     constructor
     ·exact fun h=>.inl h
     ·rintro(h | h)
      ·exact h
      ·have h':(((r:Nat):Int),((i:Nat):Int))=z:=by simpa using h
       refine absurd ⟨?_,?_⟩ y
       ·rw[←h']
        show i=((i:Nat):Int).toNat
        omega
       ·rw[←h']
        show r=((r:Nat):Int).toNat
        omega
   ·rintro σ H8 ⟨M,k1,k2,tl,hM,rfl⟩
    rw[DW,hal,EB]at hM
    walk_at "rd"
    refine q lq rs M H8 (fun b o hb no=>?_) (t7.kp tl.keep fun r hr=>?_) tl.rows (by omega) fun i r hi hr=>?_
    ·have h7:=e07 _ _ hb no
     exact tl.keep b o (fun hr=>fr0 b hr o hb no) h7
    ·obtain⟨j,hj⟩:=List.getElem?_of_mem hr
     exact⟨_,rows7.2 j r hj⟩
    ·rw[hM]
     exact hqs _
def rJ(K:DS):Sp:=fun vs H Q _=>∃rl lv n f R,vs=[.ref rl,.ref lv]/\dS H rl n R/\H lv=some (.lst (aN n f))/\n<=12/\∀l g H',Ext H H'->H l=none->H' l=some (.lst (aN n g))->(∀j,j<n->(g j=true↔∃i,i<n/\f i=true/\R i j))->Q (.ref l) H'
abbrev jy:Stmt:=stq 43
theorem qW:FnScope ["rises","level","risen_to","p","q"] ["rises","level"] (aI jy):=⟨rfl,rfl,rfl,by decide +kernel,rfl,by decide +kernel,by decide +kernel⟩
theorem BU{P:Program}{w:World}{K:DS}{mg:Str->Option Value}{base:Heap}(D:Dfn K mg "next_level" jy ["rises","level"])(T:Blt mg):Cal P w K mg base "next_level" 1 ["rises","level"] (rJ K):=by
 have nd:=(qW).nd
 refine D.ok qW (fun vs H Q E h=>?_) (fun X hX H vs Q E h=>?_)
 ·obtain⟨rl,lv,n,f,R,rfl,_⟩:=h;rfl
 ·obtain⟨f,cdv,A,outer,s,H0,E0,rfl,hr⟩:=hX
  obtain⟨rl,lv,n,f',R,rfl,prs,hlv,hn,q⟩:=h
  obtain⟨ps,g,hrl,hps,hg⟩:=prs
  have hpl:=cV hps
  refine⟨_,(@aj _ _ _ _ _ (@aG _ _ 2 _ _ _ _ nd rfl (Or.inl rfl) (aD uP (@bJ _ _ _ _ (@aa _ _ _ _ _ bR ae rfl)) (bc (cH K) rfl T.len_ PySem.boot_len (@aa _ _ _ _ _ (pv 1) ae rfl))) rfl (Or.inl rfl))
    (@aj _ _ _ _ _ (cj PassesOwn.never rfl (cz K (pv 0)) (fj (n:=2) K rfl (bG (aO (i:=3) nd rfl (Or.inl rfl)) (bG (aO (i:=4) nd rfl (Or.inl rfl)) fi))) (@av _ _ _ (cO (b9 (@ai _ _ _ _ _ _ _ (aS K) (pv 1) (pv 3) (fun _ _=>rfl))) (@av _ _ _ (@gX _ _ _ _ _ _ bR (iF (pv 2) (pv 4) set_list) rfl rfl rfl)) bf)))
    (@av _ _ _ (@aF _ _ _ _ (pv 2))))),?_⟩
  walk_at "rd"
  refine⟨ao (by simp),aq fun z1 H1 e1 hz1 _=>?_⟩
  walk_at "rd"
  refine dI (ag.of (e1 _ _ hlv)) ?_
  rw[cx]
  refine rY hz1 (by omega) (ao (by simp;omega)) (aq fun rt H2 e2 hrt hrn=>?_)
  rw[rM,Ei]at hrt
  have e02:=e1.trans e2
  have hrt0:H rt=none:=by
   cases y:H rt with
   | none=>rfl
   | some o=>rw[e1 _ _ y]at hrn;cases hrn
  walk_at "rd"
  refine cw (ag.of (e02 _ _ hrl)) ?_
  refine forL (xs:=List.map V.ref ps) (fun j σ H'=>∃h k1 k2,Ext H H'/\H' rt=some (.lst (aN n h))/\(∀b,h b=true↔∃z∈(cI n g n).take j,f' z.1.toNat=true/\z.2.toNat=b)/\σ=[some (.ref rl),some (.ref lv),some (.ref rt),k1,k2]) ⟨_,_,_,e02,hrt,fun b=>by simp,rfl⟩ (fun j σ H' _ h=>by obtain⟨_,_,_,e,_⟩:=h;exact ag.of (e _ _ hrl)) ?_ ?_
  ·rintro j v σ H3 hx ⟨h,k1,k2,e3,hr3,hh,rfl⟩
   rw[DY]at hx
   obtain⟨b,hb,rfl⟩:=Eh.mp hx
   obtain⟨z,hz,hbz⟩:=fK hps hb
   obtain⟨i,r,hi,hr,hgz,rfl⟩:=hG.mp (Ef hz)
   have hbz3:ax H3 b (((i:Nat):Int),((r:Nat):Int)):=e3 _ _ hbz
   refine fI (ah.of hbz3) rfl ?_
   walk_at "rd"
   refine b7 ?_
   walk_at "rd"
   refine aQ (ag.of (e3 _ _ hlv)) (dj (by omega) (by omega)) ?_
   rw[Ei]
   walk_at "rd"
   have step:∀P:Bfs.Pl->Prop,(∃z∈(cI n g n).take (j+1),P z)↔(∃z∈(cI n g n).take j,P z)\/P (((i:Nat):Int),((r:Nat):Int)):=fun P=>by
    rw[List.take_add_one,hz]
    constructor
    ·rintro⟨z,hm,hp⟩
     rcases Ew.mp hm with hm | hm
     ·exact .inl ⟨z,hm,hp⟩
     ·have:z=(((i:Nat):Int),((r:Nat):Int)):=by simpa using hm
      subst this
      exact .inr hp
    ·rintro(⟨z,hm,hp⟩ | hp)
     ·exact⟨z,List.mem_append_left _ hm,hp⟩
     ·exact⟨_,List.mem_append_right _ (by simp),hp⟩
   cases hf:f' i with
   | false=>
    refine aw ?_
    walk_at "rd"
    refine⟨h,_,_,e3,hr3,fun b=>?_,rfl⟩
    rw[hh,step]
    constructor
    ·exact fun y=>.inl y
    ·rintro(y | ⟨y,_⟩)
     ·exact y
     ·have y':f' ((i:Nat):Int).toNat=true:=y
      rw[Ei,hf]at y'
      cases y'
   | true=>
    refine aC ?_
    walk_at "rd"
    refine iR hr3 (iE (by omega) (by rw[cx];omega)) ?_
    rw[Ei,mI _ _ hr]
    refine⟨_,_,_,cB e3 hrt0,aL,fun b=>?_,rfl⟩
    rw[step]
    by_cases hbr:b=r
    ·rw[if_pos hbr]
     simp only[true_iff]
     refine .inr ⟨?_,?_⟩
     ·show f' ((i:Nat):Int).toNat=true
      rw[Ei];exact hf
     ·show((r:Nat):Int).toNat=b
      rw[Ei];exact hbr.symm
    ·rw[if_neg hbr,hh]
     constructor
     ·exact fun y=>.inl y
     ·rintro(y | ⟨_,y⟩)
      ·exact y
      ·have y':((r:Nat):Int).toNat=b:=y
       rw[Ei]at y'
       exact absurd y'.symm hbr
  ·rintro σ H3 ⟨h,k1,k2,e3,hr3,hh,rfl⟩
   rw[DW,hpl,EB]at hh
   walk_at "rd"
   refine q rt h H3 e3 hrt0 hr3 fun b hb=>?_
   rw[hh]
   constructor
   ·rintro⟨z,hz,hf,rfl⟩
    obtain⟨i,r,hi,hr,hgz,rfl⟩:=hG.mp hz
    have hf':f' ((i:Nat):Int).toNat=true:=hf
    rw[Ei]at hf'
    refine⟨i,hi,hf',?_⟩
    show R i ((r:Nat):Int).toNat
    rw[Ei]
    exact(hg i r hi hr).mp hgz
   ·rintro⟨i,hi,hf,hR⟩
    refine⟨(((i:Nat):Int),((b:Nat):Int)),hG.mpr ⟨i,b,hi,hb,(hg i b hi hb).mpr hR,rfl⟩,?_,?_⟩
    ·show f' ((i:Nat):Int).toNat=true
     rw[Ei];exact hf
    ·show((b:Nat):Int).toNat=b
     exact Ei b
theorem se{f:Nat->Bool}{lo i:Nat}{ys:List V}(h:ys=(row f lo i).map V.int)(hf:f (lo+i)=true):ys++[V.int ((lo+i:Nat):Int)]=(row f lo (i+1)).map V.int:=by
 rw[qR,if_pos hf,Em,h]
 rfl
theorem tP{f:Nat->Bool}{lo i:Nat}{ys:List V}(h:ys=(row f lo i).map V.int)(hf:f (lo+i)=false):ys=(row f lo (i+1)).map V.int:=by
 rw[qR,if_neg (by rw[hf];decide),List.append_nil,h]
def fz(H:Hp)(v:V)(b s:Int)(o a:List Int):Prop:=∃p q r,v=.ref p/\H p=some (.tup [.int b,.int s,.ref q,.ref r])/\H q=some (.tup (o.map V.int))/\H r=some (.tup (a.map V.int))
theorem fz.ext{H H':Hp}{v:V}{b s:Int}{o a:List Int}(e:Ext H H')(h:fz H v b s o a):fz H' v b s o a:=by
 obtain⟨p,q,r,rfl,h1,h2,h3⟩:=h
 exact⟨p,q,r,rfl,e _ _ h1,e _ _ h2,e _ _ h3⟩
theorem tH{n:Nat}{f:Nat->Bool}{i:Int}(h0:0<=i)(h:i<=n):dU (aN n f) (some i) none=aN (n-i.toNat) fun k=>f (i.toNat+k):=by
 unfold dU
 rw[cx,HT.ux]
 have e:HT.b6 n 0 (some i)=i.toNat:=by
  show(if i<0 then(i+(n:Int)).toNat else min i.toNat n)=i.toNat
  rw[if_neg (by omega)]
  omega
 rw[e]
 apply List.ext_getElem?
 intro k
 rcases Nat.lt_or_ge k (n-i.toNat)with hk | hk
 ·rw[List.getElem?_take_of_lt hk,List.getElem?_drop,fm _ (by omega),fm _ hk]
 ·rw[List.getElem?_eq_none (by rw[List.length_take,List.length_drop,cx];omega),List.getElem?_eq_none (by rw[cx];omega)]
def dB(n:Nat)(f:Nat->Bool):List PyData:=(List.range n).map fun i=>PyData.bool (f i)
theorem uQ{α:Type}{R:V->PyData->Prop}{g:α->V}{k:α->PyData}(h:∀x,R (g x) (k x)):∀l:List α,Paired R (l.map g) (l.map k)
 | []=>.nil
 | x::l=>.cons (h x) (uQ h l)
theorem ik{H:Hp}{p:Addr}{n:Nat}{f:Nat->Bool}(h:H p=some (.lst (aN n f))):aV H 1 (.ref p) (.list (dB n f)):=
 .inr ⟨p,aN n f,dB n f,rfl,.inr ⟨h,rfl⟩,uQ (fun i=>(rfl:f i=f i)) _⟩
theorem rj{α:Type}(f g:α->Bool):∀l:List α,PyData.eqvAll (l.map fun i=>PyData.bool (f i)) (l.map fun i=>PyData.bool (g i))=l.all fun i=>f i == g i
 | []=>rfl
 | x::l=>by
  show(PyData.eqv (.bool (f x)) (.bool (g x)) && PyData.eqvAll (l.map fun i=>PyData.bool (f i)) (l.map fun i=>PyData.bool (g i)))=((f x == g x) && l.all fun i=>f i == g i)
  rw[rj f g l]
  rfl
theorem iu{n:Nat}{f g:Nat->Bool}:PyData.eqv (.list (dB n f)) (.list (dB n g))=true↔∀i,i<n->f i=g i:=by
 show PyData.eqvAll (dB n f) (dB n g)=true↔_
 unfold dB
 rw[rj,EG]
 simp only[List.mem_range,beq_iff_eq]
theorem Dd{n d:Nat}{g:Nat->Bool}(hd:d<=n)(hz:n % d=0):PyData.eqv (.list (dB (n-d) fun k=>g (d+k))) (.list (dB (n-d) g))=true↔Alike g 0 n d:=by
 rw[iu]
 constructor
 ·intro h
  refine⟨hz,fun i hi=>?_⟩
  have:=h i (by omega)
  rw[show 0+i+d=d+i by omega,this,Nat.zero_add]
 ·intro h i hi
  have:=h.2 i (by omega)
  rw[show 0+i+d=d+i by omega,Nat.zero_add]at this
  exact this
def xg(K:DS):Sp:=fun vs H Q _=>∃(p:Addr) (n:Nat) (g:Nat->Bool),vs=[.ref p]/\1<=n/\n<=20000/\H p=some (.lst (aN n g)) ∧
 ∀(d:Nat) H',Ext H H'->1<=d->d<=n->Alike g 0 n d->(∀e,1<=e->e<d->¬Alike g 0 n e)->Q (.int d) H'
abbrev jA:Stmt:=stq 7
theorem pX:FnScope ["turn","whole","step"] ["turn"] (aI jA):=⟨rfl,rfl,rfl,by decide +kernel,rfl,by decide +kernel,by decide +kernel⟩
theorem yG{P:Program}{w:World}{K:DS}{mg:Str->Option Value}{base:Heap}(D:Dfn K mg "least_step" jA ["turn"])(T:Blt mg):Cal P w K mg base "least_step" 1 ["turn"] (xg K):=by
 have nd:=(pX).nd
 refine D.ok pX (fun vs H Q E h=>?_) (fun X hX H vs Q E h=>?_)
 ·obtain⟨p,n,g,rfl,_⟩:=h;rfl
 ·obtain⟨f,cdv,A,outer,s,H0,E0,rfl,hr⟩:=hX
  obtain⟨p,n,g,rfl,hn1,hn2,hp,q⟩:=h
  refine⟨_,(aj (aG (i:=1) nd rfl (Or.inl rfl) (bc (cH K) rfl T.len_ PySem.boot_len (aa (pv 0) ae)))
    (aj (aG (i:=2) nd rfl (Or.inl rfl) af)
    (aj (gq PassesOwn.never (PW.pt (dC (aT eY (aD cC (pv 1) (pv 2)) af (aP _)) (dM (aT (vt hr) (ky (jt K) (pv 0) (jD (pv 2)) lj) (ky (jt K) (pv 0) lj (jD (aD dR (pv 1) (pv 2)))) (aP _))))) (av (jv (i:=2) nd rfl (Or.inl rfl) af oA)))
    (av (aF (pv 2)))))),?_⟩
  walk_at "rd"
  refine dI (ag.of hp) ?_
  rw[cx]
  walk_at "rd"
  refine f6 (fun m σ H'=>Ext H H'/\∃d:Nat,σ=[some (.ref p),some (.int n),some (.int d)]/\1<=d/\d<=n/\m=n-d/\∀e,1<=e->e<d->¬Alike g 0 n e)
   (fun σ H'=>Ext H H'/\∃d:Nat,σ=[some (.ref p),some (.int n),some (.int d)]/\1<=d/\d<=n/\Alike g 0 n d/\∀e,1<=e->e<d->¬Alike g 0 n e) (n-1)
   ⟨Ext.rfl' H,1,rfl,Ep _,hn1,rfl,fun e h1 h2=>by omega⟩ ?_ ?_
  rotate_left
  ·rintro σ H' ⟨e,d,rfl,h1,h2,ha,hf⟩
   walk_at "rd"
   exact q d H' e h1 h2 ha hf
  rintro m σ H' ⟨e,d,rfl,h1,h2,rfl,hf⟩
  have hp':=e _ _ hp
  have hmod:((n:Int) % (d:Int)=0)↔n % d=0:=by
   have:(n:Int) % (d:Int)=((n % d:Nat):Int):=rfl
   omega
  have next:∀H2,Ext H' H2->¬Alike g 0 n d->∃m',m'<n-d/\Ext H H2/\∃d':Nat,[some (V.ref p),some (V.int n),some (V.int ((d:Int)+1))]=[some (V.ref p),some (V.int n),some (V.int d')]/\1<=d'/\d'<=n/\m'=n-d'/\∀e,1<=e->e<d'->¬Alike g 0 n e:=by
   intro H2 e2 hna
   have hlt:d<n:=by
    rcases Nat.lt_or_ge d n with h | h
    ·exact h
    ·have:d=n:=by omega
     subst this
     exact absurd ⟨Nat.mod_self d,fun i hi=>by omega⟩ hna
   refine⟨n-(d+1),by omega,e.trans e2,d+1,rfl,by omega,by omega,rfl,fun e' h3 h4=>?_⟩
   rcases Nat.lt_or_ge e' d with h5 | h5
   ·exact hf e' h3 h5
   ·have:e'=d:=by omega
    subst this
    exact hna
  walk_at "rd"
  by_cases hz:(n:Int) % (d:Int)=0
  ·rw[decide_eq_true hz]
   refine aw ?_
   walk_at "rd"
   refine jW (ag.of hp') (aq fun p1 H1 e1 hp1 _=>?_)
   walk_at "rd"
   refine jW (ag.of (e1 _ _ hp')) (aq fun p2 H2 e2 hp2 _=>?_)
   rw[tH (by omega) (by omega),Ei]at hp1
   rw[AA (by omega) (by omega),show ((n:Int)-(d:Int)).toNat=n-d by omega]at hp2
   refine⟨1,1,_,_,ik (e2 _ _ hp1),ik hp2,by decide,?_⟩
   walk_at "rd"
   have hal:=Dd (g:=g) h2 (hmod.mp hz)
   cases hc:PyData.eqv (.list (dB (n-d) fun k=>g (d+k))) (.list (dB (n-d) g))with
   | true=>
    exact aw ⟨e.trans (e1.trans e2),d,rfl,h1,h2,hal.mp hc,hf⟩
   | false=>
    refine aC ⟨_,fun _ _ h=>h,?_⟩
    walk_at "rd"
    exact next H2 (e1.trans e2) fun h=>by rw[hal.mpr h]at hc;cases hc
  ·rw[decide_eq_false hz]
   refine aC (aC ⟨_,fun _ _ h=>h,?_⟩)
   walk_at "rd"
   exact next H' (Ext.rfl' H') fun h=>hz (hmod.mpr h.1)
theorem rS{f:Nat->Bool}{b n d:Nat}:Alike (fun k=>f (b+k)) 0 n d↔Alike f b n d:=by
 unfold Alike
 simp only[Nat.zero_add,Nat.add_assoc]
def pV(K:DS):Sp:=fun vs H Q _=>∃(p:Addr) (b n:Nat) (f:Nat->Bool),vs=[.ref p,.int b]/\1<=n/\b+n<=20000/\H p=some (.lst (aN (b+n) f))/\br f b n ∧
 ∀v (l d:Nat) H',Ext H H'->Least f d l->l<=b->d<=n->fz H' v l d (row f 0 l) (row f l d)->Q v H'
abbrev lJ:Stmt:=stq 8
theorem ue:FnScope ["marks","base","step","low","once","again"] ["marks","base"] (aI lJ):=⟨rfl,rfl,rfl,by decide +kernel,rfl,by decide +kernel,by decide +kernel⟩
theorem xm{P:Program}{w:World}{K:DS}{mg:Str->Option Value}{base:Heap}(D:Dfn K mg "stair_of_marks" lJ ["marks","base"])(T:Blt mg)(C_least_step:Cal P w K mg base "least_step" 1 ["turn"] (xg K)):Cal P w K mg base "stair_of_marks" 2 ["marks","base"] (pV K):=by
 have nd:=(ue).nd
 refine D.ok ue (fun vs H Q E h=>?_) (fun X hX H vs Q E h=>?_)
 ·obtain⟨p,b,n,f,rfl,_⟩:=h;rfl
 ·obtain⟨f,cdv,A,outer,s,H0,E0,rfl,hr⟩:=hX
  obtain⟨p,b,n,g,rfl,hn1,hbn,hp,hper,q⟩:=h
  refine⟨_,(aj (aG (i:=2) nd rfl (Or.inl rfl) (aH C_least_step hr (aa (ky (jt K) (pv 0) (jD (pv 1)) lj) ae)))
    (aj (aG (i:=3) nd rfl (Or.inl rfl) (pv 1))
    (aj (gq PassesOwn.never (PW.pt (gm (aT gA (pv 3) af (aP _)) (gR (aT bL (ai (aS K) (pv 0) (aD dR (pv 3) af) (fun _ _=>rfl)) (ai (aS K) (pv 0) (aD bH (aD dR (pv 3) af) (pv 2)) (fun _ _=>rfl)) (aP _))))) (av (jv (i:=3) nd rfl (Or.inl rfl) af yS)))
    (aj (fZ (i:=4) ["number"] [0] nd rfl (Or.inl rfl) (cX rfl T.range_ (aa (pv 3) ae)) (fun _=>(aO (i:=0) (show(["number","marks"]:List Str).Nodup from by decide +kernel) rfl (Or.inl rfl) (Or.inr rfl))) (fun _=>(fh (b9 (ai (aS K) (pv 1) (pv 0) (fun _ _=>rfl))))) (fun _=>(pv 0)))
    (aj (fZ (i:=5) ["number"] [0] nd rfl (Or.inl rfl) (zI rfl T.range_ (aa (pv 3) (aa (aD bH (pv 3) (pv 2)) ae))) (fun _=>(aO (i:=0) (show(["number","marks"]:List Str).Nodup from by decide +kernel) rfl (Or.inl rfl) (Or.inr rfl))) (fun _=>(fh (b9 (ai (aS K) (pv 1) (pv 0) (fun _ _=>rfl))))) (fun _=>(pv 0)))
    (av (aF (aM (aa (pv 3) (aa (pv 2) (aa (gW (jI K) rfl T.tuple_ PyProof.Rows.boot_tuple (aa (pv 4) ae)) (aa (gW (jI K) rfl T.tuple_ PyProof.Rows.boot_tuple (aa (pv 5) ae)) ae)))))))))))),?_⟩
  walk_at "rd"
  refine jW (ag.of hp) (aq fun p1 H1 e1 hp1 _=>?_)
  rw[tH (by omega) (by omega),Ei,show b+n-b=n by omega]at hp1
  walk_at "rd"
  refine⟨p1,n,_,rfl,hn1,by omega,hp1,fun d H2 e2 hd1 hd2 hal hfirst=>?_⟩
  have hal':=rS.mp hal
  have hfirst':∀e,1<=e->e<d->¬Alike g b n e:=fun e h3 h4 h5=>hfirst e h3 h4 (rS.mpr h5)
  have e02:Ext H H2:=e1.trans e2
  have hp2:=e02 _ _ hp
  walk_at "rd"
  refine f6 (fun m σ H'=>H'=H2/\∃l:Nat,σ=[some (.ref p),some (.int b),some (.int d),some (.int l),none,none]/\l<=b/\m=l/\∀x,l<=x->x<b->g x=g (x+d))
   (fun σ H'=>H'=H2/\∃l:Nat,σ=[some (.ref p),some (.int b),some (.int d),some (.int l),none,none]/\l<=b/\(∀x,l<=x->x<b->g x=g (x+d))/\(l=0\/g (l-1)≠g (l-1+d))) b
   ⟨rfl,b,rfl,Ep _,rfl,fun x h1 h2=>by omega⟩ ?_ ?_
  ·rintro m σ H' ⟨rfl,l,rfl,hl,rfl,hdown⟩
   walk_at "rd"
   by_cases h0:(0:Int)<(m:Int)
   ·rw[decide_eq_true h0]
    refine aC ?_
    walk_at "rd"
    refine aQ (ag.of hp2) (dj (by omega) (by omega)) ?_
    walk_at "rd"
    refine aQ (ag.of hp2) (dj (by omega) (by omega)) ?_
    walk_at "rd"
    rw[show ((m:Int)-1).toNat=m-1 by omega,show ((m:Int)-1+(d:Int)).toNat=m-1+d by omega]
    cases hc:g (m-1) == g (m-1+d)with
    | true=>
     refine aC ⟨_,fun _ _ h=>h,?_⟩
     walk_at "rd"
     refine⟨m-1,by omega,rfl,m-1,by rw[show ((m-1:Nat):Int)=(m:Int)-1 by omega];rfl,by omega,rfl,fun x h1 h2=>?_⟩
     rcases Nat.lt_or_ge x m with h3 | h3
     ·have:x=m-1:=by omega
      rw[this]
      exact eq_of_beq hc
     ·exact hdown x h3 h2
    | false=>exact aw ⟨rfl,m,rfl,hl,hdown,.inr fun h=>by rw[h]at hc;simp at hc⟩
   ·rw[decide_eq_false h0]
    exact aw (aw ⟨rfl,m,rfl,hl,hdown,.inl (by omega)⟩)
  rintro σ H' ⟨rfl,l,rfl,hl,hdown,hstop⟩
  have hleast:Least g d l:=Ce hper hn1 hd1 hal' hfirst' hl hdown hstop
  walk_at "rd"
  refine cR (by omega) ?_
  rw[Ei]
  refine ef (fun i ys H3=>H3=H'/\ys=(row g 0 i).map V.int) (ao (by omega)) ⟨rfl,rfl⟩ ?_ ?_ ?_
  ·rintro i ys H3 _ ⟨rfl,rfl⟩
   rw[DW];exact vO g 0 i
  ·rintro i ys H3 hi ⟨rfl,hy⟩
   walk_at "rd"
   refine aQ (ag.of hp2) (dj (by omega) (by omega)) ?_
   walk_at "rd"
   rw[show ((0:Int)+(i:Int)).toNat=i by omega]
   have e0:g (0+i)=g i:=by rw[Nat.zero_add]
   cases hg:g i with
   | true=>
    refine aC ?_
    walk_at "rd"
    refine⟨rfl,?_⟩
    rw[←se hy (e0.trans hg)]
    congr 3
    all_goals omega
   | false=>exact aw ⟨rfl,tP hy (e0.trans hg)⟩
  rintro ys H3 p3 ⟨rfl,rfl⟩ hp3
  have e4:Ext H3 (upd H3 p3 (.lst ((row g 0 l).map V.int))):=bw hp3
  have h4:(upd H3 p3 (.lst ((row g 0 l).map V.int))) p3=_:=aL
  generalize upd H3 p3 (.lst ((row g 0 l).map V.int))=H4 at e4 h4
  have hp4:=e4 _ _ hp2
  walk_at "rd"
  refine AI (by omega) ?_
  rw[show ((l:Int)+(d:Int)-(l:Int)).toNat=d by omega]
  refine ef (fun i ys H5=>H5=H4/\ys=(row g l i).map V.int) (ao (by omega)) ⟨rfl,rfl⟩ ?_ ?_ ?_
  ·rintro i ys H5 _ ⟨rfl,rfl⟩
   rw[DW];exact vO g _ i
  ·rintro i ys H5 hi ⟨rfl,hy⟩
   walk_at "rd"
   refine aQ (ag.of hp4) (dj (by omega) (by omega)) ?_
   walk_at "rd"
   rw[show ((l:Int)+(i:Int)).toNat=l+i by omega]
   cases hg:g (l+i)with
   | true=>
    refine aC ?_
    walk_at "rd"
    refine⟨rfl,?_⟩
    rw[←se hy hg]
    congr 3
    all_goals omega
   | false=>exact aw ⟨rfl,tP hy hg⟩
  rintro ys H5 p5 ⟨rfl,rfl⟩ hp5
  have e6:Ext H5 (upd H5 p5 (.lst ((row g l d).map V.int))):=bw hp5
  have h6:(upd H5 p5 (.lst ((row g l d).map V.int))) p5=_:=aL
  generalize upd H5 p5 (.lst ((row g l d).map V.int))=H6 at e6 h6
  walk_at "rd"
  refine lU (ag.of (e6 _ _ h4)) (aq fun t1 H7 e7 ht1 _=>?_)
  walk_at "rd"
  refine lU (ag.of (e7 _ _ h6)) (aq fun t2 H8 e8 ht2 _=>?_)
  walk_at "rd"
  refine⟨ao (by simp),aq fun t H9 e9 ht _=>?_⟩
  exact q _ l d H9 (e02.trans (e4.trans (e6.trans (e7.trans (e8.trans e9))))) hleast hl hd2 ⟨t,t1,t2,rfl,ht,e9 _ _ (e8 _ _ ht1),e9 _ _ ht2⟩
open Classical in
def g7(n:Nat)(R:Nat->Nat->Prop)(f:Nat->Bool):Nat->Bool:=fun j=>decide (∃i,i<n/\f i=true/\R i j)
theorem iV{n:Nat}{R:Nat->Nat->Prop}{f:Nat->Bool}{j:Nat}:g7 n R f j=true↔∃i,i<n/\f i=true/\R i j:=by
 unfold g7
 simp
def ba(n:Nat)(R:Nat->Nat->Prop)(f:Nat->Bool):Nat->Nat->Bool
 | 0=>f
 | k+1=>g7 n R (ba n R f k)
def dz(n:Nat)(f g:Nat->Bool):Prop:=∀j,j<n->f j=g j
theorem DM{n:Nat}{R:Nat->Nat->Prop}{f g:Nat->Bool}(h:dz n f g):dz n (g7 n R f) (g7 n R g):=fun j _=>by
 rw[EI,iV,iV]
 constructor
 ·rintro⟨i,hi,h1,h2⟩
  exact⟨i,hi,by rw[←h i hi];exact h1,h2⟩
 ·rintro⟨i,hi,h1,h2⟩
  exact⟨i,hi,by rw[h i hi];exact h1,h2⟩
theorem uK{n:Nat}{R:Nat->Nat->Prop}{f:Nat->Bool}{a k:Nat}(h:dz n (ba n R f a) (ba n R f k)):∀t,dz n (ba n R f (a+t)) (ba n R f (k+t))
 | 0=>h
 | t+1=>DM (uK h t)
def dP(f:Nat->Bool):Nat->Nat
 | 0=>0
 | n+1=>dP f n+if f n then 2 ^ n else 0
theorem kW(f:Nat->Bool):∀n,dP f n<2 ^ n
 | 0=>by simp[dP]
 | n+1=>by
  have:=kW f n
  have h2:2 ^ (n+1)=2 ^ n+2 ^ n:=by rw[Nat.pow_succ];omega
  show dP f n+(if f n then 2 ^ n else 0)<_
  split<;>omega
theorem vn{f g:Nat->Bool}:∀n,dP f n=dP g n->dz n f g
 | 0,_=>fun j hj=>absurd hj (Nat.not_lt_zero _)
 | n+1,h=>by
  have h1:=kW f n
  have h2:=kW g n
  have h':dP f n+(if f n then 2 ^ n else 0)=dP g n+(if g n then 2 ^ n else 0):=h
  have key:f n=g n/\dP f n=dP g n:=by
   cases hf:f n<;>cases hg:g n<;>simp[hf,hg]at h' ⊢<;>omega
  intro j hj
  by_cases hjn:j<n
  ·exact vn n key.2 j hjn
  ·have:j=n:=by omega
   subst this
   exact key.1
theorem um{n k:Nat}{F:Nat->Nat->Bool}(hn:n<=12)(h:∀a b,a<b->b<k->¬dz n (F a) (F b)):k<=4096:=by
 have h1:=Bfs.jm 4096 ((List.range k).map fun a=>dP (F a) n) (by
  rw[List.nodup_iff_pairwise_ne,List.pairwise_map,List.pairwise_iff_getElem]
  intro i j hi hj hij e
  simp at hi hj e
  exact h i j hij hj (vn n e)) (fun x hx=>by
  obtain⟨a,_,rfl⟩:=List.mem_map.mp hx
  exact ED (kW (F a) n) (EE (Nat.pow_le_pow_right (by omega) hn) (by decide)))
 simpa using h1
def fu(n:Nat)(R:Nat->Nat->Prop)(top:Nat)(M:Nat->Nat->Bool):Nat->Nat->Bool:=fun i=>if i<top then M i else ba n R (M top) (i-top)
theorem yg{α:Type}{xs:List α}{k:Nat}(h:xs.length=k+1){v:α}(hv:xs[k]?=some v):bA xs (-1)=some v:=by
 unfold bA de
 rw[h,if_neg (by omega),if_pos (by omega)]
 show xs[(-1+((k+1:Nat):Int)).toNat]?=some v
 rw[show (-1+((k+1:Nat):Int)).toNat=k by omega]
 exact hv
theorem Cz{xs:List V}{k:Nat}(h:xs.length=k+1):dU xs none (some (-1))=xs.take k:=by
 unfold dU
 have e1:HT.b6 xs.length xs.length (some (-1))=k:=by
  show(if(-1:Int)<0 then(-1+(xs.length:Int)).toNat else min (-1:Int).toNat xs.length)=_
  rw[if_pos (by decide)]
  omega
 have e2:HT.b6 xs.length 0 none=0:=rfl
 rw[e1,e2]
 simp
theorem oH{H:Hp}{n:Nat}:∀{hs:List Addr} {F:Nat->Nat->Bool},(∀(a:Nat) (r:Addr),hs[a]?=some r->H r=some (.lst (aN n (F a))))->Paired (aV H 1) (List.map V.ref hs) ((List.range hs.length).map fun a=>PyData.list (dB n (F a)))
 | [],_,_=>.nil
 | r::hs,F,h=>by
  rw[EA,List.range_succ_eq_map,List.map_cons,List.map_cons,List.map_map]
  exact .cons (ik (h 0 r rfl)) (oH (F:=fun a=>F (a+1)) fun a r' hr=>h (a+1) r' (by simpa using hr))
def wZ(K:DS):Sp:=fun vs H Q _=>∃vh m ws pa x,vs=[vh,.ref pa]/\aU H vh m ws/\HOuse m ws/\ax H pa x/\cn m x/\eS K/\Tbs K H/\∀p lq rs (b N:Nat) M H',Et H H'->Tbs K H'->H' p=some (.tup [.ref lq,.int (b:Nat)])->Rows H' lq rs m.toNat (fu m.toNat (aZ ws m.toNat) x.2.toNat M)->rs.length=b+N->1<=N->b+N<=5200->(∀r,r<m.toNat->br (fun i=>fu m.toNat (aZ ws m.toNat) x.2.toNat M i r) b N) →
 (∀i r:Nat,(i:Int)<=x.2->(r:Int)<m->(M i r=true↔∃n,Bfs.Rw (LB ws m.toNat x.2) n x ((r:Int),(i:Int))))->Q (.ref p) H'
abbrev lY:Stmt:=stq 44
theorem vU:FnScope ["house","place","rises","low","high","level"] ["house","place"] (aI lY):=⟨rfl,rfl,rfl,by decide +kernel,rfl,by decide +kernel,by decide +kernel⟩
theorem Aq{P:Program}{w:World}{K:DS}{mg:Str->Option Value}{base:Heap}(D:Dfn K mg "all_levels" lY ["house","place"])(T:Blt mg)(C_next_level:Cal P w K mg base "next_level" 1 ["rises","level"] (rJ K))(C_low_levels:Cal P w K mg base "low_levels" 8 ["house","place"] (nF K))(C_risen:Cal P w K mg base "risen" 7 ["house"] (mQ K)):Cal P w K mg base "all_levels" 9 ["house","place"] (wZ K):=by
 have nd:=(vU).nd
 refine D.ok vU (fun vs H Q E h=>?_) (fun X hX H vs Q E h=>?_)
 ·obtain⟨vh,m,ws,pa,x,rfl,_⟩:=h;rfl
 ·obtain⟨f,cdv,A,outer,s,H0,E0,rfl,hr⟩:=hX
  obtain⟨vh,m,ws,pa,x,rfl,hv,ok,hpx,ix,dis,htb,q⟩:=h
  have m1:=ok.m1
  have m12:=ok.m12
  obtain⟨i0,i1,i2,i3⟩:=id ix
  refine⟨_,(aj (aG (i:=2) nd rfl (Or.inl rfl) (aH C_risen hr (aa (pv 0) ae)))
    (aj (aG (i:=3) nd rfl (Or.inl rfl) (aH C_low_levels hr (aa (pv 0) (aa (pv 1) ae))))
    (aj (aG (i:=4) nd rfl (Or.inl rfl) (bJ (aa (ai (aS K) (pv 3) (dF dH af) (fun _ _=>rfl)) ae)))
    (aj (aG (i:=5) nd rfl (Or.inl rfl) (aH C_next_level hr (aa (pv 2) (aa (ai (aS K) (pv 3) (dF dH af) (fun _ _=>rfl)) ae))))
    (aj (gq PassesOwn.never (aT (Ci hr) (pv 5) (pv 4) (by with_unfolding_all rfl)) (aj (bh (bE K Ed Er Es bQ (pv 4) (aa (pv 5) ae)))
    (av (aG (i:=5) nd rfl (Or.inl rfl) (aH C_next_level hr (aa (pv 2) (aa (pv 5) ae)))))))
    (av (aF (aM (aa (aD gJ (ky (jt K) (pv 3) lj (jD (dF dH af))) (pv 4)) (aa (aD bH (ai (aB K) (pv 1) af (fun _ _=>rfl)) (bE K Ed PySem.F.slot_list_index PySem.F.type_list_index (zY hr) (pv 4) (aa (pv 5) ae))) ae)))))))))),?_⟩
  walk_at "rd"
  refine⟨vh,m,ws,rfl,hv,ok,dis,htb,fun rl H1 e1 tb1 prs=>?_⟩
  walk_at "rd"
  refine⟨vh,m,ws,pa,x,rfl,hv.et e1,ok,hpx.et e1,ix,dis,tb1,fun lq rs M H2 e2 tb2 rows hrl hM=>?_⟩
  have prs2:=prs.et e2
  have hpx2:=(hpx.et e1).et e2
  have hrl':rs.length=x.2.toNat+1:=by omega
  have hlast:rs[x.2.toNat]?=some rs[x.2.toNat]:=DX (by omega)
  generalize rs[x.2.toNat]=r0 at hlast
  have hr0:=rows.2 _ _ hlast
  have hat:bA (List.map V.ref rs) (-1)=some (.ref r0):=yg (k:=x.2.toNat) (by rw[DW];exact hrl') (by rw[DY,hlast];rfl)
  walk_at "rd"
  refine aQ (ag.of rows.1) hat ?_
  walk_at "rd"
  refine⟨ao (by simp),aq fun hq H3 e3 hhq hhn=>?_⟩
  walk_at "rd"
  refine aQ (ag.of (e3 _ _ rows.1)) hat ?_
  walk_at "rd"
  refine⟨rl,r0,m.toNat,_,_,rfl,prs2.et e3.et,e3 _ _ hr0,by omega,fun lv g H4 e4 hln hl4 hg=>?_⟩
  have e24:=e3.trans e4
  have hl4':H4 lv=some (.lst (aN m.toNat (ba m.toNat (aZ ws m.toNat) (M x.2.toNat) 1))):=by
   rw[hl4]
   congr 2
   exact dN fun j hj=>by
    rw[EI]
    exact(hg j hj).trans iV.symm
  clear hl4 hg
  walk_at "rd"
  refine f6 (fun mm σ H'=>∃hs lv k,Ext H2 H'/\H' hq=some (.lst (List.map V.ref hs))/\hs.length=k+1/\(∀(a:Nat) (r:Addr),hs[a]?=some r->H' r=some (.lst (aN m.toNat (ba m.toNat (aZ ws m.toNat) (M x.2.toNat) a))))/\(∀a b,a<b->b<k+1->¬dz m.toNat (ba m.toNat (aZ ws m.toNat) (M x.2.toNat) a) (ba m.toNat (aZ ws m.toNat) (M x.2.toNat) b))/\H' lv=some (.lst (aN m.toNat (ba m.toNat (aZ ws m.toNat) (M x.2.toNat) (k+1))))/\mm=4097-k/\σ=[some vh,some (.ref pa),some (.ref rl),some (.ref lq),some (.ref hq),some (.ref lv)])
   (fun σ H'=>∃hs lv k a,Ext H2 H'/\H' hq=some (.lst (List.map V.ref hs))/\hs.length=k+1/\(∀(a:Nat) (r:Addr),hs[a]?=some r->H' r=some (.lst (aN m.toNat (ba m.toNat (aZ ws m.toNat) (M x.2.toNat) a))))/\(∀a b,a<b->b<k+1->¬dz m.toNat (ba m.toNat (aZ ws m.toNat) (M x.2.toNat) a) (ba m.toNat (aZ ws m.toNat) (M x.2.toNat) b))/\H' lv=some (.lst (aN m.toNat (ba m.toNat (aZ ws m.toNat) (M x.2.toNat) (k+1))))/\a<k+1/\dz m.toNat (ba m.toNat (aZ ws m.toNat) (M x.2.toNat) a) (ba m.toNat (aZ ws m.toNat) (M x.2.toNat) (k+1))/\k+1<=4096/\σ=[some vh,some (.ref pa),some (.ref rl),some (.ref lq),some (.ref hq),some (.ref lv)])
   4097 ⟨[r0],lv,0,e24,e4 _ _ hhq,rfl,fun a r ha=>by
    cases a with
    | zero=>cases ha;exact e24 _ _ hr0
    | succ a=>simp at ha,fun a b h1 h2=>by omega,hl4',rfl,rfl⟩ ?_ ?_
  ·rintro mm σ H5 ⟨hs,lv,k,e5,hq5,hsl,hrow,hun,hlv,rfl,rfl⟩
   have hk:=um (F:=ba m.toNat (aZ ws m.toNat) (M x.2.toNat)) (show m.toNat<=12 by omega) hun
   have hrep:=oH hrow
   walk_at "rd"
   refine Cw (ik hlv) hq5 hrep (by omega) ?_
   have hany:((List.range hs.length).map fun a=>PyData.list (dB m.toNat (ba m.toNat (aZ ws m.toNat) (M x.2.toNat) a))).any (fun e=>PyData.eqv e (.list (dB m.toNat (ba m.toNat (aZ ws m.toNat) (M x.2.toNat) (k+1)))))=true↔∃a,a<k+1/\dz m.toNat (ba m.toNat (aZ ws m.toNat) (M x.2.toNat) a) (ba m.toNat (aZ ws m.toNat) (M x.2.toNat) (k+1)):=by
    rw[List.any_map,EH,hsl]
    constructor
    ·rintro⟨a,ha,he⟩
     exact⟨a,List.mem_range.mp ha,iu.mp he⟩
    ·rintro⟨a,ha,he⟩
     exact⟨a,List.mem_range.mpr ha,iu.mpr he⟩
   generalize ((List.range hs.length).map fun a=>PyData.list (dB m.toNat (ba m.toNat (aZ ws m.toNat) (M x.2.toNat) a))).any (fun e=>PyData.eqv e (.list (dB m.toNat (ba m.toNat (aZ ws m.toNat) (M x.2.toNat) (k+1)))))=bb at hany ⊢
   cases bb with
   | true=>
    obtain⟨a,ha,hsame⟩:=hany.mp rfl
    refine⟨_,rfl,aw ?_⟩
    exact⟨hs,lv,k,a,e5,hq5,hsl,hrow,hun,hlv,ha,hsame,hk,rfl⟩
   | false=>
    have hno:∀a,a<k+1->¬dz m.toNat (ba m.toNat (aZ ws m.toNat) (M x.2.toNat) a) (ba m.toNat (aZ ws m.toNat) (M x.2.toNat) (k+1)):=fun a ha hs=>by
     have:=hany.mpr ⟨a,ha,hs⟩
     cases this
    have hun2:∀a b,a<b->b<k+1+1->¬dz m.toNat (ba m.toNat (aZ ws m.toNat) (M x.2.toNat) a) (ba m.toNat (aZ ws m.toNat) (M x.2.toNat) b):=fun a b hab hb=>by
     by_cases hbk:b<k+1
     ·exact hun a b hab hbk
     ·have:b=k+1:=by omega
      subst this
      exact hno a hab
    have hk2:=um (F:=ba m.toNat (aZ ws m.toNat) (M x.2.toNat)) (show m.toNat<=12 by omega) hun2
    refine⟨_,rfl,aC ⟨fun σ' H'=>∃hs lv,Ext H2 H'/\H' hq=some (.lst (List.map V.ref hs))/\hs.length=k+1+1/\(∀(a:Nat) (r:Addr),hs[a]?=some r->H' r=some (.lst (aN m.toNat (ba m.toNat (aZ ws m.toNat) (M x.2.toNat) a))))/\H' lv=some (.lst (aN m.toNat (ba m.toNat (aZ ws m.toNat) (M x.2.toNat) (k+1+1))))/\σ'=[some vh,some (.ref pa),some (.ref rl),some (.ref lq),some (.ref hq),some (.ref lv)],fun σ' H' ⟨hs,lv,a1,a2,a3,a4,a5,a6⟩=>⟨4097-(k+1),by omega,hs,lv,k+1,a1,a2,a3,a4,hun2,a5,rfl,a6⟩,?_⟩⟩
    have nqr:∀r∈hs++[lv],r≠hq:=fun r hr z=>by
     have hb:∃f,H5 r=some (.lst (aN m.toNat f)):=by
      rcases Ew.mp hr with h | h
      ·obtain⟨j,hj⟩:=List.getElem?_of_mem h
       exact⟨_,hrow j r hj⟩
      ·rw[Eg.mp h]
       exact⟨_,hlv⟩
     obtain⟨f,hb⟩:=hb
     rw[z,hq5]at hb
     have h2:List.map V.ref hs=aN m.toNat f:=by
      injection hb with hb
      injection hb
     have h3:=congrArg (fun z:List V=>z[0]?) h2
     try dsimp only at h3
     rw[fm _ (by omega),DY]at h3
     cases y:hs[0]? with
     | none=>rw[y]at h3;cases h3
     | some a=>rw[y]at h3;cases h3
    walk_at "rd"
    refine⟨bP (ag.of hq5),?_⟩
    walk_at "rd"
    refine bN hq5 (cA (by rw[DW];omega)) ?_
    have hn2:H2 hq=none:=hhn
    have e6:=cB (o:=.lst (List.map V.ref hs++[.ref lv])) e5 hn2
    have keep:∀b o,b≠hq->H5 b=some o->upd H5 hq (.lst (List.map V.ref hs++[.ref lv])) b=some o:=fun b o nb e=>by rw[az nb];exact e
    have hq6:upd H5 hq (.lst (List.map V.ref hs++[.ref lv])) hq=some (.lst (List.map V.ref (hs++[lv]))):=by rw[aL,Em];rfl
    have hlv6:=keep lv _ (nqr lv (by simp)) hlv
    have hrow6:∀(a:Nat) (r:Addr),(hs++[lv])[a]?=some r->upd H5 hq (.lst (List.map V.ref hs++[.ref lv])) r=some (.lst (aN m.toNat (ba m.toNat (aZ ws m.toNat) (M x.2.toNat) a))):=fun a r ha=>by
     by_cases hal:a<hs.length
     ·rw[Ey hal]at ha
      exact keep r _ (nqr r (List.mem_append_left _ (Ef ha))) (hrow a r ha)
     ·rw[Ex (by omega)]at ha
      have hz:a-hs.length=0:=by
       have:=(Ee.mp ha).1
       simp at this
       omega
      rw[hz]at ha
      cases ha
      have:a=k+1:=by omega
      subst this
      exact hlv6
    generalize upd H5 hq (.lst (List.map V.ref hs++[.ref lv]))=H6 at e6 hq6 hlv6 hrow6 ⊢
    walk_at "rd"
    refine⟨rl,lv,m.toNat,_,_,rfl,prs2.et e6.et,hlv6,by omega,fun lv2 g2 H7 e7 _ hl7 hg2=>?_⟩
    walk_at "rd"
    refine⟨hs++[lv],lv2,e6.trans e7,e7 _ _ hq6,by rw[En,hsl];rfl,fun a r ha=>e7 _ _ (hrow6 a r ha),?_,rfl⟩
    rw[hl7]
    congr 2
    exact dN fun j hj=>by
     rw[EI]
     exact(hg2 j hj).trans iV.symm
  ·rintro σ H5 ⟨hs,lv,k,a,e5,hq5,hsl,hrow,hun,hlv,ha,hsame,hk,rfl⟩
   have rows5:=rows.ext e5
   walk_at "rd"
   refine jW (ag.of rows5.1) (aq fun lo H6 e6 hlo _=>?_)
   rw[Cz (k:=x.2.toNat) (by rw[DW];exact hrl')]at hlo
   walk_at "rd"
   refine gL hlo (e6 _ _ hq5) (ao (by simp;omega)) (aq fun ll H7 e7 hll _=>?_)
   have e57:=e6.trans e7
   walk_at "rd"
   refine aA (ah.of (e57 _ _ (e5 _ _ hpx2))) (v:=.int x.2) rfl ?_
   walk_at "rd"
   have hrow7:∀(a:Nat) (r:Addr),hs[a]?=some r->H7 r=some (.lst (aN m.toNat (ba m.toNat (aZ ws m.toNat) (M x.2.toNat) a))):=fun a r h=>e57 _ _ (hrow a r h)
   refine⟨bP (ag.of (e57 _ _ hq5)),?_⟩
   walk_at "rd"
   refine⟨1,hq,_,.ref lv,_,_,a,rfl,rfl,ik (e57 _ _ hlv),e57 _ _ hq5,oH hrow7,by omega,⟨_,by rw[DY,List.getElem?_range (by omega)];rfl,iu.mpr hsame⟩,fun b e hb he=>?_,by omega,?_⟩
   ·rw[DY,List.getElem?_range (by omega)]at he
    cases he
    rw[Bool.eq_false_iff]
    intro hc
    have:=iu.mp hc
    exact hun b a hb ha fun j hj=>(this j hj).trans (hsame j hj).symm
   walk_at "rd"
   refine⟨ao (by simp),aq fun pp H8 e8 hpp _=>?_⟩
   have e28:=e5.trans (e57.trans e8)
   refine q pp ll (rs.take x.2.toNat++hs) (x.2.toNat+a) (k+1-a) M H8 ((e1.trans e2).trans e28.et) (tb2.ext e28) ?_ ⟨?_,fun i r hi=>?_⟩ ?_ (by omega) (by omega) (fun r hr=>?_) hM
   ·rw[hpp]
    congr 3
    congr 2
    omega
   ·rw[e8 _ _ hll,Em,List.map_take]
   ·unfold fu
    by_cases hix:i<x.2.toNat
    ·rw[if_pos hix]
     rw[Ey (by rw[List.length_take];omega),List.getElem?_take_of_lt hix]at hi
     exact e28 _ _ (rows.2 i r hi)
    ·rw[if_neg hix]
     rw[Ex (by rw[List.length_take];omega),List.length_take,show i-min x.2.toNat rs.length=i-x.2.toNat by omega]at hi
     exact e8 _ _ (hrow7 _ _ hi)
   ·rw[En,List.length_take]
    omega
   ·intro i hi
    show fu _ _ _ _ (i+(k+1-a)) r=fu _ _ _ _ i r
    unfold fu
    rw[if_neg (by omega),if_neg (by omega)]
    have hp:=uK hsame (i-x.2.toNat-a) r hr
    rw[show a+(i-x.2.toNat-a)=i-x.2.toNat by omega,show k+1+(i-x.2.toNat-a)=i+(k+1-a)-x.2.toNat by omega]at hp
    exact hp.symm
def aR(ws:List Way)(a b:Bfs.Pl):Prop:=∃w∈ws,bY w a.1 a.2=true/\b=(w.other,a.2+rz w.deed)
def bp(ws:List Way)(x y:Bfs.Pl):Prop:=∃n,Bfs.Rw (aR ws) n x y
theorem gD{w:Way}{r n:Int}(hr:w.room=r)(h:w.deed = "up"\/w.deed = "stay"\/(w.deed = "down"/\0<n)\/(w.deed = "zero"/\n=0)):bY w r n=true:=by
 unfold bY
 rw[decide_eq_true hr,Bool.true_and]
 rcases h with h | h | ⟨h,hn⟩ | ⟨h,hn⟩
 ·rw[h,if_neg (by decide +kernel)]
  have:decide ((Str.ofString "up") = "zero")=false:=by decide +kernel
  rw[this]
  rfl
 ·rw[h,if_neg (by decide +kernel)]
  have:decide ((Str.ofString "stay") = "zero")=false:=by decide +kernel
  rw[this]
  rfl
 ·rw[h,if_pos (by decide +kernel)]
  exact decide_eq_true hn
 ·rw[h,if_neg (by decide +kernel),hn]
  simp
theorem fo{w:Way}{r n:Int}(hd:bC w.deed)(h:bY w r n=true):(w.deed = "up"/\rz w.deed=1)\/(w.deed = "stay"/\rz w.deed=0)\/(w.deed = "down"/\0<n/\rz w.deed = -1)\/(w.deed = "zero"/\n=0/\rz w.deed=0):=by
 unfold bY at h
 rw[EJ]at h
 rcases hd with hd | hd | hd | hd
 ·exact .inl ⟨hd,by rw[hd];exact iU⟩
 ·rw[hd,if_pos (by decide +kernel)]at h
  exact .inr (.inr (.inl ⟨hd,of_decide_eq_true h.2,by rw[hd];exact kE⟩))
 ·exact .inr (.inl ⟨hd,by rw[hd];exact lV⟩)
 ·rw[hd,if_neg (by decide +kernel)]at h
  have h2:decide ((Str.ofString "zero") = "zero")=true:=by decide +kernel
  rw[h2]at h
  refine .inr (.inr (.inr ⟨hd,?_,by rw[hd];exact ou⟩))
  simpa using h.2
theorem bp.refl{ws:List Way}{x:Bfs.Pl}:bp ws x x:=⟨0,.nil⟩
theorem bp.trans{ws:List Way}{x y z:Bfs.Pl}(h:bp ws x y)(g:bp ws y z):bp ws x z:=by
 obtain⟨n,h⟩:=h
 obtain⟨k,g⟩:=g
 exact⟨n+k,h.trans g⟩
theorem bp.one{ws:List Way}{x y:Bfs.Pl}(h:aR ws x y):bp ws x y:=⟨1,.snoc .nil h⟩
section
variable {m:Int} {ws:List Way} (ok:∀w∈ws,w.Ok m)
include ok
theorem eE{a b:Bfs.Pl}(h:aR ws a b)(ha:0<=a.2):0<=b.1/\b.1<m/\0<=b.2/\b.2<=a.2+1/\a.2<=b.2+1:=by
 obtain⟨w,hw,ho,rfl⟩:=h
 have okw:=ok w hw
 refine⟨okw.o0,okw.o1,?_⟩
 rcases fo okw.dd ho with⟨_,h⟩ | ⟨_,h⟩ | ⟨_,h1,h⟩ | ⟨_,h1,h⟩<;>(show 0<=a.2+rz w.deed/\a.2+rz w.deed<=a.2+1/\a.2<=a.2+rz w.deed+1;omega)
theorem uJ{i j:Nat}(h:Kpt ws m.toNat i j):∀L:Int,0<=L->bp ws ((i:Int),L) ((j:Int),L):=by
 induction h with
 | refl _=>exact fun _ _=>.refl
 | @stay w hw hd=>
  intro L _
  have okw:=ok w hw
  have r0:=okw.r0
  have o0:=okw.o0
  refine .one ⟨w,hw,gD (by show w.room=((w.room.toNat:Nat):Int);omega) (.inr (.inl hd)),?_⟩
  rw[hd,lV]
  exact Prod.ext (by show((w.other.toNat:Nat):Int)=w.other;omega) (by show L=L+0;omega)
 | trans _ _ h1 h2=>exact fun L hL=>(h1 L hL).trans (h2 L hL)
 | @arch u d hu hud hd hdd _ ih=>
  intro L hL
  have oku:=ok u hu
  have okd:=ok d hd
  have u0:=oku.r0
  have u1:=oku.o0
  have d0:=okd.r0
  have d1:=okd.o0
  have s1:aR ws (((u.room.toNat:Nat):Int),L) (((u.other.toNat:Nat):Int),L+1):=⟨u,hu,gD (by show u.room=((u.room.toNat:Nat):Int);omega) (.inl hud),by rw[hud,iU];exact Prod.ext (by show((u.other.toNat:Nat):Int)=u.other;omega) rfl⟩
  have s2:aR ws (((d.room.toNat:Nat):Int),L+1) (((d.other.toNat:Nat):Int),L):=⟨d,hd,gD (by show d.room=((d.room.toNat:Nat):Int);omega) (.inr (.inr (.inl ⟨hdd,by omega⟩))),by rw[hdd,kE];exact Prod.ext (by show((d.other.toNat:Nat):Int)=d.other;omega) (by show L=L+1 + -1;omega)⟩
  exact((bp.one s1).trans (ih (L+1) (by omega))).trans (.one s2)
theorem rW:∀(n:Nat) (w:Nat->Bfs.Pl) (i:Nat) (L:Int),1<=L->(∀k,i<=k->k<i+n->aR ws (w k) (w (k+1)))->(∀k,i<=k->k<=i+n->L<=(w k).2)->(w i).2=L->(w (i+n)).2=L->0<=(w i).1->(w i).1<m->Kpt ws m.toNat (w i).1.toNat (w (i+n)).1.toNat:=by
 intro n
 induction n using Nat.strongRecOn with
 | ind n ih=>
  intro w i L hL hS hh h0 h1 r0 r1
  cases n with
  | zero=>exact .refl (by show(w i).1.toNat<m.toNat;omega)
  | succ n=>
   have s0:=hS i (Ep _) (by omega)
   have in1:=eE ok s0 (by omega)
   obtain⟨v,hv,ho,hw1⟩:=id s0
   have okv:=ok v hv
   have hroom:=eC ho
   have e1:(w (i+1)).1=v.other:=by rw[hw1]
   have e2:(w (i+1)).2=(w i).2+rz v.deed:=by rw[hw1]
   have hge:=hh (i+1) (by omega) (by omega)
   rcases fo okv.dd ho with⟨hd,hz⟩ | ⟨hd,hz⟩ | ⟨hd,_,hz⟩ | ⟨hd,h00,hz⟩
   ·obtain⟨d,hd1,hd2,hd3,hd4⟩:=Bfs.rh (h:=fun k=>(w k).2) (l:=L) (P:=i+1) (n:=i+(n+1)) (by omega) (fun k hk1 hk2=>(eE ok (hS k (by omega) hk2) (by have:=hh k (by omega) (by omega);omega)).2.2.2.2) (by show(w (i+(n+1))).2<=L;omega) (by show L<=(w (i+1)).2;omega)
    try dsimp only at hd3 hd4
    have hdi:d≠i+1:=fun z=>by rw[z]at hd3;omega
    have sd:=hS (d-1) (by omega) (by omega)
    rw[show d-1+1=d by omega]at sd
    obtain⟨v2,hv2,ho2,hw2⟩:=id sd
    have okv2:=ok v2 hv2
    have hroom2:=eC ho2
    have f1:(w d).1=v2.other:=by rw[hw2]
    have f2:(w d).2=(w (d-1)).2+rz v2.deed:=by rw[hw2]
    have hgt:=hd4 (d-1) (by omega) (by omega)
    have hdown:v2.deed = "down"/\rz v2.deed = -1:=by
     rcases fo okv2.dd ho2 with⟨_,hz⟩ | ⟨_,hz⟩ | ⟨hd,_,hz⟩ | ⟨_,_,hz⟩
     ·omega
     ·omega
     ·exact⟨hd,hz⟩
     ·omega
    have inner:=ih (d-1-(i+1)) (by omega) w (i+1) (L+1) (by omega) (fun k hk1 hk2=>hS k (by omega) (by omega)) (fun k hk1 hk2=>by have:=hd4 k hk1 (by omega);omega) (by omega) (by rw[show i+1+(d-1-(i+1))=d-1 by omega];omega) in1.1 in1.2.1
    rw[show i+1+(d-1-(i+1))=d-1 by omega,e1,←hroom2]at inner
    have ar:=Kpt.arch hv hd hv2 hdown.1 inner
    rw[hroom,←f1]at ar
    have ind:=eE ok sd (by omega)
    have rest:=ih (i+(n+1)-d) (by omega) w d L hL (fun k hk1 hk2=>hS k (by omega) (by omega)) (fun k hk1 hk2=>hh k (by omega) (by omega)) hd3 (by rw[show d+(i+(n+1)-d)=i+(n+1) by omega];exact h1) ind.1 ind.2.1
    rw[show d+(i+(n+1)-d)=i+(n+1) by omega]at rest
    exact .trans ar rest
   ·have rest:=ih n (by omega) w (i+1) L hL (fun k hk1 hk2=>hS k (by omega) (by omega)) (fun k hk1 hk2=>hh k (by omega) (by omega)) (by omega) (by rw[show i+1+n=i+(n+1) by omega];exact h1) in1.1 in1.2.1
    rw[show i+1+n=i+(n+1) by omega,e1]at rest
    have st:=Kpt.stay (n:=m.toNat) hv hd
    rw[hroom]at st
    exact .trans st rest
   ·omega
   ·omega
theorem oP{w:Nat->Bfs.Pl}{n:Nat}(h0:0<=(w 0).1/\(w 0).1<m/\0<=(w 0).2)(hS:∀k,k<n->aR ws (w k) (w (k+1))):∀k,k<=n->0<=(w k).1/\(w k).1<m/\0<=(w k).2
 | 0,_=>h0
 | k+1,hk=>by
  have ih:=oP h0 hS k (by omega)
  have:=eE ok (hS k (by omega)) ih.2.2
  exact⟨this.1,this.2.1,this.2.2.1⟩
theorem An{top:Int}{x:Bfs.Pl}(ht:0<=top)(hx:bI m top x){k:Nat}{y:Bfs.Pl}(h:Bfs.Rw (LB ws m.toNat top) k x y):bp ws x y/\bI m top y:=by
 induction h with
 | nil=>exact⟨.refl,hx⟩
 | @snoc n x y z _ hs ih=>
  obtain⟨hr,hy⟩:=ih hx
  rcases hs with⟨w,hw,ho,rfl,hle⟩ | ⟨hty,i,j,hk,hyi,rfl⟩
  ·have st:aR ws y (w.other,y.2+rz w.deed):=⟨w,hw,ho,rfl⟩
   have:=eE ok st hy.2.2.1
   exact⟨hr.trans (.one st),this.1,this.2.1,this.2.2.1,hle⟩
  ·have hlt:=Kpt.lt ok hk
   have hy2:y.2=top:=by have:=hy.2.2.2;omega
   have hs:=uJ ok hk top ht
   have hye:y=((i:Int),top):=Prod.ext hyi hy2
   rw[←hye]at hs
   exact⟨hr.trans hs,by show(0:Int)<=(j:Int);omega,by show(j:Int)<m;omega,ht,Int.le_refl _⟩
theorem zC{top:Int}(ht:0<=top):∀(n:Nat) (w:Nat->Bfs.Pl),0<=(w 0).1->(w 0).1<m->(w 0).2=top->(∀k,k<n->aR ws (w k) (w (k+1)))->(w n).2<=top->∃k,Bfs.Rw (LB ws m.toNat top) k (w 0) (w n):=by
 intro n
 induction n using Nat.strongRecOn with
 | ind n ih=>
  intro w h00 h01 h02 hS hle
  cases n with
  | zero=>exact⟨0,.nil⟩
  | succ n=>
   have hin:=oP ok (w:=w) (n:=n+1) ⟨h00,h01,by omega⟩ hS
   have sn:=hS n (by omega)
   have inn:=eE ok sn (hin n (by omega)).2.2
   by_cases hz:(w n).2<=top
   ·obtain⟨k,hk⟩:=ih n (by omega) w h00 h01 h02 (fun k hk=>hS k (by omega)) hz
    obtain⟨v,hv,ho,he⟩:=sn
    exact⟨k+1,.snoc hk (.inl ⟨v,hv,ho,he,hle⟩)⟩
   ·obtain⟨u,hu,hul,hui⟩:=Bfs.iT (h:=fun k=>(w k).2) (l:=top) n (fun k hk=>(eE ok (hS k (by omega)) (hin k (by omega)).2.2).2.2.2.1) (by show(w 0).2<=top;omega) (by show top<=(w n).2;omega)
    try dsimp only at hul hui
    have hun:u≠n:=fun z=>by rw[z]at hul;omega
    have su:=hS u (by omega)
    have inu:=eE ok su (hin u (by omega)).2.2
    have hu1:=hui (u+1) (by omega) (by omega)
    obtain⟨v,hv,ho,hw1⟩:=id su
    obtain⟨v2,hv2,ho2,hw2⟩:=id sn
    have e1:(w (u+1)).1=v.other:=by rw[hw1]
    have e2:(w (u+1)).2=(w u).2+rz v.deed:=by rw[hw1]
    have f1:(w (n+1)).1=v2.other:=by rw[hw2]
    have f2:(w (n+1)).2=(w n).2+rz v2.deed:=by rw[hw2]
    have hup:v.deed = "up":=by
     rcases fo (ok v hv).dd ho with⟨hd,_⟩ | ⟨_,hz⟩ | ⟨_,_,hz⟩ | ⟨_,_,hz⟩
     ·exact hd
     ·omega
     ·omega
     ·omega
    have hdn:v2.deed = "down":=by
     rcases fo (ok v2 hv2).dd ho2 with⟨_,hz⟩ | ⟨_,hz⟩ | ⟨hd,_,_⟩ | ⟨_,_,hz⟩
     ·omega
     ·omega
     ·exact hd
     ·omega
    have hin1:=hin (u+1) (by omega)
    have inner:=rW ok (n-(u+1)) w (u+1) (top+1) (by omega) (fun k hk1 hk2=>hS k (by omega)) (fun k hk1 hk2=>by have:=hui k (by omega) (by omega);omega) (by omega) (by rw[show u+1+(n-(u+1))=n by omega];omega) hin1.1 hin1.2.1
    rw[show u+1+(n-(u+1))=n by omega,e1,←eC ho2]at inner
    have ar:=Kpt.arch hv hup hv2 hdn inner
    rw[eC ho,←f1]at ar
    obtain⟨k,hk⟩:=ih u (by omega) w h00 h01 h02 (fun k hk=>hS k (by omega)) (by omega)
    have hinu:=hin u (by omega)
    have hinn:=hin (n+1) (by omega)
    refine⟨k+1,.snoc hk (.inr ⟨by omega,_,_,ar,by omega,?_⟩)⟩
    exact Prod.ext (by show(w (n+1)).1=(((w (n+1)).1.toNat:Nat):Int);omega) (by show(w (n+1)).2=top;omega)
theorem Ba{top:Int}{x:Bfs.Pl}(ht:0<=top)(hx:bI m top x)(hx2:x.2=top){y:Bfs.Pl}(hy:y.2<=top):(∃n,Bfs.Rw (LB ws m.toNat top) n x y)↔bp ws x y:=by
 constructor
 ·rintro⟨n,h⟩
  exact(An ok ht hx h).1
 ·rintro⟨n,h⟩
  obtain⟨w,w0,wn,hS⟩:=h.fn
  have:=zC ok ht n w (by rw[w0];exact hx.1) (by rw[w0];exact hx.2.1) (by rw[w0];exact hx2) hS (by rw[wn];exact hy)
  rw[w0,wn]at this
  exact this
theorem CJ{x:Bfs.Pl}(hx:0<=x.1/\x.1<m/\0<=x.2){i r:Nat}(hi:x.2<=(i:Int)):bp ws x ((r:Int),((i+1:Nat):Int))↔∃p,p<m.toNat/\bp ws x ((p:Int),(i:Int))/\aZ ws m.toNat p r:=by
 constructor
 ·rintro⟨n,h⟩
  obtain⟨w,w0,wn,hS⟩:=h.fn
  have hin:=oP ok (w:=w) (n:=n) (by rw[w0];exact hx) hS
  have wn2:(w n).2=(i:Int)+1:=by rw[wn];show((i+1:Nat):Int)=_;omega
  obtain⟨u,hu,hul,hui⟩:=Bfs.iT (h:=fun k=>(w k).2) (l:=(i:Int)) n (fun k hk=>(eE ok (hS k hk) (hin k (by omega)).2.2).2.2.2.1) (by show(w 0).2<=(i:Int);rw[w0];exact hi) (by show(i:Int)<=(w n).2;omega)
  try dsimp only at hul hui
  have hun:u≠n:=fun z=>by rw[z]at hul;omega
  have su:=hS u (by omega)
  have hu1:=hui (u+1) (by omega) (by omega)
  obtain⟨v,hv,ho,hw1⟩:=id su
  have e1:(w (u+1)).1=v.other:=by rw[hw1]
  have e2:(w (u+1)).2=(w u).2+rz v.deed:=by rw[hw1]
  have hup:v.deed = "up"/\rz v.deed=1:=by
   rcases fo (ok v hv).dd ho with⟨hd,hz⟩ | ⟨_,hz⟩ | ⟨_,_,hz⟩ | ⟨_,_,hz⟩
   ·exact⟨hd,hz⟩
   ·omega
   ·omega
   ·omega
  have hin1:=hin (u+1) (by omega)
  have hinu:=hin u (by omega)
  have inner:=rW ok (n-(u+1)) w (u+1) ((i:Int)+1) (by omega) (fun k hk1 hk2=>hS k (by omega)) (fun k hk1 hk2=>by have:=hui k (by omega) (by omega);omega) (by omega) (by rw[show u+1+(n-(u+1))=n by omega];exact wn2) hin1.1 hin1.2.1
  rw[show u+1+(n-(u+1))=n by omega,e1,show (w n).1.toNat=r by rw[wn];exact Ei r]at inner
  refine⟨(w u).1.toNat,by omega,⟨u,?_⟩,v,hv,hup.1,by rw[eC ho],inner⟩
  have seg:=Bfs.jf (S:=aR ws) (w:=w) (i:=0) (j:=u) (by omega) (fun k _ hk=>hS k (by omega))
  rw[w0,Nat.sub_zero]at seg
  have hwu:w u=((((w u).1.toNat:Nat):Int),(i:Int)):=Prod.ext (by show(w u).1=(((w u).1.toNat:Nat):Int);omega) hul
  rw[hwu]at seg
  exact seg
 ·rintro⟨p,hp,hr,v,hv,hd,hroom,hk⟩
  have okv:=ok v hv
  have r0:=okv.r0
  have o0:=okv.o0
  have st:aR ws ((p:Int),(i:Int)) (((v.other.toNat:Nat):Int),(i:Int)+1):=⟨v,hv,gD (by show v.room=((p:Nat):Int);omega) (.inl hd),by rw[hd,iU];exact Prod.ext (by show((v.other.toNat:Nat):Int)=v.other;omega) rfl⟩
  have hs:=uJ ok hk ((i:Int)+1) (by omega)
  have:=(hr.trans (.one st)).trans hs
  rw[show ((i+1:Nat):Int)=(i:Int)+1 by omega]
  exact this
theorem CP{x:Bfs.Pl}(hx:0<=x.1/\x.1<m/\0<=x.2){M:Nat->Nat->Bool}(hM:∀i r:Nat,(i:Int)<=x.2->(r:Int)<m->(M i r=true↔∃n,Bfs.Rw (LB ws m.toNat x.2) n x ((r:Int),(i:Int)))):∀i r:Nat,r<m.toNat->(fu m.toNat (aZ ws m.toNat) x.2.toNat M i r=true↔bp ws x ((r:Int),(i:Int))):=by
 have hxT:bI m x.2 x:=⟨hx.1,hx.2.1,hx.2.2,Int.le_refl _⟩
 have low:∀i r:Nat,(i:Int)<=x.2->r<m.toNat->(M i r=true↔bp ws x ((r:Int),(i:Int))):=fun i r hi hr=>(hM i r hi (by omega)).trans (Ba ok hx.2.2 hxT rfl hi)
 have high:∀k r:Nat,r<m.toNat->(ba m.toNat (aZ ws m.toNat) (M x.2.toNat) k r=true↔bp ws x ((r:Int),((x.2.toNat+k:Nat):Int))):=by
  intro k
  induction k with
  | zero=>exact fun r hr=>low x.2.toNat r (by omega) hr
  | succ k ih=>
   intro r hr
   show g7 _ _ _ r=true↔_
   rw[iV,show x.2.toNat+(k+1)=x.2.toNat+k+1 by omega,CJ ok hx (by omega)]
   constructor
   ·rintro⟨i,hi,h1,h2⟩
    exact⟨i,hi,(ih i hi).mp h1,h2⟩
   ·rintro⟨i,hi,h1,h2⟩
    exact⟨i,hi,(ih i hi).mpr h1,h2⟩
 intro i r hr
 unfold fu
 by_cases hi:i<x.2.toNat
 ·rw[if_pos hi]
  exact low i r (by omega) hr
 ·rw[if_neg hi,high (i-x.2.toNat) r hr,show x.2.toNat+(i-x.2.toNat)=i by omega]
end
def uc(K:DS):Sp:=fun vs H Q _=>∃lq rs m F b N r,vs=[.ref lq,.int (b:Nat),.int (r:Nat)]/\Rows H lq rs m F/\rs.length=b+N/\1<=N/\b+N<=20000/\r<m/\br (fun i=>F i r) b N/\∀v (l d:Nat) H',Ext H H'->Least (fun i=>F i r) d l->l<=b->d<=N->fz H' v l d (row (fun i=>F i r) 0 l) (row (fun i=>F i r) l d)->Q v H'
abbrev kR:Stmt:=stq 45
theorem ui:FnScope ["levels","base","room"] ["levels","base","room"] (aI kR):=⟨rfl,rfl,rfl,by decide +kernel,rfl,by decide +kernel,by decide +kernel⟩
theorem xK{P:Program}{w:World}{K:DS}{mg:Str->Option Value}{base:Heap}(D:Dfn K mg "stair_of_room" kR ["levels","base","room"])(T:Blt mg)(C_stair_of_marks:Cal P w K mg base "stair_of_marks" 2 ["marks","base"] (pV K)):Cal P w K mg base "stair_of_room" 3 ["levels","base","room"] (uc K):=by
 have nd:=(ui).nd
 refine D.ok ui (fun vs H Q E h=>?_) (fun X hX H vs Q E h=>?_)
 ·obtain⟨lq,rs,m,F,b,N,r,rfl,_⟩:=h;rfl
 ·obtain⟨f,cdv,A,outer,s,H0,E0,rfl,hr⟩:=hX
  obtain⟨lq,rs,m,F,b,N,r,rfl,rows,hrl,hN,hbN,hr',hper,q⟩:=h
  refine⟨_,(av (aF (aH C_stair_of_marks hr (aa (di ["level"] [2] (cz K (pv 0)) (fun _=>(aO (i:=0) (show(["level","room"]:List Str).Nodup from by decide +kernel) rfl (Or.inl rfl) (Or.inr rfl))) (fun _=>dY) (fun _=>(ai (aS K) (pv 0) (pv 1) (fun _ _=>rfl)))) (aa (pv 1) ae))))),?_⟩
  walk_at "rd"
  refine cw (ag.of rows.1) ?_
  refine gj (xs:=List.map V.ref rs) (fun i ys H'=>H'=H/\ys=aN i (fun i=>F i r)) (EE (show(List.map V.ref rs).length<=20000 by rw[DW];omega) (by decide)) ⟨rfl,rfl⟩ (fun i ys H' _ h=>⟨by rw[h.1];exact ag.of rows.1,by rw[h.2,cx];exact Ep _⟩) ?_ ?_
  ·rintro i v ys H1 hx ⟨rfl,rfl⟩
   rw[DY]at hx
   obtain⟨a,ha,rfl⟩:=Eh.mp hx
   have hrow:=rows.2 i a ha
   walk_at "rd"
   refine aC ?_
   walk_at "rd"
   refine aQ (ag.of hrow) (dj (by omega) (by omega)) ?_
   rw[Ei]
   refine⟨rfl,?_⟩
   rw[jb]
  ·rintro ys H1 p9 ⟨hH,rfl⟩ hp9
   subst hH
   rw[DW,hrl]
   have e1:=bw (o:=.lst (aN (b+N) fun i=>F i r)) hp9
   have h9:(upd H1 p9 (.lst (aN (b+N) fun i=>F i r))) p9=_:=aL
   generalize upd H1 p9 (.lst (aN (b+N) fun i=>F i r))=H2 at e1 h9 ⊢
   walk_at "rd"
   exact⟨p9,b,N,_,rfl,hN,hbN,h9,hper,fun v l d H3 e3 hL hl hd hst=>q v l d H3 (e1.trans e3) hL hl hd hst⟩
def kX(H:Hp)(vs:List V)(m:Int)(ws:List Way)(x:Bfs.Pl):Prop:=(vs.length:Int)=m/\∀(r:Nat) (v:V),vs[r]?=some v->∃(F:Nat->Bool) (l d:Nat),fz H v l d (row F 0 l) (row F l d)/\Least F d l/\1<=d/\l+d<=5200/\∀i:Nat,F i=true↔bp ws x ((r:Int),(i:Int))
def n4(K:DS):Sp:=fun vs H Q _=>∃vh m ws pa x,vs=[vh,.ref pa]/\aU H vh m ws/\HOuse m ws/\ax H pa x/\cn m x/\eS K/\Tbs K H/\∀l xs H',Et H H'->Tbs K H'->H' l=some (.lst xs)->kX H' xs m ws x->Q (.ref l) H'
abbrev lG:Stmt:=stq 46
theorem pR:FnScope ["house","place","told"] ["house","place"] (aI lG):=⟨rfl,rfl,rfl,by decide +kernel,rfl,by decide +kernel,by decide +kernel⟩
theorem BJ{P:Program}{w:World}{K:DS}{mg:Str->Option Value}{base:Heap}(D:Dfn K mg "forward" lG ["house","place"])(T:Blt mg)(C_stair_of_room:Cal P w K mg base "stair_of_room" 3 ["levels","base","room"] (uc K))(C_all_levels:Cal P w K mg base "all_levels" 9 ["house","place"] (wZ K))(C_refuse_bad_places:Cal P w K mg base "refuse_bad_places" 3 ["house","places"] (oU K))(C_refuse_no_house:Cal P w K mg base "refuse_no_house" 6 ["thing"] (hZ K)):Cal P w K mg base "forward" 10 ["house","place"] (n4 K):=by
 have nd:=(pR).nd
 refine D.ok pR (fun vs H Q E h=>?_) (fun X hX H vs Q E h=>?_)
 ·obtain⟨vh,m,ws,pa,x,rfl,_⟩:=h;rfl
 ·obtain⟨f,cdv,A,outer,s,H0,E0,rfl,hr⟩:=hX
  obtain⟨vh,m,ws,pa,x,rfl,hv,ok,hpx,ix,dis,htb,q⟩:=h
  have m1:=ok.m1
  have m12:=ok.m12
  refine⟨_,(aj (bh (aH C_refuse_no_house hr (aa (pv 0) ae)))
    (aj (bh (aH C_refuse_bad_places hr (aa (pv 0) (aa (bJ (aa (pv 1) ae)) ae))))
    (aj (aG (i:=2) nd rfl (Or.inr rfl) (aH C_all_levels hr (aa (pv 0) (aa (pv 1) ae))))
    (av (aF (di ["room"] [2] (cX rfl T.range_ (aa (ai (aB K) (pv 0) af (fun _ _=>rfl)) ae)) (fun _=>(aO (i:=0) (show(["room","told"]:List Str).Nodup from by decide +kernel) rfl (Or.inl rfl) (Or.inr rfl))) (fun _=>dY) (fun _=>(aH C_stair_of_room hr (aa (ai (aB K) (pv 1) af (fun _ _=>rfl)) (aa (ai (aB K) (pv 1) af (fun _ _=>rfl)) (aa (pv 0) ae))))))))))),?_⟩
  walk_at "rd"
  refine⟨vh,m,ws,rfl,hv,ok,fun H1 e1=>?_⟩
  obtain⟨hp0,hq0,hvr,hh,_⟩:=id (hv.ext e1)
  subst hvr
  walk_at "rd"
  refine⟨ao (by simp),aq fun pl H2 e2 hpl _=>?_⟩
  have e02:=e1.trans e2
  walk_at "rd"
  refine⟨hp0,.ref hq0,m,pl,[pa],[x],rfl,e2 _ _ hh,hpl,.cons (e02 _ _ hpx) .nil,fun y hy=>by rw[Eg.mp hy];exact ix,?_⟩
  walk_at "rd"
  refine⟨.ref hp0,m,ws,pa,x,rfl,hv.ext e02,ok,e02 _ _ hpx,ix,dis,htb.ext e02,fun p lq rs b N M H3 e3 tb3 hp rows hrl hN hbN hper hM=>?_⟩
  have hiff:=CP ok.ok ⟨ix.1,ix.2.1,ix.2.2.1⟩ hM
  generalize fu m.toNat (aZ ws m.toNat) x.2.toNat M=F at rows hper hiff
  have hh3:H3 hp0=some (.tup [.int m,.ref hq0]):=e3 _ _ (e2 _ _ hh) (fun ps z=>by cases z)
  walk_at "rd"
  refine aA (ah.of hh3) (v:=.int m) rfl ?_
  walk_at "rd"
  refine cR (by omega) ?_
  refine ef (fun i ys H'=>Ext H3 H'/\ys.length=i/\∀(r:Nat) (v:V),ys[r]?=some v->∃(F:Nat->Bool) (l d:Nat),fz H' v l d (row F 0 l) (row F l d)/\Least F d l/\1<=d/\l+d<=5200/\∀i:Nat,F i=true↔bp ws x ((r:Int),(i:Int))) (ao (by omega)) ⟨Ext.rfl' _,rfl,fun r v h=>by simp at h⟩ (fun i ys H' _ h=>Nat.le_of_eq h.2.1) ?_ ?_
  ·rintro i ys H4 hi ⟨e4,hyl,hys⟩
   rw[show (0:Int)+(i:Int)=((i:Nat):Int) by omega]
   have hp4:=e4 _ _ hp
   walk_at "rd"
   refine aC ?_
   walk_at "rd"
   refine aA (ah.of hp4) (v:=.ref lq) rfl ?_
   walk_at "rd"
   refine aA (ah.of hp4) (v:=.int (b:Nat)) rfl ?_
   walk_at "rd"
   refine⟨lq,rs,m.toNat,F,b,N,i,rfl,rows.ext e4,hrl,hN,by omega,hi,hper i hi,fun v l d H5 e5 hL hl hd hst=>?_⟩
   refine⟨e4.trans e5,by rw[En,hyl];rfl,fun r v' hv'=>?_⟩
   by_cases hrl2:r<ys.length
   ·rw[Ey hrl2]at hv'
    obtain⟨F',l',d',a1,a2⟩:=hys r v' hv'
    exact⟨F',l',d',a1.ext e5,a2⟩
   ·rw[Ex (by omega)]at hv'
    have hz:r-ys.length=0:=by
     have:=(Ee.mp hv').1
     simp at this
     omega
    rw[hz]at hv'
    cases hv'
    have hri:r=i:=by omega
    subst hri
    exact⟨fun j=>F j r,l,d,hst,hL,hL.pos,by omega,fun j=>hiff j r hi⟩
  ·rintro ys H4 p9 ⟨e4,hyl,hys⟩ hp9
   have e5:=bw (o:=.lst ys) hp9
   have e35:=e4.trans e5
   walk_at "rd"
   refine q p9 ys _ ((e02.et.trans e3).trans e35.et) (tb3.ext e35) aL ⟨by omega,fun r v hv=>?_⟩
   obtain⟨F',l',d',a1,a2⟩:=hys r v hv
   exact⟨F',l',d',a1.ext e5,a2⟩
theorem sA(x:Int)(xs:List Int):gI (.int x) (xs.map V.int)=xs.contains x:=by
 unfold gI
 rw[List.any_map,EI,EH,List.contains_iff_mem]
 constructor
 ·rintro⟨y,hy,e⟩
  have e':(y == x)=true:=e
  rw[←(by simpa using e':y=x)]
  exact hy
 ·intro hx
  exact⟨x,hx,by show(x == x)=true;simp⟩
theorem wQ(l:List Int):(l.map V.int).all dW=true:=by
 rw[List.all_map]
 exact EG.mpr fun _ _=>rfl
structure Gx(b s:Int)(o a:List Int):Prop where
 ok:Ok b s o a
 bs:b+s<=10000
def vI(K:DS):Sp:=fun vs H Q _=>∃v x b s o a,vs=[v,.int x]/\fz H v b s o a/\Ok b s o a/\Q (.bl (mem b s o a x)) H
abbrev kM:Stmt:=stq 65
theorem vT:FnScope ["_law_stair","_law_x","_law_base","_law_step","_law_once","_law_again"] ["_law_stair","_law_x"] (aI kM):=⟨rfl,rfl,rfl,by decide +kernel,rfl,by decide +kernel,by decide +kernel⟩
theorem zb{P:Program}{w:World}{K:DS}{mg:Str->Option Value}{base:Heap}(D:Dfn K mg "_law_holds" kM ["_law_stair","_law_x"])(T:Blt mg):Cal P w K mg base "_law_holds" 1 ["_law_stair","_law_x"] (vI K):=by
 have nd:=(vT).nd
 refine D.ok vT (fun vs H Q E h=>?_) (fun X hX H vs Q E h=>?_)
 ·obtain⟨v,x,b,s,o,a,rfl,_⟩:=h;rfl
 ·obtain⟨f,cdv,A,outer,s,H0,E0,rfl,hr⟩:=hX
  obtain⟨v,x,b,s',o,a,rfl,hv,hg,q⟩:=h
  have hs:=hg.hs
  obtain⟨p,q',r,rfl,h1,h2,h3⟩:=hv
  refine⟨_,(aj (gX (pv 0) (fj (n:=4) K rfl (bG (aO (i:=2) nd rfl (Or.inl rfl)) (bG (aO (i:=3) nd rfl (Or.inl rfl)) (bG (aO (i:=4) nd rfl (Or.inl rfl)) (bG (aO (i:=5) nd rfl (Or.inl rfl)) fi))))))
    (aj (bU (aT fM (pv 1) (pv 2) (aP _)) (av (aF (el (qT K) (pv 1) (pv 4) (by with_unfolding_all rfl)))) bf)
    (av (aF (el (qT K) (aD bH (pv 2) (aD cC (aD dR (pv 1) (pv 2)) (pv 3))) (pv 5) (by with_unfolding_all rfl)))))),?_⟩
  walk_at "rd"
  refine fI (ah.of h1) rfl ?_
  walk_at "rd"
  by_cases hx:x<b
  ·rw[decide_eq_true hx]
   refine aC ?_
   walk_at "rd"
   refine sI (.inr (ah.of h2)) rfl (wQ o) ?_
   rw[uj _ hx]at q
   rw[sA]
   exact q
  ·rw[decide_eq_false hx]
   refine aw ?_
   walk_at "rd"
   refine sI (.inr (ah.of h3)) rfl (wQ a) ?_
   rw[pN _ (by omega)]at q
   rw[sA]
   exact q
theorem kX.hold{H:Hp}{xs:List V}{m:Int}{ws:List Way}{x:Bfs.Pl}(h:kX H xs m ws x){r:Int}(h0:0<=r)(h1:r<m):∃v b s o a,bA xs r=some v/\fz H v b s o a/\Gx b s o a/\∀n:Int,0<=n->(mem b s o a n=true↔bp ws x (r,n)):=by
 have hl:=h.1
 have hlt:r.toNat<xs.length:=by omega
 have hv:xs[r.toNat]?=some xs[r.toNat]:=DX hlt
 obtain⟨F,l,d,hst,hL,hd,hld,hF⟩:=h.2 r.toNat _ hv
 refine⟨_,_,_,_,_,?_,hst,⟨Cp F l d hd,by omega⟩,fun n hn=>?_⟩
 ·have:=dX hv
  rw[Ej h0]at this
  exact this
 ·have e:=Cf hd hL.per n.toNat
  rw[Ej hn]at e
  rw[e,hF n.toNat,Ej h0,Ej hn]
theorem lz{w:Way}(hd:bC w.deed){n n':Int}:stp w.deed n=some n'↔bY w w.room n=true/\n'=n+rz w.deed:=by
 constructor
 ·intro h
  refine⟨?_,rg hd h⟩
  refine gD rfl ?_
  rcases hd with e | e | e | e
  ·exact .inl e
  ·refine .inr (.inr (.inl ⟨e,?_⟩))
   rw[e,fg]at h
   by_cases hn:0<n
   ·exact hn
   ·rw[decide_eq_false hn]at h
    cases h
  ·exact .inr (.inl e)
  ·refine .inr (.inr (.inr ⟨e,?_⟩))
   rw[e,ft]at h
   by_cases hn:n=0
   ·exact hn
   ·rw[decide_eq_false hn]at h
    cases h
 ·rintro⟨h,rfl⟩
  rcases fo hd h with⟨e,z⟩ | ⟨e,z⟩ | ⟨e,hn,z⟩ | ⟨e,hn,z⟩<;>rw[z,e]
  ·exact gC n
  ·rw[gr];congr 1;omega
  ·rw[fg,decide_eq_true hn,if_pos rfl];rfl
  ·rw[ft,decide_eq_true hn,if_pos rfl];congr 1;omega
theorem yA{m:Int}{ws:List Way}(ok:∀w∈ws,w.Ok m){U:Int}{a b:Bfs.Pl}(h:aR ws a b)(hU:b.2<=U):∃k,bt ws U a k=some b:=by
 obtain⟨w,hw,ho,rfl⟩:=h
 obtain⟨k,hk⟩:=List.mem_iff_getElem?.mp hw
 have hr:=eC ho
 rw[←hr]at ho
 refine⟨k,?_⟩
 unfold bt
 rw[hk,EC,if_pos hr,(lz (ok w hw).dd).mpr ⟨ho,rfl⟩,EC,if_pos hU]
theorem qD{m:Int}{ws:List Way}(ok:∀w∈ws,w.Ok m){U:Int}{a b:Bfs.Pl}{k:Nat}(h:bt ws U a k=some b):aR ws a b:=by
 obtain⟨w,h1,h2,h3,h4,_⟩:=hV h
 have hw:=Ef h1
 have:=(lz (ok w hw).dd).mp h3
 rw[h2]at this
 exact⟨w,hw,this.1,Prod.ext h4 this.2⟩
theorem sW{m:Int}{ws:List Way}(ok:HOuse m ws){x g:Bfs.Pl}(ix:cn m x){n:Nat}(h:Bfs.Rw (aR ws) n x g):∃n',n'<=n/\Bfs.Wk (bt ws (bW m x g)) x n' g:=by
 have m1:=ok.m1
 have hb0:x.2<=(if g.2>x.2 then g.2 else x.2)/\g.2<=(if g.2>x.2 then g.2 else x.2):=by split<;>constructor<;>omega
 obtain⟨n',hn',r'⟩:=Bfs.cut (S:=aR ws) (m:=m) (by omega) (fun p q h=>by
   obtain⟨w,hw,ho,rfl⟩:=h
   have r1:=xx w.deed
   have r2:=BF w.deed
   show p.2+rz w.deed<=p.2+1/\p.2<=p.2+rz w.deed+1
   omega) (fun p q c h hc h1 h2=>by
   obtain⟨w,hw,ho,rfl⟩:=h
   refine⟨w,hw,gD (eC ho) ?_,Prod.ext rfl (by show p.2+rz w.deed-c=p.2-c+rz w.deed;omega)⟩
   rcases fo (ok.ok w hw).dd ho with⟨e,z⟩ | ⟨e,z⟩ | ⟨e,hn,z⟩ | ⟨e,hn,z⟩
   ·exact .inl e
   ·exact .inr (.inl e)
   ·exact .inr (.inr (.inl ⟨e,by show 0<p.2-c;omega⟩))
   ·omega) (fun p q h=>by
   obtain⟨w,hw,ho,rfl⟩:=h
   exact⟨(ok.ok w hw).o0,(ok.ok w hw).o1⟩) (b:=if g.2>x.2 then g.2 else x.2) (Int.le_trans ix.2.2.1 hb0.1) n x g h ix.1 ix.2.1 hb0.1 hb0.2
 exact⟨n',hn',r'.wk (fun a c h=>yA ok.ok h.1 h.2)⟩
theorem uf{m:Int}{ws:List Way}(ok:HOuse m ws){x g:Bfs.Pl}(ix:cn m x):bp ws x g↔∃n,Bfs.eP (bt ws (bW m x g)) x n g:=by
 constructor
 ·rintro⟨n,h⟩
  obtain⟨n',_,wk⟩:=sW ok ix h
  obtain⟨k,_,dk⟩:=Bfs.zZ n' wk
  exact⟨k,dk⟩
 ·rintro⟨n,d⟩
  exact⟨n,d.1.rw.imp fun a c h=>qD ok.ok h.choose_spec⟩
theorem yB{m:Int}{ws:List Way}(ok:HOuse m ws){x g:Bfs.Pl}(ix:cn m x){n k:Nat}(d:Bfs.eP (bt ws (bW m x g)) x n g)(h:Bfs.Rw (aR ws) k x g)(hk:∀j,Bfs.Rw (aR ws) j x g->k<=j):n=k:=by
 have h1:=hk n (d.1.rw.imp fun a c h=>qD ok.ok h.choose_spec)
 obtain⟨n',hn',wk⟩:=sW ok ix h
 rcases Nat.lt_or_ge n' n with hlt | hge
 ·exact absurd wk (d.2 n' hlt)
 ·omega
theorem AB{z:Str}(h:bC z):rz (du z) = - rz z:=by
 rcases h with rfl | rfl | rfl | rfl<;>decide +kernel
theorem Ds{m:Int}{ws:List Way}(ok:∀w∈ws,w.Ok m){a b:Bfs.Pl}(h:aR ws a b)(ha:0<=a.2):aR (ws.map Way.turn) b a:=by
 obtain⟨w,hw,ho,rfl⟩:=h
 have okw:=ok w hw
 refine⟨w.turn,List.mem_map.mpr ⟨w,hw,rfl⟩,gD rfl ?_,Prod.ext (eC ho).symm ?_⟩
 ·show du w.deed = "up"\/du w.deed = "stay"\/(du w.deed = "down"/\0<a.2+rz w.deed)\/(du w.deed = "zero"/\a.2+rz w.deed=0)
  rcases fo okw.dd ho with⟨e,z⟩ | ⟨e,z⟩ | ⟨e,hn,z⟩ | ⟨e,hn,z⟩<;>rw[z,e]
  ·exact .inr (.inr (.inl ⟨by decide +kernel,by omega⟩))
  ·exact .inr (.inl (by decide +kernel))
  ·exact .inl (by decide +kernel)
  ·exact .inr (.inr (.inr ⟨by decide +kernel,by omega⟩))
 ·show a.2=a.2+rz w.deed+rz (du w.deed)
  rw[AB okw.dd]
  omega
theorem bp.rev{m:Int}{ws:List Way}(ok:∀w∈ws,w.Ok m){x y:Bfs.Pl}(hx:0<=x.2)(h:bp ws x y):bp (ws.map Way.turn) y x:=by
 obtain⟨n,h⟩:=h
 exact⟨n,(Bfs.Rw.rev (I:=fun a=>0<=a.2) (fun a c ha hs=>⟨Ds ok hs ha,(eE ok hs ha).2.2.1⟩) h hx).1⟩
theorem sx{m:Int}{ws:List Way}(ok:HOuse m ws){x y:Bfs.Pl}(hx:0<=x.2)(hy:0<=y.2):bp (ws.map Way.turn) y x↔bp ws x y:=by
 refine⟨fun h=>?_,bp.rev ok.ok hx⟩
 have:=bp.rev ok.turn.ok hy h
 rw[AQ ok.ok]at this
 exact this
def r9(K:DS):Sp:=fun vs H Q _=>∃vh m ws pa x,vs=[vh,.ref pa]/\aU H vh m ws/\HOuse m ws/\ax H pa x/\cn m x/\eS K/\Tbs K H/\∀l xs H',Et H H'->Tbs K H'->H' l=some (.lst xs)->kX H' xs m (ws.map Way.turn) x->Q (.ref l) H'
abbrev lQ:Stmt:=stq 57
theorem uz:FnScope ["house","goal"] ["house","goal"] (aI lQ):=⟨rfl,rfl,rfl,by decide +kernel,rfl,by decide +kernel,by decide +kernel⟩
theorem xZ{P:Program}{w:World}{K:DS}{mg:Str->Option Value}{base:Heap}(D:Dfn K mg "backward" lQ ["house","goal"])(T:Blt mg)(C_forward:Cal P w K mg base "forward" 10 ["house","place"] (n4 K))(C_turned_about:Cal P w K mg base "turned_about" 7 ["house"] (rF K)):Cal P w K mg base "backward" 11 ["house","goal"] (r9 K):=by
 have nd:=(uz).nd
 refine D.ok uz (fun vs H Q E h=>?_) (fun X hX H vs Q E h=>?_)
 ·obtain⟨vh,m,ws,pa,x,rfl,_⟩:=h;rfl
 ·obtain⟨f,cdv,A,outer,s,H0,E0,rfl,hr⟩:=hX
  obtain⟨vh,m,ws,pa,x,rfl,hv,ok,hpx,ix,dis,htb,q⟩:=h
  refine⟨_,(av (aF (aH C_forward hr (aa (aH C_turned_about hr (aa (pv 0) ae)) (aa (pv 1) ae))))),?_⟩
  walk_at "rd"
  refine⟨vh,m,ws,rfl,hv,ok,fun u H1 e1 hu=>?_⟩
  walk_at "rd"
  exact⟨u,m,_,pa,x,rfl,hu,ok.turn,e1 _ _ hpx,ix,dis,htb.ext e1,fun l xs H2 e2 t2 hl fw=>q l xs H2 (e1.et.trans e2) t2 hl fw⟩
def rd(K:DS):Sp:=fun vs H Q _=>∃vh m ws pa ga x g,vs=[vh,.ref pa,.ref ga]/\aU H vh m ws/\HOuse m ws/\ax H pa x/\ax H ga g/\cn m x/\cn m g/\eS K/\Tbs K H ∧
 (∀n p wl ks H',Bfs.eP (bt ws (bW m x g)) x n g->n<=24012->Et H H'->Tbs K H'->H' p=some (.tup [.str "walk",.ref wl])->H' wl=some (.lst (bK ks))->ks.length=n->Bfs.gone (nx:=bt ws (bW m x g)) x ks=some g->Q (.ref p) H')/\(¬bp ws x g->∀p u H',Et H H'->Tbs K H'->H' p=some (.tup [.str "never",u])->Q (.ref p) H')
abbrev jS:Stmt:=stq 55
theorem o6:FnScope ["house","place","goal","walk"] ["house","place","goal"] (aI jS):=⟨rfl,rfl,rfl,by decide +kernel,rfl,by decide +kernel,by decide +kernel⟩
theorem zt{P:Program}{w:World}{K:DS}{mg:Str->Option Value}{base:Heap}(D:Dfn K mg "answer" jS ["house","place","goal"])(T:Blt mg)(C_forward:Cal P w K mg base "forward" 10 ["house","place"] (n4 K))(C_shortest:Cal P w K mg base "shortest" 7 ["house","place","goal"] (vS K)):Cal P w K mg base "answer" 11 ["house","place","goal"] (rd K):=by
 have nd:=(o6).nd
 refine D.ok o6 (fun vs H Q E h=>?_) (fun X hX H vs Q E h=>?_)
 ·obtain⟨vh,m,ws,pa,ga,x,g,rfl,_⟩:=h;rfl
 ·obtain⟨f,cdv,A,outer,s,H0,E0,rfl,hr⟩:=hX
  obtain⟨vh,m,ws,pa,ga,x,g,rfl,hv,ok,hpx,hpg,ix,ig,dis,htb,q1,q2⟩:=h
  refine⟨_,(aj (aG (i:=3) nd rfl (Or.inl rfl) (aH C_shortest hr (aa (pv 0) (aa (pv 1) (aa (pv 2) ae)))))
    (aj (bU (aT rf (pv 3) gB (aP _)) (av (aF (aM (aa bD (aa (aH C_forward hr (aa (pv 0) (aa (pv 1) ae))) ae))))) bf)
    (av (aF (aM (aa bD (aa (pv 3) ae))))))),?_⟩
  walk_at "rd"
  refine⟨vh,m,ws,pa,ga,x,g,rfl,hv,ok,hpx,hpg,ix,ig,fun hno H1 e1=>?_,fun n wl H1 ks hD hn e1 hln hwl hks hgo=>?_⟩
  ·walk_at "rd"
   refine⟨rfl,?_⟩
   refine rd_exb (aC ?_)
   walk_at "rd"
   refine⟨vh,m,ws,pa,x,rfl,hv.ext e1,ok,e1 _ _ hpx,ix,dis,htb.ext e1,fun l xs H2 e2 t2 hl fw=>?_⟩
   walk_at "rd"
   refine⟨ao (by simp),aq fun p H3 e3 hp _=>?_⟩
   refine q2 (fun hr=>?_) p _ H3 (e1.et.trans (e2.trans e3.et)) (t2.ext e3) hp
   obtain⟨n,hD⟩:=(uf ok ix).mp hr
   exact hno n hD
  ·walk_at "rd"
   refine⟨rfl,?_⟩
   refine rd_exb (aw ?_)
   walk_at "rd"
   refine⟨ao (by simp),aq fun p H3 e3 hp _=>?_⟩
   exact q1 n p _ ks H3 hD hn (e1.et.trans e3.et) (htb.ext (e1.trans e3)) hp (e3 _ _ hwl) hks hgo
def fG(ws:List Way)(p q:Bfs.Pl):Prop:=∃w∈ws,w.room=p.1/\stp w.deed p.2=some q.2/\q.1=w.other
theorem fG.of{m:Int}{ws:List Way}(ok:∀w∈ws,w.Ok m){p q:Bfs.Pl}(h:aR ws p q):fG ws p q:=by
 obtain⟨w,hw,ho,rfl⟩:=h
 have hr:=eC ho
 rw[←hr]at ho
 exact⟨w,hw,hr,(lz (ok w hw).dd).mpr ⟨ho,rfl⟩,rfl⟩
theorem fG.stp{m:Int}{ws:List Way}(ok:∀w∈ws,w.Ok m){p q:Bfs.Pl}(h:fG ws p q):aR ws p q:=by
 obtain⟨w,hw,hr,hs,ho⟩:=h
 have:=(lz (ok w hw).dd).mp hs
 rw[hr]at this
 exact⟨w,hw,this.1,Prod.ext ho this.2⟩
theorem fW{m:Int}{ws:List Way}(ok:∀w∈ws,w.Ok m){s:Bfs.Pl}(Iv:Nat->Bfs.Pl->Prop)(h0:Iv 0 s)(hs:∀n p q,Iv n p->fG ws p q->Iv (n+1) q){n:Nat}{p:Bfs.Pl}(h:Bfs.Rw (aR ws) n s p):Iv n p:=by
 have:∀(n:Nat) (z y:Bfs.Pl),Bfs.Rw (aR ws) n z y->z=s->Iv n y:=by
  intro n z y hr
  induction hr with
  | nil=>intro e;rw[e];exact h0
  | @snoc n z u y _ hz ih=>intro e;exact hs n u y (ih e) (.of ok hz)
 exact this n s p h rfl
def bX(ws:List Way)(x g:Bfs.Pl)(z:Int):Prop:=(z<0/\¬bp ws x g)\/∃n:Nat,z=(n:Int)/\Bfs.Rw (aR ws) n x g/\∀k,Bfs.Rw (aR ws) k x g->n<=k
theorem hJ{ws:List Way}{x g:Bfs.Pl}{z:Int}(h:∀k,Bfs.Rw (aR ws) k x g->0<=z/\z<=(k:Int))(h':0<=z->∃k:Nat,(k:Int)=z/\Bfs.Rw (aR ws) k x g):bX ws x g z:=by
 rcases Int.lt_or_le z 0 with hz | hz
 ·exact .inl ⟨hz,fun⟨k,hk⟩=>by have:=h k hk;omega⟩
 ·obtain⟨k,e,hk⟩:=h' hz
  exact .inr ⟨k,e.symm,hk,fun j hj=>by have:=h j hj;omega⟩
theorem ia{ws:List Way}{x g:Bfs.Pl}(h:∀k,¬Bfs.Rw (aR ws) k x g):bX ws x g (-1):=.inl ⟨by decide,fun⟨k,hk⟩=>h k hk⟩
theorem nY{n n':Int}(h:stp "down" n=some n'):0<n/\n'=n-1:=by
 rw[fg]at h
 split at h
 ·rename_i g
  cases h
  exact⟨of_decide_eq_true g,rfl⟩
 ·cases h
theorem AR{n:Int}(h:0<n):stp "down" n=some (n-1):=by
 rw[fg,decide_eq_true h,if_pos rfl]
theorem Ag{n n':Int}(h:stp "zero" n=some n'):n=0/\n'=0:=by
 rw[ft]at h
 split at h
 ·rename_i g
  cases h
  exact⟨of_decide_eq_true g,of_decide_eq_true g⟩
 ·cases h
theorem Aa:stp "zero" 0=some 0:=by
 rw[ft]
 rfl
theorem cZ{n n':Int}(h:stp "up" n=some n'):n'=n+1:=by
 rw[gC]at h
 exact(Option.some.inj h).symm
theorem iz{n n':Int}(h:stp "stay" n=some n'):n'=n:=by
 rw[gr]at h
 exact(Option.some.inj h).symm
section
variable {m:Int} {ws:List Way}
theorem dn(ok:∀w∈ws,w.Ok m){r o:Int}{z:Str}(hw:(⟨r,"up",o,z⟩:Way)∈ws){k:Nat}{s:Bfs.Pl}{n:Int}(h:Bfs.Rw (aR ws) k s (r,n)):Bfs.Rw (aR ws) (k+1) s (o,n+1):=.snoc h (fG.stp ok ⟨_,hw,rfl,gC n,rfl⟩)
theorem gH(ok:∀w∈ws,w.Ok m){r o:Int}{z:Str}(hw:(⟨r,"stay",o,z⟩:Way)∈ws){k:Nat}{s:Bfs.Pl}{n:Int}(h:Bfs.Rw (aR ws) k s (r,n)):Bfs.Rw (aR ws) (k+1) s (o,n):=.snoc h (fG.stp ok ⟨_,hw,rfl,gr n,rfl⟩)
theorem ye(ok:∀w∈ws,w.Ok m){r o:Int}{z:Str}(hw:(⟨r,"down",o,z⟩:Way)∈ws){k:Nat}{s:Bfs.Pl}{n:Int}(hn:0<n)(h:Bfs.Rw (aR ws) k s (r,n)):Bfs.Rw (aR ws) (k+1) s (o,n-1):=.snoc h (fG.stp ok ⟨_,hw,rfl,AR hn,rfl⟩)
theorem DJ(ok:∀w∈ws,w.Ok m){r o:Int}{z:Str}(hw:(⟨r,"zero",o,z⟩:Way)∈ws){k:Nat}{s:Bfs.Pl}(h:Bfs.Rw (aR ws) k s (r,0)):Bfs.Rw (aR ws) (k+1) s (o,0):=.snoc h (fG.stp ok ⟨_,hw,rfl,Aa,rfl⟩)
theorem mX(ok:∀w∈ws,w.Ok m){r:Int}{z:Str}(hw:(⟨r,"up",r,z⟩:Way)∈ws){k:Nat}{s:Bfs.Pl}{n:Int}(h:Bfs.Rw (aR ws) k s (r,n)):∀t:Nat,Bfs.Rw (aR ws) (k+t) s (r,n+t)
 | 0=>by rw[show n+((0:Nat):Int)=n by omega];exact h
 | t+1=>by
  have:=dn ok hw (mX ok hw h t)
  rw[show n+(t:Int)+1=n+((t+1:Nat):Int) by omega]at this
  exact this
theorem jh(ok:∀w∈ws,w.Ok m){r:Int}{z:Str}(hw:(⟨r,"down",r,z⟩:Way)∈ws){k:Nat}{s:Bfs.Pl}{n:Int}(h:Bfs.Rw (aR ws) k s (r,n)):∀t:Nat,(t:Int)<=n->Bfs.Rw (aR ws) (k+t) s (r,n-t)
 | 0,_=>by rw[show n-((0:Nat):Int)=n by omega];exact h
 | t+1,ht=>by
  have:=ye ok hw (by omega) (jh ok hw h t (by omega))
  rw[show n-(t:Int)-1=n-((t+1:Nat):Int) by omega]at this
  exact this
end
theorem bS{ws:List Way}{s g g':Bfs.Pl}{k k':Nat}(h:Bfs.Rw (aR ws) k s g)(e1:k=k')(e2:g.1=g'.1)(e3:g.2=g'.2):Bfs.Rw (aR ws) k' s g':=by
 have:g=g':=Prod.ext e2 e3
 rw[←e1,←this]
 exact h
def hA:List Way:=[⟨0,"down",0,"a"⟩]
def hB:List Way:=[⟨0,"up",0,"a"⟩]
def hC:List Way:=[⟨0,"up",1,"a"⟩,⟨1,"up",0,"b"⟩]
def hD:List Way:=[⟨0,"up",0,"a"⟩,⟨0,"stay",1,"a"⟩,⟨1,"down",1,"b"⟩]
def hE:List Way:=[⟨0,"down",0,"a"⟩,⟨0,"zero",1,"b"⟩,⟨1,"up",2,"c"⟩,⟨2,"up",1,"c"⟩]
def kB(n f:Nat)(k:Nat):Way:=⟨(f:Int)+(k:Int),"up",(f:Int)+((k:Int)+1) % (n:Int),"a"⟩
def hF:List Way:=[⟨0,"stay",1,"a"⟩,⟨0,"stay",4,"a"⟩]++((List.range 3).map (kB 3 1)++[⟨1,"stay",9,"b"⟩])++((List.range 5).map (kB 5 4)++[⟨4,"stay",9,"b"⟩])
theorem bM{m r o:Int}{d z:Str}(h1:0<=r/\r<m/\0<=o/\o<m)(h2:bC d)(h3:gO z):(⟨r,d,o,z⟩:Way).Ok m:=⟨h1.1,h1.2.1,h1.2.2.1,h1.2.2.2,h2,h3⟩
theorem cF:gO "a":=⟨97,by decide,by decide,(show Str.ofString "a" = ⟨#[97]⟩ by decide +kernel)⟩
theorem jc:gO "b":=⟨98,by decide,by decide,(show Str.ofString "b" = ⟨#[98]⟩ by decide +kernel)⟩
theorem wY:gO "c":=⟨99,by decide,by decide,(show Str.ofString "c" = ⟨#[99]⟩ by decide +kernel)⟩
theorem cS:bC "up":=.inl rfl
theorem nL:bC "down":=.inr (.inl rfl)
theorem iC:bC "stay":=.inr (.inr (.inl rfl))
theorem CL:bC "zero":=.inr (.inr (.inr rfl))
theorem mU:HOuse 1 hA:=⟨by decide,by decide,by decide,by
 simp only[hA,List.forall_mem_cons]
 exact⟨bM (by decide) nL cF,fun w hw=>by cases hw⟩,by decide +kernel⟩
theorem oI:HOuse 1 hB:=⟨by decide,by decide,by decide,by
 simp only[hB,List.forall_mem_cons]
 exact⟨bM (by decide) cS cF,fun w hw=>by cases hw⟩,by decide +kernel⟩
theorem ij:HOuse 2 hC:=⟨by decide,by decide,by decide,by
 simp only[hC,List.forall_mem_cons]
 exact⟨bM (by decide) cS cF,bM (by decide) cS jc,fun w hw=>by cases hw⟩,by decide +kernel⟩
theorem fQ:HOuse 2 hD:=⟨by decide,by decide,by decide,by
 simp only[hD,List.forall_mem_cons]
 exact⟨bM (by decide) cS cF,bM (by decide) iC cF,bM (by decide) nL jc,fun w hw=>by cases hw⟩,by decide +kernel⟩
theorem fk:HOuse 3 hE:=⟨by decide,by decide,by decide,by
 simp only[hE,List.forall_mem_cons]
 exact⟨bM (by decide) nL cF,bM (by decide) CL jc,bM (by decide) cS wY,bM (by decide) cS wY,fun w hw=>by cases hw⟩,by decide +kernel⟩
theorem cU:hF=[⟨0,"stay",1,"a"⟩,⟨0,"stay",4,"a"⟩,⟨1,"up",2,"a"⟩,⟨2,"up",3,"a"⟩,⟨3,"up",1,"a"⟩,⟨1,"stay",9,"b"⟩,⟨4,"up",5,"a"⟩,⟨5,"up",6,"a"⟩,⟨6,"up",7,"a"⟩,⟨7,"up",8,"a"⟩,⟨8,"up",4,"a"⟩,⟨4,"stay",9,"b"⟩]:=rfl
theorem cW:HOuse 10 hF:=⟨by decide,by decide,by decide,by
 rw[cU]
 simp only[List.forall_mem_cons]
 exact⟨bM (by decide) iC cF,bM (by decide) iC cF,bM (by decide) cS cF,bM (by decide) cS cF,bM (by decide) cS cF,bM (by decide) iC jc,bM (by decide) cS cF,bM (by decide) cS cF,bM (by decide) cS cF,bM (by decide) cS cF,bM (by decide) cS cF,bM (by decide) iC jc,fun w hw=>by cases hw⟩,by decide +kernel⟩
theorem tN:HOuse 3 []:=⟨by decide,by decide,by decide,(fun w hw=>by cases hw),.nil⟩
theorem B9{n m:Int}(n0:0<=n)(m0:0<=m):bX hA (0,n) (0,m) (n-m):=by
 refine hJ (fun k hk=>?_) (fun hz=>?_)
 ·have:=fW mU.ok (fun k p=>p.2=n-(k:Int)) (by show n=n-((0:Nat):Int);omega) (fun j p q h hs=>by
   obtain⟨w,hw,hr,hs,ho⟩:=hs
   rw[Eg.mp hw]at hs
   have:=nY hs
   show q.2=n-((j+1:Nat):Int)
   omega) hk
  have this:m=n-(k:Int):=this
  omega
 ·exact⟨(n-m).toNat,by omega,bS (jh mU.ok (Ec) .nil (n-m).toNat (by omega)) (by omega) rfl (by show n-(((n-m).toNat:Nat):Int)=m;omega)⟩
theorem B0{n m:Int}(n0:0<=n)(m0:0<=m):bX hB (0,n) (0,m) (m-n):=by
 refine hJ (fun k hk=>?_) (fun hz=>?_)
 ·have:=fW oI.ok (fun k p=>p.2=n+(k:Int)) (by show n=n+((0:Nat):Int);omega) (fun j p q h hs=>by
   obtain⟨w,hw,hr,hs,ho⟩:=hs
   rw[Eg.mp hw]at hs
   have:=cZ hs
   show q.2=n+((j+1:Nat):Int)
   omega) hk
  have this:m=n+(k:Int):=this
  omega
 ·exact⟨(m-n).toNat,by omega,bS (mX oI.ok (Ec) .nil (m-n).toNat) (by omega) rfl (by show n+(((m-n).toNat:Nat):Int)=m;omega)⟩
theorem ml{n:Int}{k:Nat}{p:Bfs.Pl}(h:Bfs.Rw (aR hC) k (0,n) p):p.1=(k:Int) % 2/\p.2=n+(k:Int):=
 fW ij.ok (fun k p=>p.1=(k:Int) % 2/\p.2=n+(k:Int)) ⟨rfl,by show n=n+((0:Nat):Int);omega⟩ (fun j p q h hs=>by
  obtain⟨w,hw,hr,hs,ho⟩:=hs
  rcases(by simpa[hC]using hw:w=⟨0,"up",1,"a"⟩\/w=⟨1,"up",0,"b"⟩)with rfl | rfl
  ·have:=cZ hs
   have hr:(0:Int)=p.1:=hr
   have ho:q.1=(1:Int):=ho
   exact⟨by omega,by omega⟩
  ·have:=cZ hs
   have hr:(1:Int)=p.1:=hr
   have ho:q.1=(0:Int):=ho
   exact⟨by omega,by omega⟩) h
theorem vf(n:Int):∀k:Nat,Bfs.Rw (aR hC) k (0,n) ((k:Int) % 2,n+(k:Int))
 | 0=>bS .nil rfl rfl (by show n=n+((0:Nat):Int);omega)
 | k+1=>by
  have ih:=vf n k
  rcases(show(k:Int) % 2=0\/(k:Int) % 2=1 by omega)with e | e
  ·rw[e]at ih
   exact bS (dn ij.ok (o:=1) (z:="a") (by simp[hC]) ih) rfl (by show(1:Int)=((k+1:Nat):Int) % 2;omega) (by show n+(k:Int)+1=n+((k+1:Nat):Int);omega)
  ·rw[e]at ih
   exact bS (dn ij.ok (o:=0) (z:="b") (by simp[hC]) ih) rfl (by show(0:Int)=((k+1:Nat):Int) % 2;omega) (by show n+(k:Int)+1=n+((k+1:Nat):Int);omega)
theorem Dw{n f:Int}(f0:0<=f):bX hC (0,n) (f % 2,n+f) f:=by
 refine hJ (fun k hk=>?_) (fun hz=>?_)
 ·have h2:n+f=n+(k:Int):=(ml hk).2
  omega
 ·exact⟨f.toNat,by omega,bS (vf n f.toNat) rfl (by show((f.toNat:Nat):Int) % 2=f % 2;rw[Ej f0]) (by show n+((f.toNat:Nat):Int)=n+f;omega)⟩
theorem yD{n f:Int}:bX hC (0,n) (1-f % 2,n+f) (-1):=ia fun k hk=>by
 have h1:1-f % 2=(k:Int) % 2:=(ml hk).1
 have h2:n+f=n+(k:Int):=(ml hk).2
 omega
theorem rN{w:Way}(h:w∈hD):w=⟨0,"up",0,"a"⟩\/w=⟨0,"stay",1,"a"⟩\/w=⟨1,"down",1,"b"⟩:=by simpa[hD]using h
theorem DG{n:Int}{k:Nat}{p:Bfs.Pl}(h:Bfs.Rw (aR hD) k (0,n) p):(p.1=0/\p.2=n+(k:Int))\/(p.1=1/\n+1-(k:Int)<=p.2/\p.2<=n+(k:Int)-1):=
 fW fQ.ok (fun k p=>(p.1=0/\p.2=n+(k:Int))\/(p.1=1/\n+1-(k:Int)<=p.2/\p.2<=n+(k:Int)-1)) (.inl ⟨rfl,by show n=n+((0:Nat):Int);omega⟩) (fun j p q h hs=>by
  obtain⟨w,hw,hr,hs,ho⟩:=hs
  rcases rN hw with rfl | rfl | rfl
  ·have:=cZ hs
   have hr:(0:Int)=p.1:=hr
   have ho:q.1=(0:Int):=ho
   omega
  ·have:=iz hs
   have hr:(0:Int)=p.1:=hr
   have ho:q.1=(1:Int):=ho
   omega
  ·have:=nY hs
   have hr:(1:Int)=p.1:=hr
   have ho:q.1=(1:Int):=ho
   omega) h
theorem Cq{n m f:Int}(n0:0<=n)(m0:0<=m)(hf:f=if n-m<0 then -(n-m)else n-m):bX hD (0,n) (1,m) (1+f):=by
 refine hJ (fun k hk=>?_) (fun hz=>?_)
 ·rcases DG hk with⟨h1,_⟩ | ⟨_,h2,h3⟩
  ·exact absurd h1 (by simp)
  ·have h2:n+1-(k:Int)<=m:=h2
   have h3:m<=n+(k:Int)-1:=h3
   split at hf<;>omega
 ·rcases Int.lt_or_le n m with h | h
  ·rw[if_pos (by omega)]at hf
   refine⟨(m-n).toNat+1,by omega,?_⟩
   exact bS (gH fQ.ok (o:=1) (z:="a") (by simp[hD]) (mX fQ.ok (z:="a") (by simp[hD]) .nil (m-n).toNat)) (by omega) rfl (by show n+(((m-n).toNat:Nat):Int)=m;omega)
  ·rw[if_neg (by omega)]at hf
   refine⟨(n-m).toNat+1,by omega,?_⟩
   exact bS (jh fQ.ok (z:="b") (by simp[hD]) (gH fQ.ok (o:=1) (z:="a") (by simp[hD]) .nil) (n-m).toNat (by omega)) (by omega) rfl (by show n-(((n-m).toNat:Nat):Int)=m;omega)
theorem xQ{n m:Int}:bX hD (1,n) (0,m) (-1):=ia fun k hk=>by
 have:=fW fQ.ok (fun k p=>p.1=1) rfl (fun j p q h hs=>by
  obtain⟨w,hw,hr,hs,ho⟩:=hs
  rcases rN hw with rfl | rfl | rfl
  ·have hr:(0:Int)=p.1:=hr
   omega
  ·exact ho
  ·exact ho) hk
 exact absurd this (by simp)
theorem uZ{w:Way}(h:w∈hE):w=⟨0,"down",0,"a"⟩\/w=⟨0,"zero",1,"b"⟩\/w=⟨1,"up",2,"c"⟩\/w=⟨2,"up",1,"c"⟩:=by simpa[hE]using h
theorem pZ{n:Int}{k:Nat}{p:Bfs.Pl}(h:Bfs.Rw (aR hE) k (0,n) p):(p.1=0/\p.2=n-(k:Int))\/(p.1=1+p.2 % 2/\0<=p.2/\(k:Int)=n+1+p.2):=
 fW fk.ok (fun k p=>(p.1=0/\p.2=n-(k:Int))\/(p.1=1+p.2 % 2/\0<=p.2/\(k:Int)=n+1+p.2)) (.inl ⟨rfl,by show n=n-((0:Nat):Int);omega⟩) (fun j p q h hs=>by
  obtain⟨w,hw,hr,hs,ho⟩:=hs
  rcases uZ hw with rfl | rfl | rfl | rfl
  ·have:=nY hs
   have hr:(0:Int)=p.1:=hr
   have ho:q.1=(0:Int):=ho
   omega
  ·have:=Ag hs
   have hr:(0:Int)=p.1:=hr
   have ho:q.1=(1:Int):=ho
   omega
  ·have:=cZ hs
   have hr:(1:Int)=p.1:=hr
   have ho:q.1=(2:Int):=ho
   omega
  ·have:=cZ hs
   have hr:(2:Int)=p.1:=hr
   have ho:q.1=(1:Int):=ho
   omega) h
theorem tI{n:Int}(n0:0<=n):∀k:Nat,Bfs.Rw (aR hE) (n.toNat+1+k) (0,n) (1+(k:Int) % 2,(k:Int))
 | 0=>by
  have h:=jh fk.ok (r:=0) (z:="a") (by simp[hE]) (.nil (x:=(0,n))) n.toNat (by omega)
  rw[show n-((n.toNat:Nat):Int)=0 by omega]at h
  exact bS (DJ fk.ok (o:=1) (z:="b") (by simp[hE]) h) (by omega) rfl rfl
 | k+1=>by
  have ih:=tI n0 k
  rcases(show(k:Int) % 2=0\/(k:Int) % 2=1 by omega)with e | e
  ·rw[e]at ih
   exact bS (dn fk.ok (o:=2) (z:="c") (by simp[hE]) ih) rfl (by show(2:Int)=1+((k+1:Nat):Int) % 2;omega) (by show(k:Int)+1=((k+1:Nat):Int);omega)
  ·rw[e]at ih
   exact bS (dn fk.ok (o:=1) (z:="c") (by simp[hE]) ih) rfl (by show(1:Int)=1+((k+1:Nat):Int) % 2;omega) (by show(k:Int)+1=((k+1:Nat):Int);omega)
theorem CO{n m:Int}(n0:0<=n)(m0:0<=m):bX hE (0,n) (1+m % 2,m) (n+1+m):=by
 refine hJ (fun k hk=>?_) (fun hz=>?_)
 ·rcases pZ hk with⟨h1,_⟩ | ⟨_,h2,h3⟩
  ·have h1:1+m % 2=0:=h1
   omega
  ·have h3:(k:Int)=n+1+m:=h3
   omega
 ·exact⟨n.toNat+1+m.toNat,by omega,bS (tI n0 m.toNat) rfl (by show 1+((m.toNat:Nat):Int) % 2=1+m % 2;rw[Ej m0]) (by show((m.toNat:Nat):Int)=m;omega)⟩
theorem yQ{n m:Int}:bX hE (0,n) (2-m % 2,m) (-1):=ia fun k hk=>by
 rcases pZ hk with⟨h1,_⟩ | ⟨h1,h2,h3⟩
 ·have h1:2-m % 2=0:=h1
  omega
 ·have h1:2-m % 2=1+m % 2:=h1
  omega
theorem xC{n m:Int}:bX hE (1,n) (0,m) (-1):=ia fun k hk=>by
 have:=fW fk.ok (fun k p=>p.1≠0) (by simp) (fun j p q h hs=>by
  obtain⟨w,hw,hr,hs,ho⟩:=hs
  rcases uZ hw with rfl | rfl | rfl | rfl
  ·have hr:(0:Int)=p.1:=hr
   exact absurd hr.symm h
  ·have hr:(0:Int)=p.1:=hr
   exact absurd hr.symm h
  ·rw[ho];decide
  ·rw[ho];decide) hk
 exact absurd rfl this
theorem qE{n:Int}{k:Nat}{p:Bfs.Pl}(h:Bfs.Rw (aR hF) k (0,n) p):(p.1=0/\k=0/\p.2=n)\/(1<=k/\p.1=1+((k:Int)-1) % 3/\p.2=n+(k:Int)-1)\/(1<=k/\p.1=4+((k:Int)-1) % 5/\p.2=n+(k:Int)-1)\/(2<=k/\p.1=9/\p.2=n+(k:Int)-2/\(((k:Int)-2) % 3=0\/((k:Int)-2) % 5=0)):=
 fW cW.ok (fun k p=>(p.1=0/\k=0/\p.2=n)\/(1<=k/\p.1=1+((k:Int)-1) % 3/\p.2=n+(k:Int)-1)\/(1<=k/\p.1=4+((k:Int)-1) % 5/\p.2=n+(k:Int)-1)\/(2<=k/\p.1=9/\p.2=n+(k:Int)-2/\(((k:Int)-2) % 3=0\/((k:Int)-2) % 5=0))) (.inl ⟨rfl,rfl,rfl⟩) (fun j p q h hs=>by
  obtain⟨w,hw,hr,hs,ho⟩:=hs
  have key:∀(r o d:Int),r=p.1->q.1=o->q.2=p.2+d->((r=0/\d=0/\(o=1\/o=4))\/(1<=r/\r<=2/\d=1/\o=r+1)\/(r=3/\d=1/\o=1)\/(r=1/\d=0/\o=9)\/(4<=r/\r<=7/\d=1/\o=r+1)\/(r=8/\d=1/\o=4)\/(r=4/\d=0/\o=9))->(q.1=0/\j+1=0/\q.2=n)\/(1<=j+1/\q.1=1+(((j+1:Nat):Int)-1) % 3/\q.2=n+((j+1:Nat):Int)-1)\/(1<=j+1/\q.1=4+(((j+1:Nat):Int)-1) % 5/\q.2=n+((j+1:Nat):Int)-1)\/(2<=j+1/\q.1=9/\q.2=n+((j+1:Nat):Int)-2/\((((j+1:Nat):Int)-2) % 3=0\/(((j+1:Nat):Int)-2) % 5=0)):=by
   intro r o d e1 e2 e3 hc
   rcases h with⟨a1,a2,a3⟩ | ⟨a1,a2,a3⟩ | ⟨a1,a2,a3⟩ | ⟨a1,a2,a3,a4⟩
   ·rcases hc with⟨_,_,h | h⟩ | h | h | h | h | h | h
    ·exact .inr (.inl (by omega))
    ·exact .inr (.inr (.inl (by omega)))
    all_goals omega
   ·rcases hc with h | h | h | h | h | h | h
    ·omega
    ·exact .inr (.inl (by omega))
    ·exact .inr (.inl (by omega))
    ·exact .inr (.inr (.inr (by omega)))
    all_goals omega
   ·rcases hc with h | h | h | h | h | h | h
    ·omega
    ·omega
    ·omega
    ·omega
    ·exact .inr (.inr (.inl (by omega)))
    ·exact .inr (.inr (.inl (by omega)))
    ·exact .inr (.inr (.inr (by omega)))
   ·omega
  rw[cU]at hw
  rcases(by simpa using hw:w=⟨0,"stay",1,"a"⟩\/w=⟨0,"stay",4,"a"⟩\/w=⟨1,"up",2,"a"⟩\/w=⟨2,"up",3,"a"⟩\/w=⟨3,"up",1,"a"⟩\/w=⟨1,"stay",9,"b"⟩\/w=⟨4,"up",5,"a"⟩\/w=⟨5,"up",6,"a"⟩\/w=⟨6,"up",7,"a"⟩\/w=⟨7,"up",8,"a"⟩\/w=⟨8,"up",4,"a"⟩\/w=⟨4,"stay",9,"b"⟩)with rfl | rfl | rfl | rfl | rfl | rfl | rfl | rfl | rfl | rfl | rfl | rfl
  ·exact key _ _ 0 hr ho (by have:=iz hs;omega) (by simp)
  ·exact key _ _ 0 hr ho (by have:=iz hs;omega) (by simp)
  ·exact key _ _ 1 hr ho (cZ hs) (by simp)
  ·exact key _ _ 1 hr ho (cZ hs) (by simp)
  ·exact key _ _ 1 hr ho (cZ hs) (by simp)
  ·exact key _ _ 0 hr ho (by have:=iz hs;omega) (by simp)
  ·exact key _ _ 1 hr ho (cZ hs) (by simp)
  ·exact key _ _ 1 hr ho (cZ hs) (by simp)
  ·exact key _ _ 1 hr ho (cZ hs) (by simp)
  ·exact key _ _ 1 hr ho (cZ hs) (by simp)
  ·exact key _ _ 1 hr ho (cZ hs) (by simp)
  ·exact key _ _ 0 hr ho (by have:=iz hs;omega) (by simp)) h
theorem uy(n:Int):∀k:Nat,Bfs.Rw (aR hF) (k+1) (0,n) (1+(k:Int) % 3,n+(k:Int))
 | 0=>bS (gH cW.ok (r:=0) (o:=1) (z:="a") (by rw[cU];simp) .nil) rfl rfl (by show n=n+((0:Nat):Int);omega)
 | k+1=>by
  have ih:=uy n k
  have hz:n+(k:Int)+1=n+((k+1:Nat):Int):=by omega
  rcases(show(k:Int) % 3=0\/(k:Int) % 3=1\/(k:Int) % 3=2 by omega)with e | e | e<;>rw[e]at ih
  ·exact bS (dn cW.ok (o:=2) (z:="a") (by rw[cU];simp) ih) rfl (by show(2:Int)=1+((k+1:Nat):Int) % 3;omega) hz
  ·exact bS (dn cW.ok (o:=3) (z:="a") (by rw[cU];simp) ih) rfl (by show(3:Int)=1+((k+1:Nat):Int) % 3;omega) hz
  ·exact bS (dn cW.ok (o:=1) (z:="a") (by rw[cU];simp) ih) rfl (by show(1:Int)=1+((k+1:Nat):Int) % 3;omega) hz
theorem qG(n:Int):∀k:Nat,Bfs.Rw (aR hF) (k+1) (0,n) (4+(k:Int) % 5,n+(k:Int))
 | 0=>bS (gH cW.ok (r:=0) (o:=4) (z:="a") (by rw[cU];simp) .nil) rfl rfl (by show n=n+((0:Nat):Int);omega)
 | k+1=>by
  have ih:=qG n k
  have hz:n+(k:Int)+1=n+((k+1:Nat):Int):=by omega
  rcases(show(k:Int) % 5=0\/(k:Int) % 5=1\/(k:Int) % 5=2\/(k:Int) % 5=3\/(k:Int) % 5=4 by omega)with e | e | e | e | e<;>rw[e]at ih
  ·exact bS (dn cW.ok (o:=5) (z:="a") (by rw[cU];simp) ih) rfl (by show(5:Int)=4+((k+1:Nat):Int) % 5;omega) hz
  ·exact bS (dn cW.ok (o:=6) (z:="a") (by rw[cU];simp) ih) rfl (by show(6:Int)=4+((k+1:Nat):Int) % 5;omega) hz
  ·exact bS (dn cW.ok (o:=7) (z:="a") (by rw[cU];simp) ih) rfl (by show(7:Int)=4+((k+1:Nat):Int) % 5;omega) hz
  ·exact bS (dn cW.ok (o:=8) (z:="a") (by rw[cU];simp) ih) rfl (by show(8:Int)=4+((k+1:Nat):Int) % 5;omega) hz
  ·exact bS (dn cW.ok (o:=4) (z:="a") (by rw[cU];simp) ih) rfl (by show(4:Int)=4+((k+1:Nat):Int) % 5;omega) hz
theorem pB{n f:Int}(f0:0<=f)(h:f % 3=0\/f % 5=0):bX hF (0,n) (9,n+f) (f+2):=by
 refine hJ (fun k hk=>?_) (fun hz=>?_)
 ·rcases qE hk with⟨h1,_⟩ | ⟨_,h1,_⟩ | ⟨_,h1,_⟩ | ⟨_,_,h2,_⟩
  ·exact absurd h1 (by simp)
  ·have h1:(9:Int)=1+((k:Int)-1) % 3:=h1
   omega
  ·have h1:(9:Int)=4+((k:Int)-1) % 5:=h1
   omega
  ·have h2:n+f=n+(k:Int)-2:=h2
   omega
 ·refine⟨f.toNat+1+1,by omega,?_⟩
  have e:((f.toNat:Nat):Int)=f:=Ej f0
  rcases h with h | h
  ·have g:=uy n f.toNat
   rw[e,h]at g
   exact gH cW.ok (r:=1) (o:=9) (z:="b") (by rw[cU];simp) g
  ·have g:=qG n f.toNat
   rw[e,h]at g
   exact gH cW.ok (r:=4) (o:=9) (z:="b") (by rw[cU];simp) g
theorem yf{n f:Int}(h3:¬f % 3=0)(h5:¬f % 5=0):bX hF (0,n) (9,n+f) (-1):=ia fun k hk=>by
 rcases qE hk with⟨h1,_⟩ | ⟨_,h1,_⟩ | ⟨_,h1,_⟩ | ⟨_,_,h2,h4⟩
 ·exact absurd h1 (by simp)
 ·have h1:(9:Int)=1+((k:Int)-1) % 3:=h1
  omega
 ·have h1:(9:Int)=4+((k:Int)-1) % 5:=h1
  omega
 ·have h2:n+f=n+(k:Int)-2:=h2
  omega
theorem BV{x g:Bfs.Pl}{k:Nat}(h:Bfs.Rw (aR []) k x g):k=0/\x=g:=by
 cases h with
 | nil=>exact⟨rfl,rfl⟩
 | snoc _ h=>obtain⟨w,hw,_⟩:=h;cases hw
theorem zU{x:Bfs.Pl}:bX [] x x 0:=.inr ⟨0,rfl,.nil,fun k _=>Nat.zero_le k⟩
theorem vv{x g:Bfs.Pl}(h:x≠g):bX [] x g (-1):=ia fun k hk=>h (BV hk).2
def wK(K:DS):Sp:=fun vs H Q _=>∃i:Int,vs=[.int i]/\Q (.bl true) H
abbrev lD:Stmt:=stq 64
theorem uL:FnScope ["_law_found"] ["_law_found"] (aI lD):=⟨rfl,rfl,rfl,by decide +kernel,rfl,by decide +kernel,by decide +kernel⟩
theorem xS{P:Program}{w:World}{K:DS}{mg:Str->Option Value}{base:Heap}(D:Dfn K mg "_law_whole" lD ["_law_found"])(T:Blt mg):Cal P w K mg base "_law_whole" 1 ["_law_found"] (wK K):=by
 have nd:=(uL).nd
 refine D.ok uL (fun vs H Q E h=>?_) (fun X hX H vs Q E h=>?_)
 ·obtain⟨i,rfl,_⟩:=h;rfl
 ·obtain⟨f,cdv,A,outer,s,H0,E0,rfl,hr⟩:=hX
  obtain⟨i,rfl,q⟩:=h
  refine⟨_,(av (aF (eM (bc eO rfl T.isinstance_ PyProof.Rows.boot_isinstance (aa (pv 0) (aa (eJ (v:=.ty "int") rfl T.int_ PyProof.Rows.boot_int rfl) ae))) (eB (uH (bc eO rfl T.isinstance_ PyProof.Rows.boot_isinstance (aa (pv 0) (aa (eJ (v:=.ty "bool") rfl T.bool_ PyProof.Rows.boot_bool rfl) ae)))))))),?_⟩
  walk_at "rd"
  refine eA (n:="int") rfl (b:=true) rfl ?_
  walk_at "rd"
  refine aC ?_
  walk_at "rd"
  refine eA (n:="int") rfl (b:=false) rfl ?_
  walk_at "rd"
  exact q
theorem AS{H:Hp}{p:Addr}{xs:List V}(h:H p=some (.lst xs)):dv H (.ref p) "list":=.inl ⟨rfl,xs,h⟩
def wu(K:DS):Sp:=fun vs H Q _=>∃l n ks,vs=[.ref l,.int n]/\H l=some (.lst (bK ks))/\(ks.length:Int)<=n/\ks.length<=24012/\∀H',Ext H H'->Q (.bl true) H'
abbrev kq:Stmt:=stq 66
theorem tO:FnScope ["_law_found","_law_most"] ["_law_found","_law_most"] (aI kq):=⟨rfl,rfl,rfl,by decide +kernel,rfl,by decide +kernel,by decide +kernel⟩
theorem yt{P:Program}{w:World}{K:DS}{mg:Str->Option Value}{base:Heap}(D:Dfn K mg "_law_walk" kq ["_law_found","_law_most"])(T:Blt mg)(C__law_whole:Cal P w K mg base "_law_whole" 1 ["_law_found"] (wK K)):Cal P w K mg base "_law_walk" 2 ["_law_found","_law_most"] (wu K):=by
 have nd:=(tO).nd
 refine D.ok tO (fun vs H Q E h=>?_) (fun X hX H vs Q E h=>?_)
 ·obtain⟨l,n,ks,rfl,_⟩:=h;rfl
 ·obtain⟨f,cdv,A,outer,s,H0,E0,rfl,hr⟩:=hX
  obtain⟨l,n,ks,rfl,hl,hn,hs,q⟩:=h
  refine⟨_,(aj (bU (PW.pt (dC (eU (b9 (bc eO rfl T.isinstance_ PyProof.Rows.boot_isinstance (aa (pv 0) (aa (eJ (v:=.ty "list") rfl T.list_ PyProof.Rows.boot_list rfl) ae))))) (dM (aT gA (bc (cH K) rfl T.len_ PySem.boot_len (aa (pv 0) ae)) (pv 1) (aP _))))) (av (aF bR)) bf)
    (av (aF (bc (sJ K rfl) rfl T.all_ PyProof.Rows.boot_all (aa (di ["_law_part"] [] (cz K (pv 0)) (fun _=>(aO (i:=0) (show(["_law_part"]:List Str).Nodup from by decide +kernel) rfl (Or.inl rfl) (Or.inr rfl))) (fun _=>dY) (fun _=>(aH C__law_whole hr (aa (pv 0) ae)))) ae))))),?_⟩
  walk_at "rd"
  refine eA (AS hl) (b:=true) rfl ?_
  walk_at "rd"
  refine aw ?_
  walk_at "rd"
  refine dI (ag.of hl) ?_
  walk_at "rd"
  rw[decide_eq_false (show ¬n<((bK ks).length:Nat) by rw[DW];omega)]
  refine aw ?_
  walk_at "rd"
  refine cw (ag.of hl) ?_
  refine gj (xs:=bK ks) (fun i ys H'=>Ext H H'/\ys=(List.replicate i true).map V.bl) (Nat.le_of_lt (cA (by rw[DW];omega))) ⟨Ext.rfl' _,rfl⟩ (fun i ys H' hi h=>⟨ag.of (h.1 _ _ hl),by rw[h.2];simp⟩) ?_ ?_
  ·rintro i x ys H' hx ⟨e,rfl⟩
   rw[DY]at hx
   obtain⟨k,hk,rfl⟩:=Eh.mp hx
   walk_at "rd"
   refine aC ?_
   walk_at "rd"
   refine⟨_,rfl,e,?_⟩
   rw[List.replicate_succ',Em]
   rfl
  ·rintro ys H' p ⟨e,rfl⟩ hp
   walk_at "rd"
   refine⟨p,List.replicate (bK ks).length true,rfl,ag.of aL,?_⟩
   rw[show (List.replicate (bK ks).length true).all id=true by simp]
   exact q _ (e.trans (bw hp))
theorem wm{ws:List Way}{r n:Int}{t:Int×Int×Int}:∀{k:Nat},t∈cP ws r n k->∃j w,j<k/\ws[j]?=some w/\w.room=r/\stp w.deed n=some t.2.2/\t.1=((j:Nat):Int)/\t.2.1=w.other
 | 0,h=>by cases h
 | k+1,h=>by
  rcases Ew.mp h with z | z
  ·obtain⟨j,w,h1,h2⟩:=wm z
   exact⟨j,w,by omega,h2⟩
  ·cases hw:ws[k]? with
   | none=>rw[hw]at z;cases z
   | some w=>
    rw[hw]at z
    have z':t∈dE w r n k:=z
    by_cases hr:w.room=r
    ·cases hs:stp w.deed n with
     | none=>rw[fB hr hs]at z';cases z'
     | some n'=>
      rw[fB hr hs]at z'
      have:t=((k:Int),w.other,n'):=by simpa using z'
      subst this
      exact⟨k,w,Nat.lt_succ_self _,hw,hr,hs,rfl,rfl⟩
    ·rw[sQ hr]at z';cases z'
theorem tY{ws:List Way}{r n n':Int}{w:Way}{j:Nat}(hw:ws[j]?=some w)(hr:w.room=r)(hs:stp w.deed n=some n'):∀{k:Nat},j<k->((j:Int),w.other,n')∈cP ws r n k
 | 0,h=>absurd h (Nat.not_lt_zero _)
 | k+1,h=>by
  rcases Nat.lt_or_ge j k with l | l
  ·exact List.mem_append_left _ (tY hw hr hs l)
  ·have:j=k:=by omega
   subst this
   refine List.mem_append_right _ ?_
   rw[hw]
   show _∈dE w r n j
   rw[fB hr hs]
   simp
theorem Ah{ws:List Way}{T:Int}{x y:Bfs.Pl}{k:Nat}(h:bt ws T x k=some y):((k:Int),y.1,y.2)∈cP ws x.1 x.2 ws.length/\y.2<=T:=by
 obtain⟨w,hw,hr,hs,ho,ht⟩:=hV h
 rw[ho]
 exact⟨tY hw hr hs (Ee.mp hw).1,ht⟩
theorem AK{ws:List Way}{T:Int}{x y:Bfs.Pl}{k:Nat}(h:bt ws T x k=some y){t:Int×Int×Int}(ht:t∈cP ws x.1 x.2 ws.length)(hk:t.1=(k:Int)):t.2.1=y.1/\t.2.2=y.2:=by
 obtain⟨w,hw,hr,hs,ho,_⟩:=hV h
 obtain⟨j,w',_,hw',hr',hs',h1,h2⟩:=wm ht
 have:j=k:=by omega
 subst this
 rw[hw]at hw'
 cases hw'
 exact⟨h2.trans ho.symm,Option.some.inj (hs'.symm.trans hs)⟩
def uT(K:DS):Sp:=fun vs H Q _=>∃v m ws pa l U x g ks,vs=[v,.ref pa,.ref l]/\aU H v m ws/\HOuse m ws/\ax H pa x/\H l=some (.lst (bK ks))/\ks.length<=24012/\Bfs.gone (nx:=bt ws U) x ks=some g ∧
 ∀r H' zs a,Ext H H'->H' r=some (.lst (zs++[.ref a]))->ax H' a g->Q (.ref r) H'
abbrev jw:Stmt:=stq 63
theorem wC:FnScope ["_law_house","_law_place","_law_walk_here","_law_found","_law_k","_law_there"] ["_law_house","_law_place","_law_walk_here"] (aI jw):=⟨rfl,rfl,rfl,by decide +kernel,rfl,by decide +kernel,by decide +kernel⟩
theorem DD{P:Program}{w:World}{K:DS}{mg:Str->Option Value}{base:Heap}(D:Dfn K mg "_law_gone" jw ["_law_house","_law_place","_law_walk_here"])(T:Blt mg)(C__law_behind:Cal P w K mg base "_law_behind" 1 ["_law_house","_law_place"] (qb K)):Cal P w K mg base "_law_gone" 2 ["_law_house","_law_place","_law_walk_here"] (uT K):=by
 have nd:=(wC).nd
 refine D.ok wC (fun vs H Q E h=>?_) (fun X hX H vs Q E h=>?_)
 ·obtain⟨v,m,ws,pa,l,U,x,g,ks,rfl,_⟩:=h;rfl
 ·obtain⟨f,cdv,A,outer,s,H0,E0,rfl,hr⟩:=hX
  obtain⟨v,m,ws,pa,l,U,x,g,ks,rfl,hv,ok,hx,hl,hks,hgo,q⟩:=h
  refine⟨_,(aj (aG (i:=3) nd rfl (Or.inl rfl) (bJ (aa (pv 1) ae)))
    (aj (cj PassesOwn.never rfl (cz K (pv 2)) (aO (i:=4) nd rfl (Or.inr rfl)) (aj (fZ (i:=5) ["_law_way","_law_far"] [4] nd rfl (Or.inl rfl) (cz K (aH C__law_behind hr (aa (pv 0) (aa (ai (aS K) (pv 3) (dF dH af) (fun _ _=>rfl)) ae)))) (fun _=>(fj (n:=2) K rfl (bG (aO (i:=0) (show(["_law_way","_law_far","_law_k"]:List Str).Nodup from by decide +kernel) rfl (Or.inl rfl) (Or.inr rfl)) (bG (aO (i:=1) (show(["_law_way","_law_far","_law_k"]:List Str).Nodup from by decide +kernel) rfl (Or.inl rfl) (Or.inr rfl)) fi)))) (fun _=>(fh (aT bL (pv 0) (pv 2) (aP _)))) (fun _=>(pv 1)))
    (aj (bU (aT bL (bc (cH K) rfl T.len_ PySem.boot_len (aa (pv 5) ae)) af (aP _)) (av (aF gB)) bf)
    (av (bh (bE K Ed Er Es bQ (pv 3) (aa (ai (aS K) (pv 5) af (fun _ _=>rfl)) ae)))))))
    (av (aF (pv 3))))),?_⟩
  walk_at "rd"
  refine⟨ao (by simp),aq fun f H1 e1 hf hfn=>?_⟩
  walk_at "rd"
  refine cw (ag.of (e1 _ _ hl)) ?_
  refine forL (xs:=bK ks) (fun j σ H'=>∃k1 k2 y zs a,σ=[some v,some (.ref pa),some (.ref l),some (.ref f),k1,k2]/\Ext H H'/\H' f=some (.lst (zs++[.ref a]))/\zs.length=j/\ax H' a y/\Bfs.gone (nx:=bt ws U) y (ks.drop j)=some g) ⟨none,none,x,[],pa,rfl,e1,hf,rfl,e1 _ _ hx,hgo⟩ (fun j σ H' _ h=>by obtain⟨_,_,_,_,_,_,e,_⟩:=h;exact ag.of (e _ _ hl)) ?_ ?_
  ·rintro j u σ H2 hu ⟨k1,k2,y,zs,a,rfl,e2,hf2,hzs,ha,hg⟩
   rw[DY]at hu
   obtain⟨k,hk,rfl⟩:=Eh.mp hu
   have hjl:=(Ee.mp hk).1
   have hdr:ks.drop j=k::ks.drop (j+1):=by
    rw[List.drop_eq_getElem_cons hjl]
    rw[DX hjl]at hk
    cases hk
    rfl
   rw[hdr]at hg
   obtain⟨z,hz,hg⟩:=Option.bind_eq_some_iff.mp (show(bt ws U y k).bind _=some g from hg)
   have hzm:=Ah hz
   walk_at "rd"
   refine aQ (ag.of hf2) (wc _ _) ?_
   walk_at "rd"
   refine⟨v,m,ws,a,y.1,y.2,rfl,hv.ext e2,ok,ha,fun bl H3 cs e3 hbn hbl hpd=>?_⟩
   have hcl:=Paired.length hpd
   have hb100:=oi ws y.1 y.2 ws.length
   have hfew:=ok.few
   refine cw (ag.of hbl) ?_
   refine gj (xs:=cs.map V.ref) (fun i ys H'=>Ext H3 H'/\(∀u∈ys,∃d,u=.ref d/\ax H' d z)/\((∃t∈(cP ws y.1 y.2 ws.length).take i,t.1=(k:Int))->ys≠[])/\ys.length<=i) (iN (by rw[DW,hcl];omega)) ⟨Ext.rfl' _,fun u h=>(by cases h),fun h=>(by obtain⟨t,ht,_⟩:=h;simp at ht),Ep _⟩ (fun i ys H' _ h=>⟨ag.of (h.1 _ _ hbl),h.2.2.2⟩) ?_ ?_
   ·rintro i u ys H4 hu ⟨e4,hall,hne,hyl⟩
    rw[DY]at hu
    obtain⟨cc,hc,rfl⟩:=Eh.mp hu
    obtain⟨t,ht,hb⟩:=fK hpd hc
    have htm:=Ef ht
    have htk:(cP ws y.1 y.2 ws.length).take (i+1)=(cP ws y.1 y.2 ws.length).take i++[t]:=by rw[List.take_succ,ht];rfl
    obtain⟨d,hc1,hd1⟩:=hb.ext e4
    refine fI (ah.of hc1) rfl ?_
    walk_at "rd"
    rw[htk]
    by_cases hek:t.1=(k:Int)
    ·rw[decide_eq_true hek]
     refine aC ?_
     walk_at "rd"
     have:=AK hz htm hek
     refine⟨e4,fun u hu=>?_,fun _ z=>by simp at z,by rw[En];simp;omega⟩
     rcases Ew.mp hu with w1 | w1
     ·exact hall u w1
     ·refine⟨d,by simpa using w1,?_⟩
      show _=some (HO.tup [.int z.1,.int z.2])
      rw[←this.1,←this.2]
      exact hd1
    ·rw[decide_eq_false hek]
     refine aw ?_
     refine⟨e4,hall,fun h=>hne ?_,by omega⟩
     obtain⟨t',ht',hk'⟩:=h
     rcases Ew.mp ht' with z | z
     ·exact⟨t',z,hk'⟩
     ·have:t'=t:=by simpa using z
      subst this
      exact absurd hk' hek
   ·rintro ys H4 p ⟨e4,hall,hne,hyl⟩ hp
    walk_at "rd"
    have hys:ys≠[]:=hne ⟨((k:Int),z.1,z.2),by rw[List.take_of_length_le (by rw[DW,hcl];exact Ep _)];exact hzm.1,rfl⟩
    obtain⟨u,us,rfl⟩:=List.exists_cons_of_ne_nil hys
    obtain⟨d,rfl,hd⟩:=hall u Ec
    have e25:Ext H2 (upd H4 p (.lst (.ref d::us))):=(e3.trans e4).trans (bw hp)
    have hd5:ax (upd H4 p (.lst (.ref d::us))) d z:=(bw hp) _ _ hd
    have hp5:upd H4 p (.lst (.ref d::us)) p=some (.lst (.ref d::us)):=aL
    generalize upd H4 p (.lst (.ref d::us))=H5 at e25 hd5 hp5 ⊢
    refine dI (ag.of hp5) ?_
    walk_at "rd"
    rw[decide_eq_false (show ¬(((V.ref d::us).length:Nat):Int)=0 by rw[EA];omega)]
    refine aw ?_
    walk_at "rd"
    have hf5:=e25 _ _ hf2
    refine⟨bP (ag.of hf5),?_⟩
    walk_at "rd"
    refine aQ (ag.of hp5) (dX (j:=0) rfl) ?_
    walk_at "rd"
    refine bN hf5 (cA (by rw[En];simp;omega)) ?_
    walk_at "rd"
    have hdf:d≠f:=cL hd5 hf5 (by intro z;cases z)
    refine⟨_,_,z,zs++[.ref a],d,rfl,cB (e2.trans e25) hfn,by rw[aL],by rw[En,hzs];rfl,?_,hg⟩
    show upd _ _ _ _=_
    rw[az hdf]
    exact hd5
  ·rintro σ H2 ⟨k1,k2,y,zs,a,rfl,e2,hf2,hzs,ha,hg⟩
   rw[DW,List.drop_length]at hg
   cases hg
   walk_at "rd"
   exact q f H2 zs a e2 hf2 ha
theorem aE.append{H:Hp}{bs cs:List Addr}{ws us:List Way}(h:aE H bs ws)(g:aE H cs us):aE H (bs++cs) (ws++us):=by
 refine⟨by rw[En,En,h.1,g.1],fun j b w e1 e2=>?_⟩
 rcases Nat.lt_or_ge j bs.length with hj | hj
 ·rw[Ey hj]at e1
  rw[Ey (by rw[←h.1];exact hj)]at e2
  exact h.2 j b w e1 e2
 ·rw[Ex hj]at e1
  rw[Ex (by rw[←h.1];exact hj),←h.1]at e2
  exact g.2 _ b w e1 e2
def wX(K:DS):Sp:=fun vs H Q _=>∃n f b:Nat,vs=[.int (n:Int),.int (f:Int),.int (b:Int)]/\1<=n/\n<=12/\∀l bs H',Ext H H'->H' l=some (.lst (List.map V.ref bs))->aE H' bs ((List.range n).map (kB n f)++[⟨(f:Int),"stay",(b:Int),"b"⟩])->Q (.ref l) H'
abbrev kK:Stmt:=stq 67
theorem uU:FnScope ["_law_many","_law_first","_law_back"] ["_law_many","_law_first","_law_back"] (aI kK):=⟨rfl,rfl,rfl,by decide +kernel,rfl,by decide +kernel,by decide +kernel⟩
theorem Dm{P:Program}{w:World}{K:DS}{mg:Str->Option Value}{base:Heap}(D:Dfn K mg "_law_rings" kK ["_law_many","_law_first","_law_back"])(T:Blt mg):Cal P w K mg base "_law_rings" 1 ["_law_many","_law_first","_law_back"] (wX K):=by
 have nd:=(uU).nd
 refine D.ok uU (fun vs H Q E h=>?_) (fun X hX H vs Q E h=>?_)
 ·obtain⟨n,f,b,rfl,_⟩:=h;rfl
 ·obtain⟨f,cdv,A,outer,s,H0,E0,rfl,hr⟩:=hX
  obtain⟨n,f,b,rfl,n1,n12,q⟩:=h
  refine⟨_,(@av _ _ _ (@aF _ _ _ _ (aD gJ (di ["_law_k"] [1,0] (cX rfl T.range_ (@aa _ _ _ _ _ (pv 0) ae rfl)) (fun _=>(aO (i:=0) (show(["_law_k","_law_first","_law_many"]:List Str).Nodup from by decide +kernel) rfl (Or.inl rfl) (Or.inr rfl))) (fun _=>dY) (fun _=>(@aM _ _ _ _ _ (@aa _ _ _ _ _ (aD bH (pv 1) (pv 0)) (@aa _ _ _ _ _ bD (@aa _ _ _ _ _ (aD bH (pv 1) (aD cC (aD bH (pv 0) af) (pv 2))) (@aa _ _ _ _ _ bD ae rfl) rfl) rfl) rfl)))) (@bJ _ _ _ _ (@aa _ _ _ _ _ (@aM _ _ _ _ _ (@aa _ _ _ _ _ (pv 1) (@aa _ _ _ _ _ bD (@aa _ _ _ _ _ (pv 2) (@aa _ _ _ _ _ bD ae rfl) rfl) rfl) rfl)) ae rfl))))),?_⟩
  walk_at "rd"
  refine cR (by omega) ?_
  rw[Ei]
  refine ef (fun i ys H'=>Ext H H'/\∃cs:List Addr,ys=List.map V.ref cs/\aE H' cs ((List.range i).map (kB n f))) (ao (by omega)) ⟨Ext.rfl' _,[],rfl,aE.nil _⟩ (fun i ys H' _ h=>by obtain⟨_,cs,rfl,hc⟩:=h;rw[DW,hc.1,DW,List.length_range];exact Ep _) ?_ ?_
  ·rintro i ys H1 hi ⟨e1,cs,rfl,hc⟩
   rw[show (0:Int)+(i:Int)=((i:Nat):Int) by omega]
   walk_at "rd"
   refine aC ?_
   walk_at "rd"
   try refine rd_I (show(0:Int)<(n:Int) by omega) ?_
   walk_at "rd"
   refine⟨ao (by simp),aq fun v H2 e2 hv _=>?_⟩
   refine⟨e1.trans e2,cs++[v],by rw[Em];rfl,?_⟩
   rw[List.range_succ,Em]
   exact(hc.ext e2).snoc hv
  rintro ys H1 p9 ⟨e1,cs,rfl,hc⟩ hp9
  have e2:=e1.trans (bw (o:=.lst (List.map V.ref cs)) hp9)
  have hc2:=hc.ext (bw (o:=.lst (List.map V.ref cs)) hp9)
  have h9:(upd H1 p9 (.lst (List.map V.ref cs))) p9=_:=aL
  generalize upd H1 p9 (.lst (List.map V.ref cs))=H2 at e2 hc2 h9 ⊢
  have hcl:cs.length<=12:=by have:=hc2.1;rw[DW,List.length_range]at this;omega
  walk_at "rd"
  refine⟨ao (by simp),aq fun t H3 e3 ht _=>?_⟩
  walk_at "rd"
  refine⟨ao (by simp),aq fun l2 H4 e4 hl2 _=>?_⟩
  walk_at "rd"
  refine gL (e4 _ _ (e3 _ _ h9)) hl2 (ao (by rw[DW];simp;omega)) (aq fun l3 H5 e5 hl3 _=>?_)
  refine q l3 (cs++[t]) H5 (e2.trans (e3.trans (e4.trans e5))) (by rw[hl3,Em];rfl) ?_
  exact((hc2.ext e3).snoc ht).ext (e4.trans e5)
def Tk(H H':Hp):Prop:=∀b xs,H b=some (.tup xs)->H' b=some (.tup xs)
theorem Tk.trans{H H' H'':Hp}(h:Tk H H')(g:Tk H' H''):Tk H H'':=fun b xs e=>g b xs (h b xs e)
theorem Tk.of{H H':Hp}(e:Ext H H'):Tk H H':=fun b xs h=>e _ _ h
theorem Tk.put{H:Hp}{f:Addr}{xs ys:List V}(hf:H f=some (.lst xs)):Tk H (upd H f (.lst ys)):=fun b zs h=>by
 rw[az (cL h hf (by intro z;cases z))]
 exact h
theorem aU.tk{H H':Hp}{v:V}{m:Int}{ws:List Way}(e:Tk H H')(h:aU H v m ws):aU H' v m ws:=by
 obtain⟨p,q,rfl,h1,bs,h2,h3,h4⟩:=h
 exact⟨p,q,rfl,e _ _ h1,bs,e _ _ h2,h3,fun j b k e1 e2=>e _ _ (h4 j b k e1 e2)⟩
def eo(H:Hp)(v:V):Prop:=∃p hv pa ga m ws x g z,v=.ref p/\H p=some (.tup [hv,.ref pa,.ref ga,.int z])/\aU H hv m ws/\HOuse m ws/\ax H pa x/\ax H ga g/\cn m x/\cn m g/\bX ws x g z/\z<=20000
theorem eo.tk{H H':Hp}{v:V}(e:Tk H H')(h:eo H v):eo H' v:=by
 obtain⟨p,hv,pa,ga,m,ws,x,g,z,rfl,h1,h2,ok,h3,h4,h5⟩:=h
 exact⟨p,hv,pa,ga,m,ws,x,g,z,rfl,e _ _ h1,h2.tk e,ok,e _ _ h3,e _ _ h4,h5⟩
theorem ma{H:Hp}{p pa ga:Addr}{hv:V}{m:Int}{ws:List Way}{x0 x1 g0 g1 z:Int}(h1:H p=some (.tup [hv,.ref pa,.ref ga,.int z]))(h2:aU H hv m ws)(ok:HOuse m ws)(h3:H pa=some (.tup [.int x0,.int x1]))(h4:H ga=some (.tup [.int g0,.int g1]))(hb:0<=x0/\x0<m/\0<=x1/\x1<=1000/\0<=g0/\g0<m/\0<=g1/\g1<=1000/\z<=20000)(hL:bX ws (x0,x1) (g0,g1) z):eo H (.ref p):=
 ⟨p,hv,pa,ga,m,ws,(x0,x1),(g0,g1),z,rfl,h1,h2,ok,h3,h4,⟨hb.1,hb.2.1,hb.2.2.1,hb.2.2.2.1⟩,⟨hb.2.2.2.2.1,hb.2.2.2.2.2.1,hb.2.2.2.2.2.2.1,hb.2.2.2.2.2.2.2.1⟩,hL,hb.2.2.2.2.2.2.2.2⟩
structure Kn(H0 H:Hp)(f:Addr)(n:Nat)(vs:List V):Prop where
 new:H0 f=none
 ext:Ext H0 H
 at_:H f=some (.lst vs)
 all:∀u∈vs,eo H u
 len:vs.length=n
theorem Kn.step{H0 H G1 G2 G3:Hp}{f p1 p2 p3:Addr}{n:Nat}{vs:List V}{hv:V}{m:Int}{ws:List Way}{x0 x1 g0 g1 z:Int}(h:Kn H0 H f n vs)(e1:Ext H G1)(h1:G1 p1=some (.tup [.int x0,.int x1]))(e2:Ext G1 G2)(h2:G2 p2=some (.tup [.int g0,.int g1]))(e3:Ext G2 G3)(h3:G3 p3=some (.tup [hv,.ref p1,.ref p2,.int z]))(hh:aU G3 hv m ws)(ok:HOuse m ws)(hb:0<=x0/\x0<m/\0<=x1/\x1<=1000/\0<=g0/\g0<m/\0<=g1/\g1<=1000/\z<=20000)(hL:bX ws (x0,x1) (g0,g1) z):∃H',upd G3 f (.lst (vs++[.ref p3]))=H'/\Kn H0 H' f (n+1) (vs++[.ref p3])/\Tk G3 H':=by
 have e:=e1.trans (e2.trans e3)
 have hf:=e _ _ h.at_
 have tk:Tk G3 (upd G3 f (.lst (vs++[.ref p3]))):=.put hf
 refine⟨_,rfl,⟨h.new,cB (h.ext.trans e) h.new,aL,fun u hu=>?_,by rw[En,h.len];rfl⟩,tk⟩
 rcases Ew.mp hu with z | z
 ·exact((h.all u z).tk (.of e)).tk tk
 ·rw[Eg.mp z]
  exact(ma h3 hh ok (e3 _ _ (e2 _ _ h1)) (e3 _ _ h2) hb hL).tk tk
def tV(K:DS):Sp:=fun vs H Q _=>∃n m:Int,vs=[.int n,.int m]/\0<=n/\n<=1000/\0<=m/\m<=1000/\∀l vs H',Ext H H'->H' l=some (.lst vs)->(∀u∈vs,eo H' u)->vs.length=12->Q (.ref l) H'
abbrev ki:Stmt:=stq 68
theorem wR:FnScope ["_law_n","_law_m","_law_low","_law_far","_law_two","_law_hill","_law_gate","_law_rings_here","_law_found","_law_due"] ["_law_n","_law_m"] (aI ki):=⟨rfl,rfl,rfl,by decide +kernel,rfl,by decide +kernel,by decide +kernel⟩
theorem BI{P:Program}{w:World}{K:DS}{mg:Str->Option Value}{base:Heap}(D:Dfn K mg "_law_known" ki ["_law_n","_law_m"])(T:Blt mg)(C__law_rings:Cal P w K mg base "_law_rings" 1 ["_law_many","_law_first","_law_back"] (wX K)):Cal P w K mg base "_law_known" 2 ["_law_n","_law_m"] (tV K):=by
 have nd:=(wR).nd
 refine D.ok wR (fun vs H Q E h=>?_) (fun X hX H vs Q E h=>?_)
 ·obtain⟨n,m,rfl,_⟩:=h;rfl
 ·obtain⟨f,cdv,A,outer,s,H0,E0,rfl,hr⟩:=hX
  obtain⟨n,m,rfl,n0,n1,m0,m1,q⟩:=h
  refine⟨_,(@aj _ _ _ _ _ (@aG _ _ 2 _ _ _ _ nd rfl (Or.inl rfl) (bc (yF rfl) rfl T.min_ PyProof.Rows.boot_min (@aa _ _ _ _ _ (pv 0) (@aa _ _ _ _ _ (pv 1) ae rfl) rfl)) rfl (Or.inl rfl))
    (@aj _ _ _ _ _ (@aG _ _ 3 _ _ _ _ nd rfl (Or.inl rfl) (bc AY rfl T.abs_ PyProof.Rows.boot_abs (@aa _ _ _ _ _ (aD dR (pv 0) (pv 1)) ae rfl)) rfl (Or.inl rfl))
    (@aj _ _ _ _ _ (@aG _ _ 4 _ _ _ _ nd rfl (Or.inl rfl) (@LitE.pe _ _ _ (.tup (.cons .int (.cons (.tup (.cons (.tup (.cons .int (.cons .str (.cons .int (.cons .str .nil))))) (.cons (.tup (.cons .int (.cons .str (.cons .int (.cons .str .nil))))) .nil))) .nil)))) rfl (Or.inl rfl))
    (@aj _ _ _ _ _ (@aG _ _ 5 _ _ _ _ nd rfl (Or.inl rfl) (@LitE.pe _ _ _ (.tup (.cons .int (.cons (.tup (.cons (.tup (.cons .int (.cons .str (.cons .int (.cons .str .nil))))) (.cons (.tup (.cons .int (.cons .str (.cons .int (.cons .str .nil))))) (.cons (.tup (.cons .int (.cons .str (.cons .int (.cons .str .nil))))) .nil)))) .nil)))) rfl (Or.inl rfl))
    (@aj _ _ _ _ _ (@aG _ _ 6 _ _ _ _ nd rfl (Or.inl rfl) (@LitE.pe _ _ _ (.tup (.cons .int (.cons (.tup (.cons (.tup (.cons .int (.cons .str (.cons .int (.cons .str .nil))))) (.cons (.tup (.cons .int (.cons .str (.cons .int (.cons .str .nil))))) (.cons (.tup (.cons .int (.cons .str (.cons .int (.cons .str .nil))))) (.cons (.tup (.cons .int (.cons .str (.cons .int (.cons .str .nil))))) .nil))))) .nil)))) rfl (Or.inl rfl))
    (@aj _ _ _ _ _ (@aG _ _ 7 _ _ _ _ nd rfl (Or.inl rfl) (@aM _ _ _ _ _ (@aa _ _ _ _ _ af (@aa _ _ _ _ _ (gW (jI K) rfl T.tuple_ PyProof.Rows.boot_tuple (@aa _ _ _ _ _ (aD gJ (aD gJ (@bJ _ _ _ _ (@aa _ _ _ _ _ (@aM _ _ _ _ _ (@aa _ _ _ _ _ af (@aa _ _ _ _ _ bD (@aa _ _ _ _ _ af (@aa _ _ _ _ _ bD ae rfl) rfl) rfl) rfl)) (@aa _ _ _ _ _ (@aM _ _ _ _ _ (@aa _ _ _ _ _ af (@aa _ _ _ _ _ bD (@aa _ _ _ _ _ af (@aa _ _ _ _ _ bD ae rfl) rfl) rfl) rfl)) ae rfl) rfl)) (aH C__law_rings hr (@aa _ _ _ _ _ af (@aa _ _ _ _ _ af (@aa _ _ _ _ _ af ae rfl) rfl) rfl))) (aH C__law_rings hr (@aa _ _ _ _ _ af (@aa _ _ _ _ _ af (@aa _ _ _ _ _ af ae rfl) rfl) rfl))) ae rfl)) ae rfl) rfl)) rfl (Or.inl rfl))
    (@aj _ _ _ _ _ (@aG _ _ 8 _ _ _ _ nd rfl (Or.inl rfl) (@bJ _ _ _ _ (@aa _ _ _ _ _ (@aM _ _ _ _ _ (@kN _ _ _ _ _ (.tup (.cons .int (.cons (.tup (.cons (.tup (.cons .int (.cons .str (.cons .int (.cons .str .nil))))) .nil)) .nil))) (@aa _ _ _ _ _ (@aM _ _ _ _ _ (@aa _ _ _ _ _ af (@aa _ _ _ _ _ (pv 0) ae rfl) rfl)) (@aa _ _ _ _ _ (@aM _ _ _ _ _ (@aa _ _ _ _ _ af (@aa _ _ _ _ _ (pv 1) ae rfl) rfl)) (@aa _ _ _ _ _ (aD dR (pv 0) (pv 1)) ae rfl) rfl) rfl))) (@aa _ _ _ _ _ (@aM _ _ _ _ _ (@kN _ _ _ _ _ (.tup (.cons .int (.cons (.tup (.cons (.tup (.cons .int (.cons .str (.cons .int (.cons .str .nil))))) .nil)) .nil))) (@aa _ _ _ _ _ (@aM _ _ _ _ _ (@aa _ _ _ _ _ af (@aa _ _ _ _ _ (pv 0) ae rfl) rfl)) (@aa _ _ _ _ _ (@aM _ _ _ _ _ (@aa _ _ _ _ _ af (@aa _ _ _ _ _ (pv 1) ae rfl) rfl)) (@aa _ _ _ _ _ (aD dR (pv 1) (pv 0)) ae rfl) rfl) rfl))) ae rfl) rfl)) rfl (Or.inl rfl))
    (@aj _ _ _ _ _ (bh (bE K Ed Er Es bQ (pv 8) (@aa _ _ _ _ _ (@aM _ _ _ _ _ (@aa _ _ _ _ _ (pv 4) (@aa _ _ _ _ _ (@aM _ _ _ _ _ (@aa _ _ _ _ _ af (@aa _ _ _ _ _ (pv 2) ae rfl) rfl)) (@aa _ _ _ _ _ (@aM _ _ _ _ _ (@aa _ _ _ _ _ (aD cC (pv 3) af) (@aa _ _ _ _ _ (aD bH (pv 2) (pv 3)) ae rfl) rfl)) (@aa _ _ _ _ _ (pv 3) ae rfl) rfl) rfl) rfl)) ae rfl)))
    (@aj _ _ _ _ _ (bh (bE K Ed Er Es bQ (pv 8) (@aa _ _ _ _ _ (@aM _ _ _ _ _ (@aa _ _ _ _ _ (pv 4) (@aa _ _ _ _ _ (@aM _ _ _ _ _ (@aa _ _ _ _ _ af (@aa _ _ _ _ _ (pv 2) ae rfl) rfl)) (@aa _ _ _ _ _ (@aM _ _ _ _ _ (@aa _ _ _ _ _ (aD dR af (aD cC (pv 3) af)) (@aa _ _ _ _ _ (aD bH (pv 2) (pv 3)) ae rfl) rfl)) (@aa _ _ _ _ _ (dF dH af) ae rfl) rfl) rfl) rfl)) ae rfl)))
    (@aj _ _ _ _ _ (bh (bE K Ed Er Es bQ (pv 8) (@aa _ _ _ _ _ (@aM _ _ _ _ _ (@aa _ _ _ _ _ (pv 5) (@aa _ _ _ _ _ (@aM _ _ _ _ _ (@aa _ _ _ _ _ af (@aa _ _ _ _ _ (pv 0) ae rfl) rfl)) (@aa _ _ _ _ _ (@aM _ _ _ _ _ (@aa _ _ _ _ _ af (@aa _ _ _ _ _ (pv 1) ae rfl) rfl)) (@aa _ _ _ _ _ (aD bH af (pv 3)) ae rfl) rfl) rfl) rfl)) ae rfl)))
    (@aj _ _ _ _ _ (bh (bE K Ed Er Es bQ (pv 8) (@aa _ _ _ _ _ (@aM _ _ _ _ _ (@aa _ _ _ _ _ (pv 5) (@aa _ _ _ _ _ (@aM _ _ _ _ _ (@aa _ _ _ _ _ af (@aa _ _ _ _ _ (pv 0) ae rfl) rfl)) (@aa _ _ _ _ _ (@aM _ _ _ _ _ (@aa _ _ _ _ _ af (@aa _ _ _ _ _ (pv 1) ae rfl) rfl)) (@aa _ _ _ _ _ (dF dH af) ae rfl) rfl) rfl) rfl)) ae rfl)))
    (@aj _ _ _ _ _ (bh (bE K Ed Er Es bQ (pv 8) (@aa _ _ _ _ _ (@aM _ _ _ _ _ (@aa _ _ _ _ _ (pv 6) (@aa _ _ _ _ _ (@aM _ _ _ _ _ (@aa _ _ _ _ _ af (@aa _ _ _ _ _ (pv 0) ae rfl) rfl)) (@aa _ _ _ _ _ (@aM _ _ _ _ _ (@aa _ _ _ _ _ (aD bH af (aD cC (pv 1) af)) (@aa _ _ _ _ _ (pv 1) ae rfl) rfl)) (@aa _ _ _ _ _ (aD bH (aD bH (pv 0) af) (pv 1)) ae rfl) rfl) rfl) rfl)) ae rfl)))
    (@aj _ _ _ _ _ (bh (bE K Ed Er Es bQ (pv 8) (@aa _ _ _ _ _ (@aM _ _ _ _ _ (@aa _ _ _ _ _ (pv 6) (@aa _ _ _ _ _ (@aM _ _ _ _ _ (@aa _ _ _ _ _ af (@aa _ _ _ _ _ (pv 0) ae rfl) rfl)) (@aa _ _ _ _ _ (@aM _ _ _ _ _ (@aa _ _ _ _ _ (aD dR af (aD cC (pv 1) af)) (@aa _ _ _ _ _ (pv 1) ae rfl) rfl)) (@aa _ _ _ _ _ (dF dH af) ae rfl) rfl) rfl) rfl)) ae rfl)))
    (@aj _ _ _ _ _ (bh (bE K Ed Er Es bQ (pv 8) (@aa _ _ _ _ _ (@aM _ _ _ _ _ (@aa _ _ _ _ _ (pv 6) (@aa _ _ _ _ _ (@aM _ _ _ _ _ (@aa _ _ _ _ _ af (@aa _ _ _ _ _ (pv 0) ae rfl) rfl)) (@aa _ _ _ _ _ (@aM _ _ _ _ _ (@aa _ _ _ _ _ af (@aa _ _ _ _ _ (pv 1) ae rfl) rfl)) (@aa _ _ _ _ _ (dF dH af) ae rfl) rfl) rfl) rfl)) ae rfl)))
    (@aj _ _ _ _ _ (@aG _ _ 9 _ _ _ _ nd rfl (Or.inl rfl) (dF dH af) rfl (Or.inl rfl))
    (@aj _ _ _ _ _ (cO (PW.pt (dC (aT bL (aD cC (pv 3) af) af (aP _)) (dM (aT bL (aD cC (pv 3) af) af (aP _))))) (@av _ _ _ (@aG _ _ 9 _ _ _ _ nd rfl (Or.inl rfl) (aD bH (pv 3) af) rfl (Or.inl rfl))) bf)
    (@aj _ _ _ _ _ (bh (bE K Ed Er Es bQ (pv 8) (@aa _ _ _ _ _ (@aM _ _ _ _ _ (@aa _ _ _ _ _ (pv 7) (@aa _ _ _ _ _ (@aM _ _ _ _ _ (@aa _ _ _ _ _ af (@aa _ _ _ _ _ (pv 2) ae rfl) rfl)) (@aa _ _ _ _ _ (@aM _ _ _ _ _ (@aa _ _ _ _ _ af (@aa _ _ _ _ _ (aD bH (pv 2) (pv 3)) ae rfl) rfl)) (@aa _ _ _ _ _ (pv 9) ae rfl) rfl) rfl) rfl)) ae rfl)))
    (@aj _ _ _ _ _ (bh (bE K Ed Er Es bQ (pv 8) (@aa _ _ _ _ _ (@aM _ _ _ _ _ (@kN _ _ _ _ _ (.tup (.cons .int (.cons (.tup .nil) .nil))) (@aa _ _ _ _ _ (@aM _ _ _ _ _ (@aa _ _ _ _ _ af (@aa _ _ _ _ _ (pv 0) ae rfl) rfl)) (@aa _ _ _ _ _ (@aM _ _ _ _ _ (@aa _ _ _ _ _ af (@aa _ _ _ _ _ (pv 1) ae rfl) rfl)) (@aa _ _ _ _ _ (@ai _ _ _ _ _ _ _ (aS K) (@bJ _ _ _ _ (@aa _ _ _ _ _ (dF dH af) (@aa _ _ _ _ _ af ae rfl) rfl)) (gW AJ rfl T.int_ PyProof.Rows.boot_int (@aa _ _ _ _ _ (el bL (pv 0) (pv 1) (aP _)) ae rfl)) (fun _ _=>rfl)) ae rfl) rfl) rfl))) ae rfl)))
    (@av _ _ _ (@aF _ _ _ _ (aD gJ (pv 8) (@bJ _ _ _ _ (@aa _ _ _ _ _ (@aM _ _ _ _ _ (@kN _ _ _ _ _ (.tup (.cons .int (.cons (.tup .nil) .nil))) (@aa _ _ _ _ _ (@aM _ _ _ _ _ (@aa _ _ _ _ _ af (@aa _ _ _ _ _ (pv 0) ae rfl) rfl)) (@aa _ _ _ _ _ (@aM _ _ _ _ _ (@aa _ _ _ _ _ af (@aa _ _ _ _ _ (pv 0) ae rfl) rfl)) (@aa _ _ _ _ _ (dF dH af) ae rfl) rfl) rfl))) ae rfl))))))))))))))))))))))),?_⟩
  walk_at "rd"
  refine⟨_,rfl,?_⟩
  have hlf:∀low far:Int,low=(if m<n then m else n)->far=(if n-m<0 then -(n-m)else n-m)->0<=low/\low<=1000/\0<=far/\0<=low+far/\low+far<=1000:=by
   intro low far h1 h2
   split at h1<;>split at h2<;>omega
  have hlf:=hlf _ _ rfl rfl
  generalize hlow:(if m<n then m else n)=low at hlf ⊢
  generalize hfar:(if n-m<0 then -(n-m)else n-m)=far at hlf ⊢
  obtain⟨l0,l1,f0,s0,s1⟩:=hlf
  walk_at "rd"
  refine⟨ao (by simp),aq fun a1 A1 u1 k1 _=>?_⟩
  walk_at "rd"
  refine⟨ao (by simp),aq fun a2 A2 u2 k2 _=>?_⟩
  walk_at "rd"
  refine⟨ao (by simp),aq fun a3 A3 u3 k3 _=>?_⟩
  walk_at "rd"
  refine⟨ao (by simp),aq fun a4 A4 u4 k4 _=>?_⟩
  have hhC:aU A4 (.ref a4) 2 hC:=⟨a4,a3,rfl,k4,aE.ways (bs:=[a1,a2]) (((aE.nil _).snoc (u4 _ _ (u3 _ _ (u2 _ _ k1)))).snoc (u4 _ _ (u3 _ _ k2))) (u4 _ _ k3)⟩
  have x4:=u1.trans (u2.trans (u3.trans u4))
  clear k1 k2 k3 k4 u1 u2 u3 u4
  walk_at "rd"
  refine⟨ao (by simp),aq fun b1 B1 u1 k1 _=>?_⟩
  walk_at "rd"
  refine⟨ao (by simp),aq fun b2 B2 u2 k2 _=>?_⟩
  walk_at "rd"
  refine⟨ao (by simp),aq fun b3 B3 u3 k3 _=>?_⟩
  walk_at "rd"
  refine⟨ao (by simp),aq fun b4 B4 u4 k4 _=>?_⟩
  walk_at "rd"
  refine⟨ao (by simp),aq fun b5 B5 u5 k5 _=>?_⟩
  have hhD:aU B5 (.ref b5) 2 hD:=⟨b5,b4,rfl,k5,aE.ways (bs:=[b1,b2,b3]) ((((aE.nil _).snoc (u5 _ _ (u4 _ _ (u3 _ _ (u2 _ _ k1))))).snoc (u5 _ _ (u4 _ _ (u3 _ _ k2)))).snoc (u5 _ _ (u4 _ _ k3))) (u5 _ _ k4)⟩
  have y5:=u1.trans (u2.trans (u3.trans (u4.trans u5)))
  have hhC:=hhC.ext y5
  have x5:=x4.trans y5
  clear k1 k2 k3 k4 k5 u1 u2 u3 u4 u5 x4 y5
  walk_at "rd"
  refine⟨ao (by simp),aq fun c1 C1 u1 k1 _=>?_⟩
  walk_at "rd"
  refine⟨ao (by simp),aq fun c2 C2 u2 k2 _=>?_⟩
  walk_at "rd"
  refine⟨ao (by simp),aq fun c3 C3 u3 k3 _=>?_⟩
  walk_at "rd"
  refine⟨ao (by simp),aq fun c4 C4 u4 k4 _=>?_⟩
  walk_at "rd"
  refine⟨ao (by simp),aq fun c5 C5 u5 k5 _=>?_⟩
  walk_at "rd"
  refine⟨ao (by simp),aq fun c6 C6 u6 k6 _=>?_⟩
  have hhE:aU C6 (.ref c6) 3 hE:=⟨c6,c5,rfl,k6,aE.ways (bs:=[c1,c2,c3,c4]) (((((aE.nil _).snoc (u6 _ _ (u5 _ _ (u4 _ _ (u3 _ _ (u2 _ _ k1)))))).snoc (u6 _ _ (u5 _ _ (u4 _ _ (u3 _ _ k2))))).snoc (u6 _ _ (u5 _ _ (u4 _ _ k3)))).snoc (u6 _ _ (u5 _ _ k4))) (u6 _ _ k5)⟩
  have y6:=u1.trans (u2.trans (u3.trans (u4.trans (u5.trans u6))))
  have hhC:=hhC.ext y6
  have hhD:=hhD.ext y6
  have x6:=x5.trans y6
  clear k1 k2 k3 k4 k5 k6 u1 u2 u3 u4 u5 u6 x5 y6
  walk_at "rd"
  refine⟨ao (by simp),aq fun d1 D1 u1 k1 _=>?_⟩
  walk_at "rd"
  refine⟨ao (by simp),aq fun d2 D2 u2 k2 _=>?_⟩
  walk_at "rd"
  refine⟨ao (by simp),aq fun d3 D3 u3 k3 _=>?_⟩
  have al3:=((aE.nil _).snoc (w:=⟨0,"stay",1,"a"⟩) (u3 _ _ (u2 _ _ k1))).snoc (w:=⟨0,"stay",4,"a"⟩) (u3 _ _ k2)
  walk_at "rd"
  refine⟨3,1,9,rfl,by decide,by decide,fun d4 bs4 D4 u4 k4 al4=>?_⟩
  have hb4:bs4.length=4:=al4.1
  walk_at "rd"
  refine gL (u4 _ _ k3) k4 (ao (by rw[DW];simp;omega)) (aq fun d5 D5 u5 k5 _=>?_)
  walk_at "rd"
  refine⟨5,4,9,rfl,by decide,by decide,fun d6 bs6 D6 u6 k6 al6=>?_⟩
  have hb6:bs6.length=6:=al6.1
  walk_at "rd"
  refine gL (u6 _ _ k5) k6 (ao (by rw[En,DW,DW];simp;omega)) (aq fun d7 D7 u7 k7 _=>?_)
  walk_at "rd"
  refine lU (ag.of k7) (aq fun d8 D8 u8 k8 _=>?_)
  walk_at "rd"
  refine⟨ao (by simp),aq fun d9 D9 u9 k9 _=>?_⟩
  have al9:=((((al3.ext u4).append al4).ext (u5.trans u6)).append al6).ext (u7.trans (u8.trans u9))
  have hhF:aU D9 (.ref d9) 10 hF:=⟨d9,d8,rfl,k9,al9.ways (by rw[u9 _ _ k8,Em,Em];rfl)⟩
  have y9:=u1.trans (u2.trans (u3.trans (u4.trans (u5.trans (u6.trans (u7.trans (u8.trans u9)))))))
  have hhC:=hhC.ext y9
  have hhD:=hhD.ext y9
  have hhE:=hhE.ext y9
  have x9:=x6.trans y9
  clear k1 k2 k3 k4 k5 k6 k7 k8 k9 u1 u2 u3 u4 u5 u6 u7 u8 u9 x6 y9 al3 al4 al6 al9 hb4 hb6
  walk_at "rd"
  refine⟨ao (by simp),aq fun i1 I1 u1 k1 _=>?_⟩
  walk_at "rd"
  refine⟨ao (by simp),aq fun i2 I2 u2 k2 _=>?_⟩
  walk_at "rd"
  refine⟨ao (by simp),aq fun i3 I3 u3 k3 _=>?_⟩
  walk_at "rd"
  refine⟨ao (by simp),aq fun i4 I4 u4 k4 _=>?_⟩
  walk_at "rd"
  refine⟨ao (by simp),aq fun i5 I5 u5 k5 _=>?_⟩
  walk_at "rd"
  refine⟨ao (by simp),aq fun i6 I6 u6 k6 _=>?_⟩
  have hhA:aU I6 (.ref i3) 1 hA:=⟨i3,i2,rfl,u6 _ _ (u5 _ _ (u4 _ _ k3)),aE.ways (bs:=[i1]) ((aE.nil _).snoc (u6 _ _ (u5 _ _ (u4 _ _ (u3 _ _ (u2 _ _ k1)))))) (u6 _ _ (u5 _ _ (u4 _ _ (u3 _ _ k2))))⟩
  have kn1:=ma k6 hhA mU (u6 _ _ (u5 _ _ k4)) (u6 _ _ k5) ⟨by omega,by omega,by omega,by omega,by omega,by omega,by omega,by omega,by omega⟩ (B9 n0 m0)
  have y6:=u1.trans (u2.trans (u3.trans (u4.trans (u5.trans u6))))
  clear k1 k2 k3 k4 k5 k6 u1 u2 u3 u4 u5 u6 hhA
  walk_at "rd"
  refine⟨ao (by simp),aq fun j1 J1 u1 k1 _=>?_⟩
  walk_at "rd"
  refine⟨ao (by simp),aq fun j2 J2 u2 k2 _=>?_⟩
  walk_at "rd"
  refine⟨ao (by simp),aq fun j3 J3 u3 k3 _=>?_⟩
  walk_at "rd"
  refine⟨ao (by simp),aq fun j4 J4 u4 k4 _=>?_⟩
  walk_at "rd"
  refine⟨ao (by simp),aq fun j5 J5 u5 k5 _=>?_⟩
  walk_at "rd"
  refine⟨ao (by simp),aq fun j6 J6 u6 k6 _=>?_⟩
  have hhB:aU J6 (.ref j3) 1 hB:=⟨j3,j2,rfl,u6 _ _ (u5 _ _ (u4 _ _ k3)),aE.ways (bs:=[j1]) ((aE.nil _).snoc (u6 _ _ (u5 _ _ (u4 _ _ (u3 _ _ (u2 _ _ k1)))))) (u6 _ _ (u5 _ _ (u4 _ _ (u3 _ _ k2))))⟩
  have kn2:=ma k6 hhB oI (u6 _ _ (u5 _ _ k4)) (u6 _ _ k5) ⟨by omega,by omega,by omega,by omega,by omega,by omega,by omega,by omega,by omega⟩ (B0 n0 m0)
  have z6:=u1.trans (u2.trans (u3.trans (u4.trans (u5.trans u6))))
  clear k1 k2 k3 k4 k5 k6 u1 u2 u3 u4 u5 u6 hhB
  walk_at "rd"
  refine⟨ao (by simp),aq fun f L0 u1 k1 fn=>?_⟩
  have y0:=y6.trans (z6.trans u1)
  have hhC:=hhC.ext y0
  have hhD:=hhD.ext y0
  have hhE:=hhE.ext y0
  have hhF:=hhF.ext y0
  have fH:H f=none:=by
   cases y:H f with
   | none=>rfl
   | some o=>rw[(x9.trans (y6.trans z6)) _ _ y]at fn;cases fn
  have kn12:∀u∈[V.ref i6,.ref j6],eo L0 u:=fun u hu=>by
   rcases Ek.mp hu with rfl | hu
   ·exact kn1.tk (.of (z6.trans u1))
   ·rw[Eg.mp hu]
    exact kn2.tk (.of u1)
  have kn:Kn H L0 f 2 [.ref i6,.ref j6]:=⟨fH,x9.trans y0,k1,kn12,rfl⟩
  clear fH kn12 x9 y0 y6 z6 u1 k1 fn kn1 kn2
  walk_at "rd"
  refine⟨bP (ag.of kn.at_),?_⟩
  walk_at "rd"
  refine⟨ao (by simp),aq fun p1 G1 u1 k1 _=>?_⟩
  walk_at "rd"
  refine⟨ao (by simp),aq fun p2 G2 u2 k2 _=>?_⟩
  walk_at "rd"
  refine⟨ao (by simp),aq fun p3 G3 u3 k3 _=>?_⟩
  have ee:=u1.trans (u2.trans u3)
  walk_at "rd"
  refine bN (ee _ _ kn.at_) (cA (by rw[kn.len];decide)) ?_
  obtain⟨H3,q3,kn3,tk3⟩:=kn.step u1 k1 u2 k2 u3 k3 (hhC.ext ee) ij ⟨by omega,by omega,by omega,by omega,by omega,by omega,by omega,by omega,by omega⟩ (Dw f0)
  rw[q3]
  clear q3 kn k1 k2 k3 u1 u2 u3
  have tk:=Tk.trans (.of ee) tk3
  have hhC:=hhC.tk tk
  have hhD:=hhD.tk tk
  have hhE:=hhE.tk tk
  have hhF:=hhF.tk tk
  clear tk tk3 ee
  have kn:=kn3
  clear kn3
  walk_at "rd"
  refine⟨bP (ag.of kn.at_),?_⟩
  walk_at "rd"
  refine⟨ao (by simp),aq fun p1 G1 u1 k1 _=>?_⟩
  walk_at "rd"
  refine⟨ao (by simp),aq fun p2 G2 u2 k2 _=>?_⟩
  walk_at "rd"
  refine⟨ao (by simp),aq fun p3 G3 u3 k3 _=>?_⟩
  have ee:=u1.trans (u2.trans u3)
  walk_at "rd"
  refine bN (ee _ _ kn.at_) (cA (by rw[kn.len];decide)) ?_
  obtain⟨H4,q4,kn4,tk4⟩:=kn.step u1 k1 u2 k2 u3 k3 (hhC.ext ee) ij ⟨by omega,by omega,by omega,by omega,by omega,by omega,by omega,by omega,by omega⟩ yD
  rw[q4]
  clear q4 kn k1 k2 k3 u1 u2 u3
  have tk:=Tk.trans (.of ee) tk4
  have hhC:=hhC.tk tk
  have hhD:=hhD.tk tk
  have hhE:=hhE.tk tk
  have hhF:=hhF.tk tk
  clear tk tk4 ee
  have kn:=kn4
  clear kn4
  walk_at "rd"
  refine⟨bP (ag.of kn.at_),?_⟩
  walk_at "rd"
  refine⟨ao (by simp),aq fun p1 G1 u1 k1 _=>?_⟩
  walk_at "rd"
  refine⟨ao (by simp),aq fun p2 G2 u2 k2 _=>?_⟩
  walk_at "rd"
  refine⟨ao (by simp),aq fun p3 G3 u3 k3 _=>?_⟩
  have ee:=u1.trans (u2.trans u3)
  walk_at "rd"
  refine bN (ee _ _ kn.at_) (cA (by rw[kn.len];decide)) ?_
  obtain⟨H5,q5,kn5,tk5⟩:=kn.step u1 k1 u2 k2 u3 k3 (hhD.ext ee) fQ ⟨by omega,by omega,by omega,by omega,by omega,by omega,by omega,by omega,by omega⟩ (Cq n0 m0 hfar.symm)
  rw[q5]
  clear q5 kn k1 k2 k3 u1 u2 u3
  have tk:=Tk.trans (.of ee) tk5
  have hhC:=hhC.tk tk
  have hhD:=hhD.tk tk
  have hhE:=hhE.tk tk
  have hhF:=hhF.tk tk
  clear tk tk5 ee
  have kn:=kn5
  clear kn5
  walk_at "rd"
  refine⟨bP (ag.of kn.at_),?_⟩
  walk_at "rd"
  refine⟨ao (by simp),aq fun p1 G1 u1 k1 _=>?_⟩
  walk_at "rd"
  refine⟨ao (by simp),aq fun p2 G2 u2 k2 _=>?_⟩
  walk_at "rd"
  refine⟨ao (by simp),aq fun p3 G3 u3 k3 _=>?_⟩
  have ee:=u1.trans (u2.trans u3)
  walk_at "rd"
  refine bN (ee _ _ kn.at_) (cA (by rw[kn.len];decide)) ?_
  obtain⟨H6,q6,kn6,tk6⟩:=kn.step u1 k1 u2 k2 u3 k3 (hhD.ext ee) fQ ⟨by omega,by omega,by omega,by omega,by omega,by omega,by omega,by omega,by omega⟩ xQ
  rw[q6]
  clear q6 kn k1 k2 k3 u1 u2 u3
  have tk:=Tk.trans (.of ee) tk6
  have hhC:=hhC.tk tk
  have hhD:=hhD.tk tk
  have hhE:=hhE.tk tk
  have hhF:=hhF.tk tk
  clear tk tk6 ee
  have kn:=kn6
  clear kn6
  walk_at "rd"
  refine⟨bP (ag.of kn.at_),?_⟩
  walk_at "rd"
  refine⟨ao (by simp),aq fun p1 G1 u1 k1 _=>?_⟩
  walk_at "rd"
  refine⟨ao (by simp),aq fun p2 G2 u2 k2 _=>?_⟩
  walk_at "rd"
  refine⟨ao (by simp),aq fun p3 G3 u3 k3 _=>?_⟩
  have ee:=u1.trans (u2.trans u3)
  walk_at "rd"
  refine bN (ee _ _ kn.at_) (cA (by rw[kn.len];decide)) ?_
  obtain⟨H7,q7,kn7,tk7⟩:=kn.step u1 k1 u2 k2 u3 k3 (hhE.ext ee) fk ⟨by omega,by omega,by omega,by omega,by omega,by omega,by omega,by omega,by omega⟩ (CO n0 m0)
  rw[q7]
  clear q7 kn k1 k2 k3 u1 u2 u3
  have tk:=Tk.trans (.of ee) tk7
  have hhC:=hhC.tk tk
  have hhD:=hhD.tk tk
  have hhE:=hhE.tk tk
  have hhF:=hhF.tk tk
  clear tk tk7 ee
  have kn:=kn7
  clear kn7
  walk_at "rd"
  refine⟨bP (ag.of kn.at_),?_⟩
  walk_at "rd"
  refine⟨ao (by simp),aq fun p1 G1 u1 k1 _=>?_⟩
  walk_at "rd"
  refine⟨ao (by simp),aq fun p2 G2 u2 k2 _=>?_⟩
  walk_at "rd"
  refine⟨ao (by simp),aq fun p3 G3 u3 k3 _=>?_⟩
  have ee:=u1.trans (u2.trans u3)
  walk_at "rd"
  refine bN (ee _ _ kn.at_) (cA (by rw[kn.len];decide)) ?_
  obtain⟨H8,q8,kn8,tk8⟩:=kn.step u1 k1 u2 k2 u3 k3 (hhE.ext ee) fk ⟨by omega,by omega,by omega,by omega,by omega,by omega,by omega,by omega,by omega⟩ yQ
  rw[q8]
  clear q8 kn k1 k2 k3 u1 u2 u3
  have tk:=Tk.trans (.of ee) tk8
  have hhC:=hhC.tk tk
  have hhD:=hhD.tk tk
  have hhE:=hhE.tk tk
  have hhF:=hhF.tk tk
  clear tk tk8 ee
  have kn:=kn8
  clear kn8
  walk_at "rd"
  refine⟨bP (ag.of kn.at_),?_⟩
  walk_at "rd"
  refine⟨ao (by simp),aq fun p1 G1 u1 k1 _=>?_⟩
  walk_at "rd"
  refine⟨ao (by simp),aq fun p2 G2 u2 k2 _=>?_⟩
  walk_at "rd"
  refine⟨ao (by simp),aq fun p3 G3 u3 k3 _=>?_⟩
  have ee:=u1.trans (u2.trans u3)
  walk_at "rd"
  refine bN (ee _ _ kn.at_) (cA (by rw[kn.len];decide)) ?_
  obtain⟨H9,q9,kn9,tk9⟩:=kn.step u1 k1 u2 k2 u3 k3 (hhE.ext ee) fk ⟨by omega,by omega,by omega,by omega,by omega,by omega,by omega,by omega,by omega⟩ xC
  rw[q9]
  clear q9 kn k1 k2 k3 u1 u2 u3
  have tk:=Tk.trans (.of ee) tk9
  have hhC:=hhC.tk tk
  have hhD:=hhD.tk tk
  have hhE:=hhE.tk tk
  have hhF:=hhF.tk tk
  clear tk tk9 ee
  have kn:=kn9
  clear kn9
  walk_at "rd"
  generalize hσ:List.set _ 9 (some (V.int (-1)))=σ0
  have hσ':σ0=[some (.int n),some (.int m),some (.int low),some (.int far),some (.ref a4),some (.ref b5),some (.ref c6),some (.ref d9),some (.ref f),some (.int (-1))]:=hσ.symm
  subst hσ'
  clear hσ
  refine gY (fun σ H'=>∃z:Int,σ=[some (.int n),some (.int m),some (.int low),some (.int far),some (.ref a4),some (.ref b5),some (.ref c6),some (.ref d9),some (.ref f),some (.int z)]/\H'=H9/\bX hF (0,low) (9,low+far) z/\z<=20000) ?_ ?_
  ·walk_at "rd"
   by_cases h3:far % 3=0
   ·rw[decide_eq_true h3]
    refine aC (aC ?_)
    walk_at "rd"
    exact⟨_,rfl,rfl,pB f0 (.inl h3),by omega⟩
   ·rw[decide_eq_false h3]
    refine aw ?_
    walk_at "rd"
    by_cases h5:far % 5=0
    ·rw[decide_eq_true h5]
     refine aC ?_
     walk_at "rd"
     exact⟨_,rfl,rfl,pB f0 (.inr h5),by omega⟩
    ·rw[decide_eq_false h5]
     refine aw ?_
     walk_at "rd"
     exact⟨_,rfl,rfl,yf h3 h5,by omega⟩
  rintro σ HH ⟨due,rfl,rfl,hLF,hdue⟩
  walk_at "rd"
  refine⟨bP (ag.of kn.at_),?_⟩
  walk_at "rd"
  refine⟨ao (by simp),aq fun p1 G1 u1 k1 _=>?_⟩
  walk_at "rd"
  refine⟨ao (by simp),aq fun p2 G2 u2 k2 _=>?_⟩
  walk_at "rd"
  refine⟨ao (by simp),aq fun p3 G3 u3 k3 _=>?_⟩
  have ee:=u1.trans (u2.trans u3)
  walk_at "rd"
  refine bN (ee _ _ kn.at_) (cA (by rw[kn.len];decide)) ?_
  obtain⟨H10,q10,kn10,tk10⟩:=kn.step u1 k1 u2 k2 u3 k3 (hhF.ext ee) cW ⟨by omega,by omega,by omega,by omega,by omega,by omega,by omega,by omega,by omega⟩ hLF
  rw[q10]
  clear q10 kn k1 k2 k3 u1 u2 u3
  have tk:=Tk.trans (.of ee) tk10
  have hhC:=hhC.tk tk
  have hhD:=hhD.tk tk
  have hhE:=hhE.tk tk
  have hhF:=hhF.tk tk
  clear tk tk10 ee
  have kn:=kn10
  clear kn10
  walk_at "rd"
  refine⟨bP (ag.of kn.at_),?_⟩
  walk_at "rd"
  refine⟨ao (by simp),aq fun e1 E1 u1 k1 _=>?_⟩
  walk_at "rd"
  refine⟨ao (by simp),aq fun e2 E2 u2 k2 _=>?_⟩
  have hhG:aU E2 (.ref e2) 3 []:=⟨e2,e1,rfl,k2,aE.ways (bs:=[]) (aE.nil _) (u2 _ _ k1)⟩
  have kn0:Kn H E2 f 10 _:=⟨kn.new,kn.ext.trans (u1.trans u2),(u1.trans u2) _ _ kn.at_,fun u hu=>(kn.all u hu).tk (.of (u1.trans u2)),kn.len⟩
  clear kn k1 k2 u1 u2 hhC hhD hhE hhF
  have kn:=kn0
  clear kn0
  walk_at "rd"
  refine⟨ao (by simp),aq fun p1 G1 u1 k1 _=>?_⟩
  walk_at "rd"
  refine⟨ao (by simp),aq fun p2 G2 u2 k2 _=>?_⟩
  walk_at "rd"
  refine⟨ao (by simp),aq fun pl G3 u3 k3 _=>?_⟩
  walk_at "rd"
  obtain⟨z,hz,hLz,hzz⟩:∃z:Int,bA [V.int (-1),V.int 0] (if decide (n=m)=true then 1 else 0)=some (.int z)/\bX [] (1,n) (1,m) z/\z<=20000:=by
   by_cases h:n=m
   ·rw[decide_eq_true h,h]
    exact⟨0,rfl,zU,by decide⟩
   ·rw[decide_eq_false h]
    exact⟨-1,rfl,vv fun e=>h (congrArg Prod.snd e),by decide⟩
  refine aQ (ag.of k3) hz ?_
  walk_at "rd"
  refine⟨ao (by simp),aq fun p3 G4 u4 k4 _=>?_⟩
  have ee:=u1.trans (u2.trans (u3.trans u4))
  walk_at "rd"
  refine bN (ee _ _ kn.at_) (cA (by rw[kn.len];decide)) ?_
  obtain⟨H11,q11,kn11,tk11⟩:=kn.step u1 k1 u2 k2 (u3.trans u4) k4 (hhG.ext ee) tN ⟨by omega,by omega,by omega,by omega,by omega,by omega,by omega,by omega,by omega⟩ hLz
  rw[q11]
  clear q11 kn k1 k2 k3 k4 u1 u2 u3 u4 tk11 hhG ee
  walk_at "rd"
  refine⟨ao (by simp),aq fun e1 E1 u1 k1 _=>?_⟩
  walk_at "rd"
  refine⟨ao (by simp),aq fun e2 E2 u2 k2 _=>?_⟩
  walk_at "rd"
  refine⟨ao (by simp),aq fun p1 G1 u3 k3 _=>?_⟩
  walk_at "rd"
  refine⟨ao (by simp),aq fun p2 G2 u4 k4 _=>?_⟩
  walk_at "rd"
  refine⟨ao (by simp),aq fun p3 G3 u5 k5 _=>?_⟩
  walk_at "rd"
  refine⟨ao (by simp),aq fun pl G4 u6 k6 _=>?_⟩
  have hhG:aU G3 (.ref e2) 3 []:=⟨e2,e1,rfl,u5 _ _ (u4 _ _ (u3 _ _ k2)),aE.ways (bs:=[]) (aE.nil _) (u5 _ _ (u4 _ _ (u3 _ _ (u2 _ _ k1))))⟩
  have kz:=ma k5 hhG tN (u5 _ _ (u4 _ _ k3)) (u5 _ _ k4) ⟨by omega,by omega,by omega,by omega,by omega,by omega,by omega,by omega,by omega⟩ (vv fun e=>absurd (congrArg Prod.fst e) (by simp))
  have ee:=u1.trans (u2.trans (u3.trans (u4.trans (u5.trans u6))))
  have hf:=kn11.at_
  have hlen:=kn11.len
  have hall:=kn11.all
  have hext:=kn11.ext
  generalize ([V.ref i6,V.ref j6]++_:List V)=vs at hf hlen hall
  walk_at "rd"
  refine gL (ee _ _ hf) k6 (ao (by rw[hlen];simp)) (aq fun lf G5 u7 k7 _=>?_)
  refine q lf _ G5 (hext.trans (ee.trans u7)) k7 (fun u hu=>?_) (by rw[En,hlen];rfl)
  rcases Ew.mp hu with z | z
  ·exact(hall u z).tk (.of (ee.trans u7))
  ·rw[Eg.mp z]
   exact kz.tk (.of (u6.trans u7))
theorem iO{ws ds:List Int}(hl:ds.length=ws.length)(hb:∀(i:Nat) (d x:Int),ds[i]?=some d->ws[i]?=some x->0<=d/\d<x)(i:Nat){x:Int}(hx:ws[i]?=some x):∃d,bA (ds.map V.int) (i:Int)=some (.int d)/\0<=d/\d<x:=by
 have hi:i<ds.length:=by
  rw[hl]
  exact(Ee.mp hx).1
 have g:ds[i]?=some ds[i]:=DX hi
 exact⟨ds[i],dX (by rw[DY,g];rfl),hb i _ x g hx⟩
abbrev mD(x:Bfs.Pl):PyData:=.tuple [.int x.1,.int x.2]
theorem pP{H:Hp}{b:Addr}{x:Bfs.Pl}(h:ax H b x):aV H 1 (.ref b) (mD x):=
 .inr ⟨b,_,_,rfl,.inl ⟨h,rfl⟩,.cons rfl (.cons rfl .nil)⟩
theorem zW(x:Bfs.Pl):PyData.eqv (mD x) (mD x)=true:=by
 simp[PyData.eqv,PyData.eqvAll]
theorem vz{a b c:Int}(d:Int)(ha:0<=a/\a<=1000)(hb:0<=b/\b<=1000)(hc:0<=c/\c<=1000):∃z:Int,bA [V.int a,.int b,.int c] (d % 3)=some (.int z)/\0<=z/\z<=1000:=by
 rcases(show d % 3=0\/d % 3=1\/d % 3=2 by omega)with h | h | h<;>rw[h]
 ·exact⟨a,rfl,ha⟩
 ·exact⟨b,rfl,hb⟩
 ·exact⟨c,rfl,hc⟩
theorem eo.et{H H':Hp}{v:V}(e:Et H H')(h:eo H v):eo H' v:=h.tk fun b xs hb=>e _ _ hb (fun ps z=>by cases z)
theorem vo{H:Hp}{Q:VK}(z:Str)(h:Q (.bl false) H):iY (.str z) (.str z) H Q:=⟨rfl,by
 rw[show (!decide (V.str z=V.str z))=false by simp]
 exact h⟩
def kP(K:DS):Sp:=fun vs H Q _=>∃(a:Addr) (ns:List Int),vs=[.ref a]/\ag K H a (ns.map V.int)/\ns.length<=63/\(∀y∈(["kept","low_levels","risen"]:List Str),∀c T,PySem.W.tabIn K y=some (c,T)->H T=some (.tbl #[]))/\eS K/\∀H',Q (.bl true) H'
abbrev eW:Stmt:=stq 69
theorem pI:FnScope ["_law_script","_law_draws_here","_law_n","_law_m","_law_house","_law_place","_law_goal","_law_due","_law_found","_law_gone_here"] ["_law_script"] (aI eW):=⟨rfl,rfl,rfl,by decide +kernel,rfl,by decide +kernel,by decide +kernel⟩
theorem zp{P:Program}{w:World}{K:DS}{mg:Str->Option Value}{base:Heap}{f:Addr}{fd:FuncData}(F:Fun K "law" "law" eW f fd)(T:Blt mg)(C__law_known:Cal P w K mg base "_law_known" 2 ["_law_n","_law_m"] (tV K))(C__law_gone:Cal P w K mg base "_law_gone" 2 ["_law_house","_law_place","_law_walk_here"] (uT K))(C__law_walk:Cal P w K mg base "_law_walk" 2 ["_law_found","_law_most"] (wu K))(C__law_holds:Cal P w K mg base "_law_holds" 1 ["_law_stair","_law_x"] (vI K))(C_backward:Cal P w K mg base "backward" 11 ["house","goal"] (r9 K))(C_answer:Cal P w K mg base "answer" 11 ["house","place","goal"] (rd K))(C__law_draws:Cal P w K mg base "_law_draws" 2 ["_law_cell_here","_law_widths","_law_prime"] (vA K))(C__law_cell:Cal P w K mg base "_law_cell" 1 ["_law_script","_law_k"] (qF K)):FnOk P w K mg base dm 12 f fd ["_law_script"] (kP K):=by
 have nd:=(pI).nd
 refine F.ok pI (fun vs H Q E h=>?_) (fun cdv A outer s H vs Q E hr h=>?_)
 ·obtain⟨a,ns,rfl,_⟩:=h;rfl
 ·obtain⟨a,ns,rfl,ha,hl,hT,dis,q⟩:=h
  have tab0:Tbs K H:=⟨fun c T e=>.inl (hT _ (by simp) c T e),fun c T e=>.inl (hT _ (by simp) c T e),fun c T e=>.inl (hT _ (by simp) c T e)⟩
  clear hT
  refine⟨_,(@aj _ _ _ _ _ (@aG _ _ 1 _ _ _ _ nd rfl (Or.inl rfl) (aH C__law_draws hr (@aa _ _ _ _ _ (aH C__law_cell hr (@aa _ _ _ _ _ (pv 0) (@aa _ _ _ _ _ af ae rfl) rfl)) (@aa _ _ _ _ _ (@bJ _ _ _ _ (za (.c (.c (.c (.c (.c .n))))))) (@aa _ _ _ _ _ af ae rfl) rfl) rfl)) rfl (Or.inl rfl))
    (@aj _ _ _ _ _ (@aG _ _ 2 _ _ _ _ nd rfl (Or.inl rfl) (@ai _ _ _ _ _ _ _ (aS K) (pv 1) af (fun _ _=>rfl)) rfl (Or.inl rfl))
    (@aj _ _ _ _ _ (@aG _ _ 3 _ _ _ _ nd rfl (Or.inl rfl) (@ai _ _ _ _ _ _ _ (aS K) (pv 1) af (fun _ _=>rfl)) rfl (Or.inl rfl))
    (@aj _ _ _ _ _ (cO (aT bL (@ai _ _ _ _ _ _ _ (aS K) (pv 1) af (fun _ _=>rfl)) af (aP _)) (@aj _ _ _ _ _ (@aG _ _ 2 _ _ _ _ nd rfl (Or.inl rfl) (@ai _ _ _ _ _ _ _ (aS K) (pv 1) af (fun _ _=>rfl)) rfl (Or.inl rfl))
    (@av _ _ _ (@aG _ _ 3 _ _ _ _ nd rfl (Or.inl rfl) (@ai _ _ _ _ _ _ _ (aS K) (pv 1) af (fun _ _=>rfl)) rfl (Or.inl rfl)))) bf)
    (@aj _ _ _ _ _ (cO (aT bL (@ai _ _ _ _ _ _ _ (aS K) (pv 1) af (fun _ _=>rfl)) af (aP _)) (@aj _ _ _ _ _ (@aG _ _ 2 _ _ _ _ nd rfl (Or.inl rfl) (@ai _ _ _ _ _ _ _ (aS K) (@bJ _ _ _ _ (@aa _ _ _ _ _ af (@aa _ _ _ _ _ af (@aa _ _ _ _ _ af ae rfl) rfl) rfl)) (aD cC (@ai _ _ _ _ _ _ _ (aS K) (pv 1) af (fun _ _=>rfl)) af) (fun _ _=>rfl)) rfl (Or.inl rfl))
    (@av _ _ _ (@aG _ _ 3 _ _ _ _ nd rfl (Or.inl rfl) (@ai _ _ _ _ _ _ _ (aS K) (@bJ _ _ _ _ (@aa _ _ _ _ _ af (@aa _ _ _ _ _ af (@aa _ _ _ _ _ af ae rfl) rfl) rfl)) (aD cC (@ai _ _ _ _ _ _ _ (aS K) (pv 1) af (fun _ _=>rfl)) af) (fun _ _=>rfl)) rfl (Or.inl rfl)))) bf)
    (@aj _ _ _ _ _ (cj PassesOwn.never rfl (cz K (aH C__law_known hr (@aa _ _ _ _ _ (pv 2) (@aa _ _ _ _ _ (pv 3) ae rfl) rfl))) (fj (n:=4) K rfl (bG (aO (i:=4) nd rfl (Or.inl rfl)) (bG (aO (i:=5) nd rfl (Or.inl rfl)) (bG (aO (i:=6) nd rfl (Or.inl rfl)) (bG (aO (i:=7) nd rfl (Or.inl rfl)) fi))))) (@aj _ _ _ _ _ (@aG _ _ 8 _ _ _ _ nd rfl (Or.inl rfl) (aH C_answer hr (@aa _ _ _ _ _ (pv 4) (@aa _ _ _ _ _ (pv 5) (@aa _ _ _ _ _ (pv 6) ae rfl) rfl) rfl)) rfl (Or.inl rfl))
    (@aj _ _ _ _ _ (@bU _ _ _ _ _ _ _ _ (aT eY (aH C__law_holds hr (@aa _ _ _ _ _ (@ai _ _ _ _ _ _ _ (aS K) (aH C_backward hr (@aa _ _ _ _ _ (pv 4) (@aa _ _ _ _ _ (pv 6) ae rfl) rfl)) (@ai _ _ _ _ _ _ _ (aB K) (pv 5) af (fun _ _=>rfl)) (fun _ _=>rfl)) (@aa _ _ _ _ _ (@ai _ _ _ _ _ _ _ (aB K) (pv 5) af (fun _ _=>rfl)) ae rfl) rfl)) (el vy (pv 7) af (aP _)) (aP _)) (@av _ _ _ (@aF _ _ _ _ bR)) bf)
    (@av _ _ _ (cO (aT fM (pv 7) af (aP _)) (@av _ _ _ (@bU _ _ _ _ _ _ _ _ (aT eY (@ai _ _ _ _ _ _ _ (aB K) (pv 8) af (fun _ _=>rfl)) bD (aP _)) (@av _ _ _ (@aF _ _ _ _ bR)) bf)) (@aj _ _ _ _ _ (@bU _ _ _ _ _ _ _ _ (PW.pt (dC (aT eY (@ai _ _ _ _ _ _ _ (aB K) (pv 8) af (fun _ _=>rfl)) bD (aP _)) (dC (eU (b9 (aH C__law_walk hr (@aa _ _ _ _ _ (@ai _ _ _ _ _ _ _ (aB K) (pv 8) af (fun _ _=>rfl)) (@aa _ _ _ _ _ af ae rfl) rfl)))) (dM (aT eY (bc (cH K) rfl T.len_ PySem.boot_len (@aa _ _ _ _ _ (@ai _ _ _ _ _ _ _ (aB K) (pv 8) af (fun _ _=>rfl)) ae rfl)) (pv 7) (aP _)))))) (@av _ _ _ (@aF _ _ _ _ bR)) bf)
    (@aj _ _ _ _ _ (@aG _ _ 9 _ _ _ _ nd rfl (Or.inl rfl) (aH C__law_gone hr (@aa _ _ _ _ _ (pv 4) (@aa _ _ _ _ _ (pv 5) (@aa _ _ _ _ _ (@ai _ _ _ _ _ _ _ (aB K) (pv 8) af (fun _ _=>rfl)) ae rfl) rfl) rfl)) rfl (Or.inl rfl))
    (@av _ _ _ (@bU _ _ _ _ _ _ _ _ (PW.pt (dC (aT rf (pv 9) gB (aP _)) (dM (aT (vt hr) (@ai _ _ _ _ _ _ _ (aS K) (pv 9) (dF dH af) (fun _ _=>rfl)) (pv 6) (aP _))))) (@av _ _ _ (@aF _ _ _ _ bR)) bf)))))))))
    (@av _ _ _ (@aF _ _ _ _ bR)))))))),?_⟩
  walk_at "rd"
  refine⟨a,ns,0,rfl,ha,hl,by decide,fun z=>?_⟩
  walk_at "rd"
  refine⟨ao (by simp),aq fun w0 H1 e1 hw0 _=>?_⟩
  walk_at "rd"
  refine⟨z,w0,[3,1001,1001,13,13],_,rfl,hw0,by decide,by decide,by decide,fun dq ds H2 e2 hd hdn hdl hb=>?_⟩
  obtain⟨d0,g0,b00,b01⟩:=iO hdl hb 0 rfl
  obtain⟨d1,g1,b10,b11⟩:=iO hdl hb 1 rfl
  obtain⟨d2,g2,b20,b21⟩:=iO hdl hb 2 rfl
  obtain⟨d3,g3,b30,b31⟩:=iO hdl hb 3 rfl
  obtain⟨d4,g4,b40,b41⟩:=iO hdl hb 4 rfl
  have tb2:=tab0.ext (e1.trans e2)
  clear hw0 hdn hdl hb tab0 e1 e2 ha
  walk_at "rd"
  refine aQ (ag.of hd) g1 ?_
  walk_at "rd"
  refine aQ (ag.of hd) g2 ?_
  walk_at "rd"
  refine gY (fun σ H'=>∃n m:Int,σ=[some (.ref a),some (.ref dq),some (.int n),some (.int m),none,none,none,none,none,none]/\H'=H2/\0<=n/\n<=1000/\0<=m/\m<=1000) ?_ ?_
  ·walk_at "rd"
   refine aQ (ag.of hd) g0 ?_
   walk_at "rd"
   by_cases h0:d0=0
   ·rw[decide_eq_true h0]
    refine aC ?_
    walk_at "rd"
    refine aQ (ag.of hd) g3 ?_
    walk_at "rd"
    refine aQ (ag.of hd) g4 ?_
    walk_at "rd"
    exact⟨d3,d4,rfl,rfl,by omega,by omega,by omega,by omega⟩
   ·rw[decide_eq_false h0]
    refine aw ?_
    walk_at "rd"
    exact⟨d1,d2,rfl,rfl,by omega,by omega,by omega,by omega⟩
  rintro σ H3 ⟨n,m,rfl,rfl,hn0,hn1,hm0,hm1⟩
  walk_at "rd"
  refine gY (fun σ H'=>∃n m:Int,σ=[some (.ref a),some (.ref dq),some (.int n),some (.int m),none,none,none,none,none,none]/\Ext H3 H'/\0<=n/\n<=1000/\0<=m/\m<=1000) ?_ ?_
  ·walk_at "rd"
   refine aQ (ag.of hd) g0 ?_
   walk_at "rd"
   by_cases h0:d0=1
   ·rw[decide_eq_true h0]
    refine aC ?_
    walk_at "rd"
    refine⟨ao (by simp),aq fun w1 H4 e4 hw1 _=>?_⟩
    walk_at "rd"
    refine aQ (ag.of (e4 _ _ hd)) g3 ?_
    try refine rd_I (show(0:Int)<3 by decide) ?_
    walk_at "rd"
    obtain⟨n',hn',hn0',hn1'⟩:=vz (a:=0) (b:=1000) (c:=999) d3 (by decide) (by decide) (by decide)
    refine aQ (ag.of hw1) hn' ?_
    walk_at "rd"
    refine⟨ao (by simp),aq fun w2 H5 e5 hw2 _=>?_⟩
    walk_at "rd"
    refine aQ (ag.of (e5 _ _ (e4 _ _ hd))) g4 ?_
    try refine rd_I (show(0:Int)<3 by decide) ?_
    walk_at "rd"
    obtain⟨m',hm',hm0',hm1'⟩:=vz (a:=0) (b:=1000) (c:=1) d4 (by decide) (by decide) (by decide)
    refine aQ (ag.of hw2) hm' ?_
    walk_at "rd"
    exact⟨n',m',rfl,e4.trans e5,hn0',hn1',hm0',hm1'⟩
   ·rw[decide_eq_false h0]
    refine aw ?_
    walk_at "rd"
    exact⟨n,m,rfl,Ext.rfl' _,hn0,hn1,hm0,hm1⟩
  clear hn0 hn1 hm0 hm1 n m
  rintro σ H4 ⟨n,m,rfl,e4,hn0,hn1,hm0,hm1⟩
  have tb4:=tb2.ext e4
  clear tb2 e4 hd g0 g1 g2 g3 g4 b00 b01 b10 b11 b20 b21 b30 b31 b40 b41
  walk_at "rd"
  refine⟨n,m,rfl,hn0,hn1,hm0,hm1,fun l vs H5 e5 hl5 hall hlen=>?_⟩
  have tb5:=tb4.ext e5
  walk_at "rd"
  refine cw (ag.of hl5) ?_
  refine forL (xs:=vs) (fun i σ H'=>∃k1 k2 k3 k4 k5 k6,σ=[some (.ref a),some (.ref dq),some (.int n),some (.int m),k1,k2,k3,k4,k5,k6]/\Et H5 H'/\Tbs K H') ⟨_,_,_,_,_,_,rfl,Et.rfl' _,tb5⟩ (fun i σ H' _ h=>by obtain⟨_,_,_,_,_,_,_,e,_⟩:=h;exact ag.of (e _ _ hl5 (fun ps z=>by cases z))) ?_ ?_
  ·rintro i u σ H6 hu ⟨k1,k2,k3,k4,k5,k6,rfl,e6,tb6⟩
   obtain⟨p,hv,pa,ga,mm,ws,x,g,zz,rfl,hp,hh,ok,hx,hg,ix,ig,hL,hz⟩:=(hall u (Ef hu)).et e6
   refine fI (ah.of hp) rfl ?_
   walk_at "rd"
   have hLr:bp ws x g↔0<=zz:=by
    rcases hL with⟨h1,h2⟩ | ⟨n,rfl,h1,h2⟩
    ·exact⟨fun h=>absurd h h2,fun h=>by omega⟩
    ·exact⟨fun _=>by omega,fun _=>⟨n,h1⟩⟩
   refine⟨hv,mm,ws,pa,ga,x,g,rfl,hh,ok,hx,hg,ix,ig,dis,tb6,fun nn pf wl ks H7 hD hn e7 tb7 hpf hwl hks hgo=>?_,fun hno pf u H7 e7 tb7 hpf=>?_⟩
   ·have hz0:0<=zz:=hLr.mp ((uf ok ix).mpr ⟨nn,hD⟩)
    have hnz:zz=(nn:Int):=by
     rcases hL with⟨h1,h2⟩ | ⟨n,rfl,h1,h2⟩
     ·omega
     ·rw[yB ok ix hD h1 h2]
    have hh7:=hh.et e7
    have hx7:=ax.et e7 hx
    have hg7:=ax.et e7 hg
    walk_at "rd"
    refine⟨hv,mm,ws,ga,g,rfl,hh7,ok,hg7,ig,dis,tb7,fun lb ys H8 e8 tb8 hlb fw=>?_⟩
    have hh8:=hh7.et e8
    have hx8:=ax.et e8 hx7
    have hg8:=ax.et e8 hg7
    have hpf8:=e8 _ _ hpf (fun ps z=>by cases z)
    have hwl8:=e8 _ _ hwl (fun ps z=>by cases z)
    obtain⟨v1,b1,s1,o1,a1,hv1,st1,gx1,f1⟩:=fw.hold ix.1 ix.2.1
    walk_at "rd"
    refine aA (ah.of hx8) (v:=.int x.1) rfl ?_
    walk_at "rd"
    refine aQ (ag.of hlb) hv1 ?_
    walk_at "rd"
    refine aA (ah.of hx8) (v:=.int x.2) rfl ?_
    walk_at "rd"
    refine⟨v1,x.2,b1,s1,o1,a1,rfl,st1,gx1.ok,?_⟩
    rw[show mem b1 s1 o1 a1 x.2=true from(f1 x.2 ix.2.2.1).mpr ((sx ok ix.2.2.1 ig.2.2.1).mpr (hLr.mpr hz0))]
    walk_at "rd"
    rw[decide_eq_true hz0]
    refine aw ?_
    walk_at "rd"
    refine gY (fun σ H'=>∃k1 k2 k3 k4 k5 k6,σ=[some (.ref a),some (.ref dq),some (.int n),some (.int m),k1,k2,k3,k4,k5,k6]/\Et H5 H'/\Tbs K H') ?_ (fun _ _ h=>h)
    walk_at "rd"
    rw[decide_eq_false (show ¬zz<0 by omega)]
    refine aw ?_
    walk_at "rd"
    refine aA (ah.of hpf8) (v:=.str "walk") rfl ?_
    walk_at "rd"
    refine vo _ ⟨_,rfl,aw ?_⟩
    walk_at "rd"
    refine aA (ah.of hpf8) (v:=.ref wl) rfl ?_
    walk_at "rd"
    refine⟨wl,_,ks,rfl,hwl8,by omega,by omega,fun H9 e9=>?_⟩
    refine rd_exb (aw ?_)
    walk_at "rd"
    refine aA (ah.of (e9 _ _ hpf8)) (v:=.ref wl) rfl ?_
    walk_at "rd"
    refine dI (ag.of (e9 _ _ hwl8)) ?_
    walk_at "rd"
    rw[decide_eq_true (show(((bK ks).length:Nat):Int)=zz by rw[DW];omega)]
    refine aw ?_
    walk_at "rd"
    refine aA (ah.of (e9 _ _ hpf8)) (v:=.ref wl) rfl ?_
    walk_at "rd"
    refine⟨hv,mm,ws,pa,wl,bW mm x g,x,g,ks,rfl,hh8.ext e9,ok,e9 _ _ hx8,e9 _ _ hwl8,by omega,hgo,fun rl H10 zs b e10 hr hb=>?_⟩
    walk_at "rd"
    refine⟨rfl,?_⟩
    refine rd_exb (aw ?_)
    walk_at "rd"
    refine aQ (ag.of hr) (wc _ _) ?_
    walk_at "rd"
    refine⟨1,1,_,_,pP hb,pP ((e9.trans e10) _ _ hg8),by decide,?_⟩
    rw[zW]
    refine rd_exb (aw ?_)
    walk_at "rd"
    exact⟨_,_,_,_,_,_,rfl,e6.trans (e7.trans (e8.trans (e9.trans e10).et)),tb8.ext (e9.trans e10)⟩
   ·have hz0:¬0<=zz:=fun h=>hno (hLr.mpr h)
    have hh7:=hh.et e7
    have hx7:=ax.et e7 hx
    have hg7:=ax.et e7 hg
    walk_at "rd"
    refine⟨hv,mm,ws,ga,g,rfl,hh7,ok,hg7,ig,dis,tb7,fun lb ys H8 e8 tb8 hlb fw=>?_⟩
    have hx8:=ax.et e8 hx7
    have hpf8:=e8 _ _ hpf (fun ps z=>by cases z)
    obtain⟨v1,b1,s1,o1,a1,hv1,st1,gx1,f1⟩:=fw.hold ix.1 ix.2.1
    walk_at "rd"
    refine aA (ah.of hx8) (v:=.int x.1) rfl ?_
    walk_at "rd"
    refine aQ (ag.of hlb) hv1 ?_
    walk_at "rd"
    refine aA (ah.of hx8) (v:=.int x.2) rfl ?_
    walk_at "rd"
    refine⟨v1,x.2,b1,s1,o1,a1,rfl,st1,gx1.ok,?_⟩
    rw[show mem b1 s1 o1 a1 x.2=false from Bool.eq_false_iff.mpr fun h=>hno ((sx ok ix.2.2.1 ig.2.2.1).mp ((f1 x.2 ix.2.2.1).mp h))]
    walk_at "rd"
    rw[decide_eq_false hz0]
    refine aw ?_
    walk_at "rd"
    refine gY (fun σ H'=>∃k1 k2 k3 k4 k5 k6,σ=[some (.ref a),some (.ref dq),some (.int n),some (.int m),k1,k2,k3,k4,k5,k6]/\Et H5 H'/\Tbs K H') ?_ (fun _ _ h=>h)
    walk_at "rd"
    rw[decide_eq_true (show zz<0 by omega)]
    refine aC ?_
    walk_at "rd"
    refine aA (ah.of hpf8) (v:=.str "never") rfl ?_
    walk_at "rd"
    refine vo _ ⟨_,rfl,aw ?_⟩
    walk_at "rd"
    exact⟨_,_,_,_,_,_,rfl,e6.trans (e7.trans e8),tb8⟩
  rintro σ H6 ⟨k1,k2,k3,k4,k5,k6,rfl,e6,tb6⟩
  walk_at "rd"
  exact q _
abbrev Dq(K:DS)(mg:Str->Option Value)(x:Str)(st:Stmt):Prop:=∃(f:Addr) (fd:FuncData),mg x=some (.ref f)/\Fun K x x st f fd
theorem dq{K:DS}{h:Heap}{mg:Str->Option Value}(X:K.In h)(G:h.Ns mainGlobals mg){x:Str}{st:Stmt}{f:Addr}{od an:Option Addr}{sl:Array (Option Value)}{oc kV dc pm cd ct:Value}(a:PySem.W.nsIn K mainGlobals x=some (some (.ref f)))(l:K.lookup f=some ⟨oc,od,.func (PySem.W.fnOf x x (gn st) (eh st) (aI st) .none kV dc pm an cd ct),sl⟩)(c:PySem.W.codeIn K cd x=true)(k:PySem.W.keepIn K (.ref f)=true):Dq K mg x st:=⟨f,_,PySem.W.mg_of X G a,uO (st:=st) l c k⟩
theorem all_mk{l:PySem.W.OpenLaw}{w:World}{K:DS}{h:Heap}{mg:Str->Option Value}{fa:Addr}(X:K.In h)(G:h.Ns mainGlobals mg)(hfa:mg "law" = some (.ref fa))
  (d0:Dq K mg "_law_rings" kK)
  (d1:Dq K mg "_law_known" ki)
  (d2:Dq K mg "_law_behind" jE)
  (d3:Dq K mg "_law_gone" jw)
  (d4:Dq K mg "_law_whole" lD)
  (d5:Dq K mg "_law_walk" kq)
  (d6:Dq K mg "_law_holds" kM)
  (d7:Dq K mg "least_step" jA)
  (d8:Dq K mg "stair_of_marks" lJ)
  (d9:Dq K mg "stair_of_room" kR)
  (d10:Dq K mg "next_level" jy)
  (d11:Dq K mg "reached" jH)
  (d12:Dq K mg "told_pairs" jQ)
  (d13:Dq K mg "add_arches" kC)
  (d14:Dq K mg "join_walks" jJ)
  (d15:Dq K mg "ways_of_deed" kg)
  (d16:Dq K mg "beginning_table" jx)
  (d17:Dq K mg "kept_table" jr)
  (d18:Dq K mg "is_sign" jT)
  (d19:Dq K mg "is_deed" jk)
  (d20:Dq K mg "is_whole" jj)
  (d21:Dq K mg "is_room" lE)
  (d22:Dq K mg "is_way" lF)
  (d23:Dq K mg "are_ways" kS)
  (d24:Dq K mg "is_house" jP)
  (d25:Dq K mg "refuse_no_house" lB)
  (d26:Dq K mg "kept" kh)
  (d27:Dq K mg "ways_by_room" ly)
  (d28:Dq K mg "is_open" jX)
  (d29:Dq K mg "raised_by" lg)
  (d30:Dq K mg "led_to" lO)
  (d31:Dq K mg "led_to_from" lC)
  (d32:Dq K mg "low_beside" jz)
  (d33:Dq K mg "low_levels" kL)
  (d34:Dq K mg "risen" kG)
  (d35:Dq K mg "all_levels" lY)
  (d36:Dq K mg "refuse_bad_places" kQ)
  (d37:Dq K mg "forward" lG)
  (d38:Dq K mg "turned_way" ko)
  (d39:Dq K mg "turned_about" kr)
  (d40:Dq K mg "backward" lQ)
  (d41:Dq K mg "walk_back" lL)
  (d42:Dq K mg "counts_by_room" kT)
  (d43:Dq K mg "greatest_met" lh)
  (d44:Dq K mg "found_from" lX)
  (d45:Dq K mg "sought_walk" lR)
  (d46:Dq K mg "shortest" lZ)
  (d47:Dq K mg "answer" jS)
  (d48:Dq K mg "_law_mixed" lA)
  (d49:Dq K mg "_law_draws" jN)
  (d50:Dq K mg "_law_cell" jq)
  {f51:Addr} {od51 an51:Option Addr} {sl51:Array (Option Value)} {oc51 kV51 dc51 pm51 cd51 ct51:Value} (a51:PySem.W.nsIn K mainGlobals "law" = some (some (.ref f51))) (l51:K.lookup f51=some ⟨oc51,od51,.func (PySem.W.fnOf "law" "law" (gn eW) (eh eW) (aI eW) .none kV51 dc51 pm51 an51 cd51 ct51),sl51⟩) (c51:PySem.W.codeIn K cd51 "law" = true) (k51:PySem.W.keepIn K (.ref f51)=true)
  (z0:PySem.W.nsIn K mainGlobals "len" = some none)
  (z1:PySem.W.nsIn K mainGlobals "isinstance" = some none)
  (z2:PySem.W.nsIn K mainGlobals "tuple" = some none)
  (z3:PySem.W.nsIn K mainGlobals "list" = some none)
  (z4:PySem.W.nsIn K mainGlobals "int" = some none)
  (z5:PySem.W.nsIn K mainGlobals "bool" = some none)
  (z6:PySem.W.nsIn K mainGlobals "range" = some none)
  (z7:PySem.W.nsIn K mainGlobals "zip" = some none)
  (z8:PySem.W.nsIn K mainGlobals "max" = some none)
  (z9:PySem.W.nsIn K mainGlobals "min" = some none)
  (z10:PySem.W.nsIn K mainGlobals "abs" = some none)
  (z11:PySem.W.nsIn K mainGlobals "all" = some none)
  (z12:PySem.W.nsIn K mainGlobals "enumerate" = some none)
  (z13:PySem.W.nsIn K mainGlobals "set" = some none)
  (z14:PySem.W.nsIn K mainGlobals "str" = some none)
  (z15:PySem.W.nsIn K mainGlobals "reversed" = some none)
  (z16:PySem.W.nsIn K mainGlobals "any" = some none)
  {t0:Tok} (v0:PySem.W.nsIn K mainGlobals "GREATEST_WAYS" = some (some (.int 100 t0)))
  {t1:Tok} (v1:PySem.W.nsIn K mainGlobals "GREATEST_MANY" = some (some (.int 12 t1)))
  {t2:Tok} (v2:PySem.W.nsIn K mainGlobals "GREATEST_NUMBER" = some (some (.int 1000 t2)))
  {e0:Addr} {q0_0 u0_0 q0_1 u0_1 q0_2 u0_2 q0_3 u0_3:Tok} {ep0:Nat} (x0:PySem.W.nsIn K mainGlobals "TURNED" = some (some (.ref e0))) (y0:K.lookup e0=some (gK w [("up",q0_0,.str "down" u0_0),("down",q0_1,.str "up" u0_1),("stay",q0_2,.str "stay" u0_2),("zero",q0_3,.str "zero" u0_3)] ep0)) (w0:(e0 == sysModules)=false)
  {e1:Addr} {q1_0 u1_0 q1_1 u1_1 q1_2 u1_2 q1_3 u1_3:Tok} {ep1:Nat} (x1:PySem.W.nsIn K mainGlobals "RAISED" = some (some (.ref e1))) (y1:K.lookup e1=some (gK w [("up",q1_0,.int (1) u1_0),("down",q1_1,.int (-1) u1_1),("stay",q1_2,.int (0) u1_2),("zero",q1_3,.int (0) u1_3)] ep1)) (w1:(e1 == sysModules)=false)
  : ∃fd:FuncData,(∀(s:Shared) (v:Value),BindsTo s fd ⟨[v],[]⟩ [("_law_script",v)])/\∀base:Heap,K.In base->base.Ns mainGlobals mg->(∀y∈(["kept","low_levels","risen"]:List Str),∃c T,Tab K mg base y c T)->FnOk l.prog w K mg base dm 12 fa fd ["_law_script"] (kP K):=by
 have e:=hfa.symm.trans (PySem.W.mg_of X G a51)
 cases e
 have T:Blt mg:=⟨PySem.W.mg_none_of X G z0,PySem.W.mg_none_of X G z1,PySem.W.mg_none_of X G z2,PySem.W.mg_none_of X G z3,PySem.W.mg_none_of X G z4,PySem.W.mg_none_of X G z5,PySem.W.mg_none_of X G z6,PySem.W.mg_none_of X G z7,PySem.W.mg_none_of X G z8,PySem.W.mg_none_of X G z9,PySem.W.mg_none_of X G z10,PySem.W.mg_none_of X G z11,PySem.W.mg_none_of X G z12,PySem.W.mg_none_of X G z13,PySem.W.mg_none_of X G z14,PySem.W.mg_none_of X G z15,PySem.W.mg_none_of X G z16⟩
 have D0:Dfn K mg "_law_rings" kK ["_law_many","_law_first","_law_back"]:=let ⟨f,fd,a,F⟩:=d0;⟨f,fd,a,F,F.binds (ps:=["_law_many","_law_first","_law_back"]) fun _ _ _ _ _ _ us hl=>match us,hl with | [_,_,_],_=>rfl⟩
 have D1:Dfn K mg "_law_known" ki ["_law_n","_law_m"]:=let ⟨f,fd,a,F⟩:=d1;⟨f,fd,a,F,F.binds (ps:=["_law_n","_law_m"]) fun _ _ _ _ _ _ us hl=>match us,hl with | [_,_],_=>rfl⟩
 have D2:Dfn K mg "_law_behind" jE ["_law_house","_law_place"]:=let ⟨f,fd,a,F⟩:=d2;⟨f,fd,a,F,F.binds (ps:=["_law_house","_law_place"]) fun _ _ _ _ _ _ us hl=>match us,hl with | [_,_],_=>rfl⟩
 have D3:Dfn K mg "_law_gone" jw ["_law_house","_law_place","_law_walk_here"]:=let ⟨f,fd,a,F⟩:=d3;⟨f,fd,a,F,F.binds (ps:=["_law_house","_law_place","_law_walk_here"]) fun _ _ _ _ _ _ us hl=>match us,hl with | [_,_,_],_=>rfl⟩
 have D4:Dfn K mg "_law_whole" lD ["_law_found"]:=let ⟨f,fd,a,F⟩:=d4;⟨f,fd,a,F,F.binds (ps:=["_law_found"]) fun _ _ _ _ _ _ us hl=>match us,hl with | [_],_=>rfl⟩
 have D5:Dfn K mg "_law_walk" kq ["_law_found","_law_most"]:=let ⟨f,fd,a,F⟩:=d5;⟨f,fd,a,F,F.binds (ps:=["_law_found","_law_most"]) fun _ _ _ _ _ _ us hl=>match us,hl with | [_,_],_=>rfl⟩
 have D6:Dfn K mg "_law_holds" kM ["_law_stair","_law_x"]:=let ⟨f,fd,a,F⟩:=d6;⟨f,fd,a,F,F.binds (ps:=["_law_stair","_law_x"]) fun _ _ _ _ _ _ us hl=>match us,hl with | [_,_],_=>rfl⟩
 have D7:Dfn K mg "least_step" jA ["turn"]:=let ⟨f,fd,a,F⟩:=d7;⟨f,fd,a,F,F.binds (ps:=["turn"]) fun _ _ _ _ _ _ us hl=>match us,hl with | [_],_=>rfl⟩
 have D8:Dfn K mg "stair_of_marks" lJ ["marks","base"]:=let ⟨f,fd,a,F⟩:=d8;⟨f,fd,a,F,F.binds (ps:=["marks","base"]) fun _ _ _ _ _ _ us hl=>match us,hl with | [_,_],_=>rfl⟩
 have D9:Dfn K mg "stair_of_room" kR ["levels","base","room"]:=let ⟨f,fd,a,F⟩:=d9;⟨f,fd,a,F,F.binds (ps:=["levels","base","room"]) fun _ _ _ _ _ _ us hl=>match us,hl with | [_,_,_],_=>rfl⟩
 have D10:Dfn K mg "next_level" jy ["rises","level"]:=let ⟨f,fd,a,F⟩:=d10;⟨f,fd,a,F,F.binds (ps:=["rises","level"]) fun _ _ _ _ _ _ us hl=>match us,hl with | [_,_],_=>rfl⟩
 have D11:Dfn K mg "reached" jH ["place","beside"]:=let ⟨f,fd,a,F⟩:=d11;⟨f,fd,a,F,F.binds (ps:=["place","beside"]) fun _ _ _ _ _ _ us hl=>match us,hl with | [_,_],_=>rfl⟩
 have D12:Dfn K mg "told_pairs" jQ ["house","choice"]:=let ⟨f,fd,a,F⟩:=d12;⟨f,fd,a,F,F.binds (ps:=["house","choice"]) fun _ _ _ _ _ _ us hl=>match us,hl with | [_,_],_=>rfl⟩
 have D13:Dfn K mg "add_arches" kC ["table","ups","downs"]:=let ⟨f,fd,a,F⟩:=d13;⟨f,fd,a,F,F.binds (ps:=["table","ups","downs"]) fun _ _ _ _ _ _ us hl=>match us,hl with | [_,_,_],_=>rfl⟩
 have D14:Dfn K mg "join_walks" jJ ["table"]:=let ⟨f,fd,a,F⟩:=d14;⟨f,fd,a,F,F.binds (ps:=["table"]) fun _ _ _ _ _ _ us hl=>match us,hl with | [_],_=>rfl⟩
 have D15:Dfn K mg "ways_of_deed" kg ["house","deed"]:=let ⟨f,fd,a,F⟩:=d15;⟨f,fd,a,F,F.binds (ps:=["house","deed"]) fun _ _ _ _ _ _ us hl=>match us,hl with | [_,_],_=>rfl⟩
 have D16:Dfn K mg "beginning_table" jx ["house"]:=let ⟨f,fd,a,F⟩:=d16;⟨f,fd,a,F,F.binds (ps:=["house"]) fun _ _ _ _ _ _ us hl=>match us,hl with | [_],_=>rfl⟩
 have D17:Dfn K mg "kept_table" jr ["house"]:=let ⟨f,fd,a,F⟩:=d17;⟨f,fd,a,F,F.binds (ps:=["house"]) fun _ _ _ _ _ _ us hl=>match us,hl with | [_],_=>rfl⟩
 have D18:Dfn K mg "is_sign" jT ["thing"]:=let ⟨f,fd,a,F⟩:=d18;⟨f,fd,a,F,F.binds (ps:=["thing"]) fun _ _ _ _ _ _ us hl=>match us,hl with | [_],_=>rfl⟩
 have D19:Dfn K mg "is_deed" jk ["thing"]:=let ⟨f,fd,a,F⟩:=d19;⟨f,fd,a,F,F.binds (ps:=["thing"]) fun _ _ _ _ _ _ us hl=>match us,hl with | [_],_=>rfl⟩
 have D20:Dfn K mg "is_whole" jj ["thing"]:=let ⟨f,fd,a,F⟩:=d20;⟨f,fd,a,F,F.binds (ps:=["thing"]) fun _ _ _ _ _ _ us hl=>match us,hl with | [_],_=>rfl⟩
 have D21:Dfn K mg "is_room" lE ["thing","many"]:=let ⟨f,fd,a,F⟩:=d21;⟨f,fd,a,F,F.binds (ps:=["thing","many"]) fun _ _ _ _ _ _ us hl=>match us,hl with | [_,_],_=>rfl⟩
 have D22:Dfn K mg "is_way" lF ["thing","many"]:=let ⟨f,fd,a,F⟩:=d22;⟨f,fd,a,F,F.binds (ps:=["thing","many"]) fun _ _ _ _ _ _ us hl=>match us,hl with | [_,_],_=>rfl⟩
 have D23:Dfn K mg "are_ways" kS ["thing","many"]:=let ⟨f,fd,a,F⟩:=d23;⟨f,fd,a,F,F.binds (ps:=["thing","many"]) fun _ _ _ _ _ _ us hl=>match us,hl with | [_,_],_=>rfl⟩
 have D24:Dfn K mg "is_house" jP ["thing"]:=let ⟨f,fd,a,F⟩:=d24;⟨f,fd,a,F,F.binds (ps:=["thing"]) fun _ _ _ _ _ _ us hl=>match us,hl with | [_],_=>rfl⟩
 have D25:Dfn K mg "refuse_no_house" lB ["thing"]:=let ⟨f,fd,a,F⟩:=d25;⟨f,fd,a,F,F.binds (ps:=["thing"]) fun _ _ _ _ _ _ us hl=>match us,hl with | [_],_=>rfl⟩
 have D26:Dfn K mg "kept" kh ["house"]:=let ⟨f,fd,a,F⟩:=d26;⟨f,fd,a,F,F.binds (ps:=["house"]) fun _ _ _ _ _ _ us hl=>match us,hl with | [_],_=>rfl⟩
 have D27:Dfn K mg "ways_by_room" ly ["house"]:=let ⟨f,fd,a,F⟩:=d27;⟨f,fd,a,F,F.binds (ps:=["house"]) fun _ _ _ _ _ _ us hl=>match us,hl with | [_],_=>rfl⟩
 have D28:Dfn K mg "is_open" jX ["way","place"]:=let ⟨f,fd,a,F⟩:=d28;⟨f,fd,a,F,F.binds (ps:=["way","place"]) fun _ _ _ _ _ _ us hl=>match us,hl with | [_,_],_=>rfl⟩
 have D29:Dfn K mg "raised_by" lg ["way"]:=let ⟨f,fd,a,F⟩:=d29;⟨f,fd,a,F,F.binds (ps:=["way"]) fun _ _ _ _ _ _ us hl=>match us,hl with | [_],_=>rfl⟩
 have D30:Dfn K mg "led_to" lO ["way","place"]:=let ⟨f,fd,a,F⟩:=d30;⟨f,fd,a,F,F.binds (ps:=["way","place"]) fun _ _ _ _ _ _ us hl=>match us,hl with | [_,_],_=>rfl⟩
 have D31:Dfn K mg "led_to_from" lC ["ways","place"]:=let ⟨f,fd,a,F⟩:=d31;⟨f,fd,a,F,F.binds (ps:=["ways","place"]) fun _ _ _ _ _ _ us hl=>match us,hl with | [_,_],_=>rfl⟩
 have D32:Dfn K mg "low_beside" jz ["ways","keeps","top","here"]:=let ⟨f,fd,a,F⟩:=d32;⟨f,fd,a,F,F.binds (ps:=["ways","keeps","top","here"]) fun _ _ _ _ _ _ us hl=>match us,hl with | [_,_,_,_],_=>rfl⟩
 have D33:Dfn K mg "low_levels" kL ["house","place"]:=let ⟨f,fd,a,F⟩:=d33;⟨f,fd,a,F,F.binds (ps:=["house","place"]) fun _ _ _ _ _ _ us hl=>match us,hl with | [_,_],_=>rfl⟩
 have D34:Dfn K mg "risen" kG ["house"]:=let ⟨f,fd,a,F⟩:=d34;⟨f,fd,a,F,F.binds (ps:=["house"]) fun _ _ _ _ _ _ us hl=>match us,hl with | [_],_=>rfl⟩
 have D35:Dfn K mg "all_levels" lY ["house","place"]:=let ⟨f,fd,a,F⟩:=d35;⟨f,fd,a,F,F.binds (ps:=["house","place"]) fun _ _ _ _ _ _ us hl=>match us,hl with | [_,_],_=>rfl⟩
 have D36:Dfn K mg "refuse_bad_places" kQ ["house","places"]:=let ⟨f,fd,a,F⟩:=d36;⟨f,fd,a,F,F.binds (ps:=["house","places"]) fun _ _ _ _ _ _ us hl=>match us,hl with | [_,_],_=>rfl⟩
 have D37:Dfn K mg "forward" lG ["house","place"]:=let ⟨f,fd,a,F⟩:=d37;⟨f,fd,a,F,F.binds (ps:=["house","place"]) fun _ _ _ _ _ _ us hl=>match us,hl with | [_,_],_=>rfl⟩
 have D38:Dfn K mg "turned_way" ko ["way"]:=let ⟨f,fd,a,F⟩:=d38;⟨f,fd,a,F,F.binds (ps:=["way"]) fun _ _ _ _ _ _ us hl=>match us,hl with | [_],_=>rfl⟩
 have D39:Dfn K mg "turned_about" kr ["house"]:=let ⟨f,fd,a,F⟩:=d39;⟨f,fd,a,F,F.binds (ps:=["house"]) fun _ _ _ _ _ _ us hl=>match us,hl with | [_],_=>rfl⟩
 have D40:Dfn K mg "backward" lQ ["house","goal"]:=let ⟨f,fd,a,F⟩:=d40;⟨f,fd,a,F,F.binds (ps:=["house","goal"]) fun _ _ _ _ _ _ us hl=>match us,hl with | [_,_],_=>rfl⟩
 have D41:Dfn K mg "walk_back" lL ["found","goal"]:=let ⟨f,fd,a,F⟩:=d41;⟨f,fd,a,F,F.binds (ps:=["found","goal"]) fun _ _ _ _ _ _ us hl=>match us,hl with | [_,_],_=>rfl⟩
 have D42:Dfn K mg "counts_by_room" kT ["house"]:=let ⟨f,fd,a,F⟩:=d42;⟨f,fd,a,F,F.binds (ps:=["house"]) fun _ _ _ _ _ _ us hl=>match us,hl with | [_],_=>rfl⟩
 have D43:Dfn K mg "greatest_met" lh ["house","place","goal"]:=let ⟨f,fd,a,F⟩:=d43;⟨f,fd,a,F,F.binds (ps:=["house","place","goal"]) fun _ _ _ _ _ _ us hl=>match us,hl with | [_,_,_],_=>rfl⟩
 have D44:Dfn K mg "found_from" lX ["house","place","goal"]:=let ⟨f,fd,a,F⟩:=d44;⟨f,fd,a,F,F.binds (ps:=["house","place","goal"]) fun _ _ _ _ _ _ us hl=>match us,hl with | [_,_,_],_=>rfl⟩
 have D45:Dfn K mg "sought_walk" lR ["house","place","goal"]:=let ⟨f,fd,a,F⟩:=d45;⟨f,fd,a,F,F.binds (ps:=["house","place","goal"]) fun _ _ _ _ _ _ us hl=>match us,hl with | [_,_,_],_=>rfl⟩
 have D46:Dfn K mg "shortest" lZ ["house","place","goal"]:=let ⟨f,fd,a,F⟩:=d46;⟨f,fd,a,F,F.binds (ps:=["house","place","goal"]) fun _ _ _ _ _ _ us hl=>match us,hl with | [_,_,_],_=>rfl⟩
 have D47:Dfn K mg "answer" jS ["house","place","goal"]:=let ⟨f,fd,a,F⟩:=d47;⟨f,fd,a,F,F.binds (ps:=["house","place","goal"]) fun _ _ _ _ _ _ us hl=>match us,hl with | [_,_,_],_=>rfl⟩
 have D48:Dfn K mg "_law_mixed" lA ["_law_cell_here","_law_k","_law_prime"]:=let ⟨f,fd,a,F⟩:=d48;⟨f,fd,a,F,F.binds (ps:=["_law_cell_here","_law_k","_law_prime"]) fun _ _ _ _ _ _ us hl=>match us,hl with | [_,_,_],_=>rfl⟩
 have D49:Dfn K mg "_law_draws" jN ["_law_cell_here","_law_widths","_law_prime"]:=let ⟨f,fd,a,F⟩:=d49;⟨f,fd,a,F,F.binds (ps:=["_law_cell_here","_law_widths","_law_prime"]) fun _ _ _ _ _ _ us hl=>match us,hl with | [_,_,_],_=>rfl⟩
 have D50:Dfn K mg "_law_cell" jq ["_law_script","_law_k"]:=let ⟨f,fd,a,F⟩:=d50;⟨f,fd,a,F,F.binds (ps:=["_law_script","_law_k"]) fun _ _ _ _ _ _ us hl=>match us,hl with | [_,_],_=>rfl⟩
 refine⟨PySem.W.fnOf "law" "law" (gn eW) (eh eW) (aI eW) .none kV51 dc51 pm51 an51 cd51 ct51,fun s v=>.of_eq rfl,fun base KB GB HB=>?_⟩
 have C0:=@Dm l.prog w K mg base D0 T
 have C1:=@BI l.prog w K mg base D1 T C0
 have C2:=@xq l.prog w K mg base D2 T
 have C3:=@DD l.prog w K mg base D3 T C2
 have C4:=@xS l.prog w K mg base D4 T
 have C5:=@yt l.prog w K mg base D5 T C4
 have C6:=@zb l.prog w K mg base D6 T
 have C7:=@yG l.prog w K mg base D7 T
 have C8:=@xm l.prog w K mg base D8 T C7
 have C9:=@xK l.prog w K mg base D9 T C8
 have C10:=@BU l.prog w K mg base D10 T
 have C11:=@Du l.prog w K mg base D11 T
 have C12:=@zA l.prog w K mg base D12 T
 have C13:=@AL l.prog w K mg base D13 T
 have C14:=@yL l.prog w K mg base D14 T
 have C15:=@CY l.prog w K mg base D15 T
 have C16:=@CG l.prog w K mg base D16 T C15
 have C17:=@Cm l.prog w K mg base D17 T C13 C14 C15 C16
 have C18:=@yp l.prog w K mg base D18 T
 have C19:=@y7 l.prog w K mg base D19 T ⟨_,PySem.W.mg_of X G x0,pW y0 w0⟩
 have C20:=@yw l.prog w K mg base D20 T
 have C21:=@xF l.prog w K mg base D21 T C20
 have C22:=@zD l.prog w K mg base D22 T C18 C19 C21
 have C23:=@yK l.prog w K mg base D23 T ⟨_,PySem.W.mg_of X G v0⟩ C22
 have C24:=@DH l.prog w K mg base D24 T ⟨_,PySem.W.mg_of X G v1⟩ C23 C20
 have C25:=@zB l.prog w K mg base D25 T C24
 obtain⟨c269,T269,B26⟩:=HB "kept" (by simp)
 have C26:Cal l.prog w K mg base "kept" 7 ["house"] (nG K):=Df D26 T B26 C12 C17 C25
 have C27:=@Ad l.prog w K mg base D27 T
 have C28:=@yU l.prog w K mg base D28 T
 have C29:=@Di l.prog w K mg base D29 T ⟨_,PySem.W.mg_of X G x1,BM y1 w1⟩
 have C30:=@AO l.prog w K mg base D30 T C29
 have C31:=@yq l.prog w K mg base D31 T C28 C30
 have C32:=@DE l.prog w K mg base D32 T C31
 obtain⟨c339,T339,B33⟩:=HB "low_levels" (by simp)
 have C33:Cal l.prog w K mg base "low_levels" 8 ["house","place"] (nF K):=B6 D33 T B33 C11 C26 C27 C32
 obtain⟨c349,T349,B34⟩:=HB "risen" (by simp)
 have C34:Cal l.prog w K mg base "risen" 7 ["house"] (mQ K):=BH D34 T B34 C12 C15 C17 C25
 have C35:=@Aq l.prog w K mg base D35 T C10 C33 C34
 have C36:=@As l.prog w K mg base D36 T ⟨_,PySem.W.mg_of X G v2⟩ C21
 have C37:=@BJ l.prog w K mg base D37 T C9 C35 C36 C25
 have C38:=@Ck l.prog w K mg base D38 T ⟨_,PySem.W.mg_of X G x0,pW y0 w0⟩
 have C39:=@Bl l.prog w K mg base D39 T C38 C25
 have C40:=@xZ l.prog w K mg base D40 T C37 C39
 have C41:=@xu l.prog w K mg base D41 T
 have C42:=@yJ l.prog w K mg base D42 T
 have C43:=@yZ l.prog w K mg base D43 T
 have C44:=@BE l.prog w K mg base D44 T C28 C30 C42 C43
 have C45:=@zx l.prog w K mg base D45 T C41 C44
 have C46:=@zr l.prog w K mg base D46 T C45 C36 C25
 have C47:=@zt l.prog w K mg base D47 T C37 C46
 have C48:=@zc l.prog w K mg base D48 T
 have C49:=@yl l.prog w K mg base D49 T C48
 have C50:=@Av l.prog w K mg base D50 T
 exact zp (uO (st:=eW) l51 c51 k51) T C1 C3 C5 C6 C40 C47 C49 C50
theorem walk{l:PySem.W.OpenLaw}{q:Program}{loose:List Str}{XP:(Str->Option Value)->Heap->Prop}{YP:World->Heap->Prop}{d:DefRec}{K:Params->DS}(hn:l.most=some 63)(hdf:d.params.defaults=[])
  (hY:∀(w:World) (h:Heap),YP w h->(K w.params).In h) (hK:∀w:World,PySem.W.noTabs (K w.params)=true) (hrec:∀y∈(["kept","low_levels","risen"]:List Str),((PyProof.Rows.recsOf q).find? (fun e=>e.name == y)).isSome=true) (htab:∀(w:World),∀y∈(["kept","low_levels","risen"]:List Str),(PySem.W.tabIn (K w.params) y).isSome=true) (hdis:∀w:World,eS (K w.params))
  (F:∀(w:World) (mg:Str->Option Value) (fa:Addr) (h:Heap),(K w.params).In h->h.Ns mainGlobals mg->mg d.name=some (.ref fa) →
   ∃fd:FuncData,(∀(s:Shared) (u:Value),BindsTo s fd ⟨[u],[]⟩ [("_law_script",u)])/\∀base:Heap,(K w.params).In base->base.Ns mainGlobals mg->(∀y∈(["kept","low_levels","risen"]:List Str),∃c T,Tab (K w.params) mg base y c T)->FnOk l.prog w (K w.params) mg base dm 12 fa fd ["_law_script"] (kP (K w.params))) :
  PySem.W.WalkO q loose XP YP l.row.toRowW d [] (fun f vs=>PySem.call f vs):=
 L2.Ct (n:=63) (k:=12) (x:="_law_script") (sp:=fun w=>kP (K w.params)) ["kept","low_levels","risen"] hn (by decide) hdf ⟨rfl,by decide,by decide⟩ hY hK hrec htab F fun w H a ns hl hT hS=>⟨a,ns,rfl,hS,hl,hT,hdis w,fun _=>rfl⟩
end My
end
open PySem PySem.W PyProof.Rows
set_option maxRecDepth 100000 in
set_option maxHeartbeats 0 in
theorem PySem.Challenge.cw_stairrooms_k41_far_answers_holds : PySem.Challenge.rw_stairrooms_k41_far_answers.Holds := by
 refine My.top ?_
 k_fill
 refine My.walk (l := PySem.Challenge.rw_stairrooms_k41_far_answers) rfl rfl (fun w h Y => PySem.W.km_in_of Y) (fun w => by kernel_rfl) ?R (fun w => ?Tb) (fun w => My.zj (by kernel_rfl)) ?F
 case R => intro y hy; simp only [List.mem_cons, List.not_mem_nil, or_false] at hy; rcases hy with rfl | rfl | rfl <;> kernel_rfl
 case Tb => intro y hy; simp only [List.mem_cons, List.not_mem_nil, or_false] at hy; rcases hy with rfl | rfl | rfl <;> kernel_rfl
 case F =>
  intro w mg fa h KX G hmg
  refine' My.all_mk KX G hmg (My.dq KX G ?a0 ?l0 ?c0 ?k0) (My.dq KX G ?a1 ?l1 ?c1 ?k1) (My.dq KX G ?a2 ?l2 ?c2 ?k2) (My.dq KX G ?a3 ?l3 ?c3 ?k3) (My.dq KX G ?a4 ?l4 ?c4 ?k4) (My.dq KX G ?a5 ?l5 ?c5 ?k5) (My.dq KX G ?a6 ?l6 ?c6 ?k6) (My.dq KX G ?a7 ?l7 ?c7 ?k7) (My.dq KX G ?a8 ?l8 ?c8 ?k8) (My.dq KX G ?a9 ?l9 ?c9 ?k9) (My.dq KX G ?a10 ?l10 ?c10 ?k10) (My.dq KX G ?a11 ?l11 ?c11 ?k11) (My.dq KX G ?a12 ?l12 ?c12 ?k12) (My.dq KX G ?a13 ?l13 ?c13 ?k13) (My.dq KX G ?a14 ?l14 ?c14 ?k14) (My.dq KX G ?a15 ?l15 ?c15 ?k15) (My.dq KX G ?a16 ?l16 ?c16 ?k16) (My.dq KX G ?a17 ?l17 ?c17 ?k17) (My.dq KX G ?a18 ?l18 ?c18 ?k18) (My.dq KX G ?a19 ?l19 ?c19 ?k19) (My.dq KX G ?a20 ?l20 ?c20 ?k20) (My.dq KX G ?a21 ?l21 ?c21 ?k21) (My.dq KX G ?a22 ?l22 ?c22 ?k22) (My.dq KX G ?a23 ?l23 ?c23 ?k23) (My.dq KX G ?a24 ?l24 ?c24 ?k24) (My.dq KX G ?a25 ?l25 ?c25 ?k25) (My.dq KX G ?a26 ?l26 ?c26 ?k26) (My.dq KX G ?a27 ?l27 ?c27 ?k27) (My.dq KX G ?a28 ?l28 ?c28 ?k28) (My.dq KX G ?a29 ?l29 ?c29 ?k29) (My.dq KX G ?a30 ?l30 ?c30 ?k30) (My.dq KX G ?a31 ?l31 ?c31 ?k31) (My.dq KX G ?a32 ?l32 ?c32 ?k32) (My.dq KX G ?a33 ?l33 ?c33 ?k33) (My.dq KX G ?a34 ?l34 ?c34 ?k34) (My.dq KX G ?a35 ?l35 ?c35 ?k35) (My.dq KX G ?a36 ?l36 ?c36 ?k36) (My.dq KX G ?a37 ?l37 ?c37 ?k37) (My.dq KX G ?a38 ?l38 ?c38 ?k38) (My.dq KX G ?a39 ?l39 ?c39 ?k39) (My.dq KX G ?a40 ?l40 ?c40 ?k40) (My.dq KX G ?a41 ?l41 ?c41 ?k41) (My.dq KX G ?a42 ?l42 ?c42 ?k42) (My.dq KX G ?a43 ?l43 ?c43 ?k43) (My.dq KX G ?a44 ?l44 ?c44 ?k44) (My.dq KX G ?a45 ?l45 ?c45 ?k45) (My.dq KX G ?a46 ?l46 ?c46 ?k46) (My.dq KX G ?a47 ?l47 ?c47 ?k47) (My.dq KX G ?a48 ?l48 ?c48 ?k48) (My.dq KX G ?a49 ?l49 ?c49 ?k49) (My.dq KX G ?a50 ?l50 ?c50 ?k50) ?a51 ?l51 ?c51 ?k51 ?z0 ?z1 ?z2 ?z3 ?z4 ?z5 ?z6 ?z7 ?z8 ?z9 ?z10 ?z11 ?z12 ?z13 ?z14 ?z15 ?z16 ?v0 ?v1 ?v2 ?x0 ?y0 ?w0 ?x1 ?y1 ?w1
  (case a0 => k_is); (case l0 => k_is); (case c0 => k_is); (case k0 => k_is)
  (case a1 => k_is); (case l1 => k_is); (case c1 => k_is); (case k1 => k_is)
  (case a2 => k_is); (case l2 => k_is); (case c2 => k_is); (case k2 => k_is)
  (case a3 => k_is); (case l3 => k_is); (case c3 => k_is); (case k3 => k_is)
  (case a4 => k_is); (case l4 => k_is); (case c4 => k_is); (case k4 => k_is)
  (case a5 => k_is); (case l5 => k_is); (case c5 => k_is); (case k5 => k_is)
  (case a6 => k_is); (case l6 => k_is); (case c6 => k_is); (case k6 => k_is)
  (case a7 => k_is); (case l7 => k_is); (case c7 => k_is); (case k7 => k_is)
  (case a8 => k_is); (case l8 => k_is); (case c8 => k_is); (case k8 => k_is)
  (case a9 => k_is); (case l9 => k_is); (case c9 => k_is); (case k9 => k_is)
  (case a10 => k_is); (case l10 => k_is); (case c10 => k_is); (case k10 => k_is)
  (case a11 => k_is); (case l11 => k_is); (case c11 => k_is); (case k11 => k_is)
  (case a12 => k_is); (case l12 => k_is); (case c12 => k_is); (case k12 => k_is)
  (case a13 => k_is); (case l13 => k_is); (case c13 => k_is); (case k13 => k_is)
  (case a14 => k_is); (case l14 => k_is); (case c14 => k_is); (case k14 => k_is)
  (case a15 => k_is); (case l15 => k_is); (case c15 => k_is); (case k15 => k_is)
  (case a16 => k_is); (case l16 => k_is); (case c16 => k_is); (case k16 => k_is)
  (case a17 => k_is); (case l17 => k_is); (case c17 => k_is); (case k17 => k_is)
  (case a18 => k_is); (case l18 => k_is); (case c18 => k_is); (case k18 => k_is)
  (case a19 => k_is); (case l19 => k_is); (case c19 => k_is); (case k19 => k_is)
  (case a20 => k_is); (case l20 => k_is); (case c20 => k_is); (case k20 => k_is)
  (case a21 => k_is); (case l21 => k_is); (case c21 => k_is); (case k21 => k_is)
  (case a22 => k_is); (case l22 => k_is); (case c22 => k_is); (case k22 => k_is)
  (case a23 => k_is); (case l23 => k_is); (case c23 => k_is); (case k23 => k_is)
  (case a24 => k_is); (case l24 => k_is); (case c24 => k_is); (case k24 => k_is)
  (case a25 => k_is); (case l25 => k_is); (case c25 => k_is); (case k25 => k_is)
  (case a26 => k_is); (case l26 => k_is); (case c26 => k_is); (case k26 => k_is)
  (case a27 => k_is); (case l27 => k_is); (case c27 => k_is); (case k27 => k_is)
  (case a28 => k_is); (case l28 => k_is); (case c28 => k_is); (case k28 => k_is)
  (case a29 => k_is); (case l29 => k_is); (case c29 => k_is); (case k29 => k_is)
  (case a30 => k_is); (case l30 => k_is); (case c30 => k_is); (case k30 => k_is)
  (case a31 => k_is); (case l31 => k_is); (case c31 => k_is); (case k31 => k_is)
  (case a32 => k_is); (case l32 => k_is); (case c32 => k_is); (case k32 => k_is)
  (case a33 => k_is); (case l33 => k_is); (case c33 => k_is); (case k33 => k_is)
  (case a34 => k_is); (case l34 => k_is); (case c34 => k_is); (case k34 => k_is)
  (case a35 => k_is); (case l35 => k_is); (case c35 => k_is); (case k35 => k_is)
  (case a36 => k_is); (case l36 => k_is); (case c36 => k_is); (case k36 => k_is)
  (case a37 => k_is); (case l37 => k_is); (case c37 => k_is); (case k37 => k_is)
  (case a38 => k_is); (case l38 => k_is); (case c38 => k_is); (case k38 => k_is)
  (case a39 => k_is); (case l39 => k_is); (case c39 => k_is); (case k39 => k_is)
  (case a40 => k_is); (case l40 => k_is); (case c40 => k_is); (case k40 => k_is)
  (case a41 => k_is); (case l41 => k_is); (case c41 => k_is); (case k41 => k_is)
  (case a42 => k_is); (case l42 => k_is); (case c42 => k_is); (case k42 => k_is)
  (case a43 => k_is); (case l43 => k_is); (case c43 => k_is); (case k43 => k_is)
  (case a44 => k_is); (case l44 => k_is); (case c44 => k_is); (case k44 => k_is)
  (case a45 => k_is); (case l45 => k_is); (case c45 => k_is); (case k45 => k_is)
  (case a46 => k_is); (case l46 => k_is); (case c46 => k_is); (case k46 => k_is)
  (case a47 => k_is); (case l47 => k_is); (case c47 => k_is); (case k47 => k_is)
  (case a48 => k_is); (case l48 => k_is); (case c48 => k_is); (case k48 => k_is)
  (case a49 => k_is); (case l49 => k_is); (case c49 => k_is); (case k49 => k_is)
  (case a50 => k_is); (case l50 => k_is); (case c50 => k_is); (case k50 => k_is)
  (case a51 => k_is); (case l51 => k_is); (case c51 => k_is); (case k51 => k_is)
  (case z0 => k_is)
  (case z1 => k_is)
  (case z2 => k_is)
  (case z3 => k_is)
  (case z4 => k_is)
  (case z5 => k_is)
  (case z6 => k_is)
  (case z7 => k_is)
  (case z8 => k_is)
  (case z9 => k_is)
  (case z10 => k_is)
  (case z11 => k_is)
  (case z12 => k_is)
  (case z13 => k_is)
  (case z14 => k_is)
  (case z15 => k_is)
  (case z16 => k_is)
  (case v0 => k_is)
  (case v1 => k_is)
  (case v2 => k_is)
  (case x0 => k_is); (case y0 => k_is); (case w0 => first | rfl | k_is)
  (case x1 => k_is); (case y1 => k_is); (case w1 => first | rfl | k_is)
