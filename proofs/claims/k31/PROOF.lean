import PyProof.Rows.All
import Wide.All
import OpenK.AllK
import Wide.FinOn
import Lean
import PyProof.EqAt
import PyProof.EqKinds
import PyProof.TupleCall
import KE.KLam
import PySem.Challenge.RW_stairrooms_k31_whole_least_closed
set_option Elab.async false
namespace PySem.W.Fast
def tw996805575666440922:=0
def tw5268380022577493787:=0
def tw7653605850978294357:=0
def tw632864064564942341:=0
def tw9478813727029378433:=0
def tw5874906986729770315:=0
def tw11258306804293243132:=0
def tw18409688046743377292:=0
def tw2325016921888508853:=0
def tw8340926499216404060:=0
def tw14650229311272632197:=0
def tw13941111111478842134:=0
def tw15919585015036402537:=0
def tw16098950905546674470:=0
def tw5939658209580117652:=0
def tw13814131451427507189:=0
def tw6539857703671316003:=0
def tw17729564300890611173:=0
def tw15620763782691753445:=0
def tw4918694162171632466:=0
def tw4769826392853288355:=0
def tw2800321189394573348:=0
def tw15786528573266890262:=0
def tw6340304130596135008:=0
def tw3501889831259424984:=0
def tw1536147683505774889:=0
def tw11040902395418374828:=0
def tw11655376856063916228:=0
def tw10846541316933110243:=0
def tw9578026534446552097:=0
def tw8612541938085228305:=0
def tw17415715754555401154:=0
def tw1901317781093569649:=0
def tw14867130098325134529:=0
def tw119674054762100072:=0
def tw17405045028177135956:=0
def tw13021086612755893400:=0
def tw3975676623463710300:=0
def tw15414259988211055499:=0
def tw590611807225418770:=0
def tw477595423994022719:=0
def tw447717403241242290:=0
def tw17405974757215459542:=0
def tw12664327836493813462:=0
def tw15831574140416324556:=0
def tw12170451868844119946:=0
def tw11365700717142005424:=0
def tw11362101791794971524:=0
def tw1057306937073154610:=0
def tw9802983821206752271:=0
def tw7897135418779063302:=0
def tw5533809914848052129:=0
def tw2904058922640873309:=0
def tw1921160878016633958:=0
def tw1488503510874697304:=0
def tw13809386149585982481:=0
def tw9749810874003056045:=0
def tw5051596291613938045:=0
def tw3121732170634265723:=0
def tw1847224927995124329:=0
def tw1637453852661378490:=0
def tw15856698116174445793:=0
def tw14419318313112166178:=0
def tw11506949944486722818:=0
def tw9119751986894142981:=0
def tw5920227957080817638:=0
def tw5581349078452510653:=0
def tw4869967250276580588:=0
def tw397431815971221653:=0
def tw3797301031838899788:=0
def tw3096949930750721708:=0
def tw17076493798685594974:=0
def tw14397947794671477899:=0
def tw2780415966309772251:=0
def tw1923656493189036919:=0
def tw18066811921283522515:=0
def tw16408023001231065620:=0
def tw11788803944947964044:=0
def tw10276969695076772373:=0
def tw8487562230406468105:=0
def tw8338600121835276020:=0
def tw5861546300858528307:=0
def tw4488003136180807592:=0
def tw16221219022901355867:=0
def tw14800109303040266240:=0
def tw13788262537284159298:=0
def tw11282886037220131173:=0
def tw10769681086646498438:=0
def tw10150324261921262226:=0
def tw8562296191053873827:=0
def tw7875707854763748492:=0
def tw6178244272827954729:=0
def tw1682181479755940848:=0
def tw15660991250957307376:=0
def tw15186367229040268510:=0
def tw15003257448840769609:=0
def tw14849095896601040367:=0
def tw13611136168108132581:=0
def tw13587432420489492189:=0
def tw12323772569751236006:=0
def tw11971130579796114034:=0
def tw9337504207740955038:=0
def tw3258786278723069861:=0
def tw17438179399263098937:=0
def tw1703860651114587486:=0
def tw1677638050960967886:=0
def tw12996499756298277263:=0
def tw11383850339681254435:=0
def tw10698238366409207256:=0
def tw10053539800044614232:=0
def tw9254883793231693245:=0
def tw902582806634263858:=0
def tw7750769465160294860:=0
def tw7341270039093922885:=0
def tw7134983793405793177:=0
def tw7115244209674446852:=0
def tw5140171473248983199:=0
def tw456031100195234908:=0
def tw4337561567144917162:=0
def tw4138905410403352593:=0
def tw3866599564448483793:=0
def tw3855077825024126993:=0
def tw2904033067149887106:=0
def tw1980078614172103820:=0
def tw18334927389422029420:=0
def tw18032779900021213040:=0
def tw17002439396945247550:=0
def tw16980547499210933930:=0
def tw16840622159041910090:=0
def tw16477329177891185698:=0
def tw15732654264858244716:=0
def tw14775263502782431712:=0
def tw14670137783204244808:=0
def tw14221475358252599964:=0
def tw1382559312744143635:=0
def tw12357872333080808881:=0
def tw11801650391622900179:=0
def tw11687504721054253588:=0
def tw11339562753883754242:=0
def tw1069010634818593453:=0
def tw10035081181641441020:=0
def tw5425565988235752197:=0
def tw4797132809794432123:=0
def tw3182821167057557991:=0
def tw3104486758596841148:=0
def tw18324572440802094995:=0
def tw18127141830633905074:=0
def tw17843839365795533554:=0
def tw16503717402094505217:=0
def tw14882510809304047780:=0
def tw1073818698688927204:=0
def tw8863156965792605256:=0
def tw8783073200307453229:=0
def tw762384175361060421:=0
def tw705330452703051597:=0
def tw5819105399919881484:=0
def tw5295854211047901153:=0
def tw4977895861229493542:=0
def tw4933930183700603765:=0
def tw3725507860900426652:=0
def tw3465091326942903629:=0
def tw3268437569422444630:=0
def tw2122511160286549640:=0
def tw1856151083423349262:=0
def tw15565656631415577005:=0
def tw14832175709080873599:=0
def tw14793259975867257014:=0
def tw11364142691922409913:=0
def tw11137535781475439334:=0
def tw9248597171148506525:=0
def tw7627118995241731642:=0
def tw6169767553621521813:=0
def tw6158425238486604569:=0
def tw4256779784062091372:=0
def tw17925923492730016652:=0
def tw16964212798373946863:=0
def tw14109453767193502313:=0
def tw12261729195969336472:=0
def tw9930359092145622687:=0
def tw912290570786946579:=0
def tw8755266905418455375:=0
def tw8568187914498332850:=0
def tw8186763794367992775:=0
def tw8184033042858750843:=0
def tw8147721191793257292:=0
def tw8143298780573084396:=0
def tw8039774922555296384:=0
def tw8035931760809384120:=0
def tw800831887125934919:=0
def tw7863108119856694670:=0
def tw7176572640101177836:=0
def tw6658185936689682968:=0
def tw6393150591798677637:=0
def tw6181847661251503008:=0
def tw6008010531490865865:=0
def tw5956051100702781606:=0
def tw5350998768358884751:=0
def tw5010354932100547165:=0
def tw4672492687276399408:=0
def tw4566636315000093172:=0
def tw4169430970946328830:=0
def tw3830783680494933951:=0
def tw3711776433476670718:=0
def tw3415376743198261602:=0
def tw3017139974649574989:=0
def tw3008007984704827758:=0
def tw2567624805475646970:=0
def tw2187499721780371684:=0
def tw193794278739742225:=0
def tw18438895364323578133:=0
def tw18207201711260066481:=0
def tw18027755133952139252:=0
def tw17994301212061070119:=0
def tw179189376934874584:=0
def tw17843169823834903998:=0
def tw17694846207451314135:=0
def tw17584191335013195612:=0
def tw1754243070517289278:=0
def tw17375602352810135561:=0
def tw16988158499489311127:=0
def tw16826725409987885975:=0
def tw16632375998614247822:=0
def tw16622475990643145580:=0
def tw16575673167688372683:=0
def tw16245695487900975421:=0
def tw15968237232650601322:=0
def tw15924826414491783191:=0
def tw15729792075999087868:=0
def tw156604256827902990:=0
def tw15529604674929473973:=0
def tw15291515778787918541:=0
def tw14977234088687162302:=0
def tw14905269560852764671:=0
def tw1488474676173749703:=0
def tw14635225500592789833:=0
def tw14560837491469231475:=0
def tw13817142068744991791:=0
def tw13769731409856085057:=0
def tw13573848267779960677:=0
def tw13501672401922333513:=0
def tw13385619842731796546:=0
def tw13298203722689827917:=0
def tw13135487405686255751:=0
def tw12340981958623863397:=0
def tw12249993202121903794:=0
def tw12124443520851957044:=0
def tw11985937269989024962:=0
def tw11787554532782738252:=0
def tw11665305186481523908:=0
def tw11646202046503260017:=0
def tw11296645311156999791:=0
def tw11166862733661299840:=0
def tw11030641428109492703:=0
def tw10785498421680218836:=0
def tw10121643642846045468:=0
def tw10109045595255482138:=0
def tw9602979466950630956:=0
def tw8777541643666118068:=0
def tw8572175281459272771:=0
def tw8444893750286939596:=0
def tw8125407811402774585:=0
def tw684210181549580303:=0
def tw5950158449063615346:=0
def tw5096499008420852698:=0
def tw3612554134655720397:=0
def tw2217001567337907910:=0
def tw2093290091728733057:=0
def tw18038851775406917655:=0
def tw17831088686795452451:=0
def tw17795394019121955329:=0
def tw16924412733494049589:=0
def tw16821967185522334815:=0
def tw16283258727396688951:=0
def tw16219145617115034907:=0
def tw14415884991196681418:=0
def tw13746588304753895505:=0
def tw12150866365501820893:=0
def tw11701492411309977178:=0
def tw11644868132232139897:=0
def tw10095913671755900038:=0
def tw9590536906216307355:=0
def tw9281662355237421915:=0
def tw9002392303285804385:=0
def tw8890220073126293310:=0
def tw8377945894465552080:=0
def tw8089249423132065445:=0
def tw8037652997034423971:=0
def tw7956301941440062040:=0
def tw7848866751621661257:=0
def tw7552210041123771490:=0
def tw7259079589770855615:=0
def tw720755081136891062:=0
def tw7175792842613744815:=0
def tw6942357351460751399:=0
def tw6787905781562076304:=0
def tw6714801024506940561:=0
def tw6704578965310311189:=0
def tw6429728187070590260:=0
def tw6252878086273825581:=0
def tw6130821448147606368:=0
def tw6093179522131556990:=0
def tw5994711959094706394:=0
def tw5821001088122574322:=0
def tw5717963241065829162:=0
def tw5442971307982108685:=0
def tw5430882940802126740:=0
def tw5019332986140449700:=0
def tw4997450903056089975:=0
def tw4855646995411632120:=0
def tw4817981600543833687:=0
def tw4532786408525356839:=0
def tw439055297870408345:=0
def tw4355615645706949100:=0
def tw4090099033456441411:=0
def tw3760063030202703356:=0
def tw343839832772155065:=0
def tw2801974123689400889:=0
def tw2696157109874119690:=0
def tw2448602276733661166:=0
def tw2313535712752964479:=0
def tw2248526150547823735:=0
def tw2045930578084102194:=0
def tw2020109458520273824:=0
def tw1818218476948158209:=0
def tw18159918767601648018:=0
def tw17744632191838401134:=0
def tw17716863462265859512:=0
def tw17645572048654386869:=0
def tw17628590533929976792:=0
def tw17581992280946622230:=0
def tw17571631200592639834:=0
def tw17423125552162021742:=0
def tw17357414001117552268:=0
def tw1735571389945239771:=0
def tw17218974888202052536:=0
def tw17104333970416622323:=0
def tw17065142239566038489:=0
def tw1691102865124860179:=0
def tw16843462989757039891:=0
def tw16743919102785911483:=0
def tw16669810761675009345:=0
def tw16507177298177948937:=0
def tw16288524480538194225:=0
def tw16180315334032665911:=0
def tw16176690743668362219:=0
def tw1612923964453859806:=0
def tw15945904282836308387:=0
def tw15860708213811878519:=0
def tw15829181571673270705:=0
def tw15438610589593914328:=0
def tw15415030129712708594:=0
def tw15319796435752655959:=0
def tw15266785391687444539:=0
def tw15104015179872336855:=0
def tw14931363111589739018:=0
def tw1492062709326496596:=0
def tw14876317631354250296:=0
def tw14774234679712429206:=0
def tw1460478622569836974:=0
def tw14585778381282314952:=0
def tw1456095747653818372:=0
def tw14429984225472846677:=0
def tw14324394720252608761:=0
def tw14322595565739780087:=0
def tw14025392896863203041:=0
def tw13841191037290658594:=0
def tw13820470126673855253:=0
def tw13786455662358949411:=0
def tw13732165248360646341:=0
def tw13679643304169797691:=0
def tw13587954947775276195:=0
def tw13140385074510843379:=0
def tw12993445975515111361:=0
def tw12679859039530741841:=0
def tw12650994420537281789:=0
def tw12632963454795662708:=0
def tw12441502783428931068:=0
def tw12390782021942118942:=0
def tw12296552071639831032:=0
def tw119775208399524090:=0
def tw11950575282948044451:=0
def tw11860059332995364445:=0
def tw11612187849094769778:=0
def tw11605670760853518920:=0
def tw11560677996495128784:=0
def tw11198388801270196117:=0
def tw10424792985553544811:=0
def tw10263077061500514125:=0
end PySem.W.Fast
section
open PySem PySem.W PyProof.Rows
set_option maxRecDepth 100000 in
set_option maxHeartbeats 0 in
open_top My.top for PySem.Challenge.rw_stairrooms_k31_whole_least_closed
end
set_option linter.all false
set_option maxRecDepth 100000
set_option maxHeartbeats 4000000
open PySem renaming wpAny_bind→Em
open PySem renaming wpAny_pure→En
open PySem.W renaming Frag→Eo
open PySem.Heap renaming get?_push_of_some→Ep
open PySem.Heap renaming get?_push_size→Er
open PySem.Heap renaming lt_size→Es
open List renaming length_map→Ew
open List renaming getElem?_eq_getElem→Ex
open List renaming getElem?_map→Ey
open List renaming mem_cons_of_mem→Ez
open Array renaming length_toList→EA
open List renaming size_toArray→EB
open List renaming mem_cons_self→EC
open PySem.F renaming plainAttrs_list→ED
open List renaming getElem?_eq_some_iff→EE
open List renaming mem_of_getElem?→EF
open List renaming mem_singleton→EG
open Option renaming map_eq_some_iff→EH
open Int renaming toNat_natCast→EI
open Int renaming toNat_of_nonneg→EJ
open List renaming mem_cons→EK
open Bool renaming false_ne_true→EL
open List renaming map_append→EM
open List renaming length_append→EN
open Nat renaming ne_of_lt→EO
open Nat renaming le_refl→ER
open PySem.F renaming slot_list_append→ES
open PySem.F renaming type_list_append→ET
open List renaming mem_append→EU
open List renaming getElem?_append_right→EV
open List renaming getElem?_append_left→EW
open List renaming getElem_mem→EX
open List renaming length_cons→EY
open List renaming take_length→EZ
open Int renaming mul_nonneg→E1
open Option renaming bind_some→E2
open Nat renaming lt_of_lt_of_le→E3
open Nat renaming le_trans→E4
open List renaming not_mem_nil→E5
open List renaming all_eq_true→E6
open List renaming any_eq_true→E7
open Bool renaming eq_iff_iff→E8
open Bool renaming and_eq_true→E9
noncomputable section
namespace L2
open PySem PySem.Spec PyProof.Rows
abbrev Key:=Sum Int Str
def fX:Key->Value->Bool
 | .inl k,v=>Value.isInt k v
 | .inr x,v=>Value.isStrOf x v
def Aa(w:World):Key->Int
 | .inl k=>hashInt k
 | .inr x=>hashStr w x
theorem eS:∀{k:Key} {v:Value},fX k v=true->(∃i t,k=Sum.inl i/\v=Value.int i t)\/(∃x t,k=Sum.inr x/\v=Value.str x t)
 | .inl i,v,h=>by
  obtain⟨t,e⟩:=Value.isInt_shape (k:=i) (v:=v) h
  exact .inl ⟨i,t,rfl,e⟩
 | .inr x,v,h=>by
  obtain⟨t,e⟩:=Value.isStrOf_shape (x:=x) (v:=v) h
  exact .inr ⟨x,t,rfl,e⟩
theorem zN(i:Int)(t:Tok):fX (.inl i) (.int i t)=true:=by simp[fX,Value.isInt]
theorem BC(x:Str)(t:Tok):fX (.inr x) (.str x t)=true:=by simp[fX,Value.isStrOf]
theorem Ak(a b:Int):decide ((Sum.inl a:Key)=Sum.inl b)=(a == b):=by
 by_cases e:a=b
 ·subst e;simp
 ·have h:¬(Sum.inl a:Key)=Sum.inl b:=fun q=>e (Sum.inl.inj q)
  rw[decide_eq_false h]
  exact(beq_eq_false_iff_ne.mpr e).symm
theorem AD(a b:Str):decide ((Sum.inr a:Key)=Sum.inr b)=decide (a=b):=by
 by_cases e:a=b
 ·subst e;simp
 ·have h:¬(Sum.inr a:Key)=Sum.inr b:=fun q=>e (Sum.inr.inj q)
  rw[decide_eq_false h,decide_eq_false e]
theorem y9(a:Int)(b:Str):decide ((Sum.inl a:Key)=Sum.inr b)=false:=decide_eq_false (fun q=>nomatch q)
theorem CD(a:Str)(b:Int):decide ((Sum.inr a:Key)=Sum.inl b)=false:=decide_eq_false (fun q=>nomatch q)
def aO(prog:Program)(w:World):PySem.KeyKind prog w Key where
 is:=fX
 hash:=Aa w
 inj:=fun v a b ha hb=>by
  rcases eS ha with⟨i,t,rfl,rfl⟩ | ⟨x,t,rfl,rfl⟩
  ·rcases eS hb with⟨j,u,rfl,e⟩ | ⟨y,u,rfl,e⟩
   ·injection e with e1 _;rw[e1]
   ·exact nomatch e
  ·rcases eS hb with⟨j,u,rfl,e⟩ | ⟨y,u,rfl,e⟩
   ·exact nomatch e
   ·injection e with e1 _;rw[e1]
 byValue:=fun k v h=>by
  rcases eS h with⟨i,t,rfl,rfl⟩ | ⟨x,t,rfl,rfl⟩<;>rfl
 pyHash:=fun hv h=>by
  rcases eS hv with⟨i,t,rfl,rfl⟩ | ⟨x,t,rfl,rfl⟩
  ·exact wpAny_pyHash_int h
  ·exact wpAny_pyHash_str h
 eqBool:=fun hu hv h=>by
  rcases eS hu with⟨i,t,rfl,rfl⟩ | ⟨x,t,rfl,rfl⟩
  ·rcases eS hv with⟨j,u,rfl,rfl⟩ | ⟨y,u,rfl,rfl⟩
   ·rw[Ak]at h;exact wpAny_eqBool_int h
   ·rw[y9]at h;exact SeqAt.EqAt.int_str i t y u _ _ _ _ h
  ·rcases eS hv with⟨j,u,rfl,rfl⟩ | ⟨y,u,rfl,rfl⟩
   ·rw[CD]at h;exact SeqAt.EqAt.str_int x t j u _ _ _ _ h
   ·rw[AD]at h;exact wpAny_eqBool_str h
 «strs»:=fun k x t v h=>by
  rcases eS h with⟨i,u,rfl,e⟩ | ⟨y,u,rfl,e⟩
  ·exact nomatch e
  ·injection e with e1 _
   subst e1
   cases v<;>rfl
theorem yn(prog:Program)(w:World)(i:Int)(t:Tok):(aO prog w).is (.inl i) (.int i t)=true:=zN i t
theorem mQ(prog:Program)(w:World)(x:Str)(t:Tok):(aO prog w).is (.inr x) (.str x t)=true:=BC x t
end L2
namespace L2
open PySem PySem.Spec PyProof.Rows
inductive V where
 | non | bl (b:Bool) | int (i:Int) | str (x:Str) | byt (b:Array UInt8) | flt (b:UInt64) | ref (a:Addr) | ty (n:String)
 deriving DecidableEq
def RelV:V->Value->Prop
 | .non,u=>u=Value.none
 | .bl b,u=>u=Value.bool b
 | .int i,u=>∃t,u=Value.int i t
 | .str x,u=>∃t,u=Value.str x t
 | .byt b,u=>∃t,u=Value.bytes b t
 | .flt b,u=>∃t,u=Value.float b t
 | .ref a,u=>u=Value.ref a
 | .ty n,u=>u=Value.type n
abbrev Vals:List V->List Value->Prop:=Paired RelV
theorem Vals.length{xs:List V}{us:List Value}(r:Vals xs us):xs.length=us.length:=Paired.length r
theorem Vals.get:∀{xs:List V} {us:List Value} {i:Nat} {x:V},Vals xs us->xs[i]?=some x->∃u,us[i]?=some u/\RelV x u
 | _,_,_,_,.nil,e=>by simp at e
 | _,_,0,_,.cons r _,e=>by simp at e;subst e;exact⟨_,rfl,r⟩
 | _,_,i+1,x,.cons _ t,e=>by
  obtain⟨u,h1,h2⟩:=Vals.get (i:=i) (x:=x) t (by simpa using e)
  exact⟨u,by simpa using h1,h2⟩
theorem Vals.set{x:V}{u:Value}(r:RelV x u):∀{xs:List V} {us:List Value} (i:Nat),Vals xs us->Vals (xs.set i x) (us.set i u)
 | _,_,_,.nil=>.nil
 | _,_,0,.cons _ t=>.cons r t
 | _,_,i+1,.cons q t=>.cons q (Vals.set r i t)
theorem Vals.append:∀{xs ys:List V} {us ws:List Value},Vals xs us->Vals ys ws->Vals (xs++ys) (us++ws)
 | _,_,_,_,.nil,s=>s
 | _,_,_,_,.cons r t,s=>.cons r (Vals.append t s)
theorem Vals.take:∀{xs:List V} {us:List Value} (n:Nat),Vals xs us->Vals (xs.take n) (us.take n)
 | _,_,0,_=>.nil
 | _,_,_+1,.nil=>.nil
 | _,_,n+1,.cons r t=>.cons r (Vals.take n t)
theorem Vals.drop:∀{xs:List V} {us:List Value} (n:Nat),Vals xs us->Vals (xs.drop n) (us.drop n)
 | _,_,0,r=>r
 | _,_,_+1,.nil=>.nil
 | _,_,n+1,.cons _ t=>Vals.drop n t
def dR:Option V->Option Value->Prop
 | some v,some u=>RelV v u
 | none,none=>True
 | _,_=>False
def KV{κ:Type}:List (κ×V)->List (κ×Value)->Prop:=Paired fun(p:κ×V) (q:κ×Value)=>p.1=q.1/\RelV p.2 q.2
def kV:Key->V
 | .inl i=>.int i
 | .inr x=>.str x
inductive HO where
 /-- a list -/
 | lst (xs:List V)
 /-- a tuple (never changes) -/
 | tup (xs:List V)
 /-- a dict whose keys are ints and texts;one whose keys are tuples of ints and texts (the empty one is both) -/
 | dK (kvs:List (Key×V)) | dT (kvs:List (List Key×V))
 /-- a set of ints: its members,its size -/
 | set (S:Int->Bool) (n:Nat)
 /-- an instance of the class at C,its dict at dx,its attributes -/
 | ins (C dx:Addr) (fs:List (Str×V))
 /-- the dict of the instance at x -/
 | own (x:Addr)
 /-- the dict of an exception -/
 | xd (fs:List (Str×V))
 /-- a bound method,f of x -/
 | met (f x:Addr)
 /-- a range object lo,lo+1,.. below hi -/
 | rng (lo hi:Int)
 /-- a thing that is known to the object (the script;a dict while a loop walks it): read,never written while it is so -/
 | frz (o:Obj) (u:HO)
 /-- a code object's table -/
 | tbl (ps:Array Value)
 /-- any other thing,by what is true of its one object (a def of one's own: j6 a S n:=HO.ext fun h=>..) -/
 | ext (φ:Heap->Prop)
abbrev Hp:=Addr->Option HO
def upd(H:Hp)(a:Addr)(o:HO):Hp:=fun b=>if b=a then some o else H b
theorem aL{H:Hp}{a:Addr}{o:HO}:upd H a o a=some o:=by unfold upd;rw[if_pos rfl]
theorem az{H:Hp}{a b:Addr}{o:HO}(h:b≠a):upd H a o b=H b:=by unfold upd;rw[if_neg h]
theorem cK{H:Hp}{a b:Addr}{o u:HO}(h:H a=some o)(h':H b=some u)(d:o≠u):a≠b:=by
 intro e;subst e;rw[h]at h';exact d (Option.some.inj h')
theorem bX{H:Hp}{a b:Addr}{o:HO}(h:H a=some o)(h':H b=none):a≠b:=by
 intro e;subst e;rw[h]at h';cases h'
section
variable (P:Program) (w:World)
def br(H:Hp)(h:Heap)(a:Addr):HO->Prop
 | .lst xs=>xs.length<=sizeLine/\∃(its:List Value) (n:Nat),Vals xs its/\h.get? a=some { cls:=.type "list",data:=.seq its.toArray n }
 | .tup xs=>xs.length<=sizeLine/\∃its:List Value,Vals xs its/\IsTup h a its.toArray
 | .dK kvs=>kvs.length<=sizeLine/\(a == sysModules)=false/\∃vs,KV kvs vs/\h.DictOf (aO P w) a vs
 | .dT kvs=>kvs.length<=sizeLine/\(a == sysModules)=false/\∃xs:List (List Key×Addr×Value),
   Paired (fun(p:List Key×V) (q:List Key×Addr×Value)=>p.1=q.1/\H q.2.1=some (.tup (p.1.map kV))/\RelV p.2 q.2.2) kvs xs ∧
   ∃o es ep,h.get? a=some o/\o.ExactDict/\o.data=.dict es ep/\es.toList=xs.map (entryOfKey (tupleKind (aO P w)))/\(xs.map (·.1)).Nodup
 | .set S n=>h.SetOf (intKind P w) a S n
 | .ins C dx fs=>H dx=some (.own a)/\fs.length<=1000/\dx≠a/\h.get? a=some (PySem.W.instObj C dx) ∧
   ∃mA,h.Ns1 dx mA/\(∀f,dR (fs.lookup f) (mA f))/\PySem.Within mA (fs.map (·.1))
 | .own _=>∃o,h.get? a=some o
 | .xd fs=>∃mA,h.Ns1 a mA/\∀f,dR (fs.lookup f) (mA f)
 | .rng lo hi=>∃t u v,h.get? a=some { cls:=.type "range",data:=.fields #[.int lo t,.int hi u,.int 1 v] }
 | .frz o u=>h.get? a=some o/\br H h a u
 | .tbl ps=>h.get? a=some { cls:=.none,data:=.fields ps }
 | .met f x=>h.get? a=some (PySem.W.methodObj (.ref f) (.ref x))
 | .ext φ=>φ h/\(∃o,h.get? a=some o)/\∀h1 h2:Heap,φ h1->(∀o,h1.get? a=some o->h2.get? a=some o)->φ h2
def aZ(H:Hp)(h:Heap):Prop:=∀a o,H a=some o->br P w H h a o
end
section
variable {P:Program} {w:World} {H H':Hp} {h h':Heap} {a:Addr} {o:HO}
theorem br.lt(x:br P w H h a o):a<h.objs.size:=by
 cases o with
 | lst xs=>obtain⟨_,_,_,_,e⟩:=x;exact Es e
 | tup xs=>obtain⟨_,_,_,p⟩:=x;exact p.lt
 | dK kvs=>obtain⟨_,_,_,_,o,_,_,e,_⟩:=x;exact Es e
 | dT kvs=>obtain⟨_,_,_,_,o,_,_,e,_⟩:=x;exact Es e
 | set S n=>obtain⟨o,_,_,_,e,_⟩:=x;exact Es e
 | ins C dx fs=>obtain⟨_,_,_,e,_⟩:=x;exact Es e
 | own y=>obtain⟨_,e⟩:=x;exact Es e
 | xd fs=>obtain⟨_,⟨_,_,_,e,_⟩,_⟩:=x;exact Es e
 | rng lo hi=>obtain⟨_,_,_,e⟩:=x;exact Es e
 | frz ob u=>obtain⟨e,_⟩:=x;exact Es e
 | tbl ps=>exact Es (show h.get? a=some _ from x)
 | met f y=>exact Es (show h.get? a=some _ from x)
 | ext φ=>obtain⟨_,⟨_,e⟩,_⟩:=x;exact Es e
theorem Paired.mapP{α β:Type}{F G:α->β->Prop}:∀{l₁:List α} {l₂:List β},Paired F l₁ l₂->(∀a b,F a b->G a b)->Paired G l₁ l₂
 | _,_,.nil,_=>.nil
 | _,_,.cons r t,f=>.cons (f _ _ r) (Paired.mapP t f)
theorem br.stay(x:br P w H h a o)(k:∀b u,(b=a\/H b=some (.own a))->h.get? b=some u->h'.get? b=some u)
  (ho:∀b,H b=some (.own a)->H' b=some (.own a)) (ht:∀b xs,H b=some (.tup xs)->H' b=some (.tup xs)):br P w H' h' a o:=by
 induction o with
 | lst xs=>obtain⟨z,its,n,r,e⟩:=x;exact⟨z,its,n,r,k _ _ (.inl rfl) e⟩
 | tup xs=>obtain⟨z,its,r,ob,e,c⟩:=x;exact⟨z,its,r,ob,k _ _ (.inl rfl) e,c⟩
 | dK kvs=>obtain⟨z,y,vs,r,ob,es,ep,e,c⟩:=x;exact⟨z,y,vs,r,ob,es,ep,k _ _ (.inl rfl) e,c⟩
 | dT kvs=>
  obtain⟨z,y,xs,r,ob,es,ep,e,c⟩:=x
  exact⟨z,y,xs,Paired.mapP r fun p q z=>⟨z.1,ht _ _ z.2.1,z.2.2⟩,ob,es,ep,k _ _ (.inl rfl) e,c⟩
 | set S n=>obtain⟨ob,es,ep,t,e,c⟩:=x;exact⟨ob,es,ep,t,k _ _ (.inl rfl) e,c⟩
 | ins C dx fs=>
  obtain⟨d,z,ne,e,mA,⟨od,es,ep,e2,c⟩,r⟩:=x
  exact⟨ho _ d,z,ne,k _ _ (.inl rfl) e,mA,⟨od,es,ep,k _ _ (.inr d) e2,c⟩,r⟩
 | own y=>obtain⟨ob,e⟩:=x;exact⟨ob,k _ _ (.inl rfl) e⟩
 | xd fs=>obtain⟨mA,⟨od,es,ep,e,c⟩,r⟩:=x;exact⟨mA,⟨od,es,ep,k _ _ (.inl rfl) e,c⟩,r⟩
 | rng lo hi=>obtain⟨t,u,v,e⟩:=x;exact⟨t,u,v,k _ _ (.inl rfl) e⟩
 | frz ob u ih=>obtain⟨e,q⟩:=x;exact⟨k _ _ (.inl rfl) e,ih q⟩
 | tbl ps=>
  have e:h.get? a=some { cls:=.none,data:=.fields ps }:=x
  show h'.get? a=some { cls:=.none,data:=.fields ps }
  exact k a _ (.inl rfl) e
 | met f y=>
  have e:h.get? a=some (PySem.W.methodObj (.ref f) (.ref y)):=x
  show h'.get? a=some (PySem.W.methodObj (.ref f) (.ref y))
  exact k a _ (.inl rfl) e
 | ext φ=>obtain⟨p,⟨o,e⟩,st⟩:=x;exact⟨st _ _ p fun o q=>k _ _ (.inl rfl) q,⟨o,k _ _ (.inl rfl) e⟩,st⟩
theorem aZ.lt(x:aZ P w H h)(e:H a=some o):a<h.objs.size:=(x a o e).lt
theorem aZ.fresh(x:aZ P w H h)(e:h.objs.size<=a):H a=none:=by
 cases q:H a with
 | none=>rfl
 | some u=>exact absurd (E3 (x.lt q) e) (Nat.lt_irrefl _)
theorem aZ.kept(x:aZ P w H h)(k:∀b u,h.get? b=some u->h'.get? b=some u):aZ P w H h':=fun a o e=>
 (x a o e).stay (fun b u _ q=>k b u q) (fun _ q=>q) fun _ _ q=>q
theorem aZ.laid(x:aZ P w H h)(k:∀b u,h.get? b=some u->h'.get? b=some u)(hp:h.objs.size<=a)(new:br P w (upd H a o) h' a o):aZ P w (upd H a o) h':=fun b u e=>by
 have hn:=x.fresh hp
 by_cases hb:b=a
 ·subst hb;rw[aL]at e;cases e;exact new
 ·rw[az hb]at e
  exact(x b u e).stay (fun c v _ q=>k c v q) (fun c q=>by rw[az (bX q hn)];exact q) fun c xs q=>by rw[az (bX q hn)];exact q
end
def Rd(H:Hp)(a:Addr)(u:HO):Prop:=H a=some u\/∃o,H a=some (.frz o u)
theorem Rd.ok{P:Program}{w:World}{H:Hp}{h:Heap}{a:Addr}{u:HO}(r:Rd H a u)(x:aZ P w H h):br P w H h a u:=by
 rcases r with r | ⟨o,r⟩
 ·exact x a u r
 ·obtain⟨_,q⟩:=x a _ r
  exact q
def jj:Option HO->Prop
 | some (.lst _)=>True
 | some (.dK _)=>True
 | some (.dT _)=>True
 | some (.set _ _)=>True
 | some (.ins _ _ _)=>True
 | some (.ext _)=>True
 | _=>False
section
variable {P:Program} {w:World} {H:Hp} {h h':Heap} {x e:Addr} {o':HO}
theorem aZ.write(ok:aZ P w H h)(mu:jj (H x))(he:e=x\/H e=some (.own x))(k:∀b u,b≠e->h.get? b=some u->h'.get? b=some u)(heo:∃u,h'.get? e=some u)
  (new:br P w (upd H x o') h' x o'):aZ P w (upd H x o') h':=fun b u q=>by
 have nown:∀c y,H c=some (.own y)->c≠x:=fun c y r z=>by subst z;rw[r]at mu;exact mu
 have ntup:∀c xs,H c=some (.tup xs)->c≠x:=fun c xs r z=>by subst z;rw[r]at mu;exact mu
 by_cases hb:b=x
 ·subst hb;rw[aL]at q;cases q;exact new
 ·rw[az hb]at q
  by_cases hbe:b=e
  ·have q':H b=some (.own x):=by
    rcases he with z | z
    ·exact absurd (hbe.trans z) hb
    ·rw[hbe];exact z
   rw[q]at q';cases q'
   obtain⟨v,hv⟩:=heo
   exact⟨v,by rw[hbe];exact hv⟩
  ·refine(ok b u q).stay (fun c v hc r=>k c v ?_ r) (fun c r=>by rw[az (nown c b r)];exact r) fun c xs r=>by rw[az (ntup c xs r)];exact r
   rcases hc with rfl | hc
   ·exact hbe
   ·rintro rfl
    rcases he with z | z
    ·exact nown c b hc z
    ·rw[hc]at z;cases z;exact hb rfl
end
structure Un(fs ex:List Addr)(H H':Hp)(h h':Heap):Prop where
 keep:∀b o,h.get? b=some o->H b=none->b∉fs->b∉ex->h'.get? b=some o
 slot:∀b o,h.get? b=some o->H b=none->b∈fs->b∉ex->∃sl,h'.get? b=some { o with slots:=sl }
 free:∀b o,h.get? b=some o->H b=none->b∉ex->H' b=none
 there:∀b o,h.get? b=some o->b∉ex->∃o',h'.get? b=some o'
 tups:∀b xs,H b=some (.tup xs)->H' b=some (.tup xs)
 frzs:∀b o u,H b=some (.frz o u)->H' b=some (.frz o u)
 tbls:∀b ps,H b=some (.tbl ps)->∃more,H' b=some (.tbl (ps++more))
section
variable {fs fs' ex ex':List Addr} {H H1 H2:Hp} {h h1 h2 h':Heap} {a x e:Addr} {o:HO}
theorem Un.any(u:Un fs ex H H1 h h1){b:Addr}{ob:Obj}(q:h.get? b=some ob)(n:H b=none)(hx:b∉ex):∃sl,h1.get? b=some { ob with slots:=sl }:=by
 by_cases hb:b∈fs
 ·exact u.slot b ob q n hb hx
 ·exact⟨ob.slots,u.keep b ob q n hb hx⟩
theorem Un.kept(k:∀b u,h.get? b=some u->h'.get? b=some u):Un fs ex H H h h':=
 ⟨fun b ob q _ _ _=>k b ob q,fun b ob q _ _ _=>⟨ob.slots,k b ob q⟩,fun _ _ _ n _=>n,fun b ob q _=>⟨ob,k b ob q⟩,fun _ _ q=>q,fun _ _ _ q=>q,fun _ ps q=>⟨#[],by rw[q];simp⟩⟩
theorem Un.refl:Un fs ex H H h h:=Un.kept fun _ _ q=>q
theorem Un.laid(k:∀b u,h.get? b=some u->h'.get? b=some u)(hp:h.objs.size<=a)(hn:H a=none):Un fs ex H (upd H a o) h h' where
 keep:=fun b u q _ _ _=>k b u q
 slot:=fun b u q _ _ _=>⟨u.slots,k b u q⟩
 free:=fun b u q n _=>by rw[az (EO (E3 (Es q) hp))];exact n
 there:=fun b u q _=>⟨u,k b u q⟩
 tups:=fun b xs q=>by rw[az (bX q hn)];exact q
 frzs:=fun b u xs q=>by rw[az (bX q hn)];exact q
 tbls:=fun b ps q=>⟨#[],by rw[az (bX q hn),q];simp⟩
theorem Un.write(mu:jj (H x))(he:e=x\/H e=some (.own x))(k:∀b u,b≠e->h.get? b=some u->h'.get? b=some u)(heo:∃u,h'.get? e=some u):Un fs ex H (upd H x o) h h':=by
 have hx:∀b,H b=none->b≠x:=fun b n z=>by subst z;rw[n]at mu;exact mu
 have hb:∀b,H b=none->b≠e:=fun b n z=>by
  subst z
  rcases he with r | r
  ·exact hx b n r
  ·rw[n]at r;cases r
 have hm:∀b u,H b=some u->¬jj (some u)->b≠x:=fun b u q nm z=>by subst z;rw[q]at mu;exact nm mu
 refine⟨fun b u q n _ _=>k b u (hb b n) q,fun b u q n _ _=>⟨u.slots,k b u (hb b n) q⟩,fun b u q n _=>by rw[az (hx b n)];exact n,fun b u q _=>?_,
  fun b xs q=>by rw[az (hm b _ q fun z=>z)];exact q,fun b u xs q=>by rw[az (hm b _ q fun z=>z)];exact q,fun b ps q=>⟨#[],by rw[az (hm b _ q fun z=>z),q];simp⟩⟩
 by_cases hbe:b=e
 ·subst hbe;exact heo
 ·exact⟨u,k b u hbe q⟩
end
def ko(h:Heap)(H:Hp):List Addr:=(List.range h.objs.size).filter fun a=>(H a).isSome
def eT(h:Heap)(H:Hp):Heap:=PySem.W.hideAll h (ko h H)
theorem Dr(h:Heap)(H:Hp):(eT h H).objs.size=h.objs.size:=PySem.W.hideAll_size _ _
theorem j8{h:Heap}{H:Hp}{b:Addr}{o:Obj}(e:h.get? b=some o)(n:H b=none):(eT h H).get? b=some o:=
 PySem.W.hideAll_get _ e fun hm=>by
  have q:(H b).isSome=true:=(List.mem_filter.mp hm).2
  rw[n]at q;simp at q
theorem DD{h:Heap}{H:Hp}{b:Addr}{o:Obj}(e:(eT h H).get? b=some o):h.get? b=some o/\H b=none:=by
 have e':h.get? b=some o:=PySem.W.of_hideAll (ko h H) e
 refine⟨e',?_⟩
 cases q:H b with
 | none=>rfl
 | some x=>
  have hm:b∈ko h H:=List.mem_filter.mpr ⟨List.mem_range.mpr (Es e'),by simp[q]⟩
  have z:(eT h H).get? b=none:=PySem.W.hideAll_none (ko h H) hm
  rw[z]at e;cases e
end L2
namespace L2
open PySem PySem.Spec PyProof.Rows
structure Mod(K:Eo)(mg:Str->Option Value)(base:Heap):Prop where
 kin:K.In base
 glob:base.Ns mainGlobals mg
 blt:∃mb,base.Ns builtinsNs mb/\∀x:Str,x≠"__name__"->mb x=bootBuiltins x
 nolimit:base.NoLimit
structure Cx where
 prog:Program
 w:World
 K:Eo
 mg:Str->Option Value
 base:Heap
 A:Around
 N:List Str
 s₀:Shared
 H₀:Hp
 env:Env
 outer:List Env
 stack:List Env
 ex:List Addr
 fn:Str->Bool
 calm:Bool
 pn:List (Addr×Obj)
 xe:Value->Shared->Prop
def cR(l:List Env):List Addr:=l.filterMap (·.frame)
abbrev Cx.fs(X:Cx):List Addr:=cR X.outer
def kS(sc:Scope)(x:Str):Prop:=sc.names.lookup x=some .local\/sc.names.lookup x=some .cell\/sc.names.lookup x=some .free
def Loc(sc:Scope)(x:Str):Prop:=sc.names.lookup x=some .local\/sc.names.lookup x=some .cell
def Look(env:Env)(h:Heap)(m:Str->Option Value)(x:Str)(u:Value):Prop:=
 (env.kindOf x=some .local/\m x=some u)\/((env.kindOf x=some .cell\/env.kindOf x=some .free)/\∃c,env.cells.lookup x=some c/\h.IsCell c (some u))
structure Cx.Ok(X:Cx):Prop where
 mod:Mod X.K X.mg X.base
 kind:X.env.scope.kind=.function
 glob:X.env.globals=mainGlobals
 blt:X.env.builtins=builtinsNs
 above:X.s₀.heap.objs.size<=X.env.locals
 inj:∀x y c,X.env.cells.lookup x=some c->X.env.cells.lookup y=some c->x=y
 has:∀x,(X.env.kindOf x=some .cell\/X.env.kindOf x=some .free)->∃c,X.env.cells.lookup x=some c
 cab:∀x c,X.fn x=true->X.env.cells.lookup x=some c->X.s₀.heap.objs.size<=c
 hd:X.calm=true->X.A.handled=none
 frames:X.A.frames=some X.stack
 stk:X.stack=X.outer\/(X.stack=X.env::X.outer/\X.env.frame=some X.env.locals)
 exf:∀b∈X.ex,b≠X.env.locals/\∀x c,X.env.cells.lookup x=some c->c≠b
 bs:∀b o,X.base.get? b=some o->X.s₀.heap.get? b=some o/\X.H₀ b=none
 bsz:X.base.objs.size<=X.s₀.heap.objs.size
 noex:∀b o,X.base.get? b=some o->b∉X.ex
 exfs:∀b∈X.ex,b∉X.fs
 funs:X.s₀.heap.FunFrames X.base X.outer
 frf:∀b∈X.fs,X.H₀ b=none
structure Inv(X:Cx)(pins:List (Addr×Obj))(σ:List (Option V))(H:Hp)(s:Shared):Prop where
 ok:X.Ok
 os:s.os=X.s₀.os
 bare:AllBare s.gens
 base:Un X.fs X.ex X.H₀ H X.s₀.heap s.heap
 loc:∃m,s.heap.Ns X.env.locals m/\∀(i:Nat) (x:Str) (v:V),X.N[i]?=some x->σ[i]?=some (some v)->kS X.env.scope x->∃u,RelV v u/\Look X.env s.heap m x u
 cell:∀x c,X.env.cells.lookup x=some c->∃v,s.heap.IsCell c v
 free:H X.env.locals=none
 freeC:∀x c,X.env.cells.lookup x=some c->H c=none
 pin:∀p∈X.pn++pins,s.heap.get? p.1=some p.2/\H p.1=none/\p.1≠X.env.locals/\p.1∉X.fs/\∀v,p.2.data≠.cell v
 hok:aZ X.prog X.w H s.heap
 len:σ.length=X.N.length
section
variable {X:Cx} {pins:List (Addr×Obj)} {σ:List (Option V)} {H H':Hp} {s:Shared} {h':Heap}
theorem Cx.Ok.nofr(ok:X.Ok){b:Addr}{o:Obj}(e:X.base.get? b=some o):b∉X.fs:=fun hb=>by
 have:=(ok.funs.mem hb).1
 rw[e]at this;cases this
theorem Inv.bs(I:Inv X pins σ H s):∀b o,X.base.get? b=some o->s.heap.get? b=some o/\H b=none:=fun b o e=>
 ⟨I.base.keep b o (I.ok.bs b o e).1 (I.ok.bs b o e).2 (I.ok.nofr e) (I.ok.noex b o e),I.base.free b o (I.ok.bs b o e).1 (I.ok.bs b o e).2 (I.ok.noex b o e)⟩
theorem Inv.bk(I:Inv X pins σ H s):∀b o,X.base.get? b=some o->s.heap.get? b=some o:=fun b o e=>(I.bs b o e).1
theorem Inv.mod(I:Inv X pins σ H s):Mod X.K X.mg X.base:=I.ok.mod
theorem Inv.kIn(I:Inv X pins σ H s):X.K.In s.heap:=I.ok.mod.kin.keeps I.bk
theorem Inv.lt(I:Inv X pins σ H s):X.env.locals<s.heap.objs.size:=let ⟨_,hn,_⟩:=I.loc;hn.lt
theorem Inv.sz(I:Inv X pins σ H s):X.s₀.heap.objs.size<=s.heap.objs.size:=E4 I.ok.above (Nat.le_of_lt I.lt)
theorem Inv.nofs(I:Inv X pins σ H s){a:Addr}(h:s.heap.objs.size<=a):a∉X.fs:=fun hb=>by
 obtain⟨_,o,ho,_⟩:=I.ok.funs.mem hb
 exact absurd (E3 (Es ho) (E4 I.sz h)) (Nat.lt_irrefl _)
theorem Inv.cne(I:Inv X pins σ H s):∀x c,X.env.cells.lookup x=some c->c≠X.env.locals:=fun x c e z=>by
 obtain⟨v,o,ho,hd⟩:=I.cell x c e
 obtain⟨m,⟨o',es,ep,ho',hd',_⟩,_⟩:=I.loc
 rw[z,ho']at ho;cases ho;rw[hd']at hd;cases hd
theorem Inv.funs(I:Inv X pins σ H s):s.heap.FunFrames X.base X.outer:=by
 have all:∀(l:List Env),(∀b∈cR l,b∈X.fs)->X.s₀.heap.FunFrames X.base l->s.heap.FunFrames X.base l:=by
  intro l
  induction l with
  | nil=>intro _ _;trivial
  | cons env r ih=>
   intro hs hl
   obtain⟨hk,⟨L,o,hf,hn,ho,hd⟩,hr⟩:=hl
   have hL:L∈X.fs:=hs L (by unfold cR;rw[List.filterMap_cons,hf];exact EC)
   obtain⟨sl,e⟩:=I.base.slot L o ho (I.ok.frf L hL) hL fun z=>I.ok.exfs L z hL
   exact⟨hk,⟨L,_,hf,hn,e,hd⟩,ih (fun b hb=>hs b (by unfold cR;rw[List.filterMap_cons,hf];exact Ez _ hb)) hr⟩
 exact all X.outer (fun _ hb=>hb) I.ok.funs
theorem Inv.stack(I:Inv X pins σ H s):s.heap.FunFrames X.base X.stack:=by
 rcases I.ok.stk with e | ⟨e,hf⟩
 ·rw[e];exact I.funs
 ·rw[e]
  obtain⟨m,hn,_⟩:=I.loc
  refine .cons (by rw[I.ok.kind];decide) hf hn ?_ I.funs
  exact Heap.get?_none_of_le (E4 I.ok.bsz I.ok.above)
theorem Inv.stkSub(I:Inv X pins σ H s):∀b∈cR X.stack,b∈X.env.locals::X.fs:=fun b hb=>by
 rcases I.ok.stk with e | ⟨e,hf⟩
 ·rw[e]at hb;exact Ez _ hb
 ·rw[e]at hb
  unfold cR at hb
  rw[List.filterMap_cons,hf]at hb
  exact hb
theorem Inv.stkFree(I:Inv X pins σ H s):∀b∈cR X.stack,H b=none:=fun b hb=>by
 rcases EK.mp (I.stkSub b hb)with e | hb
 ·rw[e];exact I.free
 ·obtain⟨_,o,ho,_⟩:=I.ok.funs.mem hb
  exact I.base.free b o ho (I.ok.frf b hb) fun z=>I.ok.exfs b z hb
theorem Inv.step{g':Array GenState}{t':Nat}{d':Drawn}{ch:List Addr}(I:Inv X pins σ H s)
  (hch:∀b∈ch,(b∈X.ex\/X.s₀.heap.objs.size<=b)/\b≠X.env.locals/\(∀x c,X.env.cells.lookup x=some c->c≠b)/\∀p∈X.pn++pins,p.1≠b)
  (keep:∀b o,b≠X.env.locals->b∉X.fs->b∉ch->s.heap.get? b=some o->H b=none->h'.get? b=some o)
  (slot:∀b o,b≠X.env.locals->b∈X.fs->b∉ch->s.heap.get? b=some o->H b=none->∃sl,h'.get? b=some { o with slots:=sl }) (free:∀b o,b∉ch->s.heap.get? b=some o->H b=none->H' b=none)
  (there:∀b o,b∉ch->s.heap.get? b=some o->∃o',h'.get? b=some o')
  (tups:∀b xs,H b=some (.tup xs)->H' b=some (.tup xs)) (frzs:∀b o u,H b=some (.frz o u)->H' b=some (.frz o u)) (tbls:∀b ps,H b=some (.tbl ps)->∃more,H' b=some (.tbl (ps++more)))
  (ns:∀m,s.heap.Ns X.env.locals m->h'.Ns X.env.locals m) (hok:aZ X.prog X.w H' h') (hg:AllBare g') :
  Inv X pins σ H' { s with heap:=h',gens:=g',drawn:=d',toks:=t' }:=by
 have neL:∀b o,X.s₀.heap.get? b=some o->b≠X.env.locals:=fun b o e=>EO (E3 (Es e) I.ok.above)
 have neC:∀b o,X.s₀.heap.get? b=some o->b∉X.ex->b∉ch:=fun b o e hx hb=>by
  rcases(hch b hb).1 with z | z
  ·exact hx z
  ·exact absurd (E3 (Es e) z) (Nat.lt_irrefl _)
 have cellK:∀x c,X.env.cells.lookup x=some c->∀v,s.heap.IsCell c v->h'.IsCell c v:=fun x c e v ⟨o,ho,hd⟩=>by
  have nch:c∉ch:=fun z=>(hch c z).2.2.1 x c e rfl
  by_cases hc:c∈X.fs
  ·obtain⟨sl,q⟩:=slot c o (I.cne x c e) hc nch ho (I.freeC x c e)
   exact⟨_,q,hd⟩
  ·exact⟨o,keep c o (I.cne x c e) hc nch ho (I.freeC x c e),hd⟩
 refine⟨I.ok,I.os,hg,⟨fun b o e n hb hx=>?_,fun b o e n hb hx=>?_,fun b o e n hx=>?_,fun b o e hx=>?_,fun b xs e=>tups b xs (I.base.tups b xs e),fun b o xs e=>frzs b o xs (I.base.frzs b o xs e),fun b ps e=>?_⟩,?_,fun x c e=>?_,?_,fun x c e=>?_,fun p hp=>?_,hok,I.len⟩
 ·exact keep b o (neL b o e) hb (neC b o e hx) (I.base.keep b o e n hb hx) (I.base.free b o e n hx)
 ·obtain⟨sl,e1⟩:=I.base.slot b o e n hb hx
  obtain⟨sl',e2⟩:=slot b _ (neL b o e) hb (neC b o e hx) e1 (I.base.free b o e n hx)
  exact⟨sl',e2⟩
 ·obtain⟨o',e1⟩:=I.base.there b o e hx
  exact free b o' (neC b o e hx) e1 (I.base.free b o e n hx)
 ·obtain⟨o',e1⟩:=I.base.there b o e hx
  exact there b o' (neC b o e hx) e1
 ·obtain⟨m1,e1⟩:=I.base.tbls b ps e
  obtain⟨m2,e2⟩:=tbls b _ e1
  exact⟨m1++m2,by rw[e2,Array.append_assoc]⟩
 ·obtain⟨m,hn,hl⟩:=I.loc
  refine⟨m,ns m hn,fun i x v e1 e2 e3=>?_⟩
  obtain⟨u,r,l⟩:=hl i x v e1 e2 e3
  refine⟨u,r,?_⟩
  rcases l with l | ⟨k,c,e,z⟩
  ·exact .inl l
  ·exact .inr ⟨k,c,e,cellK x c e _ z⟩
 ·obtain⟨v,z⟩:=I.cell x c e
  exact⟨v,cellK x c e v z⟩
 ·obtain⟨m,⟨o,_,_,ho,_⟩,_⟩:=I.loc
  exact free _ o (fun z=>(hch _ z).2.1 rfl) ho I.free
 ·obtain⟨v,o,ho,hd⟩:=I.cell x c e
  exact free c o (fun z=>(hch c z).2.2.1 x c e rfl) ho (I.freeC x c e)
 ·obtain⟨e,n,ne,nf,d⟩:=I.pin p hp
  have nch:p.1∉ch:=fun z=>(hch p.1 z).2.2.2 p hp rfl
  exact⟨keep p.1 p.2 ne nf nch e n,free p.1 p.2 nch e n,ne,nf,d⟩
theorem Inv.un{t':Nat}(I:Inv X pins σ H s)(u:Un X.fs [] H H' s.heap h')(hok:aZ X.prog X.w H' h'):Inv X pins σ H' { s with heap:=h',toks:=t' }:=by
 obtain⟨m,⟨o,es,ep,ho,r⟩,_⟩:=id I.loc
 obtain⟨sl,hL⟩:=u.any ho I.free (by simp)
 exact I.step (g':=s.gens) (d':=s.drawn) (ch:=[]) (fun _ z=>nomatch z) (fun b o _ hb _ e n=>u.keep b o e n hb (by simp)) (fun b o _ hb _ e n=>u.slot b o e n hb (by simp)) (fun b o _ e n=>u.free b o e n (by simp)) (fun b o _ e=>u.there b o e (by simp)) u.tups u.frzs u.tbls (fun m' hm=>by
  obtain⟨o',es',ep',ho',r'⟩:=hm
  rw[ho]at ho';cases ho'
  exact⟨_,es',ep',hL,r'⟩) hok I.bare
theorem Inv.call{g':Array GenState}{t':Nat}{d':Drawn}{ch:List Addr}(I:Inv X pins σ H s)(u:Un (cR X.stack) ch H H' s.heap h')(hok:aZ X.prog X.w H' h')(hg:AllBare g')
  (hch:∀b∈ch,(b∈X.ex\/X.s₀.heap.objs.size<=b)/\b≠X.env.locals/\(∀x c,X.env.cells.lookup x=some c->c≠b)/\∀p∈X.pn++pins,p.1≠b) :
  Inv X pins σ H' { s with heap:=h',gens:=g',drawn:=d',toks:=t' }:=by
 obtain⟨m,⟨o,es,ep,ho,r⟩,_⟩:=id I.loc
 obtain⟨sl,hL⟩:=u.any ho I.free fun z=>(hch _ z).2.1 rfl
 exact I.step (ch:=ch) hch (fun b o hL hb hc e n=>u.keep b o e n (fun z=>(EK.mp (I.stkSub b z)).elim hL hb) hc) (fun b o _ _ hc e n=>u.any e n hc) (fun b o hc e n=>u.free b o e n hc) (fun b o hc e=>u.there b o e hc) u.tups u.frzs u.tbls (fun m' hm=>by
  obtain⟨o',es',ep',ho',r'⟩:=hm
  rw[ho]at ho';cases ho'
  exact⟨_,es',ep',hL,r'⟩) hok hg
theorem Inv.turned{t':Nat}{it:Addr}(I:Inv X pins σ H s)(k:∀b o,b≠it->s.heap.get? b=some o->h'.get? b=some o)(hn:H it=none)(hL:it≠X.env.locals)
  (h1:it∈X.ex\/X.s₀.heap.objs.size<=it) (h2:∀x c,X.env.cells.lookup x=some c->c≠it) (h3:∀p∈X.pn++pins,p.1≠it):Inv X pins σ H { s with heap:=h',toks:=t' }:=by
 have nit:∀b u,H b=some u->b≠it:=fun b u e z=>by rw[z,hn]at e;cases e
 refine I.step (g':=s.gens) (d':=s.drawn) (ch:=[it]) (fun b hb=>?_) (fun b o _ _ hc e _=>k b o (fun z=>hc (by simp[z])) e) (fun b o _ _ hc e _=>⟨o.slots,k b o (fun z=>hc (by simp[z])) e⟩) (fun _ _ _ _ n=>n)
  (fun b o hc e=>⟨o,k b o (fun z=>hc (by simp[z])) e⟩) (fun _ _ e=>e) (fun _ _ _ e=>e) (fun b ps e=>⟨#[],by rw[e];simp⟩) (fun m hm=>?_) (fun b u e=>?_) I.bare
 ·have e:b=it:=by simpa using hb
  subst e
  exact⟨h1,hL,h2,h3⟩
 ·obtain⟨o,es,ep,ho,r⟩:=hm
  exact⟨o,es,ep,k _ o (Ne.symm hL) ho,r⟩
 ·refine(I.hok b u e).stay (fun c v hc q=>k c v ?_ q) (fun _ q=>q) fun _ _ q=>q
  rcases hc with z | z
  ·rw[z];exact nit b u e
  ·exact nit c _ z
theorem Inv.tok(I:Inv X pins σ H s)(t:Nat):Inv X pins σ H { s with toks:=t }:=I.un (h':=s.heap) (t':=t) Un.refl I.hok
theorem Inv.kept{t':Nat}(I:Inv X pins σ H s)(k:∀b u,s.heap.get? b=some u->h'.get? b=some u):Inv X pins σ H { s with heap:=h',toks:=t' }:=I.un (Un.kept k) (I.hok.kept k)
theorem Inv.laid{a:Addr}{o:HO}{t':Nat}(I:Inv X pins σ H s)(k:∀b u,s.heap.get? b=some u->h'.get? b=some u)(hp:s.heap.objs.size<=a)(new:br X.prog X.w (upd H a o) h' a o):
  Inv X pins σ (upd H a o) { s with heap:=h',toks:=t' }:=I.un (Un.laid k hp (I.hok.fresh hp)) (I.hok.laid k hp new)
theorem Inv.write{x e:Addr}{o:HO}{t':Nat}(I:Inv X pins σ H s)(mu:jj (H x))(he:e=x\/H e=some (.own x))(k:∀b u,b≠e->s.heap.get? b=some u->h'.get? b=some u)(heo:∃u,h'.get? e=some u)
  (new:br X.prog X.w (upd H x o) h' x o):Inv X pins σ (upd H x o) { s with heap:=h',toks:=t' }:=I.un (Un.write mu he k heo) (I.hok.write mu he k heo new)
theorem Inv.pins_of{pins':List (Addr×Obj)}(I:Inv X pins σ H s)(h:∀p∈pins',s.heap.get? p.1=some p.2/\H p.1=none/\p.1≠X.env.locals/\p.1∉X.fs/\∀v,p.2.data≠.cell v):Inv X pins' σ H s:=
 ⟨I.ok,I.os,I.bare,I.base,I.loc,I.cell,I.free,I.freeC,fun p hp=>(EU.mp hp).elim (fun z=>I.pin p (List.mem_append_left _ z)) (h p),I.hok,I.len⟩
theorem qS{N:List Str}(hN:N.Nodup){i j:Nat}{x:Str}(a:N[i]?=some x)(b:N[j]?=some x):i=j:=by
 obtain⟨h1,e1⟩:=EE.mp a
 obtain⟨h2,e2⟩:=EE.mp b
 exact(List.getElem_inj hN).mp (e1.trans e2.symm)
theorem tG{M:Model}{A:Around}{E:Value->Shared->Prop}{i:Nat}{x:Str}{v:V}{u:Value}{Q:Unit->Shared->Prop}(I:Inv X pins σ H s)(hN:X.N.Nodup)(hi:X.N[i]?=some x)(hx:Loc X.env.scope x)(r:RelV v u)
  (h:∀s',Inv X pins (σ.set i (some v)) H s'->(∃a,Heap.SameBut a s.heap s'.heap/\(a=X.env.locals\/X.env.cells.lookup x=some a))->Q () s') (hf:X.fn x=true\/X.env.scope.names.lookup x=some .local:=by first | exact .inl rfl | exact .inr rfl | assumption):wpAny M A (storeName X.env x u) Q E s:=by
 obtain⟨m,hn,hl⟩:=id I.loc
 have hcls:(X.env.scope.kind == .class || (X.env.scope.kind == .module && X.env.locals != X.env.globals))=false:=by rw[I.ok.kind];rfl
 have hiσ:i<σ.length:=by rw[I.len];exact(EE.mp hi).1
 have cne:=I.cne
 have tracked:∀{a:Addr} {h':Heap},(∃o,s.heap.get? a=some o/\H a=none)->Heap.SameBut a s.heap h'->aZ X.prog X.w H h':=fun{a h'} ha hs b ob e=>by
  obtain⟨_,_,hfree⟩:=ha
  refine(I.hok b ob e).stay (fun c w' hc q=>(hs.2 c ?_).trans q) (fun _ q=>q) fun _ _ q=>q
  rintro rfl
  rcases hc with rfl | hc
  ·rw[hfree]at e;cases e
  ·rw[hfree]at hc;cases hc
 rcases hx with hk | hk
 ·refine wpAny_storeName_local hk hn (fun h' hn' hs=>?_) hcls
  obtain⟨oL,_,_,hoL,_⟩:=id hn
  refine h _ ⟨I.ok,I.os,I.bare,⟨fun b o e n hb hx=>?_,fun b o e n hb hx=>?_,I.base.free,fun b o e hx=>?_,I.base.tups,I.base.frzs,I.base.tbls⟩,⟨_,hn',fun j y v' e1 e2 e3=>?_⟩,fun y c e=>?_,I.free,I.freeC,fun p hp=>?_,tracked ⟨oL,hoL,I.free⟩ hs,by simpa using I.len⟩ ⟨_,hs,.inl rfl⟩
  ·exact(hs.2 b (EO (E3 (Es e) I.ok.above))).trans (I.base.keep b o e n hb hx)
  ·obtain⟨sl,e1⟩:=I.base.slot b o e n hb hx
   exact⟨sl,(hs.2 b (EO (E3 (Es e) I.ok.above))).trans e1⟩
  ·obtain⟨o',e1⟩:=I.base.there b o e hx
   exact⟨o',(hs.2 b (EO (E3 (Es e) I.ok.above))).trans e1⟩
  ·by_cases hj:j=i
   ·subst hj
    rw[hi]at e1;cases e1
    rw[List.getElem?_set_self hiσ]at e2
    cases e2
    exact⟨u,r,.inl ⟨hk,by simp⟩⟩
   ·rw[List.getElem?_set_ne (Ne.symm hj)]at e2
    obtain⟨u',r',q⟩:=hl j y v' e1 e2 e3
    refine⟨u',r',?_⟩
    rcases q with⟨k,e⟩ | ⟨k,c,e,z⟩
    ·refine .inl ⟨k,?_⟩
     have:y≠x:=fun e=>hj (qS hN e1 (e ▸ hi))
     simp[this,e]
    ·exact .inr ⟨k,c,e,z.sameBut hs (cne y c e)⟩
  ·obtain⟨w',z⟩:=I.cell y c e
   exact⟨w',z.sameBut hs (cne y c e)⟩
  ·obtain⟨e,n,ne,nf,d⟩:=I.pin p hp
   exact⟨(hs.2 p.1 ne).trans e,n,ne,nf,d⟩
 ·have hfn:X.fn x=true:=by
   rcases hf with z | z
   ·exact z
   ·rw[z]at hk;cases hk
  obtain⟨c,hc⟩:=I.ok.has x (.inl hk)
  obtain⟨w',z⟩:=I.cell x c hc
  refine wpAny_storeName_cell I.ok.kind hk hc z (fun h' hc' hs=>?_)
  obtain⟨oc,hoc,hocd⟩:=id z
  refine h { s with heap:=h' } ⟨I.ok,I.os,I.bare,⟨fun b o e n hb hx=>?_,fun b o e n hb hx=>?_,I.base.free,fun b o e hx=>?_,I.base.tups,I.base.frzs,I.base.tbls⟩,⟨m,hn.sameBut hs (Ne.symm (cne x c hc)),fun j y v' e1 e2 e3=>?_⟩,fun y c' e=>?_,I.free,I.freeC,fun p hp=>?_,tracked ⟨oc,hoc,I.freeC x c hc⟩ hs,by simpa using I.len⟩ ⟨c,hs,.inr hc⟩
  ·exact(hs.2 b (EO (E3 (Es e) (I.ok.cab x c hfn hc)))).trans (I.base.keep b o e n hb hx)
  ·obtain⟨sl,e1⟩:=I.base.slot b o e n hb hx
   exact⟨sl,(hs.2 b (EO (E3 (Es e) (I.ok.cab x c hfn hc)))).trans e1⟩
  ·obtain⟨o',e1⟩:=I.base.there b o e hx
   exact⟨o',(hs.2 b (EO (E3 (Es e) (I.ok.cab x c hfn hc)))).trans e1⟩
  ·by_cases hj:j=i
   ·subst hj
    rw[hi]at e1;cases e1
    rw[List.getElem?_set_self hiσ]at e2
    cases e2
    exact⟨u,r,.inr ⟨.inl hk,c,hc,hc'⟩⟩
   ·rw[List.getElem?_set_ne (Ne.symm hj)]at e2
    obtain⟨u',r',q⟩:=hl j y v' e1 e2 e3
    refine⟨u',r',?_⟩
    rcases q with q | ⟨k,c',e,z'⟩
    ·exact .inl q
    ·refine .inr ⟨k,c',e,z'.sameBut hs ?_⟩
     rintro rfl
     exact hj (qS hN e1 (I.ok.inj _ _ _ e hc ▸ hi))
  ·by_cases hcc:c'=c
   ·subst hcc;exact⟨_,hc'⟩
   ·obtain⟨w2,z2⟩:=I.cell y c' e
    exact⟨w2,z2.sameBut hs hcc⟩
  ·obtain⟨e,n,ne,nf,d⟩:=I.pin p hp
   refine⟨(hs.2 p.1 ?_).trans e,n,ne,nf,d⟩
   intro q
   rw[q,hoc]at e
   have q':oc=p.2:=Option.some.inj e
   exact d w' (by rw[←q'];exact hocd)
theorem iT{M:Model}{A:Around}{E:Value->Shared->Prop}{i:Nat}{x:Str}{v:V}{u:Value}{Q:Unit->Shared->Prop}(I:Inv X pins σ H s)(hN:X.N.Nodup)(hi:X.N[i]?=some x)(hx:Loc X.env.scope x)(r:RelV v u)
  (h:∀s',Inv X pins (σ.set i (some v)) H s'->Q () s') (hf:X.fn x=true\/X.env.scope.names.lookup x=some .local:=by first | exact .inl rfl | exact .inr rfl | assumption):wpAny M A (storeName X.env x u) Q E s:=
 tG I hN hi hx r (fun s' I' _=>h s' I') hf
theorem Inv.call'{s':Shared}{ch:List Addr}(I:Inv X pins σ H s)(ho:s'.os=s.os)(u:Un (cR X.stack) ch H H' s.heap s'.heap)(hok:aZ X.prog X.w H' s'.heap)(hg:AllBare s'.gens)
  (hch:∀b∈ch,(b∈X.ex\/X.s₀.heap.objs.size<=b)/\b≠X.env.locals/\(∀x c,X.env.cells.lookup x=some c->c≠b)/\∀p∈X.pn++pins,p.1≠b):Inv X pins σ H' s':=by
 obtain⟨h',g',d',t',o'⟩:=s'
 have e:o'=s.os:=ho
 subst e
 exact I.call (g':=g') (t':=t') (d':=d') u hok hg hch
end
abbrev XK:=Value->Option Addr->Hp->Prop
abbrev St:=List (Option V)
abbrev VK:=V->Hp->Prop
abbrev TE:=St->Hp->VK->Prop
abbrev TT:=St->Hp->(Bool->Hp->Prop)->Prop
abbrev TA:=St->Hp->(List V->Hp->Prop)->Prop
structure Ends where
 nx:St->Hp->Prop
 rt:VK
 bk:St->Hp->Prop:=fun _ _=>False
 ct:St->Hp->Prop:=fun _ _=>False
abbrev TS:=Ends->St->Hp->Prop
def EP(X:Cx)(pins:List (Addr×Obj))(σ:St)(Q:VK)(u:Value)(s':Shared):Prop:=∃v H',Inv X pins σ H' s'/\RelV v u/\Q v H'
def TP(X:Cx)(pins:List (Addr×Obj))(σ:St)(Q:Bool->Hp->Prop)(b:Bool)(s':Shared):Prop:=∃H',Inv X pins σ H' s'/\Q b H'
def AP(X:Cx)(pins:List (Addr×Obj))(σ:St)(Q:List V->Hp->Prop)(us:List Value)(s':Shared):Prop:=∃vs H',Inv X pins σ H' s'/\Vals vs us/\Q vs H'
def SP(X:Cx)(pins:List (Addr×Obj))(D:Ends)(f:Flow)(s':Shared):Prop:=
 match f with
 | .next=>∃σ' H',Inv X pins σ' H' s'/\D.nx σ' H'
 | .brk=>∃σ' H',Inv X pins σ' H' s'/\D.bk σ' H'
 | .cont=>∃σ' H',Inv X pins σ' H' s'/\D.ct σ' H'
 | .ret u=>∃v σ' H',Inv X pins σ' H' s'/\RelV v u/\D.rt v H'
def PE(X:Cx)(e:Expr)(t:TE):Prop:=
 ∀(pins:List (Addr×Obj)) (s:Shared) (σ:St) (H:Hp) (Q:VK),Inv X pins σ H s->t σ H Q->wpAny (model X.prog X.w) X.A (eval e X.env) (EP X pins σ Q) X.xe s
def PT(X:Cx)(e:Expr)(t:TT):Prop:=
 ∀(pins:List (Addr×Obj)) (s:Shared) (σ:St) (H:Hp) (Q:Bool->Hp->Prop),Inv X pins σ H s->t σ H Q->wpAny (model X.prog X.w) X.A (isTrue e X.env (eval e X.env)) (TP X pins σ Q) X.xe s
def PW(X:Cx)(e:Expr)(t:TT):Prop:=
 ∀(whole:Sem Value) (pins:List (Addr×Obj)) (s:Shared) (σ:St) (H:Hp) (Q:Bool->Hp->Prop),Inv X pins σ H s->t σ H Q->wpAny (model X.prog X.w) X.A (isTrue e X.env whole) (TP X pins σ Q) X.xe s
theorem PW.pt{X:Cx}{e:Expr}{t:TT}(h:PW X e t):PT X e t:=h _
def PA(X:Cx)(es:List Expr)(t:TA):Prop:=
 ∀(pos:Pos) (pins:List (Addr×Obj)) (s:Shared) (σ:St) (H:Hp) (Q:List V->Hp->Prop),Inv X pins σ H s->t σ H Q->wpAny (model X.prog X.w) X.A (spliced (backTo pos (starEach es X.env))) (AP X pins σ Q) X.xe s
def PS(X:Cx)(st:Stmt)(t:TS):Prop:=
 ∀(pins:List (Addr×Obj)) (s:Shared) (σ:St) (H:Hp) (D:Ends),Inv X pins σ H s->t D σ H->wpAny (model X.prog X.w) X.A (exec st X.env) (SP X pins D) X.xe s
def cE(X:Cx)(st:List Stmt)(t:TS):Prop:=
 ∀(pins:List (Addr×Obj)) (s:Shared) (σ:St) (H:Hp) (D:Ends),Inv X pins σ H s->t D σ H->wpAny (model X.prog X.w) X.A (execs st X.env) (SP X pins D) X.xe s
theorem aw{α:Type}{t:Sem α}{Q Q':α->Shared->Prop}{M:Model}{A:Around}{E:Value->Shared->Prop}{s:Shared}(h:wpAny M A t Q E s)(hQ:∀a s,Q a s->Q' a s):wpAny M A t Q' E s:=wpAny_mono h hQ fun _ _ x=>x
end L2
namespace L2
open PySem PySem.Spec PyProof.Rows
section
variable {X:Cx}
theorem bin{a b:Expr}{ta tb:TE}(ha:PE X a ta)(hb:PE X b tb){pins:List (Addr×Obj)}{s:Shared}{σ:St}{H:Hp}{R:V->V->Hp->Prop}(I:Inv X pins σ H s)(h:ta σ H fun x H1=>tb σ H1 fun y H2=>R x y H2)
  {α:Type} {Q:α->Shared->Prop} {f:Value->Value->Sem α}
  (hf:∀v u s2 x y H2,Inv X pins σ H2 s2->RelV x v->RelV y u->R x y H2->wpAny (model X.prog X.w) X.A (f v u) Q X.xe s2) :
  wpAny (model X.prog X.w) X.A (eval a X.env) (fun v s₁=>wpAny (model X.prog X.w) X.A (eval b X.env) (fun u s₂=>wpAny (model X.prog X.w) X.A (f v u) Q X.xe s₂) X.xe s₁) X.xe s:=by
 refine aw (ha pins s σ H _ I h) fun v s1 ⟨x,H1,I1,r1,q1⟩=>?_
 refine aw (hb pins s1 σ H1 _ I1 q1) fun u s2 ⟨y,H2,I2,r2,q2⟩=>?_
 exact hf v u s2 x y H2 I2 r1 r2 q2
def mF(i:Nat):TE:=fun σ H Q=>∃v,σ[i]?=some (some v)/\Q v H
def tC(v:V):TE:=fun _ H Q=>Q v H
theorem DH{i:Nat}{x:Str}{pos:Pos}(hN:X.N[i]?=some x)(hv:kS X.env.scope x)(hd:(x == ("__debug__":Str))=false:=by decide)(hcd:(x == ("__classdict__":Str))=false:=by decide):PE X (.Name x pos) (mF i):=by
 intro pins s σ H Q I h
 obtain⟨v,e,h⟩:=h
 obtain⟨m,hn,hl⟩:=I.loc
 obtain⟨u,r,l⟩:=hl i x v hN e hv
 have fin:EP X pins σ Q u s:=⟨v,H,I,r,h⟩
 rcases l with⟨hk,hm⟩ | ⟨hk,c,hc,hcell⟩
 ·exact wpAny_Name (wpAny_loadName_local I.ok.kind hk hn hm fin) hd
 ·rcases hk with hk | hk
  ·exact wpAny_Name (wpAny_loadName_cell I.ok.kind hk hc hcell fin) hd
  ·exact wpAny_Name (wpAny_loadName_free I.ok.kind hk hc hcell fin hcd) hd
theorem af{i j pos}:PE X (.Constant (.int i) j pos) (tC (.int i)):=fun _ _ _ H _ I h=>wpAny_Constant_int ⟨.int i,H,I.tok _,⟨_,rfl⟩,h⟩
theorem bI{b j pos}:PE X (.Constant (.bool b) j pos) (tC (.bl b)):=fun _ _ _ H _ I h=>Constant_bool ⟨.bl b,H,I,rfl,h⟩
theorem iA{j pos}:PE X (.Constant .none j pos) (tC .non):=fun _ _ _ H _ I h=>Constant_none ⟨.non,H,I,rfl,h⟩
theorem aS{x j pos}:PE X (.Constant (.str x) j pos) (tC (.str x)):=fun _ _ _ H _ I h=>Calls.Constant_str ⟨.str x,H,I.tok _,⟨_,rfl⟩,h⟩
def Gl(X:Cx)(x:Str):Prop:=X.env.kindOf x=some .globalImplicit
theorem jk{E:Value->Shared->Prop}{pins:List (Addr×Obj)}{s:Shared}{σ:St}{H:Hp}{x:Str}{u:Value}{pos:Pos}{Q:Value->Shared->Prop}(I:Inv X pins σ H s)(hg:Gl X x)(hm:X.mg x=some u)(h:Q u s)
  (hd:(x == ("__debug__":Str))=false:=by decide):wpAny (model X.prog X.w) X.A (eval (.Name x pos) X.env) Q E s:=
 Calls.Name_function_global I.ok.kind hg (Calls.loadGlobal_global (by rw[I.ok.glob];exact I.mod.glob.keeps I.bk) hm h) hd
theorem ft{E:Value->Shared->Prop}{pins:List (Addr×Obj)}{s:Shared}{σ:St}{H:Hp}{x:Str}{u:Value}{pos:Pos}{Q:Value->Shared->Prop}(I:Inv X pins σ H s)(hg:Gl X x)(hm:X.mg x=none)(hv:bootBuiltins x=some u)(h:Q u s)
  (hn:x≠"__name__":=by decide) (hd:(x == ("__debug__":Str))=false:=by decide):wpAny (model X.prog X.w) X.A (eval (.Name x pos) X.env) Q E s:=by
 obtain⟨mb,h1,h2⟩:=I.mod.blt
 exact Calls.Name_function_global I.ok.kind hg (Calls.loadGlobal_builtin (by rw[I.ok.glob];exact I.mod.glob.keeps I.bk) hm (by rw[I.ok.blt];exact h1.keeps I.bk) ((h2 x hn).trans hv) h) hd
theorem nV{x:Str}{v:V}{u:Value}{pos:Pos}(hg:Gl X x)(hm:X.mg x=some u)(r:RelV v u)(hd:(x == ("__debug__":Str))=false:=by decide):PE X (.Name x pos) (tC v):=
 fun _ _ _ H _ I h=>jk I hg hm ⟨v,H,I,r,h⟩ hd
theorem dC{x:Str}{v:V}{u:Value}{pos:Pos}(hg:Gl X x)(hm:X.mg x=none)(hv:bootBuiltins x=some u)(r:RelV v u)(hn:x≠"__name__":=by decide)(hd:(x == ("__debug__":Str))=false:=by decide):PE X (.Name x pos) (tC v):=
 fun _ _ _ H _ I h=>ft I hg hm hv ⟨v,H,I,r,h⟩ hn hd
variable {a b:Expr} {ta tb:TE} {pos:Pos}
def PC(X:Cx)(op:CmpOp)(a b:Expr)(t:TE):Prop:=
 ∀(pins:List (Addr×Obj)) (s:Shared) (σ:St) (H:Hp) (Q:VK),Inv X pins σ H s->t σ H Q →
  wpAny (model X.prog X.w) X.A (eval a X.env) (fun v s₁=>wpAny (model X.prog X.w) X.A (eval b X.env) (fun u s₂=>wpAny (model X.prog X.w) X.A (compareOp op v u) (EP X pins σ Q) X.xe s₂) X.xe s₁) X.xe s
def tB(t:TE):TT:=fun σ H Q=>t σ H fun x H1=>∃c,x=.bl c/\Q c H1
theorem yS{op:CmpOp}{t:TE}(h:PC X op a b t)(h1:behindInMarks op b=false:=by first | exact nobehind _ (by decide) (by decide) | rfl):PE X (.Compare a [op] [b] pos) t:=fun pins s σ H Q I hw=>wpAny_Compare1 (h pins s σ H Q I hw) h1
theorem jP{op:CmpOp}{t:TE}(h:PC X op a b t)(h1:behindInMarks op b=false:=by first | exact nobehind _ (by decide) (by decide) | rfl):PT X (.Compare a [op] [b] pos) (tB t):=by
 intro pins s σ H Q I hw
 refine wpAny_isTrue_Compare1 (aw (h pins s σ H _ I hw) fun v s1 h1=>aw h1 fun u s2 h2=>aw h2 fun c s3 ⟨x,H1,I1,r1,q1⟩=>?_) h1
 obtain⟨d,rfl,q⟩:=q1
 cases r1
 exact wpAny_truthy_bool ⟨H1,I1,q⟩
theorem bw{e:Expr}{t:TE}(h:PE X e t)(he:∀whole,isTrue e X.env whole=(do let v ←whole;standAt e.pos;holding [v] (truthy v)):=by intro _;rfl):PT X e (tB t):=by
 intro pins s σ H Q I hw
 refine isTrue_plain (aw (h pins s σ H _ I hw) fun v s1 ⟨x,H1,I1,r1,q1⟩=>?_) (he _)
 obtain⟨d,rfl,q⟩:=q1
 cases r1
 exact wpAny_truthy_bool ⟨H1,I1,q⟩
variable {tA tB':TT} {rest:List Expr}
def u4(t u:TT):TT:=fun σ H Q=>t σ H fun c H1=>if c=true then u σ H1 Q else Q false H1
def xx(t u:TT):TT:=fun σ H Q=>t σ H fun c H1=>if c=true then Q true H1 else u σ H1 Q
def uG(t:TT):TT:=fun σ H Q=>t σ H fun c H1=>Q (!c) H1
theorem fZ(ha:PT X a tA):PW X (.BoolOp .And [a] pos) tA:=by
 intro wh pins s σ H Q I h
 refine isTrue_and (aw (ha pins s σ H Q I h) fun c s1 e=>?_)
 cases c with
 | true=>exact isTrue_and_nil e
 | false=>exact e
theorem dh(ha:PT X a tA):PW X (.BoolOp .Or [a] pos) tA:=by
 intro wh pins s σ H Q I h
 refine isTrue_or (aw (ha pins s σ H Q I h) fun c s1 e=>?_)
 cases c with
 | false=>exact isTrue_or_nil e
 | true=>exact e
theorem fI(ha:PT X a tA)(hb:PW X (.BoolOp .And (b::rest) pos) tB'):PW X (.BoolOp .And (a::b::rest) pos) (u4 tA tB'):=by
 intro wh pins s σ H Q I h
 refine isTrue_and (aw (ha pins s σ H _ I h) fun c s1 ⟨H1,I1,q1⟩=>?_)
 cases c with
 | true=>exact hb wh pins s1 σ H1 Q I1 q1
 | false=>exact⟨H1,I1,q1⟩
theorem cM(ha:PT X a tA)(hb:PW X (.BoolOp .Or (b::rest) pos) tB'):PW X (.BoolOp .Or (a::b::rest) pos) (xx tA tB'):=by
 intro wh pins s σ H Q I h
 refine isTrue_or (aw (ha pins s σ H _ I h) fun c s1 ⟨H1,I1,q1⟩=>?_)
 cases c with
 | true=>exact⟨H1,I1,q1⟩
 | false=>exact hb wh pins s1 σ H1 Q I1 q1
theorem bT(ha:PT X a tA):PT X (.UnaryOp .Not a pos) (uG tA):=by
 intro pins s σ H Q I h
 exact isTrue_not (ha pins s σ H (fun c H1=>Q (!c) H1) I h)
def vv(ta tb:TE):TE:=fun σ H Q=>ta σ H fun x H1=>∃c,x=.bl c/\if c=true then tb σ H1 Q else Q (.bl false) H1
def pE(ta tb:TE):TE:=fun σ H Q=>ta σ H fun x H1=>∃c,x=.bl c/\if c=true then Q (.bl true) H1 else tb σ H1 Q
def sD(ta:TE):TE:=fun σ H Q=>ta σ H fun x H1=>∃c,x=.bl c/\Q (.bl (!c)) H1
theorem dX{op}{t:TE}(h:PE X a t):PE X (.BoolOp op [a] pos) t:=fun pins s σ H Q I hw=>BoolOp_one (h pins s σ H Q I hw)
theorem eo(ha:PE X a ta)(hb:PE X (.BoolOp .And (b::rest) pos) tb):PE X (.BoolOp .And (a::b::rest) pos) (vv ta tb):=by
 intro pins s σ H Q I h
 refine BoolOp_and (aw (ha pins s σ H _ I h) fun v s1 ⟨x,H1,I1,r1,q1⟩=>?_)
 obtain⟨c,rfl,q1⟩:=q1
 cases r1
 refine wpAny_truthy_bool ?_
 cases c with
 | true=>exact hb pins s1 σ H1 Q I1 q1
 | false=>exact⟨.bl false,H1,I1,rfl,q1⟩
theorem tI(ha:PE X a ta)(hb:PE X (.BoolOp .Or (b::rest) pos) tb):PE X (.BoolOp .Or (a::b::rest) pos) (pE ta tb):=by
 intro pins s σ H Q I h
 refine BoolOp_or (aw (ha pins s σ H _ I h) fun v s1 ⟨x,H1,I1,r1,q1⟩=>?_)
 obtain⟨c,rfl,q1⟩:=q1
 cases r1
 refine wpAny_truthy_bool ?_
 cases c with
 | false=>exact hb pins s1 σ H1 Q I1 q1
 | true=>exact⟨.bl true,H1,I1,rfl,q1⟩
theorem wA(ha:PE X a ta):PE X (.UnaryOp .Not a pos) (sD ta):=by
 intro pins s σ H Q I h
 refine UnaryOp_ (aw (ha pins s σ H _ I h) fun v s1 ⟨x,H1,I1,r1,q1⟩=>?_)
 obtain⟨c,rfl,q1⟩:=q1
 cases r1
 exact not_of (wpAny_truthy_bool ⟨.bl (!c),H1,I1,rfl,q1⟩)
end
end L2
namespace L2
open PySem PySem.Spec PyProof.Rows
def ag(K:Eo)(H:Hp)(a:Addr)(xs:List V):Prop:=
 Rd H a (.lst xs) ∨
  ∃(o:Obj) (its:Array Value) (n:Nat),K.lookup a=some o/\o.cls=.type "list"/\o.dict=none/\o.data=.seq its n/\its.size<=sizeLine/\Vals xs its.toList
def ah(K:Eo)(H:Hp)(a:Addr)(xs:List V):Prop:=
 Rd H a (.tup xs) ∨
  ∃(o:Obj) (its:Array Value) (n:Nat),K.lookup a=some o/\o.cls=.type "tuple"/\o.data=.seq its n/\its.size<=sizeLine/\Vals xs its.toList
def yl:Value->Option V
 | .none=>some .non
 | .bool b=>some (.bl b)
 | .int i _=>some (.int i)
 | .str x _=>some (.str x)
 | .bytes b _=>some (.byt b)
 | .float b _=>some (.flt b)
 | .ref a=>some (.ref a)
 | .type n=>some (.ty n)
 | _=>none
theorem RelV.abs{x:V}{u:Value}(r:RelV x u):yl u=some x:=by
 cases x with
 | non=>cases r;rfl
 | bl _=>cases r;rfl
 | int _=>obtain⟨t,rfl⟩:=r;rfl
 | str _=>obtain⟨t,rfl⟩:=r;rfl
 | byt _=>obtain⟨t,rfl⟩:=r;rfl
 | flt _=>obtain⟨t,rfl⟩:=r;rfl
 | ref _=>cases r;rfl
 | ty _=>cases r;rfl
theorem RelV.inj{x y:V}{u:Value}(r:RelV x u)(q:RelV y u):x=y:=Option.some.inj (r.abs.symm.trans q.abs)
theorem Vals.inj:∀{xs ys:List V} {us:List Value},Vals xs us->Vals ys us->xs=ys
 | _,_,_,.nil,.nil=>rfl
 | _,_,_,.cons r t,.cons r' t'=>by rw[r.inj r',Vals.inj t t']
section
variable {X:Cx} {pins:List (Addr×Obj)} {σ:St} {H:Hp} {s:Shared} {a:Addr} {xs ys:List V}
theorem ag.of{K:Eo}(h:H a=some (.lst xs)):ag K H a xs:=.inl (.inl h)
theorem ah.of{K:Eo}(h:H a=some (.tup xs)):ah K H a xs:=.inl (.inl h)
theorem Inv.list(I:Inv X pins σ H s)(h:ag X.K H a xs):∃its:List Value,Vals xs its/\PlainL s.heap a its.toArray/\xs.length<=sizeLine:=by
 rcases h with h | ⟨o,its,n,hk,hc,hd,hs,hz,r⟩
 ·obtain⟨z,its,n,r,e⟩:=h.ok I.hok
  exact⟨its,r,⟨_,n,e,rfl,rfl,rfl⟩,z⟩
 ·refine⟨its.toList,r,⟨o,n,I.kIn a o hk,hc,hd,by simpa using hs⟩,?_⟩
  have e:=r.length
  simp only[EA]at e
  omega
theorem Inv.tuple(I:Inv X pins σ H s)(h:ah X.K H a xs):∃its:List Value,Vals xs its/\IsTup s.heap a its.toArray/\xs.length<=sizeLine:=by
 rcases h with h | ⟨o,its,n,hk,hc,hs,hz,r⟩
 ·obtain⟨z,its,r,p⟩:=h.ok I.hok
  exact⟨its,r,p,z⟩
 ·refine⟨its.toList,r,⟨o,I.kIn a o hk,hc,n,by simpa using hs⟩,?_⟩
  have e:=r.length
  simp only[EA]at e
  omega
theorem Inv.list_inj(I:Inv X pins σ H s)(h:ag X.K H a xs)(h':ag X.K H a ys):xs=ys:=by
 obtain⟨its,r,⟨o,n,e,_,_,d⟩,_⟩:=I.list h
 obtain⟨its',r',⟨o',n',e',_,_,d'⟩,_⟩:=I.list h'
 rw[e]at e';cases e'
 rw[d]at d'
 injection d' with d1 _
 have:its=its':=by simpa using congrArg Array.toList d1
 subst this
 exact r.inj r'
theorem Inv.tuple_inj(I:Inv X pins σ H s)(h:ah X.K H a xs)(h':ah X.K H a ys):xs=ys:=by
 obtain⟨its,r,⟨o,e,_,n,d⟩,_⟩:=I.tuple h
 obtain⟨its',r',⟨o',e',_,n',d'⟩,_⟩:=I.tuple h'
 rw[e]at e';cases e'
 rw[d]at d'
 injection d' with d1 _
 have:its=its':=by simpa using congrArg Array.toList d1
 subst this
 exact r.inj r'
end
abbrev Cx.wish(X:Cx)(E:Value->Shared->Prop):Cx:={ X with xe:=E }
abbrev Cx.nox(X:Cx):Cx:=X.wish fun _ _=>False
theorem Cx.Ok.wish{X:Cx}(ok:X.Ok)(E:Value->Shared->Prop):(X.wish E).Ok:=
 ⟨ok.mod,ok.kind,ok.glob,ok.blt,ok.above,ok.inj,ok.has,ok.cab,ok.hd,ok.frames,ok.stk,ok.exf,ok.bs,ok.bsz,ok.noex,ok.exfs,ok.funs,ok.frf⟩
theorem Cx.Ok.unwish{X:Cx}{E:Value->Shared->Prop}(ok:(X.wish E).Ok):X.Ok:=
 ⟨ok.mod,ok.kind,ok.glob,ok.blt,ok.above,ok.inj,ok.has,ok.cab,ok.hd,ok.frames,ok.stk,ok.exf,ok.bs,ok.bsz,ok.noex,ok.exfs,ok.funs,ok.frf⟩
section
variable {X:Cx} {pins:List (Addr×Obj)} {σ:St} {H:Hp} {s:Shared} {E:Value->Shared->Prop}
theorem Inv.wish(I:Inv X pins σ H s)(E:Value->Shared->Prop):Inv (X.wish E) pins σ H s:=⟨I.ok.wish E,I.os,I.bare,I.base,I.loc,I.cell,I.free,I.freeC,I.pin,I.hok,I.len⟩
theorem Inv.unwish(I:Inv (X.wish E) pins σ H s):Inv X pins σ H s:=⟨I.ok.unwish,I.os,I.bare,I.base,I.loc,I.cell,I.free,I.freeC,I.pin,I.hok,I.len⟩
theorem SP.unwish{D:Ends}{f:Flow}{s':Shared}(h:SP (X.wish E) pins D f s'):SP X pins D f s':=by
 cases f with
 | next=>obtain⟨σ',H',I,q⟩:=h;exact⟨σ',H',I.unwish,q⟩
 | brk=>obtain⟨σ',H',I,q⟩:=h;exact⟨σ',H',I.unwish,q⟩
 | cont=>obtain⟨σ',H',I,q⟩:=h;exact⟨σ',H',I.unwish,q⟩
 | ret u=>obtain⟨v,σ',H',I,r,q⟩:=h;exact⟨v,σ',H',I.unwish,r,q⟩
theorem cE.nox{st:List Stmt}{t:TS}(h:cE X.nox st t):cE X st t:=fun pins s σ H D I hw=>
 wpAny_mono (h pins s σ H D (I.wish _) hw) (fun _ _ q=>q.unwish) fun _ _ z=>False.elim z
end
section
variable {X:Cx} {st:Stmt} {rest:List Stmt} {t u:TS} {e:Expr} {te:TE} {pos:Pos}
def qI:TS:=fun D σ H=>D.nx σ H
def qZ(t u:TS):TS:=fun D σ H=>t { D with nx:=u D } σ H
theorem aV:cE X [] qI:=fun _ _ σ H _ I h=>wpAny_execs_nil ⟨σ,H,I,h⟩
theorem aj(h1:PS X st t)(h2:cE X rest u):cE X (st::rest) (qZ t u):=by
 intro pins s σ H D I h
 refine wpAny_execs_cons (aw (h1 pins s σ H { D with nx:=u D } I h) fun f s1 q=>?_)
 cases f with
 | next=>
  obtain⟨σ',H',I',q⟩:=q
  exact h2 pins s1 σ' H' D I' q
 | ret v=>exact q
 | brk=>exact q
 | cont=>exact q
theorem ao(h1:PS X st t):cE X [st] t:=by
 intro pins s σ H D I h
 refine wpAny_execs_cons (aw (h1 pins s σ H D I h) fun f s1 q=>?_)
 cases f with
 | next=>exact wpAny_execs_nil q
 | ret v=>exact q
 | brk=>exact q
 | cont=>exact q
theorem Inv.quiet{pins:List (Addr×Obj)}{σ:St}{H:Hp}{s:Shared}(I:Inv X pins σ H s):interactive X.env=false:=by simp[interactive,I.ok.kind]
def wI(te:TE):TS:=fun D σ H=>te σ H fun _ H1=>D.nx σ H1
theorem bo(he:PE X e te)(hs:swapsWith e none pos.line X.env=pure false:=by rfl):PS X (.Expr e pos) (wI te):=by
 intro pins s σ H D I h
 exact wpAny_Expr_any (aw (he pins s σ H _ I h) fun v s1 ⟨x,H1,I1,r1,q1⟩=>⟨σ,H1,I1,q1⟩) I.quiet hs
def rY(te:TE):TS:=fun D σ H=>te σ H D.rt
theorem aF(he:PE X e te):PS X (.Return (some e) pos) (rY te):=by
 intro pins s σ H D I h
 exact wpAny_Return_some (aw (he pins s σ H _ I h) fun v s1 ⟨x,H1,I1,r1,q1⟩=>⟨x,σ,H1,I1,r1,q1⟩)
def u9(c:TT)(t u:TS):TS:=fun D σ H=>c σ H fun b H1=>if b=true then t D σ H1 else u D σ H1
theorem bC{c:Expr}{a b:List Stmt}{tc:TT}(hc:PT X c tc)(ha:cE X a t)(hb:cE X b u):PS X (.If c a b pos) (u9 tc t u):=by
 intro pins s σ H D I h
 refine wpAny_If (aw (hc pins s σ H _ I h) fun d s1 ⟨H1,I1,q1⟩=>?_)
 cases d with
 | true=>exact ha pins s1 σ H1 D I1 q1
 | false=>exact hb pins s1 σ H1 D I1 q1
def Aj:TS:=fun _ _ _=>False
theorem mJ:PS X st Aj:=fun _ _ _ _ _ _ h=>h.elim
end
abbrev TG:=V->St->Hp->(St->Hp->Prop)->Prop
abbrev dE:=List V->St->Hp->(St->Hp->Prop)->Prop
def PG(X:Cx)(target:Expr)(t:TG):Prop:=
 ∀(pins:List (Addr×Obj)) (s:Shared) (σ:St) (H:Hp) (v:V) (u:Value) (Q:St->Hp->Prop),Inv X pins σ H s->RelV v u->t v σ H Q →
  wpAny (model X.prog X.w) X.A (assign target X.env u) (fun _ s'=>∃σ' H',Inv X pins σ' H' s'/\Q σ' H') X.xe s
def gQ(X:Cx)(ts:List Expr)(t:dE):Prop:=
 ∀(pins:List (Addr×Obj)) (s:Shared) (σ:St) (H:Hp) (vs:List V) (us:List Value) (Q:St->Hp->Prop),Inv X pins σ H s->Vals vs us->t vs σ H Q →
  wpAny (model X.prog X.w) X.A (assignInOrder ((assignEach ts X.env).map (·.2)) us) (fun _ s'=>∃σ' H',Inv X pins σ' H' s'/\Q σ' H') X.xe s
abbrev jY:=V->V->V->Hp->(Hp->Prop)->Prop
def pM(X:Cx)(t:jY):Prop:=
 ∀(pins:List (Addr×Obj)) (s:Shared) (σ:St) (H:Hp) (o i v:V) (ov iv u:Value) (Q:Hp->Prop),Inv X pins σ H s->RelV o ov->RelV i iv->RelV v u->t o i v H Q →
  wpAny (model X.prog X.w) X.A (setItem ov iv u) (fun _ s'=>∃H',Inv X pins σ H' s'/\Q H') X.xe s
abbrev iL:=V->V->Hp->VK->Prop
def o7(X:Cx)(op:Operator)(t:iL):Prop:=
 ∀(pins:List (Addr×Obj)) (s:Shared) (σ:St) (H:Hp) (x y:V) (v u:Value) (Q:VK),Inv X pins σ H s->RelV x v->RelV y u->t x y H Q →
  wpAny (model X.prog X.w) X.A (inplaceOp op v u) (EP X pins σ Q) X.xe s
section
variable {X:Cx} {pos:Pos}
def iJ(i:Nat):TG:=fun v σ H Q=>Q (σ.set i (some v)) H
theorem aJ{i:Nat}{x:Str}(hN:X.N.Nodup)(hi:X.N[i]?=some x)(hx:Loc X.env.scope x)(hf:X.fn x=true\/X.env.scope.names.lookup x=some .local:=by first | exact .inl rfl | exact .inr rfl | assumption):PG X (.Name x pos) (iJ i):=by
 intro pins s σ H v u Q I r h
 exact wpAny_assign_Name (iT I hN hi hx r (fun s' I'=>⟨_,H,I',h⟩) hf)
def wu:dE:=fun vs σ H Q=>vs=[]/\Q σ H
def qY(t:TG)(u:dE):dE:=fun vs σ H Q=>∃v r,vs=v::r/\t v σ H fun σ' H'=>u r σ' H' Q
theorem eA:gQ X [] wu:=by
 intro pins s σ H vs us Q I r h
 obtain⟨e,h⟩:=h
 subst e
 cases r
 exact assignInOrder_nil ⟨σ,H,I,h⟩
theorem bE{e:Expr}{es:List Expr}{t:TG}{u:dE}(h1:PG X e t)(h2:gQ X es u)
  (hs:(assignEach (e::es) X.env).map (·.2)=assign e X.env::(assignEach es X.env).map (·.2):=by rfl):gQ X (e::es) (qY t u):=by
 intro pins s σ H vs us Q I r h
 obtain⟨v,vr,e1,h⟩:=h
 subst e1
 cases r with
 | cons r rr=>
  rw[hs]
  refine assignInOrder_cons (aw (h1 pins s σ H _ _ _ I r h) fun _ s1 ⟨σ1,H1,I1,q1⟩=>?_)
  exact h2 pins s1 σ1 H1 _ _ Q I1 rr q1
def oE(K:Eo)(n:Nat)(t:dE):TG:=fun v σ H Q=>∃a xs,v=.ref a/\ah K H a xs/\xs.length=n/\t xs σ H Q
theorem ye{es:List Expr}{k:Nat}{t:dE}{n:Nat}(hc:X.calm=true)(h:gQ X es t)
  (hn:(assignEach es X.env).length=n:=by rfl) (hst:(assignEach es X.env).findIdx? (·.1)=none:=by rfl):PG X (.Tuple es k pos) (oE X.K n t):=by
 intro pins s σ H v u Q I r hw
 obtain⟨a,xs,e1,hq,hl,hw⟩:=hw
 subst e1
 cases r
 obtain⟨its,rv,ht,hz⟩:=I.tuple hq
 refine assign_Tuple_tuple (I.ok.hd hc) ht (by simp[hn,←hl,rv.length]) hst fun h' hx=>?_
 have I1:Inv X pins σ H { s with heap:=h' }:=I.kept (t':=s.toks) fun b o e=>hx b o (EO (Es e)) e
 exact h pins _ σ H xs _ Q I1 (by simpa using rv) hw
def rP(to ti:TE)(t:jY):TG:=fun v σ H Q=>to σ H fun o H1=>ti σ H1 fun i H2=>t o i v H2 fun H3=>Q σ H3
theorem jm{o i:Expr}{to ti:TE}{t:jY}(ho:PE X o to)(hi:PE X i ti)(hs:pM X t)
  (ha:∀v,assign (.Subscript o i pos) X.env v=(do
   let ov ←holding [v] (eval o X.env)
   let iv ←holding [v,ov] (eval i X.env)
   standAt pos
   holding [v,ov,iv] (setItem ov iv v)
   release [v,ov,iv] []):=by intro _;rfl):PG X (.Subscript o i pos) (rP to ti t):=by
 intro pins s σ H v u Q I r h
 rw[ha]
 refine Em (wpAny_holding (aw (ho pins s σ H _ I h) fun ov s1 ⟨x,H1,I1,r1,q1⟩=>?_))
 refine Em (wpAny_holding (aw (hi pins s1 σ H1 _ I1 q1) fun iv s2 ⟨y,H2,I2,r2,q2⟩=>?_))
 refine Em (wpAny_standAt (Em (wpAny_holding (aw (hs pins s2 σ H2 x y v ov iv u _ I2 r1 r2 r q2) fun _ s3 ⟨H3,I3,q3⟩=>?_))))
 exact wpAny_release ⟨σ,H3,I3,q3⟩
def lT(te:TE)(g:TG):TS:=fun D σ H=>te σ H fun x H1=>g x σ H1 D.nx
theorem gD{tg e:Expr}{te:TE}{g:TG}(he:PE X e te)(hg:PG X tg g)(hs:swapsWithSole [tg] e pos.line X.env=pure false:=by rfl)(hw:swappedStores [tg] e X.env=pure none:=by rfl)
  (h1:(assignEach [tg] X.env).map (·.2)=[assign tg X.env]:=by rfl):PS X (.Assign [tg] e pos) (lT te g):=by
 intro pins s σ H D I h
 refine wpAny_Assign_stores (aw (he pins s σ H _ I h) fun v s1 ⟨x,H1,I1,r1,q1⟩=>?_) hs hw
 rw[h1]
 exact aw (hg pins s1 σ H1 x v _ I1 r1 q1) fun _ s2 q=>q
theorem aG{i:Nat}{x:Str}{e:Expr}{te:TE}{pos':Pos}(hN:X.N.Nodup)(hi:X.N[i]?=some x)(hx:Loc X.env.scope x)(he:PE X e te)(hs:swapsWith e (some (.Name x pos')) pos.line X.env=pure false:=by rfl)(hf:X.fn x=true\/X.env.scope.names.lookup x=some .local:=by first | exact .inl rfl | exact .inr rfl | assumption):
  PS X (.Assign [.Name x pos'] e pos) (lT te (iJ i)):=by
 intro pins s σ H D I h
 refine wpAny_Assign_Name (aw (he pins s σ H _ I h) fun v s1 ⟨y,H1,I1,r1,q1⟩=>?_) hs
 exact iT I1 hN hi hx r1 (fun s2 I2=>⟨_,H1,I2,q1⟩) hf
def vy(i j:Nat)(ta:TA):TS:=fun D σ H=>ta σ H fun vs H1=>∃v w,vs=[v,w]/\D.nx ((σ.set i (some v)).set j (some w)) H1
theorem tF{i j:Nat}{x y:Str}{a b:Expr}{ta:TA}{px py pt:Pos}{kt k2 pt2}(hc:X.calm=true)(hN:X.N.Nodup)(hi:X.N[i]?=some x)(hj:X.N[j]?=some y)(hij:i≠j)
  (hx:X.env.scope.names.lookup x=some .local) (hy:X.env.scope.names.lookup y=some .local) (ha:PA X [a,b] ta)
  (hw:swappedStores [.Tuple [.Name x px,.Name y py] kt pt] (.Tuple [a,b] k2 pt2) X.env=pure (some [x,y]))
  (hs:swapsWithSole [.Tuple [.Name x px,.Name y py] kt pt] (.Tuple [a,b] k2 pt2) pos.line X.env=pure false:=by rfl) :
  PS X (.Assign [.Tuple [.Name x px,.Name y py] kt pt] (.Tuple [a,b] k2 pt2) pos) (vy i j ta):=by
 intro pins s σ H D I h
 rw[exec_Assign_arm]
 refine Em (wpAny_standAt ?_)
 rw[hs]
 refine Em (En ?_)
 rw[if_neg (by decide)]
 refine Em (Tuple_ (aw (ha _ pins s σ H _ I h) fun us s1 ⟨vs,H1,I1,r1,q1⟩=>?_))
 obtain⟨v,w,e1,q1⟩:=q1
 subst e1
 obtain⟨u1,u2,rfl,rv,rw'⟩:∃u1 u2,us=[u1,u2]/\RelV v u1/\RelV w u2:=by
  cases r1 with
  | cons p q=>
   cases q with
   | cons p' q'=>
    cases q'
    exact⟨_,_,rfl,p,p'⟩
 refine wpAny_newObj_type ?_ (by show 2<=sizeLine;decide)
 have I2:Inv X pins σ H1 { s1 with heap:=s1.heap.push { cls:=.type "tuple",data:=.seq [u1,u2].toArray } }:=I1.kept (t':=s1.toks) fun b o e=>Ep _ e
 rw[hw]
 refine Em (En ?_)
 show wpAny (model X.prog X.w) X.A (do rule "assign.swapped-stores";let items ←unpackItems (.ref s1.heap.objs.size) 2 none;assignInOrder [fun v=>bindName X.env y v,fun v=>bindName X.env x v] items.reverse;pure Flow.next) _ _ _
 refine Em (wpAny_rule (Em (unpackItems_tuple (items:=#[u1,u2]) (I.ok.hd hc) (IsTup.new s1.heap _) fun h' hx'=>?_)))
 have I3:=I2.kept (h':=h') (t':=s1.toks) fun b o e=>hx' b o (EO (Es e)) e
 show wpAny _ _ (assignInOrder [fun v=>bindName X.env y v,fun v=>bindName X.env x v] [u2,u1] >>= fun _=>pure Flow.next) _ _ _
 refine Em (assignInOrder_cons (wpAny_bindName (iT I3 hN hj (.inl hy) rw' (fun s2 I4=>?_) (.inr hy))))
 refine assignInOrder_cons (wpAny_bindName (iT I4 hN hi (.inl hx) rv (fun s3 I5=>assignInOrder_nil (En ?_)) (.inr hx)))
 rw[List.set_comm _ _ (Ne.symm hij)]at I5
 exact⟨_,H1,I5,q1⟩
def uC(i:Nat)(te:TE)(ti:iL):TS:=fun D σ H=>∃x,σ[i]?=some (some x)/\te σ H fun y H1=>ti x y H1 fun z H2=>D.nx (σ.set i (some z)) H2
theorem lX{i:Nat}{x:Str}{e:Expr}{te:TE}{op:Operator}{ti:iL}{pos':Pos}(hN:X.N.Nodup)(hi:X.N[i]?=some x)(hx:Loc X.env.scope x)(he:PE X e te)(ho:o7 X op ti)(hf:X.fn x=true\/X.env.scope.names.lookup x=some .local:=by first | exact .inl rfl | exact .inr rfl | assumption):
  PS X (.AugAssign (.Name x pos') op e pos) (uC i te ti):=by
 intro pins s σ H D I h
 obtain⟨v,e1,h⟩:=h
 obtain⟨m,hn,hl⟩:=I.loc
 have vis:kS X.env.scope x:=by rcases hx with k | k;exact .inl k;exact .inr (.inl k)
 obtain⟨u,r,l⟩:=hl i x v hi e1 vis
 refine wpAny_AugAssign_Name ?_
 have go:wpAny (model X.prog X.w) X.A (eval e X.env) (fun w s₂=>wpAny (model X.prog X.w) X.A (inplaceOp op u w) (fun r s₃=>wpAny (model X.prog X.w) X.A (storeName X.env x r) (fun _=>SP X pins D .next) X.xe s₃) X.xe s₂) X.xe s:=by
  refine aw (he pins s σ H _ I h) fun w s1 ⟨y,H1,I1,r1,q1⟩=>?_
  refine aw (ho pins s1 σ H1 v y u w _ I1 r r1 q1) fun z s2 ⟨zv,H2,I2,r2,q2⟩=>?_
  exact iT I2 hN hi hx r2 (fun s3 I3=>⟨_,H2,I3,q2⟩) hf
 rcases l with⟨hk,hm⟩ | ⟨hk,c,hc,hcell⟩
 ·exact wpAny_loadName_local I.ok.kind hk hn hm go
 ·rcases hk with hk | hk
  ·exact wpAny_loadName_cell I.ok.kind hk hc hcell go
  ·rcases hx with k | k
   ·have:X.env.scope.names.lookup x=some .free:=hk
    rw[k]at this;cases this
   ·have:X.env.scope.names.lookup x=some .free:=hk
    rw[k]at this;cases this
def nW(f:Int->Int->Int):iL:=fun x y H Q=>∃i j,x=.int i/\y=.int j/\Q (.int (f i j)) H
theorem mT:o7 X .Add (nW fun i j=>i+j):=by
 intro pins s σ H x y v u Q I r1 r2 h
 obtain⟨i,j,e1,e2,q⟩:=h
 subst e1;subst e2
 obtain⟨t,rfl⟩:=r1
 obtain⟨t',rfl⟩:=r2
 exact iadd_int ⟨.int _,H,I.tok _,⟨_,rfl⟩,q⟩
theorem xQ:o7 X .Sub (nW fun i j=>i-j):=by
 intro pins s σ H x y v u Q I r1 r2 h
 obtain⟨i,j,e1,e2,q⟩:=h
 subst e1;subst e2
 obtain⟨t,rfl⟩:=r1
 obtain⟨t',rfl⟩:=r2
 exact isub_int ⟨.int _,H,I.tok _,⟨_,rfl⟩,q⟩
end
section
variable {X:Cx} {pos:Pos}
def Cv(c:TT)(tb:TS):TS:=fun D σ H=>∃W:Nat->St->Hp->Prop,(∃m,W m σ H)/\∀m σ H,W m σ H →
 c σ H fun b H1=>if b=true then ∃N:St->Hp->Prop,(∀σ' H',N σ' H'->∃m',m'<m/\W m' σ' H')/\tb { D with nx:=N,ct:=N,bk:=D.nx } σ H1 else D.nx σ H1
theorem BN{c:Expr}{body:List Stmt}{tc:TT}{tb:TS}(hp:PassesOwn (model X.prog X.w) X.A X.env X.xe)(hc:PT X c tc)(hb:cE X body tb):PS X (.While c body [] pos) (Cv tc tb):=by
 intro pins s σ H D I h
 obtain⟨W,⟨m0,w0⟩,turn⟩:=h
 refine wpAny_While (codeAny_whileLoop (fun n s'=>∃σ' H',Inv X pins σ' H' s'/\W n σ' H') ?_ m0 ⟨σ,H,I,w0⟩)
 rintro n s1 ⟨σ1,H1,I1,w1⟩
 refine wpAny_passesOwn hp (aw (hc pins s1 σ1 H1 _ I1 (turn n σ1 H1 w1)) fun b s2 ⟨H2,I2,q2⟩=>?_)
 cases b with
 | true=>
  obtain⟨N,hN,q2⟩:=q2
  rw[if_pos rfl]
  refine wpAny_passesOwn hp (aw (hb pins s2 σ1 H2 _ I2 q2) fun f s3 q3=>?_)
  cases f with
  | next=>
   obtain⟨σ3,H3,I3,n3⟩:=q3
   obtain⟨m',hm,w3⟩:=hN σ3 H3 n3
   exact⟨m',hm,σ3,H3,I3,w3⟩
  | cont=>
   obtain⟨σ3,H3,I3,n3⟩:=q3
   obtain⟨m',hm,w3⟩:=hN σ3 H3 n3
   exact⟨m',hm,σ3,H3,I3,w3⟩
  | brk=>exact q3
  | ret v=>exact q3
 | false=>
  rw[if_neg EL]
  exact wpAny_execs_nil ⟨σ1,H2,I2,q2⟩
end
structure It where
 go:Nat->Hp->Prop
 yld:Nat->Hp->V->Hp->Prop
 stop:Nat->Hp->Prop
def bV(X:Cx)(pins:List (Addr×Obj))(H:Hp)(b:Addr):Prop:=
 H b=none/\b≠X.env.locals/\b∉X.fs/\(b∈X.ex\/X.s₀.heap.objs.size<=b)/\(∀x c,X.env.cells.lookup x=some c->c≠b)/\∀p∈X.pn++pins,p.1≠b
theorem Inv.fpOk{X:Cx}{pins:List (Addr×Obj)}{σ:St}{H H':Hp}{s:Shared}{b:Addr}(I:Inv X pins σ H s)(hb:s.heap.objs.size<=b)(hn:H' b=none):bV X pins H' b:=by
 refine⟨hn,Nat.ne_of_gt (E3 I.lt hb),I.nofs hb,.inr (E4 I.sz hb),fun x c e z=>?_,fun p hp z=>?_⟩
 ·obtain⟨v,q⟩:=I.cell x c e
  exact absurd (E3 q.lt (by rw[z];exact hb)) (Nat.lt_irrefl _)
 ·exact absurd (E3 (Es (I.pin p hp).1) (by rw[z];exact hb)) (Nat.lt_irrefl _)
structure Turn(P:Program)(w:World)(K:Eo)(tg:Expr)(J:It)(fp:List Addr)(it:Addr)(tn:Nat->Heap->Prop):Prop where
 mem:it∈fp
 obj:∀i h,tn i h->∀b∈fp,∃o,h.get? b=some o/\∀v,o.data≠.cell v
 keep:∀i h h',tn i h->(∀b∈fp,∀o,h.get? b=some o->h'.get? b=some o)->tn i h'
 item:∀(X:Cx),X.prog=P->X.w=w->X.K=K->X.calm=true->∀(i:Nat) (pins:List (Addr×Obj)) (s:Shared) (σ:St) (H:Hp) (E:Value->Shared->Prop),Inv X pins σ H s->(∀b∈fp,bV X pins H b)->tn i s.heap->J.go i H →
  wpAny (model P w) X.A (pyNext (.ref it)) (fun r s1=>∃u,r=some u ∧
   wpAny (model P w) X.A (letOwnedTupleGo tg (.ref it) u) (fun _ s2=>∃x H',Inv X pins σ H' s2/\RelV x u/\J.yld i H x H'/\tn (i+1) s2.heap/\∀b∈fp,H' b=none) E s1) E s
 done:∀(X:Cx),X.prog=P->X.w=w->X.K=K->X.calm=true->∀(i:Nat) (pins:List (Addr×Obj)) (s:Shared) (σ:St) (H:Hp) (E:Value->Shared->Prop),Inv X pins σ H s->(∀b∈fp,bV X pins H b)->tn i s.heap->J.stop i H →
  wpAny (model P w) X.A (pyNext (.ref it)) (fun r s1=>r=none/\Inv X pins σ H s1) E s
 self:∀(A:Around) (i:Nat) (s:Shared) (Q:Value->Shared->Prop) (E:Value->Shared->Prop),tn i s.heap->Q (.ref it) s->wpAny (model P w) A (pyIter (.ref it)) Q E s
abbrev TI:=St->Hp->(It->Hp->Prop)->Prop
def oR(X:Cx)(pins:List (Addr×Obj))(σ:St)(tg:Expr)(R:It->Hp->Prop)(itv:Value)(s2:Shared):Prop:=
 ∃(it:Addr) (fp:List Addr) (tn:Nat->Heap->Prop) (J:It) (H':Hp),itv=.ref it/\Inv X pins σ H' s2/\Turn X.prog X.w X.K tg J fp it tn/\tn 0 s2.heap/\(∀b∈fp,bV X pins H' b)/\R J H'
def PI(X:Cx)(tg iter:Expr)(wi:TI):Prop:=
 ∀(pins:List (Addr×Obj)) (s:Shared) (σ:St) (H:Hp) (R:It->Hp->Prop),Inv X pins σ H s->wi σ H R →
  wpAny (model X.prog X.w) X.A (eval iter X.env) (fun v s1=>wpAny (model X.prog X.w) X.A (pyIter v) (oR X pins σ tg R) X.xe s1) X.xe s
theorem mV {M : Model} {A : Around} {E : Value → Shared → Prop} {s : Shared} {tg : Expr} {it : Addr} {u : Value} {o : Obj} {n : String} {vs : Array Value} {Q : Unit → Shared → Prop} (ho : s.heap.get? it = some o) (hc : o.cls = .type n) (hd : o.data = .fields vs)
    (hn : ["enumerate", "zip", "dict_itemiterator", "dict_reverseitemiterator", "odict_iterator", "itertools.zip_longest", "itertools.pairwise"].contains n = false) (hQ : Q () s) : wpAny M A (letOwnedTupleGo tg (.ref it) u) Q E s := by
  unfold letOwnedTupleGo
  cases tg <;> first
    | exact En hQ
    | (cases u <;> first
        | exact En hQ
        | (refine Em (wpAny_load ho ?_)
           rw [hc, hd]
           show wpAny M A (if (["enumerate", "zip", "dict_itemiterator", "dict_reverseitemiterator", "odict_iterator", "itertools.zip_longest", "itertools.pairwise"].contains n && vs[0]? == some (rawInt _)) = true then _ else _) Q E s
           rw [if_neg (by intro h; rw [hn, Bool.false_and] at h; cases h)]
           exact En hQ))
def dI(K:Eo)(a:Addr):It:=
 ⟨fun i H=>∃xs x,ag K H a xs/\xs[i]?=some x,fun i H x H'=>H'=H/\∀xs,ag K H a xs->xs[i]?=some x,fun i H=>∃xs,ag K H a xs/\xs.length<=i⟩
def cB(K:Eo)(a:Addr):It:=
 ⟨fun i H=>∃xs x,ah K H a xs/\xs[i]?=some x,fun i H x H'=>H'=H/\∀xs,ah K H a xs->xs[i]?=some x,fun i H=>∃xs,ah K H a xs/\xs.length<=i⟩
def du(lo:Int)(n:Nat):It:=⟨fun i _=>i<n,fun i H x H'=>H'=H/\x=.int (lo+i),fun i _=>n<=i⟩
theorem CV{P:Program}{w:World}{K:Eo}{tg:Expr}(a it:Addr):Turn P w K tg (dI K a) [it] it (fun i h=>h.IsListIter it a i) where
 mem:=by simp
 obj:=fun i h st b hb=>by
  have e:b=it:=by simpa using hb
  subst e
  obtain⟨o,e,c,d⟩:=st
  exact⟨o,e,fun v z=>by rw[d]at z;cases z⟩
 keep:=fun i h h' st k=>st.at fun o e=>k it (by simp) o e
 item:=by
  intro X hP hw hK hc i pins s σ H E I hf st hg
  subst hP hw hK
  obtain⟨xs,x,hq,hx⟩:=hg
  obtain⟨its,rv,p,hz⟩:=I.list hq
  obtain⟨u,hu,ru⟩:=rv.get hx
  obtain⟨f0,f1,f2,f3,f4,f5⟩:=hf it (by simp)
  refine wpAny_pyNext_list_item st p.isList (x:=u) (by simpa using hu) fun h' st' sb=>?_
  have I1:Inv X pins σ H { s with heap:=h' }:=I.turned (t':=s.toks) (fun b o hb e=>(sb.2 b hb).trans e) f0 f1 f3 f4 f5
  obtain⟨o,e,c,d⟩:=id st'
  exact⟨u,rfl,mV (s:={ s with heap:=h' }) e c d (by decide) ⟨x,H,I1,ru,⟨rfl,fun ys hy=>by rw[I.list_inj hy hq];exact hx⟩,st',fun b hb=>(hf b hb).1⟩⟩
 done:=by
  intro X hP hw hK hc i pins s σ H E I hf st hg
  subst hP hw hK
  obtain⟨xs,hq,hx⟩:=hg
  obtain⟨its,rv,p,hz⟩:=I.list hq
  obtain⟨f0,f1,f2,f3,f4,f5⟩:=hf it (by simp)
  have hl:=rv.length
  exact wpAny_pyNext_list_end (I.ok.hd hc) st p.isList (by simp;omega) fun h' eb=>⟨rfl,I.turned (t':=s.toks) (fun b o hb e=>eb b o hb e) f0 f1 f3 f4 f5⟩
 self:=fun _ _ _ _ _ st h=>wpAny_pyIter_listiter st h
theorem Ej{P:Program}{w:World}{K:Eo}{tg:Expr}(a it:Addr):Turn P w K tg (cB K a) [it] it (fun i h=>h.IsTupleIter it a i) where
 mem:=by simp
 obj:=fun i h st b hb=>by
  have e:b=it:=by simpa using hb
  subst e
  obtain⟨o,e,c,d⟩:=st
  exact⟨o,e,fun v z=>by rw[d]at z;cases z⟩
 keep:=fun i h h' st k=>st.at fun o e=>k it (by simp) o e
 item:=by
  intro X hP hw hK hc i pins s σ H E I hf st hg
  subst hP hw hK
  obtain⟨xs,x,hq,hx⟩:=hg
  obtain⟨its,rv,p,hz⟩:=I.tuple hq
  obtain⟨u,hu,ru⟩:=rv.get hx
  obtain⟨f0,f1,f2,f3,f4,f5⟩:=hf it (by simp)
  refine wpAny_pyNext_tuple_item st (show s.heap.IsTuple a its.toArray from p) (x:=u) (by simpa using hu) fun h' st' sb=>?_
  have I1:Inv X pins σ H { s with heap:=h' }:=I.turned (t':=s.toks) (fun b o hb e=>(sb.2 b hb).trans e) f0 f1 f3 f4 f5
  obtain⟨o,e,c,d⟩:=id st'
  exact⟨u,rfl,mV (s:={ s with heap:=h' }) e c d (by decide) ⟨x,H,I1,ru,⟨rfl,fun ys hy=>by rw[I.tuple_inj hy hq];exact hx⟩,st',fun b hb=>(hf b hb).1⟩⟩
 done:=by
  intro X hP hw hK hc i pins s σ H E I hf st hg
  subst hP hw hK
  obtain⟨xs,hq,hx⟩:=hg
  obtain⟨its,rv,p,hz⟩:=I.tuple hq
  obtain⟨f0,f1,f2,f3,f4,f5⟩:=hf it (by simp)
  have hl:=rv.length
  exact wpAny_pyNext_tuple_end (I.ok.hd hc) st (show s.heap.IsTuple a its.toArray from p) (by simp;omega) fun h' eb=>⟨rfl,I.turned (t':=s.toks) (fun b o hb e=>eb b o hb e) f0 f1 f3 f4 f5⟩
 self:=fun _ _ _ _ _ st h=>wpAny_pyIter_tupleiter st h
theorem BW{P:Program}{w:World}{K:Eo}{tg:Expr}(it:Addr)(lo:Int)(n:Nat):Turn P w K tg (du lo n) [it] it (fun i h=>IsRangeIter h it (lo+(i:Nat)*1) ((n:Int)-(i:Nat)) 1) where
 mem:=by simp
 obj:=fun i h st b hb=>by
  have e:b=it:=by simpa using hb
  subst e
  exact⟨_,st,fun v z=>by
   have z':Data.fields _=Data.cell v:=z
   cases z'⟩
 keep:=fun i h h' st k=>k it (by simp) _ st
 item:=by
  intro X hP hw hK hc i pins s σ H E I hf st hg
  subst hP hw hK
  obtain⟨f0,f1,f2,f3,f4,f5⟩:=hf it (by simp)
  have W:=Walks.range (prog:=X.prog) (w:=X.w) (I.ok.hd hc) it lo 1 n
  refine W.item i s _ _ hg st fun v h' tk hv st' kk=>?_
  obtain⟨t,rfl⟩:=hv
  have I1:Inv X pins σ H { s with heap:=h',toks:=tk }:=I.turned (fun b o hb e=>kk b o (by simpa using hb) e) f0 f1 f3 f4 f5
  refine⟨_,rfl,mV (s:={ s with heap:=h',toks:=tk }) (n:="range_iterator") st' rfl rfl (by decide) ⟨.int (lo+i),H,I1,⟨t,?_⟩,⟨rfl,rfl⟩,st',fun b hb=>(hf b hb).1⟩⟩
  rw[Int.mul_one]
 done:=by
  intro X hP hw hK hc i pins s σ H E I hf st hg
  subst hP hw hK
  obtain⟨f0,f1,f2,f3,f4,f5⟩:=hf it (by simp)
  exact wpAny_pyNext_range_end (I.ok.hd hc) st (by have:n<=i:=hg;omega) fun h' eb=>⟨rfl,I.turned (t':=s.toks) (fun b o hb e=>eb b o hb e) f0 f1 f3 f4 f5⟩
 self:=fun _ _ _ _ _ st h=>wpAny_pyIter_rangeiter st h
end L2
namespace L2
open PySem PySem.Spec PyProof.Rows
section
variable {X:Cx} {tg:Expr}
def ny(K:Eo)(tl:TE):TI:=fun σ H R=>tl σ H fun x H1=>∃a,x=.ref a/\(∃xs,ag K H1 a xs)/\R (dI K a) H1
def oh(K:Eo)(tl:TE):TI:=fun σ H R=>tl σ H fun x H1=>∃a,x=.ref a/\(∃xs,ah K H1 a xs)/\R (cB K a) H1
theorem BR{l:Expr}{tl:TE}(hl:PE X l tl):PI X tg l (ny X.K tl):=by
 intro pins s σ H R I h
 refine aw (hl pins s σ H _ I h) fun v s1 ⟨x,H1,I1,r1,q1⟩=>?_
 obtain⟨a,e,⟨xs,hq⟩,q⟩:=q1
 subst e
 cases r1
 obtain⟨its,rv,p,hz⟩:=I1.list hq
 refine wpAny_pyIter_list p.isList ?_
 refine⟨s1.heap.objs.size,[s1.heap.objs.size],_,_,H1,rfl,I1.kept (t':=s1.toks) fun b o e=>Ep _ e,CV a _,⟨_,Er _ rfl,rfl,rfl⟩,fun b hb=>?_,q⟩
 have e:b=s1.heap.objs.size:=by simpa using hb
 subst e
 exact I1.fpOk (ER _) (I1.hok.fresh (ER _))
theorem zP{l:Expr}{tl:TE}(hl:PE X l tl):PI X tg l (oh X.K tl):=by
 intro pins s σ H R I h
 refine aw (hl pins s σ H _ I h) fun v s1 ⟨x,H1,I1,r1,q1⟩=>?_
 obtain⟨a,e,⟨xs,hq⟩,q⟩:=q1
 subst e
 cases r1
 obtain⟨its,rv,p,hz⟩:=I1.tuple hq
 refine wpAny_pyIter_tuple (show s1.heap.IsTuple a its.toArray from p) ?_
 refine⟨s1.heap.objs.size,[s1.heap.objs.size],_,_,H1,rfl,I1.kept (t':=s1.toks) fun b o e=>Ep _ e,Ej a _,⟨_,Er _ rfl,rfl,rfl⟩,fun b hb=>?_,q⟩
 have e:b=s1.heap.objs.size:=by simpa using hb
 subst e
 exact I1.fpOk (ER _) (I1.hok.fresh (ER _))
theorem xG{pins:List (Addr×Obj)}{σ:St}{H:Hp}{s:Shared}{R:It->Hp->Prop}{E:Value->Shared->Prop}{lo hi:Int}{t u v:Tok}{tk:Nat}(I:Inv X pins σ H s)(h1:-(2 ^ 62)<=lo)(h2:lo<2 ^ 62)(h3:-(2 ^ 62)<=hi)(h4:hi<2 ^ 62)
  (q:R (du lo (hi-lo).toNat) H):wpAny (model X.prog X.w) X.A (pyIter (.ref s.heap.objs.size)) (oR X pins σ tg R) E { s with heap:=s.heap.push { cls:=.type "range",data:=.fields #[.int lo t,.int hi u,.int 1 v] },toks:=tk }:=by
 refine wpAny_pyIter_range (IsRange.new ..) (small_one h1 h2 h3 h4) ?_
 have I1:Inv X pins σ H { s with heap:=s.heap.push { cls:=.type "range",data:=.fields #[.int lo t,.int hi u,.int 1 v] },toks:=tk }:=I.kept fun b o e=>Ep _ e
 refine⟨(s.heap.push { cls:=.type "range",data:=.fields #[.int lo t,.int hi u,.int 1 v] }).objs.size,[(s.heap.push { cls:=.type "range",data:=.fields #[.int lo t,.int hi u,.int 1 v] }).objs.size],_,_,H,rfl,
  I1.kept (t':=tk) fun b o e=>Ep _ e,BW _ lo (hi-lo).toNat,?_,fun b hb=>?_,q⟩
 ·have e1:lo+((0:Nat):Int)*1=lo:=by simp
  have e2:(((hi-lo).toNat:Nat):Int)-((0:Nat):Int)=Builtin.Range.rangeSize lo hi 1:=by rw[rangeSize_one];split<;>omega
  show IsRangeIter _ _ (lo+((0:Nat):Int)*1) ((((hi-lo).toNat:Nat):Int)-((0:Nat):Int)) 1
  rw[e1,e2]
  exact Er _ rfl
 ·have e:b=(s.heap.push { cls:=.type "range",data:=.fields #[.int lo t,.int hi u,.int 1 v] }).objs.size:=by simpa using hb
  subst e
  exact I1.fpOk (ER _) (I1.hok.fresh (ER _))
def vF(ta:TA):TI:=fun σ H R=>ta σ H fun vs H1=>∃j:Int,vs=[.int j]/\-(2 ^ 62)<=j/\j<2 ^ 62/\R (du 0 j.toNat) H1
def pI(ta:TA):TI:=fun σ H R=>ta σ H fun vs H1=>∃i j:Int,vs=[.int i,.int j]/\(-(2 ^ 62)<=i/\i<2 ^ 62/\-(2 ^ 62)<=j/\j<2 ^ 62)/\R (du i (j-i).toNat) H1
theorem cI{a:Expr}{ta:TA}{p pos:Pos}(hg:Gl X "range")(hm:X.mg "range" = none)(ha:PA X [a] ta)(hs:starEach [a] X.env=[(false,eval a X.env)]:=by rfl):PI X tg (.Call (.Name "range" p) [a] [] pos) (vF ta):=by
 intro pins s σ H R I h
 refine Call_ (ft I hg hm boot_range (PyProof.Rows.callWith_type1 (aw (ha pos pins s σ H _ I h) fun us s1 ⟨vs,H1,I1,r1,q1⟩=>?_) hs rfl))
 obtain⟨j,e,q1,q2,q⟩:=q1
 subst e
 cases r1 with
 | cons r rr=>
  cases rr
  obtain⟨t,rfl⟩:=r
  exact call_range_1 (xG I1 (by omega) (by omega) q1 q2 (by simpa using q))
theorem o5{a b:Expr}{ta:TA}{p pos:Pos}(hg:Gl X "range")(hm:X.mg "range" = none)(ha:PA X [a,b] ta)(hs:starEach [a,b] X.env=[(false,eval a X.env),(false,eval b X.env)]:=by rfl)(hs2:starEach [b] X.env=[(false,eval b X.env)]:=by rfl):
  PI X tg (.Call (.Name "range" p) [a,b] [] pos) (pI ta):=by
 intro pins s σ H R I h
 refine Call_ (ft I hg hm boot_range (PyProof.Rows.callWith_type1 (aw (ha pos pins s σ H _ I h) fun us s1 ⟨vs,H1,I1,r1,q1⟩=>?_) (by rw[hs,hs2]) (by rw[hs2];rfl)))
 obtain⟨i,j,e,⟨q1,q2,q3,q4⟩,q⟩:=q1
 subst e
 cases r1 with
 | cons r rr=>
  cases rr with
  | cons r' rr=>
   cases rr
   obtain⟨t,rfl⟩:=r
   obtain⟨t',rfl⟩:=r'
   exact call_range_2 (xG I1 q1 q2 q3 q4 q)
def pT(wi:TI)(g:TG)(tb:TS):TS:=fun D σ H=>wi σ H fun J H1=>∃W:Nat->Nat->St->Hp->Prop,(∃m,W 0 m σ H1)/\∀i m σ H,W i m σ H →
 (J.stop i H/\D.nx σ H)\/(J.go i H/\∃N:St->Hp->Prop,(∀σ' H',N σ' H'->∃m',m'<m/\W (i+1) m' σ' H')/\∀x H',J.yld i H x H'->g x σ H' fun σ2 H2=>tb { D with nx:=N,ct:=N,bk:=D.nx } σ2 H2)
def fS(fp:List Addr)(h:Heap):List (Addr×Obj):=fp.filterMap fun b=>(h.get? b).map fun o=>(b,o)
theorem nM{fp:List Addr}{h:Heap}{b:Addr}{o:Obj}(hb:b∈fp)(e:h.get? b=some o):(b,o)∈fS fp h:=List.mem_filterMap.mpr ⟨b,hb,by rw[e];rfl⟩
theorem vE{fp:List Addr}{h:Heap}{p:Addr×Obj}(hp:p∈fS fp h):p.1∈fp/\h.get? p.1=some p.2:=by
 obtain⟨b,hb,e⟩:=List.mem_filterMap.mp hp
 cases q:h.get? b with
 | none=>rw[q]at e;cases e
 | some o=>
  rw[q]at e
  have e':(b,o)=p:=Option.some.inj e
  subst e'
  exact⟨hb,q⟩
theorem Inv.pinned{pins:List (Addr×Obj)}{σ:St}{H:Hp}{s:Shared}{fp:List Addr}(I:Inv X pins σ H s)(hf:∀b∈fp,bV X pins H b)(ho:∀b∈fp,∃o,s.heap.get? b=some o/\∀v,o.data≠.cell v):Inv X (pins++fS fp s.heap) σ H s:=
 I.pins_of fun p hp=>(EU.mp hp).elim (fun z=>I.pin p (List.mem_append_right _ z)) fun z=>by
  obtain⟨hb,e⟩:=vE z
  obtain⟨f0,f1,f2,_⟩:=hf p.1 hb
  obtain⟨o,e',d⟩:=ho p.1 hb
  rw[e]at e';cases e'
  exact⟨e,f0,f1,f2,d⟩
theorem Inv.unpinned{pins pl:List (Addr×Obj)}{σ:St}{H:Hp}{s:Shared}(I:Inv X (pins++pl) σ H s):Inv X pins σ H s:=I.pins_of fun p hp=>I.pin p (List.mem_append_right _ (List.mem_append_left _ hp))
theorem bL{iter:Expr}{body:List Stmt}{wi:TI}{g:TG}{tb:TS}{pos:Pos}(hp:PassesOwn (model X.prog X.w) X.A X.env X.xe)(hc:X.calm=true)(hi:PI X tg iter wi)(hg:PG X tg g)(hb:cE X body tb)
  (hs:∀x,foldedSetIterable iter X.env x=pure x:=by intro _;rfl):PS X (.For tg iter body [] pos) (pT wi g tb):=by
 intro pins s σ H D I h
 refine wpAny_For (aw (hi pins s σ H _ I h) fun v s1 h1=>aw h1 fun itv s2 h2=>?_) hs
 obtain⟨it,fp,tn,J,H2,e,I2,T,st2,f2,W,⟨m0,w0⟩,turn⟩:=h2
 subst e
 -- what stays true of the iterator's objects through the loop
 have stat:∀{H':Hp},(∀b∈fp,H' b=none)->∀b∈fp,bV X pins H' b:=fun hn b hb=>⟨hn b hb,(f2 b hb).2⟩
 refine codeAny_forLoop_any (fun n s'=>∃i σ' H',Inv X pins σ' H' s'/\tn i s'.heap/\(∀b∈fp,H' b=none)/\W i n σ' H') ?_ m0 ⟨0,σ,H2,I2,st2,fun b hb=>(f2 b hb).1,w0⟩
 rintro n s3 ⟨i,σ3,H3,I3,st3,fr3,w3⟩
 rcases turn i n σ3 H3 w3 with⟨stop,qn⟩ | ⟨go,N,hN,step⟩
 ·refine wpAny_passesOwn hp (aw (T.done X rfl rfl rfl hc i pins s3 σ3 H3 X.xe I3 (stat fr3) st3 stop) fun r s4 ⟨hr,I4⟩=>?_)
  subst hr
  exact wpAny_execs_nil ⟨σ3,H3,I4,qn⟩
 ·refine wpAny_passesOwn hp (aw (T.item X rfl rfl rfl hc i pins s3 σ3 H3 X.xe I3 (stat fr3) st3 go) fun r s4 ⟨u,hr,h4⟩=>?_)
  subst hr
  refine wpAny_passesOwn hp (aw h4 fun _ s5 ⟨x,H5,I5,r5,y5,st5,fr5⟩=>?_)
  have I5':=I5.pinned (stat fr5) (T.obj _ _ st5)
  refine wpAny_passesOwn hp (aw (hg _ s5 σ3 H5 x u _ I5' r5 (step x H5 y5)) fun _ s6 ⟨σ6,H6,I6,q6⟩=>?_)
  refine wpAny_passesOwn hp (aw (hb _ s6 σ6 H6 _ I6 q6) fun f s7 q7=>?_)
  have again:∀{σ7:St} {H7:Hp},Inv X (pins++fS fp s5.heap) σ7 H7 s7->N σ7 H7->∃m,m<n/\∃i σ' H',Inv X pins σ' H' s7/\tn i s7.heap/\(∀b∈fp,H' b=none)/\W i m σ' H':=fun{σ7 H7} I7 n7=>by
   obtain⟨m',hm,w7⟩:=hN σ7 H7 n7
   refine⟨m',hm,i+1,σ7,H7,I7.unpinned,T.keep _ _ _ st5 fun b hb o e=>(I7.pin (b,o) (List.mem_append_right _ (List.mem_append_right _ (nM hb e)))).1,fun b hb=>?_,w7⟩
   obtain⟨o,e,d⟩:=T.obj _ _ st5 b hb
   exact(I7.pin (b,o) (List.mem_append_right _ (List.mem_append_right _ (nM hb e)))).2.1
  cases f with
  | next=>obtain⟨σ7,H7,I7,n7⟩:=q7;exact again I7 n7
  | cont=>obtain⟨σ7,H7,I7,n7⟩:=q7;exact again I7 n7
  | brk=>obtain⟨σ7,H7,I7,q7⟩:=q7;exact⟨σ7,H7,I7.unpinned,q7⟩
  | ret v=>obtain⟨x7,σ7,H7,I7,r7,q7⟩:=q7;exact⟨x7,σ7,H7,I7.unpinned,r7,q7⟩
end
theorem yP{K:Eo}{a:Addr}{xs:List V}{g:TG}{tb:TS}{D:Ends}{σ:St}{H:Hp}(Pv:Nat->St->Hp->Prop)(h0:Pv 0 σ H)(hl:∀i σ H,i<=xs.length->Pv i σ H->ag K H a xs)
  (hs:∀i x σ H,xs[i]?=some x->Pv i σ H->g x σ H fun σ2 H2=>tb { D with nx:=Pv (i+1),ct:=Pv (i+1),bk:=D.nx } σ2 H2) (hd:∀σ H,Pv xs.length σ H->D.nx σ H) :
  ∃W:Nat->Nat->St->Hp->Prop,(∃m,W 0 m σ H)/\∀i m σ H,W i m σ H →
   ((dI K a).stop i H/\D.nx σ H)\/((dI K a).go i H/\∃N:St->Hp->Prop,(∀σ' H',N σ' H'->∃m',m'<m/\W (i+1) m' σ' H')/\∀x H',(dI K a).yld i H x H'->g x σ H' fun σ2 H2=>tb { D with nx:=N,ct:=N,bk:=D.nx } σ2 H2):=by
 refine⟨fun i m σ H=>m=xs.length-i/\i<=xs.length/\Pv i σ H,⟨xs.length,by simp,Nat.zero_le _,h0⟩,?_⟩
 rintro i m σ H ⟨rfl,hi,p⟩
 have q:=hl i σ H hi p
 by_cases hlt:i<xs.length
 ·refine .inr ⟨⟨xs,xs[i],q,by simp[hlt]⟩,Pv (i+1),fun σ' H' p'=>⟨xs.length-(i+1),by omega,rfl,hlt,p'⟩,fun x H' y=>?_⟩
  obtain⟨e,y⟩:=y
  subst e
  exact hs i x σ _ (y xs q) p
 ·have e:i=xs.length:=by omega
  subst e
  exact .inl ⟨⟨xs,q,ER _⟩,hd σ H p⟩
theorem CS{K:Eo}{a:Addr}{xs:List V}{g:TG}{tb:TS}{D:Ends}{σ:St}{H:Hp}(Pv:Nat->St->Hp->Prop)(h0:Pv 0 σ H)(hl:∀i σ H,i<=xs.length->Pv i σ H->ah K H a xs)
  (hs:∀i x σ H,xs[i]?=some x->Pv i σ H->g x σ H fun σ2 H2=>tb { D with nx:=Pv (i+1),ct:=Pv (i+1),bk:=D.nx } σ2 H2) (hd:∀σ H,Pv xs.length σ H->D.nx σ H) :
  ∃W:Nat->Nat->St->Hp->Prop,(∃m,W 0 m σ H)/\∀i m σ H,W i m σ H →
   ((cB K a).stop i H/\D.nx σ H)\/((cB K a).go i H/\∃N:St->Hp->Prop,(∀σ' H',N σ' H'->∃m',m'<m/\W (i+1) m' σ' H')/\∀x H',(cB K a).yld i H x H'->g x σ H' fun σ2 H2=>tb { D with nx:=N,ct:=N,bk:=D.nx } σ2 H2):=by
 refine⟨fun i m σ H=>m=xs.length-i/\i<=xs.length/\Pv i σ H,⟨xs.length,by simp,Nat.zero_le _,h0⟩,?_⟩
 rintro i m σ H ⟨rfl,hi,p⟩
 have q:=hl i σ H hi p
 by_cases hlt:i<xs.length
 ·refine .inr ⟨⟨xs,xs[i],q,by simp[hlt]⟩,Pv (i+1),fun σ' H' p'=>⟨xs.length-(i+1),by omega,rfl,hlt,p'⟩,fun x H' y=>?_⟩
  obtain⟨e,y⟩:=y
  subst e
  exact hs i x σ _ (y xs q) p
 ·have e:i=xs.length:=by omega
  subst e
  exact .inl ⟨⟨xs,q,ER _⟩,hd σ H p⟩
theorem yX{lo:Int}{n:Nat}{g:TG}{tb:TS}{D:Ends}{σ:St}{H:Hp}(Pv:Nat->St->Hp->Prop)(h0:Pv 0 σ H)
  (hs:∀i σ H,i<n->Pv i σ H->g (.int (lo+i)) σ H fun σ2 H2=>tb { D with nx:=Pv (i+1),ct:=Pv (i+1),bk:=D.nx } σ2 H2) (hd:∀σ H,Pv n σ H->D.nx σ H) :
  ∃W:Nat->Nat->St->Hp->Prop,(∃m,W 0 m σ H)/\∀i m σ H,W i m σ H →
   ((du lo n).stop i H/\D.nx σ H)\/((du lo n).go i H/\∃N:St->Hp->Prop,(∀σ' H',N σ' H'->∃m',m'<m/\W (i+1) m' σ' H')/\∀x H',(du lo n).yld i H x H'->g x σ H' fun σ2 H2=>tb { D with nx:=N,ct:=N,bk:=D.nx } σ2 H2):=by
 refine⟨fun i m σ H=>m=n-i/\i<=n/\Pv i σ H,⟨n,by simp,Nat.zero_le _,h0⟩,?_⟩
 rintro i m σ H ⟨rfl,hi,p⟩
 by_cases hlt:i<n
 ·refine .inr ⟨hlt,Pv (i+1),fun σ' H' p'=>⟨n-(i+1),by omega,rfl,hlt,p'⟩,fun x H' y=>?_⟩
  obtain⟨e,y⟩:=y
  subst e y
  exact hs i σ _ hlt p
 ·have e:i=n:=by omega
  subst e
  exact .inl ⟨ER _,hd σ H p⟩
end L2
namespace L2
open PySem PySem.Spec PyProof.Rows
abbrev R2:=V->V->Hp->VK->Prop
def bB(X:Cx)(f:Value->Value->Sem Value)(r:R2):Prop:=
 ∀(pins:List (Addr×Obj)) (s:Shared) (σ:St) (H:Hp) (x y:V) (v u:Value) (Q:VK),Inv X pins σ H s->RelV x v->RelV y u->r x y H Q →
  wpAny (model X.prog X.w) X.A (f v u) (EP X pins σ Q) X.xe s
def mS(X:Cx)(f:Value->Sem Value)(r:V->Hp->VK->Prop):Prop:=
 ∀(pins:List (Addr×Obj)) (s:Shared) (σ:St) (H:Hp) (x:V) (v:Value) (Q:VK),Inv X pins σ H s->RelV x v->r x H Q →
  wpAny (model X.prog X.w) X.A (f v) (EP X pins σ Q) X.xe s
def bS(X:Cx)(f:Value)(r:List V->Hp->VK->Prop):Prop:=
 ∀(pins:List (Addr×Obj)) (s:Shared) (σ:St) (H:Hp) (xs:List V) (us:List Value) (Q:VK),Inv X pins σ H s->Vals xs us->r xs H Q →
  wpAny (model X.prog X.w) X.A (call f us) (EP X pins σ Q) X.xe s
def hG(r:R2)(ta tb:TE):TE:=fun σ H Q=>ta σ H fun x H1=>tb σ H1 fun y H2=>r x y H2 Q
def u5(r:V->Hp->VK->Prop)(ta:TE):TE:=fun σ H Q=>ta σ H fun x H1=>r x H1 Q
def rI(C:Int->Int->Prop)(g:Int->Int->V):R2:=fun x y H Q=>∃i j,x=.int i/\y=.int j/\C i j/\Q (g i j) H
def eY(g:Int->Int->V):R2:=fun x y H Q=>∃i j,x=.int i/\y=.int j/\Q (g i j) H
def rU(g:Int->V):V->Hp->VK->Prop:=fun x H Q=>∃i,x=.int i/\Q (g i) H
section
variable {X:Cx} {a b c:Expr} {ta tb tc:TE} {pos:Pos}
theorem o8(ha:PE X a ta)(hb:PE X b tb){pins:List (Addr×Obj)}{s:Shared}{σ:St}{H:Hp}{R:V->V->Hp->Prop}(I:Inv X pins σ H s)
  (h:ta σ H fun x H1=>tb σ H1 fun y H2=>R x y H2) {Q:Value->Shared->Prop} {f:Value->Value->Sem Value}
  (hf:∀v u s2 x y H2,Inv X pins σ H2 s2->RelV x v->RelV y u->R x y H2->wpAny (model X.prog X.w) X.A (f v u) Q X.xe s2) :
  wpAny (model X.prog X.w) X.A (eval a X.env) (fun v s₁=>wpAny (model X.prog X.w) X.A (eval b X.env) (fun u s₂=>wpAny (model X.prog X.w) X.A (f v u) Q X.xe s₂) X.xe s₁) X.xe s:=by
 refine aw (ha pins s σ H _ I h) fun v s1 ⟨x,H1,I1,r1,q1⟩=>?_
 refine aw (hb pins s1 σ H1 _ I1 q1) fun u s2 ⟨y,H2,I2,r2,q2⟩=>?_
 exact hf v u s2 x y H2 I2 r1 r2 q2
theorem av{op:Operator}{r:R2}(ho:bB X (binaryOp op) r)(ha:PE X a ta)(hb:PE X b tb):PE X (.BinOp a op b pos) (hG r ta tb):=by
 intro pins s σ H Q I h
 exact wpAny_BinOp (o8 ha hb I h fun v u s2 x y H2 I2 rx ry q=>ho pins s2 σ H2 x y v u Q I2 rx ry q)
theorem gW{op:UnaryOp}{r:V->Hp->VK->Prop}(ho:mS X (unaryOp op) r)(ha:PE X a ta):PE X (.UnaryOp op a pos) (u5 r ta):=by
 intro pins s σ H Q I h
 exact UnaryOp_ (aw (ha pins s σ H _ I h) fun v s1 ⟨x,H1,I1,r1,q1⟩=>ho pins s1 σ H1 x v Q I1 r1 q1)
theorem kR{f:Value->Value->Sem Value}{C:Int->Int->Prop}{g:Int->Int->Int}
  (rule:∀(i j:Int) (t u:Tok) (s:Shared) (Q:Value->Shared->Prop) (E:Value->Shared->Prop),C i j->Q (.int (g i j) s.toks) { s with toks:=s.toks+1 }->wpAny (model X.prog X.w) X.A (f (.int i t) (.int j u)) Q E s) :
  bB X f (rI C fun i j=>.int (g i j)):=by
 intro pins s σ H x y v u Q I rx ry h
 obtain⟨i,j,rfl,rfl,hc,q⟩:=h
 obtain⟨t,rfl⟩:=rx
 obtain⟨t',rfl⟩:=ry
 exact rule i j t t' s _ _ hc ⟨.int (g i j),H,I.tok _,⟨_,rfl⟩,q⟩
theorem rH{f:Value->Value->Sem Value}{g:Int->Int->Int}
  (rule:∀(i j:Int) (t u:Tok) (s:Shared) (Q:Value->Shared->Prop) (E:Value->Shared->Prop),Q (.int (g i j) s.toks) { s with toks:=s.toks+1 }->wpAny (model X.prog X.w) X.A (f (.int i t) (.int j u)) Q E s) :
  bB X f (eY fun i j=>.int (g i j)):=by
 intro pins s σ H x y v u Q I rx ry h
 obtain⟨i,j,rfl,rfl,q⟩:=h
 obtain⟨t,rfl⟩:=rx
 obtain⟨t',rfl⟩:=ry
 exact rule i j t t' s _ _ ⟨.int (g i j),H,I.tok _,⟨_,rfl⟩,q⟩
theorem jI{f:Value->Value->Sem Value}{g:Int->Int->Bool}
  (rule:∀(i j:Int) (t u:Tok) (s:Shared) (Q:Value->Shared->Prop) (E:Value->Shared->Prop),Q (.bool (g i j)) s->wpAny (model X.prog X.w) X.A (f (.int i t) (.int j u)) Q E s) :
  bB X f (eY fun i j=>.bl (g i j)):=by
 intro pins s σ H x y v u Q I rx ry h
 obtain⟨i,j,rfl,rfl,q⟩:=h
 obtain⟨t,rfl⟩:=rx
 obtain⟨t',rfl⟩:=ry
 exact rule i j t t' s _ _ ⟨.bl (g i j),H,I,rfl,q⟩
def w8(i j:Int):Prop:=0<=j/\j<=1000000/\i.natAbs<2 ^ 64
def j2(i j:Int):Prop:=(-(2 ^ 64)<i/\i<2 ^ 64)\/(-(2 ^ 64)<j/\j<2 ^ 64)
theorem j2.ok{i j:Int}(h:j2 i j):IntMulOk i j:=by
 rcases h with⟨h1,h2⟩ | ⟨h1,h2⟩
 ·exact .of_left (intBits_le_64 h1 h2)
 ·exact .of_right (intBits_le_64 h1 h2)
theorem aU:bB X (binaryOp .Add) (eY fun i j=>.int (i+j)):=rH fun _ _ _ _ _ _ _ q=>add_int q
theorem cX:bB X (binaryOp .Sub) (eY fun i j=>.int (i-j)):=rH fun _ _ _ _ _ _ _ q=>sub_int q
theorem dP:bB X (binaryOp .Mult) (rI j2 fun i j=>.int (i*j)):=kR fun _ _ _ _ _ _ _ hc q=>mul_int q hc.ok
theorem cz:bB X (binaryOp .Mod) (rI (fun _ j=>0<j) fun i j=>.int (i % j)):=kR fun i j _ _ _ _ _ hc q=>by
 have h1:(0:Int)<j:=hc
 exact mod_int' (by omega) (by rw[Int.fmod_eq_emod_of_nonneg i (by omega)];exact q)
theorem iS:bB X (binaryOp .Pow) (rI w8 fun i j=>.int (i ^ j.toNat)):=kR fun _ _ _ _ _ _ _ hc q=>pow_int_small hc.1 hc.2.1 hc.2.2 q
theorem A2{f:Value->Sem Value}{g:Int->Int}
  (rule:∀(i:Int) (t:Tok) (s:Shared) (Q:Value->Shared->Prop) (E:Value->Shared->Prop),Q (.int (g i) s.toks) { s with toks:=s.toks+1 }->wpAny (model X.prog X.w) X.A (f (.int i t)) Q E s) :
  mS X f (rU fun i=>.int (g i)):=by
 intro pins s σ H x v Q I rx h
 obtain⟨i,rfl,q⟩:=h
 obtain⟨t,rfl⟩:=rx
 exact rule i t s _ _ ⟨.int (g i),H,I.tok _,⟨_,rfl⟩,q⟩
theorem gY:mS X (unaryOp .USub) (rU fun i=>.int (-i)):=A2 fun _ _ _ _ _ q=>neg_int q
end
def sA:V->V->Bool
 | .non,.non=>true | .non,.int _=>true | .int _,.non=>true | .non,.bl _=>true | .bl _,.non=>true | .non,.str _=>true | .str _,.non=>true
 | .int _,.int _=>true | .bl _,.bl _=>true | .str _,.str _=>true | .byt _,.byt _=>true
 | .int _,.str _=>true | .str _,.int _=>true | .bl _,.str _=>true | .str _,.bl _=>true
 | _,_=>false
def lg:R2:=fun x y H Q=>sA x y=true/\Q (.bl (decide (x=y))) H
def mi:R2:=fun x y H Q=>sA x y=true/\Q (.bl (!decide (x=y))) H
theorem uX{i j:Int}:decide (V.int i=V.int j)=(i == j):=by
 rw[E8]
 simp
theorem ph{i j:Bool}:decide (V.bl i=V.bl j)=(i == j):=by
 rw[E8]
 simp
theorem ja{i j:Str}:decide (V.str i=V.str j)=(i == j):=by
 rw[E8]
 simp
theorem xp{i j:Array UInt8}:decide (V.byt i=V.byt j)=(i.toList == j.toList):=by
 rw[E8]
 cases i
 cases j
 simp
section
variable {X:Cx} {a b c:Expr} {ta tb tc:TE} {pos:Pos}
theorem bt{pins:List (Addr×Obj)}{σ:St}{H:Hp}{s:Shared}{Q:VK}{k k':Bool}(I:Inv X pins σ H s)(q:Q (.bl k) H)(e:k=k'):EP X pins σ Q (.bool k') s:=by
 subst e
 exact⟨.bl k,H,I,rfl,q⟩
theorem bM:bB X (compareOp .Eq) lg:=by
 intro pins s σ H x y v u Q I rx ry h
 obtain⟨hs,q⟩:=h
 cases x with
 | non=>
  cases rx
  cases y with
  | non=>cases ry;exact PySem.EqNone.eq_none_none (bt I q (by simp))
  | bl j=>cases ry;exact PySem.EqNone.eq_none_bool (bt I q (by simp))
  | int j=>obtain⟨t',rfl⟩:=ry;exact PySem.EqNone.eq_none_int (bt I q (by simp))
  | str j=>obtain⟨t',rfl⟩:=ry;exact PySem.EqNone.eq_none_str (bt I q (by simp))
  | _=>exact absurd (show false=true from hs) EL
 | bl i=>
  cases rx
  cases y with
  | non=>cases ry;exact PySem.EqNone.eq_bool_none (bt I q (by simp))
  | bl j=>cases ry;exact eq_bool (bt I q ph)
  | str j=>obtain⟨t',rfl⟩:=ry;exact PySem.EqMixed.eq_bool_str (bt I q (by simp))
  | _=>exact absurd (show false=true from hs) EL
 | int i=>
  obtain⟨t,rfl⟩:=rx
  cases y with
  | non=>cases ry;exact PySem.EqNone.eq_int_none (bt I q (by simp))
  | int j=>obtain⟨t',rfl⟩:=ry;exact eq_int (bt I q uX)
  | str j=>obtain⟨t',rfl⟩:=ry;exact PySem.EqMixed.eq_int_str (bt I q (by simp))
  | _=>exact absurd (show false=true from hs) EL
 | str i=>
  obtain⟨t,rfl⟩:=rx
  cases y with
  | non=>cases ry;exact PySem.EqNone.eq_str_none (bt I q (by simp))
  | bl j=>cases ry;exact PySem.EqMixed.eq_str_bool (bt I q (by simp))
  | int j=>obtain⟨t',rfl⟩:=ry;exact PySem.EqMixed.eq_str_int (bt I q (by simp))
  | str j=>obtain⟨t',rfl⟩:=ry;exact eq_str (bt I q ja)
  | _=>exact absurd (show false=true from hs) EL
 | byt i=>
  obtain⟨t,rfl⟩:=rx
  cases y with
  | byt j=>obtain⟨t',rfl⟩:=ry;exact PySem.W.eq_bytes (bt I q xp)
  | _=>exact absurd (show false=true from hs) EL
 | _=>cases y<;>exact absurd (show false=true from hs) EL
theorem fL:bB X (compareOp .NotEq) mi:=by
 intro pins s σ H x y v u Q I rx ry h
 obtain⟨hs,q⟩:=h
 cases x with
 | non=>
  cases rx
  cases y with
  | non=>cases ry;exact PySem.EqNone.ne_none_none (bt I q (by simp))
  | bl j=>cases ry;exact PySem.EqNone.ne_none_bool (bt I q (by simp))
  | int j=>obtain⟨t',rfl⟩:=ry;exact PySem.EqNone.ne_none_int (bt I q (by simp))
  | str j=>obtain⟨t',rfl⟩:=ry;exact PySem.EqNone.ne_none_str (bt I q (by simp))
  | _=>exact absurd (show false=true from hs) EL
 | bl i=>
  cases rx
  cases y with
  | non=>cases ry;exact PySem.EqNone.ne_bool_none (bt I q (by simp))
  | bl j=>cases ry;exact ne_bool (bt I q (congrArg not ph))
  | str j=>obtain⟨t',rfl⟩:=ry;exact PySem.EqMixed.ne_bool_str (bt I q (by simp))
  | _=>exact absurd (show false=true from hs) EL
 | int i=>
  obtain⟨t,rfl⟩:=rx
  cases y with
  | non=>cases ry;exact PySem.EqNone.ne_int_none (bt I q (by simp))
  | int j=>obtain⟨t',rfl⟩:=ry;exact ne_int (bt I q (congrArg not uX))
  | str j=>obtain⟨t',rfl⟩:=ry;exact PySem.EqMixed.ne_int_str (bt I q (by simp))
  | _=>exact absurd (show false=true from hs) EL
 | str i=>
  obtain⟨t,rfl⟩:=rx
  cases y with
  | non=>cases ry;exact PySem.EqNone.ne_str_none (bt I q (by simp))
  | bl j=>cases ry;exact PySem.EqMixed.ne_str_bool (bt I q (by simp))
  | int j=>obtain⟨t',rfl⟩:=ry;exact PySem.EqMixed.ne_str_int (bt I q (by simp))
  | str j=>obtain⟨t',rfl⟩:=ry;exact ne_str (bt I q (congrArg not ja))
  | _=>exact absurd (show false=true from hs) EL
 | byt i=>
  obtain⟨t,rfl⟩:=rx
  cases y with
  | byt j=>obtain⟨t',rfl⟩:=ry;exact PySem.W.ne_bytes (bt I q (congrArg not xp))
  | _=>exact absurd (show false=true from hs) EL
 | _=>cases y<;>exact absurd (show false=true from hs) EL
theorem eB:bB X (compareOp .Lt) (eY fun i j=>.bl (decide (i<j))):=jI fun _ _ _ _ _ _ _ q=>lt_int q
theorem gZ:bB X (compareOp .LtE) (eY fun i j=>.bl (decide (i<=j))):=jI fun _ _ _ _ _ _ _ q=>le_int q
theorem gn:bB X (compareOp .Gt) (eY fun i j=>.bl (decide (j<i))):=jI fun _ _ _ _ _ _ _ q=>gt_int q
theorem wQ:bB X (compareOp .GtE) (eY fun i j=>.bl (decide (j<=i))):=jI fun _ _ _ _ _ _ _ q=>ge_int q
theorem yM:bB X (compareOp .Is) (fun x y H Q=>y=.non/\Q (.bl (decide (x=.non))) H):=by
 intro pins s σ H x y v u Q I rx ry h
 obtain⟨rfl,q⟩:=h
 cases ry
 refine is_none_gen (bt I q ?_)
 cases x<;>first
  | (cases rx;rfl)
  | (obtain⟨t,rfl⟩:=rx;rfl)
theorem sH:bB X (compareOp .IsNot) (fun x y H Q=>y=.non/\Q (.bl (!decide (x=.non))) H):=by
 intro pins s σ H x y v u Q I rx ry h
 obtain⟨rfl,q⟩:=h
 cases ry
 refine isnot_none_gen (bt I q ?_)
 cases x<;>first
  | (cases rx;rfl)
  | (obtain⟨t,rfl⟩:=rx;rfl)
theorem aQ(b:Expr){op:CmpOp}(h:op≠.In:=by decide)(h2:op≠.NotIn:=by decide):behindInMarks op b=false:=by
 have e1:(op == CmpOp.In)=false:=by cases op<;>first | rfl | exact absurd rfl h
 have e2:(op == CmpOp.NotIn)=false:=by cases op<;>first | rfl | exact absurd rfl h2
 cases b<;>simp[behindInMarks,e1,e2]
theorem dF{op:CmpOp}{r:R2}(ho:bB X (compareOp op) r)(ha:PE X a ta)(hb:PE X b tb)(hm:behindInMarks op b=false):PE X (.Compare a [op] [b] pos) (hG r ta tb):=by
 intro pins s σ H Q I h
 exact wpAny_Compare1 (o8 ha hb I h fun v u s2 x y H2 I2 rx ry q=>ho pins s2 σ H2 x y v u Q I2 rx ry q) hm
def ve(t:TE):TT:=fun σ H Q=>t σ H fun x H'=>∃k,x=.bl k/\Q k H'
theorem aT{op:CmpOp}{r:R2}(ho:bB X (compareOp op) r)(ha:PE X a ta)(hb:PE X b tb)(hm:behindInMarks op b=false):PT X (.Compare a [op] [b] pos) (ve (hG r ta tb)):=by
 intro pins s σ H Q I h
 refine wpAny_isTrue_Compare1 (aw (ha pins s σ H _ I h) fun v s1 ⟨x,H1,I1,r1,q1⟩=>aw (hb pins s1 σ H1 _ I1 q1) fun u s2 ⟨y,H2,I2,r2,q2⟩=>
  aw (ho pins s2 σ H2 x y v u _ I2 r1 r2 q2) fun c s3 ⟨z,H3,I3,r3,k,e,q3⟩=>?_) hm
 subst e
 cases r3
 exact wpAny_truthy_bool ⟨H3,I3,q3⟩
def vC(r r':R2)(ta tb tc:TE):TE:=fun σ H Q=>ta σ H fun x H1=>tb σ H1 fun y H2=>r x y H2 fun z H3=>∃k,z=.bl k ∧
 (if k=true then tc σ H3 fun w' H4=>r' y w' H4 Q else Q (.bl false) H3)
theorem lh{op op':CmpOp}{r r':R2}(ho:bB X (compareOp op) r)(ho':bB X (compareOp op') r')(ha:PE X a ta)(hb:PE X b tb)(hc:PE X c tc)
  (hm:lastMarks [op,op'] [b,c]=false:=by with_unfolding_all rfl):PE X (.Compare a [op,op'] [b,c] pos) (vC r r' ta tb tc):=by
 intro pins s σ H Q I h
 refine Compare_chain (aw (ha pins s σ H _ I h) fun v s1 ⟨x,H1,I1,r1,q1⟩=>chain_link (aw (hb pins s1 σ H1 _ I1 q1) fun u s2 ⟨y,H2,I2,r2,q2⟩=>
  aw (ho pins s2 σ H2 x y v u _ I2 r1 r2 q2) fun d s3 ⟨z,H3,I3,r3,k,e,q3⟩=>?_)) hm
 subst e
 cases r3
 refine wpAny_truthy_bool ?_
 cases k with
 | false=>exact ite_ff ⟨.bl false,H3,I3,rfl,q3⟩
 | true=>exact ite_tt (chain_last (aw (hc pins s3 σ H3 _ I3 q3) fun w' s4 ⟨z',H4,I4,r4,q4⟩=>ho' pins s4 σ H4 y z' u w' Q I4 r2 r4 q4))
theorem ik:(sizeLine:Nat)<2 ^ 63:=by rw[sizeLine_eq];decide
theorem vals1{x:V}{us:List Value}(r:Vals [x] us):∃u,us=[u]/\RelV x u:=by
 cases r with
 | cons r1 r2=>cases r2;exact⟨_,rfl,r1⟩
theorem vals2{x y:V}{us:List Value}(r:Vals [x,y] us):∃u w',us=[u,w']/\RelV x u/\RelV y w':=by
 cases r with
 | cons r1 r2=>
  cases r2 with
  | cons r3 r4=>cases r4;exact⟨_,_,rfl,r1,r3⟩
theorem Bg(hc:X.calm=true):bS X (.builtin "max") (fun xs H Q=>∃i j,xs=[.int i,.int j]/\Q (.int (if j>i then j else i)) H):=by
 intro pins s σ H xs us Q I r h
 obtain⟨i,j,rfl,q⟩:=h
 obtain⟨u,w',rfl,⟨t,rfl⟩,⟨t',rfl⟩⟩:=vals2 r
 refine max_two_ints (I.ok.hd hc) fun h' tk k=>⟨_,H,I.kept k,?_,q⟩
 by_cases hj:j>i
 ·rw[if_pos hj,if_pos hj];exact⟨_,rfl⟩
 ·rw[if_neg hj,if_neg hj];exact⟨_,rfl⟩
theorem zX(hc:X.calm=true):bS X (.builtin "min") (fun xs H Q=>∃i j,xs=[.int i,.int j]/\Q (.int (if j<i then j else i)) H):=by
 intro pins s σ H xs us Q I r h
 obtain⟨i,j,rfl,q⟩:=h
 obtain⟨u,w',rfl,⟨t,rfl⟩,⟨t',rfl⟩⟩:=vals2 r
 refine min_two_ints (I.ok.hd hc) fun h' tk k=>⟨_,H,I.kept k,?_,q⟩
 by_cases hj:j<i
 ·rw[if_pos hj,if_pos hj];exact⟨_,rfl⟩
 ·rw[if_neg hj,if_neg hj];exact⟨_,rfl⟩
theorem zD:bS X (.type "int") (fun xs H Q=>(∃i,xs=[.int i]/\Q (.int i) H)\/∃k,xs=[.bl k]/\Q (.int (if k then 1 else 0)) H):=by
 intro pins s σ H xs us Q I r h
 rcases h with⟨i,rfl,q⟩ | ⟨k,rfl,q⟩
 ·obtain⟨u,rfl,t,rfl⟩:=vals1 r
  exact call_int_int ⟨.int i,H,I,⟨_,rfl⟩,q⟩
 ·obtain⟨u,rfl,r1⟩:=vals1 r
  cases r1
  exact call_int_bool ⟨.int (if k then 1 else 0),H,I.tok _,⟨_,rfl⟩,q⟩
end
end L2
namespace L2
open PySem PySem.Spec PyProof.Rows
structure ObjM(h:Heap)(x dx C:Addr)(mA:Str->Option Value):Prop where
 obj:h.get? x=some (PySem.W.instObj C dx)
 ns:h.Ns1 dx mA
 ne:dx≠x
theorem yQ{h:Heap}{dx:Addr}{mA:Str->Option Value}(n:h.Ns1 dx mA):∃od,h.get? dx=some od/\∀name,PySem.W.lookIn name od=some (mA name):=by
 obtain⟨o,es,ep,ho,hd,hk,_,hm⟩:=n
 refine⟨o,ho,fun name=>?_⟩
 have e:=hm name
 unfold nsFind findBy at e
 rw[←Array.find?_toList]at e
 unfold PySem.W.lookIn
 rw[hd]
 dsimp only
 split
 ·rename_i y q
  rw[q]at e
  exact congrArg some e
 ·rename_i q
  rw[q]at e
  have a:es.toList.any (·.refKey)=false:=by
   rw[List.any_eq_false]
   intro y hy
   obtain⟨z,t,hkey⟩:=hk y (Array.mem_toList_iff.mp hy)
   simp[DictEntry.refKey,hkey]
  have a':¬es.toList.any (·.refKey)=true:=by rw[a];exact EL
  rw[if_neg a']
  exact congrArg some e
theorem ObjM.look{h:Heap}{x dx C:Addr}{mA:Str->Option Value}(I:ObjM h x dx C mA):∃od,PySem.W.InstAt h x (PySem.W.instObj C dx) C (some od)/\∀name,PySem.W.lookIn name od=some (mA name):=
 let ⟨od,ho,hl⟩:=yQ I.ns
 ⟨od,⟨I.obj,rfl,rfl,ho⟩,hl⟩
section
variable {prog:Program} {w:World} {A:Around} {E:Value->Shared->Prop} {s:Shared} {K:Eo} {x dx C f:Addr} {mA:Str->Option Value} {name:Str} {v:Value}
end
theorem dR.some_of{v:V}{o:Option Value}(r:dR (some v) o):∃u,o=some u/\RelV v u:=by
 cases o with
 | none=>exact(show False from r).elim
 | some u=>exact⟨u,rfl,r⟩
section
variable {P:Program} {w:World} {H H':Hp} {h h':Heap} {a C dx:Addr} {fs fs':List (Str×V)}
theorem DR(hok:aZ P w H h)(e:H a=some (.ins C dx fs)):∃mA,ObjM h a dx C mA/\(∀f,dR (fs.lookup f) (mA f))/\PySem.Within mA (fs.map (·.1))/\fs.length<=1000/\H dx=some (.own a):=by
 obtain⟨d,z,ne,ob,mA,n,r,q⟩:=(show br P w H h a (.ins C dx fs)from hok a _ e)
 exact⟨mA,⟨ob,n,ne⟩,r,q,z,d⟩
end
structure Cls(K:Eo)(C:Addr):Prop where
 pg:PySem.W.plainGet K C Str.empty=true
 hd:PySem.W.hasDictIn K C=true
 po:PySem.W.plainOver K C=true
 sa:PySem.W.findIn K (.ref C) "__setattr__" = some (some (.builtin "object.__setattr__"))
theorem Cls.get{K:Eo}{C:Addr}(c:Cls K C)(f:Str):PySem.W.plainGet K C f=true:=c.pg
section
variable {X:Cx} {pins:List (Addr×Obj)} {σ:St} {H:Hp} {s:Shared} {a C dx:Addr} {fs:List (Str×V)} {f:Str} {v:V} {A:Around} {E:Value->Shared->Prop}
end
section
variable {X:Cx} {o e value:Expr} {f:Str} {pos pos' tpos:Pos} {ta tv:TE}
end
section
variable {X:Cx} {pins:List (Addr×Obj)} {σ:St} {H:Hp} {s:Shared} {A:Around} {E:Value->Shared->Prop} {Q:Value->Shared->Prop} {c:Value} {b:Bool}
inductive TyOf(K:Eo)(H:Hp):V->Value->Prop where
 | non:TyOf K H .non (.type "NoneType")
 | bl (x:Bool):TyOf K H (.bl x) (.type "bool")
 | int (i:Int):TyOf K H (.int i) (.type "int")
 | str (x:Str):TyOf K H (.str x) (.type "str")
 | flt (x:UInt64):TyOf K H (.flt x) (.type "float")
 | lst {a:Addr} {xs:List V} (e:H a=some (.lst xs)):TyOf K H (.ref a) (.type "list")
 | frz {a:Addr} {o:Obj} {xs:List V} (e:H a=some (.frz o (.lst xs))):TyOf K H (.ref a) (.type "list")
 | tup {a:Addr} {xs:List V} (e:H a=some (.tup xs)):TyOf K H (.ref a) (.type "tuple")
 | dK {a:Addr} {kvs:List (Key×V)} (e:H a=some (.dK kvs)):TyOf K H (.ref a) (.type "dict")
 | dT {a:Addr} {kvs:List (List Key×V)} (e:H a=some (.dT kvs)):TyOf K H (.ref a) (.type "dict")
 | ins {a C dx:Addr} {fs:List (Str×V)} (e:H a=some (.ins C dx fs)) (cl:Cls K C) (ha:PySem.W.findIn K (.ref C) "__class__" = some (some (.builtin "object.__class__")))
   (hn:PySem.W.specialIn K (.builtin "object.__class__") "__get__" = some (some (.builtin "getset_descriptor.__get__"))) (htk:PySem.W.takesIn K (.builtin "object.__class__")=some true)
   (hm:PySem.W.mroIn K C (.type "object")=some true):TyOf K H (.ref a) (.ref C)
theorem BK{x:V}{u t:Value}(I:Inv X pins σ H s)(rx:RelV x u)(ty:TyOf X.K H x t)(e:PySem.W.kitOne X.K t c=some b)(h:∀tk,Q (.bool b) { s with toks:=tk }):
  wpAny (model X.prog X.w) A (call (.builtin "isinstance") [u,c]) Q E s:=by
 cases ty with
 | non=>cases(show u=Value.none from rx);exact PySem.W.kia_one PySem.W.kitx_none I.kIn True.intro e (fun z=>nomatch z) h
 | bl y=>cases(show u=Value.bool y from rx);exact PySem.W.kia_one PySem.W.kitx_bool I.kIn True.intro e (fun z=>nomatch z) h
 | int i=>obtain⟨t,q⟩:=(show ∃t,u=Value.int i t from rx);cases q;exact PySem.W.kia_one PySem.W.kitx_int I.kIn True.intro e (fun z=>nomatch z) h
 | str y=>obtain⟨t,q⟩:=(show ∃t,u=Value.str y t from rx);cases q;exact PySem.W.kia_one PySem.W.kitx_str I.kIn True.intro e (fun z=>nomatch z) h
 | flt y=>obtain⟨t,q⟩:=(show ∃t,u=Value.float y t from rx);cases q;exact PySem.W.kia_one PySem.W.kitx_float I.kIn True.intro e (fun z=>nomatch z) h
 | @lst a xs ea=>
  cases(show u=Value.ref a from rx)
  obtain⟨_,_,n,_,h1⟩:=(show br X.prog X.w H s.heap a (.lst xs)from I.hok a _ ea)
  exact PySem.W.kia_one PySem.W.kitx_list I.kIn ⟨_,h1,rfl⟩ e (fun z=>nomatch z) h
 | @frz a ob xs ea=>
  cases(show u=Value.ref a from rx)
  obtain⟨_,_,_,n,_,h1⟩:=(show br X.prog X.w H s.heap a (.frz ob (.lst xs))from I.hok a _ ea)
  exact PySem.W.kia_one PySem.W.kitx_list I.kIn ⟨_,h1,rfl⟩ e (fun z=>nomatch z) h
 | @tup a xs ea=>
  cases(show u=Value.ref a from rx)
  obtain⟨_,_,_,p⟩:=(show br X.prog X.w H s.heap a (.tup xs)from I.hok a _ ea)
  obtain⟨o,h1,h2,_⟩:=p
  exact PySem.W.kia_one PySem.W.kitx_tuple I.kIn ⟨o,h1,h2⟩ e (fun z=>nomatch z) h
 | @dK a kvs ea=>
  cases(show u=Value.ref a from rx)
  obtain⟨_,_,vs,_,p⟩:=(show br X.prog X.w H s.heap a (.dK kvs)from I.hok a _ ea)
  obtain⟨o,es,ep,h1,h2,_⟩:=p
  exact PySem.W.kia_one PySem.W.kitx_dict I.kIn ⟨o,h1,h2.1⟩ e (fun z=>nomatch z) h
 | @dT a kvs ea=>
  cases(show u=Value.ref a from rx)
  obtain⟨_,_,xs,_,o,es,ep,h1,h2,_⟩:=(show br X.prog X.w H s.heap a (.dT kvs)from I.hok a _ ea)
  exact PySem.W.kia_one PySem.W.kitx_dict I.kIn ⟨o,h1,h2.1⟩ e (fun z=>nomatch z) h
 | @ins a C dx fs ea cl ha hn htk hm=>
  cases(show u=Value.ref a from rx)
  obtain⟨mA,O,_⟩:=DR I.hok ea
  obtain⟨od,J,_⟩:=O.look
  exact PySem.W.kia_one (PySem.W.kitx_own (cl.get _) cl.hd ha hn htk hm) I.kIn J e (fun z=>nomatch z) h
end
end L2
namespace L2
open PySem PySem.Spec PyProof.Rows
structure Room(k:Nat)(A:Around):Prop where
 hd:A.handled=none
 dp:A.depth+3*k+5<recursionLimit
 un:A.units+16*k+200<cLine
theorem Room.mono{j k:Nat}{A:Around}(r:Room k A)(h:j<=k):Room j A:=⟨r.hd,by have:=r.dp;omega,by have:=r.un;omega⟩
theorem Room.deeper{k:Nat}{A:Around}(r:Room (k+1) A)(env:Env):Room k (A.deeper env):=
 ⟨r.hd,by have:=r.dp;show A.depth+1+3*k+5<_;omega,by have:=r.un;show A.units+3+16*k+200<_;omega⟩
theorem Room.depth{k:Nat}{A:Around}(r:Room k A):A.depth<recursionLimit:=by have:=r.dp;omega
theorem Room.units{k:Nat}{A:Around}(r:Room k A):A.units+64<cLine:=by have:=r.un;omega
def oM:TA:=fun _ H Q=>Q [] H
def mX(ta:TE)(tr:TA):TA:=fun σ H Q=>ta σ H fun x H1=>tr σ H1 fun xs H2=>Q (x::xs) H2
section
variable {X:Cx} {e:Expr} {es:List Expr} {te:TE} {t:TA} {pos:Pos}
theorem ae:PA X [] oM:=fun _ _ _ _ H Q I h=>Calls.spliced_nil ⟨[],H,I,.nil,h⟩
theorem aa(ha:PE X e te)(hr:PA X es t)(hs:starEach (e::es) X.env=(false,eval e X.env)::starEach es X.env:=by rfl):PA X (e::es) (mX te t):=by
 intro pos pins s σ H Q I h
 rw[hs]
 show wpAny _ _ (spliced ((false,eval e X.env)::backTo pos (starEach es X.env))) _ _ s
 refine Calls.spliced_cons (aw (ha pins s σ H _ I h) fun u s1 ⟨x,H1,I1,r1,q1⟩=>?_)
 exact aw (hr pos pins s1 σ H1 _ I1 q1) fun us s2 ⟨xs,H2,I2,r2,q2⟩=>⟨x::xs,H2,I2,.cons r1 r2,q2⟩
def ng(t:TA):TE:=fun σ H Q=>t σ H fun xs H1=>xs.length<=sizeLine/\∀p,H1 p=none->Q (.ref p) (upd H1 p (.tup xs))
def we(t:TA):TE:=fun σ H Q=>t σ H fun xs H1=>xs.length<=sizeLine/\∀p,H1 p=none->Q (.ref p) (upd H1 p (.lst xs))
theorem bA{x1}(h:PA X es t):PE X (.Tuple es x1 pos) (ng t):=by
 intro pins s σ H Q I hq
 refine wpAny_Tuple_spliced (aw (h pos pins s σ H _ I hq) fun us s1 ⟨xs,H1,I1,r,z,q⟩=>⟨by rw[←r.length];exact z,?_⟩)
 have hf:H1 s1.heap.objs.size=none:=I1.hok.fresh (ER _)
 refine⟨.ref s1.heap.objs.size,upd H1 s1.heap.objs.size (.tup xs),I1.laid (t':=s1.toks) (fun b u e=>Ep _ e) (ER _) ?_,rfl,q _ hf⟩
 exact⟨z,us,r,⟨_,Er _ rfl,rfl,_,rfl⟩⟩
theorem bz(h:PA X es t):PE X (.List es pos) (we t):=by
 intro pins s σ H Q I hq
 refine wpAny_List_spliced (aw (h pos pins s σ H _ I hq) fun us s1 ⟨xs,H1,I1,r,z,q⟩=>⟨by rw[←r.length];exact z,?_⟩)
 have hf:H1 s1.heap.objs.size=none:=I1.hok.fresh (ER _)
 refine⟨.ref s1.heap.objs.size,upd H1 s1.heap.objs.size (.lst xs),I1.laid (t':=s1.toks) (fun b u e=>Ep _ e) (ER _) ?_,rfl,q _ hf⟩
 exact⟨z,us,0,r,Er _ rfl⟩
end
abbrev Sp:=List V->Hp->VK->XK->Prop
abbrev fi:=List Env->Hp->Shared->XK->Value->Shared->Prop
structure Env0(P:Program)(w:World)(K:Eo)(mg:Str->Option Value)(base:Heap)(A:Around)(outer:List Env)(s:Shared)(H:Hp):Prop where
 frames:A.frames=some outer
 mod:Mod K mg base
 bs:∀b o,base.get? b=some o->s.heap.get? b=some o/\H b=none
 bsz:base.objs.size<=s.heap.objs.size
 funs:s.heap.FunFrames base outer
 frf:∀b∈cR outer,H b=none
 hok:aZ P w H s.heap
 bare:AllBare s.gens
def CE(outer:List Env)(P:Program)(w:World)(H:Hp)(s:Shared)(Q:VK)(u:Value)(s':Shared):Prop:=
 ∃v H',s'.os=s.os/\AllBare s'.gens/\Un (cR outer) [] H H' s.heap s'.heap/\aZ P w H' s'.heap/\RelV v u/\Q v H'
def CR(CX:fi)(outer:List Env)(P:Program)(w:World)(H:Hp)(s:Shared)(Q:VK)(E:XK)(r:Result)(s':Shared):Prop:=
 match r with
 | .ok (.ret u)=>CE outer P w H s Q u s'
 | .ok _=>False
 | .error e=>CX outer H s E e s'
structure FnOk(P:Program)(w:World)(K:Eo)(mg:Str->Option Value)(base:Heap)(CX:fi)(k:Nat)(f:Addr)(fd:FuncData)(ps:List Str)(sp:Sp):Prop where
 len:∀vs H Q E,sp vs H Q E->vs.length=ps.length
 run:∀(A:Around) (outer:List Env) (s:Shared) (H:Hp) (args:Args) (us:List Value) (vs:List V) (Q:VK) (E:XK),Room k A->Env0 P w K mg base A outer s H->BindsTo s fd args (ps.zip us)->Vals vs us->sp vs H Q E →
  codeAny (model P w) A (.call (.ref f) args) (CR CX outer P w H s Q E) s
section
variable {X:Cx} {pins:List (Addr×Obj)} {σ:St} {H:Hp} {s s':Shared}
theorem Inv.env0(I:Inv X pins σ H s):Env0 X.prog X.w X.K X.mg X.base X.A X.stack s H:=
 ⟨I.ok.frames,I.ok.mod,I.bs,E4 I.ok.bsz I.sz,I.stack,I.stkFree,I.hok,I.bare⟩
theorem Inv.after{Q:VK}{u:Value}(I:Inv X pins σ H s)(h:CE X.stack X.prog X.w H s Q u s'):EP X pins σ Q u s':=by
 obtain⟨v,H',os,bare,un,hok,r,q⟩:=h
 obtain⟨hh,g,d,t,os'⟩:=s'
 obtain rfl:os'=s.os:=os
 exact⟨v,H',I.call (h':=hh) (g':=g) (d':=d) (t':=t) (ch:=[]) un hok bare (fun b z=>absurd z (by simp)),r,q⟩
end
def jL(sp:Sp)(dvs:List V)(E:XK)(t:TA):TE:=fun σ H Q=>t σ H fun vs H1=>sp (vs++dvs) H1 Q E
def Binds(K:Eo)(fd:FuncData)(ps:List Str)(ds:List Value):Prop:=
 ∀(s:Shared) (us:List Value),K.In s.heap->(us++ds).length=ps.length->BindsTo s fd ⟨us,[]⟩ (ps.zip (us++ds))
theorem Binds.all{K:Eo}{fd:FuncData}{ps:List Str}(h:∀us:List Value,us.length=ps.length->bindArgs fd ⟨us,[]⟩=pure (ps.zip us)):Binds K fd ps []:=fun s us _ hl=>by
 rw[List.append_nil]at hl ⊢
 exact .of_eq (h us hl)
def Passes(CX:fi)(X:Cx)(E:XK):Prop:=∀(pins:List (Addr×Obj)) (σ:St) (H:Hp) (s:Shared) (e:Value) (s':Shared),Inv X pins σ H s->CX X.stack H s E e s'->X.xe e s'
section
variable {X:Cx} {CX:fi} {k:Nat} {f C:Addr} {fd:FuncData} {ps:List Str} {sp:Sp} {dvs:List V} {ds:List Value} {E:XK} {x m:Str} {p pos apos:Pos} {e o:Expr} {es:List Expr} {ta:TE} {t:TA}
theorem zw{pins:List (Addr×Obj)}{σ:St}{H:Hp}{s:Shared}{Q:VK}{us:List Value}{vs:List V}(F:FnOk X.prog X.w X.K X.mg X.base CX k f fd ps sp)(hr:Room k X.A)(hb:Binds X.K fd ps ds)(hd:Vals dvs ds)(hx:Passes CX X E)
  (I:Inv X pins σ H s) (r:Vals vs us) (h:sp (vs++dvs) H Q E):wpAny (model X.prog X.w) X.A (call (.ref f) us) (EP X pins σ Q) X.xe s:=by
 have r2:Vals (vs++dvs) (us++ds):=r.append hd
 have hl:(us++ds).length=ps.length:=by rw[←r2.length];exact F.len _ _ _ _ h
 refine wpAny_call (codeAny_mono (F.run X.A X.stack s H ⟨us,[]⟩ (us++ds) (vs++dvs) Q E hr I.env0 (hb s us I.kIn hl) r2 h) fun r s' hq=>?_)
 cases r with
 | error e=>exact hx pins σ H s e s' I hq
 | ok fl=>
  cases fl with
  | ret u=>exact I.after hq
  | next=>exact False.elim hq
  | brk=>exact False.elim hq
  | cont=>exact False.elim hq
theorem Dz(F:FnOk X.prog X.w X.K X.mg X.base CX k f fd ps sp)(hr:Room k X.A)(hg:Gl X x)(hm:X.mg x=some (.ref f))(hk:PySem.W.keepIn X.K (.ref f)=true)(hb:Binds X.K fd ps ds)(hd:Vals dvs ds)(hx:Passes CX X E)
  (ha:PA X (e::es) t) (hdb:(x == ("__debug__":Str))=false:=by decide) (he:starEach (e::es) X.env=(false,eval e X.env)::starEach es X.env:=by rfl) (hpl:(backTo pos (starEach es X.env)).any (·.1)=false:=by rfl) :
  PE X (.Call (.Name x p) (e::es) [] pos) (jL sp dvs E t):=by
 intro pins s σ H Q I h
 refine wpAny_Call_Name_kw (jk I hg hm ?_ hdb)
 refine PySem.W.callWith_K (h₀:=X.base) I.ok.mod.kin hk (aw (ha pos pins s σ H _ I h) fun us s1 ⟨vs,H1,I1,r,q⟩=>⟨I1.kIn,?_⟩) he hpl
 exact zw F hr hb hd hx I1 r q
end
section
variable {X:Cx} {CX:fi} {k:Nat} {f C:Addr} {fd:FuncData} {ps ks:List Str} {sp:Sp} {E:XK} {x m:Str} {p pos apos kpos:Pos} {e o:Expr} {es:List Expr} {kws:List Keyword} {te ta:TE} {t tk:TA} {nm:Option Str}
variable {g:List Value->List Value->List Value} {gV:List V->List V->List V}
end
structure FnScope(N P:List Str)(sc:Scope):Prop where
 kind:sc.kind=.function
 co:sc.isCoroutine=false
 gen:sc.isGenerator=false
 nd:N.Nodup
 pre:N.take P.length=P
 par:∀x∈P,sc.names.lookup x=some .local\/sc.names.lookup x=some .cell
 nofree:∀y∈sc.names,y.2≠.free
theorem rC{kindOf:Str->Option NameKind}{x:Str}:∀{binds:List (Str×Value)} {m:Str->Option Value},(∀v,(x,v)∉binds)->bindL kindOf binds m x=m x
 | [],_,_=>rfl
 | (n,v)::r,m,h=>by
  unfold bindL
  rw[rC fun w hw=>h w (Ez _ hw)]
  split
  ·have:x≠n:=by rintro rfl;exact h v EC
   simp[this]
  ·rfl
theorem rm{kindOf:Str->Option NameKind}{x:Str}:∀{binds:List (Str×Value)} {m:Str->Option Value},(∀v,(x,v)∉binds)->bindC kindOf binds m x=m x
 | [],_,_=>rfl
 | (n,v)::r,m,h=>by
  unfold bindC
  rw[rm fun w hw=>h w (Ez _ hw)]
  split
  ·rfl
  ·have:x≠n:=by rintro rfl;exact h v EC
   simp[this]
theorem mU{kindOf:Str->Option NameKind}{x:Str}{v:Value}:∀{P:List Str} {vs:List Value} {i:Nat} {m:Str->Option Value},P.Nodup->P[i]?=some x->vs[i]?=some v->kindOf x=some .local →
  bindL kindOf (P.zip vs) m x=some v
 | [],_,_,_,_,h,_,_=>by simp at h
 | _::_,[],_,_,_,_,h,_=>by simp at h
 | p::P,w::vs,0,m,nd,h1,h2,hk=>by
  simp at h1 h2;subst h1;subst h2
  show bindL kindOf ((p,w)::P.zip vs) m p=_
  unfold bindL
  rw[rC fun v hv=>(List.nodup_cons.mp nd).1 (List.of_mem_zip hv).1,if_pos hk]
  simp
 | p::P,w::vs,i+1,m,nd,h1,h2,hk=>by
  show bindL kindOf ((p,w)::P.zip vs) m x=_
  unfold bindL
  exact mU (i:=i) (List.nodup_cons.mp nd).2 (by simpa using h1) (by simpa using h2) hk
theorem mZ{kindOf:Str->Option NameKind}{x:Str}{v:Value}:∀{P:List Str} {vs:List Value} {i:Nat} {m:Str->Option Value},P.Nodup->P[i]?=some x->vs[i]?=some v->kindOf x≠some .local →
  bindC kindOf (P.zip vs) m x=some v
 | [],_,_,_,_,h,_,_=>by simp at h
 | _::_,[],_,_,_,_,h,_=>by simp at h
 | p::P,w::vs,0,m,nd,h1,h2,hk=>by
  simp at h1 h2;subst h1;subst h2
  show bindC kindOf ((p,w)::P.zip vs) m p=_
  unfold bindC
  rw[rm fun v hv=>(List.nodup_cons.mp nd).1 (List.of_mem_zip hv).1,if_neg hk]
  simp
 | p::P,w::vs,i+1,m,nd,h1,h2,hk=>by
  show bindC kindOf ((p,w)::P.zip vs) m x=_
  unfold bindC
  exact mZ (i:=i) (List.nodup_cons.mp nd).2 (by simpa using h1) (by simpa using h2) hk
def start(N:List Str)(vs:List V):St:=vs.map some++List.replicate (N.length-vs.length) none
def fF(CX:fi)(P:Program)(w:World)(K:Eo)(mg:Str->Option Value)(base:Heap)(N:List Str)(qual:Str)(scope:Scope)(f:Addr)(cd:Value)(A:Around)(outer:List Env)(s:Shared)(H:Hp)(E:XK):Cx where
 prog:=P
 w:=w
 K:=K
 mg:=mg
 base:=base
 A:=A.deeper (envOfC qual scope s.heap.objs.size f cd)
 N:=N
 s₀:=s
 H₀:=H
 env:=envOfC qual scope s.heap.objs.size f cd
 outer:=outer
 stack:=envOfC qual scope s.heap.objs.size f cd::outer
 ex:=[]
 calm:=true
 fn:=fun _=>true
 pn:=[]
 xe:=fun e s'=>wpAny (model P w) (A.deeper (envOfC qual scope s.heap.objs.size f cd)) (leaving (envOfC qual scope s.heap.objs.size f cd) e) (fun _ s''=>CX outer H s E e s'') (fun e' s''=>CX outer H s E e' s'') s'
theorem vV{sc:Scope}{n:Nat}{x:Str}(h:sc.names.lookup x=some .cell):∃c,(cellsFrom n sc.names []).lookup x=some c:=by
 have q:=PySem.W.cellsFrom_some sc.names n [] (.inl h)
 exact Option.isSome_iff_exists.mp q
theorem CP{CX:fi}{P:Program}{w:World}{K:Eo}{mg:Str->Option Value}{base:Heap}{N ps:List Str}{qual:Str}{scope:Scope}{f:Addr}{cd:Value}{A:Around}{outer:List Env}{s s1:Shared}{H:Hp}{E:XK}{us:List Value}{vs:List V}
  (S:FnScope N ps scope) (hd:A.handled=none) (e0:Env0 P w K mg base A outer s H) (hl:vs.length=ps.length) (r:Vals vs us)
  (x:InCallC s s.heap.objs.size (bindL (envOfC qual scope s.heap.objs.size f cd).kindOf (ps.zip us) fun _=>none) (cellsFrom (s.heap.objs.size+1) scope.names []) (bindC (envOfC qual scope s.heap.objs.size f cd).kindOf (ps.zip us) fun _=>none) s1) :
  Inv (fF CX P w K mg base N qual scope f cd A outer s H E) [] (start N vs) H s1:=by
 have hpl:ps.length<=N.length:=by have:=congrArg List.length S.pre;rw[List.length_take]at this;omega
 obtain⟨h1,tk,rfl,hk⟩:=x.done
 have noA:∀b:Addr,b∉(fF CX P w K mg base N qual scope f cd A outer s H E).ex:=fun b z=>absurd (show b∈([]:List Addr)from z) (by simp)
 refine⟨⟨e0.mod,S.kind,rfl,rfl,ER _,fun y z c h1 h2=>?_,fun y hy=>?_,fun y c _ h=>?_,fun _=>hd,Around.frames_deeper e0.frames,.inr ⟨rfl,rfl⟩,fun b z=>absurd z (noA b),e0.bs,e0.bsz,fun b _ _=>noA b,fun b z=>absurd z (noA b),e0.funs,e0.frf⟩,
  rfl,e0.bare,Un.kept hk,⟨_,x.toInCall.ns,fun i y v h1 h2 h3=>?_⟩,fun y c h=>⟨_,x.cell y c h⟩,e0.hok.fresh (ER _),fun y c h=>?_,fun p hp=>absurd (show p∈([]:List (Addr×Obj))from hp) (by simp),e0.hok.kept hk,?_⟩
 ·exact name_of_addr x.apart (PySem.mem_of_lookup h1) (PySem.mem_of_lookup h2)
 ·have hy:scope.names.lookup y=some .cell\/scope.names.lookup y=some .free:=hy
  rcases hy with hy | hy
  ·exact vV hy
  ·exact absurd rfl (S.nofree _ (PySem.mem_of_lookup hy))
 ·exact Nat.le_of_lt (x.above y c (PySem.mem_of_lookup h))
 ·have hi:i<vs.length:=by
   unfold start at h2
   by_cases hi:i<vs.length
   ·exact hi
   ·rw[EV (by simpa using hi)]at h2
    rw[List.getElem?_replicate]at h2
    split at h2<;>cases h2
  have ha:vs[i]?=some v:=by
   unfold start at h2
   rw[EW (by simpa using hi),Ey]at h2
   cases e:vs[i]? with
   | none=>rw[e]at h2;cases h2
   | some a=>rw[e]at h2;cases h2;rfl
  obtain⟨u,hu,rv⟩:=r.get ha
  have hp:ps[i]?=some y:=by
   rw[←S.pre,List.getElem?_take_of_lt (by omega)];exact h1
  have ndP:ps.Nodup:=by rw[←S.pre];exact S.nd.sublist (List.take_sublist _ _)
  refine⟨u,rv,?_⟩
  rcases S.par y (EF hp)with k | k
  ·exact .inl ⟨k,mU ndP hp hu k⟩
  ·obtain⟨c,e⟩:=vV (n:=s.heap.objs.size+1) k
   refine .inr ⟨.inl k,c,e,?_⟩
   have q:=x.cell y c e
   rw[mZ ndP hp hu (by show scope.names.lookup y≠_;rw[k];decide)]at q
   exact q
 ·exact e0.hok.fresh (Nat.le_of_lt (x.above y c (PySem.mem_of_lookup h)))
 ·unfold start
  show _=N.length
  rw[EN,Ew,List.length_replicate]
  omega
theorem tK{CX:fi}{P:Program}{w:World}{K:Eo}{mg:Str->Option Value}{base:Heap}{k:Nat}{f:Addr}{name qual:Str}{params:Arguments}{body:List Stmt}{scope:Scope}{dV kV doc pm cdv ct oc:Value}{an od:Option Addr}
  {osl:Array (Option Value)} {N ps:List Str} {sp:Sp} (lk:K.lookup f=some ⟨oc,od,.func (PySem.W.fnOf name qual params body scope dV kV doc pm an cdv ct),osl⟩) (hcd:PySem.W.codeIn K cdv qual=true) (S:FnScope N ps scope)
  (len:∀vs H Q E,sp vs H Q E->vs.length=ps.length)
  (hbody:∀(A:Around) (outer:List Env) (s:Shared) (H:Hp) (vs:List V) (Q:VK) (E:XK),Room k (A.deeper (envOfC qual scope s.heap.objs.size f cdv))->sp vs H Q E →
   ∃t,cE (fF CX P w K mg base N qual scope f cdv A outer s H E) body t/\t { nx:=fun _ H'=>Q .non H',rt:=Q } (start N vs) H) :
  FnOk P w K mg base CX (k+1) f (PySem.W.fnOf name qual params body scope dV kV doc pm an cdv ct) ps sp:=by
 refine⟨len,fun A outer s H args us vs Q E hr e0 hb r hsp=>?_⟩
 have hl:=len _ _ _ _ hsp
 have KX:K.In s.heap:=e0.mod.kin.keeps fun b o e=>(e0.bs b o e).1
 have lim:s.heap.NoLimit:=e0.mod.nolimit.keeps fun b o e=>(e0.bs b o e).1
 have hkind:∀y∈ps.zip us,scope.names.lookup y.1=some .local\/(scope.names.lookup y.1=some .cell/\((cellsFrom (s.heap.objs.size+1) scope.names []).lookup y.1).isSome=true):=fun⟨n,v⟩ hy=>by
  rcases S.par n (List.of_mem_zip hy).1 with q | q
  ·exact .inl q
  ·exact .inr ⟨q,PySem.W.cellsFrom_some _ _ _ (.inl q)⟩
 refine codeAny_call_function hr.depth (KX _ _ lk) rfl S.co S.gen rfl (PySem.W.codeRec_of KX hcd) (hb _ _ _ _ ?_)
 refine wpAny_newFunctionEnv_cells S.kind hkind fun env he s1 x=>?_
 subst he
 refine⟨lim.keeps x.toInCall.keep,codeAny_func ?_⟩
 obtain⟨t,ht,hq⟩:=hbody A outer s H vs Q E (hr.deeper _) hsp
 have I:Inv (fF CX P w K mg base N qual scope f cdv A outer s H E) [] (start N vs) H s1:=CP S hr.hd e0 hl r x
 refine wpAny_mono (ht [] s1 (start N vs) H _ I hq) (fun fl s' hs=>?_) fun e s' hs=>hs
 have fin:∀{σ':St} {H':Hp} {v:V} {u:Value},Inv (fF CX P w K mg base N qual scope f cdv A outer s H E) [] σ' H' s'->RelV v u->Q v H'->CE outer P w H s Q u s':=
  fun{σ' H' v u} J rv q=>⟨v,H',J.os,J.bare,J.base,J.hok,rv,q⟩
 cases fl with
 | ret u=>
  obtain⟨v,σ',H',J,rv,q⟩:=hs
  exact fin J rv q
 | next=>
  obtain⟨σ',H',J,q⟩:=hs
  exact fin (v:=V.non) (u:=Value.none) J rfl q
 | brk=>
  obtain⟨_,_,_,q⟩:=hs
  exact False.elim q
 | cont=>
  obtain⟨_,_,_,q⟩:=hs
  exact False.elim q
end L2
namespace L2
open PySem PySem.Spec PyProof.Rows
section
variable {X:Cx} {x:Str} {p pos:Pos} {e:Expr} {es:List Expr} {t:TA} {id T:String} {r:List V->Hp->VK->Prop}
def kQ(r:List V->Hp->VK->Prop)(t:TA):TE:=fun σ H Q=>t σ H fun vs H1=>r vs H1 Q
theorem aX(hc:bS X (.builtin id) r)(hg:Gl X x)(hm:X.mg x=none)(hv:bootBuiltins x=some (.builtin id))(ha:PA X (e::es) t)(hn:x≠"__name__":=by decide)(hdb:(x == ("__debug__":Str))=false:=by decide)
  (he:starEach (e::es) X.env=(false,eval e X.env)::starEach es X.env:=by rfl) (hpl:(backTo pos (starEach es X.env)).any (·.1)=false:=by rfl):PE X (.Call (.Name x p) (e::es) [] pos) (kQ r t):=by
 intro pins s σ H Q I h
 refine wpAny_Call_Name_kw (ft I hg hm hv ?_ hn hdb)
 exact PyProof.Rows.callWith_builtin1 (aw (ha pos pins s σ H _ I h) fun us s1 ⟨vs,H1,I1,r1,q1⟩=>hc pins s1 σ H1 vs us Q I1 r1 q1) he hpl
theorem fu(hc:bS X (.type T) r)(hg:Gl X x)(hm:X.mg x=none)(hv:bootBuiltins x=some (.type T))(ha:PA X (e::es) t)(hn:x≠"__name__":=by decide)(hdb:(x == ("__debug__":Str))=false:=by decide)
  (he:starEach (e::es) X.env=(false,eval e X.env)::starEach es X.env:=by rfl) (hpl:(backTo pos (starEach es X.env)).any (·.1)=false:=by rfl):PE X (.Call (.Name x p) (e::es) [] pos) (kQ r t):=by
 intro pins s σ H Q I h
 refine wpAny_Call_Name_kw (ft I hg hm hv ?_ hn hdb)
 exact PyProof.Rows.callWith_type1 (aw (ha pos pins s σ H _ I h) fun us s1 ⟨vs,H1,I1,r1,q1⟩=>hc pins s1 σ H1 vs us Q I1 r1 q1) he hpl
end
end L2
namespace HT
open PySem PyProof.Rows
section
open PySem.SeqAt
open PySem.AutoSeq1 (wpAny_loadPart')
open PySem.MeetsSeq PySem.MeetsSeq2 PySem.MeetsSeq3
end
section
variable {prog:Program} {w:World} {A:Around} {E:Value->Shared->Prop} {s:Shared}
def aN(n d:Nat):Option Int->Nat
 | none=>d
 | some v=>if v<0 then(v+(n:Int)).toNat else min v.toNat n
theorem nZ(n d:Nat):aN n d none=d:=rfl
theorem rK(n d k:Nat):aN n d (some (k:Int))=min k n:=by
 show(if(k:Int)<0 then((k:Int)+(n:Int)).toNat else min (k:Int).toNat n)=min k n
 rw[if_neg (by omega),EI]
theorem Dn(n d:Nat)(hd:d<=n)(o:Option Int):aN n d o<=n:=by
 cases o with
 | none=>exact hd
 | some v=>
  show(if v<0 then(v+(n:Int)).toNat else min v.toNat n)<=n
  by_cases hv:v<0
  ·rw[if_pos hv];omega
  ·rw[if_neg hv];exact Nat.min_le_right _ _
theorem xu(v:Int)(n d:Nat):(if v<0 then max (v+(n:Int)) 0 else min v (n:Int))=((aN n d (some v):Nat):Int):=by
 show(if v<0 then max (v+(n:Int)) 0 else min v (n:Int))=(((if v<0 then(v+(n:Int)).toNat else min v.toNat n):Nat):Int)
 by_cases hv:v<0
 ·simp only[if_pos hv];omega
 ·simp only[if_neg hv];omega
theorem Bh(lo hi:Option Int)(n:Nat):Builtin.Slice.sliceAdjust lo hi 1 (n:Int)=(((aN n 0 lo:Nat):Int),((aN n n hi:Nat):Int)):=by
 have h1:¬((1:Int)<0):=by omega
 unfold Builtin.Slice.sliceAdjust
 simp only[h1,if_false]
 refine Prod.ext ?_ ?_
 ·cases lo with
  | none=>rfl
  | some v=>exact xu v n 0
 ·cases hi with
  | none=>rfl
  | some v=>exact xu v n n
theorem zp(i j:Nat):Builtin.Slice.slicePlaces (i:Int) (j:Int) 1=j-i:=by
 unfold Builtin.Slice.slicePlaces
 have h1:(1:Int)>0:=by omega
 simp only[h1,if_true,Int.ediv_one]
 split<;>omega
theorem vc{v:Value}{o:Option Int}{Q:Option Int->Shared->Prop}(p:IsPart v o)(h:Q o s):wpAny (model prog w) A (Builtin.Slice.slicePartIndex v) Q E s:=by
 cases p with
 | none=>exact slicePart_none h
 | int i t=>exact slicePart_int h
theorem pO{sl:Addr}{vl vu:Value}{lo hi:Option Int}{n:Nat}{Q:Int×Int×Nat->Shared->Prop}(hs:s.heap.IsSliceOf sl vl vu .none)(pl:IsPart vl lo)(pu:IsPart vu hi)
  (h:Q (((aN n 0 lo:Nat):Int),1,aN n n hi-aN n 0 lo) s):wpAny (model prog w) A (Builtin.Slice.sliceApplied (.ref sl) (pure (n:Int))) Q E s:=by
 obtain⟨os,hos,hcs,hds⟩:=id hs
 unfold Builtin.Slice.sliceApplied Builtin.Slice.sliceFields
 refine Em (Em (wpAny_field hos hds (x:=vl) rfl (Em (wpAny_field hos hds (x:=vu) rfl (Em (wpAny_field hos hds (x:=.none) rfl (En ?_)))))))
 refine Em (slicePart_none ?_)
 show wpAny _ _ (if((1:Int) == 0)=true then _ else _) _ _ s
 rw[if_neg (by decide)]
 refine Em (vc pl (Em (vc pu (Em (En ?_)))))
 show wpAny _ _ (match Builtin.Slice.sliceAdjust lo hi 1 (n:Int)with | (lo,hi)=>pure (lo,(1:Int),Builtin.Slice.slicePlaces lo hi 1)) _ _ s
 rw[Bh lo hi n]
 show wpAny _ _ (pure (((aN n 0 lo:Nat):Int),(1:Int),Builtin.Slice.slicePlaces ((aN n 0 lo:Nat):Int) ((aN n n hi:Nat):Int) 1)) _ _ s
 rw[zp]
 exact En h
theorem B9(xs:Array Value)(i k:Nat):((List.range k).filterMap fun(m:Nat)=>xs[((i:Int)+(m:Int)*1).toNat]?).toArray=((xs.toList.drop i).take k).toArray:=by
 have e:(fun(m:Nat)=>xs[((i:Int)+(m:Int)*1).toNat]?)=fun m=>xs[i+m]?:=by
  funext m
  have:((i:Int)+(m:Int)*1).toNat=i+m:=by omega
  rw[this]
 rw[e]
 have:=pick_run xs i k
 rw[List.filterMap_map]at this
 have e2:((fun x=>xs[x]?)∘fun x=>i+x)=fun m=>xs[i+m]?:=rfl
 rw[e2]at this
 rw[this]
theorem DT{t sl:Addr}{items:Array Value}{vl vu:Value}{lo hi:Option Int}{Q:Value->Shared->Prop}(ht:IsTup s.heap t items)(hs:s.heap.IsSliceOf sl vl vu .none)(pl:IsPart vl lo)(pu:IsPart vu hi)
  (hw:¬(aN items.size 0 lo=0/\aN items.size items.size hi=items.size))
  (h:Q (.ref s.heap.objs.size) { s with heap:=s.heap.push { cls:=.type "tuple",data:=.seq ((items.toList.drop (aN items.size 0 lo)).take (aN items.size items.size hi-aN items.size 0 lo)).toArray } })
  (hsz:items.size<=sizeLine):wpAny (model prog w) A (getItem (.ref t) (.ref sl)) Q E s:=by
 have htake:sizeOk (.seq ((items.toList.drop (aN items.size 0 lo)).take (aN items.size items.size hi-aN items.size 0 lo)).toArray):=by
  show((items.toList.drop (aN items.size 0 lo)).take (aN items.size items.size hi-aN items.size 0 lo)).toArray.size<=sizeLine
  rw[EB,List.length_take,List.length_drop,EA]
  omega
 have hj:aN items.size items.size hi<=items.size:=Dn _ _ (ER _) hi
 obtain⟨os,hos,hcs,hds⟩:=id hs
 have hTs:s.TypeIs (.ref sl) "slice":=⟨os,hos,hcs⟩
 unfold getItem
 try with_reducible refine wpAny_holding ?_
 first | refine Em (En ?_) | skip
 refine Em (wpAny_sequenceKey ht.typeIs (by decide) ?_)
 refine Em (wpAny_callSpecial?_slot (name:=Str.ofString "__getitem__") ht.typeIs PyProof.Rows.slot_tuple_getitem
  (wpAny_call_entry PyProof.Rows.slot_tuple_getitem ht.typeIs entry_tuple_getitem ?_ (args_tuple_getitem _ _)))
 show wpAny _ _ (Builtin.Tuple.tupleItemsOf (.ref t) >>= _) _ _ s
 refine Em (tupleItemsOf_ ht ?_)
 refine Em (wpAny_typeOf hTs ?_)
 rw[if_pos (by decide)]
 refine Em (pO hs pl pu ?_)
 have hno:¬((((aN items.size 0 lo:Nat):Int) == 0 && (1:Int) == 1 && (aN items.size items.size hi-aN items.size 0 lo) == items.size)=true):=by
  intro q
  rw[E9,E9]at q
  have q1:((aN items.size 0 lo:Nat):Int)=0:=eq_of_beq q.1.1
  have q2:aN items.size items.size hi-aN items.size 0 lo=items.size:=eq_of_beq q.2
  exact hw ⟨by omega,by omega⟩
 show wpAny _ _ (if(((aN items.size 0 lo:Nat):Int) == 0 && (1:Int) == 1 && (aN items.size items.size hi-aN items.size 0 lo) == items.size)=true then _ else _) _ _ s
 rw[if_neg hno,B9]
 first
  | exact Em (m:=Builtin.Tuple.tupleExact _) (wpAny_newObj_type (En ⟨_,rfl,En h⟩) htake)
  | exact Em (m:=Builtin.Tuple.tupleExact _) (wpAny_newObj_type (Em (En (En ⟨_,rfl,En h⟩))) htake)
  | exact Em (Em (m:=Builtin.Tuple.tupleExact _) (wpAny_newObj_type (En (En ⟨_,rfl,En h⟩)) htake))
  | exact Em (Em (m:=Builtin.Tuple.tupleExact _) (wpAny_newObj_type (En ⟨_,rfl,En h⟩) htake))
end
end HT
namespace L2
open PySem PySem.Spec PyProof.Rows
abbrev TO:=St->Hp->(Option Int->Hp->Prop)->Prop
def PO(X:Cx)(e:Option Expr)(t:TO):Prop:=
 ∀(pins:List (Addr×Obj)) (s:Shared) (σ:St) (H:Hp) (Q:Option Int->Hp->Prop),Inv X pins σ H s->t σ H Q →
  wpAny (model X.prog X.w) X.A (evalPart e X.env) (fun u s'=>∃o H',Inv X pins σ H' s'/\IsPart u o/\Q o H') X.xe s
def xh:TO:=fun _ H Q=>Q none H
def vG(t:TE):TO:=fun σ H Q=>t σ H fun x H1=>∃i,x=.int i/\Q (some i) H1
theorem intsAre_of{ns:List Int}:∀{us:List Value},Vals (ns.map V.int) us->IntsAre us ns:=by
 induction ns with
 | nil=>intro us r;rw[List.map_nil]at r;cases r;exact .nil
 | cons n ns ih=>
  intro us r
  rw[List.map_cons]at r
  cases r with
  | cons r1 r2=>
   obtain⟨t,e⟩:=r1
   subst e
   exact .cons n t (ih r2)
section
variable {X:Cx} {e:Expr} {te:TE} {lo hi:Option Expr} {tl th:TO} {pos p2:Pos}
theorem jo:PO X none xh:=by
 intro pins s σ H Q I h
 rw[evalPart_none]
 exact En ⟨none,H,I,.none,h⟩
theorem fG(h:PE X e te):PO X (some e) (vG te):=by
 intro pins s σ H Q I hw
 rw[evalPart_some]
 refine aw (h pins s σ H _ I hw) fun u s1 ⟨x,H1,I1,r1,q1⟩=>?_
 obtain⟨i,rfl,q⟩:=q1
 obtain⟨t,rfl⟩:=r1
 exact⟨some i,H1,I1,.int i t,q⟩
def jq(X:Cx)(r:V->Option Int->Option Int->Hp->VK->Prop):Prop:=
 ∀(pins:List (Addr×Obj)) (s:Shared) (σ:St) (H:Hp) (x:V) (v vl vu:Value) (lo hi:Option Int) (sl:Addr) (Q:VK),Inv X pins σ H s->RelV x v->s.heap.IsSliceOf sl vl vu .none->IsPart vl lo->IsPart vu hi->r x lo hi H Q →
  ∃T id,typeLookup (.type T) "__getitem__" = pure (some (.builtin id))/\s.TypeIs v T/\wpAny (model X.prog X.w) X.A (getItem v (.ref sl)) (EP X pins σ Q) X.xe s
def qh(r:V->Option Int->Option Int->Hp->VK->Prop)(te:TE)(tl th:TO):TE:=fun σ H Q=>te σ H fun x H1=>tl σ H1 fun l H2=>th σ H2 fun u H3=>r x l u H3 Q
theorem g7{r:V->Option Int->Option Int->Hp->VK->Prop}(hr:jq X r)(he:PE X e te)(hl:PO X lo tl)(hu:PO X hi th):PE X (.Subscript e (.Slice lo hi none p2) pos) (qh r te tl th):=by
 intro pins s σ H Q I h
 refine Subscript_ (aw (he pins s σ H _ I h) fun v s1 ⟨x,H1,I1,r1,q1⟩=>?_)
 refine wpAny_Slice (aw (hl pins s1 σ H1 _ I1 q1) fun vl s2 ⟨l,H2,I2,pl,q2⟩=>aw (hu pins s2 σ H2 _ I2 q2) fun vu s3 ⟨u,H3,I3,pu,q3⟩=>?_)
 rw[evalPart_none]
 refine En ?_
 have I4:Inv X pins σ H3 { s3 with heap:=s3.heap.push { cls:=.type "slice",data:=.fields #[vl,vu,.none] } }:=I3.kept (t':=s3.toks) fun b ob q=>Ep _ q
 obtain⟨T,id,hT,ht,hg⟩:=hr pins { s3 with heap:=s3.heap.push { cls:=.type "slice",data:=.fields #[vl,vu,.none] } } σ H3 x v vl vu l u s3.heap.objs.size Q I4 r1 (Heap.IsSliceOf.new ..) pl pu q3
 show wpAny (model X.prog X.w) X.A (subscriptTail e (.Slice lo hi none p2) v (.ref s3.heap.objs.size)) (EP X pins σ Q) X.xe { s3 with heap:=s3.heap.push { cls:=.type "slice",data:=.fields #[vl,vu,.none] } }
 exact tail_any (ops:=[.ref s3.heap.objs.size,v]) ht hT hg (by with_unfolding_all rfl)
def cg(xs:List V)(lo hi:Option Int):List V:=(xs.drop (HT.aN xs.length 0 lo)).take (HT.aN xs.length xs.length hi-HT.aN xs.length 0 lo)
theorem vm(xs:List V)(lo hi:Option Int):(cg xs lo hi).length<=xs.length:=by
 unfold cg
 rw[List.length_take,List.length_drop]
 omega
def AY(K:Eo):V->Option Int->Option Int->Hp->VK->Prop:=fun x lo hi H Q=>∃a xs,x=.ref a/\ah K H a xs ∧
 ¬(HT.aN xs.length 0 lo=0/\HT.aN xs.length xs.length hi=xs.length)/\∀p,H p=none->Q (.ref p) (upd H p (.tup (cg xs lo hi)))
theorem zu:jq X (AY X.K):=by
 intro pins s σ H x v vl vu lo hi sl Q I rx hs pl pu h
 obtain⟨a,xs,rfl,hx,hw,q⟩:=h
 cases rx
 obtain⟨its,r,ht,hz⟩:=I.tuple hx
 have hlen:its.toArray.size=xs.length:=by rw[EB];exact r.length.symm
 refine⟨"tuple",_,PyProof.Rows.slot_tuple_getitem.lookup,ht.typeIs,?_⟩
 refine HT.DT ht hs pl pu (by rw[hlen];exact hw) ?_ (by rw[hlen];exact hz)
 rw[hlen]
 refine⟨.ref s.heap.objs.size,_,I.laid (t':=s.toks) (o:=.tup (cg xs lo hi)) (fun b ob q=>Ep _ q) (ER _) ?_,rfl,q _ (I.hok.fresh (ER _))⟩
 exact⟨E4 (vm xs lo hi) hz,_,(r.drop (HT.aN xs.length 0 lo)).take (HT.aN xs.length xs.length hi-HT.aN xs.length 0 lo),IsTup.new _ _⟩
end
end L2
namespace L2
open PySem PySem.Spec PyProof.Rows
def dD(n:Nat)(i:Int):Option Nat:=if 0<=i then(if i<n then some i.toNat else none)else if -(n:Int)<=i then some (i+n).toNat else none
def bq{α:Type}(xs:List α)(i:Int):Option α:=(dD xs.length i).bind fun j=>xs[j]?
theorem rJ{n:Nat}{i:Int}{j:Nat}(h:dD n i=some j):seqIndex? i n=some j/\j<n/\-(n:Int)<=i/\i<n:=by
 unfold dD at h
 by_cases h0:0<=i
 ·rw[if_pos h0]at h
  by_cases h1:i<n
  ·rw[if_pos h1]at h
   have e:i.toNat=j:=Option.some.inj h
   exact⟨by rw[seqIndex_of h0 h1,e],by omega,by omega,h1⟩
  ·rw[if_neg h1]at h;cases h
 ·rw[if_neg h0]at h
  by_cases h1:-(n:Int)<=i
  ·rw[if_pos h1]at h
   have e:(i+n).toNat=j:=Option.some.inj h
   exact⟨by rw[seqIndex_neg (by omega) h1,e],by omega,h1,by omega⟩
  ·rw[if_neg h1]at h;cases h
theorem oB{α:Type}{xs:List α}{i:Int}{v:α}(h:bq xs i=some v):∃j,seqIndex? i xs.length=some j/\xs[j]?=some v/\j<xs.length/\-(xs.length:Int)<=i/\i<xs.length:=by
 unfold bq at h
 cases e:dD xs.length i with
 | none=>rw[e]at h;cases h
 | some j=>
  rw[e]at h
  obtain⟨h1,h2,h3,h4⟩:=rJ e
  exact⟨j,h1,h,h2,h3,h4⟩
theorem dJ{α:Type}{xs:List α}{j:Nat}{v:α}(h:xs[j]?=some v):bq xs (j:Int)=some v:=by
 have hj:j<xs.length:=(EE.mp h).1
 have e:dD xs.length (j:Int)=some j:=by
  unfold dD
  rw[if_pos (by omega),if_pos (by omega)];simp
 unfold bq;rw[e];exact h
theorem qo{α:Type}(xs:List α)(v:α):bq (xs++[v]) (-1)=some v:=by
 have hl:(xs++[v]).length=xs.length+1:=by simp
 have e:dD (xs++[v]).length (-1)=some xs.length:=by
  unfold dD
  rw[hl,if_neg (by decide),if_pos (by omega)]
  congr 1
  omega
 unfold bq
 rw[e]
 show(xs++[v])[xs.length]?=some v
 simp
def DE(b:Expr):Prop:=∀o i,subscripted b false o i=operate [o,i] (getItem o i)
def il(X:Cx)(r:R2):Prop:=
 ∀(value slice:Expr) (pins:List (Addr×Obj)) (s:Shared) (σ:St) (H:Hp) (x y:V) (v u:Value) (Q:VK),Inv X pins σ H s->RelV x v->RelV y u->r x y H Q →
  subscripted slice false v u=operate [v,u] (getItem v u)->wpAny (model X.prog X.w) X.A (subscriptTail value slice v u) (EP X pins σ Q) X.xe s
def oT(X:Cx)(id:String)(r:V->List V->Hp->VK->Prop):Prop:=
 ∀(pins:List (Addr×Obj)) (s:Shared) (σ:St) (H:Hp) (x:V) (xs:List V) (v:Value) (us:List Value) (Q:VK),Inv X pins σ H s->RelV x v->Vals xs us->r x xs H Q →
  wpAny (model X.prog X.w) X.A (call (.builtin id) (v::us)) (EP X pins σ Q) X.xe s
section
variable {X:Cx} {a b:Expr} {ta tb:TE} {pos:Pos}
theorem ai{r:R2}(hr:il X r)(ha:PE X a ta)(hb:PE X b tb)(hs:DE b):PE X (.Subscript a b pos) (hG r ta tb):=by
 intro pins s σ H Q I h
 exact Subscript_ (o8 ha hb I h fun v u s2 x y H2 I2 rx ry q=>hr a b pins s2 σ H2 x y v u Q I2 rx ry q (hs _ _))
def nR(K:Eo):R2:=fun x y H Q=>∃p xs i v,x=.ref p/\y=.int i/\ag K H p xs/\bq xs i=some v/\Q v H
def ni(K:Eo):R2:=fun x y H Q=>∃p xs i v,x=.ref p/\y=.int i/\ah K H p xs/\bq xs i=some v/\Q v H
def CU:R2:=fun x y H Q=>∃z i c,x=.str z/\y=.int i/\z.length<=sizeLine/\bq z.cps.toList i=some c/\Q (.str ⟨#[c]⟩) H
theorem DC:il X (nR X.K):=by
 intro value slice pins s σ H x y v u Q I rx ry h hs
 obtain⟨p,xs,i,z,rfl,rfl,hq,he,q⟩:=h
 cases rx
 obtain⟨t,rfl⟩:=ry
 obtain⟨its,r,pl,hz⟩:=I.list hq
 obtain⟨j,h1,h2,h3,h4,h5⟩:=oB he
 obtain⟨w,ew,rw'⟩:=r.get h2
 have hl:=r.length
 have hn:=ik
 have fin:EP X pins σ Q w s:=⟨z,H,I,rw',q⟩
 by_cases h0:0<=i
 ·have hj:i.toNat=j:=by
   rw[seqIndex_of h0 h5]at h1
   exact Option.some.inj h1
  exact item_listR pl.isList h0 (by omega) (by rw[hj];simpa using ew) fin hs
 ·have hj:(i+(its.toArray.size:Int)).toNat=j:=by
   rw[seqIndex_neg (by omega) h4]at h1
   rw[EB,←hl]
   exact Option.some.inj h1
  exact subscriptTail_builtinR (x:=w) pl.isList.typeIs slot_list_getitem.lookup
   (wpAny_getItem_list_neg (Q:=fun r s'=>r=w/\EP X pins σ Q r s') pl.isList (by omega) (by rw[EB]<;>omega) (by omega) (by rw[hj];simpa using ew) ⟨rfl,fin⟩) hs
theorem Bk:il X (ni X.K):=by
 intro value slice pins s σ H x y v u Q I rx ry h hs
 obtain⟨p,xs,i,z,rfl,rfl,hq,he,q⟩:=h
 cases rx
 obtain⟨t,rfl⟩:=ry
 obtain⟨its,r,pl,hz⟩:=I.tuple hq
 obtain⟨j,h1,h2,h3,h4,h5⟩:=oB he
 obtain⟨w,ew,rw'⟩:=r.get h2
 have hl:=r.length
 have hn:=ik
 have fin:EP X pins σ Q w s:=⟨z,H,I,rw',q⟩
 exact subscriptTail_builtinR (x:=w) pl.typeIs slot_tuple_getitem.lookup
  (getItem_tuple (j:=j) (Q:=fun r s'=>r=w/\EP X pins σ Q r s') pl (by omega) (by omega) (by rw[EB,←hl];exact h1) (by simpa using ew) ⟨rfl,fin⟩) hs
theorem t9:il X CU:=by
 intro value slice pins s σ H x y v u Q I rx ry h hs
 obtain⟨z,i,c,rfl,rfl,hz,he,q⟩:=h
 obtain⟨t,rfl⟩:=rx
 obtain⟨t',rfl⟩:=ry
 obtain⟨j,h1,h2,h3,h4,h5⟩:=oB he
 have hl:z.cps.toList.length=z.length:=by simp[Str.length]
 rw[hl]at h1 h4 h5
 have hn:=ik
 exact tail_any (typeIs_str s z t) slot_str_getitem.lookup (getItem_str (c:=c) (by
  have e1:decide (i < -(2 ^ 63:Int))=false:=decide_eq_false (by omega)
  have e2:decide (i ≥ 2 ^ 63)=false:=decide_eq_false (by omega)
  rw[e1,e2,Bool.or_false]) (by rw[h1];simpa using h2) ⟨.str ⟨#[c]⟩,H,I.tok _,⟨_,rfl⟩,q⟩) hs
theorem zC(its:List Value)(n j:Nat)(u:Value):Obj.mapSeq (·.setIfInBounds j u) { cls:=.type "list",data:=.seq its.toArray n }={ cls:=.type "list",data:=.seq (its.set j u).toArray n }:=by
 simp[Obj.mapSeq]
theorem Inv.lst{pins:List (Addr×Obj)}{σ:St}{H:Hp}{s:Shared}{p:Addr}{xs:List V}(I:Inv X pins σ H s)(h:H p=some (.lst xs)):
  ∃(its:List Value) (n:Nat),Vals xs its/\s.heap.get? p=some { cls:=.type "list",data:=.seq its.toArray n }/\xs.length<=sizeLine:=by
 obtain⟨z,its,n,r,e⟩:=I.hok p _ h
 exact⟨its,n,r,e,z⟩
theorem Inv.lstUpd{pins:List (Addr×Obj)}{σ:St}{H:Hp}{s:Shared}{p:Addr}{xs ys:List V}{its its':List Value}{n n':Nat}{f:Obj->Obj}(I:Inv X pins σ H s)(h:H p=some (.lst xs))
  (ho:s.heap.get? p=some { cls:=.type "list",data:=.seq its.toArray n }) (hf:f { cls:=.type "list",data:=.seq its.toArray n }={ cls:=.type "list",data:=.seq its'.toArray n' }) (r:Vals ys its') (hz:ys.length<=sizeLine) (t:Nat) :
  Inv X pins σ (upd H p (.lst ys)) { s with heap:=s.heap.update p f,toks:=t }:=by
 have e:(s.heap.update p f).get? p=some { cls:=.type "list",data:=.seq its'.toArray n' }:=by
  rw[Heap.get?_update_self f ho (by rw[hf]<;>rfl),hf]
 refine I.write (x:=p) (e:=p) (by rw[h];trivial) (.inl rfl) (fun b u hb q=>(Heap.get?_update_other _ _ (Ne.symm hb)).trans q) ⟨_,e⟩ ?_
 exact⟨hz,its',n',r,e⟩
def pY:V->V->V->Hp->(Hp->Prop)->Prop:=fun o i v H Q=>∃p xs k j,o=.ref p/\i=.int k/\H p=some (.lst xs)/\dD xs.length k=some j/\Q (upd H p (.lst (xs.set j v)))
theorem set_list:pM X pY:=by
 intro pins s σ H o i v ov iv u Q I ro ri rv h
 obtain⟨p,xs,k,j,rfl,rfl,hp,hj,q⟩:=h
 cases ro
 obtain⟨t,rfl⟩:=ri
 obtain⟨its,n,r,ho,hz⟩:=I.lst hp
 obtain⟨h1,h2,h3,h4⟩:=rJ hj
 have hl:=r.length
 have hn:=ik
 have I':Inv X pins σ (upd H p (.lst (xs.set j v))) { s with heap:=s.heap.update p (Obj.mapSeq (·.setIfInBounds j u)) }:=
  I.lstUpd hp ho (zC its n j u) (r.set rv j) (by rw[List.length_set];exact hz) s.toks
 by_cases h0:0<=k
 ·have hk:k.toNat=j:=by
   rw[seqIndex_of h0 h4]at h1
   exact Option.some.inj h1
  exact PySem.W.ki_setAt ho h0 (by omega) (by rw[EB,←hl];exact h4) (by rw[hk];exact⟨_,I',q⟩)
 ·have hk:(k+(its.toArray.size:Int)).toNat=j:=by
   rw[seqIndex_neg (by omega) h3]at h1
   rw[EB,←hl]
   exact Option.some.inj h1
  exact PySem.W.ki_setBack ho (by omega) (by rw[EB,←hl];exact h3) (by omega) (by rw[hk];exact⟨_,I',q⟩)
theorem y7(lo hi:Option Int)(n:Nat):(sliceBounds lo hi none n).1=((HT.aN n 0 lo:Nat):Int)/\(sliceBounds lo hi none n).2.1=((HT.aN n n hi:Nat):Int)/\(sliceBounds lo hi none n).2.2=1:=by
 refine⟨?_,?_,rfl⟩
 ·cases lo with
  | none=>simp[sliceBounds,HT.aN]
  | some i=>
   simp only[sliceBounds,HT.aN,Option.getD_none,show (1:Int)>0 by decide,if_true]
   by_cases h:i<0
   ·simp only[h,if_true]<;>omega
   ·simp only[h,if_false]<;>omega
 ·cases hi with
  | none=>simp[sliceBounds,HT.aN]
  | some i=>
   simp only[sliceBounds,HT.aN,Option.getD_none,show (1:Int)>0 by decide,if_true]
   by_cases h:i<0
   ·simp only[h,if_true]<;>omega
   ·simp only[h,if_false]<;>omega
theorem yk(its:List Value)(lo hi:Option Int):slicePick its.toArray lo hi none=((its.drop (HT.aN its.length 0 lo)).take (HT.aN its.length its.length hi-HT.aN its.length 0 lo)).toArray:=by
 obtain⟨h1,h2,h3⟩:=y7 lo hi its.toArray.size
 unfold slicePick
 rw[h1,h2,h3]
 simp only[sliceRange_one,pick_run,EB]<;>rfl
def oq(K:Eo):V->Option Int->Option Int->Hp->VK->Prop:=fun x lo hi H Q=>∃a xs,x=.ref a/\ag K H a xs/\∀p,H p=none->Q (.ref p) (upd H p (.lst (cg xs lo hi)))
theorem BU:jq X (oq X.K):=by
 intro pins s σ H x v vl vu lo hi sl Q I rx hs pl pu h
 obtain⟨a,xs,rfl,hx,q⟩:=h
 cases rx
 obtain⟨its,r,ht,hz⟩:=I.list hx
 have hlen:=r.length
 refine⟨"list",_,slot_list_getitem.lookup,ht.isList.typeIs,?_⟩
 refine wpAny_getItem_list_slice ht.isList hs pl pu .none (by simp) ?_ (by rw[EB]<;>omega)
 rw[yk,←hlen]
 refine⟨.ref s.heap.objs.size,_,I.laid (t':=s.toks) (o:=.lst (cg xs lo hi)) (fun b ob q=>Ep _ q) (ER _) ?_,rfl,q _ (I.hok.fresh (ER _))⟩
 exact⟨E4 (vm xs lo hi) hz,_,0,(r.drop (HT.aN xs.length 0 lo)).take (HT.aN xs.length xs.length hi-HT.aN xs.length 0 lo),Er _ rfl⟩
def eC:V->Bool
 | .non=>true
 | .bl _=>true
 | .int _=>true
 | .str _=>true
 | _=>false
def fJ:V->V->Bool
 | .non,.non=>true
 | .bl a,.bl b=>a == b
 | .bl a,.int b=>(if a then 1 else 0) == b
 | .int a,.bl b=>a == (if b then 1 else 0)
 | .int a,.int b=>a == b
 | .str a,.str b=>a == b
 | _,_=>false
theorem Am{A:Around}{s:Shared}{y x:V}{u v:Value}(ry:RelV y u)(rx:RelV x v)(fy:eC y=true)(fx:eC x=true):SeqAt.EqAt A s u v (fJ y x):=by
 cases y with
 | non=>
  cases ry
  cases x with
  | non=>cases rx;exact SeqAt.EqAt.same _
  | bl b=>cases rx;exact SeqAt.EqAt.none_bool b
  | int b=>obtain⟨t,rfl⟩:=rx;exact SeqAt.EqAt.none_int b t
  | str b=>obtain⟨t,rfl⟩:=rx;exact SeqAt.EqAt.none_str b t
  | _=>exact absurd (show false=true from fx) EL
 | bl a=>
  cases ry
  cases x with
  | non=>cases rx;exact SeqAt.EqAt.bool_none a
  | bl b=>cases rx;exact SeqAt.EqAt.bool_bool a b
  | int b=>obtain⟨t,rfl⟩:=rx;exact SeqAt.EqAt.bool_int a b t
  | str b=>obtain⟨t,rfl⟩:=rx;exact SeqAt.EqAt.bool_str a b t
  | _=>exact absurd (show false=true from fx) EL
 | int a=>
  obtain⟨t',rfl⟩:=ry
  cases x with
  | non=>cases rx;exact SeqAt.EqAt.int_none a t'
  | bl b=>cases rx;exact SeqAt.EqAt.int_bool a t' b
  | int b=>obtain⟨t,rfl⟩:=rx;exact SeqAt.EqAt.int_int a t' b t
  | str b=>obtain⟨t,rfl⟩:=rx;exact SeqAt.EqAt.int_str a t' b t
  | _=>exact absurd (show false=true from fx) EL
 | str a=>
  obtain⟨t',rfl⟩:=ry
  cases x with
  | non=>cases rx;exact SeqAt.EqAt.str_none a t'
  | bl b=>cases rx;exact SeqAt.EqAt.str_bool a t' b
  | int b=>obtain⟨t,rfl⟩:=rx;exact SeqAt.EqAt.str_int a t' b t
  | str b=>obtain⟨t,rfl⟩:=rx;exact SeqAt.EqAt.str_str a t' b t
  | _=>exact absurd (show false=true from fx) EL
 | _=>exact absurd (show false=true from fy) EL
def eU(x:V)(u:Value):Bool:=match u with
 | .none=>fJ .non x
 | .bool b=>fJ (.bl b) x
 | .int i _=>fJ (.int i) x
 | .str z _=>fJ (.str z) x
 | _=>false
theorem vJ{x y:V}{u:Value}(r:RelV y u)(f:eC y=true):eU x u=fJ y x:=by
 cases y with
 | non=>cases r;rfl
 | bl b=>cases r;rfl
 | int i=>obtain⟨t,rfl⟩:=r;rfl
 | str z=>obtain⟨t,rfl⟩:=r;rfl
 | _=>exact absurd (show false=true from f) EL
theorem ou{x:V}:∀{xs:List V} {us:List Value},Vals xs us->xs.all eC=true->us.any (eU x)=xs.any fun y=>fJ y x
 | _,_,.nil,_=>rfl
 | y::xs,u::us,.cons r t,f=>by
  rw[List.all_cons,E9]at f
  rw[List.any_cons,List.any_cons,vJ r f.1,ou t f.2]
theorem nX{A:Around}{s:Shared}{x:V}{v:Value}(rx:RelV x v)(fx:eC x=true):∀{xs:List V} {us:List Value},Vals xs us->xs.all eC=true->∀u∈us,SeqAt.EqAt A s u v (eU x u)
 | _,_,.nil,_=>fun u hu=>by cases hu
 | y::xs,u::us,.cons r t,f=>fun u' hu=>by
  rw[List.all_cons,E9]at f
  rcases EK.mp hu with rfl | hu
  ·rw[vJ r f.1];exact Am r rx f.1 fx
  ·exact nX rx fx t f.2 u' hu
def gK(x:V)(xs:List V):Bool:=xs.any fun y=>fJ y x
def nS(K:Eo)(neg:Bool):R2:=fun x y H Q=>∃p xs,y=.ref p/\(ag K H p xs\/ah K H p xs)/\eC x=true/\xs.all eC=true/\Q (.bl (if neg then !gK x xs else gK x xs)) H
theorem A3:bB X (compareOp .In) (nS X.K false):=by
 intro pins s σ H x y v u Q I rx ry h
 obtain⟨p,xs,rfl,hq,fx,fs,q⟩:=h
 cases ry
 rcases hq with hq | hq
 ·obtain⟨its,r,pl,hz⟩:=I.list hq
  refine SeqAt.in_listAt (eU x) pl.isList (fun w hw=>nX rx fx r fs w (by simpa using hw)) ⟨.bl _,H,I,rfl,?_⟩
  rw[show its.toArray.any (eU x)=its.any (eU x) by simp,ou r fs]
  exact q
 ·obtain⟨its,r,pl,hz⟩:=I.tuple hq
  refine SeqAt.in_tupleAt (eU x) pl (fun w hw=>nX rx fx r fs w (by simpa using hw)) ⟨.bl _,H,I,rfl,?_⟩
  rw[show its.toArray.any (eU x)=its.any (eU x) by simp,ou r fs]
  exact q
theorem zi:bS X (.builtin "len") (fun xs H Q=>∃p ys,xs=[.ref p]/\(ag X.K H p ys\/ah X.K H p ys)/\Q (.int ys.length) H):=by
 intro pins s σ H xs us Q I r h
 obtain⟨p,ys,rfl,hq,q⟩:=h
 obtain⟨u,rfl,rx⟩:=vals1 r
 cases rx
 have hn:=ik
 rcases hq with hq | hq
 ·obtain⟨its,r',pl,hz⟩:=I.list hq
  have hlen:=r'.length
  exact Calls.call_len_list pl.isList (by simp only[EB]<;>omega) ⟨.int ys.length,H,I.tok _,⟨s.toks+1,by rw[EB,hlen]⟩,q⟩
 ·obtain⟨its,r',pl,hz⟩:=I.tuple hq
  have hlen:=r'.length
  exact len_tuple pl (by simp only[EB]<;>omega) ⟨.int ys.length,H,I.tok _,⟨s.toks+1,by rw[EB,hlen]⟩,q⟩
theorem Ax:bS X (.builtin "len") (fun xs H Q=>∃z,xs=[.str z]/\z.length<=sizeLine/\Q (.int z.length) H):=by
 intro pins s σ H xs us Q I r h
 obtain⟨z,rfl,hz,q⟩:=h
 obtain⟨u,rfl,t,rfl⟩:=vals1 r
 have hn:=ik
 exact len_str (by omega) ⟨.int z.length,H,I.tok _,⟨_,rfl⟩,q⟩
theorem CB:bS X (.type "tuple") (fun xs H Q=>∃p ys,xs=[.ref p]/\((ag X.K H p ys/\∀l,H l=none->Q (.ref l) (upd H l (.tup ys)))\/(ah X.K H p ys/\Q (.ref p) H))):=by
 intro pins s σ H xs us Q I r h
 obtain⟨p,ys,rfl,h⟩:=h
 obtain⟨u,rfl,rx⟩:=vals1 r
 cases rx
 rcases h with⟨hq,q⟩ | ⟨hq,q⟩
 ·obtain⟨its,r',pl,hz⟩:=I.list hq
  have hlen:=r'.length
  refine call_tuple_list pl.isList (fun h' kp=>?_) (by simp only[EB]<;>omega)
  have I1:Inv X pins σ H { s with heap:=h' }:=I.kept (t':=s.toks) kp
  have I2:Inv X pins σ (upd H h'.objs.size (.tup ys)) { s with heap:=h'.push { cls:=.type "tuple",data:=.seq its.toArray } }:=
   I1.laid (t':=s.toks) (fun b o e=>Ep _ e) (ER _) (show br X.prog X.w _ _ _ (.tup ys)from⟨hz,its,r',IsTup.new _ _⟩)
  exact⟨.ref h'.objs.size,_,I2,rfl,q _ (I1.hok.fresh (ER _))⟩
 ·obtain⟨its,r',pl,hz⟩:=I.tuple hq
  exact call_tuple_same pl ⟨.ref p,H,I,rfl,q⟩
def gL(K:Eo)(T:String)(x:V)(H:Hp):Prop:=match x with
 | .str _=>T = "str"
 | .int _=>T = "int"
 | .ref p=>(T = "list"/\∃xs,ag K H p xs)\/(T = "tuple"/\∃o,K.lookup p=some o/\o.cls=.type "tuple"/\o.dict=none) ∨
   (T = "dict"/\((∃kvs,H p=some (.dK kvs))\/∃kvs,H p=some (.dT kvs)))\/(T = "set"/\∃S n,H p=some (.set S n))
 | _=>False
theorem Eg{pins:List (Addr×Obj)}{σ:St}{H:Hp}{s:Shared}{T:String}{x:V}{v:Value}(I:Inv X pins σ H s)(r:RelV x v)(ty:gL X.K T x H):
  s.TypeIs v T/\∀a,v=.ref a->∃ob,s.heap.get? a=some ob/\ob.dict=none:=by
 cases x with
 | str z=>
  obtain⟨t,rfl⟩:=r
  cases(show T = "str" from ty)
  exact⟨typeIs_str s z t,fun _ e=>nomatch e⟩
 | int i=>
  obtain⟨t,rfl⟩:=r
  cases(show T = "int" from ty)
  exact⟨typeIs_int s i t,fun _ e=>nomatch e⟩
 | ref p=>
  cases r
  rcases ty with⟨rfl,xs,hq⟩ | ⟨rfl,o,hk,hc,hd⟩ | ⟨rfl,hk⟩ | ⟨rfl,S,n,hk⟩
  ·obtain⟨its,_,pl,_⟩:=I.list hq
   refine⟨pl.isList.typeIs,fun a e=>?_⟩
   cases e
   obtain⟨o,n,e,c,hd,_⟩:=pl
   exact⟨o,e,hd⟩
  ·refine⟨⟨o,I.kIn p o hk,hc⟩,fun a e=>?_⟩
   cases e
   exact⟨o,I.kIn _ o hk,hd⟩
  ·have z:∃o,s.heap.get? p=some o/\o.ExactDict:=by
    rcases hk with⟨kvs,hk⟩ | ⟨kvs,hk⟩
    ·obtain⟨_,_,_,_,o,_,_,e,ex,_⟩:=I.hok p _ hk
     exact⟨o,e,ex⟩
    ·obtain⟨_,_,_,_,o,_,_,e,ex,_⟩:=I.hok p _ hk
     exact⟨o,e,ex⟩
   obtain⟨o,e,ex⟩:=z
   refine⟨⟨o,e,ex.1⟩,fun a e2=>?_⟩
   cases e2
   exact⟨o,e,ex.2.1⟩
  ·obtain⟨o,_,_,_,e,ex,_⟩:=I.hok p _ hk
   refine⟨⟨o,e,ex.1⟩,fun a e2=>?_⟩
   cases e2
   exact⟨o,e,ex.2.1⟩
 | _=>exact False.elim ty
def mC(K:Eo)(T:String)(r:V->List V->Hp->VK->Prop)(to:TE)(t:TA):TE:=fun σ H Q=>to σ H fun x H1=>gL K T x H1/\t σ H1 fun xs H2=>r x xs H2 Q
variable {o e:Expr} {es:List Expr} {to:TE} {t:TA} {name:Str} {apos cpos:Pos} {T id:String} {r:V->List V->Hp->VK->Prop}
theorem AB(pa:PlainAttrs T)(slot:Slot T name id)(hty:typeOf (.builtin id)=pure (.type "method_descriptor"))(hm:oT X id r)(ho:PE X o to)(ha:PA X (e::es) t)
  (hbase:attributeBase o name X.env (eval o X.env)=eval o X.env:=by rfl)
  (hfew:((backTo cpos (starEach (e::es) X.env)).all (fun x=>!x.1) && (backToKw cpos (keywordEach [] X.env)).all (fun x=>x.1.isSome)
   && decide ((e::es).length+([]:List Keyword).length+(if([]:List Keyword).isEmpty then 0 else 1)<30))=true:=by rfl)
  (hline:(apos.endLine == cpos.line)=true:=by rfl) (hs:starEach (e::es) X.env=(false,eval e X.env)::starEach es X.env:=by rfl) (hplain:(backTo cpos (starEach es X.env)).any (·.1)=false:=by rfl) :
  PE X (.Call (.Attribute o name apos) (e::es) [] cpos) (mC X.K T r to t):=by
 intro pins s σ H Q I h
 refine wpAny_Call_method_late hbase hfew hline rfl (aw (ho pins s σ H _ I h) fun v s1 ⟨x,H1,I1,r1,ty,q1⟩=>?_)
 obtain⟨h1,h2⟩:=Eg I1 r1 ty
 refine⟨T,id,pa,slot,hty,h1,h2,?_⟩
 have hA:=ha cpos pins s1 σ H1 _ I1 q1
 rw[hs]at hA ⊢
 refine Calls.callWith_builtin (by show(false || (backTo cpos (starEach es X.env)).any (·.1))=false;rw[hplain]<;>rfl) (Calls.evalArgs_plain ?_)
 exact aw hA fun us s2 ⟨vs,H2,I2,r2,q2⟩=>hm pins s2 σ H2 x vs v us Q I2 r1 r2 q2
end
end L2
namespace L2
open PySem PySem.Spec PyProof.Rows
def qJ(X:Cx)(id:String)(r:V->List V->Hp->VK->Prop):Prop:=
 ∀(pins:List (Addr×Obj)) (s:Shared) (σ:St) (H:Hp) (x:V) (xs:List V) (v:Value) (us:List Value) (Q:VK),Inv X pins σ H s->RelV x v->Vals xs us->r x xs H Q →
  wpAny (model X.prog X.w) X.A (call (.builtin id) (v::us)) (EP X pins σ Q) X.xe s
theorem Vals.one:∀{x:V} {us:List Value},Vals [x] us->∃u,us=[u]/\RelV x u
 | _,_,.cons r .nil=>⟨_,rfl,r⟩
theorem Vals.rep{xs:List V}{us:List Value}(h:Vals xs us):∀k:Nat,Vals (List.replicate k xs).flatten (List.replicate k us).flatten
 | 0=>.nil
 | k+1=>by
  rw[List.replicate_succ,List.replicate_succ,List.flatten_cons,List.flatten_cons]
  exact Vals.append h (Vals.rep h k)
theorem foldl_rep(its:List Value):∀(k:Nat) (acc:List Value),
  List.foldl (fun x1 x2=>x1++x2) acc.toArray (List.replicate k its.toArray)=(acc++(List.replicate k its).flatten).toArray
 | 0,acc=>by simp
 | k+1,acc=>by
  have e:acc.toArray++its.toArray=(acc++its).toArray:=by simp
  have e2:(acc++its)++(List.replicate k its).flatten=acc++(List.replicate (k+1) its).flatten:=by
   rw[List.replicate_succ,List.flatten_cons,List.append_assoc]
  rw[←e2,←foldl_rep its k (acc++its),←e,List.replicate_succ,List.foldl_cons]
section
variable {X:Cx} {pins:List (Addr×Obj)} {σ:St} {H:Hp} {s:Shared} {l b:Addr} {xs ys zs:List V}
theorem Inv.lset{its its':List Value}{n:Nat}{f:Array Value->Array Value}{t':Nat}(I:Inv X pins σ H s)(hH:H l=some (.lst xs))
  (e:s.heap.get? l=some { cls:=.type "list",data:=.seq its.toArray n }) (hf:f its.toArray=its'.toArray) (hv:Vals ys its') (hz:ys.length<=sizeLine) :
  Inv X pins σ (upd H l (.lst ys)) { s with heap:=s.heap.update l (Obj.mapSeq f),toks:=t' }:=by
 have q:=PySem.IsL.update e f
 rw[hf]at q
 refine I.write (x:=l) (e:=l) (by rw[hH];exact trivial) (.inl rfl) (fun b' u hb hu=>(Heap.get?_update_other s.heap (Obj.mapSeq f) (Ne.symm hb)).trans hu) ⟨_,q⟩ ?_
 exact⟨hz,its',_,hv,q⟩
theorem Inv.lnew{its:List Value}{t':Nat}(I:Inv X pins σ H s)(hv:Vals ys its)(hz:ys.length<=sizeLine):
  Inv X pins σ (upd H s.heap.objs.size (.lst ys)) { s with heap:=s.heap.push { cls:=.type "list",data:=.seq its.toArray },toks:=t' }:=
 I.laid (fun _ _ q=>Ep _ q) (ER _) ⟨hz,its,0,hv,Er _ rfl⟩
theorem Inv.fresh(I:Inv X pins σ H s):H s.heap.objs.size=none:=I.hok.fresh (ER _)
theorem Inv.lstM(I:Inv X pins σ H s)(hH:H l=some (.lst xs)):xs.length<=sizeLine/\∃(its:List Value) (n:Nat),Vals xs its/\xs.length=its.length/\s.heap.get? l=some { cls:=.type "list",data:=.seq its.toArray n }:=by
 obtain⟨z,its,n,r,e⟩:=I.hok l _ hH
 exact⟨z,its,n,r,r.length,e⟩
theorem xl{n:Nat}(h:n<=sizeLine):Builtin.List.listTooLong n=false:=by
 unfold Builtin.List.listTooLong
 exact decide_eq_false (by omega)
end
section
variable {X:Cx}
def xD:V->List V->Hp->VK->Prop:=fun x vs H Q=>∃l xs y,x=.ref l/\vs=[y]/\H l=some (.lst xs)/\xs.length<sizeLine/\Q .non (upd H l (.lst (xs++[y])))
theorem bO:qJ X "list.append" xD:=by
 intro pins s σ H x vs v us Q I rx rv h
 obtain⟨l,xs,y,rfl,rfl,hH,hz,q⟩:=h
 cases rx
 obtain⟨u,rfl,ru⟩:=rv.one
 obtain⟨z,its,n,r,hl,e⟩:=I.lstM hH
 refine call_meets F.slot_list_append ⟨_,e,rfl⟩ F.entry_list_append (F.args_list_append_2 _ _) (PySem.list_append l its.toArray n u (by rw[EB];omega)) ⟨e,?_⟩
 refine⟨.non,_,I.lset (its':=its++[u]) hH e (by simp) (r.append (.cons ru .nil)) ?_,rfl,q⟩
 rw[EN,List.length_singleton]
 omega
def Cb:V->List V->Hp->VK->Prop:=fun x vs H Q=>∃l b xs zs,x=.ref l/\vs=[.ref b]/\H l=some (.lst xs)/\H b=some (.lst zs)/\xs.length+zs.length<=sizeLine/\Q .non (upd H l (.lst (xs++zs)))
theorem Aw:qJ X "list.extend" Cb:=by
 intro pins s σ H x vs v us Q I rx rv h
 obtain⟨l,b,xs,zs,rfl,rfl,hH,hB,hz,q⟩:=h
 cases rx
 obtain⟨u,rfl,ru⟩:=rv.one
 cases ru
 obtain⟨z,its,n,r,hl,e⟩:=I.lstM hH
 obtain⟨z2,its2,n2,r2,hl2,e2⟩:=I.lstM hB
 have hsz:its.toArray.size+its2.toArray.size<=sizeLine:=by rw[EB,EB];omega
 have hlong:¬(!its.toArray.isEmpty && Builtin.List.listTooLong (its.toArray.size+its2.toArray.size))=true:=by
  rw[xl hsz,Bool.and_false]
  exact EL
 refine call_meets F.slot_list_extend ⟨_,e,rfl⟩ F.entry_list_extend (F.args_list_extend_2 _ _)
  (AutoSeq1.list_extend_list_list_0 l its.toArray n b its2.toArray n2 hlong (by rw[EB];omega) (by omega)) ⟨e,e2,?_⟩
 refine⟨.non,_,I.lset (its':=its++its2) hH e (by simp) (r.append r2) ?_,rfl,q⟩
 rw[EN]
 omega
def pN:R2:=fun x y H Q=>∃l b xs zs,x=.ref l/\y=.ref b/\H l=some (.lst xs)/\H b=some (.lst zs)/\xs.length+zs.length<=sizeLine/\∀p,H p=none->Q (.ref p) (upd H p (.lst (xs++zs)))
theorem mG:bB X (binaryOp .Add) pN:=by
 intro pins s σ H x y v u Q I rx ry h
 obtain⟨l,b,xs,zs,rfl,rfl,hH,hB,hz,q⟩:=h
 cases rx
 cases ry
 obtain⟨z,its,n,r,hl,e⟩:=I.lstM hH
 obtain⟨z2,its2,n2,r2,hl2,e2⟩:=I.lstM hB
 refine PySem.P.add_list e e2 ?_ (by rw[EB,EB];omega)
 have ea:its.toArray++its2.toArray=(its++its2).toArray:=by simp
 rw[ea]
 exact⟨.ref _,_,I.lnew (t':=s.toks) (r.append r2) (by rw[EN];omega),rfl,q _ I.fresh⟩
def xK:R2:=fun x y H Q=>∃l k xs,x=.ref l/\y=.int k/\H l=some (.lst xs)/\-(2 ^ 63)<=k/\k<2 ^ 63/\xs.length*k.toNat<=sizeLine ∧
 ∀p,H p=none->Q (.ref p) (upd H p (.lst (List.replicate k.toNat xs).flatten))
theorem len_rep{α:Type}(xs:List α)(k:Nat):(List.replicate k xs).flatten.length=k*xs.length:=by
 induction k with
 | zero=>simp
 | succ k ih=>rw[List.replicate_succ,List.flatten_cons,EN,ih,Nat.succ_mul,Nat.add_comm]
theorem om:bB X (binaryOp .Mult) xK:=by
 intro pins s σ H x y v u Q I rx ry h
 obtain⟨l,k,xs,rfl,rfl,hH,h1,h2,hz,q⟩:=h
 cases rx
 obtain⟨t,rfl⟩:=ry
 obtain⟨z,its,n,r,hl,e⟩:=I.lstM hH
 have hlen:its.toArray.size*k.toNat<=sizeLine:=by rw[EB,←hl];exact hz
 have hcap:¬its.toArray.size*k.toNat>(2 ^ 63-1) / 8:=by
  have:(sizeLine:Nat)<=(2 ^ 63-1) / 8:=by decide
  omega
 have hfit:¬(!Builtin.List.listFitsIndex k)=true:=by
  rw[fitsIndex_both h1 h2]
  exact EL
 have hlong:¬Builtin.List.listTooLong (its.toArray.size*k.toNat)=true:=by
  rw[xl hlen]
  exact EL
 have hnew:List.foldl (fun x1 x2=>x1++x2) #[] (List.replicate (if its.toArray.isEmpty=true then 0 else k.toNat) its.toArray)=(List.replicate k.toNat its).flatten.toArray:=by
  have f0:∀m:Nat,List.foldl (fun x1 x2=>x1++x2) #[] (List.replicate m its.toArray)=(List.replicate m its).flatten.toArray:=fun m=>by
   have:=foldl_rep its m []
   rw[List.nil_append]at this
   exact this
  rw[f0]
  cases its with
  | nil=>simp
  | cons a r'=>rw[if_neg (by simp)]
 refine wpAny_binaryOp_repeat_ref (T:="list") (U:="int") (by decide) ⟨_,e,rfl⟩ (fun s'=>typeIs_int s' k t) noFill_list_mul F.fills_int_mul F.slot_int_rmul repeat_list F.slot_int_index.lookup
  (call_meets F.slot_int_rmul (typeIs_int s k t) F.entry_int_rmul (F.args_int_rmul_2 _ _) (int___rmul___int_list k t l its.toArray n)
   ⟨e,rfl,⟨_,e,rfl⟩,call_meets F.slot_list_mul ⟨_,e,rfl⟩ F.entry_list_mul (F.args_list_mul_2 _ _) (AutoListH.list___mul___list_int_3 l its.toArray n k t hfit hcap hlong) ⟨e,?_⟩⟩)
 rw[hnew]
 exact⟨.ref _,_,I.lnew (t':=s.toks) (r.rep k.toNat) (by rw[len_rep,Nat.mul_comm];exact hz),rfl,q _ I.fresh⟩
end
section
variable {prog:Program} {w:World} {A:Around} {E:Value->Shared->Prop} {s:Shared}
end
section
variable {X:Cx}
end
end L2
namespace Att
open PySem PySem.W PySem.Calls PyProof.Rows
theorem AN{P:Params}{h:Heap}:∀(ns:List Int) (vs:List Value),WellAll P h vs (ns.map WData.int)->IntsAre vs ns:=by
 intro ns
 induction ns with
 | nil=>
  intro vs w
  rw[List.map_nil]at w
  cases w
  exact .nil
 | cons n ns ih=>
  intro vs w
  rw[List.map_cons]at w
  cases w with
  | cons a b=>
   cases a
   exact .cons _ _ (ih _ b)
theorem yR{l:OpenLaw}{n:Nat}(hn:l.most=some n){P:Params}{h:Heap}{args:List WData}{vals:List Value}
  (hpre:l.row.toRowW.claim.pre args=true) (hwl:WellAll P h vals args) :
  ∃a vs ns,vals=[Value.ref a]/\args=[WData.list (ns.map WData.int)]/\h.get? a=some { cls:=.type "list",data:=.seq vs.toArray }/\IntsAre vs ns/\ns.length<=n:=by
 have hsh:WShape.hasAll [] args [.list .int]=true:=(pre_splitW hpre).1
 have hc:l.pre.holds [] { args:=args }=true:=(pre_splitW hpre).2
 obtain⟨d,r,rfl,h1,h2⟩:=hasAllW_cons hsh
 obtain rfl:=hasAllW_nil h2
 obtain⟨xs,rfl,h3⟩:=hasW_list h1
 obtain⟨ns,rfl⟩:=items_int h3
 have hlen:ns.length<=n:=by
  unfold OpenLaw.pre at hc
  have h4:(WTm.not (.lt (.lit (.int (n:Int))) (.len (.arg 0)))).holds [] { args:=[.list (ns.map .int)] }=true:=by
   have h4:=(holds_andW hc).1
   rw[hn]at h4
   exact h4
  have h5:=condW_of h4 (w_not (w_lt w_lit (w_len_list (w_arg rfl))))
  rw[Ew]at h5
  refine Nat.le_of_not_lt fun q=>?_
  have q':(n:Int)<((ns.length:Nat):Int):=by omega
  first
   | (rw[decide_eq_true q']at h5;exact absurd h5 (by decide))
   | (simp at h5;omega)
 cases hwl with
 | cons w1 w2=>
  cases w2
  cases w1 with
  | list ho hall=>exact⟨_,_,ns,rfl,rfl,ho,AN ns _ hall,hlen⟩
theorem yY(l:OpenLaw)(args:List WData):l.row.toRowW.claim.post args (.bool true) args=true:=
 postW_of (r:=l.row.toRowW) (X:=(true == true))
  (show WShape.has [] (.bool true) .bool=true by first | rfl | decide | simp [WShape.has,WShape.arms,WShape.armsAll])
  (show(WTm.eq .res (.lit (.bool true))).value [] { args:=args,res:=some (.bool true),after:=args }=some (.bool (true == true))from w_eq_bool (w_res rfl) w_lit) rfl
theorem CA{l:OpenLaw}{n:Nat}{q:Program}{loose:List Str}{XP:(Str->Option Value)->Heap->Prop}{YP:World->Heap->Prop}{d:DefRec}
  (hn:l.most=some n) (hdf:d.params.defaults=[])
  (call:∀(w:World) (s₀ s₁:Shared) (mg mb:Str->Option Value) (fa:Addr) (o:Obj) (pm cd doc:Value) (a:Addr) (vs:List Value) (ns:List Int),
   Ground q loose [] XP w s₀ mg mb s₁.heap->YP w s₁.heap →
   s₁.heap.get? fa=some o->o.data=.func (docDef d.name d.params d.body d.scope pm cd doc)->s₁.heap.CodeRec cd d.name->mg d.name=some (.ref fa) →
   s₁.heap.get? a=some { cls:=.type "list",data:=.seq vs.toArray }->IntsAre vs ns->ns.length<=n->s₁.gens = #[] →
   codeAny (model l.prog w) callerA (.call (.ref fa) ⟨[.ref a],[]⟩) (fun r s'=>r=.ok (.ret (.bool true))/\OldK s₁.heap s'.heap/\s'.os=s₁.os/\AllBare s'.gens) s₁) :
  WalkO q loose XP YP l.row.toRowW d [] (fun f vs=>PySem.call f vs):=by
 intro w s₀ s₁ mg mb G Y fa o pm cd doc dV kV ho hd hcd hD hmg hg args vals as hpre hlay hrd hwl hlo
 obtain rfl:dV=.none:=Dflts.none hD hdf
 obtain rfl:kV=.none:=Dflts.noKw hD
 obtain⟨a,vs,ns,rfl,rfl,hobj,hints,hlen⟩:=yR hn hpre hwl
 refine enter_call (codeAny_mono (call w s₀ s₁ mg mb fa o pm cd doc a vs ns G Y ho (fd_plain hd) hcd hmg hobj hints hlen hg) fun r s' hq=>?_)
 obtain⟨rfl,h2,h3,h4⟩:=hq
 exact⟨.inl ⟨.bool true,.bool true,[],rfl,fun _=>rfl,.bool true,yY l _,fun _=>⟨List.Pairwise.nil,fun _ hm=>(nomatch hm)⟩⟩,h2,h3,h4⟩
section
variable {prog:Program} {w:World} {A:Around} {E:Value->Shared->Prop} {s:Shared} {K:Frag}
end
end Att
namespace L2
open PySem PySem.Spec PyProof.Rows
theorem uz:∀{vs:List Value} {ns:List Int},IntsAre vs ns->Vals (ns.map V.int) vs
 | _,_,.nil=>.nil
 | _,_,.cons n t h=>.cons ⟨t,rfl⟩ (uz h)
end L2
namespace L2
open PySem PySem.Spec PyProof.Rows
end L2
namespace L2
open PySem PySem.Spec PyProof.Rows
def gq(s:Stmt):Arguments:=match s with
 | .FunctionDef _ a _ _ _ _ _ _ _ _=>a
 | _=>{ posonlyargs:=[],args:=[],vararg:=none,kwonlyargs:=[],kw_defaults:=[],kwarg:=none,defaults:=[] }
def eI(s:Stmt):List Stmt:=match s with
 | .FunctionDef _ _ b _ _ _ _ _ _ _=>b
 | _=>[]
def aK(s:Stmt):Scope:=match s with
 | .FunctionDef _ _ _ _ _ _ sc _ _ _=>sc
 | _=>{ kind:=.function,names:=[],isGenerator:=false,isCoroutine:=false }
abbrev dy:fi:=fun _ _ _ _ _ _=>False
abbrev E0:XK:=fun _ _ _=>False
theorem Ae{X:Cx}:Passes dy X E0:=fun _ _ _ _ _ _ _ h=>h.elim
structure Fun(K:Eo)(x qual:Str)(st:Stmt)(f:Addr)(fd:FuncData):Prop where
 ex:∃(oc:Value) (od:Option Addr) (kV doc pm:Value) (an:Option Addr) (cdv ct:Value) (osl:Array (Option Value)),
  fd=PySem.W.fnOf x qual (gq st) (eI st) (aK st) .none kV doc pm an cdv ct/\K.lookup f=some ⟨oc,od,.func fd,osl⟩/\PySem.W.codeIn K cdv qual=true
 kp:PySem.W.keepIn K (.ref f)=true
section
variable {P:Program} {w:World} {K:Eo} {mg:Str->Option Value} {base:Heap}
theorem Fun.ok{x qual:Str}{st:Stmt}{f:Addr}{fd:FuncData}{N ps:List Str}{k:Nat}{sp:Sp}(F:Fun K x qual st f fd)(S:FnScope N ps (aK st))(len:∀vs H Q E,sp vs H Q E->vs.length=ps.length)
  (hbody:∀(cdv:Value) (A:Around) (outer:List Env) (s:Shared) (H:Hp) (vs:List V) (Q:VK) (E:XK),Room k (A.deeper (envOfC qual (aK st) s.heap.objs.size f cdv))->sp vs H Q E →
   ∃t,cE (fF dy P w K mg base N qual (aK st) f cdv A outer s H E).nox (eI st) t/\t { nx:=fun _ H'=>Q .non H',rt:=Q } (start N vs) H):FnOk P w K mg base dy (k+1) f fd ps sp:=by
 obtain⟨oc,od,kV,doc,pm,an,cdv,ct,osl,rfl,lk,hcd⟩:=F.ex
 refine tK lk hcd S len fun A outer s H vs Q E hr hsp=>?_
 obtain⟨t,h,q⟩:=hbody cdv A outer s H vs Q E hr hsp
 exact⟨t,h.nox,q⟩
theorem Fun.binds{x qual:Str}{st:Stmt}{f:Addr}{fd:FuncData}{ps:List Str}(F:Fun K x qual st f fd)
  (h:∀(kV doc pm:Value) (an:Option Addr) (cdv ct:Value) (us:List Value),us.length=ps.length->bindArgs (PySem.W.fnOf x qual (gq st) (eI st) (aK st) .none kV doc pm an cdv ct) ⟨us,[]⟩=pure (ps.zip us)):Binds K fd ps []:=by
 obtain⟨oc,od,kV,doc,pm,an,cdv,ct,osl,rfl,lk,hcd⟩:=F.ex
 exact .all (h kV doc pm an cdv ct)
theorem sJ{x qual:Str}{st:Stmt}{f:Addr}{oc:Value}{od an:Option Addr}{osl:Array (Option Value)}{kV doc pm cdv ct:Value}(l:K.lookup f=some ⟨oc,od,.func (PySem.W.fnOf x qual (gq st) (eI st) (aK st) .none kV doc pm an cdv ct),osl⟩)
  (c:PySem.W.codeIn K cdv qual=true) (k:PySem.W.keepIn K (.ref f)=true):Fun K x qual st f (PySem.W.fnOf x qual (gq st) (eI st) (aK st) .none kV doc pm an cdv ct):=⟨⟨oc,od,kV,doc,pm,an,cdv,ct,osl,rfl,l,c⟩,k⟩
end
theorem eE{A:Around}{k:Nat}(hr:Room k A):A.units+1<cLine:=Nat.lt_of_le_of_lt (Nat.add_le_add_left (by decide:1<=64) _) hr.units
section
variable {X:Cx}
theorem pv(i:Nat){x:Str}{pos:Pos}(hN:X.N[i]?=some x:=by rfl)(hv:kS X.env.scope x:=by first | exact Or.inl rfl | exact Or.inr (Or.inl rfl) | exact Or.inr (Or.inr rfl))(hd:(x == ("__debug__":Str))=false:=by decide)
  (hcd:(x == ("__classdict__":Str))=false:=by decide):PE X (.Name x pos) (mF i):=DH hN hv hd hcd
end
theorem aq{A B:Prop}(h:B):if false=true then A else B:=by
 rw[if_neg EL]
 exact h
theorem aC{A B:Prop}(h:A):if true=true then A else B:=by
 rw[if_pos rfl]
 exact h
theorem eX{c A B:Prop}[Decidable c](h1:c->A)(h2:¬c->B):if c then A else B:=by
 by_cases h:c
 ·rw[if_pos h]
  exact h1 h
 ·rw[if_neg h]
  exact h2 h
end L2
namespace L2
open PySem PySem.Spec PyProof.Rows
structure Blk where
 s:Shared
 H:Hp
 fp:List Addr
 C:Addr
def dH(names:List (Str×NameKind))(cells:List (Str×Addr)):List (Str×Addr):=
 names.foldl (fun acc p=>if p.2 == .free then(p.1,(cells.lookup p.1).getD 0)::acc else acc) []
def cH(X:Cx)(sc:Scope)(own:List Str)(js:List Nat)(z:Blk):Cx where
 prog:=X.prog
 w:=X.w
 K:=X.K
 mg:=X.mg
 base:=X.base
 A:=X.A
 N:=own++js.map fun j=>X.N.getD j ""
 s₀:=z.s
 H₀:=z.H
 env:=compEnvC sc (dH sc.names X.env.cells) z.C X.env
 outer:=X.stack
 stack:=X.stack
 ex:=z.fp
 fn:=fun _=>false
 calm:=X.calm
 pn:=[]
 xe:=fun _ _=>False
def eV(sc out:Scope):Bool:=sc.names.all fun p=>p.2 != .cell && (p.2 != .local || sc.names.lookup p.1 == some .local) && (p.2 != .free || out.names.lookup p.1 == some .cell || out.names.lookup p.1 == some .free)
def kK(sc:Scope)(N:List Str)(js:List Nat):Bool:=js.all fun j=>decide (j<N.length) && (sc.names.lookup (N.getD j "") == some .free)
def de(n:Nat)(js:List Nat)(σ:St):St:=List.replicate n none++js.map fun j=>(σ[j]?).join
theorem oH(cells:List (Str×Addr)):∀(names:List (Str×NameKind)) (acc:List (Str×Addr)) (x:Str) (c:Addr),
  (names.foldl (fun acc p=>if p.2 == .free then(p.1,(cells.lookup p.1).getD 0)::acc else acc) acc).lookup x=some c →
  ((x,NameKind.free)∈names/\c=(cells.lookup x).getD 0)\/acc.lookup x=some c
 | [],acc,x,c,h=>.inr h
 | (n,k)::r,acc,x,c,h=>by
  rw[List.foldl_cons]at h
  rcases oH cells r _ x c h with⟨h1,h2⟩ | h1
  ·exact .inl ⟨Ez _ h1,h2⟩
  ·cases hk:(k == NameKind.free)with
   | false=>
    simp only[hk]at h1
    exact .inr h1
   | true=>
    simp only[hk,if_true]at h1
    rw[List.lookup_cons]at h1
    cases hx:(x == n)with
    | false=>rw[hx]at h1;exact .inr h1
    | true=>
     rw[hx]at h1
     have e1:x=n:=by simpa using hx
     have e2:k=.free:=by simpa using hk
     subst e1 e2
     exact .inl ⟨EC,(Option.some.inj h1).symm⟩
theorem vU(cells:List (Str×Addr)):∀(names:List (Str×NameKind)) (acc:List (Str×Addr)) (x:Str),
  ((x,NameKind.free)∈names\/(acc.lookup x).isSome=true)->((names.foldl (fun acc p=>if p.2 == .free then(p.1,(cells.lookup p.1).getD 0)::acc else acc) acc).lookup x).isSome=true
 | [],acc,x,h=>by
  rcases h with h | h
  ·simp at h
  ·exact h
 | (n,k)::r,acc,x,h=>by
  rw[List.foldl_cons]
  apply vU cells r
  rcases h with h | h
  ·rcases EK.mp h with e | h
   ·right
    cases e
    simp[List.lookup_cons]
   ·exact .inl h
  ·right
   cases hk:(k == NameKind.free)with
   | false=>simpa[hk]using h
   | true=>
    simp only[hk,if_true,List.lookup_cons]
    cases hx:(x == n)with
    | true=>rfl
    | false=>exact h
theorem mn{env:Env}{sc:Scope}(h:∀p∈sc.names,p.2=.free->∃c,env.cells.lookup p.1=some c):closureFor sc env=pure (dH sc.names env.cells):=by
 have go:∀(names:List (Str×NameKind)) (acc:List (Str×Addr)),(∀p∈names,p.2=NameKind.free->∃c,env.cells.lookup p.1=some c) →
   (forIn names acc fun(p:Str×NameKind) (r:List (Str×Addr))=>(match p with | (name,kind)=>if(kind == NameKind.free)=true then do let c ←cellOf env name;pure (ForInStep.yield ((name,c)::r))else pure (ForInStep.yield r):Sem _)) =
   pure (names.foldl (fun acc p=>if p.2 == .free then(p.1,(env.cells.lookup p.1).getD 0)::acc else acc) acc):=by
  intro names
  induction names with
  | nil=>intro acc _;rfl
  | cons p r ih=>
   intro acc hp
   obtain⟨n,k⟩:=p
   rw[List.forIn_cons,List.foldl_cons]
   cases hk:(k == NameKind.free)with
   | false=>
    simp only[hk,Bool.false_eq_true,if_false]
    exact ih acc fun q hq=>hp q (Ez _ hq)
   | true=>
    obtain⟨c,hc⟩:=hp (n,k) EC (by simpa using hk)
    have e:cellOf env n=pure c:=by
     unfold cellOf
     rw[show env.cells.lookup n=some c from hc]
    simp only[hk,if_true,e]
    have hc':env.cells.lookup n=some c:=hc
    rw[hc']
    exact ih _ fun q hq=>hp q (Ez _ hq)
 unfold closureFor dH
 have:=go sc.names [] h
 simp only[this]
 rfl
def i6(X:Cx)(ifs:List Expr)(t:TT):Prop:=
 ∀(pins:List (Addr×Obj)) (s:Shared) (σ:St) (H:Hp) (Q:Bool->Hp->Prop),Inv X pins σ H s->t σ H Q →
  wpAny (model X.prog X.w) X.A (forIn ifs true fun c r=>if r=true then do let ok ←isTrue c X.env (eval c X.env);pure (ForInStep.yield ok)else pure (ForInStep.yield r)) (TP X pins σ Q) X.xe s
def p6:TT:=fun _ H Q=>Q true H
theorem dm{X:Cx}:i6 X [] p6:=fun _ _ _ H _ I h=>wpAny_tests_nil ⟨H,I,h⟩
theorem fj{X:Cx}{c:Expr}{t:TT}(h:PT X c t):i6 X [c] t:=fun pins s σ H Q I hq=>wpAny_tests_one (h pins s σ H Q I hq)
theorem AR{prog:Program}{w:World}{A:Around}{R:Result->Shared->Prop}{t0:Shared}{elt tgt iter:Expr}{ifs:List Expr}{sc:Scope}{ps:Pos}{itv acc:Value}{ce:Env}(Wd:Nat->Shared->Prop)
  (step:∀k t,Wd k t->wpAny (model prog w) A (pyNext itv) (fun got t1=>
   match got with
   | none=>R (.ok .next) t1
   | some u=>wpAny (model prog w) A (letOwnedTupleGo tgt itv u) (fun _ t2=>wpAny (model prog w) A (assign tgt ce u) (fun _ t3=>
     wpAny (model prog w) A (forIn ifs true fun c r=>if r=true then do let ok ←isTrue c ce (eval c ce);pure (ForInStep.yield ok)else pure (ForInStep.yield r)) (fun yes t4=>
      if yes=true then wpAny (model prog w) A (eval elt ce) (fun val t5=>wpAny (model prog w) A (call (.builtin "list.append") [acc,val]) (fun _ t6=>∃m,m<k/\Wd m t6) (fun _ _=>False) t5) (fun _ _=>False) t4
      else ∃m,m<k/\Wd m t4) (fun _ _=>False) t3) (fun _ _=>False) t2) (fun _ _=>False) t1) (fun _ _=>False) t)
  (k0:Nat) (start:Wd k0 t0):codeAny (model prog w) A (.compLoop (.ListComp elt [⟨tgt,iter,ifs,0⟩] sc ps) 0 itv acc ce) R t0:=by
 refine codeAny_loop rfl Wd (fun k t hW=>?turn) k0 start
 case turn=>
  have nox:∀{α:Type} {m:Sem α} {Q:α->Shared->Prop} {E:Value->Shared->Prop} {z:Shared},wpAny (model prog w) A m Q (fun _ _=>False) z->wpAny (model prog w) A m Q E z:=fun h=>wpAny_mono h (fun _ _ q=>q) fun _ _ f=>f.elim
  show wpAny _ A ((compTurn (.ListComp elt [⟨tgt,iter,ifs,0⟩] sc ps) 0 itv acc ce).onRaise (fun x=>do noteFrame x ce;theTreesLotGoes x)) _ _ t
  apply wpAny_noted
  rw[compTurn_list]
  refine Em (wpAny_standAt (Em (nox (wpAny_mono (step k t hW) (fun got t1 h1=>?_) fun _ _ f=>f))))
  cases got with
  | none=>exact En h1
  | some u=>
   refine Em (nox (wpAny_mono h1 (fun _ t2 h2=>?_) fun _ _ f=>f))
   refine Em (nox (wpAny_mono h2 (fun _ t3 h3=>?_) fun _ _ f=>f))
   refine Em (nox (wpAny_mono h3 (fun yes t4 h4=>?_) fun _ _ f=>f))
   cases yes with
   | false=>
    rw[if_neg EL]at h4
    exact En ⟨rfl,h4⟩
   | true=>
    rw[if_pos rfl]at h4
    refine Em (Em (nox (wpAny_mono h4 (fun val t5 h5=>?_) fun _ _ f=>f)))
    exact Em (nox (wpAny_mono h5 (fun _ t6 h6=>En (En ⟨rfl,h6⟩)) fun _ _ f=>f))
section
variable {X:Cx} {pins:List (Addr×Obj)} {σ:St} {H:Hp} {s:Shared}
def dS(its:List Value)(n:Nat):Obj:={ cls:=.type "list",data:=.seq its.toArray n }
theorem jC{sc out:Scope}(h:eV sc out=true){p:Str×NameKind}(hp:p∈sc.names)(hf:p.2=.free):out.names.lookup p.1=some .cell\/out.names.lookup p.1=some .free:=by
 have:=E6.mp h p hp
 simp only[hf,E9,Bool.or_eq_true,beq_iff_eq,bne_iff_ne,ne_eq,not_true,false_or]at this
 exact this.2
theorem uP{sc out:Scope}(h:eV sc out=true){p:Str×NameKind}(hp:p∈sc.names):p.2≠.cell:=by
 have:=E6.mp h p hp
 simp only[E9,bne_iff_ne,ne_eq]at this
 exact this.1.1
theorem uZ{sc out:Scope}(h:eV sc out=true){p:Str×NameKind}(hp:p∈sc.names)(hf:p.2=.local):sc.names.lookup p.1=some .local:=by
 have:=E6.mp h p hp
 simp only[hf,E9,Bool.or_eq_true,beq_iff_eq,bne_iff_ne,ne_eq,not_true,false_or]at this
 exact this.1.2
theorem mf{sc:Scope}{env:Env}{x:Str}:∀{names:List (Str×NameKind)} {k:NameKind},(names.map fun(p:Str×NameKind)=>match p with | (n,k)=>if(k == NameKind.free && env.scope.kind == .function && env.kindOf n == some .cell)then(n,NameKind.cell)else(n,k)).lookup x=some k →
  ∃k',names.lookup x=some k'/\(k'=k\/(k'=.free/\k=.cell))
 | [],_,h=>by simp at h
 | (n,q)::r,k,h=>by
  rw[List.map_cons]at h
  rw[List.lookup_cons]
  cases hx:(x == n)with
  | true=>
   refine⟨q,rfl,?_⟩
   by_cases hc:(q == NameKind.free && env.scope.kind == .function && env.kindOf n == some .cell)=true
   ·simp only[hc,if_true,List.lookup_cons,hx]at h
    right
    simp only[E9,beq_iff_eq]at hc
    exact⟨hc.1.1,(Option.some.inj h).symm⟩
   ·left
    have h2:List.lookup x ((n,q)::(r.map fun(p:Str×NameKind)=>match p with | (n,k)=>if(k == NameKind.free && env.scope.kind == .function && env.kindOf n == some .cell)then(n,NameKind.cell)else(n,k)))=some k:=by
     have h3:=h
     dsimp only at h3
     rw[if_neg hc]at h3
     exact h3
    rw[List.lookup_cons,hx]at h2
    exact Option.some.inj h2
  | false=>
   have:List.lookup x (r.map fun(p:Str×NameKind)=>match p with | (n,k)=>if(k == NameKind.free && env.scope.kind == .function && env.kindOf n == some .cell)then(n,NameKind.cell)else(n,k))=some k:=by
    by_cases hc:(q == NameKind.free && env.scope.kind == .function && env.kindOf n == some .cell)=true
    ·simpa only[hc,if_true,List.lookup_cons,hx]using h
    ·dsimp only at h
     rw[if_neg hc,List.lookup_cons,hx]at h
     exact h
   exact mf (sc:=sc) this
theorem iq{names:List (Str×NameKind)}{x:Str}{k:NameKind}(h:names.lookup x=some k):(x,k)∈names:=PySem.mem_of_lookup h
theorem fA(ok:X.Ok){sc:Scope}(hb:eV sc X.env.scope=true){x:Str}{c:Addr}(h:(dH sc.names X.env.cells).lookup x=some c):X.env.cells.lookup x=some c:=by
 rcases oH X.env.cells sc.names [] x c h with⟨h1,h2⟩ | h1
 ·obtain⟨d,hd⟩:=ok.has x (jC hb h1 rfl)
  rw[hd]at h2 ⊢
  rw[h2]
  rfl
 ·simp at h1
theorem lF{sc:Scope}{x:Str}{cells:List (Str×Addr)}(h:(x,NameKind.free)∈sc.names):∃c,(dH sc.names cells).lookup x=some c:=
 Option.isSome_iff_exists.mp (vU cells sc.names [] x (.inl h))
theorem Inv.stk_lt(I:Inv X pins σ H s){b:Addr}(hb:b∈cR X.stack):b<s.heap.objs.size:=by
 rcases EK.mp (I.stkSub b hb)with e | h
 ·rw[e];exact I.lt
 ·obtain⟨_,o,ho,_⟩:=I.ok.funs.mem h
  exact E3 (Es ho) I.sz
theorem Inv.cell_lt(I:Inv X pins σ H s){x:Str}{c:Addr}(h:X.env.cells.lookup x=some c):c<s.heap.objs.size:=by
 obtain⟨v,q⟩:=I.cell x c h
 exact q.lt
theorem Inv.pin_lt(I:Inv X pins σ H s){p:Addr×Obj}(h:p∈X.pn++pins):p.1<s.heap.objs.size:=Es (I.pin p h).1
theorem Dy(I:Inv X pins σ H s){sc:Scope}{own:List Str}{js:List Nat}{fp:List Addr}{C:Nat}(hk:sc.kind=.function)(hb:eV sc X.env.scope=true)
  (hfp:∀b∈fp,bV X pins H b) (hC:s.heap.objs.size<=C) (hlt:∀b∈fp,b<s.heap.objs.size):(cH X sc own js ⟨s,H,fp,C⟩).Ok where
 mod:=I.ok.mod
 kind:=hk
 glob:=I.ok.glob
 blt:=I.ok.blt
 above:=hC
 inj:=fun x y c h1 h2=>I.ok.inj x y c (fA I.ok hb h1) (fA I.ok hb h2)
 has:=fun x hx=>by
  have hx':(relabel sc X.env).names.lookup x=some .cell\/(relabel sc X.env).names.lookup x=some .free:=hx
  have go:∀k,(relabel sc X.env).names.lookup x=some k->(k=.cell\/k=.free)->∃c,(dH sc.names X.env.cells).lookup x=some c:=fun k h hkk=>by
   obtain⟨k',h1,h2⟩:=mf (sc:=sc) (env:=X.env) h
   have m:=iq h1
   rcases h2 with h2 | ⟨h2,_⟩
   ·subst h2
    rcases hkk with e | e
    ·exact absurd e (uP hb m)
    ·rw[e]at m;exact lF m
   ·rw[h2]at m;exact lF m
  rcases hx' with h | h
  ·exact go _ h (.inl rfl)
  ·exact go _ h (.inr rfl)
 cab:=fun x c h _=>by cases h
 hd:=I.ok.hd
 frames:=I.ok.frames
 stk:=.inl rfl
 exf:=fun b hb'=>⟨EO (E3 (hlt b hb') hC),fun x c e=>(hfp b hb').2.2.2.2.1 x c (fA I.ok hb e)⟩
 bs:=I.bs
 bsz:=E4 I.ok.bsz I.sz
 noex:=fun b o e hb'=>by
  rcases(hfp b hb').2.2.2.1 with z | z
  ·exact I.ok.noex b o e z
  ·exact absurd (E3 (Es e) (E4 I.ok.bsz z)) (Nat.lt_irrefl _)
 exfs:=fun b hb' hm=>by
  rcases EK.mp (I.stkSub b hm)with e | h
  ·exact(hfp b hb').2.1 e
  ·exact(hfp b hb').2.2.1 h
 funs:=I.stack
 frf:=I.stkFree
theorem pZ{n:Nat}{js:List Nat}{i:Nat}{v:V}(h:(de n js σ)[i]?=some (some v)):∃k j,i=n+k/\js[k]?=some j/\σ[j]?=some (some v):=by
 unfold de at h
 by_cases hi:i<n
 ·rw[EW (by simpa using hi),List.getElem?_replicate]at h
  split at h<;>cases h
 ·rw[EV (by simpa using Nat.le_of_not_lt hi),List.length_replicate,Ey]at h
  cases e:js[i-n]? with
  | none=>rw[e]at h;cases h
  | some j=>
   rw[e]at h
   refine⟨i-n,j,by omega,e,?_⟩
   have h':(σ[j]?).join=some v:=by simpa using h
   cases q:σ[j]? with
   | none=>rw[q]at h';cases h'
   | some o=>
    rw[q]at h'
    have:o=some v:=h'
    rw[this]
theorem DO(I:Inv X pins σ H s){sc:Scope}{own:List Str}{js:List Nat}{fp:List Addr}{C D:Nat}{h1:Heap}{tk:Nat}{o:Obj}{m:Str->Option Value}(hk:sc.kind=.function)(hb:eV sc X.env.scope=true)(hj:kK sc X.N js=true)
  (hfp:∀b∈fp,bV X pins H b) (hlt:∀b∈fp,b<s.heap.objs.size) (hD:D=s.heap.objs.size) (hC:C=s.heap.objs.size+1) (old:∀b o,s.heap.get? b=some o->h1.get? b=some o)
  (hDo:h1.get? D=some o) (hod:∀v,o.data≠.cell v) (hm:h1.Ns C m) :
  Inv (cH X sc own js ⟨s,H,fp,C⟩) [(D,o)] (de own.length js σ) H { s with heap:=h1,toks:=tk } where
 ok:=Dy I hk hb hfp (show @LE.le Nat _ s.heap.objs.size C by omega) hlt
 os:=rfl
 bare:=I.bare
 base:=Un.kept old
 loc:=by
  refine⟨m,hm,fun i x v e1 e2 e3=>?_⟩
  obtain⟨k,j,rfl,ej,es⟩:=pZ e2
  have e1':(own++js.map fun j=>X.N.getD j "")[own.length+k]?=some x:=e1
  rw[EV (by omega),Nat.add_sub_cancel_left,Ey,ej]at e1'
  have ex:X.N.getD j "" = x:=by simpa using e1'
  have hjj:=E6.mp hj j (EF ej)
  simp only[E9,decide_eq_true_eq,beq_iff_eq]at hjj
  have exN:X.N[j]?=some x:=by
   rw[←ex,List.getD_eq_getElem?_getD,Ex hjj.1]
   rfl
  have hfree:sc.names.lookup x=some .free:=by rw[←ex];exact hjj.2
  have hmem:=iq hfree
  have hout:=jC hb hmem rfl
  obtain⟨m0,hn0,hl0⟩:=I.loc
  obtain⟨u,r,l⟩:=hl0 j x v exN es (by rcases hout with z | z;exact .inr (.inl z);exact .inr (.inr z))
  refine⟨u,r,?_⟩
  obtain⟨c,hc⟩:=lF (cells:=X.env.cells) hmem
  have hc':=fA I.ok hb hc
  have hcell:s.heap.IsCell c (some u):=by
   rcases l with⟨z,_⟩ | ⟨_,c',e',q⟩
   ·have z':X.env.scope.names.lookup x=some .local:=z
    rcases hout with w | w<;>(rw[z']at w;cases w)
   ·rw[hc']at e';cases e';exact q
  have hcell1:h1.IsCell c (some u):=by
   obtain⟨oc,ho,hd⟩:=hcell
   exact⟨oc,old c oc ho,hd⟩
  right
  refine⟨?_,c,hc,hcell1⟩
  have e3':(relabel sc X.env).names.lookup x=some .local\/(relabel sc X.env).names.lookup x=some .cell\/(relabel sc X.env).names.lookup x=some .free:=e3
  rcases e3' with z | z
  ·obtain⟨k',z1,z2⟩:=mf (sc:=sc) (env:=X.env) z
   rw[hfree]at z1
   rcases z2 with z2 | ⟨_,z2⟩
   ·rw[z2]at z1;cases z1
   ·cases z2
  ·exact z
 cell:=fun x c e=>by
  obtain⟨v,oc,ho,hd⟩:=I.cell x c (fA I.ok hb e)
  exact⟨v,oc,old c oc ho,hd⟩
 free:=I.hok.fresh (show @LE.le Nat _ s.heap.objs.size C by omega)
 freeC:=fun x c e=>I.freeC x c (fA I.ok hb e)
 pin:=fun p hp=>by
  have e:p=(D,o):=by simpa[cH]using hp
  subst e
  refine⟨hDo,I.hok.fresh (show @LE.le Nat _ s.heap.objs.size D by omega),?_,fun z=>?_,hod⟩
  ·exact EO (show @LT.lt Nat _ D C by omega)
  ·have h9:@LT.lt Nat _ D s.heap.objs.size:=I.stk_lt (b:=D) z
   omega
 hok:=I.hok.kept old
 len:=by
  show(de own.length js σ).length=(own++js.map fun j=>X.N.getD j "").length
  simp[de]
def ia(J:It)(n:Nat)(js:List Nat)(g:TG)(tc:TT)(te:TE)(σ:St)(H:Hp)(Q:VK):Prop:=
 ∃W:Nat->Nat->List V->Hp->Prop,(∃m,W 0 m [] H)/\∀i m ys H',W i m ys H' →
  (J.stop i H'/\∀p,H' p=none->Q (.ref p) (upd H' p (.lst ys))) ∨
  (J.go i H'/\ys.length<sizeLine/\∃N:List V->Hp->Prop,(∀ys' H2,N ys' H2->∃m',m'<m/\W (i+1) m' ys' H2)/\∀x H2,J.yld i H' x H2->g x (de n js σ) H2 fun σ2 H3=>tc σ2 H3 fun b H4=>
   if b=true then te σ2 H4 fun v H5=>N (ys++[v]) H5 else N ys H4)
def pf(n:Nat)(js:List Nat)(wi:TI)(g:TG)(tc:TT)(te:TE):TE:=fun σ H Q=>wi σ H fun J H1=>ia J n js g tc te σ H1 Q
structure TurnAt(X:Cx)(tg:Expr)(J:It)(fp:List Addr)(it:Addr)(tn:Nat->Heap->Prop):Prop where
 obj:∀i h,tn i h->∀b∈fp,∃o,h.get? b=some o/\∀v,o.data≠.cell v
 keep:∀i h h',tn i h->(∀b∈fp,∀o,h.get? b=some o->h'.get? b=some o)->tn i h'
 item:∀(i:Nat) (pins:List (Addr×Obj)) (s:Shared) (σ:St) (H:Hp) (E:Value->Shared->Prop),Inv X pins σ H s->(∀b∈fp,bV X pins H b)->tn i s.heap->J.go i H →
  wpAny (model X.prog X.w) X.A (pyNext (.ref it)) (fun r s1=>∃u,r=some u ∧
   wpAny (model X.prog X.w) X.A (letOwnedTupleGo tg (.ref it) u) (fun _ s2=>∃x H',Inv X pins σ H' s2/\RelV x u/\J.yld i H x H'/\tn (i+1) s2.heap/\∀b∈fp,H' b=none) E s1) E s
 done:∀(i:Nat) (pins:List (Addr×Obj)) (s:Shared) (σ:St) (H:Hp) (E:Value->Shared->Prop),Inv X pins σ H s->(∀b∈fp,bV X pins H b)->tn i s.heap->J.stop i H →
  wpAny (model X.prog X.w) X.A (pyNext (.ref it)) (fun r s1=>r=none/\Inv X pins σ H s1) E s
 self:∀(A:Around) (i:Nat) (s:Shared) (Q:Value->Shared->Prop) (E:Value->Shared->Prop),tn i s.heap->Q (.ref it) s->wpAny (model X.prog X.w) A (pyIter (.ref it)) Q E s
theorem Turn.at_{Y:Cx}{tg:Expr}{J:It}{fp:List Addr}{it:Addr}{tn:Nat->Heap->Prop}(T:Turn Y.prog Y.w Y.K tg J fp it tn)(hc:Y.calm=true):TurnAt Y tg J fp it tn:=⟨T.obj,T.keep,T.item Y rfl rfl rfl hc,T.done Y rfl rfl rfl hc,T.self⟩
theorem v8{elt tg iter:Expr}{ifs:List Expr}{sc:Scope}{pos:Pos}{own:List Str}{js:List Nat}{g:TG}{tc:TT}{te:TE}{J:It}{it:Addr}{fp:List Addr}{tn:Nat->Heap->Prop}{RR:Value->Addr->Result->Shared->Prop}{E:Value->Shared->Prop}
  {Q:VK} {W:Nat->Nat->List V->Hp->Prop} (hk:sc.kind=.function) (hb:eV sc X.env.scope=true) (hj:kK sc X.N js=true)
  (hg:∀C,PG (cH X sc own js ⟨s,H,fp,C⟩) tg g) (ht:∀C,i6 (cH X sc own js ⟨s,H,fp,C⟩) ifs tc) (he:∀C,PE (cH X sc own js ⟨s,H,fp,C⟩) elt te)
  (I:Inv X pins σ H s) (T:∀C,TurnAt (cH X sc own js ⟨s,H,fp,C⟩) tg J fp it tn) (st:tn 0 s.heap) (hfp:∀b∈fp,bV X pins H b) (w0:∃m,W 0 m [] H)
  (turn:∀i m ys H',W i m ys H'->(J.stop i H'/\∀p,H' p=none->Q (.ref p) (upd H' p (.lst ys))) ∨
   (J.go i H'/\ys.length<sizeLine/\∃N:List V->Hp->Prop,(∀ys' H2,N ys' H2->∃m',m'<m/\W (i+1) m' ys' H2)/\∀x H2,J.yld i H' x H2->g x (de own.length js σ) H2 fun σ2 H3=>tc σ2 H3 fun b H4=>
    if b=true then te σ2 H4 fun v H5=>N (ys++[v]) H5 else N ys H4))
  (fin:∀D C s' ys H',H' D=none->Inv X pins σ (upd H' D (.lst ys)) s'->bV X pins (upd H' D (.lst ys)) C->(∃m,s'.heap.Ns C m)->s.heap.objs.size<=C->Q (.ref D) (upd H' D (.lst ys))->RR (.ref D) C (.ok .next) s') :
  wpAny (model X.prog X.w) X.A (newList []) (fun acc s₃=>wpAny (model X.prog X.w) X.A (newFunctionEnv sc X.env.globals (dH sc.names X.env.cells) [] X.env.qual none .none (some X.env)) (fun cenv s₄=>
   codeAny (model X.prog X.w) X.A (.compStart (.ListComp elt [⟨tg,iter,ifs,0⟩] sc pos) 0 (.ref it) acc { cenv with scope:=relabel sc X.env }) (RR acc cenv.locals) s₄) E s₃) E s:=by
 have hlt:∀b∈fp,b<s.heap.objs.size:=fun b hb'=>by
  obtain⟨o,e,_⟩:=(T 0).obj 0 s.heap st b hb'
  exact Es e
 refine wpAny_newObj_type (wpAny_newFunctionEnv (fun y hy=>uP hb hy) (by intro y hy;simp at hy) (fun h₁ hns₁ hsb₁=>?_) hk)
 dsimp only at hns₁ hsb₁ ⊢
 generalize hH2:s.heap.push { cls:=.type "list",dict:=none,data:=.seq ([]:List Value).toArray }=H2 at hns₁ hsb₁ ⊢
 have hCs:H2.objs.size=s.heap.objs.size+1:=by rw[←hH2,Heap.size_push]
 generalize hCe:H2.objs.size=C at *
 have below:∀b:Nat,b<s.heap.objs.size->b≠C:=fun b hb'=>by omega
 have old:∀b o,s.heap.get? b=some o->h₁.get? b=some o:=fun b o e=>hsb₁.extBut b o (below b (Es e)) (Ep _ (hH2 ▸ Ep _ e))
 have hDo:h₁.get? s.heap.objs.size=some (dS [] 0):=hsb₁.extBut _ _ (show @Ne Nat s.heap.objs.size C by omega) (Ep _ (hH2 ▸ Er _ rfl))
 generalize hDe:s.heap.objs.size=D at *
 -- the loop's word
 let Y:Cx:=cH X sc own js ⟨s,H,fp,C⟩
 have J0:Inv Y [(D,dS [] 0)] (de own.length js σ) H { s with heap:=h₁,toks:=s.toks+([]:List (Str×Value)).length }:=
  DO I hk hb hj hfp (by rw[hDe];exact hlt) hDe.symm (by rw[hDe];exact hCs) old hDo (fun v z=>by cases z) hns₁
 have ndC:@Ne Nat D C:=by omega
 have statF:∀{P':List (Addr×Obj)} {H':Hp},(∀b∈fp,H' b=none)->(∀p∈P',p.1∉fp)->∀b∈fp,bV Y P' H' b:=fun{P' H'} hn hp b hb'=>by
  obtain⟨f0,f1,f2,f3,f4,f5⟩:=hfp b hb'
  refine⟨hn b hb',fun z=>below b (hlt b hb') z,fun z=>?_,.inl hb',fun x c e=>f4 x c (fA I.ok hb e),fun p hp' z=>?_⟩
  ·rcases EK.mp (I.stkSub b z)with e | h
   ·exact f1 e
   ·exact f2 h
  ·have:p∈P':=by simpa[Y,cH]using hp'
   exact hp p this (by rw[z];exact hb')
 have Dfp:D∉fp:=fun z=>by have h9:@LT.lt Nat _ D D:=hlt D z;omega
 have st1:tn 0 h₁:=(T 0).keep 0 s.heap h₁ st fun b _ o e=>old b o e
 have loop:∀s₃:Shared,s₃={ s with heap:=h₁,toks:=s.toks+([]:List (Str×Value)).length } →
   codeAny (model X.prog X.w) X.A (.compLoop (.ListComp elt [⟨tg,iter,ifs,0⟩] sc pos) 0 (.ref it) (.ref D) Y.env) (RR (.ref D) C) s₃:=by
  rintro s₃ rfl
  obtain⟨m0,w0⟩:=w0
  refine AR (fun n s'=>∃i ys its q H',Inv Y [(D,dS its q)] (de own.length js σ) H' s'/\Vals ys its/\ys.length<=sizeLine/\tn i s'.heap/\(∀b∈fp,H' b=none)/\W i n ys H') ?_ m0
   ⟨0,[],[],0,H,J0,.nil,Nat.zero_le _,st1,fun b hb'=>(hfp b hb').1,w0⟩
  rintro n s3 ⟨i,ys,its,q,H3,I3,rv,hz,st3,fr3,w3⟩
  have pD:∀p∈[(D,dS its q)],p.1∉fp:=fun p hp=>by
   have e:p=(D,dS its q):=by simpa using hp
   rw[e];exact Dfp
  rcases turn i n ys H3 w3 with⟨stop,qn⟩ | ⟨go,hlen,N,hN,step⟩
  ·-- the end
   refine aw ((T C).done i _ s3 _ H3 _ I3 (statF fr3 pD) st3 stop) fun r s4 ⟨hr,I4⟩=>?_
   subst hr
   show RR (.ref D) C (.ok .next) s4
   have hDp:=I4.pin (D,dS its q) (List.mem_append_right _ (EG.mpr rfl))
   have hD4:s4.heap.get? D=some (dS its q):=hDp.1
   have nD:H3 D=none:=hDp.2.1
   have U:Un (cR X.stack) fp H H3 s.heap s4.heap:=I4.base
   have neD:∀b o,s.heap.get? b=some o->b≠D:=fun b o e=>EO (by have h9:@LT.lt Nat _ b s.heap.objs.size:=Es e;omega)
   have neDH:∀b o,H b=some o->b≠D:=fun b o e=>EO (by have h9:@LT.lt Nat _ b s.heap.objs.size:=I.hok.lt e;omega)
   have U2:Un (cR X.stack) fp H (upd H3 D (.lst ys)) s.heap s4.heap:=
    ⟨U.keep,U.slot,fun b o e n hx=>by rw[az (neD b o e)];exact U.free b o e n hx,U.there,fun b xs e=>by rw[az (neDH b _ e)];exact U.tups b xs e,
     fun b o u e=>by rw[az (neDH b _ e)];exact U.frzs b o u e,fun b ps e=>by rw[az (neDH b _ e)];exact U.tbls b ps e⟩
   have hok2:aZ X.prog X.w (upd H3 D (.lst ys)) s4.heap:=fun b o e=>by
    by_cases hb':b=D
    ·subst hb'
     rw[aL]at e
     cases e
     exact⟨hz,its,q,rv,hD4⟩
    ·rw[az hb']at e
     exact(I4.hok b o e).stay (fun c u _ z=>z) (fun c z=>by rw[az (bX z nD)];exact z) fun c xs z=>by rw[az (bX z nD)];exact z
   have IX:Inv X pins σ (upd H3 D (.lst ys)) s4:=I.call' (ch:=fp) I4.os U2 hok2 I4.bare fun b hb'=>by
    obtain⟨f0,f1,f2,f3,f4,f5⟩:=hfp b hb'
    exact⟨f3,f1,f4,f5⟩
   obtain⟨m4,hn4,_⟩:=I4.loc
   have nC:H3 C=none:=I4.free
   refine fin D C s4 ys H3 nD IX ?_ ⟨m4,hn4⟩ (show @LE.le Nat _ D C by omega) (qn D nD)
   refine⟨by rw[az (Ne.symm ndC)];exact nC,?_,?_,?_,?_,?_⟩
   ·have h9:@LT.lt Nat _ X.env.locals s.heap.objs.size:=I.lt
    exact Nat.ne_of_gt (show @LT.lt Nat _ X.env.locals C by omega)
   ·exact I.nofs (show @LE.le Nat _ s.heap.objs.size C by omega)
   ·right
    have h9:@LE.le Nat _ X.s₀.heap.objs.size s.heap.objs.size:=I.sz
    exact(show @LE.le Nat _ X.s₀.heap.objs.size C by omega)
   ·intro x c e
    have h9:@LT.lt Nat _ c s.heap.objs.size:=I.cell_lt e
    exact EO (show @LT.lt Nat _ c C by omega)
   ·intro p hp
    have h9:@LT.lt Nat _ p.1 s.heap.objs.size:=I.pin_lt hp
    exact EO (show @LT.lt Nat _ p.1 C by omega)
  ·-- a turn
   refine aw ((T C).item i _ s3 _ H3 _ I3 (statF fr3 pD) st3 go) fun r s4 ⟨u,hr,h4⟩=>?_
   subst hr
   refine aw h4 fun _ s5 ⟨x,H5,I5,r5,y5,st5,fr5⟩=>?_
   have I5':=I5.pinned (statF fr5 pD) ((T 0).obj _ _ st5)
   refine aw (hg _ _ s5 _ H5 x u _ I5' r5 (step x H5 y5)) fun _ s6 ⟨σ6,H6,I6,q6⟩=>?_
   refine aw (ht _ _ s6 σ6 H6 _ I6 q6) fun ok s7 ⟨H7,I7,q7⟩=>?_
   have back:∀{s':Shared} {σ':St} {H':Hp} {ys':List V} {its':List Value} {q':Nat},Inv Y ([(D,dS its' q')]++fS fp s5.heap) σ' H' s'->Vals ys' its'->ys'.length<=sizeLine->N ys' H' →
     ∃m,m<n/\∃i ys its q H',Inv Y [(D,dS its q)] (de own.length js σ) H' s'/\Vals ys its/\ys.length<=sizeLine/\tn i s'.heap/\(∀b∈fp,H' b=none)/\W i m ys H':=by
    intro s' σ' H' ys' its' q' I' rv' hz' nn
    obtain⟨m',hm,w'⟩:=hN ys' H' nn
    have hpin:∀b∈fp,∀o,s5.heap.get? b=some o->s'.heap.get? b=some o/\H' b=none:=fun b hb' o e=>by
     have:=I'.pin (b,o) (List.mem_append_right _ (List.mem_append_right _ (nM hb' e)))
     exact⟨this.1,this.2.1⟩
    refine⟨m',hm,i+1,ys',its',q',H',?_,rv',hz',(T 0).keep _ _ _ st5 fun b hb' o e=>(hpin b hb' o e).1,fun b hb'=>?_,w'⟩
    ·have I'':=I'.unpinned
     obtain⟨mm,hmm,_⟩:=id I''.loc
     refine⟨I''.ok,I''.os,I''.bare,I''.base,⟨mm,hmm,fun k x v e1 e2 e3=>?_⟩,I''.cell,I''.free,I''.freeC,I''.pin,I''.hok,?_⟩
     ·-- the captured names: their cells are as they were at the block's beginning
      obtain⟨m1,hn1,hl1⟩:=J0.loc
      obtain⟨u1,r1,l1⟩:=hl1 k x v e1 e2 e3
      refine⟨u1,r1,?_⟩
      rcases l1 with⟨z,zz⟩ | ⟨z,c,e,zz⟩
      ·-- a captured name is no local one
       exfalso
       obtain⟨k',j,rfl,ej,es⟩:=pZ e2
       have e1':(own++js.map fun j=>X.N.getD j "")[own.length+k']?=some x:=e1
       rw[EV (by omega),Nat.add_sub_cancel_left,Ey,ej]at e1'
       have ex:X.N.getD j "" = x:=by simpa using e1'
       have hjj:=E6.mp hj j (EF ej)
       simp only[E9,decide_eq_true_eq,beq_iff_eq]at hjj
       have hfree:sc.names.lookup x=some .free:=by rw[←ex];exact hjj.2
       obtain⟨k2,z1,z2⟩:=mf (sc:=sc) (env:=X.env) (show(relabel sc X.env).names.lookup x=some .local from z)
       rw[hfree]at z1
       rcases z2 with z2 | ⟨_,z2⟩
       ·rw[z2]at z1;cases z1
       ·cases z2
      ·refine .inr ⟨z,c,e,?_⟩
       have hcs:X.env.cells.lookup x=some c:=fA I.ok hb e
       obtain⟨ov,oc,hoc,hdc⟩:=I.cell x c hcs
       have hoc1:=old c oc hoc
       obtain⟨oz,hoz,hdz⟩:=zz
       have hoz':h₁.get? c=some oz:=hoz
       rw[hoc1]at hoz'
       cases hoz'
       have cnf:c∉fp:=fun z'=>(hfp c z').2.2.2.2.1 x c hcs rfl
       obtain⟨sl,hh⟩:=I''.base.any hoc (I.freeC x c hcs) cnf
       exact⟨_,hh,hdz⟩
     ·show(de own.length js σ).length=_
      exact J0.len
    ·obtain⟨o,e,d⟩:=(T 0).obj _ _ st5 b hb'
     exact(hpin b hb' o e).2
   cases ok with
   | false=>
    rw[if_neg EL]at q7 ⊢
    exact back I7 rv hz q7
   | true=>
    rw[if_pos rfl]at q7 ⊢
    refine aw (he _ _ s7 σ6 H7 _ I7 q7) fun xv s8 ⟨v,H8,I8,r8,q8⟩=>?_
    have hDp:=I8.pin (D,dS its q) (List.mem_append_right _ (List.mem_append_left _ (EG.mpr rfl)))
    have hD8:s8.heap.get? D=some { cls:=.type "list",data:=.seq its.toArray q }:=hDp.1
    have hl:=rv.length
    refine call_meets F.slot_list_append ⟨_,hD8,rfl⟩ F.entry_list_append (F.args_list_append_2 _ _) (PySem.list_append D its.toArray q xv (by rw[EB];omega)) ⟨hD8,?_⟩
    have qq:=PySem.IsL.update hD8 (fun a=>a.push xv)
    have eqs:its.toArray.push xv=(its++[xv]).toArray:=by simp
    rw[eqs]at qq
    obtain⟨q2,hq2⟩:∃q2,(s8.heap.update D (Obj.mapSeq fun a=>a.push xv)).get? D=some (dS (its++[xv]) q2):=⟨_,qq⟩
    -- without the pin of D,the record turns,then it is pinned again
    have I8a:Inv Y (fS fp s5.heap) σ6 H8 s8:=I8.pins_of fun p hp=>I8.pin p (List.mem_append_right _ (List.mem_append_right _ hp))
    have nD8:H8 D=none:=hDp.2.1
    have I9:Inv Y (fS fp s5.heap) σ6 H8 { s8 with heap:=s8.heap.update D (Obj.mapSeq fun a=>a.push xv),toks:=s8.toks }:=by
     refine I8a.turned (it:=D) (fun b o hb' e=>(Heap.get?_update_other s8.heap (Obj.mapSeq fun a=>a.push xv) (Ne.symm hb')).trans e) nD8 ndC (.inr (show @LE.le Nat _ s.heap.objs.size D by omega)) (fun x c e=>?_) fun p hp=>?_
     ·have h9:@LT.lt Nat _ c s.heap.objs.size:=I.cell_lt (fA I.ok hb e)
      exact EO (show @LT.lt Nat _ c D by omega)
     ·have hp':p∈fS fp s5.heap:=by simpa[Y,cH]using hp
      obtain⟨h1,_⟩:=vE hp'
      exact fun z=>Dfp (z ▸ h1)
    refine back (ys':=ys++[v]) (its':=its++[xv]) (q':=q2) (I9.pins_of fun p hp=>?_) (rv.append (.cons r8 .nil)) (by rw[EN,List.length_singleton];omega) q8
    rcases EU.mp hp with hp | hp
    ·have e:p=(D,dS (its++[xv]) q2):=by simpa using hp
     subst e
     refine⟨hq2,nD8,ndC,fun z=>?_,fun v z=>by cases z⟩
     have h9:@LT.lt Nat _ D s.heap.objs.size:=I.stk_lt (b:=D) z
     omega
    ·exact I9.pin p (List.mem_append_right _ hp)
 exact codeAny_compStart_list (loop _ rfl) ((T 0).self X.A 0 { s with heap:=h₁,toks:=s.toks+([]:List (Str×Value)).length } _ _ st1 (loop _ rfl))
theorem cO{elt tg iter:Expr}{ifs:List Expr}{sc:Scope}{pos:Pos}(own:List Str)(js:List Nat){wi:TI}{g:TG}{tc:TT}{te:TE}(hi:PI X tg iter wi)(hg:∀z,PG (cH X sc own js z) tg g)(ht:∀z,i6 (cH X sc own js z) ifs tc)
  (he:∀z,PE (cH X sc own js z) elt te) (hc:X.calm=true:=by rfl) (hk:sc.kind=.function:=by rfl) (hb:eV sc X.env.scope=true:=by rfl) (hj:kK sc X.N js=true:=by rfl)
  (hs:∀x,foldedSetIterable iter X.env x=pure x:=by intro _;rfl):PE X (.ListComp elt [⟨tg,iter,ifs,0⟩] sc pos) (pf own.length js wi g tc te):=by
 intro pins s σ H Q I h
 rw[eval_ListComp]
 refine wpAny_comprehension_free (use:=none) rfl hs (mn fun p hp hf=>I.ok.has p.1 (jC hb hp hf)) hk (fun p hp hl=>uZ hb hp hl) (aw (hi pins s σ H _ I h) fun v s1 h1=>aw h1 fun itv s2 h2=>?_)
 obtain⟨it,fp,tn,J,H2,e,I2,T,st2,f2,W,w0,turn⟩:=h2
 subst e
 refine v8 (RR:=fun acc C=>compPost (model X.prog X.w) X.A X.xe none (EP X pins σ Q) acc C) hk hb hj (fun _=>hg _) (fun _=>ht _) (fun _=>he _) I2 (fun C=>Turn.at_ (Y:=cH X sc own js ⟨_,_,_,C⟩) T hc) st2 f2 w0 turn ?_
 intro D C s' ys H' nD I' hC ⟨m,hm⟩ _ q
 refine⟨m,hm,fun h' hs'=>?_⟩
 obtain⟨f0,f1,f2,f3,f4,f5⟩:=hC
 exact⟨.ref D,_,I'.turned (t':=s'.toks) (it:=C) (fun b o hb' e=>(hs'.2 b hb').trans e) f0 f1 f3 f4 f5,rfl,q⟩
theorem f7{i:Nat}{y:Str}{py:Pos}{elt tg iter:Expr}{ifs:List Expr}{sc:Scope}{pos spos:Pos}(own:List Str)(js:List Nat){wi:TI}{g:TG}{tc:TT}{te:TE}(hN:X.N.Nodup)(hi':X.N[i]?=some y)(hx:Loc X.env.scope y)
  (hi:PI X tg iter wi) (hg:∀z,PG (cH X sc own js z) tg g) (ht:∀z,i6 (cH X sc own js z) ifs tc)
  (he:∀z,PE (cH X sc own js z) elt te) (hsw:swapsWith (.ListComp elt [⟨tg,iter,ifs,0⟩] sc pos) (some (.Name y py)) spos.line X.env=pure true:=by rfl) (hc:X.calm=true:=by rfl) (hk:sc.kind=.function:=by rfl) (hb:eV sc X.env.scope=true:=by rfl) (hj:kK sc X.N js=true:=by rfl)
  (hs:∀x,foldedSetIterable iter X.env x=pure x:=by intro _;rfl) (hf:X.fn y=true\/X.env.scope.names.lookup y=some .local:=by first | exact .inl rfl | exact .inr rfl | assumption) :
  PS X (.Assign [.Name y py] (.ListComp elt [⟨tg,iter,ifs,0⟩] sc pos) spos) (lT (pf own.length js wi g tc te) (iJ i)):=by
 intro pins s σ H D' I h
 rw[exec_Assign_Name_used _ _ _ _ hsw]
 refine Em (wpAny_standAt (Em ?_))
 show wpAny _ X.A (do let _ ←comprehension (.ListComp elt [⟨tg,iter,ifs,0⟩] sc pos) sc X.env _ (newList []) false (eval iter X.env) (some (assign (.Name y py) X.env))) _ _ s
 refine Em (wpAny_mono (wpAny_comprehension_free (use:=some (assign (.Name y py) X.env)) (Q:=fun _ s'=>SP X pins D' .next s') rfl hs (mn fun p hp hf=>I.ok.has p.1 (jC hb hp hf)) hk (fun p hp hl=>uZ hb hp hl)
  (aw (hi pins s σ H _ I h) fun v s1 h1=>aw h1 fun itv s2 h2=>?_)) (fun _ s' hq=>En (En hq)) fun _ _ e=>e)
 obtain⟨it,fp,tn,J,H2,e,I2,T,st2,f2,W,w0,turn⟩:=h2
 subst e
 refine v8 (Q:=fun x H1=>iJ i x σ H1 D'.nx) (RR:=fun acc C=>compPost (model X.prog X.w) X.A X.xe (some (assign (.Name y py) X.env)) (fun _ s'=>SP X pins D' .next s') acc C) hk hb hj (fun _=>hg _) (fun _=>ht _) (fun _=>he _) I2 (fun C=>Turn.at_ (Y:=cH X sc own js ⟨_,_,_,C⟩) T hc) st2 f2 w0 turn ?_
 intro D C s' ys H' nD I' hC ⟨m,hm⟩ hCs q
 show wpAny _ X.A (assign (.Name y py) X.env (.ref D)) _ _ _
 refine wpAny_assign_Name (tG I' hN hi' hx (v:=.ref D) rfl (fun s'' I'' ⟨a,hsb,ha⟩=>?_) hf)
 obtain⟨f0,f1,f2,f3,f4,f5⟩:=hC
 have hac:a≠C:=by
  rcases ha with rfl | ha
  ·exact Ne.symm f1
  ·exact f4 y a ha
 refine⟨m,hm.sameBut hsb (Ne.symm hac),fun h' hs'=>?_⟩
 exact⟨_,_,I''.turned (t':=s''.toks) (it:=C) (fun b o hb' e=>(hs'.2 b hb').trans e) f0 f1 f3 f4 f5,q⟩
end
theorem eZ{K:Eo}{a:Addr}{xs:List V}{n:Nat}{js:List Nat}{g:TG}{tc:TT}{te:TE}{Q:VK}{σ:St}{H:Hp}(Pv:Nat->List V->Hp->Prop)(hz:xs.length<=sizeLine)(h0:Pv 0 [] H)(hl:∀i ys H,i<=xs.length->Pv i ys H->ag K H a xs/\ys.length<=i)
  (hs:∀i x ys H,xs[i]?=some x->Pv i ys H->g x (de n js σ) H fun σ2 H3=>tc σ2 H3 fun b H4=>if b=true then te σ2 H4 fun v H5=>Pv (i+1) (ys++[v]) H5 else Pv (i+1) ys H4)
  (hd:∀ys H p,Pv xs.length ys H->H p=none->Q (.ref p) (upd H p (.lst ys))):ia (dI K a) n js g tc te σ H Q:=by
 refine⟨fun i m ys H=>m=xs.length-i/\i<=xs.length/\Pv i ys H,⟨xs.length,by simp,Nat.zero_le _,h0⟩,?_⟩
 rintro i m ys H ⟨rfl,hi,p⟩
 have q:=hl i ys H hi p
 by_cases hlt:i<xs.length
 ·refine .inr ⟨⟨xs,xs[i],q.1,by simp[hlt]⟩,by have:=q.2;omega,Pv (i+1),fun ys' H' p'=>⟨xs.length-(i+1),by omega,rfl,hlt,p'⟩,fun x H' y=>?_⟩
  obtain⟨e,y⟩:=y
  subst e
  exact hs i x ys _ (y xs q.1) p
 ·have e:i=xs.length:=by omega
  subst e
  exact .inl ⟨⟨xs,q.1,ER _⟩,fun p' hp=>hd ys H p' p hp⟩
theorem kY{K:Eo}{a:Addr}{xs:List V}{n:Nat}{js:List Nat}{g:TG}{tc:TT}{te:TE}{Q:VK}{σ:St}{H:Hp}(Pv:Nat->List V->Hp->Prop)(hz:xs.length<=sizeLine)(h0:Pv 0 [] H)(hl:∀i ys H,i<=xs.length->Pv i ys H->ah K H a xs/\ys.length<=i)
  (hs:∀i x ys H,xs[i]?=some x->Pv i ys H->g x (de n js σ) H fun σ2 H3=>tc σ2 H3 fun b H4=>if b=true then te σ2 H4 fun v H5=>Pv (i+1) (ys++[v]) H5 else Pv (i+1) ys H4)
  (hd:∀ys H p,Pv xs.length ys H->H p=none->Q (.ref p) (upd H p (.lst ys))):ia (cB K a) n js g tc te σ H Q:=by
 refine⟨fun i m ys H=>m=xs.length-i/\i<=xs.length/\Pv i ys H,⟨xs.length,by simp,Nat.zero_le _,h0⟩,?_⟩
 rintro i m ys H ⟨rfl,hi,p⟩
 have q:=hl i ys H hi p
 by_cases hlt:i<xs.length
 ·refine .inr ⟨⟨xs,xs[i],q.1,by simp[hlt]⟩,by have:=q.2;omega,Pv (i+1),fun ys' H' p'=>⟨xs.length-(i+1),by omega,rfl,hlt,p'⟩,fun x H' y=>?_⟩
  obtain⟨e,y⟩:=y
  subst e
  exact hs i x ys _ (y xs q.1) p
 ·have e:i=xs.length:=by omega
  subst e
  exact .inl ⟨⟨xs,q.1,ER _⟩,fun p' hp=>hd ys H p' p hp⟩
theorem fm{lo:Int}{N n:Nat}{js:List Nat}{g:TG}{tc:TT}{te:TE}{Q:VK}{σ:St}{H:Hp}(Pv:Nat->List V->Hp->Prop)(hz:N<=sizeLine)(h0:Pv 0 [] H)(hl:∀i ys H,i<=N->Pv i ys H->ys.length<=i)
  (hs:∀i ys H,i<N->Pv i ys H->g (.int (lo+i)) (de n js σ) H fun σ2 H3=>tc σ2 H3 fun b H4=>if b=true then te σ2 H4 fun v H5=>Pv (i+1) (ys++[v]) H5 else Pv (i+1) ys H4)
  (hd:∀ys H p,Pv N ys H->H p=none->Q (.ref p) (upd H p (.lst ys))):ia (du lo N) n js g tc te σ H Q:=by
 refine⟨fun i m ys H=>m=N-i/\i<=N/\Pv i ys H,⟨N,by simp,Nat.zero_le _,h0⟩,?_⟩
 rintro i m ys H ⟨rfl,hi,p⟩
 have q:=hl i ys H hi p
 by_cases hlt:i<N
 ·refine .inr ⟨hlt,by omega,Pv (i+1),fun ys' H' p'=>⟨N-(i+1),by omega,rfl,hlt,p'⟩,fun x H' y=>?_⟩
  obtain⟨e,y⟩:=y
  subst e y
  exact hs i ys _ hlt p
 ·have e:i=N:=by omega
  subst e
  exact .inl ⟨ER _,fun p' hp=>hd ys H p' p hp⟩
end L2
namespace L2
open PySem PySem.Spec PyProof.Rows
structure Cal(P:Program)(w:World)(K:Eo)(mg:Str->Option Value)(base:Heap)(x:Str)(k:Nat)(ps:List Str)(sp:Sp):Prop where
 ex:∃(f:Addr) (fd:FuncData),mg x=some (.ref f)/\PySem.W.keepIn K (.ref f)=true/\Binds K fd ps []/\FnOk P w K mg base dy k f fd ps sp
structure Dfn(K:Eo)(mg:Str->Option Value)(x:Str)(st:Stmt)(ps:List Str):Prop where
 ex:∃(f:Addr) (fd:FuncData),mg x=some (.ref f)/\Fun K x x st f fd/\Binds K fd ps []
section
variable {P:Program} {w:World} {K:Eo} {mg:Str->Option Value} {base:Heap}
theorem Dfn.ok{x:Str}{st:Stmt}{N ps:List Str}{k:Nat}{sp:Sp}(D:Dfn K mg x st ps)(S:FnScope N ps (aK st))(len:∀vs H Q E,sp vs H Q E->vs.length=ps.length)
  (hbody:∀(X:Cx) (hX:∃f cdv A outer s H E,X=(fF dy P w K mg base N x (aK st) f cdv A outer s H E).nox/\Room k X.A) (H:Hp) (vs:List V) (Q:VK) (E:XK),sp vs H Q E →
   ∃t,cE X (eI st) t/\t { nx:=fun _ H'=>Q .non H',rt:=Q } (start N vs) H):Cal P w K mg base x (k+1) ps sp:=by
 obtain⟨f,fd,hm,F,hb⟩:=D.ex
 exact⟨f,fd,hm,F.kp,hb,F.ok S len fun cdv A outer s H vs Q E hr h=>hbody _ ⟨f,cdv,A,outer,s,H,E,rfl,hr⟩ H vs Q E h⟩
end
section
variable {X:Cx}
theorem aD{x:Str}{k j:Nat}{ps:List Str}{sp:Sp}{e:Expr}{es:List Expr}{t:TA}{p pos:Pos}(C:Cal X.prog X.w X.K X.mg X.base x j ps sp)(hr:Room k X.A)(ha:PA X (e::es) t)(hjk:j<=k:=by decide)(hg:Gl X x:=by rfl)(hdb:(x == ("__debug__":Str))=false:=by decide)
  (he:starEach (e::es) X.env=(false,eval e X.env)::starEach es X.env:=by rfl) (hpl:(backTo pos (starEach es X.env)).any (·.1)=false:=by rfl) :
  PE X (.Call (.Name x p) (e::es) [] pos) (jL sp [] E0 t):=by
 obtain⟨f,fd,hm,hk,hb,F⟩:=C.ex
 exact Dz F (hr.mono hjk) hg hm hk hb .nil Ae ha hdb he hpl
theorem tW:bB X (binaryOp .FloorDiv) (rI (fun _ j=>0<j/\j<2 ^ 64) fun i j=>.int (i / j)):=kR fun i j _ _ _ _ _ hc q=>by
 have h1:(0:Int)<j:=hc.1
 have h2:j<2 ^ 64:=hc.2
 refine floordiv_int (by omega) (by rw[Int.fdiv_eq_ediv_of_nonneg i (by omega)];exact q) (.inl (PyProof.noPylong_of_log2 ?_))
 have h0:j.natAbs≠0:=by omega
 have h64:j.natAbs<2 ^ 64:=by omega
 have:=(Nat.log2_lt h0).mpr h64
 omega
def dg(H:Hp):V->String->Prop
 | .non,n=>n = "NoneType"
 | .bl _,n=>n = "bool"
 | .int _,n=>n = "int"
 | .str _,n=>n = "str"
 | .ref a,n=>(n = "list"/\∃xs,H a=some (.lst xs))\/(n = "tuple"/\∃xs,H a=some (.tup xs))
 | _,_=>False
theorem dg.ty{K:Eo}{H:Hp}{x:V}{n:String}(h:dg H x n):TyOf K H x (.type n):=by
 cases x with
 | non=>cases(show n = "NoneType" from h);exact .non
 | bl b=>cases(show n = "bool" from h);exact .bl b
 | int i=>cases(show n = "int" from h);exact .int i
 | str z=>cases(show n = "str" from h);exact .str z
 | ref a=>
  rcases h with⟨rfl,xs,e⟩ | ⟨rfl,xs,e⟩
  ·exact .lst e
  ·exact .tup e
 | _=>exact False.elim h
def fC:String->String->Option Bool
 | "NoneType","tuple"=>some false | "NoneType","int"=>some false | "NoneType","bool"=>some false | "NoneType","list"=>some false | "NoneType","str"=>some false
 | "bool","tuple"=>some false | "bool","int"=>some true | "bool","bool"=>some true | "bool","list"=>some false | "bool","str"=>some false
 | "int","tuple"=>some false | "int","int"=>some true | "int","bool"=>some false | "int","list"=>some false | "int","str"=>some false
 | "str","tuple"=>some false | "str","int"=>some false | "str","bool"=>some false | "str","list"=>some false | "str","str"=>some true
 | "list","tuple"=>some false | "list","int"=>some false | "list","bool"=>some false | "list","list"=>some true | "list","str"=>some false
 | "tuple","tuple"=>some true | "tuple","int"=>some false | "tuple","bool"=>some false | "tuple","list"=>some false | "tuple","str"=>some false
 | _,_=>none
theorem BB{K:Eo}{n T:String}{b:Bool}(h:fC n T=some b):PySem.W.kitOne K (.type n) (.type T)=some b:=by
 unfold fC at h
 split at h<;>first
  | (cases h;kernel_rfl)
  | cases h
def uf:List V->Hp->VK->Prop:=fun xs H Q=>∃x n T b,xs=[x,.ty T]/\dg H x n/\fC n T=some b/\Q (.bl b) H
theorem dv:bS X (.builtin "isinstance") uf:=by
 intro pins s σ H xs us Q I r h
 obtain⟨x,n,T,b,rfl,hk,hb,q⟩:=h
 obtain⟨u,w',rfl,r1,r2⟩:=vals2 r
 cases(show w'=Value.type T from r2)
 exact BK I r1 hk.ty (BB hb) fun tk=>⟨.bl b,H,I.tok tk,rfl,q⟩
def qr(K:Eo):List V->Hp->VK->Prop:=fun xs H Q=>∃(p:Addr) (ns:List Int),xs=[.ref p]/\ag K H p (ns.map V.int)/\0<ns.length/\∀M,M∈ns->(∀a,a∈ns->a<=M)->Q (.int M) H
theorem BQ(hc:X.calm=true):bS X (.builtin "max") (qr X.K):=by
 intro pins s σ H xs us Q I r h
 obtain⟨p,ns,rfl,hq,hl,q⟩:=h
 obtain⟨u,rfl,rx⟩:=vals1 r
 cases rx
 obtain⟨its,r',pl,hz⟩:=I.list hq
 have i1:IntsAre its ns:=intsAre_of r'
 obtain⟨its0,e0⟩:=i1.allInts.items
 have en:ns=its0.toList.map (·.1):=(i1.numsOf.symm.trans (by rw[←e0])).trans (nums_intItems its0)
 have el:its0.toList.length=its0.size:=EA
 have ln:ns.length=its0.size:=by rw[en,Ew,el]
 have hL:s.heap.IsList p (intItems its0):=e0 ▸ pl.isList
 refine max_intList (I.ok.hd hc) hL (by omega) fun best h' tk hbest kept=>?_
 obtain⟨tok,hv⟩:=intItems_at hbest
 subst hv
 have am:=argBest_gt (numAt its0) (its0.size-1)
 refine⟨.int _,H,I.kept kept,⟨tok,rfl⟩,q _ ?_ fun z hz=>?_⟩
 ·rw[en]
  have:=am.1
  rw[numAt_eq]
  exact getD_mem (by rw[Ew,el];omega)
 ·rw[en]at hz
  obtain⟨k,hk,ez⟩:=mem_getD hz
  subst ez
  have hk2:k<its0.size:=by rw[Ew,el]at hk;exact hk
  have:=am.2 k (by omega)
  rw[numAt_eq]at this
  exact this
def jU(K:Eo):List V->Hp->VK->Prop:=fun xs H Q=>∃p ys,xs=[.ref p]/\(ag K H p ys\/ah K H p ys)/\Q (.int ys.length) H
theorem CY:bS X (.builtin "len") (jU X.K):=zi
def oi(K:Eo):List V->Hp->VK->Prop:=fun xs H Q=>∃p ys,xs=[.ref p]/\((ag K H p ys/\∀l,H l=none->Q (.ref l) (upd H l (.tup ys)))\/(ah K H p ys/\Q (.ref p) H))
theorem DV:bS X (.type "tuple") (oi X.K):=CB
def wM:List V->Hp->VK->Prop:=fun xs H Q=>(∃i,xs=[.int i]/\Q (.int i) H)\/∃k,xs=[.bl k]/\Q (.int (if k then 1 else 0)) H
theorem lC:bS X (.type "int") wM:=zD
def uW:List V->Hp->VK->Prop:=fun xs H Q=>∃i j,xs=[.int i,.int j]/\Q (.int (if j>i then j else i)) H
theorem pz(hc:X.calm=true):bS X (.builtin "max") uW:=Bg hc
def pU:List V->Hp->VK->Prop:=fun xs H Q=>∃i j,xs=[.int i,.int j]/\Q (.int (if j<i then j else i)) H
theorem AH(hc:X.calm=true):bS X (.builtin "min") pU:=zX hc
end
end L2
namespace L2
open PySem PySem.Spec PyProof.Rows
def Ext(H H':Hp):Prop:=∀b o,H b=some o->H' b=some o
theorem Ext.rfl'(H:Hp):Ext H H:=fun _ _ h=>h
theorem Ext.trans{H H1 H2:Hp}(a:Ext H H1)(b:Ext H1 H2):Ext H H2:=fun x o h=>b x o (a x o h)
theorem Ext.none{H H':Hp}(e:Ext H H'){l:Addr}(h:H' l=Option.none):H l=Option.none:=by
 cases q:H l with
 | none=>rfl
 | some o=>rw[e l o q]at h;cases h
section
variable {X:Cx} (K:Eo)
theorem aI(h:X.K=K:=by rfl):il X (nR K):=by subst h;exact DC
theorem aA(h:X.K=K:=by rfl):il X (ni K):=by subst h;exact Bk
theorem iI(h:X.K=K:=by rfl):jq X (oq K):=by subst h;exact BU
theorem uv(h:X.K=K:=by rfl):bB X (compareOp .In) (nS K false):=by subst h;exact A3
theorem cD(h:X.K=K:=by rfl):bS X (.builtin "len") (jU K):=by subst h;exact CY
theorem kx(h:X.K=K:=by rfl):bS X (.type "tuple") (oi K):=by subst h;exact DV
theorem yt(hc:X.calm=true)(h:X.K=K:=by rfl):bS X (.builtin "max") (qr K):=by subst h;exact BQ hc
theorem cw{tg l:Expr}{tl:TE}(hl:PE X l tl)(h:X.K=K:=by rfl):PI X tg l (ny K tl):=by subst h;exact BR hl
theorem ib{tg l:Expr}{tl:TE}(hl:PE X l tl)(h:X.K=K:=by rfl):PI X tg l (oh K tl):=by subst h;exact zP hl
theorem eP{es:List Expr}{k:Nat}{t:dE}{n:Nat}{pos:Pos}(hc:X.calm=true)(hg:gQ X es t)(h:X.K=K:=by rfl)
  (hn:(assignEach es X.env).length=n:=by rfl) (hst:(assignEach es X.env).findIdx? (·.1)=none:=by rfl):PG X (.Tuple es k pos) (oE K n t):=by subst h;exact ye hc hg hn hst
theorem bG{o e:Expr}{es:List Expr}{to:TE}{t:TA}{name:Str}{apos cpos:Pos}{T id:String}{r:V->List V->Hp->VK->Prop}(pa:PlainAttrs T)(slot:Slot T name id)(hty:typeOf (.builtin id)=pure (.type "method_descriptor"))(hm:oT X id r)(ho:PE X o to)(ha:PA X (e::es) t)(h:X.K=K:=by rfl)
  (hbase:attributeBase o name X.env (eval o X.env)=eval o X.env:=by rfl)
  (hfew:((backTo cpos (starEach (e::es) X.env)).all (fun x=>!x.1) && (backToKw cpos (keywordEach [] X.env)).all (fun x=>x.1.isSome)
   && decide ((e::es).length+([]:List Keyword).length+(if([]:List Keyword).isEmpty then 0 else 1)<30))=true:=by rfl)
  (hline:(apos.endLine == cpos.line)=true:=by rfl) (hs:starEach (e::es) X.env=(false,eval e X.env)::starEach es X.env:=by rfl) (hplain:(backTo cpos (starEach es X.env)).any (·.1)=false:=by rfl) :
  PE X (.Call (.Attribute o name apos) (e::es) [] cpos) (mC K T r to t):=by subst h;exact AB pa slot hty hm ho ha hbase hfew hline hs hplain
end
def vH(ns:List Int):TA:=fun _ H Q=>Q (ns.map V.int) H
inductive IntsE:List Expr->List Int->Prop
 | n:IntsE [] []
 | c {i j pos es ns}:IntsE es ns->IntsE (.Constant (.int i) j pos::es) (i::ns)
theorem i9{X:Cx}{es:List Expr}{ns:List Int}(h:IntsE es ns):PA X es (vH ns):=by
 induction h with
 | n=>exact ae
 | @c i j pos es ns _ ih=>
  intro p pins s σ H Q I hq
  exact aa (e:=.Constant (.int i) j pos) af ih rfl p pins s σ H Q I hq
theorem rd_ints{σ:St}{H:Hp}{ns:List Int}{R:List V->Hp->Prop}(h:R (ns.map V.int) H):vH ns σ H R:=h
def nA(c:TT)(t u:TS):TS:=fun D σ H=>∃R:St->Hp->Prop,(c σ H fun b H1=>if b=true then t { D with nx:=R } σ H1 else u { D with nx:=R } σ H1)/\∀σ' H',R σ' H'->D.nx σ' H'
theorem cL{X:Cx}{c:Expr}{a b:List Stmt}{tc:TT}{t u:TS}{pos:Pos}(hc:PT X c tc)(ha:cE X a t)(hb:cE X b u):PS X (.If c a b pos) (nA tc t u):=by
 intro pins s σ H D I h
 obtain⟨R,h,hR⟩:=h
 refine aw (bC hc ha hb pins s σ H { D with nx:=R } I h) fun f s1 q=>?_
 cases f with
 | next=>
  obtain⟨σ',H',I',q⟩:=q
  exact⟨σ',H',I',hR σ' H' q⟩
 | ret v=>exact q
 | brk=>exact q
 | cont=>exact q
def xw(K:Eo):V->Hp->(It->Hp->Prop)->Prop:=fun x H R=>∃a,x=.ref a/\(∃xs,ag K H a xs)/\R (dI K a) H
def uN(K:Eo):V->Hp->(It->Hp->Prop)->Prop:=fun x H R=>∃a,x=.ref a/\(∃xs,ah K H a xs)/\R (cB K a) H
def qH:List V->Hp->(It->Hp->Prop)->Prop:=fun vs H R=>∃j:Int,vs=[.int j]/\-(2 ^ 62)<=j/\j<2 ^ 62/\R (du 0 j.toNat) H
def sv:List V->Hp->(It->Hp->Prop)->Prop:=fun vs H R=>∃i j:Int,vs=[.int i,.int j]/\(-(2 ^ 62)<=i/\i<2 ^ 62/\-(2 ^ 62)<=j/\j<2 ^ 62)/\R (du i (j-i).toNat) H
def jc(J:It)(g:TG)(tb:TS)(D:Ends)(σ:St)(H:Hp):Prop:=∃W:Nat->Nat->St->Hp->Prop,(∃m,W 0 m σ H)/\∀i m σ H,W i m σ H →
 (J.stop i H/\D.nx σ H)\/(J.go i H/\∃N:St->Hp->Prop,(∀σ' H',N σ' H'->∃m',m'<m/\W (i+1) m' σ' H')/\∀x H',J.yld i H x H'->g x σ H' fun σ2 H2=>tb { D with nx:=N,ct:=N,bk:=D.nx } σ2 H2)
theorem forL{K:Eo}{a:Addr}{xs:List V}{g:TG}{tb:TS}{D:Ends}{σ:St}{H:Hp}(Pv:Nat->St->Hp->Prop)(h0:Pv 0 σ H)(hl:∀i σ H,i<=xs.length->Pv i σ H->ag K H a xs)
  (hs:∀i x σ H,xs[i]?=some x->Pv i σ H->g x σ H fun σ2 H2=>tb ⟨Pv (i+1),D.rt,D.nx,Pv (i+1)⟩ σ2 H2) (hd:∀σ H,Pv xs.length σ H->D.nx σ H):jc (dI K a) g tb D σ H:=yP Pv h0 hl hs hd
theorem vT{K:Eo}{a:Addr}{xs:List V}{g:TG}{tb:TS}{D:Ends}{σ:St}{H:Hp}(Pv:Nat->St->Hp->Prop)(h0:Pv 0 σ H)(hl:∀i σ H,i<=xs.length->Pv i σ H->ah K H a xs)
  (hs:∀i x σ H,xs[i]?=some x->Pv i σ H->g x σ H fun σ2 H2=>tb ⟨Pv (i+1),D.rt,D.nx,Pv (i+1)⟩ σ2 H2) (hd:∀σ H,Pv xs.length σ H->D.nx σ H):jc (cB K a) g tb D σ H:=CS Pv h0 hl hs hd
theorem forR{lo:Int}{n:Nat}{g:TG}{tb:TS}{D:Ends}{σ:St}{H:Hp}(Pv:Nat->St->Hp->Prop)(h0:Pv 0 σ H)
  (hs:∀i σ H,i<n->Pv i σ H->g (.int (lo+i)) σ H fun σ2 H2=>tb ⟨Pv (i+1),D.rt,D.nx,Pv (i+1)⟩ σ2 H2) (hd:∀σ H,Pv n σ H->D.nx σ H):jc (du lo n) g tb D σ H:=yX Pv h0 hs hd
def fb(H:Hp)(o:HO)(R:VK):Prop:=∀p,H p=none->R (.ref p) (upd H p o)
section
variable {K:Eo} {D:Ends} {σ:St} {H:Hp} {Q:VK} {ta tb tc te:TE} {t u:TS} {c c':TT}
theorem rd_seq(h:t ⟨u D,D.rt,D.bk,D.ct⟩ σ H):qZ t u D σ H:=h
theorem rd_next(h:D.nx σ H):qI D σ H:=h
theorem rd_ret(h:te σ H D.rt):rY te D σ H:=h
theorem rd_asg{g:TG}(h:te σ H fun x H1=>g x σ H1 D.nx):lT te g D σ H:=h
theorem rd_drop(h:te σ H fun _ H1=>D.nx σ H1):wI te D σ H:=h
theorem rd_ifS(h:c σ H fun b H1=>if b=true then t D σ H1 else u D σ H1):u9 c t u D σ H:=h
theorem gF(R:St->Hp->Prop)(h:c σ H fun b H1=>if b=true then t ⟨R,D.rt,D.bk,D.ct⟩ σ H1 else u ⟨R,D.rt,D.bk,D.ct⟩ σ H1)(k:∀σ' H',R σ' H'->D.nx σ' H'):nA c t u D σ H:=⟨R,h,k⟩
theorem bZ(h:c σ H fun b H1=>if b=true then t D σ H1 else u D σ H1):nA c t u D σ H:=⟨D.nx,h,fun _ _ h=>h⟩
theorem rd_name{i:Nat}{v:V}{R:St->Hp->Prop}(h:R (σ.set i (some v)) H):iJ i v σ H R:=h
theorem rd_var{i:Nat}{v:V}(e:σ[i]?=some (some v))(h:Q v H):mF i σ H Q:=⟨v,e,h⟩
theorem rd_c{v:V}(h:Q v H):tC v σ H Q:=h
theorem rd_op{r:R2}(h:ta σ H fun x H1=>tb σ H1 fun y H2=>r x y H2 Q):hG r ta tb σ H Q:=h
theorem rd_un{r:V->Hp->VK->Prop}(h:ta σ H fun x H1=>r x H1 Q):u5 r ta σ H Q:=h
theorem rd_CB{r:List V->Hp->VK->Prop}{a:TA}(h:a σ H fun vs H1=>r vs H1 Q):kQ r a σ H Q:=h
theorem rd_cons{a:TA}{R:List V->Hp->Prop}(h:ta σ H fun x H1=>a σ H1 fun xs H2=>R (x::xs) H2):mX ta a σ H R:=h
theorem rd_nil{R:List V->Hp->Prop}(h:R [] H):oM σ H R:=h
theorem rd_test{R:Bool->Hp->Prop}(h:te σ H fun x H'=>∃k,x=.bl k/\R k H'):ve te σ H R:=h
theorem rd_B{R:Bool->Hp->Prop}(h:te σ H fun x H'=>∃k,x=.bl k/\R k H'):tB te σ H R:=h
theorem rd_exb{b:Bool}{R:Bool->Prop}(h:R b):∃k,V.bl b=V.bl k/\R k:=⟨b,rfl,h⟩
theorem rd_not{R:Bool->Hp->Prop}(h:c σ H fun b H1=>R (!b) H1):uG c σ H R:=h
theorem rd_and{R:Bool->Hp->Prop}(h:c σ H fun b H1=>if b=true then c' σ H1 R else R false H1):u4 c c' σ H R:=h
theorem rd_or{R:Bool->Hp->Prop}(h:c σ H fun b H1=>if b=true then R true H1 else c' σ H1 R):xx c c' σ H R:=h
theorem rd_andV(h:ta σ H fun x H1=>∃k,x=.bl k/\if k=true then tb σ H1 Q else Q (.bl false) H1):vv ta tb σ H Q:=h
theorem rd_orV(h:ta σ H fun x H1=>∃k,x=.bl k/\if k=true then Q (.bl true) H1 else tb σ H1 Q):pE ta tb σ H Q:=h
theorem rd_notV(h:ta σ H fun x H1=>∃k,x=.bl k/\Q (.bl (!k)) H1):sD ta σ H Q:=h
theorem rd_yes{R:Bool->Hp->Prop}(h:R true H):p6 σ H R:=h
theorem rd_I0{g:Int->Int->V}{i j:Int}(h:Q (g i j) H):eY g (.int i) (.int j) H Q:=⟨i,j,rfl,rfl,h⟩
theorem rd_I{C:Int->Int->Prop}{g:Int->Int->V}{i j:Int}(hc:C i j)(h:Q (g i j) H):rI C g (.int i) (.int j) H Q:=⟨i,j,rfl,rfl,hc,h⟩
theorem rd_U{g:Int->V}{i:Int}(h:Q (g i) H):rU g (.int i) H Q:=⟨i,rfl,h⟩
theorem rd_EqI{i j:Int}(h:Q (.bl (decide (i=j))) H):lg (.int i) (.int j) H Q:=⟨rfl,by
 have e:decide (V.int i=V.int j)=decide (i=j):=by rw[E8];simp
 rw[e];exact h⟩
theorem rd_NeI{i j:Int}(h:Q (.bl (!decide (i=j))) H):mi (.int i) (.int j) H Q:=⟨rfl,by
 have e:decide (V.int i=V.int j)=decide (i=j):=by rw[E8];simp
 rw[e];exact h⟩
theorem rd_EqB{i j:Bool}(h:Q (.bl (i == j)) H):lg (.bl i) (.bl j) H Q:=⟨rfl,by rw[ph];exact h⟩
theorem aH{p:Addr}{xs:List V}{i:Int}{v:V}(e:ag K H p xs)(a:bq xs i=some v)(h:Q v H):nR K (.ref p) (.int i) H Q:=⟨p,xs,i,v,rfl,rfl,e,a,h⟩
theorem ay{p:Addr}{xs:List V}{i:Int}{v:V}(e:ah K H p xs)(a:bq xs i=some v)(h:Q v H):ni K (.ref p) (.int i) H Q:=⟨p,xs,i,v,rfl,rfl,e,a,h⟩
theorem dn{p:Addr}{xs:List V}(e:ag K H p xs)(h:Q (.int xs.length) H):jU K [.ref p] H Q:=⟨p,xs,rfl,.inl e,h⟩
theorem iN{p:Addr}{xs:List V}(e:ah K H p xs)(h:Q (.int xs.length) H):jU K [.ref p] H Q:=⟨p,xs,rfl,.inr e,h⟩
theorem kH{p:Addr}{xs:List V}(e:ag K H p xs)(h:fb H (.tup xs) Q):oi K [.ref p] H Q:=⟨p,xs,rfl,.inl ⟨e,h⟩⟩
theorem dw{x:V}{n T:String}{b:Bool}(hk:dg H x n)(hb:fC n T=some b)(h:Q (.bl b) H):uf [x,.ty T] H Q:=⟨x,n,T,b,rfl,hk,hb,h⟩
theorem rd_intB{k:Bool}(h:Q (.int (if k then 1 else 0)) H):wM [.bl k] H Q:=.inr ⟨k,rfl,h⟩
theorem rd_max2{i j:Int}(h:Q (.int (if j>i then j else i)) H):uW [.int i,.int j] H Q:=⟨i,j,rfl,h⟩
theorem rd_min2{i j:Int}(h:Q (.int (if j<i then j else i)) H):pU [.int i,.int j] H Q:=⟨i,j,rfl,h⟩
theorem rd_call{sp:Sp}{a:TA}{E:XK}(h:a σ H fun vs H1=>sp (vs++[]) H1 Q E):jL sp [] E a σ H Q:=h
theorem rd_BM{T:String}{r:V->List V->Hp->VK->Prop}{a:TA}(h:te σ H fun x H1=>gL K T x H1/\a σ H1 fun xs H2=>r x xs H2 Q):mC K T r te a σ H Q:=h
theorem rd_tup{a:TA}(h:a σ H fun xs H1=>xs.length<=sizeLine/\fb H1 (.tup xs) Q):ng a σ H Q:=h
theorem rd_lst{a:TA}(h:a σ H fun xs H1=>xs.length<=sizeLine/\fb H1 (.lst xs) Q):we a σ H Q:=h
theorem rd_sl{r:V->Option Int->Option Int->Hp->VK->Prop}{tl th:TO}(h:te σ H fun x H1=>tl σ H1 fun l H2=>th σ H2 fun v H3=>r x l v H3 Q):qh r te tl th σ H Q:=h
theorem rd_noPart{R:Option Int->Hp->Prop}(h:R none H):xh σ H R:=h
theorem rd_part{R:Option Int->Hp->Prop}(h:te σ H fun x H1=>∃i,x=.int i/\R (some i) H1):vG te σ H R:=h
theorem rd_exi{i:Int}{R:Int->Prop}(h:R i):∃k,V.int i=V.int k/\R k:=⟨i,rfl,h⟩
theorem rd_chain{r r':R2}(h:ta σ H fun x H1=>tb σ H1 fun y H2=>r x y H2 fun z H3=>∃k,z=.bl k/\(if k=true then tc σ H3 fun w' H4=>r' y w' H4 Q else Q (.bl false) H3)):vC r r' ta tb tc σ H Q:=h
theorem rd_comp{n:Nat}{js:List Nat}{wi:TI}{g:TG}(h:wi σ H fun J H1=>ia J n js g c te σ H1 Q):pf n js wi g c te σ H Q:=h
theorem rd_iL{R:It->Hp->Prop}(h:te σ H fun x H1=>xw K x H1 R):ny K te σ H R:=h
theorem rd_iT{R:It->Hp->Prop}(h:te σ H fun x H1=>uN K x H1 R):oh K te σ H R:=h
theorem cj{p:Addr}{xs:List V}{R:It->Hp->Prop}(e:ag K H p xs)(h:R (dI K p) H):xw K (.ref p) H R:=⟨p,rfl,⟨xs,e⟩,h⟩
theorem gR{p:Addr}{xs:List V}{R:It->Hp->Prop}(e:ah K H p xs)(h:R (cB K p) H):uN K (.ref p) H R:=⟨p,rfl,⟨xs,e⟩,h⟩
theorem rd_i1{a:TA}{R:It->Hp->Prop}(h:a σ H fun vs H1=>qH vs H1 R):vF a σ H R:=h
theorem cG{j:Int}{R:It->Hp->Prop}(h1:-(2 ^ 62)<=j/\j<2 ^ 62)(h:R (du 0 j.toNat) H):qH [.int j] H R:=⟨j,rfl,h1.1,h1.2,h⟩
theorem rd_i2{a:TA}{R:It->Hp->Prop}(h:a σ H fun vs H1=>sv vs H1 R):pI a σ H R:=h
theorem nI{i j:Int}{R:It->Hp->Prop}(h1:-(2 ^ 62)<=i/\i<2 ^ 62/\-(2 ^ 62)<=j/\j<2 ^ 62)(h:R (du i (j-i).toNat) H):sv [.int i,.int j] H R:=⟨i,j,rfl,h1,h⟩
theorem rd_for{wi:TI}{g:TG}(h:wi σ H fun J H1=>jc J g t D σ H1):pT wi g t D σ H:=h
theorem bN{l:Addr}{xs:List V}{y:V}(e:H l=some (.lst xs))(hz:xs.length<sizeLine)(h:Q .non (upd H l (.lst (xs++[y])))):xD (.ref l) [y] H Q:=⟨l,xs,y,rfl,rfl,e,hz,h⟩
theorem cS{p:Addr}{xs:List V}(e:ag K H p xs):gL K "list" (.ref p) H:=.inl ⟨rfl,xs,e⟩
theorem rd_sub{to ti:TE}{w:jY}{v:V}{R:St->Hp->Prop}(h:to σ H fun o H1=>ti σ H1 fun i H2=>w o i v H2 fun H3=>R σ H3):rP to ti w v σ H R:=h
theorem iV{p:Addr}{xs:List V}{k:Int}{j:Nat}{v:V}{R:Hp->Prop}(e:H p=some (.lst xs))(a:dD xs.length k=some j)(h:R (upd H p (.lst (xs.set j v)))):pY (.ref p) (.int k) v H R:=⟨p,xs,k,j,rfl,rfl,e,a,h⟩
theorem eG{n:Nat}{g:dE}{a:Addr}{xs:List V}{R:St->Hp->Prop}(e:ah K H a xs)(hl:xs.length=n)(h:g xs σ H R):oE K n g (.ref a) σ H R:=⟨a,xs,rfl,e,hl,h⟩
theorem rd_gcons{g:TG}{gs:dE}{v:V}{r:List V}{R:St->Hp->Prop}(h:g v σ H fun σ' H'=>gs r σ' H' R):qY g gs (v::r) σ H R:=⟨v,r,rfl,h⟩
theorem rd_gnil{R:St->Hp->Prop}(h:R σ H):wu [] σ H R:=⟨rfl,h⟩
theorem nL{l b:Addr}{xs zs:List V}(e1:H l=some (.lst xs))(e2:H b=some (.lst zs))(hz:xs.length+zs.length<=sizeLine)(h:fb H (.lst (xs++zs)) Q):pN (.ref l) (.ref b) H Q:=⟨l,b,xs,zs,rfl,rfl,e1,e2,hz,h⟩
theorem oQ{l:Addr}{k:Int}{xs:List V}(e:H l=some (.lst xs))(hk:0<=k/\k<10 ^ 6)(hz:xs.length*k.toNat<=sizeLine)(h:fb H (.lst (List.replicate k.toNat xs).flatten) Q):xK (.ref l) (.int k) H Q:=
 ⟨l,k,xs,rfl,rfl,e,by omega,by omega,hz,h⟩
theorem iY{a:Addr}{xs:List V}{lo hi:Option Int}(e:ag K H a xs)(h:fb H (.lst (cg xs lo hi)) Q):oq K (.ref a) lo hi H Q:=⟨a,xs,rfl,e,h⟩
theorem xN{neg:Bool}{x:V}{p:Addr}{xs:List V}(e:ag K H p xs\/ah K H p xs)(f:eC x=true)(fs:xs.all eC=true)(h:Q (.bl (if neg then !gK x xs else gK x xs)) H):nS K neg x (.ref p) H Q:=⟨p,xs,rfl,e,f,fs,h⟩
theorem aE{o:HO}{R:VK}(h:∀p H',Ext H H'->H' p=some o->H p=none->R (.ref p) H'):fb H o R:=fun p hp=>
 h p _ (fun b u e=>by rw[az (bX e hp)];exact e) aL hp
theorem bx{p:Addr}{o:HO}(hp:H p=none):Ext H (upd H p o):=fun b u e=>by rw[az (bX e hp)];exact e
theorem ag.ext{H':Hp}{p:Addr}{xs:List V}(e:Ext H H')(h:ag K H p xs):ag K H' p xs:=by
 rcases h with(h | ⟨o,h⟩) | h
 ·exact .inl (.inl (e _ _ h))
 ·exact .inl (.inr ⟨o,e _ _ h⟩)
 ·exact .inr h
end
theorem ee{α:Type}{xs:List α}{i:Int}{v:α}(h0:0<=i)(h:xs[i.toNat]?=some v):bq xs i=some v:=by
 have:=dJ h
 rwa [EJ h0]at this
theorem je{n:Nat}{i:Int}(h0:0<=i)(h:i<n):dD n i=some i.toNat:=by unfold dD;rw[if_pos h0,if_pos h]
end L2
namespace L2
open PySem PySem.Spec PyProof.Rows
def dQ:V->PyData->Prop
 | .non,.none=>True
 | .bl b,.bool c=>b=c
 | .int i,.int j=>i=j
 | .str x,.str y=>x=y/\(PyData.str y).canLay0=true
 | _,_=>False
def aW(H:Hp):Nat->V->PyData->Prop
 | 0,x,d=>dQ x d
 | n+1,x,d=>dQ x d\/∃a xs ds,x=.ref a/\((H a=some (.tup xs)/\d=.tuple ds)\/(H a=some (.lst xs)/\d=.list ds))/\Paired (aW H n) xs ds
section
variable {X:Cx} {pins:List (Addr×Obj)} {σ:St} {H:Hp} {s:Shared}
theorem dQ.reads{x:V}{d:PyData}{u:Value}(h:dQ x d)(r:RelV x u):∃as,Reads s.heap u d as:=by
 cases x with
 | non=>cases d<;>first | exact False.elim h | (cases r;exact⟨_,.none⟩)
 | bl b=>cases d<;>first | exact False.elim h | (cases(show b=_ from h);cases r;exact⟨_,.bool _⟩)
 | int i=>cases d<;>first | exact False.elim h | (cases(show i=_ from h);obtain⟨t,rfl⟩:=r;exact⟨_,.int _ t⟩)
 | str z=>cases d<;>first | exact False.elim h | (cases(show z=_/\_ from h).1;obtain⟨t,rfl⟩:=r;exact⟨_,.str _ t⟩)
 | _=>cases d<;>exact False.elim h
theorem dQ.lay{x:V}{d:PyData}(h:dQ x d):d.canLay0=true/\d.depth=0:=by
 cases x<;>cases d<;>first | exact False.elim h | exact ⟨rfl,rfl⟩ | exact ⟨h.2,rfl⟩
theorem nO{R:V->PyData->Prop}(ih:∀{x:V} {d:PyData} {u:Value},R x d->RelV x u->∃as,Reads s.heap u d as):∀{xs:List V} {ds:List PyData} {us:List Value},Paired R xs ds->Vals xs us->∃as,ReadsAll s.heap us ds as
 | _,_,_,.nil,.nil=>⟨_,.nil⟩
 | _,_,_,.cons h t,.cons r rt=>by
  obtain⟨as,ha⟩:=ih h r
  obtain⟨bs,hb⟩:=nO ih t rt
  exact⟨_,.cons ha hb⟩
theorem aW.reads(I:Inv X pins σ H s):∀(n:Nat) {x:V} {d:PyData} {u:Value},aW H n x d->RelV x u->∃as,Reads s.heap u d as
 | 0,_,_,_,h,r=>dQ.reads h r
 | n+1,x,d,u,h,r=>by
  rcases h with h | ⟨a,xs,ds,rfl,hh,hp⟩
  ·exact dQ.reads h r
  ·cases r
   rcases hh with⟨e,rfl⟩ | ⟨e,rfl⟩
   ·obtain⟨its,rv,⟨o,ho,hc,k,hd⟩,_⟩:=I.tuple (ah.of e)
    obtain⟨as,ha⟩:=nO (fun{x d u}=>aW.reads I n) hp rv
    exact⟨_,.tuple ho hc hd (by simpa using ha)⟩
   ·obtain⟨its,k,rv,ho,_⟩:=I.lst e
    obtain⟨as,ha⟩:=nO (fun{x d u}=>aW.reads I n) hp rv
    exact⟨_,.list ho rfl rfl (by simpa using ha)⟩
theorem jb{R:V->PyData->Prop}{m:Nat}(ih:∀{x:V} {d:PyData},R x d->d.canLay0=true/\d.depth<=m):∀{xs:List V} {ds:List PyData},Paired R xs ds->PyData.canLayAll0 ds=true/\PyData.depthAll ds<=m
 | _,_,.nil=>⟨rfl,Nat.zero_le _⟩
 | _,_,.cons h t=>by
  obtain⟨h1,h2⟩:=ih h
  obtain⟨h3,h4⟩:=jb ih t
  refine⟨?_,?_⟩
  ·simp only[PyData.canLayAll0,h1,h3,Bool.and_self]
  ·simp only[PyData.depthAll]
   exact Nat.max_le.mpr ⟨h2,h4⟩
theorem aW.lay:∀(n:Nat) {x:V} {d:PyData},aW H n x d->d.canLay0=true/\d.depth<=n
 | 0,_,_,h=>⟨(dQ.lay h).1,Nat.le_of_eq (dQ.lay h).2⟩
 | n+1,x,d,h=>by
  rcases h with h | ⟨a,xs,ds,rfl,hh,hp⟩
  ·exact⟨(dQ.lay h).1,by rw[(dQ.lay h).2];exact Nat.zero_le _⟩
  ·obtain⟨h1,h2⟩:=jb (fun{x d}=>aW.lay n) hp
   rcases hh with⟨e,rfl⟩ | ⟨e,rfl⟩
   ·exact⟨h1,Nat.succ_le_succ h2⟩
   ·exact⟨h1,Nat.succ_le_succ h2⟩
def wq(neg:Bool):R2:=fun x y H Q=>∃n m d e,aW H n x d/\aW H m y e/\n<=50/\Q (.bl (if neg then !PyData.eqv d e else PyData.eqv d e)) H
theorem El{k:Nat}(hr:Room k X.A):bB X (compareOp .Eq) (wq false):=by
 intro pins s σ H x y v u Q I rx ry h
 obtain⟨n,m,d,e,h1,h2,hn,q⟩:=h
 obtain⟨as,ra⟩:=aW.reads I n h1 rx
 obtain⟨bs,rb⟩:=aW.reads I m h2 ry
 have l1:=aW.lay n h1
 have l2:=aW.lay m h2
 have hu:=hr.units
 have hm:min d.depth e.depth<=50:=E4 (Nat.min_le_left _ _) (E4 l1.2 hn)
 exact SeqAt.compareEq_reads ra rb l1.1 l2.1 (by omega) ⟨.bl _,H,I,rfl,q⟩
theorem v7{k:Nat}(hr:Room k X.A):bB X (compareOp .NotEq) (wq true):=by
 intro pins s σ H x y v u Q I rx ry h
 obtain⟨n,m,d,e,h1,h2,hn,q⟩:=h
 obtain⟨as,ra⟩:=aW.reads I n h1 rx
 obtain⟨bs,rb⟩:=aW.reads I m h2 ry
 have l1:=aW.lay n h1
 have l2:=aW.lay m h2
 have hu:=hr.units
 have hm:min d.depth e.depth<=50:=E4 (Nat.min_le_left _ _) (E4 l1.2 hn)
 exact SeqAt.compareNe_reads ra rb l1.1 l2.1 (by omega) ⟨.bl _,H,I,rfl,q⟩
end
end L2
namespace L2
open PySem PySem.Spec PyProof.Rows
def Dm(K:Eo):List V->Hp->VK->Prop:=fun xs H Q=>∃(p:Addr) (bs:List Bool),xs=[.ref p]/\ag K H p (bs.map V.bl)/\Q (.bl (bs.all id)) H
theorem oY:∀{bs:List Bool} {us:List Value},Vals (bs.map V.bl) us->us=bs.map Value.bool
 | [],_,r=>by cases r;rfl
 | b::bs,_,r=>by
  cases r with
  | cons r t=>cases r;rw[oY t];rfl
theorem all_range(bs:List Bool):((List.range bs.length).all fun i=>bs.getD i false)=bs.all id:=by
 rw[E8,E6,E6]
 constructor
 ·intro h b hb
  obtain⟨i,hi,e⟩:=List.mem_iff_getElem.mp hb
  have:=h i (List.mem_range.mpr hi)
  rw[List.getD_eq_getElem?_getD,Ex hi]at this
  rw[←e]
  exact this
 ·intro h i hi
  have hi':=List.mem_range.mp hi
  rw[List.getD_eq_getElem?_getD,Ex hi']
  exact h _ (EX hi')
theorem hJ{X:Cx}(K:Eo)(hc:X.calm=true)(hK:X.K=K:=by rfl):bS X (.builtin "all") (Dm K):=by
 subst hK
 intro pins s σ H xs us Q I r h
 obtain⟨p,bs,rfl,hq,q⟩:=h
 obtain⟨u,rfl,rx⟩:=vals1 r
 cases rx
 obtain⟨its,rv,pl,hz⟩:=I.list hq
 have eb:=oY rv
 have hne:p≠s.heap.objs.size:=EO (by obtain⟨o,n,e,_⟩:=pl;exact Es e)
 refine call_all_walk (wpAny_pyIter_list pl.isList ?_)
 have I1:Inv X pins σ H { s with heap:=s.heap.push { cls:=.type "list_iterator",data:=.fields #[.ref p,.int 0 0] } }:=I.kept (t':=s.toks) fun b o e=>Ep _ e
 have hf:=I.fpOk (H':=H) (ER s.heap.objs.size) I.fresh
 refine⟨s.heap.objs.size,_,_,_,_,_,(fun i=>bs.getD i false),rfl,Walks.list (A:=X.A.in1) (I.ok.hd hc) _ p hne its.toArray,⟨⟨_,Er _ rfl,rfl,rfl⟩,?_⟩,?_,fun h' tk hk=>?_⟩
 ·exact pl.isList.push _
 ·intro i v s' Q' E' hv hQ
  rw[eb]at hv
  have hv':(bs.map Value.bool)[i]?=some v:=by simpa using hv
  rw[Ey]at hv'
  cases eg:bs[i]? with
  | none=>rw[eg]at hv';cases hv'
  | some b=>
   rw[eg]at hv'
   cases hv'
   have eb':bs.getD i false=b:=by rw[List.getD_eq_getElem?_getD,eg];rfl
   have hQ':Q' (bs.getD i false) s':=hQ
   rw[eb']at hQ'
   exact wpAny_truthy_bool hQ'
 ·obtain⟨f0,f1,f2,f3,f4,f5⟩:=hf
  have hl:=rv.length
  rw[Ew]at hl
  refine⟨.bl (bs.all id),H,I1.turned (it:=s.heap.objs.size) (fun b o hb e=>hk b o (by simpa using hb) e) f0 f1 f3 f4 f5,?_,q⟩
  show Value.bool _=Value.bool _
  rw[EB,←hl,all_range]
end L2
namespace L2
open PySem PySem.Spec PyProof.Rows
def tQ(c:TT)(tb:TS):TS:=fun D σ H=>∃(W:Nat->St->Hp->Prop) (R:St->Hp->Prop),(∃m,W m σ H)/\(∀m σ H,W m σ H →
 c σ H fun b H1=>if b=true then ∃N:St->Hp->Prop,(∀σ' H',N σ' H'->∃m',m'<m/\W m' σ' H')/\tb ⟨N,D.rt,R,N⟩ σ H1 else R σ H1)/\∀σ H,R σ H->D.nx σ H
theorem gH{X:Cx}{pos:Pos}{c:Expr}{body:List Stmt}{tc:TT}{tb:TS}(hp:PassesOwn (model X.prog X.w) X.A X.env X.xe)(hc:PT X c tc)(hb:cE X body tb):PS X (.While c body [] pos) (tQ tc tb):=by
 intro pins s σ H D I h
 obtain⟨W,R,w0,hs,hR⟩:=h
 refine aw (BN hp hc hb pins s σ H { D with nx:=R } I ⟨W,w0,hs⟩) fun f s1 q=>?_
 cases f with
 | next=>
  obtain⟨σ',H',I',q⟩:=q
  exact⟨σ',H',I',hR σ' H' q⟩
 | ret v=>exact q
 | brk=>exact q
 | cont=>exact q
section
variable {D:Ends} {σ:St} {H:Hp} {Q:VK} {te:TE} {t:TS} {c:TT}
theorem gh(W:Nat->St->Hp->Prop)(R:St->Hp->Prop)(m:Nat)(h0:W m σ H)(hs:∀m σ H,W m σ H->c σ H fun b H1=>if b=true then ∃N:St->Hp->Prop,(∀σ' H',N σ' H'->∃m',m'<m/\W m' σ' H')/\t ⟨N,D.rt,R,N⟩ σ H1 else R σ H1)(k:∀σ H,R σ H->D.nx σ H):tQ c t D σ H:=⟨W,R,⟨m,h0⟩,hs,k⟩
theorem rd_aug{i:Nat}{ti:iL}{x:V}(e:σ[i]?=some (some x))(h:te σ H fun y H1=>ti x y H1 fun z H2=>D.nx (σ.set i (some z)) H2):uC i te ti D σ H:=⟨x,e,h⟩
theorem rd_ipI{f:Int->Int->Int}{i j:Int}(h:Q (.int (f i j)) H):nW f (.int i) (.int j) H Q:=⟨i,j,rfl,rfl,h⟩
end
section
variable {prog:Program} {w:World} {A:Around} {E:Value->Shared->Prop} {s:Shared}
theorem qm{it t:Addr}{i:Nat}{ys:Array Value}{x:Value}{Q:Value->Shared->Prop}(gi:s.heap.IsTupleIter it t i)(gt:s.heap.IsTuple t ys)(gx:ys[i]?=some x)
  (q:∀h',h'.IsTupleIter it t (i+1)->Heap.SameBut it s.heap h'->Q x { s with heap:=h' }):wpAny (model prog w) A (Builtin.SmallTypes.nextOf (.ref it)) Q E s:=by
 obtain⟨u,gu,gc,gd⟩:=id gi
 obtain⟨v,gv,_,k,gk⟩:=gt
 unfold Builtin.SmallTypes.nextOf
 refine Em (wpAny_callSpecial?_slot (name:=Str.ofString "__next__") gi.typeIs F.slot_tuple_iterator_next (wpAny_call_entry F.slot_tuple_iterator_next gi.typeIs F.entry_tuple_iterator_next ?_ (F.args_tuple_iterator_next_1 _)))
 show wpAny _ _ (field (Value.ref it) 0 >>= _) _ _ s
 refine Em (wpAny_field gu gd (x:=Value.ref t) rfl ?_)
 show wpAny _ _ (if(Value.ref t == Value.none)=true then _ else _) _ _ s
 rw[if_neg (show ¬(Value.ref t == Value.none)=true from EL)]
 show wpAny _ _ (field (Value.ref it) 1 >>= _) _ _ s
 refine Em (wpAny_field gu gd (x:=Value.int i 0) rfl ?_)
 show wpAny _ _ (seqItems? (Value.ref t) >>= _) _ _ s
 refine Em (wpAny_seqItems gv gk ?_)
 simp only[EI,gx]
 refine Em (wpAny_setField gu gd (by simp) (En ⟨x,rfl,En (q _ ?_ (Heap.SameBut.update ..))⟩))
 exact⟨_,Heap.get?_update_self _ gu (Obj.isFreed_of_fields (Obj.data_mapFields gd _)),(Obj.cls_mapFields ..).trans gc,by rw[Obj.data_mapFields gd];simp[rawInt]⟩
theorem mO{it t:Addr}{i:Nat}{ys:Array Value}{Q:Value->Shared->Prop}(hA:A.handled=none)(gi:s.heap.IsTupleIter it t i)(gt:s.heap.IsTuple t ys)(gx:ys[i]?=none)
  (q:∀h' e,Heap.ExtBut it s.heap h'->(∃o,h'.get? e=some o/\o.cls=.type "StopIteration")->E (.ref e) { s with heap:=h' }):wpAny (model prog w) A (Builtin.SmallTypes.nextOf (.ref it)) Q E s:=by
 obtain⟨u,gu,gc,gd⟩:=id gi
 obtain⟨v,gv,_,k,gk⟩:=gt
 unfold Builtin.SmallTypes.nextOf
 refine Em (wpAny_callSpecial?_slot (name:=Str.ofString "__next__") gi.typeIs F.slot_tuple_iterator_next (wpAny_call_entry F.slot_tuple_iterator_next gi.typeIs F.entry_tuple_iterator_next ?_ (F.args_tuple_iterator_next_1 _)))
 show wpAny _ _ (field (Value.ref it) 0 >>= _) _ _ s
 refine Em (wpAny_field gu gd (x:=Value.ref t) rfl ?_)
 show wpAny _ _ (if(Value.ref t == Value.none)=true then _ else _) _ _ s
 rw[if_neg (show ¬(Value.ref t == Value.none)=true from EL)]
 show wpAny _ _ (field (Value.ref it) 1 >>= _) _ _ s
 refine Em (wpAny_field gu gd (x:=Value.int i 0) rfl ?_)
 show wpAny _ _ (seqItems? (Value.ref t) >>= _) _ _ s
 refine Em (wpAny_seqItems gv gk ?_)
 simp only[EI,gx]
 refine Em (wpAny_rule (Em (wpAny_setField gu gd (by simp) ?_)))
 show wpAny _ _ (newExc (Value.type "StopIteration") [] >>= _) _ _ _
 refine Em ?_
 simp only[newExc,newTuple]
 refine Em (wpAny_newObj_type (hd:=by size_fits) ?_)
 refine Em (m:=firstArgMember _ _) (wpAny_of_eq (a:=Value.none) (by first | rfl | (unfold firstArgMember;rfl)) ?_)
 refine wpAny_newObj_type (hd:=by size_fits) ?_
 simp only[raiseNew]
 refine Em (wpAny_handled ?_)
 first | rw [show Around.handled A.in1=none from hA] | rw [hA]
 refine Em (En (wpAny_throw ?_))
 exact q _ _ (((Heap.SameBut.update ..).extBut.push _).push _) ⟨_,Er _ rfl,rfl⟩
end
structure Sub(P:Program)(w:World)(K:Eo)(J:It)(it:Addr)(tn:Nat->Heap->Prop):Prop where
 obj:∀i h,tn i h->∃o,h.get? it=some o/\∀v,o.data≠.cell v
 keep:∀i h h',tn i h->(∀o,h.get? it=some o->h'.get? it=some o)->tn i h'
 item:∀(X:Cx),X.prog=P->X.w=w->X.K=K->∀(A:Around) (i:Nat) (pins:List (Addr×Obj)) (s:Shared) (σ:St) (H:Hp) (Q:Value->Shared->Prop) (E:Value->Shared->Prop),Inv X pins σ H s->bV X pins H it->tn i s.heap->J.go i H →
  (∀x u h',Inv X pins σ H { s with heap:=h' }->RelV x u->J.yld i H x H->tn (i+1) h'->Heap.SameBut it s.heap h'->Q u { s with heap:=h' })->wpAny (model P w) A (Builtin.SmallTypes.nextOf (.ref it)) Q E s
 done:∀(X:Cx),X.prog=P->X.w=w->X.K=K->∀(A:Around),A.handled=none->∀(i:Nat) (pins:List (Addr×Obj)) (s:Shared) (σ:St) (H:Hp) (Q:Value->Shared->Prop) (E:Value->Shared->Prop),Inv X pins σ H s->bV X pins H it->tn i s.heap->J.stop i H →
  (∀h' e,Heap.ExtBut it s.heap h'->(∃o,h'.get? e=some o/\o.cls=.type "StopIteration")->E (.ref e) { s with heap:=h' })->wpAny (model P w) A (Builtin.SmallTypes.nextOf (.ref it)) Q E s
theorem xk{P:Program}{w:World}{K:Eo}(a it:Addr):Sub P w K (dI K a) it (fun i h=>h.IsListIter it a i) where
 obj:=fun i h st=>by
  obtain⟨o,e,c,d⟩:=st
  exact⟨o,e,fun v z=>by rw[d]at z;cases z⟩
 keep:=fun i h h' st k=>st.at k
 item:=by
  intro X hP hw hK A i pins s σ H Q E I hf st hg hQ
  subst hP hw hK
  obtain⟨xs,x,hq,hx⟩:=hg
  obtain⟨its,rv,p,hz⟩:=I.list hq
  obtain⟨u,hu,ru⟩:=rv.get hx
  obtain⟨f0,f1,f2,f3,f4,f5⟩:=hf
  exact wpAny_nextOf_list_item st p.isList (x:=u) (by simpa using hu) fun h' st' sb=>hQ x u h' (I.turned (t':=s.toks) (it:=it) (fun b o hb e=>(sb.2 b hb).trans e) f0 f1 f3 f4 f5) ru ⟨rfl,fun ys hy=>by rw[I.list_inj hy hq];exact hx⟩ st' sb
 done:=by
  intro X hP hw hK A hA i pins s σ H Q E I hf st hg hE
  subst hP hw hK
  obtain⟨xs,hq,hx⟩:=hg
  obtain⟨its,rv,p,hz⟩:=I.list hq
  have hl:=rv.length
  exact wpAny_nextOf_list_end hA st p.isList (by simp;omega) hE
theorem wa{P:Program}{w:World}{K:Eo}(a it:Addr):Sub P w K (cB K a) it (fun i h=>h.IsTupleIter it a i) where
 obj:=fun i h st=>by
  obtain⟨o,e,c,d⟩:=st
  exact⟨o,e,fun v z=>by rw[d]at z;cases z⟩
 keep:=fun i h h' st k=>st.at k
 item:=by
  intro X hP hw hK A i pins s σ H Q E I hf st hg hQ
  subst hP hw hK
  obtain⟨xs,x,hq,hx⟩:=hg
  obtain⟨its,rv,p,hz⟩:=I.tuple hq
  obtain⟨u,hu,ru⟩:=rv.get hx
  obtain⟨f0,f1,f2,f3,f4,f5⟩:=hf
  exact qm st (show s.heap.IsTuple a its.toArray from p) (x:=u) (by simpa using hu) fun h' st' sb=>hQ x u h' (I.turned (t':=s.toks) (it:=it) (fun b o hb e=>(sb.2 b hb).trans e) f0 f1 f3 f4 f5) ru ⟨rfl,fun ys hy=>by rw[I.tuple_inj hy hq];exact hx⟩ st' sb
 done:=by
  intro X hP hw hK A hA i pins s σ H Q E I hf st hg hE
  subst hP hw hK
  obtain⟨xs,hq,hx⟩:=hg
  obtain⟨its,rv,p,hz⟩:=I.tuple hq
  have hl:=rv.length
  exact mO hA st (show s.heap.IsTuple a its.toArray from p) (by simp;omega) hE
def gM(J1 J2:It):It:=⟨fun i H=>J1.go i H/\J2.go i H,fun i H x H'=>∃p u v,x=.ref p/\H p=none/\H'=upd H p (.tup [u,v])/\J1.yld i H u H/\J2.yld i H v H,fun i H=>J1.stop i H\/(J1.go i H/\J2.stop i H)⟩
structure Apart(z TI TO i1 i2:Addr):Prop where
 a:TI≠z
 b:TO≠z
 c:i1≠z
 d:i2≠z
 e:TI≠TO
 f:TI≠i1
 g:TI≠i2
 h:TO≠i1
 i:TO≠i2
 j:i1≠i2
section
variable {X:Cx} {pins:List (Addr×Obj)} {σ:St} {H:Hp} {s:Shared}
theorem Inv.same{it:Addr}{k h':Heap}(I:Inv X pins σ H { s with heap:=k })(f:bV X pins H it)(b:Heap.ExtBut it k h'):Inv X pins σ H { s with heap:=h' }:=by
 obtain⟨f0,f1,f2,f3,f4,f5⟩:=f
 exact Inv.turned (s:={ s with heap:=k }) (t':=s.toks) (it:=it) I (fun c o hb e=>b c o hb e) f0 f1 f3 f4 f5
theorem zY{J1 J2:It}{z TI TO i1 i2:Addr}{t1 t2:Nat->Heap->Prop}{A:Around}{E:Value->Shared->Prop}{a b:Value}{i:Nat}{Q:Value->Shared->Prop}(S1:Sub X.prog X.w X.K J1 i1 t1)(S2:Sub X.prog X.w X.K J2 i2 t2)(N:Apart z TI TO i1 i2)
  (I:Inv X pins σ H s) (hf:∀b∈[z,TI,TO,i1,i2],bV X pins H b) (gz:IsZip s.heap z TI TO .none) (gI:IsPair s.heap TI (.ref i1) (.ref i2)) (gO:IsPair s.heap TO a b) (g1:t1 i s.heap) (g2:t2 i s.heap) (go1:J1.go i H) (go2:J2.go i H)
  (q:∀x y h',Inv X pins σ (upd H s.heap.objs.size (.tup [x,y])) { s with heap:=h' }->J1.yld i H x H->J2.yld i H y H->IsZip h' z TI TO (rawInt s.heap.objs.size)->IsPair h' TI (.ref i1) (.ref i2)->(∃a b,IsPair h' TO a b)->t1 (i+1) h'->t2 (i+1) h'->Q (.ref s.heap.objs.size) { s with heap:=h' }) :
  wpAny (model X.prog X.w) A (Builtin.«zip.__next__» ⟨[.ref z],[]⟩) (fun fin s'=>∃v,fin=.done (.ret v)/\Q v s') E s:=by
 have fz:=hf z (by simp)
 have fO:=hf TO (by simp)
 have f1:=hf i1 (by simp)
 have f2:=hf i2 (by simp)
 show wpAny _ _ (field (Value.ref z) 2 >>= _) _ _ _
 refine Em (wpAny_field gz rfl (x:=Value.bool false) rfl ?_)
 show wpAny _ _ (field (Value.ref z) 3 >>= _) _ _ _
 refine Em (wpAny_field gz rfl (x:=Value.ref TI) rfl ?_)
 refine Em (wpAny_seqItems gI rfl ?_)
 show wpAny _ _ (Builtin.SmallTypes.ownedTupleIsFree (Value.ref z) >>= _) _ _ _
 refine Em ?_
 unfold Builtin.SmallTypes.ownedTupleIsFree
 refine Em (wpAny_field gz rfl (x:=Value.none) rfl (En ?_))
 simp only[if_true]
 refine Em (wpAny_rule ?_)
 refine Em (wpAny_field gz rfl (x:=Value.ref TO) rfl ?_)
 refine Em (wpAny_setField_rec gz (by simp) fun k1 gz1 b1=>?_)
 replace gz1:IsZip k1 z TI TO .ellipsis:=gz1
 have s1:=b1.1
 replace b1:=b1.extBut
 have I1:Inv X pins σ H { s with heap:=k1 }:=Inv.same (show Inv X pins σ H { s with heap:=s.heap }from I) fz b1
 refine Em ?_
 simp only[List.zipIdx_cons,List.zipIdx_nil,List.forIn_cons,List.forIn_nil]
 refine Em (Em (wpAny_onRaise ?_))
 show wpAny _ _ (Builtin.SmallTypes.nextOf (Value.ref i1) >>= _) _ _ _
 refine Em (S1.item X rfl rfl rfl _ i pins _ σ H _ _ I1 f1 (S1.keep i _ _ g1 fun o e=>b1 _ _ N.c e) go1 fun x ux k2 I2 rx yx t12 b2=>En ?_)
 replace I2:Inv X pins σ H { s with heap:=k2 }:=I2
 have s2:=b2.1
 replace b2:=b2.extBut
 have gO2:IsPair k2 TO a b:=b2 _ _ N.h (b1 _ _ N.b gO)
 refine Em (wpAny_seqItems gO2 rfl ?_)
 refine Em (wpAny_updateSeq_pair gO2 fun k3 gO3 b3=>?_)
 replace gO3:IsPair k3 TO ux b:=gO3
 have s3:=b3.1
 replace b3:=b3.extBut
 have I3:Inv X pins σ H { s with heap:=k3 }:=Inv.same I2 fO b3
 refine Em (wpAny_letGo (En ?_))
 refine Em (Em (wpAny_onRaise ?_))
 show wpAny _ _ (Builtin.SmallTypes.nextOf (Value.ref i2) >>= _) _ _ _
 refine Em (S2.item X rfl rfl rfl _ i pins _ σ H _ _ I3 f2 (S2.keep i _ _ g2 fun o e=>b3 _ _ (Ne.symm N.i) (b2 _ _ (Ne.symm N.j) (b1 _ _ N.d e))) go2 fun y uy k4 I4 ry yy t24 b4=>En ?_)
 replace I4:Inv X pins σ H { s with heap:=k4 }:=I4
 have s4:=b4.1
 replace b4:=b4.extBut
 have gO4:IsPair k4 TO ux b:=b4 _ _ N.i gO3
 refine Em (wpAny_seqItems gO4 rfl ?_)
 refine Em (wpAny_updateSeq_pair gO4 fun k5 gO5 b5=>?_)
 replace gO5:IsPair k5 TO ux uy:=gO5
 have s5:=b5.1
 replace b5:=b5.extBut
 have I5:Inv X pins σ H { s with heap:=k5 }:=Inv.same I4 fO b5
 refine Em (wpAny_letGo (En (En ?_)))
 refine Em (wpAny_seqItems gO5 rfl ?_)
 refine Em (wpAny_newTuple ?_)
 have sz:k5.objs.size=s.heap.objs.size:=by rw[s5,s4,s3,s2,s1]
 have gz5:IsZip k5 z TI TO .ellipsis:=b5 _ _ (Ne.symm N.b) (b4 _ _ (Ne.symm N.d) (b3 _ _ (Ne.symm N.b) (b2 _ _ (Ne.symm N.c) gz1)))
 have gI5:IsPair k5 TI (.ref i1) (.ref i2):=b5 _ _ N.e (b4 _ _ N.g (b3 _ _ N.e (b2 _ _ N.f (b1 _ _ N.a gI))))
 have t15:t1 (i+1) k5:=S1.keep _ _ _ (S1.keep _ _ _ (S1.keep _ _ _ t12 fun o e=>b3 _ _ (Ne.symm N.h) e) fun o e=>b4 _ _ N.j e) fun o e=>b5 _ _ (Ne.symm N.h) e
 have t25:t2 (i+1) k5:=S2.keep _ _ _ t24 fun o e=>b5 _ _ (Ne.symm N.i) e
 have lz:z<k5.objs.size:=Es gz5
 have I6:Inv X pins σ (upd H k5.objs.size (.tup [x,y])) { s with heap:=k5.push { cls:=.type "tuple",data:=.seq #[ux,uy] } }:=
  I5.laid (t':=s.toks) (o:=.tup [x,y]) (fun b ob e=>Ep _ e) (ER _) ⟨by show 2<=sizeLine;decide,[ux,uy],.cons rx (.cons ry .nil),IsTup.new _ _⟩
 have fz6:bV X pins (upd H k5.objs.size (.tup [x,y])) z:=by
  obtain⟨c0,c1,c2,c3,c4,c5⟩:=fz
  exact⟨by rw[az (EO lz)];exact c0,c1,c2,c3,c4,c5⟩
 show wpAny _ _ (Builtin.SmallTypes.ownedTupleHandOut (Value.ref z) (Value.ref k5.objs.size) >>= _) _ _ _
 refine Em ?_
 unfold Builtin.SmallTypes.ownedTupleHandOut
 have gz6:IsZip (k5.push { cls:=.type "tuple",data:=.seq #[ux,uy] }) z TI TO .ellipsis:=Ep _ gz5
 refine Em (wpAny_setField_rec gz6 (by simp) fun k7 gz7 b7=>?_)
 replace gz7:IsZip k7 z TI TO (rawInt k5.objs.size):=gz7
 replace b7:=b7.extBut
 have I7:Inv X pins σ (upd H k5.objs.size (.tup [x,y])) { s with heap:=k7 }:=Inv.same I6 fz6 b7
 refine wpAny_setField_rec gz7 (by simp) fun k8 gz8 b8=>?_
 replace gz8:IsZip k8 z TI TO (rawInt k5.objs.size):=gz8
 replace b8:=b8.extBut
 have I8:Inv X pins σ (upd H k5.objs.size (.tup [x,y])) { s with heap:=k8 }:=Inv.same I7 fz6 b8
 have up:∀b o,b≠z->k5.get? b=some o->k8.get? b=some o:=fun b o ne e=>b8 _ _ ne (b7 _ _ ne (Ep _ e))
 rw[sz]at I8 gz8
 refine En ⟨_,rfl,?_⟩
 show Q (.ref k5.objs.size) _
 rw[sz]
 exact q x y k8 I8 yx yy gz8 (up _ _ N.a gI5) ⟨_,_,up _ _ N.b gO5⟩ (S1.keep _ _ _ t15 fun o e=>up _ o N.c e) (S2.keep _ _ _ t25 fun o e=>up _ o N.d e)
theorem Du{J1 J2:It}{z TI TO i1 i2:Addr}{t1 t2:Nat->Heap->Prop}{A:Around}{E:Value->Shared->Prop}{a b:Value}{i:Nat}{Q:Fin->Shared->Prop}(hA:A.handled=none)(S1:Sub X.prog X.w X.K J1 i1 t1)(S2:Sub X.prog X.w X.K J2 i2 t2)(N:Apart z TI TO i1 i2)
  (I:Inv X pins σ H s) (hf:∀b∈[z,TI,TO,i1,i2],bV X pins H b) (gz:IsZip s.heap z TI TO .none) (gI:IsPair s.heap TI (.ref i1) (.ref i2)) (gO:IsPair s.heap TO a b) (g1:t1 i s.heap) (g2:t2 i s.heap) (st:J1.stop i H\/(J1.go i H/\J2.stop i H))
  (q:∀h' e,Inv X pins σ H { s with heap:=h' }->(∃o,h'.get? e=some o/\o.cls=.type "StopIteration")->E (.ref e) { s with heap:=h' }) :
  wpAny (model X.prog X.w) A (Builtin.«zip.__next__» ⟨[.ref z],[]⟩) Q E s:=by
 have fz:=hf z (by simp)
 have fO:=hf TO (by simp)
 have f1:=hf i1 (by simp)
 have f2:=hf i2 (by simp)
 show wpAny _ _ (field (Value.ref z) 2 >>= _) _ _ _
 refine Em (wpAny_field gz rfl (x:=Value.bool false) rfl ?_)
 show wpAny _ _ (field (Value.ref z) 3 >>= _) _ _ _
 refine Em (wpAny_field gz rfl (x:=Value.ref TI) rfl ?_)
 refine Em (wpAny_seqItems gI rfl ?_)
 show wpAny _ _ (Builtin.SmallTypes.ownedTupleIsFree (Value.ref z) >>= _) _ _ _
 refine Em ?_
 unfold Builtin.SmallTypes.ownedTupleIsFree
 refine Em (wpAny_field gz rfl (x:=Value.none) rfl (En ?_))
 simp only[if_true]
 refine Em (wpAny_rule ?_)
 refine Em (wpAny_field gz rfl (x:=Value.ref TO) rfl ?_)
 refine Em (wpAny_setField_rec gz (by simp) fun k1 gz1 b1=>?_)
 replace gz1:IsZip k1 z TI TO .ellipsis:=gz1
 replace b1:=b1.extBut
 have I1:Inv X pins σ H { s with heap:=k1 }:=Inv.same (show Inv X pins σ H { s with heap:=s.heap }from I) fz b1
 refine Em ?_
 simp only[List.zipIdx_cons,List.zipIdx_nil,List.forIn_cons,List.forIn_nil]
 refine Em (Em (wpAny_onRaise ?_))
 show wpAny _ _ (Builtin.SmallTypes.nextOf (Value.ref i1) >>= _) _ _ _
 have t11:t1 i k1:=S1.keep i _ _ g1 fun o e=>b1 _ _ N.c e
 rcases st with st | ⟨go,st⟩
 ·refine Em (S1.done X rfl rfl rfl _ hA i pins _ σ H _ _ I1 f1 t11 st fun k2 e b2 he=>?_)
  obtain⟨oe,hoe,hce⟩:=he
  have gz2:IsZip k2 z TI TO .ellipsis:=b2 _ _ (Ne.symm N.c) gz1
  have I2:Inv X pins σ H { s with heap:=k2 }:=Inv.same I1 f1 b2
  have ne:e≠z:=fun x=>by subst x;rw[gz2]at hoe;cases hoe;simp at hce
  exact wpAny_setField_rec gz2 (by simp) fun k3 _ b3=>q k3 e (Inv.same I2 fz b3.extBut) ⟨oe,b3.extBut _ _ ne hoe,hce⟩
 ·refine Em (S1.item X rfl rfl rfl _ i pins _ σ H _ _ I1 f1 t11 go fun x ux k2 I2 rx yx t12 b2=>En ?_)
  replace I2:Inv X pins σ H { s with heap:=k2 }:=I2
  replace b2:=b2.extBut
  have gO2:IsPair k2 TO a b:=b2 _ _ N.h (b1 _ _ N.b gO)
  refine Em (wpAny_seqItems gO2 rfl ?_)
  refine Em (wpAny_updateSeq_pair gO2 fun k3 gO3 b3=>?_)
  replace b3:=b3.extBut
  have I3:Inv X pins σ H { s with heap:=k3 }:=Inv.same I2 fO b3
  refine Em (wpAny_letGo (En ?_))
  refine Em (Em (wpAny_onRaise ?_))
  show wpAny _ _ (Builtin.SmallTypes.nextOf (Value.ref i2) >>= _) _ _ _
  refine Em (S2.done X rfl rfl rfl _ hA i pins _ σ H _ _ I3 f2 (S2.keep i _ _ g2 fun o e=>b3 _ _ (Ne.symm N.i) (b2 _ _ (Ne.symm N.j) (b1 _ _ N.d e))) st fun k4 e b4 he=>?_)
  obtain⟨oe,hoe,hce⟩:=he
  have gz4:IsZip k4 z TI TO .ellipsis:=b4 _ _ (Ne.symm N.d) (b3 _ _ (Ne.symm N.b) (b2 _ _ (Ne.symm N.c) gz1))
  have I4:Inv X pins σ H { s with heap:=k4 }:=Inv.same I3 f2 b4
  have ne:e≠z:=fun x=>by subst x;rw[gz4]at hoe;cases hoe;simp at hce
  exact wpAny_setField_rec gz4 (by simp) fun k5 _ b5=>q k5 e (Inv.same I4 fz b5.extBut) ⟨oe,b5.extBut _ _ ne hoe,hce⟩
end
theorem Ap{P:Program}{w:World}{K:Eo}{elts:List Expr}{kk:Nat}{ps:Pos}{J1 J2:It}{z TI TO i1 i2:Addr}{t1 t2:Nat->Heap->Prop}(S1:Sub P w K J1 i1 t1)(S2:Sub P w K J2 i2 t2)(N:Apart z TI TO i1 i2):
  Turn P w K (.Tuple elts kk ps) (gM J1 J2) [z,TI,TO,i1,i2] z (fun i h=>IsZip h z TI TO .none/\IsPair h TI (.ref i1) (.ref i2)/\(∃a b,IsPair h TO a b)/\t1 i h/\t2 i h) where
 mem:=by simp
 obj:=fun i h st b hb=>by
  obtain⟨gz,gI,⟨a,c,gO⟩,g1,g2⟩:=st
  simp only[EK,E5,or_false]at hb
  rcases hb with rfl | rfl | rfl | rfl | rfl
  ·exact⟨_,gz,fun v e=>by cases(show Data.fields _=Data.cell v from e)⟩
  ·exact⟨_,gI,fun v e=>by cases(show Data.seq _ _=Data.cell v from e)⟩
  ·exact⟨_,gO,fun v e=>by cases(show Data.seq _ _=Data.cell v from e)⟩
  ·exact S1.obj _ _ g1
  ·exact S2.obj _ _ g2
 keep:=fun i h h' st k=>by
  obtain⟨gz,gI,⟨a,c,gO⟩,g1,g2⟩:=st
  exact⟨k z (by simp) _ gz,k TI (by simp) _ gI,⟨a,c,k TO (by simp) _ gO⟩,S1.keep _ _ _ g1 fun o e=>k i1 (by simp) o e,S2.keep _ _ _ g2 fun o e=>k i2 (by simp) o e⟩
 item:=by
  intro X hP hw hK hc i pins s σ H E I hf st hg
  subst hP hw hK
  obtain⟨gz,gI,⟨a,c,gO⟩,g1,g2⟩:=st
  have gT:s.TypeIs (.ref z) "zip":=⟨_,gz,rfl⟩
  unfold pyNext
  refine Em (wpAny_attempt (wpAny_callSpecial?_slot (name:=Str.ofString "__next__") gT F.slot_zip_next (wpAny_call_entry F.slot_zip_next gT F.entry_zip_next
   (zY S1 S2 N I hf gz gI gO g1 g2 hg.1 hg.2 fun x y h' I' yx yy gz' gI' gO' g1' g2'=>En ⟨_,rfl,?_⟩) (F.args_zip_next_1 _))))
  have lt:∀b∈[z,TI,TO,i1,i2],b≠s.heap.objs.size:=fun b hb=>by
   obtain⟨f0,f1,f2,f3,f4,f5⟩:=hf b hb
   simp only[EK,E5,or_false]at hb
   rcases hb with rfl | rfl | rfl | rfl | rfl
   ·exact EO (Es gz)
   ·exact EO (Es gI)
   ·exact EO (Es gO)
   ·obtain⟨o,e,_⟩:=S1.obj _ _ g1;exact EO (Es e)
   ·obtain⟨o,e,_⟩:=S2.obj _ _ g2;exact EO (Es e)
  have fz:bV X pins (upd H s.heap.objs.size (.tup [x,y])) z:=by
   obtain⟨c0,c1,c2,c3,c4,c5⟩:=hf z (by simp)
   exact⟨by rw[az (lt z (by simp))];exact c0,c1,c2,c3,c4,c5⟩
  obtain⟨a',c',gO'⟩:=gO'
  refine wpAny_letOwnedTupleGo_zip (s:={ s with heap:=h' }) gz' fun k gk bk=>?_
  refine⟨.ref s.heap.objs.size,upd H s.heap.objs.size (.tup [x,y]),Inv.same I' fz bk.extBut,rfl,⟨_,x,y,rfl,I.hok.fresh (ER _),rfl,yx,yy⟩,
   ⟨gk,bk.extBut _ _ N.a gI',⟨_,_,bk.extBut _ _ N.b gO'⟩,S1.keep _ _ _ g1' fun o e=>bk.extBut _ _ N.c e,S2.keep _ _ _ g2' fun o e=>bk.extBut _ _ N.d e⟩,fun b hb=>?_⟩
  rw[az (lt b hb)]
  exact(hf b hb).1
 done:=by
  intro X hP hw hK hc i pins s σ H E I hf st hg
  subst hP hw hK
  obtain⟨gz,gI,⟨a,c,gO⟩,g1,g2⟩:=st
  have gT:s.TypeIs (.ref z) "zip":=⟨_,gz,rfl⟩
  unfold pyNext
  refine Em (wpAny_attempt (wpAny_callSpecial?_slot (name:=Str.ofString "__next__") gT F.slot_zip_next (wpAny_call_entry F.slot_zip_next gT F.entry_zip_next
   (Du (I.ok.hd hc) S1 S2 N I hf gz gI gO g1 g2 hg fun h' e I' he=>?_) (F.args_zip_next_1 _))))
  obtain⟨o,ho,hc'⟩:=he
  refine Em (wpAny_isInstance (s:={ s with heap:=h' }) (T:="StopIteration") (b:=true) ⟨o,ho,hc'⟩ isSubtype_stop ?_)
  exact En ⟨rfl,I'⟩
 self:=fun _ _ _ _ _ st h=>wpAny_pyIter_zip st.1 h
abbrev jZ(h:Heap)(a:Addr):Heap:=h.push { cls:=.type "tuple_iterator",data:=.fields #[.ref a,.int 0 0] }
abbrev kO(h:Heap)(a b:Addr):Heap:=(jZ h a).push { cls:=.type "tuple_iterator",data:=.fields #[.ref b,.int 0 0] }
abbrev kB(h:Heap)(a b:Addr):Heap:=(kO h a b).push { cls:=.type "tuple",data:=.seq #[.ref h.objs.size,.ref (jZ h a).objs.size] }
abbrev jF(h:Heap)(a b:Addr):Heap:=(kB h a b).push { cls:=.type "tuple",data:=.seq #[.none,.none] }
abbrev ij(h:Heap)(a b:Addr):Heap:=(jF h a b).push { cls:=.type "zip",data:=.fields #[.none,.bool false,.bool false,.ref (kO h a b).objs.size,.ref (kB h a b).objs.size] }
theorem Cq(a b:Addr)(xs ys:Array Value):Meets (Builtin.«zip.__new__» ⟨[.type "zip",.ref a,.ref b],[]⟩) (fun _ R s=>s.heap.IsTuple a xs/\s.heap.IsTuple b ys/\R (.ok (.ret (.ref (jF s.heap a b).objs.size))) { s with heap:=ij s.heap a b }):=
 .of_wp fun prog w A R s q=>by
  obtain⟨hp,g,d,tk,os⟩:=s;obtain⟨ga,gb,q⟩:=q
  have hsub:=sub_zip
  have gA:Heap.IsTuple (Shared.heap ⟨hp,g,d,tk,os⟩) a xs:=ga
  have gB:Heap.IsTuple (Shared.heap ⟨hp.push { cls:=.type "tuple_iterator",data:=.fields #[.ref a,.int 0 0] },g,d,tk,os⟩) b ys:=Heap.IsTuple.push gb _
  wp_walk using wpAny_pyIter_tuple gA,wpAny_pyIter_tuple gB
  exact⟨_,rfl,q⟩
theorem Dd{prog:Program}{w:World}{A:Around}{E:Value->Shared->Prop}{s:Shared}{a b:Addr}{xs ys:Array Value}{Q:Value->Shared->Prop}(ga:s.heap.IsTuple a xs)(gb:s.heap.IsTuple b ys)
  (q:∀h',IsZip h' (s.heap.objs.size+4) (s.heap.objs.size+2) (s.heap.objs.size+3) .none->IsPair h' (s.heap.objs.size+2) (.ref s.heap.objs.size) (.ref (s.heap.objs.size+1))->IsPair h' (s.heap.objs.size+3) .none .none →
   h'.IsTupleIter s.heap.objs.size a 0->h'.IsTupleIter (s.heap.objs.size+1) b 0->(∀c o,s.heap.get? c=some o->h'.get? c=some o)->Q (.ref (s.heap.objs.size+4)) { s with heap:=h' }) :
  wpAny (model prog w) A (call (.type "zip") [.ref a,.ref b]) Q E s:=by
 refine callType_new F.called_zip (by decide) (F.typeCall_zip_2 _ _) (F.newCall_zip_2 _ _) (fun ob=>F.args_object_init_3 ob _ _) F.entry_zip_new (Cq a b xs ys) ⟨ga,gb,?_⟩
 have n1:(jZ s.heap a).objs.size=s.heap.objs.size+1:=Heap.size_push ..
 have n2:(kO s.heap a b).objs.size=s.heap.objs.size+2:=by rw[Heap.size_push,n1]
 have n3:(kB s.heap a b).objs.size=s.heap.objs.size+3:=by rw[Heap.size_push,n2]
 have n4:(jF s.heap a b).objs.size=s.heap.objs.size+4:=by rw[Heap.size_push,n3]
 have k5:(ij s.heap a b).get? (jF s.heap a b).objs.size=some _:=Er _ rfl
 have k4:(ij s.heap a b).get? (kB s.heap a b).objs.size=some _:=Ep _ (Er _ rfl)
 have k3:(ij s.heap a b).get? (kO s.heap a b).objs.size=some _:=Ep _ (Ep _ (Er _ rfl))
 have k2:(ij s.heap a b).get? (jZ s.heap a).objs.size=some _:=Ep _ (Ep _ (Ep _ (Er _ rfl)))
 have k1:(ij s.heap a b).get? s.heap.objs.size=some _:=Ep _ (Ep _ (Ep _ (Ep _ (Er _ rfl))))
 show _/\_
 rw[n2,n3,n4]at k5
 rw[n1,n2]at k3
 rw[n3]at k4
 rw[n1]at k2
 rw[n4]
 exact⟨⟨_,k5,rfl⟩,q _ k5 k3 k4 ⟨_,k1,rfl,rfl⟩ ⟨_,k2,rfl,rfl⟩ fun c o x=>Ep _ (Ep _ (Ep _ (Ep _ (Ep _ x))))⟩
section
variable {K:Eo} {σ:St} {H:Hp} {Q:VK}
def oN(K:Eo):List V->Hp->(It->Hp->Prop)->Prop:=fun vs H R=>∃a b xs ys,vs=[.ref a,.ref b]/\((ah K H a xs/\ah K H b ys/\R (gM (cB K a) (cB K b)) H)\/(ag K H a xs/\ag K H b ys/\R (gM (dI K a) (dI K b)) H))
def uq(K:Eo)(ta:TA):TI:=fun σ H R=>ta σ H fun vs H1=>oN K vs H1 R
theorem A9{X:Cx}{elts:List Expr}{kk:Nat}{ps:Pos}(K:Eo){a b:Expr}{ta:TA}{p pos:Pos}(hg:Gl X "zip")(hm:X.mg "zip" = none)(ha:PA X [a,b] ta)(hK:X.K=K:=by rfl)(hs:starEach [a,b] X.env=[(false,eval a X.env),(false,eval b X.env)]:=by rfl)(hs2:starEach [b] X.env=[(false,eval b X.env)]:=by rfl):
  PI X (.Tuple elts kk ps) (.Call (.Name "zip" p) [a,b] [] pos) (uq K ta):=by
 subst hK
 intro pins s σ H R I h
 refine Call_ (ft I hg hm PyProof.Rows.boot_zip (PyProof.Rows.callWith_type1 (aw (ha pos pins s σ H _ I h) fun us s1 ⟨vs,H1,I1,r1,q1⟩=>?_) (by rw[hs,hs2]) (by rw[hs2];rfl)))
 obtain⟨l,m,xs,ys,e,q1⟩:=q1
 subst e
 cases r1 with
 | cons r rr=>
  cases rr with
  | cons r' rr=>
   cases rr
   cases r
   cases r'
   have mk:∀{J1 J2:It} {t1 t2:Nat->Heap->Prop},Sub X.prog X.w X.K J1 s1.heap.objs.size t1->Sub X.prog X.w X.K J2 (s1.heap.objs.size+1) t2->∀h',IsZip h' (s1.heap.objs.size+4) (s1.heap.objs.size+2) (s1.heap.objs.size+3) .none->IsPair h' (s1.heap.objs.size+2) (.ref s1.heap.objs.size) (.ref (s1.heap.objs.size+1)) →
     IsPair h' (s1.heap.objs.size+3) .none .none->t1 0 h'->t2 0 h'->(∀c o,s1.heap.get? c=some o->h'.get? c=some o)->R (gM J1 J2) H1->wpAny (model X.prog X.w) X.A (pyIter (.ref (s1.heap.objs.size+4))) (oR X pins σ (.Tuple elts kk ps) R) X.xe { s1 with heap:=h' }:=by
    intro J1 J2 t1 t2 S1 S2 h' gz gI gO g1 g2 k q
    refine wpAny_pyIter_zip (s:={ s1 with heap:=h' }) gz ?_
    have N:Apart (s1.heap.objs.size+4) (s1.heap.objs.size+2) (s1.heap.objs.size+3) s1.heap.objs.size (s1.heap.objs.size+1):=by
     constructor<;>(intro h;have h':@Eq Nat _ _:=h;omega)
    refine⟨s1.heap.objs.size+4,[s1.heap.objs.size+4,s1.heap.objs.size+2,s1.heap.objs.size+3,s1.heap.objs.size,s1.heap.objs.size+1],_,_,H1,rfl,I1.kept (t':=s1.toks) k,Ap S1 S2 N,⟨gz,gI,⟨_,_,gO⟩,g1,g2⟩,fun b hb=>?_,q⟩
    have le:@LE.le Nat _ s1.heap.objs.size b:=by
     simp only[EK,E5,or_false]at hb
     rcases hb with rfl | rfl | rfl | rfl | rfl
     ·exact Nat.le_add_right _ _
     ·exact Nat.le_add_right _ _
     ·exact Nat.le_add_right _ _
     ·exact ER _
     ·exact Nat.le_add_right _ _
    exact I1.fpOk le (I1.hok.fresh le)
   rcases q1 with⟨ga,gb,q⟩ | ⟨ga,gb,q⟩
   ·obtain⟨its,_,p1,_⟩:=I1.tuple ga
    obtain⟨its2,_,p2,_⟩:=I1.tuple gb
    exact Dd (show s1.heap.IsTuple l its.toArray from p1) (show s1.heap.IsTuple m its2.toArray from p2) fun h' gz gI gO g1 g2 k=>mk (wa l _) (wa m _) h' gz gI gO g1 g2 k q
   ·obtain⟨its,_,p1,_⟩:=I1.list ga
    obtain⟨its2,_,p2,_⟩:=I1.list gb
    exact call_zip_2 p1.isList p2.isList fun h' gz gI gO g1 g2 _ k=>mk (xk l _) (xk m _) h' gz gI gO g1 g2 k q
theorem rd_zip{a:TA}{R:It->Hp->Prop}(h:a σ H fun vs H1=>oN K vs H1 R):uq K a σ H R:=h
theorem zq{a b:Addr}{xs ys:List V}{R:It->Hp->Prop}(ha:ah K H a xs)(hb:ah K H b ys)(h:R (gM (cB K a) (cB K b)) H):oN K [.ref a,.ref b] H R:=⟨a,b,xs,ys,rfl,.inl ⟨ha,hb,h⟩⟩
theorem yC{a b:Addr}{xs ys:List V}{n:Nat}{js:List Nat}{g:TG}{tc:TT}{te:TE}(Pv:Nat->List V->Hp->Prop)(hz:xs.length<=sizeLine)(h0:Pv 0 [] H)(hl:∀i zs H,Pv i zs H->ah K H a xs/\ah K H b ys/\zs.length<=i)
  (hs:∀i u v zs H p H',xs[i]?=some u->ys[i]?=some v->Pv i zs H->Ext H H'->H' p=some (.tup [u,v])->H p=none->g (.ref p) (de n js σ) H' fun σ2 H3=>tc σ2 H3 fun b H4=>if b=true then te σ2 H4 fun v H5=>Pv (i+1) (zs++[v]) H5 else Pv (i+1) zs H4)
  (hd:∀zs H p,Pv (min xs.length ys.length) zs H->H p=none->Q (.ref p) (upd H p (.lst zs))):ia (gM (cB K a) (cB K b)) n js g tc te σ H Q:=by
 refine⟨fun i m zs H=>m=min xs.length ys.length-i/\i<=min xs.length ys.length/\Pv i zs H,⟨min xs.length ys.length,by simp,Nat.zero_le _,h0⟩,?_⟩
 rintro i m zs H ⟨rfl,hi,p⟩
 obtain⟨qa,qb,ql⟩:=hl i zs H p
 by_cases hlt:i<min xs.length ys.length
 ·have hx:i<xs.length:=by omega
  have hy:i<ys.length:=by omega
  refine .inr ⟨⟨⟨xs,xs[i],qa,by simp[hx]⟩,⟨ys,ys[i],qb,by simp[hy]⟩⟩,by omega,Pv (i+1),fun zs' H' p'=>⟨min xs.length ys.length-(i+1),by omega,rfl,hlt,p'⟩,fun x H' y=>?_⟩
  obtain⟨pp,u,v,rfl,hn,rfl,yu,yv⟩:=y
  exact hs i u v zs H pp _ (yu.2 xs qa) (yv.2 ys qb) p (bx hn) aL hn
 ·have e:i=min xs.length ys.length:=by omega
  refine .inl ⟨?_,fun p' hp=>hd zs H p' (e ▸ p) hp⟩
  by_cases h:xs.length<=i
  ·exact .inl ⟨xs,qa,h⟩
  ·exact .inr ⟨⟨xs,xs[i]'(by omega),qa,Ex (by omega)⟩,⟨ys,qb,by omega⟩⟩
end
theorem zT{prog:Program}{w:World}{A:Around}{E:Value->Shared->Prop}{s:Shared}{t sl:Addr}{ys:Array Value}{vl vu:Value}{lo hi:Option Int}{Q:Value->Shared->Prop}(gt:IsTup s.heap t ys)(gs:s.heap.IsSliceOf sl vl vu .none)(pl:IsPart vl lo)(pu:IsPart vu hi)
  (gw:HT.aN ys.size 0 lo=0/\HT.aN ys.size ys.size hi=ys.size) (q:Q (.ref t) s):wpAny (model prog w) A (getItem (.ref t) (.ref sl)) Q E s:=by
 obtain⟨u,gu,gc,gd⟩:=id gs
 have gT:s.TypeIs (.ref sl) "slice":=⟨u,gu,gc⟩
 unfold getItem
 try with_reducible refine wpAny_holding ?_
 first | refine Em (En ?_) | skip
 refine Em (wpAny_sequenceKey gt.typeIs (by decide) ?_)
 refine Em (wpAny_callSpecial?_slot (name:=Str.ofString "__getitem__") gt.typeIs PyProof.Rows.slot_tuple_getitem (wpAny_call_entry PyProof.Rows.slot_tuple_getitem gt.typeIs entry_tuple_getitem ?_ (args_tuple_getitem _ _)))
 show wpAny _ _ (Builtin.Tuple.tupleItemsOf (Value.ref t) >>= _) _ _ s
 refine Em (tupleItemsOf_ gt ?_)
 refine Em (wpAny_typeOf gT ?_)
 rw[if_pos (by decide)]
 refine Em (HT.pO gs pl pu ?_)
 show wpAny _ _ (if(((HT.aN ys.size 0 lo:Nat):Int) == 0 && (1:Int) == 1 && (HT.aN ys.size ys.size hi-HT.aN ys.size 0 lo) == ys.size)=true then _ else _) _ _ s
 rw[if_pos (by rw[gw.1,gw.2];simp)]
 show wpAny _ _ (Builtin.Tuple.tupleIsExact (Value.ref t) >>= _) _ _ s
 unfold Builtin.Tuple.tupleIsExact
 refine Em (Em (wpAny_typeOf gt.typeIs (En ?_)))
 rw[if_pos (by decide)]
 refine Em (wpAny_rule ?_)
 exact En ⟨_,rfl,En q⟩
def xt:V->Option Int->Option Int->Hp->VK->Prop:=fun x lo hi H Q=>∃a xs,x=.ref a/\H a=some (.tup xs)/\∀p H',Ext H H'->H' p=some (.tup (cg xs lo hi))->Q (.ref p) H'
theorem BY{X:Cx}:jq X xt:=by
 intro pins s σ H x v vl vu lo hi sl Q I rx hs pl pu h
 obtain⟨a,xs,rfl,hx,q⟩:=h
 by_cases gw:HT.aN xs.length 0 lo=0/\HT.aN xs.length xs.length hi=xs.length
 ·cases rx
  obtain⟨its,r,ht,hz⟩:=I.tuple (ah.of hx)
  have hlen:its.toArray.size=xs.length:=by rw[EB];exact r.length.symm
  refine⟨"tuple",_,PyProof.Rows.slot_tuple_getitem.lookup,ht.typeIs,?_⟩
  refine zT ht hs pl pu (by rw[hlen];exact gw) ⟨.ref a,H,I,rfl,q a H (Ext.rfl' H) ?_⟩
  have:cg xs lo hi=xs:=by
   unfold cg
   rw[gw.1,gw.2,List.drop_zero,Nat.sub_zero,EZ]
  rw[this]
  exact hx
 ·exact zu pins s σ H (.ref a) v vl vu lo hi sl Q I rx hs pl pu ⟨a,xs,rfl,ah.of hx,gw,fun p hp=>q p _ (bx hp) aL⟩
theorem Cp{H:Hp}{Q:VK}{a:Addr}{xs:List V}{lo hi:Option Int}(e:H a=some (.tup xs))(h:∀p H',Ext H H'->H' p=some (.tup (cg xs lo hi))->Q (.ref p) H'):xt (.ref a) lo hi H Q:=⟨a,xs,rfl,e,h⟩
end L2
namespace L2
open PySem PySem.Spec PyProof.Rows
mutual
inductive LitE:Expr->TE->Prop
 | non {j pos}:LitE (.Constant .none j pos) (tC .non)
 | bl {b j pos}:LitE (.Constant (.bool b) j pos) (tC (.bl b))
 | int {i j pos}:LitE (.Constant (.int i) j pos) (tC (.int i))
 | str {x j pos}:LitE (.Constant (.str x) j pos) (tC (.str x))
 | tup {es ta k pos}:LitsE es ta->LitE (.Tuple es k pos) (ng ta)
inductive LitsE:List Expr->TA->Prop
 | nil:LitsE [] oM
 | cons {e te es ta}:LitE e te->LitsE es ta->LitsE (e::es) (mX te ta)
end
end L2
namespace L2
open PySem PySem.Spec PyProof.Rows
def eW(c:Addr)(q:Str):HO:=.ext fun h=>h.CodeRec (.ref c) q
theorem Di{P:Program}{w:World}{H:Hp}{h:Heap}{c:Addr}{q:Str}(r:h.CodeRec (.ref c) q):br P w H h c (eW c q):=by
 refine⟨r,?_,fun h1 h2 r1 k=>?_⟩
 ·obtain⟨c',o,vs,t,e,g,_⟩:=r
  cases e
  exact⟨o,g⟩
 ·obtain⟨c',o,vs,t,e,g,d⟩:=r1
  cases e
  exact⟨c,o,vs,t,rfl,k o g,d⟩
section
variable {X:Cx} {pins:List (Addr×Obj)} {σ:St} {H:Hp} {s:Shared}
end
section
variable {X:Cx} {pins:List (Addr×Obj)} {σ:St} {H:Hp} {s:Shared}
end
end L2
namespace L2
open PySem PySem.Spec PyProof.Rows
structure Tab(K:Eo)(mg:Str->Option Value)(base:Heap)(x:Str)(c T:Addr):Prop where
 tin:PySem.W.tabIn K x=some (c,T)
 hd:PySem.W.CodeHd base c T
 blt:base.BuiltinsAt mg T
 gl:mainGlobals≠T
 kin:K.In base
 ns:base.Ns mainGlobals mg
section
variable {P:Program} {w:World} {K:Eo} {mg:Str->Option Value} {base:Heap}
theorem Ea{x:Str}{c T f:Addr}{o:Obj}{fd:FuncData}(ht:PySem.W.tabIn K x=some (c,T))(KX:K.In base)(G:base.Ns mainGlobals mg)(hm:mg x=some (.ref f))(lk:K.lookup f=some o)(hd:o.data=.func fd):fd.code=.ref c:=by
 unfold PySem.W.tabIn at ht
 split at ht
 ·rename_i f' hf
  have e1:=PySem.W.mg_of KX G hf
  rw[hm]at e1
  cases e1
  split at ht
  ·rename_i hfo
   rw[lk]at hfo
   cases hfo
   cases hd
   split at ht
   ·rename_i c2 hc
    split at ht
    ·split at ht
     ·cases ht;exact hc
     ·cases ht
    ·cases ht
   ·cases ht
  ·cases ht
 ·cases ht
theorem Dfn.okL{x:Str}{st:Stmt}{N ps:List Str}{k:Nat}{sp:Sp}{c T:Addr}(D:Dfn K mg x st ps)(B:Tab K mg base x c T)(S:FnScope N ps (aK st))(len:∀vs H Q E,sp vs H Q E->vs.length=ps.length)
  (hbody:∀(X:Cx) (hX:∃f A outer s H E,X=(fF dy P w K mg base N x (aK st) f (.ref c) A outer s H E).nox/\Room k X.A) (H:Hp) (vs:List V) (Q:VK) (E:XK),sp vs H Q E →
   ∃t,cE X (eI st) t/\t { nx:=fun _ H'=>Q .non H',rt:=Q } (start N vs) H):Cal P w K mg base x (k+1) ps sp:=by
 obtain⟨f,fd,hm,F,hb⟩:=D.ex
 refine⟨f,fd,hm,F.kp,hb,?_⟩
 obtain⟨oc,od,kV,doc,pm,an,cdv,ct,osl,rfl,lk,hcd⟩:=F.ex
 have e:cdv=.ref c:=Ea B.tin B.kin B.ns hm lk rfl
 subst e
 refine tK lk hcd S len fun A outer s H vs Q E hr hsp=>?_
 obtain⟨t,h,q⟩:=hbody _ ⟨f,A,outer,s,H,E,rfl,hr⟩ H vs Q E hsp
 exact⟨t,h.nox,q⟩
end
def vX(tabs:List (Addr×Addr))(H:Hp):Prop:=∀q∈tabs,H q.2=some (.tbl #[])
theorem zG{P:Program}{w:World}{K:Eo}{mg mb:Str->Option Value}{k:Nat}{fa a:Addr}{fd:FuncData}{x:Str}{sp:Sp}{s₁:Shared}{vs:List Value}{ns:List Int}{tabs:List (Addr×Addr)}
  (KX:K.In s₁.heap) (hK:PySem.W.noTabs K=true) (hT:PySem.W.TabsAt tabs s₁.heap) (hns:s₁.heap.Ns mainGlobals mg) (hb:s₁.heap.Ns builtinsNs mb) (hbb:∀x:Str,x≠"__name__"->mb x=bootBuiltins x) (hlim:s₁.heap.NoLimit)
  (hbm:∃bm ob,mg "__builtins__" = some (.ref bm)/\bm≠builtinsNs/\s₁.heap.get? bm=some ob/\ob.cls=.type "module"/\ob.dict=some builtinsNs/\ob.data=.plain) (hg:s₁.gens = #[])
  (ha:s₁.heap.get? a=some { cls:=.type "list",data:=.seq vs.toArray }) (hi:IntsAre vs ns) (hl:ns.length<=sizeLine) (hr:Room k callerA)
  (F:∀base:Heap,K.In base->base.Ns mainGlobals mg->(∀q∈tabs,PySem.W.CodeHd base q.1 q.2/\base.BuiltinsAt mg q.2/\mainGlobals≠q.2)->FnOk P w K mg base dy k fa fd [x] sp) (hbind:∀(s:Shared) (u:Value),BindsTo s fd ⟨[u],[]⟩ [(x,u)])
  (hsp:∀H:Hp,vX tabs H->ag K H a (ns.map V.int)->sp [.ref a] H (fun v _=>v=.bl true) fun _ _ _=>False) :
  codeAny (model P w) callerA (.call (.ref fa) ⟨[.ref a],[]⟩) (fun r s'=>r=.ok (.ret (.bool true))/\OldK s₁.heap s'.heap/\s'.os=s₁.os/\AllBare s'.gens) s₁:=by
 have rv:=uz hi
 have lenV:=hi.length
 have na:∀q∈tabs,a≠q.2:=fun q hq z=>by
  have:=(hT q hq).2
  rw[←z,ha]at this
  cases this
 have noT:∀{b:Addr} {o:Obj},s₁.heap.get? b=some o->o≠PySem.W.tabObj #[]->b∉tabs.map (·.2):=fun{b o} e n hm=>by
  obtain⟨q,hq,rfl⟩:=List.mem_map.mp hm
  have:=(hT q hq).2
  rw[e]at this
  exact n (Option.some.inj this)
 have core:∀H:Hp,vX tabs H->ag K H a (ns.map V.int)->aZ P w H s₁.heap->(∀b,H b≠none->b=a\/b∈tabs.map (·.2))->(H a≠none->K.lookup a=none/\∃o xs,H a=some (.frz o (.lst xs))) →
   codeAny (model P w) callerA (.call (.ref fa) ⟨[.ref a],[]⟩) (fun r s'=>r=.ok (.ret (.bool true))/\OldK s₁.heap s'.heap/\s'.os=s₁.os/\AllBare s'.gens) s₁:=by
  intro H hO hS hok hA hKa
  have free:∀{b:Addr} {o:Obj},s₁.heap.get? b=some o->o≠PySem.W.tabObj #[]->b≠a->H b=none:=fun{b o} e n nb=>by
   cases q:H b with
   | none=>rfl
   | some u=>
    rcases hA b (by rw[q];simp)with z | z
    ·exact absurd z nb
    ·exact absurd z (noT e n)
  have nsK:∀{b:Addr} {m:Str->Option Value},s₁.heap.Ns b m->(eT s₁.heap H).Ns b m:=fun{b m} ⟨o,es,ep,e,d,r⟩=>⟨o,es,ep,j8 e (free e (fun z=>by rw[z]at d;cases d) fun z=>by rw[z,ha]at e;cases e;cases(show Data.seq vs.toArray _=Data.dict es ep from d)),d,r⟩
  have hKb:K.In (eT s₁.heap H):=fun b o e=>j8 (KX b o e) (by
   by_cases z:b=a
   ·subst z
    cases q:H b with
    | none=>rfl
    | some u=>
     have:=(hKa (by rw[q];simp)).1
     rw[this]at e
     cases e
   ·refine free (KX b o e) (fun z2=>?_) z
    have h2:=E6.mp hK (b,o) (PySem.W.mem_of_lookupK e)
    subst z2
    exact absurd (show false=true from h2) EL)
  have hM:Mod K mg (eT s₁.heap H):=⟨hKb,nsK hns,⟨mb,nsK hb,hbb⟩,let ⟨mc,h1,h2⟩:=hlim;⟨mc,nsK h1,h2⟩⟩
  have e0:Env0 P w K mg (eT s₁.heap H) callerA [] s₁ H:=⟨rfl,hM,fun b o e=>DD e,Nat.le_of_eq (Dr _ _),trivial,fun b hb=>absurd (show b∈([]:List Addr)from hb) (by simp),hok,.of_eq hg⟩
  have tabsB:∀q∈tabs,PySem.W.CodeHd (eT s₁.heap H) q.1 q.2/\(eT s₁.heap H).BuiltinsAt mg q.2/\mainGlobals≠q.2:=fun q hq=>by
   refine⟨?_,?_,?_⟩
   ·obtain⟨o,us,file,tf,flags,tg,inF,text,tt,e,hc,r⟩:=(hT q hq).1
    exact⟨o,us,file,tf,flags,tg,inF,text,tt,j8 e (free e (fun z=>by rw[z]at hc;cases hc) fun z=>by rw[z,ha]at e;cases e;simp at hc),hc,r⟩
   ·obtain⟨bm,ob,a1,a2,a3,a4,a5⟩:=hbm
    refine⟨bm,ob,a1,a2,fun z=>?_,fun z=>?_,j8 a3 (free a3 (fun z=>by rw[z]at a4;cases a4) fun z=>by rw[z,ha]at a3;cases a3;simp at a4),a4,a5⟩
    ·obtain⟨o,es,ep,e,d,_⟩:=hns
     rw[←z,a3]at e
     cases e
     rw[a5.2]at d
     cases d
    ·have:=(hT q hq).2
     rw[←z,a3]at this
     cases this
     cases a4
   ·intro z
    obtain⟨o,es,ep,e,d,_⟩:=hns
    have:=(hT q hq).2
    rw[←z,e]at this
    cases this
    cases d
  refine codeAny_mono ((F _ hKb (nsK hns) tabsB).run callerA [] s₁ H ⟨[.ref a],[]⟩ [.ref a] [.ref a] _ _ hr e0 (hbind s₁ (.ref a)) (.cons rfl .nil) (hsp H hO hS)) fun r s' h=>?_
  cases r with
  | error e=>exact False.elim h
  | ok fl=>
   cases fl with
   | next=>exact False.elim h
   | brk=>exact False.elim h
   | cont=>exact False.elim h
   | ret u=>
    obtain⟨v,H',os,bare,un,hok',r',q⟩:=h
    have q':v=.bl true:=q
    subst q'
    obtain rfl:u=Value.bool true:=r'
    have keep:∀b o,s₁.heap.get? b=some o->b∉tabs.map (·.2)->s'.heap.get? b=some o:=fun b o e nt=>by
     cases q:H b with
     | none=>exact un.keep b o e q (by intro z;exact absurd (show b∈([]:List Addr)from z) (by simp)) (by simp)
     | some u=>
      rcases hA b (by rw[q];simp)with z | z
      ·subst z
       obtain⟨_,ob,xs,z⟩:=hKa (by rw[q];simp)
       have z2:=un.frzs b ob _ z
       obtain⟨e1,_⟩:=hok b _ z
       obtain⟨e2,_⟩:=hok' b _ z2
       rw[e]at e1;cases e1
       exact e2
      ·exact absurd z nt
    have grown:∀q∈tabs,∃more,s'.heap.get? q.2=some (PySem.W.tabObj (#[]++more)):=fun q hq=>by
     obtain⟨more,e⟩:=un.tbls q.2 _ (hO q hq)
     exact⟨more,hok' q.2 _ e⟩
    refine⟨rfl,⟨fun b o e=>?_,fun b o e=>?_⟩,os,bare⟩
    ·by_cases hm:b∈tabs.map (·.2)
     ·obtain⟨q,hq,rfl⟩:=List.mem_map.mp hm
      obtain⟨more,g⟩:=grown q hq
      have e2:=(hT q hq).2
      rw[e]at e2
      cases e2
      exact .inr (.inl ⟨((hT q hq).1.tab (hT q hq).2).isCodeTable,rfl,#[],more,rfl,g⟩)
     ·exact .inl (keep b o e hm)
    ·by_cases hm:b∈tabs.map (·.2)
     ·obtain⟨q,hq,rfl⟩:=List.mem_map.mp hm
      obtain⟨more,g⟩:=grown q hq
      exact⟨_,g⟩
     ·exact⟨o,keep b o e hm⟩
 have hTok:∀(H:Hp) b,b∈tabs.map (·.2)->br P w H s₁.heap b (.tbl #[]):=fun H b hm=>by
  obtain⟨q,hq,rfl⟩:=List.mem_map.mp hm
  exact(hT q hq).2
 cases hk:K.lookup a with
 | some o=>
  have e:=KX a o hk
  rw[ha]at e
  cases e
  have at_:∀b,(if b∈tabs.map (·.2)then some (HO.tbl #[])else none)=(none:Option HO)\/b∈tabs.map (·.2):=fun b=>by
   by_cases hb:b∈tabs.map (·.2)
   ·exact .inr hb
   ·exact .inl (if_neg hb)
  have nota:a∉tabs.map (·.2):=fun hm=>by
   obtain⟨q,hq,e⟩:=List.mem_map.mp hm
   exact na q hq e.symm
  refine core (fun b=>if b∈tabs.map (·.2)then some (.tbl #[])else none) (fun q hq=>if_pos (List.mem_map.mpr ⟨q,hq,rfl⟩)) (.inr ⟨_,vs.toArray,_,hk,rfl,rfl,rfl,by rw[EB,lenV];exact hl,by simpa using rv⟩) (fun b u z=>?_) (fun b z=>?_) fun z=>absurd (if_neg nota) z
  ·by_cases hb:b∈tabs.map (·.2)
   ·have z':=(if_pos hb).symm.trans z
    cases z'
    exact hTok _ b hb
   ·have z':=(if_neg hb).symm.trans z
    cases z'
  ·rcases at_ b with h | h
   ·exact absurd h z
   ·exact .inr h
 | none=>
  have nota:a∉tabs.map (·.2):=fun hm=>by
   obtain⟨q,hq,e⟩:=List.mem_map.mp hm
   exact na q hq e.symm
  refine core (fun b=>if b=a then some (.frz { cls:=.type "list",data:=.seq vs.toArray } (.lst (ns.map V.int)))else if b∈tabs.map (·.2)then some (.tbl #[])else none) (fun q hq=>?_) (.inl (.inr ⟨{ cls:=.type "list",data:=.seq vs.toArray },if_pos rfl⟩)) (fun b u z=>?_) (fun b z=>?_) fun _=>⟨hk,_,_,if_pos rfl⟩
  ·show(if q.2=a then _ else _)=_
   rw[if_neg (Ne.symm (na q hq)),if_pos (List.mem_map.mpr ⟨q,hq,rfl⟩)]
  ·by_cases hb:b=a
   ·have z':=(if_pos hb).symm.trans z
    cases z'
    subst hb
    exact⟨ha,by rw[Ew];exact hl,vs,_,rv,ha⟩
   ·have z':=(if_neg hb).symm.trans z
    by_cases hb2:b∈tabs.map (·.2)
    ·have z2:=(if_pos hb2).symm.trans z'
     cases z2
     exact hTok _ b hb2
    ·have z2:=(if_neg hb2).symm.trans z'
     cases z2
  ·by_cases hb:b=a
   ·exact .inl hb
   ·by_cases hb2:b∈tabs.map (·.2)
    ·exact .inr hb2
    ·exact absurd ((if_neg hb).trans (if_neg hb2)) z
theorem Aq{l:PySem.W.OpenLaw}{n k:Nat}{q:Program}{loose:List Str}{XP:(Str->Option Value)->Heap->Prop}{YP:World->Heap->Prop}{d:DefRec}{K:Params->Eo}{sp:World->Sp}{x:Str}(xs:List Str)
  (hn:l.most=some n) (hn2:n<=sizeLine) (hdf:d.params.defaults=[]) (hr:Room k callerA)
  (hY:∀(w:World) (h:Heap),YP w h->(K w.params).In h) (hK:∀w:World,PySem.W.noTabs (K w.params)=true) (hrec:∀y∈xs,((recsOf q).find? (fun e=>e.name == y)).isSome=true) (htab:∀(w:World),∀y∈xs,(PySem.W.tabIn (K w.params) y).isSome=true)
  (F:∀(w:World) (mg:Str->Option Value) (fa:Addr) (h:Heap),(K w.params).In h->h.Ns mainGlobals mg->mg d.name=some (.ref fa) →
   ∃fd:FuncData,(∀(s:Shared) (u:Value),BindsTo s fd ⟨[u],[]⟩ [(x,u)]) ∧
    ∀base:Heap,(K w.params).In base->base.Ns mainGlobals mg->(∀y∈xs,∃c T,Tab (K w.params) mg base y c T)->FnOk l.prog w (K w.params) mg base dy k fa fd [x] (sp w))
  (hsp:∀(w:World) (H:Hp) (a:Addr) (ns:List Int),ns.length<=n->(∀y∈xs,∀c T,PySem.W.tabIn (K w.params) y=some (c,T)->H T=some (.tbl #[]))->ag (K w.params) H a (ns.map V.int)->sp w [.ref a] H (fun v _=>v=.bl true) fun _ _ _=>False) :
  PySem.W.WalkO q loose XP YP l.row.toRowW d [] (fun f vs=>PySem.call f vs):=by
 refine Att.CA hn hdf fun w s₀ s₁ mg mb fa o pm cd doc a vs ns G Y ho hd hcd hmg hobj hints hlen hg=>?_
 have KX:=hY w _ Y
 obtain⟨fd,hb,hF⟩:=F w mg fa _ KX G.T.g hmg
 have hT:PySem.W.TabsAt (xs.filterMap (PySem.W.tabIn (K w.params))) s₁.heap:=fun p hp=>by
  obtain⟨y,hy,e⟩:=List.mem_filterMap.mp hp
  obtain⟨dr,er⟩:=Option.isSome_iff_exists.mp (hrec y hy)
  exact PySem.W.tab_of G.T KX er e
 refine zG KX (hK w) hT G.T.g G.T.b G.T.builtins G.T.nolimit G.T.bmain hg hobj hints (E4 hlen hn2) hr (fun base kb nb tb=>hF base kb nb fun y hy=>?_) hb fun H hO hS=>hsp w H a ns hlen (fun y hy c T e=>hO (c,T) (List.mem_filterMap.mpr ⟨y,hy,e⟩)) hS
 obtain⟨⟨c,T⟩,e⟩:=Option.isSome_iff_exists.mp (htab w y hy)
 obtain⟨h1,h2,h3⟩:=tb (c,T) (List.mem_filterMap.mpr ⟨y,hy,e⟩)
 exact⟨c,T,e,h1,h2,h3,kb,nb⟩
end L2
namespace L2
open PySem PySem.Spec PyProof.Rows
section
variable {prog:Program} {w:World} {A:Around} {E:Value->Shared->Prop}
theorem uc{it l:Addr}{ys:Array Value}(ne:l≠it):∀(n i:Nat) (s:Shared) (Q:List Value->Shared->Prop),s.heap.IsListIter it l i->s.heap.IsList l ys->i+n<=ys.size →
  (∀h',h'.IsListIter it l (i+n)->Heap.SameBut it s.heap h'->Q ((ys.toList.drop i).take n) { s with heap:=h' })->wpAny (model prog w) A (draw (.ref it) n) Q E s
 | 0,i,s,Q,gi,_,_,q=>by
  show wpAny _ _ (pure []) Q E s
  exact En (by simpa using q s.heap gi (Heap.SameBut.refl ..))
 | n+1,i,s,Q,gi,gl,le,q=>by
  have lt:i<ys.size:=by omega
  show wpAny _ _ (pyNext (Value.ref it) >>= _) Q E s
  refine Em (wpAny_pyNext_list_item gi gl (x:=ys[i]) (by simp[lt]) fun k1 g1 b1=>?_)
  refine Em (wpAny_holding (uc ne n (i+1) _ _ g1 (gl.extBut b1.extBut ne) (by omega) fun k2 g2 b2=>En ?_))
  have e:ys.toList.drop i=ys[i]::ys.toList.drop (i+1):=by simp[List.drop_eq_getElem_cons,lt]
  have:=q k2 (by rw[show i+(n+1)=i+1+n by omega];exact g2) (b1.trans b2)
  rw[e,List.take_succ_cons]at this
  exact this
theorem yz{s:Shared}{l:Addr}{ys:Array Value}{Q:List Value->Shared->Prop}(hA:A.handled=none)(gl:s.heap.IsList l ys)
  (q:∀h',Heap.ExtBut s.heap.objs.size s.heap h'->Q ys.toList { s with heap:=h' }):wpAny (model prog w) A (unpackItems (.ref l) ys.size none) Q E s:=by
 have lt:l≠s.heap.objs.size:=by obtain⟨o,e,_⟩:=gl;exact EO (Es e)
 unfold unpackItems
 refine Em ?_
 unfold notIterableAtAll
 refine Em (wpAny_specialOf gl.typeIs slot_list_iter.lookup ?_)
 refine En ?_
 simp only[Bool.false_eq_true,if_false]
 refine Em (wpAny_holding (wpAny_pyIter_list gl ?_))
 refine Em (wpAny_holding (uc lt ys.size 0 _ _ ⟨_,Er _ rfl,rfl,rfl⟩ (gl.push _) (by omega) fun k1 g1 b1=>?_))
 rw[show List.take ys.size (List.drop 0 ys.toList)=ys.toList by rw[List.drop_zero];exact List.take_of_length_le (by simp),if_neg (by simp)]
 refine Em (wpAny_holding (wpAny_pyNext_list_end hA g1 ((gl.push _).extBut b1.extBut lt) (by simp) fun k2 b2=>?_))
 simp only[Option.isSome_none,Bool.false_eq_true,if_false]
 exact En (q k2 fun b o nb e=>b2 b o nb (b1.extBut b o nb (Ep _ e)))
theorem Ai{s:Shared}{env:Env}{es:List Expr}{k:Nat}{pos:Pos}{l:Addr}{ys:Array Value}{Q:Unit->Shared->Prop}(hA:A.handled=none)(gl:s.heap.IsList l ys)(hn:(assignEach es env).length=ys.size)(hst:(assignEach es env).findIdx? (·.1)=none)
  (h:∀h',Heap.ExtBut s.heap.objs.size s.heap h'->wpAny (model prog w) A (assignInOrder ((assignEach es env).map (·.2)) ys.toList) Q E { s with heap:=h' }):wpAny (model prog w) A (assign (.Tuple es k pos) env (.ref l)) Q E s:=by
 rw[arm_assign_Tuple]
 refine Em (wpAny_standAt ?_)
 unfold unpack
 rw[hn,hst]
 exact Em (wpAny_holding (yz hA gl h))
end
section
variable {X:Cx} {pos:Pos}
def pQ(K:Eo)(n:Nat)(t:dE):TG:=fun v σ H Q=>∃a xs,v=.ref a/\ag K H a xs/\xs.length=n/\t xs σ H Q
theorem Br{es:List Expr}{k:Nat}{t:dE}{n:Nat}(K:Eo)(hc:X.calm=true)(h:gQ X es t)(hK:X.K=K:=by rfl)
  (hn:(assignEach es X.env).length=n:=by rfl) (hst:(assignEach es X.env).findIdx? (·.1)=none:=by rfl):PG X (.Tuple es k pos) (pQ K n t):=by
 subst hK
 intro pins s σ H v u Q I r hw
 obtain⟨a,xs,e1,hq,hl,hw⟩:=hw
 subst e1
 cases r
 obtain⟨its,rv,ht,hz⟩:=I.list hq
 refine Ai (I.ok.hd hc) ht.isList (by simp[hn,←hl,rv.length]) hst fun h' hx=>?_
 have I1:Inv X pins σ H { s with heap:=h' }:=I.kept (t':=s.toks) fun b o e=>hx b o (EO (Es e)) e
 exact h pins _ σ H xs _ Q I1 (by simpa using rv) hw
end
theorem DN{K:Eo}{σ:St}{H:Hp}{n:Nat}{g:dE}{a:Addr}{xs:List V}{R:St->Hp->Prop}(e:ag K H a xs)(hl:xs.length=n)(h:g xs σ H R):pQ K n g (.ref a) σ H R:=⟨a,xs,rfl,e,hl,h⟩
theorem rd_par{i j:Nat}{ta:TA}{D:Ends}{σ:St}{H:Hp}(h:ta σ H fun vs H1=>∃v w,vs=[v,w]/\D.nx ((σ.set i (some v)).set j (some w)) H1):vy i j ta D σ H:=h
theorem rd_par2{v w:V}{R:V->V->Prop}(h:R v w):∃a b,[v,w]=[a,b]/\R a b:=⟨v,w,rfl,h⟩
def Et(H H':Hp):Prop:=∀b o,H b=some o->(∀ps,o≠.tbl ps)->H' b=some o
theorem Ext.et{H H':Hp}(e:Ext H H'):Et H H':=fun b o h _=>e b o h
theorem Et.trans{H H1 H2:Hp}(a:Et H H1)(b:Et H1 H2):Et H H2:=fun x o h n=>b x o (a x o h n) n
def dz(K:Eo)(x q:Str)(line col:Nat)(H:Hp):Prop:=∀c T,PySem.W.tabIn K x=some (c,T) →
 H T=some (.tbl #[])\/∃c',H T=some (.tbl #[rawInt line,rawInt col,.ref c'])/\H c'=some (eW c' q)
theorem dz.ext{K:Eo}{x q:Str}{line col:Nat}{H H':Hp}(e:Ext H H')(h:dz K x q line col H):dz K x q line col H':=fun c T ht=>by
 rcases h c T ht with h | ⟨c',h1,h2⟩
 ·exact .inl (e _ _ h)
 ·exact .inr ⟨c',e _ _ h1,e _ _ h2⟩
end L2
namespace L2
open PySem PySem.Spec PyProof.Rows
section
variable {κ:Type} [DecidableEq κ]
def bJ(kvs:List (κ×V))(k:κ):Option V:=(kvs.find? fun kv=>decide (kv.1=k)).map (·.2)
def putK(kvs:List (κ×V))(k:κ)(v:V):List (κ×V):=
 if(kvs.any fun kv=>decide (kv.1=k))=true then kvs.map (fun kv=>if kv.1=k then(kv.1,v)else kv)else kvs++[(k,v)]
theorem jB{p:κ×V}{r:List (κ×V)}{k:κ}(e:p.1=k):bJ (p::r) k=some p.2:=by simp[bJ,List.find?_cons,e]
theorem iE{p:κ×V}{r:List (κ×V)}{k:κ}(e:¬p.1=k):bJ (p::r) k=bJ r k:=by simp[bJ,List.find?_cons,e]
theorem m9(k:κ):∀kvs:List (κ×V),(kvs.any fun kv=>decide (kv.1=k))=(bJ kvs k).isSome
 | []=>rfl
 | p::r=>by
  rw[List.any_cons]
  by_cases e:p.1=k
  ·simp only[jB e,decide_eq_true e,Bool.true_or,Option.isSome_some]
  ·rw[iE e,decide_eq_false e,Bool.false_or];exact m9 k r
theorem pV(kvs:List (κ×V))(k:κ)(v:V):(putK kvs k v).length<=kvs.length+1:=by
 unfold putK
 split
 ·rw[Ew];omega
 ·rw[EN,EY,List.length_nil];omega
theorem uE{kvs:List (κ×V)}{k:κ}(v:V)(h:bJ kvs k=none):putK kvs k v=kvs++[(k,v)]:=by
 unfold putK
 rw[m9,h]
 exact if_neg (by decide)
theorem dR.isSome_eq{o:Option V}{u:Option Value}(r:dR o u):o.isSome=u.isSome:=by
 cases o with
 | none=>cases u with
  | none=>rfl
  | some _=>exact(show False from r).elim
 | some _=>cases u with
  | none=>exact(show False from r).elim
  | some _=>rfl
theorem KV.val{kvs:List (κ×V)}{vs:List (κ×Value)}(r:KV kvs vs)(k:κ):dR (bJ kvs k) (valueAt vs k):=by
 unfold KV at r
 induction r with
 | nil=>exact True.intro
 | @cons p q ps qs h t ih=>
  obtain⟨h1,h2⟩:=h
  by_cases e:p.1=k
  ·have e':q.1=k:=h1.symm.trans e
   have b:valueAt (q::qs) k=some q.2:=by simp[valueAt,List.find?_cons,e']
   rw[jB e,b];exact h2
  ·have e':¬q.1=k:=fun z=>e (h1.trans z)
   have b:valueAt (q::qs) k=valueAt qs k:=by simp[valueAt,List.find?_cons,e']
   rw[iE e,b];exact ih
theorem KV.any{kvs:List (κ×V)}{vs:List (κ×Value)}(r:KV kvs vs)(k:κ):(kvs.any fun kv=>decide (kv.1=k))=vs.any fun kv=>decide (kv.1=k):=by
 unfold KV at r
 induction r with
 | nil=>rfl
 | cons h t ih=>rw[List.any_cons,List.any_cons,ih,h.1]
theorem KV.repl{kvs:List (κ×V)}{vs:List (κ×Value)}(r:KV kvs vs)(k:κ){y:V}{u:Value}(ry:RelV y u):
  KV (kvs.map fun kv=>if kv.1=k then(kv.1,y)else kv) (vs.map fun kv=>if kv.1=k then(kv.1,u)else kv):=by
 unfold KV at r ⊢
 induction r with
 | nil=>exact .nil
 | @cons p q ps qs h t ih=>
  rw[List.map_cons,List.map_cons]
  refine .cons ?_ ih
  obtain⟨h1,h2⟩:=h
  by_cases e:p.1=k
  ·rw[if_pos e,if_pos (h1.symm.trans e)];exact⟨h1,ry⟩
  ·rw[if_neg e,if_neg (fun z=>e (h1.trans z))];exact⟨h1,h2⟩
theorem KV.put{kvs:List (κ×V)}{vs:List (κ×Value)}(r:KV kvs vs)(k:κ){y:V}{u:Value}(ry:RelV y u):KV (putK kvs k y) (stored vs k u):=by
 unfold putK stored
 rw[r.any k]
 by_cases e:(vs.any fun kv=>decide (kv.1=k))=true
 ·rw[if_pos e,if_pos e];exact r.repl k ry
 ·rw[if_neg e,if_neg e];exact Paired.snoc r ⟨rfl,ry⟩
theorem KV.keys{kvs:List (κ×V)}{vs:List (κ×Value)}(r:KV kvs vs):kvs.map (·.1)=vs.map (·.1):=by
 unfold KV at r
 induction r with
 | nil=>rfl
 | cons h t ih=>rw[List.map_cons,List.map_cons,ih,h.1]
theorem KV.length{kvs:List (κ×V)}{vs:List (κ×Value)}(r:KV kvs vs):kvs.length=vs.length:=Paired.length r
end
theorem hZ{P:Program}{w:World}{k:Key}{u:Value}(r:RelV (kV k) u):(aO P w).is k u=true:=by
 cases k with
 | inl i=>obtain⟨t,e⟩:=(show ∃t,u=Value.int i t from r);subst e;exact yn P w i t
 | inr x=>obtain⟨t,e⟩:=(show ∃t,u=Value.str x t from r);subst e;exact mQ P w x t
theorem ml{P:Program}{w:World}:∀{ks:List Key} {us:List Value},Vals (ks.map kV) us->ItemsAre (aO P w) ks us
 | [],_,r=>by rw[List.map_nil]at r;cases r;exact .nil
 | k::ks,_,r=>by
  rw[List.map_cons]at r
  cases r with
  | cons h t=>exact .cons (hZ h) (ml t)
abbrev KT(H:Hp):List (List Key×V)->List (List Key×Addr×Value)->Prop:=Paired fun p q=>p.1=q.1/\H q.2.1=some (.tup (p.1.map kV))/\RelV p.2 q.2.2
theorem KT.val{H:Hp}{kvs:List (List Key×V)}{xs:List (List Key×Addr×Value)}(r:KT H kvs xs)(k:List Key):dR (bJ kvs k) ((atKey xs k).map (·.2)):=by
 induction r with
 | nil=>exact True.intro
 | @cons p q ps qs h t ih=>
  obtain⟨h1,_,h2⟩:=h
  by_cases e:p.1=k
  ·have e':q.1=k:=h1.symm.trans e
   have b:atKey (q::qs) k=some q.2:=by simp[atKey,List.find?_cons,e']
   rw[jB e,b];exact h2
  ·have e':¬q.1=k:=fun z=>e (h1.trans z)
   have b:atKey (q::qs) k=atKey qs k:=by simp[atKey,List.find?_cons,e']
   rw[iE e,b];exact ih
theorem KT.repl{H:Hp}{kvs:List (List Key×V)}{xs:List (List Key×Addr×Value)}(r:KT H kvs xs)(k:List Key){y:V}{u:Value}(ry:RelV y u):
  KT H (kvs.map fun kv=>if kv.1=k then(kv.1,y)else kv) (xs.map (putAt k u)):=by
 induction r with
 | nil=>exact .nil
 | @cons p q ps qs h t ih=>
  rw[List.map_cons,List.map_cons]
  refine .cons ?_ ih
  obtain⟨h1,h2,h3⟩:=h
  unfold putAt
  by_cases e:p.1=k
  ·rw[if_pos e,if_pos (h1.symm.trans e)];exact⟨h1,h2,ry⟩
  ·rw[if_neg e,if_neg (fun z=>e (h1.trans z))];exact⟨h1,h2,h3⟩
theorem KT.put{H:Hp}{kvs:List (List Key×V)}{xs:List (List Key×Addr×Value)}(r:KT H kvs xs)(k:List Key){b:Addr}{y:V}{u:Value}(hb:H b=some (.tup (k.map kV)))(ry:RelV y u):
  KT H (putK kvs k y) (storedH xs k b u):=by
 have e:(kvs.any fun kv=>decide (kv.1=k))=(atKey xs k).isSome:=by
  rw[m9,(r.val k).isSome_eq,Option.isSome_map]
 unfold putK storedH
 rw[e]
 by_cases q:(atKey xs k).isSome=true
 ·rw[if_pos q,if_pos q];exact r.repl k ry
 ·rw[if_neg q,if_neg q];exact Paired.snoc r ⟨rfl,hb,ry⟩
theorem KT.keeps{H H':Hp}{kvs:List (List Key×V)}{xs:List (List Key×Addr×Value)}(r:KT H kvs xs)(ht:∀b ys,H b=some (.tup ys)->H' b=some (.tup ys)):KT H' kvs xs:=
 Paired.mapP r fun _ _ z=>⟨z.1,ht _ _ z.2.1,z.2.2⟩
section
variable {P:Program} {w:World} {H:Hp} {h:Heap} {a:Addr}
theorem wB{u:HO}(ok:aZ P w H h)(e:Rd H a u):br P w H h a u:=e.ok ok
theorem lE{kvs:List (Key×V)}(ok:aZ P w H h)(e:Rd H a (.dK kvs)):kvs.length<=sizeLine/\(a == sysModules)=false/\∃vs,KV kvs vs/\h.DictOf (aO P w) a vs:=
 show br P w H h a (.dK kvs)from wB ok e
theorem BG{kvs:List (Key×V)}(ok:aZ P w H h)(e:H a=some (.dK kvs)):kvs.length<=sizeLine/\(a == sysModules)=false/\∃vs,KV kvs vs/\h.DictOf (aO P w) a vs:=lE ok (.inl e)
theorem i7{ks:List Key}(ok:aZ P w H h)(e:H a=some (.tup (ks.map kV))):(tupleKind (aO P w)).is h ks a:=by
 obtain⟨_,its,r,o,h1,h2,n,h3⟩:=(show br P w H h a (.tup (ks.map kV))from ok a _ e)
 exact⟨o,its.toArray,n,h1,h2,h3,by simpa using ml r⟩
theorem kU{kvs:List (List Key×V)}(ok:aZ P w H h)(e:Rd H a (.dT kvs)):kvs.length<=sizeLine/\(a == sysModules)=false ∧
  ∃xs,KT H kvs xs/\h.DictOfH (tupleKind (aO P w)) a xs:=by
 obtain⟨z,y,xs,r,o,es,ep,h1,h2,h3,h4,h5⟩:=(show br P w H h a (.dT kvs)from wB ok e)
 refine⟨z,y,xs,r,o,es,ep,h1,h2,h3,h4,fun x hx=>?_,h5⟩
 have all:∀{l:List (List Key×V)} {m:List (List Key×Addr×Value)},KT H l m->∀x∈m,(tupleKind (aO P w)).is h x.1 x.2.1:=by
  intro l m q
  induction q with
  | nil=>intro x hx;exact nomatch hx
  | @cons p q ps qs hq t ih=>
   intro x hx
   rcases EK.mp hx with e | hx
   ·subst e
    exact i7 ok (by rw[←hq.1];exact hq.2.1)
   ·exact ih x hx
 exact all r x hx
theorem qV{kvs:List (List Key×V)}(ok:aZ P w H h)(e:H a=some (.dT kvs)):kvs.length<=sizeLine/\(a == sysModules)=false ∧
  ∃xs,KT H kvs xs/\h.DictOfH (tupleKind (aO P w)) a xs:=kU ok (.inl e)
end
def cZ(H:Hp)(a:Addr)(y:V)(r:Option V):Prop:=
 (∃kvs k,Rd H a (.dK kvs)/\y=kV k/\r=bJ kvs k)\/∃kvs k b,Rd H a (.dT kvs)/\y=.ref b/\H b=some (.tup (k.map kV))/\r=bJ kvs k
def f9(H:Hp)(a:Addr)(y v:V)(H':Hp):Prop:=
 (∃kvs k,H a=some (.dK kvs)/\y=kV k/\kvs.length<sizeLine/\H'=upd H a (.dK (putK kvs k v))) ∨
 ∃kvs k b,H a=some (.dT kvs)/\y=.ref b/\H b=some (.tup (k.map kV))/\kvs.length<sizeLine/\H'=upd H a (.dT (putK kvs k v))
theorem cZ.t{H:Hp}{a b:Addr}{kvs:List (List Key×V)}{k:List Key}(e:H a=some (.dT kvs))(eb:H b=some (.tup (k.map kV))):cZ H a (.ref b) (bJ kvs k):=.inr ⟨kvs,k,b,.inl e,rfl,eb,rfl⟩
theorem f9.t{H:Hp}{a b:Addr}{kvs:List (List Key×V)}{k:List Key}{v:V}(e:H a=some (.dT kvs))(eb:H b=some (.tup (k.map kV)))(hl:kvs.length<sizeLine):
  f9 H a (.ref b) v (upd H a (.dT (putK kvs k v))):=.inr ⟨kvs,k,b,e,rfl,eb,hl,rfl⟩
section
variable {X:Cx} {pins:List (Addr×Obj)} {σ:St} {H:Hp} {s:Shared} {a:Addr} {y v:V} {u r:Value} {o:Option V} {A:Around} {E:Value->Shared->Prop}
theorem Inv.big(I:Inv X pins σ H s):sysModules<s.heap.objs.size:=by
 have h:mainGlobals<s.heap.objs.size:=(I.mod.glob.keeps I.bk).lt
 exact Nat.lt_trans (by decide) h
theorem yB{Q:Value->Shared->Prop}(hu:A.units+1<cLine)(I:Inv X pins σ H s)(g:cZ H a y (some v))(ry:RelV y u)(h:∀w' s',Inv X pins σ H s'->RelV v w'->Q w' s'):
  wpAny (model X.prog X.w) A (getItem (.ref a) u) Q E s:=by
 rcases g with⟨kvs,k,e,ey,l⟩ | ⟨kvs,k,b,e,ey,eb,l⟩
 ·subst ey
  obtain⟨z,hd,vs,rel,dd⟩:=lE I.hok e
  obtain⟨w',hw,rw'⟩:=dR.some_of (v:=v) (o:=valueAt vs k) (by rw[l];exact rel.val k)
  exact wpAny_getItem_of (hZ ry) dd.mapOf hw (h w' _ (I.tok _) rw')
 ·subst ey
  cases(show u=Value.ref b from ry)
  obtain⟨z,hd,xs,rel,dd⟩:=kU I.hok e
  obtain⟨w',hw,rw'⟩:=dR.some_of (v:=v) (o:=(atKey xs k).map (·.2)) (by rw[l];exact rel.val k)
  obtain⟨p,hp,hp2⟩:=EH.mp hw
  refine wpAny_getItem_heap (tupleKind_room_in1 hu) (i7 I.hok eb) dd hp ?_
  rw[hp2]
  exact h w' _ (I.tok _) rw'
theorem DW{Q:Value->Shared->Prop}(hu:A.units+1<cLine)(I:Inv X pins σ H s)(g:cZ H a y o)(ry:RelV y u)(h:∀s',Inv X pins σ H s'->Q (.bool (!o.isSome)) s'):
  wpAny (model X.prog X.w) A (compareOp .NotIn u (.ref a)) Q E s:=by
 rcases g with⟨kvs,k,e,ey,l⟩ | ⟨kvs,k,b,e,ey,eb,l⟩
 ·subst ey
  obtain⟨z,hd,vs,rel,dd⟩:=lE I.hok e
  refine wpAny_notIn_of (hZ ry) hd dd.mapOf ?_
  rw[←(rel.val k).isSome_eq,←l]
  exact h _ (I.tok _)
 ·subst ey
  cases(show u=Value.ref b from ry)
  obtain⟨z,hd,xs,rel,dd⟩:=kU I.hok e
  refine wpAny_notIn_heap (tupleKind_room_in1 hu) (i7 I.hok eb) hd dd ?_
  have q:=(rel.val k).isSome_eq
  rw[Option.isSome_map]at q
  rw[←q,←l]
  exact h _ (I.tok _)
theorem nF{h':Heap}{t':Nat}{ob:HO}(I:Inv X pins σ H s)(mu:jj (H a))(hs:Heap.SameBut a s.heap h')(he:∃q,h'.get? a=some q)(new:br X.prog X.w (upd H a ob) h' a ob):
  Inv X pins σ (upd H a ob) { s with heap:=h',toks:=t' }:=
 I.write (x:=a) (e:=a) mu (.inl rfl) (fun b q hb z=>(hs.2 b hb).trans z) he new
theorem yb{P:Program}{w:World}{H':Hp}{h':Heap}{kvs:List (Key×V)}{vs:List (Key×Value)}(z:kvs.length<=sizeLine)(hd:(a == sysModules)=false)(rel:KV kvs vs)(dd:h'.DictOf (aO P w) a vs):
  br P w H' h' a (.dK kvs):=⟨z,hd,vs,rel,dd⟩
theorem yO{H':Hp}{Q:Unit->Shared->Prop}(hu:A.units+1<cLine)(I:Inv X pins σ H s)(g:f9 H a y v H')(ry:RelV y u)(rv:RelV v r)(h:∀s',Inv X pins σ H' s'->Q () s'):
  wpAny (model X.prog X.w) A (setItem (.ref a) u r) Q E s:=by
 rcases g with⟨kvs,k,e,ey,l,eH⟩ | ⟨kvs,k,b,e,ey,eb,l,eH⟩
 ·subst ey eH
  obtain⟨z,hd,vs,rel,dd⟩:=BG I.hok e
  have hz:vs.length<=sizeLine:=by rw[←rel.length];exact z
  have hl:(putK kvs k v).length<=sizeLine:=by have:=pV kvs k v;omega
  refine wpAny_setItem_pairs (hsz:=hz) (hZ ry) dd fun h' dd' hs=>h _ ?_
  have he:∃q,h'.get? a=some q:=let ⟨q,_,_,hq,_⟩:=dd';⟨q,hq⟩
  exact nF I (by rw[e];exact True.intro) hs he (yb hl hd (rel.put k rv) dd')
 ·subst ey eH
  cases(show u=Value.ref b from ry)
  obtain⟨z,hd,xs,rel,dd⟩:=qV I.hok e
  have hz:xs.length<=sizeLine:=by rw[←Paired.length rel];exact z
  have hl:(putK kvs k v).length<=sizeLine:=by have:=pV kvs k v;omega
  refine wpAny_setItem_heap (hsz:=hz) (tupleKind_room_in1 hu) (i7 I.hok eb) dd fun h' dd' hs=>h _ ?_
  obtain⟨q,es,ep,hq,h2,h3,h4,_,h5⟩:=dd'
  refine nF I (by rw[e];exact True.intro) hs ⟨q,hq⟩ ⟨hl,hd,_,(rel.put k eb rv).keeps fun c ys ec=>?_,q,es,ep,hq,h2,h3,h4,h5⟩
  rw[az (cK ec e (fun z=>nomatch z))]
  exact ec
end
section
variable {X:Cx} {pins:List (Addr×Obj)} {σ:St} {H:Hp} {s:Shared} {a:Addr} {kvs:List (Key×V)} {k:Key} {u:Value} {A:Around} {E:Value->Shared->Prop}
end
def my(i:Expr):Prop:=∀ov iv,subscripted i false ov iv=operate [ov,iv] (getItem ov iv)
theorem sC{prog:Program}{w:World}{A:Around}{E:Value->Shared->Prop}{s:Shared}{env:Env}{value slice:Expr}{pos:Pos}{T id:String}{Q:Value->Shared->Prop}
  (hl:typeLookup (.type T) "__getitem__" = pure (some (.builtin id))) (hs:my slice)
  (h:wpAny (model prog w) A (eval value env) (fun o s₁=>wpAny (model prog w) A (eval slice env) (fun i s₂=>s₂.TypeIs o T/\wpAny (model prog w) A (getItem o i) Q E s₂) E s₁) E s) :
  wpAny (model prog w) A (eval (.Subscript value slice pos) env) Q E s:=by
 refine Subscript_ (wpAny_mono h (fun o s₁ h₁=>wpAny_mono h₁ (fun i s₂ h₂=>?_) fun _ _ x=>x) fun _ _ x=>x)
 obtain⟨hT,h₂⟩:=h₂
 unfold subscriptTail
 refine Em ?_
 rw[getitemInPython_of_ne hT.not_modules]
 refine Em (wpAny_specialOf hT hl ?_)
 have fin:wpAny (model prog w) A (subscripted slice false o i) (fun r s₃=>wpAny (model prog w) A (letTemporaryGo value o r >>= fun _=>pure r) Q E s₃) E s₂:=by
  rw[hs o i]
  exact wpAny_operating (wpAny_mono h₂ (fun r s₃ h₃=>Em (wpAny_letTemporaryGo (En h₃))) fun _ _ x=>x)
 first
  | exact En (Em fin)
  | exact Em (En (Em fin))
  | exact Em fin
theorem Bu{X:Cx}{pins:List (Addr×Obj)}{σ:St}{H:Hp}{s:Shared}{a:Addr}{y:V}{o:Option V}(I:Inv X pins σ H s)(g:cZ H a y o):s.TypeIs (.ref a) "dict":=by
 rcases g with⟨kvs,k,e,_,_⟩ | ⟨kvs,k,b,e,_,_,_⟩
 ·obtain⟨_,_,vs,_,dd⟩:=lE I.hok e
  exact dd.typeIs
 ·obtain⟨_,_,xs,_,dd⟩:=kU I.hok e
  exact dd.typeIs
def wO(td ty:TE):TE:=fun σ H Q=>td σ H fun x H1=>ty σ H1 fun y H2=>∃a v,x=.ref a/\cZ H2 a y (some v)/\Q v H2
def uH(ty td:TE):TE:=fun σ H Q=>ty σ H fun y H1=>td σ H1 fun x H2=>∃a o,x=.ref a/\cZ H2 a y o/\Q (.bl (!o.isSome)) H2
def qW(td ty tv:TE):TS:=fun D σ H=>tv σ H fun v H1=>td σ H1 fun x H2=>ty σ H2 fun y H3=>∃a H4,x=.ref a/\f9 H3 a y v H4/\D.nx σ H4
section
variable {X:Cx} {o i e value:Expr} {pos pos' tpos:Pos} {td ty tv:TE}
theorem vR(hu:X.A.units+1<cLine)(ho:PE X o td)(hi:PE X i ty)(hs:my i):PE X (.Subscript o i pos) (wO td ty):=by
 intro pins s σ H Q I h
 refine sC PySem.F.slot_dict_getitem.lookup hs (aw (ho pins s σ H _ I h) fun u s1 ⟨x,H1,I1,rx,q1⟩=>aw (hi pins s1 σ H1 _ I1 q1) fun iv s2 ⟨y,H2,I2,ry,a,v,ex,g,q2⟩=>?_)
 subst ex
 obtain rfl:u=Value.ref a:=rx
 exact⟨Bu I2 g,yB hu I2 g ry fun w' s3 I3 rw'=>⟨v,H2,I3,rw',q2⟩⟩
theorem kN(hu:X.A.units+1<cLine)(hi:PE X i ty)(ho:PE X o td):PC X .NotIn i o (uH ty td):=by
 intro pins s σ H Q I h
 refine aw (hi pins s σ H _ I h) fun iv s1 ⟨y,H1,I1,ry,q1⟩=>aw (ho pins s1 σ H1 _ I1 q1) fun u s2 ⟨x,H2,I2,rx,a,ov,ex,g,q2⟩=>?_
 subst ex
 obtain rfl:u=Value.ref a:=rx
 exact DW hu I2 g ry fun s3 I3=>⟨.bl (!ov.isSome),H2,I3,rfl,q2⟩
theorem wD(hu:X.A.units+1<cLine)(ho:PE X o td)(hi:PE X i ty)(hv:PE X value tv)(hs:swapsWith value (some (.Subscript o i pos')) pos.line X.env=pure false):
  PS X (.Assign [.Subscript o i pos'] value pos) (qW td ty tv):=by
 intro pins s σ H D I h
 refine wpAny_Assign_Subscript (aw (hv pins s σ H _ I h) fun r s1 ⟨v,H1,I1,rv,q1⟩=>aw (ho pins s1 σ H1 _ I1 q1) fun u s2 ⟨x,H2,I2,rx,q2⟩=>aw (hi pins s2 σ H2 _ I2 q2) fun iv s3 ⟨y,H3,I3,ry,a,H4,ex,g,q3⟩=>?_) hs
 subst ex
 obtain rfl:u=Value.ref a:=rx
 exact yO hu I3 g ry rv fun s4 I4=>⟨σ,H4,I4,q3⟩
end
theorem DS{P:Program}{w:World}{H:Hp}(h:Heap)(hb:sysModules<h.objs.size):br P w H (h.push { cls:=.type "dict",data:=.dict #[] }) h.objs.size (.dT []):=
 ⟨Nat.zero_le _,beq_eq_false_iff_ne.mpr (Ne.symm (EO hb)),[],.nil,_,#[],0,Er _ rfl,⟨rfl,rfl,rfl⟩,rfl,rfl,List.nodup_nil⟩
section
variable {X:Cx} {pos:Pos}
end
section
variable {X:Cx} {pins:List (Addr×Obj)} {σ:St} {H:Hp} {s:Shared} {a:Addr} {y d:V} {u r:Value} {o:Option V} {A:Around} {E:Value->Shared->Prop}
end
section
variable {X:Cx} {o e f:Expr} {apos cpos:Pos} {td ty tx:TE}
end
section
variable {X:Cx} {pins:List (Addr×Obj)} {σ:St} {H:Hp} {s:Shared} {a:Addr} {kvs:List (Key×V)} {A:Around} {E:Value->Shared->Prop}
end
section
variable {X:Cx} {pins:List (Addr×Obj)} {σ:St} {H:Hp} {s:Shared} {a:Addr} {y:V} {u:Value} {A:Around} {E:Value->Shared->Prop}
end
end L2
namespace L2
open PySem PySem.Spec PyProof.Rows
section
variable {X:Cx}
end
section
variable {κ:Type} [DecidableEq κ]
end
end L2
namespace L2
open PySem PySem.Spec PyProof.Rows
section
variable {prog:Program} {w:World} {A:Around} {E:Value->Shared->Prop} {s:Shared} {dd:Option Addr}
end
section
variable {M:Model} {A:Around} {E:Value->Shared->Prop} {s:Shared} {dd:Option Addr}
end
end L2
namespace L2
open PySem PySem.Spec PyProof.Rows
section
variable {P:Program} {w:World} {K:Eo} {mg:Str->Option Value} {base:Heap} {N:List Str} {qual:Str} {scope:Scope} {f:Addr} {cd:Value} {A:Around} {outer:List Env} {s₀:Shared} {H₀:Hp} {E:XK}
end
end L2
namespace L2
open PySem PySem.Spec PyProof.Rows
section
variable {prog:Program} {w:World} {A:Around} {E:Value->Shared->Prop} {K:Eo} {x D:Addr} {ox:Obj} {s:Shared}
end
section
variable {X:Cx} {pins:List (Addr×Obj)} {σ:St} {H:Hp} {s:Shared} {x:Addr} {oe:Obj}
end
section
variable {P:Program} {w:World} {K:Eo} {mg:Str->Option Value} {base:Heap} {N:List Str} {qual:Str} {scope:Scope} {f:Addr} {cd:Value} {A:Around} {outer:List Env} {s₀:Shared} {H₀:Hp} {E:XK}
end
section
end
section
variable {P:Program} {w:World} {K:Eo} {mg:Str->Option Value} {base:Heap} {N:List Str} {qual:Str} {scope:Scope} {f:Addr} {cd:Value} {A:Around} {outer:List Env} {s₀:Shared} {H₀:Hp} {E:XK}
end
section
variable {K:Eo} {D:Ends} {σ:St} {H:Hp} {Q:VK} {E:XK} {C x:Addr}
end
section
variable {K:Eo} {D:Ends} {σ:St} {H:Hp} {E:St->XK} {C:Addr} {i:Nat} {t u tb:Ends->(St->XK)->St->Hp->Prop} {ts:Addr->Addr->Option Addr->TS} {c:TT}
end
end L2
namespace Tb
open PySem
def nx(m i:Nat):Nat:=(i*5+1) % (m+1)
def it(m:Nat):Nat->Nat->Nat
 | 0,i=>i
 | n+1,i=>it m n (nx m i)
theorem iz(m:Nat):∀a b i,it m (a+b) i=it m b (it m a i)
 | 0,b,i=>by rw[Nat.zero_add];rfl
 | a+1,b,i=>by rw[Nat.succ_add];exact iz m a b (nx m i)
theorem As(m n i:Nat):it m (n+1) i=nx m (it m n i):=by rw[iz m n 1 i];rfl
def mw(m:Nat):Nat->Nat->List Nat
 | 0,_=>[]
 | n+1,i=>i::mw m n (nx m i)
theorem wU{m:Nat}:∀{n i j:Nat},j∈mw m n i->∃k,k<n/\it m k i=j
 | 0,_,_,h=>by cases h
 | n+1,i,j,h=>by
  rcases EK.mp h with rfl | h
  ·exact⟨0,Nat.succ_pos _,rfl⟩
  ·obtain⟨k,hk,e⟩:=wU h
   exact⟨k+1,Nat.succ_lt_succ hk,e⟩
def good(m:Nat):Bool:=(List.range (m+1)).all (fun j=>(mw m (m+1) 0).contains j) && it m (m+1) 0 == 0
theorem BP:good 7=true:=by decide +kernel
theorem x9:good 31=true:=by decide +kernel
theorem zt:good 127=true:=by decide +kernel
theorem xP:good 511=true:=by decide +kernel
def Full(N:Nat):Prop:=(∀j,j<N->∃k,k<N/\it (N-1) k 0=j)/\it (N-1) N 0=0
theorem kI{m:Nat}(h:good m=true):Full (m+1):=by
 unfold Tb.good at h
 rw[E9,E6]at h
 refine⟨fun j hj=>?_,eq_of_beq h.2⟩
 have h1:=h.1 j (List.mem_range.mpr hj)
 rw[List.contains_iff_mem]at h1
 exact wU h1
def co:Nat->Nat
 | 0=>0
 | n+1=>5*co n+1
theorem wc(m:Nat):∀n i,it m n i % (m+1)=(5 ^ n*i+co n) % (m+1)
 | 0,i=>by simp[it,co]
 | n+1,i=>by
  rw[As]
  unfold nx
  rw[Nat.mod_mod,Nat.add_mod,Nat.mul_mod,wc m n i,←Nat.mul_mod,←Nat.add_mod]
  congr 1
  show(5 ^ n*i+co n)*5+1=5 ^ (n+1)*i+(5*co n+1)
  rw[Nat.pow_succ,Nat.add_mul]
  have:5 ^ n*i*5=5 ^ n*5*i:=by rw[Nat.mul_assoc,Nat.mul_comm i 5,Nat.mul_assoc]
  omega
theorem nT(m:Nat):∀n i,i<=m->it m n i<=m
 | 0,i,h=>h
 | n+1,i,h=>by
  refine nT m n _ ?_
  unfold nx
  have:=Nat.mod_lt (i*5+1) (show 0<m+1 by omega)
  omega
theorem tZ{m n i:Nat}(h:i<=m):it m n i=(5 ^ n*i+co n) % (m+1):=by
 rw[←wc,Nat.mod_eq_of_lt (Nat.lt_succ_of_le (nT m n i h))]
theorem Cw(n:Nat):5 ^ n % 2=1:=by
 induction n with
 | zero=>rfl
 | succ n ih=>rw[Nat.pow_succ,Nat.mul_mod,ih]
theorem uh:∀n,4*co n+1=5 ^ n
 | 0=>rfl
 | n+1=>by
  have:=uh n
  show 4*(5*co n+1)+1=5 ^ (n+1)
  rw[Nat.pow_succ]
  omega
theorem B7{a N:Nat}(h:a % 2=1)(r:Nat):(a*N+r) % (2*N)=(N+r) % (2*N):=by
 obtain⟨c,rfl⟩:∃c,a=2*c+1:=⟨a / 2,by omega⟩
 have:(2*c+1)*N+r=(N+r)+2*N*c:=by
  rw[Nat.add_mul,Nat.one_mul,Nat.mul_assoc,Nat.mul_comm c N,←Nat.mul_assoc]
  omega
 rw[this,Nat.add_mul_mod_self_left]
theorem two{x N:Nat}(h:x<2*N)(hN:0<N):x=x % N\/x=N+x % N:=by
 rcases Nat.lt_or_ge x N with a | a
 ·exact .inl (Nat.mod_eq_of_lt a).symm
 ·refine .inr ?_
  rw[Nat.mod_eq_sub_mod a,Nat.mod_eq_of_lt (by omega)]
  omega
theorem Full.double{N:Nat}(hN:0<N)(h:Full N)(hc:co N % (2*N)=N):Full (2*N):=by
 obtain⟨h1,h2⟩:=h
 have hm:2*N-1+1=2*N:=by omega
 have hm1:N-1+1=N:=by omega
 have val:∀n i,i<=2*N-1->it (2*N-1) n i=(5 ^ n*i+co n) % (2*N):=fun n i hi=>by rw[tZ hi,hm]
 have eN:it (2*N-1) N 0=N:=by rw[val N 0 (by omega),Nat.mul_zero,Nat.zero_add,hc]
 have up:∀k,it (2*N-1) (N+k) 0=(N+it (2*N-1) k 0) % (2*N):=fun k=>by
  rw[iz,eN,val k N (by omega),val k 0 (by omega),Nat.mul_zero,Nat.zero_add,B7 (Cw k)]
  rw[Nat.add_mod_mod]
 refine⟨fun j hj=>?_,?_⟩
 ·obtain⟨k,hk,ek⟩:=h1 (j % N) (Nat.mod_lt _ hN)
  have e1:it (2*N-1) k 0 % N=j % N:=by
   rw[val k 0 (by omega),Nat.mul_zero,Nat.zero_add,Nat.mod_mul_left_mod,←ek,tZ (Nat.zero_le _),hm1,Nat.mul_zero,Nat.zero_add]
  have e2:it (2*N-1) k 0<2*N:=by
   have:=nT (2*N-1) k 0 (Nat.zero_le _)
   omega
  by_cases e:it (2*N-1) k 0=j
  ·exact⟨k,by omega,e⟩
  ·refine⟨N+k,by omega,?_⟩
   rw[up k]
   have t1:=two hj hN
   have t2:=two e2 hN
   rw[e1]at t2
   generalize it (2*N-1) k 0=x at *
   generalize j % N=r at *
   rcases t1 with a | a<;>rcases t2 with b | b
   ·omega
   ·have:N+x=j+2*N:=by omega
    rw[this,Nat.add_mod_right,Nat.mod_eq_of_lt hj]
   ·have:N+x=j:=by omega
    rw[this,Nat.mod_eq_of_lt hj]
   ·omega
 ·rw[show 2*N=N+N by omega,show N+N-1=2*N-1 by omega,up N,eN,show N+N=2*N by omega,Nat.mod_self]
theorem lG{N c:Nat}(h:4*c+1=5 ^ N):co N=c:=by
 have:=uh N
 omega
theorem BM:Full 8:=kI BP
theorem Ac:Full 32:=kI x9
theorem Bj:Full 128:=kI zt
theorem pS:Full 512:=kI xP
theorem zM:co 512 % (2*512)=512:=by rw[lG (c:=(5 ^ 512-1) / 4) (by decide +kernel)];decide +kernel
theorem BH:co 1024 % (2*1024)=1024:=by rw[lG (c:=(5 ^ 1024-1) / 4) (by decide +kernel)];decide +kernel
theorem AU:co 2048 % (2*2048)=2048:=by rw[lG (c:=(5 ^ 2048-1) / 4) (by decide +kernel)];decide +kernel
theorem AK:co 4096 % (2*4096)=4096:=by rw[lG (c:=(5 ^ 4096-1) / 4) (by decide +kernel)];decide +kernel
theorem qL:Full 2048:=Full.double (N:=1024) (by decide) (pS.double (by decide) zM) BH
theorem zO:Full 8192:=Full.double (N:=4096) (by decide) (qL.double (by decide) AU) AK
def Mask(m:Nat):Prop:=m=7\/m=31\/m=127\/m=511\/m=2047\/m=8191
theorem Mask.full{m:Nat}(h:Mask m):Full (m+1):=by
 rcases h with rfl | rfl | rfl | rfl | rfl | rfl
 ·exact BM
 ·exact Ac
 ·exact Bj
 ·exact pS
 ·exact qL
 ·exact zO
theorem uK{m:Nat}(h:Mask m){j:Nat}(hj:j<=m):∃k,k<=m/\it m k 0=j:=by
 obtain⟨k,hk,e⟩:=h.full.1 j (by omega)
 exact⟨k,by omega,e⟩
theorem round0{m:Nat}(h:Mask m):it m (m+1) 0=0:=h.full.2
theorem reach{m:Nat}(h:Mask m){i j:Nat}(hi:i<=m)(hj:j<=m):∃k,k<=m/\it m k i=j:=by
 obtain⟨a,ha,ea⟩:=uK h hi
 obtain⟨b,hb,eb⟩:=uK h hj
 rcases Nat.lt_or_ge b a with hlt | hge
 ·refine⟨m+1-a+b,by omega,?_⟩
  rw[←ea,←iz,show a+(m+1-a+b)=(m+1)+b by omega,iz,round0 h]
  exact eb
 ·refine⟨b-a,by omega,?_⟩
  rw[←ea,←iz,show a+(b-a)=b by omega]
  exact eb
def lp(m:Nat):Nat->Nat×Nat->Nat×Nat
 | 0,s=>s
 | n+1,s=>lp m n (SetTable.leap m s.1 s.2)
theorem m5(m:Nat):∀n s,lp m (n+1) s=SetTable.leap m (lp m n s).1 (lp m n s).2
 | 0,s=>rfl
 | n+1,s=>by
  show lp m (n+1) (SetTable.leap m s.1 s.2)=_
  rw[m5 m n]
  rfl
theorem rh(m:Nat):∀n s,(lp m n s).2=s.2 / 32 ^ n
 | 0,s=>by simp[lp]
 | n+1,s=>by
  rw[m5 m n s]
  show(lp m n s).2 / 32=_
  rw[rh m n s,Nat.div_div_eq_div_mul,Nat.pow_succ]
theorem sS(m:Nat):∀n s,s.1<=m->(lp m n s).1<=m
 | 0,s,h=>h
 | n+1,s,h=>by
  rw[m5 m n s]
  show(_ % (m+1))<=m
  have:=Nat.mod_lt ((lp m n s).1*5+1+(lp m n s).2 / 32) (show 0<m+1 by omega)
  omega
theorem sO(m:Nat):∀n i,(lp m n (i,0)).1=it m n i
 | 0,i=>rfl
 | n+1,i=>by
  show(lp m n (SetTable.leap m i 0)).1=it m n (nx m i)
  have:SetTable.leap m i 0=(nx m i,0):=rfl
  rw[this]
  exact sO m n _
theorem pC(m:Nat):∀a b s,lp m (a+b) s=lp m b (lp m a s)
 | 0,b,s=>by rw[Nat.zero_add];rfl
 | a+1,b,s=>by rw[Nat.succ_add];exact pC m a b _
theorem vf{m:Nat}(h:Mask m){i p j:Nat}(hi:i<=m)(hp:p<2 ^ 64)(hj:j<=m):∃n,n<=m+13/\(lp m n (i,p)).1=j:=by
 have hz:(lp m 13 (i,p)).2=0:=by
  rw[rh]
  exact Nat.div_eq_of_lt (E3 hp (by decide))
 obtain⟨k,hk,e⟩:=reach h (sS m 13 (i,p) hi) hj
 refine⟨13+k,by omega,?_⟩
 rw[pC]
 have:lp m 13 (i,p)=((lp m 13 (i,p)).1,0):=by rw[←hz]
 rw[this,sO]
 exact e
theorem wL(h:Int):SetTable.bits h<2 ^ 64:=by
 unfold SetTable.bits
 have h1:=Int.emod_lt_of_pos h (show(0:Int)<2 ^ 64 by decide)
 have h2:=Int.emod_nonneg h (show(2:Int) ^ 64≠0 by decide)
 omega
def aM(t:SetTable):Nat->SetTable.Probe->SetTable.Probe
 | 0,p=>p
 | n+1,p=>aM t n (t.advance p)
theorem gr(t:SetTable):∀a b p,aM t (a+b) p=aM t b (aM t a p)
 | 0,b,p=>by rw[Nat.zero_add];rfl
 | a+1,b,p=>by rw[Nat.succ_add];exact gr t a b _
def at_(t:SetTable)(s:Nat×Nat):SetTable.Probe:={ j:=s.1,more:=SetTable.runEnd t.mask s.1-s.1,i:=s.1,perturb:=s.2,dummy:=none }
theorem nE(t:SetTable):∀(r:Nat) (p:SetTable.Probe),p.more=r->aM t (r+1) p={ p with j:=(SetTable.leap t.mask p.i p.perturb).1,more:=SetTable.runEnd t.mask (SetTable.leap t.mask p.i p.perturb).1-(SetTable.leap t.mask p.i p.perturb).1,i:=(SetTable.leap t.mask p.i p.perturb).1,perturb:=(SetTable.leap t.mask p.i p.perturb).2 }
 | 0,p,h=>by
  show t.advance p=_
  unfold SetTable.advance
  rw[if_neg (by omega)]
 | r+1,p,h=>by
  show aM t (r+1) (t.advance p)=_
  have e:t.advance p={ p with j:=p.j+1,more:=p.more-1 }:=by
   unfold SetTable.advance
   rw[if_pos (by omega)]
  rw[e,nE t r _ (by show p.more-1=r;omega)]
theorem zF(t:SetTable)(s:Nat×Nat):∃k,k<=10/\aM t k (at_ t s)=at_ t (SetTable.leap t.mask s.1 s.2):=by
 refine⟨SetTable.runEnd t.mask s.1-s.1+1,?_,?_⟩
 ·unfold SetTable.runEnd
  split<;>omega
 ·exact(nE t (SetTable.runEnd t.mask s.1-s.1) (at_ t s) rfl).trans rfl
theorem wK(t:SetTable):∀(n:Nat) (s:Nat×Nat),∃k,k<=10*n/\aM t k (at_ t s)=at_ t (lp t.mask n s)
 | 0,s=>⟨0,ER _,rfl⟩
 | n+1,s=>by
  obtain⟨k1,h1,e1⟩:=zF t s
  obtain⟨k2,h2,e2⟩:=wK t n (SetTable.leap t.mask s.1 s.2)
  refine⟨k1+k2,by omega,?_⟩
  rw[gr,e1,e2]
  rfl
theorem CM(t:SetTable)(h:Int):t.probeStart h=at_ t (SetTable.bits h % (t.mask+1),SetTable.bits h):=rfl
theorem yN{t:SetTable}(hm:Mask t.mask){j:Nat}(hj:j<=t.mask)(h:Int):∃K,K<10*SetTable.turns t.mask/\(aM t K (t.probeStart h)).j=j:=by
 have h1:SetTable.bits h % (t.mask+1)<=t.mask:=by
  have:=Nat.mod_lt (SetTable.bits h) (show 0<t.mask+1 by omega)
  omega
 obtain⟨n,hn,e⟩:=vf hm h1 (wL h) hj
 obtain⟨K,hK,eK⟩:=wK t n (SetTable.bits h % (t.mask+1),SetTable.bits h)
 refine⟨K,by unfold SetTable.turns;omega,?_⟩
 rw[CM,eK]
 exact e
theorem j1{t:SetTable}{j i:Nat}(h:t.slot j=.live i):t.place[i]?=some j:=by
 unfold SetTable.slot at h
 dsimp only at h
 split at h
 ·rename_i hq
  cases h
  exact eq_of_beq hq
 ·split at h<;>cases h
theorem vO(j:Nat):SetTable.has #[] j=false:=rfl
theorem oP{t:SetTable}(hd:t.dummies = #[])(j:Nat):t.slot j=.empty\/∃i,t.slot j=.live i:=by
 unfold SetTable.slot
 dsimp only
 split
 ·exact .inr ⟨_,rfl⟩
 ·rw[hd,vO]
  exact .inl rfl
theorem rG:∀(n:Nat) (l:List Nat),(∀j,j<n->j∈l)->n<=l.length
 | 0,l,_=>Nat.zero_le _
 | n+1,l,h=>by
  have hn:=h n (Nat.lt_succ_self n)
  have:=rG n (l.erase n) fun j hj=>(List.mem_erase_of_ne (by omega)).mpr (h j (by omega))
  rw[List.length_erase_of_mem hn]at this
  have:0<l.length:=List.length_pos_of_mem hn
  omega
theorem CJ{t:SetTable}(hd:t.dummies = #[])(h:t.place.size<=t.mask):∃j,j<=t.mask/\t.slot j=.empty:=by
 rcases Classical.em (∃j,j<=t.mask/\t.slot j=.empty)with h1 | h1
 ·exact h1
 ·exfalso
  have:=rG (t.mask+1) t.place.toList fun j hj=>by
   rcases oP hd j with h2 | ⟨i,h2⟩
   ·exact absurd ⟨j,by omega,h2⟩ h1
   ·have:=j1 h2
    rw[←Array.getElem?_toList]at this
    exact EF this
  rw[EA]at this
  omega
theorem jl(t:SetTable):∀n p,(aM t n p).dummy=p.dummy
 | 0,p=>rfl
 | n+1,p=>by
  show(aM t n (t.advance p)).dummy=_
  rw[jl t n]
  unfold SetTable.advance
  split<;>rfl
theorem qG{α:Type}:∀{l:List (Option α)} {j:Nat} {k:α},l[j]?=some none->((l.set j (some k)).filterMap id).Perm (k::l.filterMap id)
 | [],j,k,h=>by cases h
 | x::l,0,k,h=>by
  have:x=none:=by simpa using h
  subst this
  exact .refl _
 | x::l,j+1,k,h=>by
  have h':l[j]?=some none:=by simpa using h
  have ih:=qG (k:=k) h'
  cases x with
  | none=>exact ih
  | some y=>exact(List.Perm.cons y ih).trans (.swap _ _ _)
theorem CK{α:Type}(l:List (Option α)):(l.filterMap id).length+(l.filter (·.isNone)).length=l.length:=by
 induction l with
 | nil=>rfl
 | cons x l ih=>
  cases x<;>simp at ih ⊢<;>omega
theorem Bl{m:Nat}(hm:Mask m)(owner:Array (Option Nat))(hz:owner.size=m+1){j:Nat}(hj:owner[j]?=some none):∀(fuel n i p:Nat),i<=m->n<fuel->(lp m n (i,p)).1=j →
  ∃j',SetTable.layClean.free m owner fuel i p=some j'/\owner[j']?=some none:=by
 intro fuel
 induction fuel with
 | zero=>intro n i p _ h;omega
 | succ fuel ih=>
  intro n i p hi hn he
  unfold SetTable.layClean.free
  split
  ·rename_i k hk
   have h1:=List.find?_some hk
   have h2:=List.mem_range.mp (List.mem_of_find?_eq_some hk)
   refine⟨i+k,rfl,?_⟩
   have hb:i+k<owner.size:=by
    rw[hz]
    unfold SetTable.runEnd at h2
    split at h2<;>omega
   rw[Array.getElem?_eq_getElem hb]
   have:owner.getD (i+k) (some 0)=owner[i+k]:=by
    rw[Array.getD_eq_getD_getElem?,Array.getElem?_eq_getElem hb]
    rfl
   rw[this]at h1
   congr 1
   cases hq:owner[i+k]with
   | none=>rfl
   | some y=>rw[hq]at h1;cases h1
  ·rename_i hk
   cases n with
   | zero=>
    exfalso
    have h0:i=j:=he
    have:=List.find?_eq_none.mp hk 0 (List.mem_range.mpr (by unfold SetTable.runEnd;split<;>omega))
    rw[Nat.add_zero,h0,Array.getD_eq_getD_getElem?,hj]at this
    simp at this
   | succ n=>
    have:=sS m 1 (i,p) hi
    exact ih n (SetTable.leap m i p).1 (SetTable.leap m i p).2 this (by omega) he
def ma(mask:Nat)(acc:Option (Array (Option Nat)×Nat))(h:Int):Option (Array (Option Nat)×Nat):=do
 let (owner,k) ←acc
 let j ←SetTable.layClean.free mask owner (SetTable.turns mask) (SetTable.bits h % (mask+1)) (SetTable.bits h)
 pure (owner.setIfInBounds j (some k),k+1)
theorem Dc{l:List (Option Nat)}(h:(l.filterMap id).length<l.length):∃j:Nat,l[j]?=some none:=by
 have:=CK l
 have h1:0<(l.filter (·.isNone)).length:=by omega
 obtain⟨x,hx⟩:=List.exists_mem_of_length_pos h1
 obtain⟨hx1,hx2⟩:=List.mem_filter.mp hx
 have:x=none:=by cases x<;>simp_all
 subst this
 obtain⟨j,hj⟩:=List.getElem?_of_mem hx1
 exact⟨j,hj⟩
theorem mK{α:Type}(xs:Array α)(p:Nat)(x:α):(SetTable.insertAt xs p x).size=xs.size+1:=by
 unfold SetTable.insertAt
 simp
 omega
theorem A5{α:Type}{xs:Array α}{p:Nat}{x e:α}(h:e∈(SetTable.insertAt xs p x).toList):e=x\/e∈xs.toList:=by
 unfold SetTable.insertAt at h
 simp only[Array.toList_append,Array.toList_push,Array.toList_extract,EU,EG]at h
 rcases h with(h | h) | h
 ·exact .inr (List.mem_of_mem_take (by simpa using h))
 ·exact .inl h
 ·exact .inr (List.mem_of_mem_drop (List.mem_of_mem_take h))
theorem AS:SetTable.sizeAbove 20-1=31:=by decide +kernel
theorem Bi:SetTable.sizeAbove 76-1=127:=by decide +kernel
theorem AZ:SetTable.sizeAbove 308-1=511:=by decide +kernel
theorem Cg:SetTable.sizeAbove 1228-1=2047:=by decide +kernel
theorem BF:SetTable.sizeAbove 4916-1=8191:=by decide +kernel
end Tb
namespace Tb
open PySem
theorem least{P:Nat->Prop}:∀n,P n->∃m,m<=n/\P m/\∀k,k<m->¬P k:=by
 intro n
 induction n using Nat.strongRecOn with
 | ind n ih=>
  intro h
  rcases Classical.em (∃k,k<n/\P k)with⟨k,hk,pk⟩ | hn
  ·obtain⟨m,h1,h2,h3⟩:=ih k hk pk
   exact⟨m,by omega,h2,h3⟩
  ·exact⟨n,ER _,h,fun k hk pk=>hn ⟨k,hk,pk⟩⟩
theorem mY{xs:Array Nat}(h:xs.toList.Pairwise (· < ·)){a b x y:Nat}(ha:xs[a]?=some x)(hb:xs[b]?=some y)(hab:a<b):x<y:=by
 obtain⟨h1,e1⟩:=Array.getElem?_eq_some_iff.mp ha
 obtain⟨h2,e2⟩:=Array.getElem?_eq_some_iff.mp hb
 have:=List.pairwise_iff_getElem.mp h a b (by simpa using h1) (by simpa using h2) hab
 simp only[Array.getElem_toList]at this
 rw[e1,e2]at this
 exact this
theorem pq(xs:Array Nat)(j:Nat)(hs:xs.toList.Pairwise (· < ·)):∀fuel lo hi,hi-lo<=fuel->lo<=hi->hi<=xs.size->(∀k x,k<lo->xs[k]?=some x->x<j)->(∀k x,hi<=k->xs[k]?=some x->j<=x) →
  SetTable.below.go xs j fuel lo hi<=xs.size/\(∀k x,k<SetTable.below.go xs j fuel lo hi->xs[k]?=some x->x<j)/\(∀k x,SetTable.below.go xs j fuel lo hi<=k->xs[k]?=some x->j<=x)
 | 0,lo,hi,h1,h2,h3,h4,h5=>by
  have:lo=hi:=by omega
  subst this
  exact⟨h3,h4,h5⟩
 | fuel+1,lo,hi,h1,h2,h3,h4,h5=>by
  unfold SetTable.below.go
  by_cases hlt:lo<hi
  ·rw[if_pos hlt]
   dsimp only
   have hm:(lo+hi) / 2<xs.size:=by omega
   have em:xs[(lo+hi) / 2]?=some xs[(lo+hi) / 2]:=getElem?_pos xs _ hm
   have eg:xs.getD ((lo+hi) / 2) j=xs[(lo+hi) / 2]:=by
    rw[Array.getD_eq_getD_getElem?,em]
    rfl
   rw[eg]
   by_cases hc:xs[(lo+hi) / 2]<j
   ·rw[if_pos hc]
    refine pq xs j hs fuel _ _ (by omega) (by omega) h3 (fun k x hk ek=>?_) h5
    rcases Nat.lt_or_ge k ((lo+hi) / 2)with a | a
    ·have:=mY hs ek em a
     omega
    ·have:k=(lo+hi) / 2:=by omega
     subst this
     rw[em]at ek
     cases ek
     exact hc
   ·rw[if_neg hc]
    refine pq xs j hs fuel _ _ (by omega) (by omega) (by omega) h4 (fun k x hk ek=>?_)
    rcases Nat.lt_or_ge ((lo+hi) / 2) k with a | a
    ·have:=mY hs em ek a
     omega
    ·have:k=(lo+hi) / 2:=by omega
     subst this
     rw[em]at ek
     cases ek
     omega
  ·rw[if_neg hlt]
   have:lo=hi:=by omega
   subst this
   exact⟨h3,h4,h5⟩
theorem oD{xs:Array Nat}(hs:xs.toList.Pairwise (· < ·))(j:Nat):SetTable.below xs j<=xs.size/\(∀k x,k<SetTable.below xs j->xs[k]?=some x->x<j)/\(∀k x,SetTable.below xs j<=k->xs[k]?=some x->j<=x):=
 pq xs j hs xs.size 0 xs.size (by omega) (Nat.zero_le _) (ER _) (fun k x hk=>by omega) (fun k x hk e=>by
  have:=(Array.getElem?_eq_some_iff.mp e).1
  omega)
theorem slot_mem{t:SetTable}(hs:t.place.toList.Pairwise (· < ·)){j i:Nat}(h:t.place[i]?=some j):t.slot j=.live i:=by
 obtain⟨h1,h2,h3⟩:=oD hs j
 have e:SetTable.below t.place j=i:=by
  have hi:=(Array.getElem?_eq_some_iff.mp h).1
  rcases Nat.lt_or_ge i (SetTable.below t.place j)with a | a
  ·have:=h2 i j a h
   omega
  ·rcases Nat.lt_or_ge (SetTable.below t.place j) i with b | b
   ·have eb:t.place[SetTable.below t.place j]?=some t.place[SetTable.below t.place j]:=getElem?_pos t.place _ (by omega)
    have c1:=h3 _ _ (ER _) eb
    have c2:=mY hs eb h b
    omega
   ·omega
 unfold SetTable.slot
 dsimp only
 rw[e,h,if_pos (beq_self_eq_true _)]
theorem ie{α:Type}(xs:Array α)(p:Nat)(x:α):(SetTable.insertAt xs p x).toList=xs.toList.take p++(x::xs.toList.drop p):=by
 unfold SetTable.insertAt
 rw[Array.toList_append,Array.toList_push,Array.toList_extract,Array.toList_extract]
 show List.take (p-0) (xs.toList.drop 0)++[x]++List.take (xs.size-p) (xs.toList.drop p)=_
 rw[List.take_of_length_le (l:=xs.toList.drop p) (by rw[List.length_drop,EA];exact ER _),List.append_assoc]
 rfl
theorem vg{α:Type}(xs:Array α){p:Nat}(hp:p<=xs.size)(x:α)(i:Nat):(SetTable.insertAt xs p x)[i]?=if i<p then xs[i]? else if i=p then some x else xs[i-1]?:=by
 rw[←Array.getElem?_toList,ie,List.getElem?_append,List.length_take,EA,show min p xs.size=p by omega]
 by_cases h:i<p
 ·rw[if_pos h,if_pos h,List.getElem?_take_of_lt h,Array.getElem?_toList]
 ·rw[if_neg h,if_neg h]
  by_cases e:i=p
  ·rw[if_pos e,e,Nat.sub_self]
   rfl
  ·rw[if_neg e]
   obtain⟨k,rfl⟩:∃k,i=p+(k+1):=⟨i-p-1,by omega⟩
   rw[show p+(k+1)-p=k+1 by omega,List.getElem?_cons_succ,List.getElem?_drop,Array.getElem?_toList]
   congr 1
theorem Ds{xs:Array Nat}(hs:xs.toList.Pairwise (· < ·)){j:Nat}(hn:j∉xs.toList):(SetTable.insertAt xs (SetTable.below xs j) j).toList.Pairwise (· < ·):=by
 obtain⟨h1,h2,h3⟩:=oD hs j
 rw[ie]
 have hs':=hs
 rw[←List.take_append_drop (SetTable.below xs j) xs.toList,List.pairwise_append]at hs'
 rw[List.pairwise_append,List.pairwise_cons]
 refine⟨hs'.1,⟨fun y hy=>?_,hs'.2.1⟩,fun x hx y hy=>?_⟩
 ·obtain⟨k,hk,e⟩:=List.mem_iff_getElem.mp hy
  rw[List.length_drop,EA]at hk
  rw[List.getElem_drop,Array.getElem_toList]at e
  have ex:xs[SetTable.below xs j+k]?=some y:=by
   rw[getElem?_pos xs _ (by omega),e]
  have:=h3 _ _ (by omega) ex
  have ne:y≠j:=fun z=>hn (by rw[←z];exact Array.mem_toList_iff.mpr (Array.mem_of_getElem? ex))
  omega
 ·have hxj:x<j:=by
   obtain⟨k,hk,e⟩:=List.mem_iff_getElem.mp hx
   rw[List.length_take,EA]at hk
   rw[List.getElem_take,Array.getElem_toList]at e
   exact h2 k x (by omega) (by rw[getElem?_pos xs _ (by omega),e])
  rcases EK.mp hy with rfl | hy
  ·exact hxj
  ·exact hs'.2.2 x hx y hy
abbrev tM(m:Nat):SetTable:={ mask:=m,place:=#[],dummies:=#[],finger:=0,led:=false,moves:=0,plain:=false }
def pm(m:Nat)(h:Int)(k:Nat):Nat:=(aM (tM m) k ((tM m).probeStart h)).j
theorem uT(t:SetTable):∀k p,aM t k p=aM (tM t.mask) k p
 | 0,p=>rfl
 | k+1,p=>uT t k _
theorem rX(t:SetTable)(h:Int)(k:Nat):(aM t k (t.probeStart h)).j=pm t.mask h k:=by
 rw[uT]
 rfl
structure TOk(m:Nat)(pl:Array Nat)(hs:Array Int):Prop where
 len:pl.size=hs.size
 inc:pl.toList.Pairwise (· < ·)
 rch:∀(i j:Nat) (h:Int),pl[i]?=some j->hs[i]?=some h->∃K,K<10*SetTable.turns m/\pm m h K=j/\∀k,k<K->pm m h k∈pl.toList
theorem TOk.nil(m:Nat):TOk m #[] #[]:=⟨rfl,.nil,fun i j h e=>by simp at e⟩
theorem TOk.put{m:Nat}{pl:Array Nat}{hs:Array Int}(T:TOk m pl hs){h:Int}{K:Nat}(hK:K<10*SetTable.turns m)(hn:pm m h K∉pl.toList)(hb:∀k,k<K->pm m h k∈pl.toList):
  TOk m (SetTable.insertAt pl (SetTable.below pl (pm m h K)) (pm m h K)) (SetTable.insertAt hs (SetTable.below pl (pm m h K)) h):=by
 have hle:=(oD T.inc (pm m h K)).1
 have more:∀x,x∈pl.toList->x∈(SetTable.insertAt pl (SetTable.below pl (pm m h K)) (pm m h K)).toList:=fun x hx=>by
  rw[ie]
  rw[←List.take_append_drop (SetTable.below pl (pm m h K)) pl.toList]at hx
  rcases EU.mp hx with a | a
  ·exact List.mem_append_left _ a
  ·exact List.mem_append_right _ (Ez _ a)
 have old:∀(i j:Nat) (h':Int),pl[i]?=some j->hs[i]?=some h'->∃K',K'<10*SetTable.turns m/\pm m h' K'=j/\∀k,k<K'->pm m h' k∈(SetTable.insertAt pl (SetTable.below pl (pm m h K)) (pm m h K)).toList:=fun i j h' e1 e2=>by
  obtain⟨K',h1,h2,h3⟩:=T.rch i j h' e1 e2
  exact⟨K',h1,h2,fun k hk=>more _ (h3 k hk)⟩
 refine⟨by rw[mK,mK,T.len],Ds T.inc hn,fun i j h' e1 e2=>?_⟩
 rw[vg pl hle]at e1
 rw[vg hs (by rw[←T.len];exact hle)]at e2
 by_cases c1:i<SetTable.below pl (pm m h K)
 ·rw[if_pos c1]at e1 e2
  exact old i j h' e1 e2
 ·rw[if_neg c1]at e1 e2
  by_cases c2:i=SetTable.below pl (pm m h K)
  ·rw[if_pos c2]at e1 e2
   cases e1
   cases e2
   exact⟨K,hK,rfl,fun k hk=>more _ (hb k hk)⟩
  ·rw[if_neg c2]at e1 e2
   exact old _ j h' e1 e2
theorem Bz{t:SetTable}(hd:t.dummies = #[]){j:Nat}(h:t.slot j≠.empty):j∈t.place.toList:=by
 rcases oP hd j with e | ⟨i,e⟩
 ·exact absurd e h
 ·exact Array.mem_toList_iff.mpr (Array.mem_of_getElem? (j1 e))
theorem qK{t:SetTable}(hs:t.place.toList.Pairwise (· < ·)){j:Nat}(h:j∈t.place.toList):∃i,t.slot j=.live i/\t.place[i]?=some j:=by
 obtain⟨i,hi⟩:=List.getElem?_of_mem h
 rw[Array.getElem?_toList]at hi
 exact⟨i,slot_mem hs hi,hi⟩
theorem DX{t:SetTable}(hs:t.place.toList.Pairwise (· < ·)){j:Nat}(h:t.slot j=.empty):j∉t.place.toList:=fun hm=>by
 obtain⟨i,e,_⟩:=qK hs hm
 rw[h]at e
 cases e
theorem xS{t:SetTable}(hd:t.dummies = #[])(hm:Mask t.mask)(hp:t.place.size<=t.mask)(h:Int):∃K,K<10*SetTable.turns t.mask/\t.slot (pm t.mask h K)=.empty/\∀k,k<K->t.slot (pm t.mask h k)≠.empty:=by
 obtain⟨j0,hj0,hs0⟩:=CJ hd hp
 obtain⟨N,hN,eN⟩:=yN hm hj0 h
 rw[rX]at eN
 obtain⟨K,h1,h2,h3⟩:=least (P:=fun n=>t.slot (pm t.mask h n)=.empty) N (by show t.slot (pm t.mask h N)=_;rw[eN];exact hs0)
 exact⟨K,by omega,h2,h3⟩
theorem rd{t:SetTable}(hd:t.dummies = #[])(hash:Nat->Int)(h:Int):∀(K fuel:Nat) (p:SetTable.Probe),K<fuel->p.dummy=none->(∀k,k<K->t.slot (aM t k p).j≠.empty) →
  (∃k i,k<K/\SetTable.probe.go t hash h fuel p=some (.candidate (aM t k p).j i (aM t (k+1) p))/\t.slot (aM t k p).j=.live i)\/SetTable.probe.go t hash h fuel p=SetTable.probe.go t hash h (fuel-K) (aM t K p):=by
 intro K
 induction K with
 | zero=>intro fuel p _ _ _;exact .inr rfl
 | succ K ih=>
  intro fuel p hf hp hs
  obtain⟨f,rfl⟩:∃f,fuel=f+1:=⟨fuel-1,by omega⟩
  have h0:t.slot p.j≠.empty:=hs 0 (by omega)
  rcases oP hd p.j with h1 | ⟨i,h1⟩
  ·exact absurd h1 h0
  ·by_cases hq:(hash i == h)=true
   ·refine .inl ⟨0,i,by omega,?_,h1⟩
    conv=>lhs;unfold SetTable.probe.go
    rw[h1]
    dsimp only
    rw[if_pos hq]
    rfl
   ·have e:SetTable.probe.go t hash h (f+1) p=SetTable.probe.go t hash h f (t.advance p):=by
     conv=>lhs;unfold SetTable.probe.go
     rw[h1]
     dsimp only
     rw[if_neg hq]
    rw[e]
    have hp':(t.advance p).dummy=none:=by
     have:=jl t 1 p
     rw[hp]at this
     exact this
    rcases ih f (t.advance p) (by omega) hp' (fun k hk=>hs (k+1) (by omega))with⟨k,i',hk,e',hl⟩ | e'
    ·exact .inl ⟨k+1,i',by omega,e',hl⟩
    ·refine .inr ?_
     rw[e',show f+1-(K+1)=f-K by omega]
     rfl
theorem CF{t:SetTable}(hd:t.dummies = #[])(hash:Nat->Int)(h:Int){K fuel:Nat}{p:SetTable.Probe}(hf:K<fuel)(hp:p.dummy=none)(hs:∀k,k<K->t.slot (aM t k p).j≠.empty)(he:t.slot (aM t K p).j=.empty):
  (∃k i,k<K/\SetTable.probe.go t hash h fuel p=some (.candidate (aM t k p).j i (aM t (k+1) p))/\t.slot (aM t k p).j=.live i)\/SetTable.probe.go t hash h fuel p=some (.empty (aM t K p).j none):=by
 rcases rd hd hash h K fuel p hf hp hs with a | a
 ·exact .inl a
 ·refine .inr ?_
  rw[a]
  obtain⟨f,hf'⟩:∃f,fuel-K=f+1:=⟨fuel-K-1,by omega⟩
  rw[hf']
  unfold SetTable.probe.go
  rw[he]
  dsimp only
  rw[jl,hp]
theorem Ao{t:SetTable}(hd:t.dummies = #[])(hash:Nat->Int)(h:Int){K fuel i0:Nat}{p:SetTable.Probe}(hf:K<fuel)(hp:p.dummy=none)(hs:∀k,k<K->t.slot (aM t k p).j≠.empty)(he:t.slot (aM t K p).j=.live i0)(hh:hash i0=h):
  ∃k i,k<=K/\SetTable.probe.go t hash h fuel p=some (.candidate (aM t k p).j i (aM t (k+1) p))/\t.slot (aM t k p).j=.live i:=by
 rcases rd hd hash h K fuel p hf hp hs with⟨k,i,hk,e,hl⟩ | a
 ·exact⟨k,i,by omega,e,hl⟩
 ·refine⟨K,i0,ER _,?_,he⟩
  rw[a]
  obtain⟨f,hf'⟩:∃f,fuel-K=f+1:=⟨fuel-K-1,by omega⟩
  rw[hf']
  conv=>lhs;unfold SetTable.probe.go
  rw[he]
  dsimp only
  rw[if_pos (by rw[hh];exact beq_self_eq_true _)]
  rw[gr]
  rfl
theorem pP(t:SetTable):∀(k:Nat) (p:SetTable.Probe),k<=p.more->aM t k p={ p with j:=p.j+k,more:=p.more-k }
 | 0,p,h=>rfl
 | k+1,p,h=>by
  show aM t k (t.advance p)=_
  have e:t.advance p={ p with j:=p.j+1,more:=p.more-1 }:=by
   unfold SetTable.advance
   rw[if_pos (by omega)]
  rw[e,pP t k _ (by show k<=p.more-1;omega)]
  simp only[SetTable.Probe.mk.injEq,true_and,and_true]
  omega
theorem DG{m i:Nat}(h:i<=m):SetTable.runEnd m i<=m/\i<=SetTable.runEnd m i/\SetTable.runEnd m i<=i+9:=by
 unfold SetTable.runEnd
 split<;>omega
theorem nH{t:SetTable}{i p k:Nat}(h:k<=SetTable.runEnd t.mask i-i):(aM t k (at_ t (i,p))).j=i+k:=by
 rw[pP t k _ h]
 rfl
theorem wY{owner:Array (Option Nat)}{j:Nat}(hj:j<owner.size)(h:(owner.getD j (some 0)).isNone=false):∃x,owner[j]?=some (some x):=by
 rw[Array.getD_eq_getD_getElem?,getElem?_pos owner j hj]at h
 rw[getElem?_pos owner j hj]
 cases e:owner[j]with
 | none=>rw[e]at h;cases h
 | some x=>exact⟨x,rfl⟩
theorem r9{t:SetTable}(owner:Array (Option Nat))(hz:owner.size=t.mask+1):∀(fuel i p j':Nat),i<=t.mask->SetTable.layClean.free t.mask owner fuel i p=some j' →
  ∃K,K<10*fuel/\(aM t K (at_ t (i,p))).j=j'/\∀k,k<K->∃x,owner[(aM t k (at_ t (i,p))).j]?=some (some x)
 | 0,i,p,j',hi,h=>by cases h
 | fuel+1,i,p,j',hi,h=>by
  obtain⟨r1,r2,r3⟩:=DG hi
  unfold SetTable.layClean.free at h
  split at h
  ·rename_i k0 hk
   cases h
   rw[List.find?_range_eq_some]at hk
   obtain⟨hk1,hk2,hk3⟩:=hk
   have hk2:=List.mem_range.mp hk2
   refine⟨k0,by omega,nH (by omega),fun k hk=>?_⟩
   rw[nH (by omega)]
   refine wY (by omega) ?_
   have:=hk3 k hk
   simpa using this
  ·rename_i hk
   rw[List.find?_range_eq_none]at hk
   have hnx:(SetTable.leap t.mask i p).1<=t.mask:=by
    show(_ % (t.mask+1))<=t.mask
    have:=Nat.mod_lt (i*5+1+p / 32) (show 0<t.mask+1 by omega)
    omega
   obtain⟨K,h1,h2,h3⟩:=r9 owner hz fuel _ _ j' hnx h
   have hr:aM t (SetTable.runEnd t.mask i-i+1) (at_ t (i,p))=at_ t (SetTable.leap t.mask i p):=(nE t (SetTable.runEnd t.mask i-i) (at_ t (i,p)) rfl).trans rfl
   refine⟨SetTable.runEnd t.mask i-i+1+K,by omega,?_,fun k hk'=>?_⟩
   ·rw[gr,hr]
    exact h2
   ·rcases Nat.lt_or_ge k (SetTable.runEnd t.mask i-i+1)with a | a
    ·rw[nH (by omega)]
     refine wY (by omega) ?_
     have:=hk k (by omega)
     simpa using this
    ·obtain⟨k',rfl⟩:∃k',k=SetTable.runEnd t.mask i-i+1+k':=⟨k-(SetTable.runEnd t.mask i-i+1),by omega⟩
     rw[gr,hr]
     exact h3 k' (by omega)
def nG(m:Nat)(F:Nat->Int)(owner:Array (Option Nat)):Prop:=∀j x:Nat,owner[j]?=some (some x)->∃K,K<10*SetTable.turns m/\pm m (F x) K=j/\∀k,k<K->∃y,owner[pm m (F x) k]?=some (some y)
theorem va{m:Nat}(hm:Mask m)(F:Nat->Int):∀(hs:List Int) (owner:Array (Option Nat)) (k:Nat),owner.size=m+1->(owner.toList.filterMap id).Perm (List.range k)->k+hs.length<=m->(∀i h,hs[i]?=some h->F (k+i)=h)->nG m F owner →
  ∃owner',hs.foldl (ma m) (some (owner,k))=some (owner',k+hs.length)/\owner'.size=m+1/\(owner'.toList.filterMap id).Perm (List.range (k+hs.length))/\nG m F owner'
 | [],owner,k,h1,h2,h3,h4,h5=>⟨owner,rfl,h1,h2,h5⟩
 | h::hs,owner,k,h1,h2,h3,h4,h5=>by
  rw[EY]at h3 ⊢
  have hlt:(owner.toList.filterMap id).length<owner.toList.length:=by
   rw[h2.length_eq,List.length_range,EA,h1]
   omega
  obtain⟨j,hj⟩:=Dc hlt
  rw[Array.getElem?_toList]at hj
  have hjm:j<=m:=by
   have:=(Array.getElem?_eq_some_iff.mp hj).1
   omega
  have hi:SetTable.bits h % (m+1)<=m:=by
   have:=Nat.mod_lt (SetTable.bits h) (show 0<m+1 by omega)
   omega
  obtain⟨n,hn,en⟩:=vf hm hi (wL h) hjm
  obtain⟨j',e',hj'⟩:=Bl hm owner h1 hj (SetTable.turns m) n _ _ hi (by unfold SetTable.turns;omega) en
  obtain⟨K,K1,K2,K3⟩:=r9 (t:=tM m) owner h1 (SetTable.turns m) _ _ j' hi e'
  have step:ma m (some (owner,k)) h=some (owner.setIfInBounds j' (some k),k+1):=by
   unfold ma
   simp[e']
  rw[List.foldl_cons,step]
  have hp:((owner.setIfInBounds j' (some k)).toList.filterMap id).Perm (List.range (k+1)):=by
   rw[Array.toList_setIfInBounds]
   rw[←Array.getElem?_toList]at hj'
   refine(qG hj').trans ?_
   rw[List.range_succ]
   exact(List.Perm.cons k h2).trans (List.perm_append_comm (l₁:=[k]) (l₂:=List.range k))
  have hj's:j'<owner.size:=(Array.getElem?_eq_some_iff.mp hj').1
  have keep:∀i x,owner[i]?=some (some x)->(owner.setIfInBounds j' (some k))[i]?=some (some x):=fun i x e=>by
   rw[Array.getElem?_setIfInBounds,if_neg]
   ·exact e
   ·rintro rfl
    rw[hj']at e
    cases e
  have hR:nG m F (owner.setIfInBounds j' (some k)):=fun i x e=>by
   rw[Array.getElem?_setIfInBounds]at e
   by_cases c:j'=i
   ·rw[if_pos c,if_pos hj's]at e
    cases e
    have eF:F k=h:=by
     have:=h4 0 h rfl
     rwa [Nat.add_zero]at this
    rw[eF]
    refine⟨K,K1,?_,fun k' hk'=>?_⟩
    ·rw[←c]
     exact K2
    ·obtain⟨y,hy⟩:=K3 k' hk'
     exact⟨y,keep _ _ hy⟩
   ·rw[if_neg c]at e
    obtain⟨K',q1,q2,q3⟩:=h5 i x e
    refine⟨K',q1,q2,fun k' hk'=>?_⟩
    obtain⟨y,hy⟩:=q3 k' hk'
    exact⟨y,keep _ _ hy⟩
  obtain⟨o',f1,f2,f3,f4⟩:=va hm F hs (owner.setIfInBounds j' (some k)) (k+1) (by simpa using h1) hp (by omega) (fun i h' e=>by
   have:=h4 (i+1) h' e
   rwa [show k+(i+1)=k+1+i by omega]at this) hR
  exact⟨o',by rw[f1];congr 2;omega,f2,by rw[show k+(hs.length+1)=k+1+hs.length by omega];exact f3,f4⟩
theorem nh{α:Type}(es:Array α):∀(l:List Nat),(∀i∈l,i<es.size)->∀n:Nat,(l.filterMap (es[·]?))[n]?=(l[n]?).bind (es[·]?)
 | [],_,n=>by simp
 | x::l,h,n=>by
  have hx:=h x EC
  have e:(x::l).filterMap (es[·]?)=es[x]::l.filterMap (es[·]?):=by
   rw[List.filterMap_cons]
   simp[hx]
  rw[e]
  cases n with
  | zero=>simp[hx]
  | succ n=>simpa using nh es l (fun i hi=>h i (Ez _ hi)) n
theorem pJ{f:Nat->Option (Nat×Nat)}(hf:∀j x,f j=some x->x.1=j):∀(l:List Nat),(∀x∈(l.filterMap f),f x.1=some x)/\((l.filterMap f).map (·.1))=l.filter (fun j=>(f j).isSome)
 | []=>⟨fun x hx=>(by cases hx),rfl⟩
 | a::l=>by
  obtain⟨i1,i2⟩:=pJ hf l
  cases e:f a with
  | none=>
   rw[List.filterMap_cons_none e,List.filter_cons_of_neg (by rw[e];simp)]
   exact⟨i1,i2⟩
  | some x=>
   rw[List.filterMap_cons_some e,List.filter_cons_of_pos (by rw[e];rfl),List.map_cons,i2,hf a x e]
   refine⟨fun y hy=>?_,rfl⟩
   rcases EK.mp hy with rfl | hy
   ·rw[hf a y e]
    exact e
   ·exact i1 y hy
theorem BA(t:SetTable){es:Array (Int×Value)}{wanted m:Nat}(hm:Mask m)(hw:SetTable.sizeAbove wanted-1=m)(hn:es.size<=m):
  ∃t' order,t.relaid (es.map (·.1)) wanted=some (t',order)/\t'.place.size=es.size/\t'.dummies = #[]/\t'.mask=m/\order.toList.Perm (List.range es.size)/\t'.led=t.led/\t'.plain=t.plain/\TOk m t'.place ((order.filterMap (es[·]?)).map (·.1)):=by
 obtain⟨o',f1,f2,f3,f4⟩:=va hm (fun i=>((es[i]?).map (·.1)).getD 0) (es.map (·.1)).toList (Array.replicate (m+1) none) 0 (by simp) (by simp) (by rw[EA,Array.size_map];omega) (fun i h e=>by
   rw[Array.getElem?_toList,Array.getElem?_map]at e
   show((es[0+i]?).map (·.1)).getD 0=h
   rw[Nat.zero_add,e]
   rfl) (fun j x e=>by
   rw[Array.getElem?_replicate]at e
   split at e<;>cases e)
 rw[EA,Nat.zero_add,Array.size_map]at f1 f3
 have hlay:SetTable.layClean m (es.map (·.1))=some o':=by
  show((es.map (·.1)).foldl (ma m) (some (Array.replicate (m+1) none,0))).map (·.1)=some o'
  rw[←Array.foldl_toList,f1]
  rfl
 have hsnd:((List.range (m+1)).filterMap fun j=>(o'.getD j none).map (j,·)).map (·.2)=o'.toList.filterMap id:=by
  rw[List.map_filterMap]
  have:o'.toList=(List.range (m+1)).map fun j=>o'.getD j none:=by
   apply List.ext_getElem
   ·rw[EA,Ew,List.length_range,f2]
   ·intro i h1 h2
    rw[EA]at h1
    simp[h1]
  rw[this,List.filterMap_map]
  congr 1
  funext j
  show((o'.getD j none).map (j,·)).map (·.2)=o'.getD j none
  cases o'.getD j none<;>rfl
 have hrel:t.relaid (es.map (·.1)) wanted=some (({ mask:=m,place:=(((List.range (m+1)).filterMap fun j=>(o'.getD j none).map (j,·)).map (·.1)).toArray,dummies:=#[],finger:=t.finger,led:=t.led,moves:=t.movedTo m,plain:=t.plain }:SetTable),(((List.range (m+1)).filterMap fun j=>(o'.getD j none).map (j,·)).map (·.2)).toArray):=by
  unfold SetTable.relaid
  rw[hw]
  unfold SetTable.laid
  rw[hlay]
  rfl
 obtain⟨lv1,lv2⟩:=pJ (f:=fun j=>(o'.getD j none).map (j,·)) (fun j x e=>by
  obtain⟨y,_,rfl⟩:=EH.mp e
  rfl) (List.range (m+1))
 have hlen:((List.range (m+1)).filterMap fun j=>(o'.getD j none).map (j,·)).length=es.size:=by
  have:=congrArg List.length hsnd
  rwa [Ew,f3.length_eq,List.length_range]at this
 have hall:∀i∈((List.range (m+1)).filterMap fun j=>(o'.getD j none).map (j,·)).map (·.2),i<es.size:=fun i hi=>by
  rw[hsnd]at hi
  exact List.mem_range.mp (f3.mem_iff.mp hi)
 refine⟨_,_,hrel,?_,rfl,rfl,?_,rfl,rfl,?_⟩
 ·show(((List.range (m+1)).filterMap fun j=>(o'.getD j none).map (j,·)).map (·.1)).toArray.size=_
  rw[EB,Ew,hlen]
 ·show(((List.range (m+1)).filterMap fun j=>(o'.getD j none).map (j,·)).map (·.2)).toArray.toList.Perm _
  rw[List.toList_toArray,hsnd]
  exact f3
 ·generalize hlv:((List.range (m+1)).filterMap fun j=>(o'.getD j none).map (j,·))=lv at lv1 lv2 hlen hall
  show TOk m (lv.map (·.1)).toArray (((lv.map (·.2)).toArray.filterMap (es[·]?)).map (·.1))
  have mem:∀j,(∃y,o'[j]?=some (some y))->j∈(lv.map (·.1)).toArray.toList:=fun j ⟨y,hy⟩=>by
   rw[List.toList_toArray,lv2,List.mem_filter]
   have hj:=(Array.getElem?_eq_some_iff.mp hy).1
   refine⟨List.mem_range.mpr (by omega),?_⟩
   rw[Array.getD_eq_getD_getElem?,hy]
   rfl
  have hes:∀n:Nat,((((lv.map (·.2)).toArray.filterMap (es[·]?)).map (·.1)))[n]?=(((lv.map (·.2))[n]?).bind (es[·]?)).map (·.1):=fun n=>by
   rw[Array.getElem?_map,←Array.getElem?_toList,Array.toList_filterMap,List.toList_toArray,nh es _ hall]
  refine⟨?_,?_,fun i j h e1 e2=>?_⟩
  ·rw[Array.size_map,←EA,←EA,Array.toList_filterMap,List.toList_toArray,List.toList_toArray,Ew]
   have key:∀l:List Nat,(∀i∈l,i<es.size)->(l.filterMap (es[·]?)).length=l.length:=by
    intro l
    induction l with
    | nil=>intro _;rfl
    | cons x l ih=>
     intro hl
     have hx:=hl x EC
     rw[List.filterMap_cons,getElem?_pos es x hx,EY,EY,ih fun i hi=>hl i (Ez _ hi)]
   rw[key _ hall,Ew]
  ·rw[List.toList_toArray,lv2]
   exact List.Pairwise.filter _ List.pairwise_lt_range
  ·rw[hes]at e2
   rw[List.getElem?_toArray,Ey]at e1
   rw[Ey]at e2
   obtain⟨⟨j',x⟩,hx,rfl⟩:=EH.mp e1
   rw[hx]at e2
   have hf:=lv1 _ (EF hx)
   have hx':o'.getD j' none=some x:=by
    obtain⟨y,hy,ey⟩:=EH.mp hf
    cases ey
    exact hy
   have ho:o'[j']?=some (some x):=by
    rw[Array.getD_eq_getD_getElem?]at hx'
    cases q:o'[j']? with
    | none=>rw[q]at hx';cases hx'
    | some y=>rw[q]at hx';cases hx';rfl
   obtain⟨K,q1,q2,q3⟩:=f4 j' x ho
   have eF:((es[x]?).map (·.1)).getD 0=h:=by
    have:(es[x]?).map (·.1)=some h:=e2
    rw[this]
    rfl
   dsimp only at q2 q3
   rw[eF]at q2 q3
   exact⟨K,q1,q2,fun k hk=>mem _ (q3 k hk)⟩
end Tb
namespace L2
open PySem PySem.Spec PyProof.Rows
section
variable {P:Program} {w:World} {A:Around} {E:Value->Shared->Prop} {s:Shared} {K:Type} [DecidableEq K] {knd:KeyKind P w K}
theorem mW{ks:List K}{vs:List Value}(h:ItemsAre knd ks vs):∀v∈vs,∀b,v≠.ref b:=fun v hv b e=>by
 have:=h.byValue v hv
 subst e
 cases this
theorem yo(n:Nat){v:Value}(h:∀b,v≠.ref b):ofAClassStatement n v=pure false:=by
 cases v with
 | ref b=>exact absurd rfl (h b)
 | _=>unfold ofAClassStatement;rfl
theorem xg{ks:List K}{b:Addr}{Q:Bool->Shared->Prop}(hk:IsTupleKey knd s.heap ks b)(h:Q false s):wpAny (model P w) A (ofAClassStatement 8 (.ref b)) Q E s:=by
 have hT:=hk.typeIs
 obtain⟨o,items,n,ho,hc,hd,hi⟩:=hk
 unfold ofAClassStatement
 refine Em (wpAny_typeOf hT ?_)
 dsimp only
 refine Em (En ?_)
 simp only[Bool.not_true,Bool.false_eq_true,if_false]
 refine Em (wpAny_seqItems ho hd ?_)
 dsimp only
 refine Em ?_
 rw[←Array.forIn_toList]
 refine wpAny_forIn_list _ (fun rest r s'=>r.1=none/\s'=s/\∀v∈rest,∀b,v≠.ref b) _ ?_ ?_ _ _ ⟨rfl,rfl,mW hi⟩
 ·rintro v rest r s' ⟨hr,rfl,hall⟩
  rw[yo _ (hall v EC)]
  refine Em (En ?_)
  simp only[Bool.false_eq_true,if_false]
  exact En ⟨rfl,rfl,fun u hu=>hall u (Ez _ hu)⟩
 ·rintro⟨r1,r2⟩ s' ⟨hr,rfl,_⟩
  simp only at hr
  subst hr
  exact En h
theorem qw{ks:List K}{b:Addr}{l:List Value}{Q:Bool->Shared->Prop}(hk:IsTupleKey knd s.heap ks b)(hl:∀y∈l,∃b' k',y=.ref b'/\IsTupleKey knd s.heap k' b')(h:Q false s):wpAny (model P w) A (searchCouldBeSeen (.ref b) l) Q E s:=by
 unfold searchCouldBeSeen
 refine Em ?_
 refine wpAny_forIn_list _ (fun rest r s'=>r.1=none/\s'=s/\∀y∈rest,∃b' k',y=.ref b'/\IsTupleKey knd s.heap k' b') _ ?_ ?_ _ _ ⟨rfl,rfl,hl⟩
 ·rintro v rest r s' ⟨hr,rfl,hall⟩
  obtain⟨b',k',rfl,hk'⟩:=hall v EC
  have next:∀y∈rest,∃b' k',y=.ref b'/\IsTupleKey knd s'.heap k' b':=fun y hy=>hall y (Ez _ hy)
  dsimp only
  split
  ·exact En ⟨rfl,rfl,next⟩
  ·refine Em (wpAny_eqIsQuiet_tuple hk ?_)
   simp only[Bool.not_true,Bool.false_eq_true,if_false]
   refine Em (wpAny_eqIsQuiet_tuple hk' ?_)
   simp only[Bool.not_true,Bool.false_eq_true,if_false]
   refine Em (xg hk ?_)
   simp only[Bool.false_eq_true,if_false]
   refine Em (xg hk' ?_)
   simp only[Bool.false_eq_true,if_false]
   exact En ⟨rfl,rfl,next⟩
 ·rintro⟨r1,r2⟩ s' ⟨hr,rfl,_⟩
  simp only at hr
  subst hr
  exact En h
theorem uU{t:SetTable}(hm:Tb.Mask t.mask):t.gaveWay=false:=by
 unfold SetTable.gaveWay
 rcases hm with e | e | e | e | e | e<;>rw[e]<;>rfl
theorem zL{a b:Addr}{k:List K}{h:Int}{o:Obj}{es:Array (Int×Value)}{ep:Nat}{t:SetTable}(hu:A.units<cLine)(hk:IsTupleKey knd s.heap k b)(ho:s.heap.get? a=some o)(hd:o.data=.set es ep t)(hf:t.fits es.size=true)(hm:Tb.Mask t.mask)(hdm:t.dummies = #[])
  (hall:∀e∈es.toList,∃b' k',e.2=.ref b'/\IsTupleKey knd s.heap k' b'/\k'≠k) {Q:SetFound->Shared->Prop} :
  ∀(K fuel:Nat) (stand:Option SetTable.Probe),K<fuel->K<10*SetTable.turns t.mask->(stand.getD (t.probeStart h)).dummy=none->(∀k',k'<K->t.slot (Tb.aM t k' (stand.getD (t.probeStart h))).j≠.empty)->t.slot (Tb.aM t K (stand.getD (t.probeStart h))).j=.empty →
   Q (.free (Tb.aM t K (stand.getD (t.probeStart h))).j false) s->wpAny (model P w) A (setSearchFrom a (.ref b) h true fuel stand) Q E s:=by
 intro K
 induction K using Nat.strongRecOn with
 | ind K ih=>
  intro fuel stand hfu hK hdu hne hs hQ
  obtain⟨f,rfl⟩:∃f,fuel=f+1:=⟨fuel-1,by omega⟩
  unfold setSearchFrom
  refine Em (wpAny_setState_of ho hd hf ?_)
  dsimp only
  have hg:=uU hm
  have hsz:t.place.size=es.size:=by
   simp only[SetTable.fits,E9,beq_iff_eq]at hf
   exact hf.1
  have hsm:t.sameMemory t.moves t.mask=some true:=by
   unfold SetTable.sameMemory
   rw[if_pos (beq_self_eq_true _)]
  rw[hg]
  simp only[Bool.false_eq_true,if_false]
  generalize hr:t.probe _ h (stand.getD (t.probeStart h))=r
  obtain⟨g,hr⟩:∃g,SetTable.probe.go t g h (10*SetTable.turns t.mask) (stand.getD (t.probeStart h))=r:=⟨_,hr⟩
  rcases Tb.CF hdm g h hK hdu hne hs with⟨k',i,hk',e,hl⟩ | e
  ·rw[e]at hr
   subst hr
   have hpl:=Tb.j1 hl
   have hi:i<es.size:=by
    rw[←hsz]
    exact(Array.getElem?_eq_some_iff.mp hpl).1
   have hmem:es[i]∈es.toList:=by simp
   obtain⟨b',k2,hy,hk2,hne2⟩:=hall _ hmem
   have hes:es[i]?=some (es[i].1,.ref b'):=by
    rw[Array.getElem?_eq_getElem hi,←hy]
   have hst:∀y∈((es.filter fun x=>x.1 == h).toList.map fun x=>x.2),∃b' k',y=Value.ref b'/\IsTupleKey knd s.heap k' b':=fun y hy=>by
    obtain⟨e0,he0,rfl⟩:=List.mem_map.mp hy
    have he1:e0∈es.toList:=by
     have:=Array.mem_toList_iff.mp he0
     exact Array.mem_toList_iff.mpr (Array.mem_filter.mp this).1
    obtain⟨b3,k3,h1,h2,_⟩:=hall e0 he1
    exact⟨b3,k3,h1,h2⟩
   have eK:∀x,Tb.aM t (k'+1+x) (stand.getD (t.probeStart h))=Tb.aM t x (Tb.aM t (k'+1) (stand.getD (t.probeStart h))):=fun x=>Tb.gr t _ _ _
   have again:wpAny (model P w) A (setSearchFrom a (.ref b) h true f (some (Tb.aM t (k'+1) (stand.getD (t.probeStart h))))) Q E s:=by
    refine ih (K-(k'+1)) (by omega) f _ (by omega) (by omega) ?_ (fun x hx=>?_) ?_ ?_
    ·show(Tb.aM t (k'+1) _).dummy=none
     rw[Tb.jl]
     exact hdu
    ·show t.slot (Tb.aM t x (Tb.aM t (k'+1) _)).j≠_
     rw[←eK]
     exact hne _ (by omega)
    ·show t.slot (Tb.aM t (K-(k'+1)) (Tb.aM t (k'+1) _)).j=_
     rw[←eK,show k'+1+(K-(k'+1))=K by omega]
     exact hs
    ·show Q (.free (Tb.aM t (K-(k'+1)) (Tb.aM t (k'+1) _)).j false) s
     rw[←eK,show k'+1+(K-(k'+1))=K by omega]
     exact hQ
   have same:isSame (Value.ref b') (Value.ref b')=pure true:=by
    unfold isSame
    simp
   dsimp only
   cases hled:t.led
   ·simp only[Bool.not_false,if_true]
    refine Em (qw hk hst ?_)
    simp only[Bool.false_eq_true,if_false]
    rw[hes]
    dsimp only
    refine Em (wpAny_holding (wpAny_eqBool_tuple hu hk2 hk ?_))
    rw[decide_eq_false hne2]
    refine Em (wpAny_setState_of ho hd hf ?_)
    dsimp only
    simp only[Bool.and_false,Bool.false_eq_true,if_false,hsm,if_true,hl,hes,same]
    exact Em (En (Em (En again)))
   ·simp only[Bool.not_true,Bool.false_eq_true,if_false]
    rw[hes]
    dsimp only
    refine Em (wpAny_holding (wpAny_eqBool_tuple hu hk2 hk ?_))
    rw[decide_eq_false hne2]
    refine Em (wpAny_setState_of ho hd hf ?_)
    dsimp only
    simp only[Bool.and_false,Bool.false_eq_true,if_false,hsm,if_true,hl,hes,same]
    exact Em (En (Em (En again)))
  ·rw[e]at hr
   subst hr
   exact En hQ
theorem Av{a b:Addr}{k:List K}{h:Int}{o:Obj}{es:Array (Int×Value)}{ep i0:Nat}{t:SetTable}(hu:A.units<cLine)(hk:IsTupleKey knd s.heap k b)(ho:s.heap.get? a=some o)(hd:o.data=.set es ep t)(hf:t.fits es.size=true)(hm:Tb.Mask t.mask)(hdm:t.dummies = #[])
  (hall:∀e∈es.toList,∃b' k',e.2=.ref b'/\IsTupleKey knd s.heap k' b') (hi0:∃b0,es[i0]?=some (h,.ref b0)/\IsTupleKey knd s.heap k b0) {Q:SetFound->Shared->Prop} (hQ:Q (.there none) s) :
  ∀(K fuel:Nat) (stand:Option SetTable.Probe),K<fuel->K<10*SetTable.turns t.mask->(stand.getD (t.probeStart h)).dummy=none->(∀k',k'<K->t.slot (Tb.aM t k' (stand.getD (t.probeStart h))).j≠.empty)->t.slot (Tb.aM t K (stand.getD (t.probeStart h))).j=.live i0 →
   wpAny (model P w) A (setSearchFrom a (.ref b) h true fuel stand) Q E s:=by
 obtain⟨b0,hb0,hkb0⟩:=hi0
 intro K
 induction K using Nat.strongRecOn with
 | ind K ih=>
  intro fuel stand hfu hK hdu hne hs
  obtain⟨f,rfl⟩:∃f,fuel=f+1:=⟨fuel-1,by omega⟩
  unfold setSearchFrom
  refine Em (wpAny_setState_of ho hd hf ?_)
  dsimp only
  have hg:=uU hm
  have hsz:t.place.size=es.size:=by
   simp only[SetTable.fits,E9,beq_iff_eq]at hf
   exact hf.1
  have hsm:t.sameMemory t.moves t.mask=some true:=by
   unfold SetTable.sameMemory
   rw[if_pos (beq_self_eq_true _)]
  rw[hg]
  simp only[Bool.false_eq_true,if_false]
  generalize hr:t.probe _ h (stand.getD (t.probeStart h))=r
  obtain⟨g,hgi,hr⟩:∃g:Nat->Int,g i0=h/\SetTable.probe.go t g h (10*SetTable.turns t.mask) (stand.getD (t.probeStart h))=r:=⟨_,by show((es[i0]?).map (·.1)).getD 0=h;rw[hb0];rfl,hr⟩
  obtain⟨k',i,hk',e,hl⟩:=Tb.Ao hdm g h hK hdu hne hs hgi
  rw[e]at hr
  subst hr
  have hpl:=Tb.j1 hl
  have hi:i<es.size:=by
   rw[←hsz]
   exact(Array.getElem?_eq_some_iff.mp hpl).1
  have hmem:es[i]∈es.toList:=by simp
  obtain⟨b',k2,hy,hk2⟩:=hall _ hmem
  have hes:es[i]?=some (es[i].1,.ref b'):=by
   rw[Array.getElem?_eq_getElem hi,←hy]
  have hst:∀y∈((es.filter fun x=>x.1 == h).toList.map fun x=>x.2),∃b' k',y=Value.ref b'/\IsTupleKey knd s.heap k' b':=fun y hy=>by
   obtain⟨e0,he0,rfl⟩:=List.mem_map.mp hy
   have he1:e0∈es.toList:=by
    have:=Array.mem_toList_iff.mp he0
    exact Array.mem_toList_iff.mpr (Array.mem_filter.mp this).1
   obtain⟨b3,k3,h1,h2⟩:=hall e0 he1
   exact⟨b3,k3,h1,h2⟩
  have eK:∀x,Tb.aM t (k'+1+x) (stand.getD (t.probeStart h))=Tb.aM t x (Tb.aM t (k'+1) (stand.getD (t.probeStart h))):=fun x=>Tb.gr t _ _ _
  have again:k2≠k->wpAny (model P w) A (setSearchFrom a (.ref b) h true f (some (Tb.aM t (k'+1) (stand.getD (t.probeStart h))))) Q E s:=fun hne2=>by
   have hlt:k'<K:=by
    rcases Nat.lt_or_ge k' K with q | q
    ·exact q
    ·have:k'=K:=by omega
     subst this
     rw[hs]at hl
     cases hl
     rw[hb0]at hes
     cases hes
     obtain⟨o1,i1,n1,z1,_,z2,z3⟩:=hk2
     obtain⟨o2,i2,n2,y1,_,y2,y3⟩:=hkb0
     rw[z1]at y1
     cases y1
     rw[z2]at y2
     cases y2
     exact absurd (z3.inj y3) hne2
   refine ih (K-(k'+1)) (by omega) f _ (by omega) (by omega) ?_ (fun x hx=>?_) ?_
   ·show(Tb.aM t (k'+1) _).dummy=none
    rw[Tb.jl]
    exact hdu
   ·show t.slot (Tb.aM t x (Tb.aM t (k'+1) _)).j≠_
    rw[←eK]
    exact hne _ (by omega)
   ·show t.slot (Tb.aM t (K-(k'+1)) (Tb.aM t (k'+1) _)).j=_
    rw[←eK,show k'+1+(K-(k'+1))=K by omega]
    exact hs
  have same:isSame (Value.ref b') (Value.ref b')=pure true:=by
   unfold isSame
   simp
  have fin:wpAny (model P w) A (do
    let equal ←holding [Value.ref b'] (eqBool (.ref b') (.ref b))
    let (es',_,t') ←setState a
    if(true && equal)=true then return SetFound.there none
    let some same:=t'.sameMemory t.moves t.mask | unsupported "set.changed-during-lookup:is-the-new-block-at-the-old-address"
    let still ←match (if same=true then t'.slot (Tb.aM t k' (stand.getD (t.probeStart h))).j else .empty)with
     | .live i'=>match es'[i']? with
      | some (_,y')=>do pure (if ←isSame y' (.ref b')then some i' else none)
      | none=>pure none
     | _=>pure none
    match still with
    | none=>rule "set.search.anew";setSearchFrom a (.ref b) h true f none
    | some i'=>if equal=true then return .there (some i')else setSearchFrom a (.ref b) h true f (some (Tb.aM t (k'+1) (stand.getD (t.probeStart h))))) Q E s:=by
   refine Em (wpAny_holding (wpAny_eqBool_tuple hu hk2 hk ?_))
   refine Em (wpAny_setState_of ho hd hf ?_)
   dsimp only
   by_cases hq:k2=k
   ·rw[decide_eq_true hq]
    simp only[Bool.and_self,if_true]
    exact En hQ
   ·rw[decide_eq_false hq]
    simp only[Bool.and_false,Bool.false_eq_true,if_false,hsm,if_true,hl,hes,same]
    exact Em (En (Em (En (again hq))))
  dsimp only
  cases hled:t.led
  ·simp only[Bool.not_false,if_true]
   refine Em (qw hk hst ?_)
   simp only[Bool.false_eq_true,if_false]
   rw[hes]
   exact fin
  ·simp only[Bool.not_true,Bool.false_eq_true,if_false]
   rw[hes]
   exact fin
theorem jg{h h':Heap}{a b:Addr}{k:List K}{o:Obj}{es:Array (Int×Value)}{ep:Nat}{t:SetTable}(hk:IsTupleKey knd h k b)(ho:h.get? a=some o)(hd:o.data=.set es ep t)(hs:Heap.SameBut a h h'):IsTupleKey knd h' k b:=by
 obtain⟨o',items,n,ho',hc,hd',hi⟩:=hk
 have hne:b≠a:=by
  rintro rfl
  rw[ho]at ho'
  cases ho'
  rw[hd]at hd'
  cases hd'
 exact⟨o',items,n,(hs.2 b hne).trans ho',hc,hd',hi⟩
theorem uQ(n:Nat){v:Value}(h:∀b,v≠.ref b):∃c,hashByValue n v=pure c:=by
 cases v with
 | ref b=>exact absurd rfl (h b)
 | _=>exact⟨_,by cases n<;>unfold hashByValue<;>rfl⟩
theorem Cn{ks:List K}{b:Addr}{Q:Bool->Shared->Prop}(hk:IsTupleKey knd s.heap ks b)(h:∀c,Q c s):wpAny (model P w) A (hashByValue 8 (.ref b)) Q E s:=by
 have hT:=hk.typeIs
 obtain⟨o,items,n,ho,hc,hd,hi⟩:=hk
 unfold hashByValue
 refine Em (wpAny_specialOf hT F.slot_tuple_hash.lookup ?_)
 dsimp only
 refine Em (wpAny_seqItems ho hd ?_)
 dsimp only[Option.getD_some]
 refine Em ?_
 rw[←Array.forIn_toList]
 refine wpAny_forIn_list _ (fun rest r s'=>(r.1=none\/∃c,r.1=some c)/\s'=s/\∀v∈rest,∀b,v≠.ref b) _ ?_ ?_ _ _ ⟨.inl rfl,rfl,mW hi⟩
 ·rintro v rest r s' ⟨hr,rfl,hall⟩
  obtain⟨c,hc'⟩:=uQ 7 (hall v EC)
  rw[hc']
  refine Em (En ?_)
  cases c
  ·show wpAny _ _ (pure (ForInStep.done (some false,()))) _ _ _
   exact En (En (h false))
  ·simp only[Bool.not_true,Bool.false_eq_true,if_false]
   exact En ⟨.inl rfl,rfl,fun u hu=>hall u (Ez _ hu)⟩
 ·rintro⟨r1,r2⟩ s' ⟨hr,rfl,_⟩
  simp only at hr
  rcases hr with rfl | ⟨c,rfl⟩
  ·exact En (h true)
  ·exact En (h c)
theorem zH{α:Type}{es:Array α}{order:Array Nat}(h:order.toList.Perm (List.range es.size)):(order.filterMap (es[·]?)).size=es.size/\∀e∈(order.filterMap (es[·]?)).toList,e∈es.toList:=by
 have key:∀l:List Nat,(∀i∈l,i<es.size)->(l.filterMap (es[·]?)).length=l.length/\∀e∈l.filterMap (es[·]?),e∈es.toList:=by
  intro l
  induction l with
  | nil=>intro _;exact⟨rfl,fun e he=>by cases he⟩
  | cons x l ih=>
   intro hl
   obtain⟨i1,i2⟩:=ih fun i hi=>hl i (Ez _ hi)
   have hx:=hl x EC
   have e:(x::l).filterMap (es[·]?)=es[x]::l.filterMap (es[·]?):=by
    rw[List.filterMap_cons]
    simp[hx]
   rw[e]
   refine⟨by rw[EY,EY,i1],fun y hy=>?_⟩
   rcases EK.mp hy with rfl | hy
   ·simp
   ·exact i2 y hy
 have hlt:∀i∈order.toList,i<es.size:=fun i hi=>List.mem_range.mp (h.mem_iff.mp hi)
 obtain⟨k1,k2⟩:=key order.toList hlt
 rw[Array.toList_filterMap]
 refine⟨?_,k2⟩
 rw[←EA,Array.toList_filterMap,k1,h.length_eq,List.length_range]
theorem Ah{α:Type}{es:Array α}{order:Array Nat}(h:order.toList.Perm (List.range es.size)):(order.filterMap (es[·]?)).toList.Perm es.toList:=by
 rw[Array.toList_filterMap]
 have e:(List.range es.size).filterMap (es[·]?)=es.toList:=by
  apply List.ext_getElem?
  intro n
  have e0:es.toList[n]?=es[n]?:=Array.getElem?_toList
  rw[e0,Tb.nh es _ (fun i hi=>List.mem_range.mp hi)]
  by_cases hn:n<es.size
  ·rw[List.getElem?_range hn]
   rfl
  ·have e1:(List.range es.size)[n]?=none:=List.getElem?_eq_none (by rw[List.length_range];omega)
   rw[e1,Array.getElem?_eq_none (by omega)]
   rfl
 rw[←e]
 exact h.filterMap _
end
section
variable {P:Program} {w:World} {A:Around} {E:Value->Shared->Prop} {s:Shared}
theorem items_str{ks:List Key}{vs:List Value}(h:ItemsAre (aO P w) ks vs){x:Str}(hx:Sum.inr x∈ks):∃t,Value.str x t∈vs:=by
 induction h with
 | nil=>cases hx
 | @cons k v ks vs hk _ ih=>
  rcases EK.mp hx with rfl | hx
  ·rcases eS (show fX (.inr x) v=true from hk)with⟨i,t,e,_⟩ | ⟨y,t,e,rfl⟩
   ·cases e
   ·cases e
    exact⟨t,EC⟩
  ·obtain⟨t,ht⟩:=ih hx
   exact⟨t,Ez _ ht⟩
theorem B6{ks:List Key}{b:Addr}{x:Str}{Q:Bool->Shared->Prop}(hk:IsTupleKey (aO P w) s.heap ks b)(hx:Sum.inr x∈ks)(h:Q false s):wpAny (model P w) A (hashByValue 8 (.ref b)) Q E s:=by
 have hT:=hk.typeIs
 obtain⟨o,items,n,ho,hc,hd,hi⟩:=hk
 unfold hashByValue
 refine Em (wpAny_specialOf hT F.slot_tuple_hash.lookup ?_)
 dsimp only
 refine Em (wpAny_seqItems ho hd ?_)
 dsimp only[Option.getD_some]
 refine Em ?_
 rw[←Array.forIn_toList]
 refine wpAny_forIn_list _ (fun rest r s'=>r.1=none/\s'=s/\(∀v∈rest,∀b,v≠.ref b)/\∃t,Value.str x t∈rest) _ ?_ ?_ _ _ ⟨rfl,rfl,mW hi,items_str hi hx⟩
 ·rintro v rest r s' ⟨hr,rfl,hall,t,ht⟩
  obtain⟨c,hc'⟩:=uQ 7 (hall v EC)
  rw[hc']
  refine Em (En ?_)
  cases c
  ·show wpAny _ _ (pure (ForInStep.done (some false,()))) _ _ _
   exact En (En h)
  ·simp only[Bool.not_true,Bool.false_eq_true,if_false]
   refine En ⟨rfl,rfl,fun u hu=>hall u (Ez _ hu),t,?_⟩
   rcases EK.mp ht with rfl | ht
   ·exact absurd hc' (fun z=>by
     have:hashByValue 7 (Value.str x t)=pure false:=by unfold hashByValue;rfl
     rw[this]at z
     injection z with z
     cases z)
   ·exact ht
 ·rintro⟨r1,r2⟩ s' ⟨hr,rfl,_,t,ht⟩
  cases ht
def dM(P:Program)(w:World)(B:Addr->List Key->Prop)(h:Heap)(a:Addr)(ks:List (List Key)):Prop:=ks.Nodup ∧
 ∃o es ep t,h.get? a=some o/\o.ExactSet/\o.data=.set es ep t/\t.dummies = #[]/\Tb.Mask t.mask/\es.size*5<t.mask*3/\es.size=ks.length/\Tb.TOk t.mask t.place (es.map (·.1)) ∧
  (∀e∈es.toList,∃b k,e=(tupleKeyHash (aO P w) k,.ref b)/\k∈ks/\IsTupleKey (aO P w) h k b/\B b k)/\(∀k∈ks,∃b,(tupleKeyHash (aO P w) k,.ref b)∈es.toList/\IsTupleKey (aO P w) h k b)/\((∀k∈ks,∃x,Sum.inr x∈k)->ks=[]\/t.plain=false)
theorem zy{B:Addr->List Key->Prop}{a:Addr}{o:Obj}{es es1:Array (Int×Value)}{ep n:Nat}{t t1:SetTable}{ks1:List (List Key)}{Q:Bool->Shared->Prop}(hnd:ks1.Nodup)(ho:s.heap.get? a=some o)(hex:o.ExactSet)(hd:o.data=.set es ep t)(hs1:es1.size=n+1)(hdm1:t1.dummies = #[])
  (hm1:Tb.Mask t1.mask) (hfull:n*5<t1.mask*3) (hn:n<1400) (hlen:ks1.length=n+1) (hT1:Tb.TOk t1.mask t1.place (es1.map (·.1))) (hall1:∀e∈es1.toList,∃b k,e=(tupleKeyHash (aO P w) k,.ref b)/\k∈ks1/\IsTupleKey (aO P w) s.heap k b/\B b k)
  (hin1:∀k∈ks1,∃b,(tupleKeyHash (aO P w) k,.ref b)∈es1.toList/\IsTupleKey (aO P w) s.heap k b) (hpl1:(∀k∈ks1,∃x,Sum.inr x∈k)->t1.plain=false)
  (h:∀h',Heap.SameBut a s.heap h'->dM P w B h' a ks1->Q true { s with heap:=h' }) :
  wpAny (model P w) A (do
   storeSet a es1 t1
   if(!false && t1.tooFull)=true then do
    setRelay a (SetTable.grown (n+1))
    pure true
   else pure true) Q E s:=by
 have hline:n+1<=sizeLine:=E4 (show n+1<=10000 by omega) (by decide)
 have hp1:t1.place.size=es1.size:=by rw[hT1.len,Array.size_map]
 refine Em (wpAny_storeSet_of ho hd ?_ (by omega))
 have ho1:(s.heap.update a (Obj.putSet es1 t1)).get? a=some { o with data:=.set es1 (ep+1) t1 }:=by
  have:=Heap.get?_update_self (Obj.putSet es1 t1) ho (by rw[putSet_of es1 t1 hd];rfl)
  rw[putSet_of es1 t1 hd]at this
  exact this
 have hsb1:=Heap.SameBut.update s.heap a (Obj.putSet es1 t1)
 generalize s.heap.update a (Obj.putSet es1 t1)=h1 at ho1 hsb1
 have hall2:∀e∈es1.toList,∃b k,e=(tupleKeyHash (aO P w) k,.ref b)/\k∈ks1/\IsTupleKey (aO P w) h1 k b/\B b k:=fun e he=>by
  obtain⟨b,k,z1,z2,z3,z4⟩:=hall1 e he
  exact⟨b,k,z1,z2,jg z3 ho hd hsb1,z4⟩
 have hin2:∀k∈ks1,∃b,(tupleKeyHash (aO P w) k,.ref b)∈es1.toList/\IsTupleKey (aO P w) h1 k b:=fun k hk=>by
  obtain⟨b,z1,z2⟩:=hin1 k hk
  exact⟨b,z1,jg z2 ho hd hsb1⟩
 have hfill:t1.fill=n+1:=by
  unfold SetTable.fill
  rw[hdm1,hp1,hs1]
  rfl
 by_cases hq:t1.tooFull=true
 ·rw[hq]
  simp only[Bool.not_false,Bool.and_self,if_true]
  have hq':t1.mask*3<=(n+1)*5:=by
   unfold SetTable.tooFull at hq
   rw[hfill]at hq
   simpa using hq
  obtain⟨m,hm,hw,hmn,hlt⟩:∃m,Tb.Mask m/\SetTable.sizeAbove (SetTable.grown (n+1))-1=m/\n+1<=m/\(n+1)*5<m*3/\SetTable.sizeAbove (SetTable.grown (n+1))<=sizeLine:=by
   have hg:SetTable.grown (n+1)=(n+1)*4:=by
    unfold SetTable.grown
    rw[if_neg (by omega)]
   rw[hg]
   rcases hm1 with e | e | e | e | e | e<;>rw[e]at hfull hq'
   ·obtain rfl:n=4:=by omega
    exact⟨31,.inr (.inl rfl),Tb.AS,by omega,by omega,by decide +kernel⟩
   ·obtain rfl:n=18:=by omega
    exact⟨127,.inr (.inr (.inl rfl)),Tb.Bi,by omega,by omega,by decide +kernel⟩
   ·obtain rfl:n=76:=by omega
    exact⟨511,.inr (.inr (.inr (.inl rfl))),Tb.AZ,by omega,by omega,by decide +kernel⟩
   ·obtain rfl:n=306:=by omega
    exact⟨2047,.inr (.inr (.inr (.inr (.inl rfl)))),Tb.Cg,by omega,by omega,by decide +kernel⟩
   ·obtain rfl:n=1228:=by omega
    exact⟨8191,.inr (.inr (.inr (.inr (.inr rfl)))),Tb.BF,by omega,by omega,by decide +kernel⟩
   ·omega
  have hfit1:t1.fits es1.size=true:=by
   simp only[SetTable.fits,E9,beq_iff_eq,decide_eq_true_eq]
   refine⟨hp1,?_⟩
   rw[hfill]
   rcases hm1 with e | e | e | e | e | e<;>omega
  obtain⟨t2,order,hrel,hp2,hd2,hm2,hperm,_,hpl2,hT2⟩:=Tb.BA t1 (es:=es1) hm hw (by omega)
  obtain⟨r1,r2⟩:=zH hperm
  have r3:=Ah hperm
  refine Em ?_
  unfold setRelay
  refine Em (wpAny_setState_of (s:={ s with heap:=h1 }) ho1 rfl hfit1 ?_)
  dsimp only
  rw[if_neg (Nat.not_lt.mpr hlt.2),hrel]
  refine Em ?_
  show wpAny _ _ (do
   if(order.filterMap (es1[·]?)).size != es1.size then unsupported "internal:set-table-lost-an-element"
   pure (order.filterMap (es1[·]?),t2)) _ _ _
  rw[r1]
  simp only[bne_self_eq_false,Bool.false_eq_true,if_false]
  refine En ?_
  dsimp only
  refine wpAny_storeSet_of (s:={ s with heap:=h1 }) ho1 rfl ?_ (by rw[r1];omega)
  have ho2:(h1.update a (Obj.putSet (order.filterMap (es1[·]?)) t2)).get? a=some { o with data:=.set (order.filterMap (es1[·]?)) (ep+1+1) t2 }:=by
   have:=Heap.get?_update_self (Obj.putSet (order.filterMap (es1[·]?)) t2) ho1 (by rw[putSet_of _ _ (o:={ o with data:=.set es1 (ep+1) t1 }) rfl];rfl)
   rw[putSet_of _ _ (o:={ o with data:=.set es1 (ep+1) t1 }) rfl]at this
   exact this
  have hsb2:=Heap.SameBut.update h1 a (Obj.putSet (order.filterMap (es1[·]?)) t2)
  refine En (h _ (hsb1.trans hsb2) ⟨hnd,_,_,_,t2,ho2,hex,rfl,hd2,by rw[hm2];exact hm,by rw[r1,hm2,hs1];exact hlt.1,by rw[r1,hs1,hlen],by rw[hm2];exact hT2,fun e he=>?_,fun k hk=>?_,fun hx=>.inr (hpl2.trans (hpl1 hx))⟩)
  ·obtain⟨b,k,z1,z2,z3,z4⟩:=hall2 e (r2 e he)
   exact⟨b,k,z1,z2,jg z3 ho1 rfl hsb2,z4⟩
  ·obtain⟨b,z1,z2⟩:=hin2 k hk
   exact⟨b,r3.mem_iff.mpr z1,jg z2 ho1 rfl hsb2⟩
 ·have hq0:t1.tooFull=false:=by simpa using hq
  rw[hq0]
  simp only[Bool.and_false,Bool.false_eq_true,if_false]
  have hq':(n+1)*5<t1.mask*3:=by
   unfold SetTable.tooFull at hq0
   rw[hfill]at hq0
   simpa using hq0
  exact En (h h1 hsb1 ⟨hnd,_,es1,_,t1,ho1,hex,rfl,hdm1,hm1,by rw[hs1];exact hq',by rw[hs1,hlen],hT1,hall2,hin2,fun hx=>.inr (hpl1 hx)⟩)
theorem tR{α:Type}{xs:Array α}{p:Nat}{x e:α}(h:e=x\/e∈xs.toList):e∈(SetTable.insertAt xs p x).toList:=by
 rw[Tb.ie]
 rcases h with rfl | h
 ·exact List.mem_append_right _ EC
 ·rw[←List.take_append_drop p xs.toList]at h
  rcases EU.mp h with a | a
  ·exact List.mem_append_left _ a
  ·exact List.mem_append_right _ (Ez _ a)
theorem ins_map{α β:Type}(f:α->β)(xs:Array α)(p:Nat)(x:α):(SetTable.insertAt xs p x).map f=SetTable.insertAt (xs.map f) p (f x):=by
 apply Array.toList_inj.mp
 rw[Array.toList_map,Tb.ie,Tb.ie,Array.toList_map]
 simp
theorem Cz{B:Addr->List Key->Prop}{a b:Addr}{k:List Key}{ks:List (List Key)}{Q:Bool->Shared->Prop}(hu:A.units<cLine)(hk:IsTupleKey (aO P w) s.heap k b)(hB:B b k)(hS:dM P w B s.heap a ks)(hsz:ks.length<1400)
  (h:∀h' r ks',Heap.SameBut a s.heap h'->dM P w B h' a ks'->ks'.length<=ks.length+1->(∀x,x∈ks'↔x∈ks\/x=k)->Q r { s with heap:=h' }):wpAny (model P w) A (setAddHashed a (.ref b) (tupleKeyHash (aO P w) k)) Q E s:=by
 obtain⟨hnd,o,es,ep,t,ho,hex,hd,hdm,hm,hfull,hlen,hT,hall,hin,hpl⟩:=id hS
 have hp:t.place.size=es.size:=by rw[hT.len,Array.size_map]
 have hle:es.size<=t.mask:=by omega
 have hf:t.fits es.size=true:=by
  simp only[SetTable.fits,E9,beq_iff_eq,decide_eq_true_eq]
  refine⟨hp,?_⟩
  unfold SetTable.fill
  rw[hdm,hp]
  simpa using hle
 have hturn:10*SetTable.turns t.mask<100000:=by
  unfold SetTable.turns
  rcases hm with e | e | e | e | e | e<;>rw[e]<;>decide
 have hst:∀x,(Tb.aM t x (Option.getD none (t.probeStart (tupleKeyHash (aO P w) k)))).j=Tb.pm t.mask (tupleKeyHash (aO P w) k) x:=fun x=>Tb.rX t _ x
 unfold setAddHashed setAddHashedIn
 refine wpAny_holding (Em (wpAny_setState_of ho hd hf ?_))
 dsimp only
 have hsc:byScan (.ref b) es=false:=rfl
 rw[hsc]
 simp only[Bool.false_eq_true,if_false]
 unfold setSearch
 rcases Classical.em (k∈ks)with hold | hold
 ·obtain⟨b0,hb0,hkb0⟩:=hin k hold
  obtain⟨i0,hi0⟩:=List.getElem?_of_mem hb0
  rw[Array.getElem?_toList]at hi0
  have hi0s:=(Array.getElem?_eq_some_iff.mp hi0).1
  obtain⟨j0,hj0⟩:∃j0,t.place[i0]?=some j0:=⟨_,getElem?_pos t.place i0 (by omega)⟩
  obtain⟨K,q1,q2,q3⟩:=hT.rch i0 j0 (tupleKeyHash (aO P w) k) hj0 (by rw[Array.getElem?_map,hi0];rfl)
  refine Em (Av hu hk ho hd hf hm hdm (fun e he=>?_) ⟨b0,hi0,hkb0⟩ ?_ K 100000 none (by omega) q1 rfl (fun x hx=>?_) ?_)
  ·obtain⟨b',k',e1,_,e3,_⟩:=hall e he
   exact⟨b',k',by rw[e1],e3⟩
  ·dsimp only
   refine En ?_
   have e:s={ s with heap:=s.heap }:=by cases s;rfl
   rw[e]
   exact h s.heap _ ks (Heap.SameBut.refl a s.heap) hS (Nat.le_succ _) fun x=>⟨.inl,fun z=>z.elim id fun e=>e ▸ hold⟩
  ·rw[hst]
   obtain⟨i,e,_⟩:=Tb.qK hT.inc (q3 x hx)
   rw[e]
   intro z
   cases z
  ·rw[hst,q2]
   exact Tb.slot_mem hT.inc hj0
 ·obtain⟨K,q1,q2,q3⟩:=Tb.xS hdm hm (by rw[hp];exact hle) (tupleKeyHash (aO P w) k)
  have hall':∀e∈es.toList,∃b' k',e.2=.ref b'/\IsTupleKey (aO P w) s.heap k' b'/\k'≠k:=fun e he=>by
   obtain⟨b',k',h1,h2,h3,_⟩:=hall e he
   exact⟨b',k',by rw[h1],h3,fun z=>hold (z ▸ h2)⟩
  refine Em (zL hu hk ho hd hf hm hdm hall' K 100000 none (by omega) q1 rfl (fun x hx=>by rw[hst];exact q3 x hx) (by rw[hst];exact q2) ?_)
  rw[hst]
  dsimp only
  refine Em (wpAny_setState_of ho hd hf ?_)
  dsimp only
  have hnm:=Tb.DX hT.inc q2
  have hTp:=hT.put q1 hnm (fun x hx=>Tb.Bz hdm (q3 x hx))
  have hput:(t.put (Tb.pm t.mask (tupleKeyHash (aO P w) k) K)).1.dummies = #[]:=by
   show(if SetTable.has t.dummies _=true then _ else t.dummies) = #[]
   rw[hdm,Tb.vO]
   rfl
  generalize Tb.pm t.mask (tupleKeyHash (aO P w) k) K=j at hTp hput
  have hT1:Tb.TOk t.mask (t.put j).1.place ((SetTable.insertAt es (t.put j).2 (tupleKeyHash (aO P w) k,Value.ref b)).map (·.1)):=by
   rw[ins_map]
   exact hTp
  have hins:∀e∈(SetTable.insertAt es (t.put j).2 (tupleKeyHash (aO P w) k,Value.ref b)).toList,∃b' k',e=(tupleKeyHash (aO P w) k',.ref b')/\k'∈k::ks/\IsTupleKey (aO P w) s.heap k' b'/\B b' k':=fun e he=>by
   rcases Tb.A5 he with rfl | he
   ·exact⟨b,k,rfl,EC,hk,hB⟩
   ·obtain⟨b',k',z1,z2,z3,z4⟩:=hall e he
    exact⟨b',k',z1,Ez _ z2,z3,z4⟩
  have hin':∀k'∈k::ks,∃b',(tupleKeyHash (aO P w) k',Value.ref b')∈(SetTable.insertAt es (t.put j).2 (tupleKeyHash (aO P w) k,Value.ref b)).toList/\IsTupleKey (aO P w) s.heap k' b':=fun k' hk'=>by
   rcases EK.mp hk' with rfl | hk'
   ·exact⟨b,tR (.inl rfl),hk⟩
   ·obtain⟨b',z1,z2⟩:=hin k' hk'
    exact⟨b',tR (.inr z1),z2⟩
  have hnd':(k::ks).Nodup:=List.nodup_cons.mpr ⟨hold,hnd⟩
  have h':∀h',Heap.SameBut a s.heap h'->dM P w B h' a (k::ks)->Q true { s with heap:=h' }:=fun h2 sb hS'=>h h2 true _ sb hS' (ER _) fun x=>by rw[EK];exact⟨fun z=>z.symm,fun z=>z.symm⟩
  have fin:∀c:Bool,((∀k'∈k::ks,∃x,Sum.inr x∈k')->(t.put j).1.plain=false\/c=false)->wpAny (model P w) A (do
    storeSet a (SetTable.insertAt es (t.put j).2 (tupleKeyHash (aO P w) k,Value.ref b)) (if c=true then(t.put j).1 else{ (t.put j).1 with plain:=false })
    if(!false && (if c=true then(t.put j).1 else{ (t.put j).1 with plain:=false }).tooFull)=true then do
     setRelay a (SetTable.grown (es.size+1))
     pure true
    else pure true) Q E s:=fun c hcp=>by
   refine zy (ks1:=k::ks) hnd' ho hex hd (Tb.mK _ _ _) ?_ ?_ ?_ (by omega) (by rw[EY,hlen]) ?_ hins hin' ?_ h'
   ·cases c<;>exact hput
   ·cases c<;>exact hm
   ·cases c<;>exact hfull
   ·cases c<;>exact hT1
   ·intro hx
    cases c
    ·rfl
    ·rcases hcp hx with z | z
     ·exact z
     ·cases z
  cases hpl':(t.put j).1.plain
  ·simp only[Bool.false_eq_true,if_false]
   exact Em (En (fin true fun _=>.inl hpl'))
  ·simp only[if_true]
   rcases Classical.em (∃x,Sum.inr x∈k)with⟨x,hx⟩ | hx
   ·exact Em (B6 hk hx (fin false fun _=>.inr rfl))
   ·exact Em (Cn hk fun c=>fin c fun hall=>absurd (hall k EC) hx)
end
section
variable {P:Program} {w:World} {A:Around} {I:Addr} {fp wr:List Addr} {G:Array GenState->Array GenState->Prop} {n:Nat} {Pz:Nat->Value->Prop} {St:Nat->Shared->Prop}
theorem dM.moved{B:Addr->List Key->Prop}{h h':Heap}{a:Addr}{ks:List (List Key)}{wr:List Addr}(hS:dM P w B h a ks)(hk:∀b o,b∉wr->h.get? b=some o->h'.get? b=some o)(ha:a∉wr)(hw:∀b∈wr,∀o,h.get? b=some o->∃vs,o.data=.fields vs):dM P w B h' a ks:=by
 obtain⟨hnd,o,es,ep,t,ho,hex,hd,h1,h2,h3,h4,h5,hall,hin,hpl⟩:=hS
 have mv:∀k b,IsTupleKey (aO P w) h k b->IsTupleKey (aO P w) h' k b:=fun k b ⟨o',items,m,ho',hc,hd',hi⟩=>⟨o',items,m,hk b o' (fun hb=>by
   obtain⟨vs,hv⟩:=hw b hb o' ho'
   rw[hd']at hv
   cases hv) ho',hc,hd',hi⟩
 refine⟨hnd,o,es,ep,t,hk a o ha ho,hex,hd,h1,h2,h3,h4,h5,fun e he=>?_,fun k hk=>?_,hpl⟩
 ·obtain⟨b,k,z1,z2,z3,z4⟩:=hall e he
  exact⟨b,k,z1,z2,mv k b z3,z4⟩
 ·obtain⟨b,z1,z2⟩:=hin k hk
  exact⟨b,z1,mv k b z2⟩
theorem xn{B:Addr->List Key->Prop}(W:WalksS P w A.in1 I fp wr G n Pz St)(S:Addr)(hS:S∉fp)(hu:A.in1.units<cLine)(bs:List Addr)(kk:List (List Key))(hnk:kk.length=n)(hBk:∀(j:Nat) b k,bs[j]?=some b->kk[j]?=some k->B b k)(hsz:n<1400)
  (hval:∀i v,Pz i v->∃b,v=.ref b/\bs[i]?=some b) (hwr:∀i s,St i s->∀b∈wr,∀o,s.heap.get? b=some o->∃vs,o.data=.fields vs) {R:Result->Shared->Prop} :
  ∀(m i:Nat) (s:Shared) (D:List (List Key)),n-i=m->i<=n->St i s->dM P w B s.heap S D->D.length<=i->(∀k,k∈D↔k∈kk.take i)->(∀(j:Nat) (b:Addr) (k:List Key),bs[j]?=some b->kk[j]?=some k->IsTupleKey (aO P w) s.heap k b) →
   (∀s' D,Moved (S::wr) G s s'->dM P w B s'.heap S D->(∀k,k∈D↔k∈kk)->R (.ok (.ret .none)) s') →
   codeAny (model P w) A (.builtin "set.update.loop" ⟨[.ref S,.ref I],[]⟩) R s:=by
 have hSw:S∉wr:=fun z=>hS (W.sub _ z)
 have more:∀b∈wr,b∈S::wr:=fun b z=>Ez _ z
 intro m
 induction m with
 | zero=>
  intro i s D hm hi hst hset _ hD hkeys hR
  obtain rfl:i=n:=by omega
  refine codeAny_builtin F.entry_set_update_loop ?_
  rw[Around.under_plainId F.plain_set_update_loop _]
  show wpAny _ A.in1 (pyNext (.ref I) >>= _) _ _ s
  refine Em (W.done s _ _ hst fun s' mv=>?_)
  rw[←hnk,EZ]at hD
  exact En (hR s' D (mv.mono more) (hset.moved mv.heap hSw (hwr _ s hst)) hD)
 | succ m ih=>
  intro i s D hm hi hst hset hDl hD hkeys hR
  have hlt:i<n:=by omega
  refine codeAny_builtin F.entry_set_update_loop ?_
  rw[Around.under_plainId F.plain_set_update_loop _]
  show wpAny _ A.in1 (pyNext (.ref I) >>= _) _ _ s
  refine Em (W.item i s _ _ hlt hst fun v s' hP hst' mv=>?_)
  obtain⟨b,rfl,hb⟩:=hval i v hP
  have hki:kk[i]?=some kk[i]:=Ex (by omega)
  have hset':=hset.moved mv.heap hSw (hwr _ s hst)
  have hkeys':∀(j:Nat) (b:Addr) (k:List Key),bs[j]?=some b->kk[j]?=some k->IsTupleKey (aO P w) s'.heap k b:=fun j b k e1 e2=>by
   obtain⟨o',items,q,ho',hc,hd',hi'⟩:=hkeys j b k e1 e2
   refine⟨o',items,q,mv.heap b o' (fun hbw=>?_) ho',hc,hd',hi'⟩
   obtain⟨vs,hv⟩:=hwr _ s hst b hbw o' ho'
   rw[hd']at hv
   cases hv
  show wpAny _ A.in1 (holding [Value.ref b] (setAdd S (.ref b)) >>= _) _ _ s'
  refine Em (wpAny_holding ?_)
  unfold setAdd
  refine wpAny_holding (Em (wpAny_pyHash_tuple hu (hkeys' i b _ hb hki) ?_))
  refine Cz (s:={ s' with toks:=s'.toks+(kk[i].length+1) }) hu (hkeys' i b _ hb hki) (hBk i b _ hb hki) hset' (by omega) fun h' r D1 sb hset2 hD1l hD1=>?_
  have htk:∀k,k∈D1↔k∈kk.take (i+1):=fun k=>by
   rw[hD1,hD k,List.take_add_one,hki,EU]
   simp
  obtain⟨_,oS,esS,epS,tS,hoS,_,hdS,_⟩:=id hset'
  refine En ⟨plainId_quiet F.plain_set_update_loop _,ih (i+1) _ _ (by omega) hlt (W.frame _ s' _ _ hst' (Nat.le_add_right _ _) fun c hc o e=>?_) hset2 (by omega) htk (fun j c k e1 e2=>jg (hkeys' j c k e1 e2) hoS hdS sb) fun s'' D2 mv2 hS2=>?_⟩
  ·rw[sb.2 c (fun z:c=S=>hS (z ▸ hc))]
   exact e
  ·refine hR s'' D2 (Moved.trans W.gtrans ((mv.mono more).then_heap (Nat.le_add_right _ _) fun c o hc e=>?_) mv2) hS2
   rw[sb.2 c (fun z:c=S=>hc (by rw[z];exact EC))]
   exact e
end
end L2
namespace L2
open PySem PySem.Spec PyProof.Rows
section
variable {P:Program} {w:World} {A:Around} {E:Value->Shared->Prop} {s:Shared}
abbrev cF(led:Bool):Obj:={ cls:=.type "set",dict:=none,data:=.set #[] 0 (.fresh 0 0 led) }
def i8(P:Program)(w:World)(s:Shared)(bs:List Addr)(kk D:List (List Key))(h':Heap):Prop:=
 dM P w (fun b k=>∃j:Nat,bs[j]?=some b/\kk[j]?=some k) h' s.heap.objs.size D/\(∀k,k∈D↔k∈kk)/\∀b o,b<s.heap.objs.size->s.heap.get? b=some o->h'.get? b=some o
theorem zx:isSubtype (.type "tuple") (.type "frozenset")=pure false:=by
 rw[isSubtype_type]
 kernel_rfl
theorem yD{t:Addr}{ys:Array Value}{bs:List Addr}{kk:List (List Key)}{Q:Value->Shared->Prop}(hA:A.handled=none)(hu:A.units+5<cLine)(gt:s.heap.IsTuple t ys)(hb:ys.toList=bs.map Value.ref)
  (hn:kk.length=ys.size) (hz:ys.size<1400) (hkey:∀(j:Nat) (b:Addr) (k:List Key),bs[j]?=some b->kk[j]?=some k->IsTupleKey (aO P w) s.heap k b)
  (h:∀(h':Heap) (tk:Nat) (D:List (List Key)),i8 P w s bs kk D h'->Q (.ref s.heap.objs.size) { s with heap:=h',toks:=tk }):wpAny (model P w) A (call (.type "set") [.ref t]) Q E s:=by
 have x1:=F.called_set.notType
 have x2:=F.called_set.canCreate
 have x3:=F.typeCall_set_1 (.ref t)
 have x4:=F.called_set.made
 have x5:=F.called_set.sub
 obtain⟨c,tl,x6⟩:=F.called_set.mro
 refine wpAny_call (codeAny_of_tree ?_)
 show wpAny _ _ (callAny (.type "set") _) _ _ _
 refine En ⟨Code.quiet_builtin _ (by decide +kernel),codeAny_builtin F.entry_type_call ?_⟩
 rw[Around.under_plain (weight_type_call_type "set" [.ref t] []) rfl]
 repeat (any_goals (first | assumption | wp_step))
 refine codeAny_mono (code_set_new_1 (.ref t) (E:=E) (Q₁:=fun v s1=>∃led,v=.ref s.heap.objs.size/\s1={ s with heap:=s.heap.push (cF led) }) fun led=>⟨led,rfl,rfl⟩) fun r s1 hr=>?_
 cases r with
 | error e=>exact hr
 | ok fl=>
  cases fl with
  | ret v=>
   obtain⟨led,rfl,rfl⟩:=hr
   have gS:(s.heap.push (cF led)).get? s.heap.objs.size=some (cF led):=Er _ rfl
   have hT:Shared.TypeIs { s with heap:=s.heap.push (cF led) } (.ref s.heap.objs.size) "set":=⟨_,gS,rfl⟩
   have x7:=F.called_set.init.lookup
   have x8:=F.called_set.init.bind (.ref s.heap.objs.size)
   repeat (any_goals (first | assumption | wp_step))
   refine codeAny_mono (codeAny_call_builtin (R:=wants (fun r s2=>r=.none/\∃h' tk D,s2={ s with heap:=h',toks:=tk }/\i8 P w s bs kk D h') E) F.called_set.init.plain F.entry_set_init (check_set_init_1 hT ?_)) fun r2 s2 hr2=>?_
   ·have g1:(s.heap.push (cF led)).IsTuple t ys:=gt.push _
    have hlt:t<s.heap.objs.size:=by
     obtain⟨o,ho,_⟩:=gt
     exact Es ho
    obtain⟨ol,hol,hcl,nl,hdl⟩:=id g1
    obtain⟨c0,d0,dt,sl⟩:=ol
    simp only at hcl hdl
    subst hcl hdl
    have y1:=F.sub_tuple_set
    have y2:=zx
    have y3:(Value.type "tuple" == Value.type "dict")=false:=by decide
    unfold Builtin.«set.__init__» noKeywords Builtin.Frozenset.updateFrom
    generalize hit:pyIter=PI
    wp_walk
    subst hit
    refine wpAny_pyIter_tuple g1 ?_
    refine Em (wpAny_runValue ?_)
    have e1:(s.heap.push (cF led)).objs.size=s.heap.objs.size+1:=Heap.size_push _ _
    have hA3:A.in1.in1.in1.handled=none:=by simp[hA]
    have hne:t≠(s.heap.push (cF led)).objs.size:=by
     rw[e1]
     exact EO (Nat.lt_succ_of_lt hlt)
    have hSf:s.heap.objs.size∉[(s.heap.push (cF led)).objs.size,t]:=by
     intro z
     rcases EK.mp z with z | z
     ·rw[e1]at z
      exact EO (Nat.lt_succ_self _) z
     ·exact Nat.ne_of_gt hlt (EG.mp z)
    have hbs:∀i:Nat,ys[i]?=(bs[i]?).map Value.ref:=fun i=>by
     rw[←Array.getElem?_toList,hb,Ey]
    refine xn (B:=fun b k=>∃j:Nat,bs[j]?=some b/\kk[j]?=some k) ((Walks.tuple hA3 _ t hne ys).toS) s.heap.objs.size hSf (by simp only[Around.in1_units];omega) bs kk hn (fun j b k q1 q2=>⟨j,q1,q2⟩) hz (fun i v hv=>?_) (fun i s' hs b hb' o ho=>?_) (ys.size-0) 0 _ [] (by omega) (Nat.zero_le _) ⟨⟨_,Er _ rfl,rfl,rfl⟩,g1.push _⟩ ⟨List.nodup_nil,cF led,#[],0,_,Ep _ gS,⟨rfl,rfl,rfl⟩,rfl,rfl,.inl rfl,(show 0*5<7*3 by decide),rfl,(by rw[Array.map_empty];exact Tb.TOk.nil 7),fun e he=>(by simp at he),fun k hk=>(by cases hk),fun _=>.inl rfl⟩ (ER _) (fun k=>by simp) (fun j b k e1 e2=>?_) fun s' D mv hS' hD=>?_
    ·have hv':ys[i]?=some v:=hv
     rw[hbs i]at hv'
     obtain⟨b,e,rfl⟩:=EH.mp hv'
     exact⟨b,rfl,e⟩
    ·cases EG.mp hb'
     obtain⟨o',ho',_,hd'⟩:=hs.1
     rw[ho']at ho
     cases ho
     exact⟨_,hd'⟩
    ·obtain⟨o,items,q,ho,r⟩:=hkey j b k e1 e2
     exact⟨o,items,q,Ep _ (Ep _ ho),r⟩
    ·obtain⟨h',g',d',tk',os'⟩:=s'
     have q1:g'=s.gens:=mv.gens
     have q2:d'=s.drawn:=mv.drawn
     have q3:os'=s.os:=mv.os
     subst q1 q2 q3
     show wpAny _ _ _ _ _ _
     refine En ?_
     show wpAny _ _ (ret Value.none) _ _ _
     refine En ⟨rfl,h',tk',D,rfl,hS',hD,fun b o hb e=>mv.heap b o (fun z=>?_) (Ep _ (Ep _ e))⟩
     rcases EK.mp z with z | z
     ·exact EO hb z
     ·have z:=EG.mp z
      rw[e1]at z
      exact EO (Nat.lt_succ_of_lt hb) z
   ·cases r2 with
    | error e=>exact hr2
    | ok f2=>
     cases f2 with
     | ret r=>
      obtain⟨rfl,h',tk,D,rfl,hS'⟩:=hr2
      repeat (any_goals (first | assumption | wp_step))
      exact h _ _ D hS'
     | _=>exact hr2.elim
  | _=>exact hr.elim
theorem A7{t:Addr}{ys:Array Value}{bs:List Addr}{kk:List (List Key)}{Q:Value->Shared->Prop}(hA:A.handled=none)(hu:A.units+5<cLine)(gt:s.heap.IsList t ys)(hb:ys.toList=bs.map Value.ref)
  (hn:kk.length=ys.size) (hz:ys.size<1400) (hkey:∀(j:Nat) (b:Addr) (k:List Key),bs[j]?=some b->kk[j]?=some k->IsTupleKey (aO P w) s.heap k b)
  (h:∀(h':Heap) (tk:Nat) (D:List (List Key)),i8 P w s bs kk D h'->Q (.ref s.heap.objs.size) { s with heap:=h',toks:=tk }):wpAny (model P w) A (call (.type "set") [.ref t]) Q E s:=by
 have x1:=F.called_set.notType
 have x2:=F.called_set.canCreate
 have x3:=F.typeCall_set_1 (.ref t)
 have x4:=F.called_set.made
 have x5:=F.called_set.sub
 obtain⟨c,tl,x6⟩:=F.called_set.mro
 refine wpAny_call (codeAny_of_tree ?_)
 show wpAny _ _ (callAny (.type "set") _) _ _ _
 refine En ⟨Code.quiet_builtin _ (by decide +kernel),codeAny_builtin F.entry_type_call ?_⟩
 rw[Around.under_plain (weight_type_call_type "set" [.ref t] []) rfl]
 repeat (any_goals (first | assumption | wp_step))
 refine codeAny_mono (code_set_new_1 (.ref t) (E:=E) (Q₁:=fun v s1=>∃led,v=.ref s.heap.objs.size/\s1={ s with heap:=s.heap.push (cF led) }) fun led=>⟨led,rfl,rfl⟩) fun r s1 hr=>?_
 cases r with
 | error e=>exact hr
 | ok fl=>
  cases fl with
  | ret v=>
   obtain⟨led,rfl,rfl⟩:=hr
   have gS:(s.heap.push (cF led)).get? s.heap.objs.size=some (cF led):=Er _ rfl
   have hT:Shared.TypeIs { s with heap:=s.heap.push (cF led) } (.ref s.heap.objs.size) "set":=⟨_,gS,rfl⟩
   have x7:=F.called_set.init.lookup
   have x8:=F.called_set.init.bind (.ref s.heap.objs.size)
   repeat (any_goals (first | assumption | wp_step))
   refine codeAny_mono (codeAny_call_builtin (R:=wants (fun r s2=>r=.none/\∃h' tk D,s2={ s with heap:=h',toks:=tk }/\i8 P w s bs kk D h') E) F.called_set.init.plain F.entry_set_init (check_set_init_1 hT ?_)) fun r2 s2 hr2=>?_
   ·have g1:(s.heap.push (cF led)).IsList t ys:=gt.push _
    have hlt:t<s.heap.objs.size:=by
     obtain⟨o,ho,_⟩:=gt
     exact Es ho
    obtain⟨ol,hol,hcl,nl,hdl⟩:=id g1
    obtain⟨c0,d0,dt,sl⟩:=ol
    simp only at hcl hdl
    subst hcl hdl
    have y1:=F.sub_list_set
    have y2:=F.sub_list_frozenset
    have y3:(Value.type "list" == Value.type "dict")=false:=by decide
    unfold Builtin.«set.__init__» noKeywords Builtin.Frozenset.updateFrom
    generalize hit:pyIter=PI
    wp_walk
    subst hit
    refine wpAny_pyIter_list g1 ?_
    refine Em (wpAny_runValue ?_)
    have e1:(s.heap.push (cF led)).objs.size=s.heap.objs.size+1:=Heap.size_push _ _
    have hA3:A.in1.in1.in1.handled=none:=by simp[hA]
    have hne:t≠(s.heap.push (cF led)).objs.size:=by
     rw[e1]
     exact EO (Nat.lt_succ_of_lt hlt)
    have hSf:s.heap.objs.size∉[(s.heap.push (cF led)).objs.size,t]:=by
     intro z
     rcases EK.mp z with z | z
     ·rw[e1]at z
      exact EO (Nat.lt_succ_self _) z
     ·exact Nat.ne_of_gt hlt (EG.mp z)
    have hbs:∀i:Nat,ys[i]?=(bs[i]?).map Value.ref:=fun i=>by
     rw[←Array.getElem?_toList,hb,Ey]
    refine xn (B:=fun b k=>∃j:Nat,bs[j]?=some b/\kk[j]?=some k) ((Walks.list hA3 _ t hne ys).toS) s.heap.objs.size hSf (by simp only[Around.in1_units];omega) bs kk hn (fun j b k q1 q2=>⟨j,q1,q2⟩) hz (fun i v hv=>?_) (fun i s' hs b hb' o ho=>?_) (ys.size-0) 0 _ [] (by omega) (Nat.zero_le _) ⟨⟨_,Er _ rfl,rfl,rfl⟩,g1.push _⟩ ⟨List.nodup_nil,cF led,#[],0,_,Ep _ gS,⟨rfl,rfl,rfl⟩,rfl,rfl,.inl rfl,(show 0*5<7*3 by decide),rfl,(by rw[Array.map_empty];exact Tb.TOk.nil 7),fun e he=>(by simp at he),fun k hk=>(by cases hk),fun _=>.inl rfl⟩ (ER _) (fun k=>by simp) (fun j b k e1 e2=>?_) fun s' D mv hS' hD=>?_
    ·have hv':ys[i]?=some v:=hv
     rw[hbs i]at hv'
     obtain⟨b,e,rfl⟩:=EH.mp hv'
     exact⟨b,rfl,e⟩
    ·cases EG.mp hb'
     obtain⟨o',ho',_,hd'⟩:=hs.1
     rw[ho']at ho
     cases ho
     exact⟨_,hd'⟩
    ·obtain⟨o,items,q,ho,r⟩:=hkey j b k e1 e2
     exact⟨o,items,q,Ep _ (Ep _ ho),r⟩
    ·obtain⟨h',g',d',tk',os'⟩:=s'
     have q1:g'=s.gens:=mv.gens
     have q2:d'=s.drawn:=mv.drawn
     have q3:os'=s.os:=mv.os
     subst q1 q2 q3
     show wpAny _ _ _ _ _ _
     refine En ?_
     show wpAny _ _ (ret Value.none) _ _ _
     refine En ⟨rfl,h',tk',D,rfl,hS',hD,fun b o hb e=>mv.heap b o (fun z=>?_) (Ep _ (Ep _ e))⟩
     rcases EK.mp z with z | z
     ·exact EO hb z
     ·have z:=EG.mp z
      rw[e1]at z
      exact EO (Nat.lt_succ_of_lt hb) z
   ·cases r2 with
    | error e=>exact hr2
    | ok f2=>
     cases f2 with
     | ret r=>
      obtain⟨rfl,h',tk,D,rfl,hS'⟩:=hr2
      repeat (any_goals (first | assumption | wp_step))
      exact h _ _ D hS'
     | _=>exact hr2.elim
  | _=>exact hr.elim
end
end L2
namespace L2
open PySem PySem.Spec PyProof.Rows
namespace SF
end SF
section
variable {P:Program} {w:World} {A:Around} {E:Value->Shared->Prop} {s:Shared}
end
end L2
namespace L2
open PySem PySem.Spec PyProof.Rows
section
variable {P:Program} {w:World} {A:Around} {E:Value->Shared->Prop} {s:Shared}
end
end L2
namespace PyProof.Rows
open PySem
section
variable {prog:Program} {w:World} {A:Around} {E:Value->Shared->Prop} {s:Shared} {κ:SortKind} {X:Keyed->Prop}
open Classical in
end
end PyProof.Rows
namespace L2
open PySem PySem.Spec PyProof.Rows
section
variable {P:Program} {w:World} {A:Around} {E:Value->Shared->Prop} {s:Shared}
end
end L2
namespace L2
open PySem PySem.Spec PyProof.Rows
section
variable {P:Program} {w:World} {A:Around} {E:Value->Shared->Prop} {s:Shared}
open Classical in
theorem sk{α:Type}{D ds:List α}(hd:D.Nodup)(hs:∀k∈D,k∈ds)(hl:ds.length=D.length):ds.Perm D:=by
 induction D generalizing ds with
 | nil=>
  rw[List.length_nil,List.length_eq_zero_iff]at hl
  subst hl
  exact .refl _
 | cons d D ih=>
  have hm:=hs d EC
  have p1:=List.perm_cons_erase hm
  have hd':=List.nodup_cons.mp hd
  refine p1.trans ((ih hd'.2 (fun k hk=>?_) ?_).cons d)
  ·refine(List.mem_erase_of_ne ?_).mpr (hs k (Ez _ hk))
   rintro rfl
   exact hd'.1 hk
  ·rw[List.length_erase_of_mem hm,hl]
   rfl
theorem key_inj{h:Heap}{b:Addr}{k1 k2:List Key}(h1:IsTupleKey (aO P w) h k1 b)(h2:IsTupleKey (aO P w) h k2 b):k1=k2:=by
 obtain⟨o1,i1,n1,z1,_,z2,z3⟩:=h1
 obtain⟨o2,i2,n2,y1,_,y2,y3⟩:=h2
 rw[z1]at y1
 cases y1
 rw[z2]at y2
 cases y2
 exact z3.inj y3
end
end L2
namespace L2
open PySem PySem.Spec PyProof.Rows
abbrev qQ(P:Program)(w:World)(x:Addr×List Key):Int×Value:=(tupleKeyHash (aO P w) x.2,.ref x.1)
def j6(P:Program)(w:World)(h:Heap)(a:Addr)(L:List (Addr×List Key)):Prop:=∃o es ep t,h.get? a=some o/\o.ExactSet/\o.data=.set es ep t/\t.dummies = #[]/\Tb.Mask t.mask/\es.size*5<t.mask*3/\Tb.TOk t.mask t.place (es.map (·.1))/\es.toList=L.map (qQ P w)/\((∀x∈L,∃z,Sum.inr z∈x.2)->L=[]\/t.plain=false)
def jR(P:Program)(w:World)(a:Addr)(L:List (Addr×List Key)):HO:=.ext fun h=>j6 P w h a L
section
variable {P:Program} {w:World}
theorem uO{h:Heap}{B:Addr->List Key->Prop}{D:List (List Key)}:∀{es:List (Int×Value)},(∀e∈es,∃b k,e=(tupleKeyHash (aO P w) k,Value.ref b)/\k∈D/\IsTupleKey (aO P w) h k b/\B b k)->∃L:List (Addr×List Key),es=L.map (qQ P w)/\∀x∈L,x.2∈D/\IsTupleKey (aO P w) h x.2 x.1/\B x.1 x.2
 | [],_=>⟨[],rfl,fun x hx=>by cases hx⟩
 | e::es,hall=>by
  obtain⟨L,h1,h2⟩:=uO (es:=es) fun x hx=>hall x (Ez _ hx)
  obtain⟨b,k,rfl,hk,hkb,hBb⟩:=hall e EC
  refine⟨(b,k)::L,by rw[h1];rfl,fun x hx=>?_⟩
  rcases EK.mp hx with rfl | hx
  ·exact⟨hk,hkb,hBb⟩
  ·exact h2 x hx
theorem dM.obj{B:Addr->List Key->Prop}{h:Heap}{a:Addr}{D:List (List Key)}(hS:dM P w B h a D):∃L,j6 P w h a L/\(L.map (·.2)).Perm D/\∀x∈L,B x.1 x.2:=by
 obtain⟨hnd,o,es,ep,t,ho,hex,hd,hdm,hm,hfull,hlen,hT,hall,hin,hpl⟩:=hS
 obtain⟨L,h1,h2⟩:=uO hall
 have hl:L.length=D.length:=by
  rw[←hlen,←EA,h1,Ew]
 refine⟨L,⟨o,es,ep,t,ho,hex,hd,hdm,hm,hfull,hT,h1,fun hx=>?_⟩,sk hnd (fun k hk=>?_) (by rw[Ew,hl]),fun x hx=>(h2 x hx).2.2⟩
 ·have hx':∀k∈D,∃z,Sum.inr z∈k:=fun k hk=>by
   obtain⟨b,hb,hkb⟩:=hin k hk
   rw[h1]at hb
   obtain⟨x,hx',e⟩:=List.mem_map.mp hb
   have e2:Value.ref x.1=Value.ref b:=congrArg Prod.snd e
   cases e2
   rw[key_inj hkb (h2 x hx').2.1]
   exact hx x hx'
  rcases hpl hx' with e | e
  ·subst e
   rw[List.length_nil,List.length_eq_zero_iff]at hl
   exact .inl hl
  ·exact .inr e
 ·obtain⟨b,hb,hkb⟩:=hin k hk
  rw[h1]at hb
  obtain⟨x,hx',e⟩:=List.mem_map.mp hb
  have e2:Value.ref x.1=Value.ref b:=congrArg Prod.snd e
  cases e2
  rw[key_inj hkb (h2 x hx').2.1]
  exact List.mem_map.mpr ⟨x,hx',rfl⟩
theorem yT{H:Hp}{h:Heap}{a:Addr}{L:List (Addr×List Key)}(S:j6 P w h a L):br P w H h a (jR P w a L):=by
 refine⟨S,?_,fun h1 h2 z k=>?_⟩
 ·obtain⟨o,es,ep,t,ho,_⟩:=S
  exact⟨o,ho⟩
 ·obtain⟨o',es',ep',t',ho',r⟩:=z
  exact⟨o',es',ep',t',k _ ho',r⟩
end
section
variable {X:Cx} {pins:List (Addr×Obj)} {σ:St} {H:Hp} {s:Shared}
theorem m7:∀{bs:List Addr} {us:List Value},Vals (bs.map V.ref) us->us=bs.map Value.ref
 | [],_,.nil=>rfl
 | b::bs,_,.cons r t=>by
  rw[List.map_cons,←m7 (bs:=bs) t]
  exact congrArg (· :: _) r
theorem Dx(I:Inv X pins σ H s){b:Addr}{k:List Key}(e:H b=some (.tup (k.map kV))):IsTupleKey (aO X.prog X.w) s.heap k b:=by
 obtain⟨_,is,rk,o,ho,hc,n,hd⟩:=I.hok b _ e
 exact⟨o,_,n,ho,hc,hd,ml rk⟩
def iG(H:Hp)(bs:List Addr)(kk:List (List Key)):Prop:=bs.length=kk.length/\∀(j:Nat) (b:Addr) (k:List Key),bs[j]?=some b->kk[j]?=some k->H b=some (.tup (k.map kV))
theorem iG.ext{H H':Hp}{bs:List Addr}{kk:List (List Key)}(e:Ext H H')(h:iG H bs kk):iG H' bs kk:=⟨h.1,fun j b k e1 e2=>e _ _ (h.2 j b k e1 e2)⟩
end
section
variable {X:Cx}
def yA(P:Program)(w:World):List V->Hp->VK->Prop:=fun xs H Q=>∃p bs kk,xs=[.ref p]/\(H p=some (.tup (bs.map V.ref))\/H p=some (.lst (bs.map V.ref)))/\iG H bs kk/\kk.length<1400 ∧
 ∀l L,H l=none->(L.map Prod.snd).Nodup->(∀k,k∈L.map Prod.snd↔k∈kk)->(∀x∈L,H x.1=some (.tup (x.2.map kV)))->Q (.ref l) (upd H l (jR P w l L))
theorem zU{k:Nat}(hr:Room k X.A):bS X (.type "set") (yA X.prog X.w):=by
 intro pins s σ H xs us Q I r h
 obtain⟨p,bs,kk,rfl,hp,⟨h2,h3⟩,hz,q⟩:=h
 obtain⟨u,rfl,rx⟩:=vals1 r
 cases rx
 have hu:=hr.units
 have hA:=hr.hd
 have keys:∀(j:Nat) (b:Addr) (k:List Key),bs[j]?=some b->kk[j]?=some k->IsTupleKey (aO X.prog X.w) s.heap k b:=fun j b k e1 e2=>Dx I (h3 j b k e1 e2)
 have fin:∀(h':Heap) (tk:Nat) (D:List (List Key)),i8 X.prog X.w s bs kk D h'->∃v H',Inv X pins σ H' { s with heap:=h',toks:=tk }/\RelV v (.ref s.heap.objs.size)/\Q v H':=fun h' tk D hm=>by
  obtain⟨hS,hD,hk⟩:=hm
  obtain⟨L,hO,hLp,hLB⟩:=hS.obj
  have hfr:=I.hok.fresh (ER _)
  refine⟨.ref s.heap.objs.size,_,I.laid (t':=tk) (fun b o e=>hk b o (Es e) e) (ER _) (yT hO),rfl,q _ L hfr (hLp.nodup_iff.mpr hS.1) (fun k=>(hLp.mem_iff.trans (hD k))) fun x hx=>?_⟩
  obtain⟨j,e1,e2⟩:=hLB x hx
  exact h3 j _ _ e1 e2
 rcases hp with hp | hp
 ·obtain⟨_,its,rv,gt⟩:=I.hok p _ hp
  have ei:=m7 rv
  subst ei
  refine yD (kk:=kk) (bs:=bs) hA (by omega) (show s.heap.IsTuple p _ from gt) rfl (by simp[h2]) (by simp[h2];exact hz) keys fin
 ·obtain⟨_,its,n,rv,gt⟩:=I.hok p _ hp
  have ei:=m7 rv
  subst ei
  refine A7 (kk:=kk) (bs:=bs) hA (by omega) (show s.heap.IsList p _ from⟨_,gt,rfl,n,rfl⟩) rfl (by simp[h2]) (by simp[h2];exact hz) keys fin
def zl(P:Program)(w:World):List V->Hp->VK->Prop:=fun xs H Q=>∃p L,xs=[.ref p]/\H p=some (jR P w p L)/\L.length<1400/\Q (.int L.length) H
theorem Bp:bS X (.builtin "len") (zl X.prog X.w):=by
 intro pins s σ H xs us Q I r h
 obtain⟨p,L,rfl,hp,hn,q⟩:=h
 obtain⟨u,rfl,rx⟩:=vals1 r
 cases rx
 obtain⟨⟨o,es,ep,t,ho,hex,hd,hdm,hm,hfull,hT,hel,_⟩,_⟩:=I.hok p _ hp
 have hpl:t.place.size=es.size:=by rw[hT.len,Array.size_map]
 have hs:es.size=L.length:=by rw[←EA,hel,Ew]
 have hf:t.fits es.size=true:=by
  simp only[SetTable.fits,E9,beq_iff_eq,decide_eq_true_eq]
  refine⟨hpl,?_⟩
  unfold SetTable.fill
  rw[hdm,hpl]
  have:es.size<=t.mask:=by omega
  simpa using this
 refine call_len_set ho hex hd hf (by omega) ⟨.int L.length,H,I.tok _,⟨s.toks+1,by rw[hs]⟩,q⟩
end
end L2
namespace L2
open PySem PySem.Spec PyProof.Rows
section
variable {X:Cx} {pins:List (Addr×Obj)} {σ:St} {H:Hp} {s:Shared}
theorem Inv.turnedNew{h':Heap}{L:List Addr}{o:HO}{t':Nat}(I:Inv X pins σ H s)(k:∀b u,b∉L->s.heap.get? b=some u->h'.get? b=some u)(f:∀b∈L,bV X pins H b)
  (new:br X.prog X.w (upd H s.heap.objs.size o) h' s.heap.objs.size o):Inv X pins σ (upd H s.heap.objs.size o) { s with heap:=h',toks:=t' }:=by
 have hn:H s.heap.objs.size=none:=I.hok.fresh (ER _)
 have nin:∀b u,H b=some u->b∉L:=fun b u e z=>by
  rw[(f b z).1]at e
  cases e
 have up:∀b u,H b=some u->upd H s.heap.objs.size o b=some u:=fun b u e=>by
  rw[az (bX e hn)]
  exact e
 refine I.step (g':=s.gens) (d':=s.drawn) (ch:=L) (fun b hb=>?_) (fun b u _ _ hc e _=>k b u hc e) (fun b u _ _ hc e _=>⟨u.slots,k b u hc e⟩) (fun b u _ e n=>?_) (fun b u hc e=>⟨u,k b u hc e⟩) (fun b xs e=>up b _ e) (fun b u v e=>up b _ e) (fun b ps e=>⟨#[],by rw[up b _ e];simp⟩) (fun m hm=>?_) (fun b u e=>?_) I.bare
 ·obtain⟨f0,f1,f2,f3,f4,f5⟩:=f b hb
  exact⟨f3,f1,f4,f5⟩
 ·rw[az (EO (Es e))]
  exact n
 ·obtain⟨u,es,ep,hu,r⟩:=hm
  exact⟨u,es,ep,k _ u (fun z=>(f _ z).2.1 rfl) hu,r⟩
 ·by_cases hb:b=s.heap.objs.size
  ·subst hb
   rw[aL]at e
   cases e
   exact new
  ·rw[az hb]at e
   refine(I.hok b u e).stay (fun c v hc q=>k c v ?_ q) (fun c q=>up c _ q) fun c xs q=>up c _ q
   rcases hc with z | z
   ·rw[z];exact nin b u e
   ·exact nin c _ z
end
theorem yW{P:Program}{w:World}{A:Around}(hA:A.handled=none)(it t:Addr)(ne:t≠it)(ys:Array Value):Draws P w A it [it,t] ys.size (fun i v=>ys[i]?=some v) (fun i h=>h.IsTupleIter it t i/\h.IsTuple t ys) where
 live:=fun i h st=>by
  obtain⟨⟨o,ho,_⟩,_⟩:=st
  exact⟨o,ho⟩
 frame:=fun i h h' st k=>by
  obtain⟨⟨o,ho,r⟩,⟨u,hu,q⟩⟩:=st
  exact⟨⟨o,k it (by simp) o ho,r⟩,⟨u,k t (by simp) u hu,q⟩⟩
 item:=fun i s Q E hi st hQ=>qm st.1 st.2 (x:=ys[i]) (by simp[hi]) fun h' gi sb=>hQ _ h' s.toks (by simp[hi]) ⟨gi,by
  obtain⟨u,hu,q⟩:=st.2
  exact⟨u,(sb.2 t ne).trans hu,q⟩⟩ sb
 done:=fun s Q E st hE=>mO hA st.1 st.2 (by simp) hE
abbrev kD(h:Heap)(a:Addr):Heap:=h.push { cls:=.type "tuple_iterator",data:=.fields #[.ref a,.int 0 0] }
abbrev o4(h:Heap)(a:Addr):Heap:=(kD h a).push { cls:=.type "enumerate",data:=.fields #[.none,.bool false,.ref h.objs.size,rawInt 0,.none,.none] }
open AutoSeq1 (wpAny_loadPart')in
theorem zR(a:Addr)(ys:Array Value)(ob:Obj):Meets (Builtin.«enumerate.__new__» ⟨[.type "enumerate",.ref a],[]⟩) (fun _ R s=>s.heap.get? a=some ob/\s.heap.IsTuple a ys/\R (.ok (.ret (.ref (kD s.heap a).objs.size))) { s with heap:=o4 s.heap a }):=
 .of_wp fun prog w A R s q=>by
  obtain⟨hp,g,d,tk,os⟩:=s
  obtain⟨ga,gt,q⟩:=q
  have hsub:=sub_enumerate
  obtain⟨o,go,gc,n,gd⟩:=id gt
  obtain⟨c0,d0,dt,sl⟩:=o
  simp only at gc gd
  subst gc gd
  have gT:Heap.IsTuple (Shared.heap ⟨hp,g,d,tk,os⟩) a ys:=gt
  wp_walk using wpAny_loadPart' go
  refine wpAny_stack_any fun st=>En ?_
  split
  ·rename_i c _ _ _ _ _
   cases(c == Value.type "enumerate")<;>(wp_walk using wpAny_loadPart' go,wpAny_pyIter_tuple gT;exact⟨_,rfl,q⟩)
  ·wp_walk using wpAny_loadPart' go,wpAny_pyIter_tuple gT
   exact⟨_,rfl,q⟩
theorem Bc{prog:Program}{w:World}{A:Around}{E:Value->Shared->Prop}{s:Shared}{a:Addr}{ys:Array Value}{Q:Value->Shared->Prop}(gt:s.heap.IsTuple a ys)
  (q:∀h',IsEnum h' (s.heap.objs.size+1) s.heap.objs.size 0 .none->h'.IsTupleIter s.heap.objs.size a 0->(∀c o,s.heap.get? c=some o->h'.get? c=some o)->Q (.ref (s.heap.objs.size+1)) { s with heap:=h' }) :
  wpAny (model prog w) A (call (.type "enumerate") [.ref a]) Q E s:=by
 obtain⟨o,go,r⟩:=id gt
 refine callType_new F.called_enumerate (by decide) (F.typeCall_enumerate_1 _) (F.newCall_enumerate_1 _) (fun ob=>F.args_object_init_2 ob _) F.entry_enumerate_new (zR a ys o) ⟨go,gt,?_⟩
 have n1:(kD s.heap a).objs.size=s.heap.objs.size+1:=Heap.size_push ..
 have k2:(o4 s.heap a).get? (kD s.heap a).objs.size=some _:=Er _ rfl
 have k1:(o4 s.heap a).get? s.heap.objs.size=some _:=Ep _ (Er _ rfl)
 show _/\_
 rw[n1]at k2 ⊢
 exact⟨⟨_,k2,rfl⟩,q _ k2 ⟨_,k1,rfl,rfl⟩ fun c o x=>Ep _ (Ep _ x)⟩
def fV(K:Eo)(a:Addr):It:=⟨(cB K a).go,fun i H x H'=>∃p v,x=.ref p/\H p=none/\H'=upd H p (.tup [.int i,v])/\(cB K a).yld i H v H,(cB K a).stop⟩
theorem B8{P:Program}{w:World}{K:Eo}{elts:List Expr}{kk:Nat}{ps:Pos}(a e it:Addr)(ne:e≠it):Turn P w K (.Tuple elts kk ps) (fV K a) [e,it] e (fun i h=>(∃old,IsEnum h e it i old)/\h.IsTupleIter it a i) where
 mem:=by simp
 obj:=fun i h st b hb=>by
  obtain⟨⟨old,ge⟩,o,go,gc,gd⟩:=st
  rcases EK.mp hb with rfl | hb
  ·exact⟨_,ge,fun v z=>by cases(show Data.fields _=Data.cell v from z)⟩
  ·cases EG.mp hb
   exact⟨o,go,fun v z=>by rw[gd]at z;cases z⟩
 keep:=fun i h h' st k=>by
  obtain⟨⟨old,ge⟩,gi⟩:=st
  exact⟨⟨old,k e (by simp) _ ge⟩,gi.at fun o z=>k it (by simp) o z⟩
 item:=by
  intro X hP hw hK hc i pins s σ H E I hf st hg
  subst hP hw hK
  obtain⟨⟨old,ge⟩,gi⟩:=st
  obtain⟨xs,x,hq,hx⟩:=hg
  obtain⟨its,rv,p,hz⟩:=I.tuple hq
  obtain⟨u,hu,ru⟩:=rv.get hx
  have hi:i<its.toArray.size:=by
   have:=(EE.mp hu).1
   simpa using this
  have hA:X.A.in1.handled=none:=I.ok.hd hc
  have hta:a≠it:=fun z=>by
   obtain⟨o,ho,hcl,_⟩:=p
   obtain⟨o',ho',hcl',_⟩:=gi
   rw[z,ho']at ho
   cases ho
   rw[hcl]at hcl'
   exact absurd (Value.type.inj hcl') (by decide)
  have hea:e∉[it,a]:=fun z=>by
   rcases EK.mp z with z | z
   ·exact ne z
   ·cases EG.mp z
    obtain⟨o,ho,hcl,_⟩:=p
    rw[ge]at ho
    cases ho
    exact absurd (Value.type.inj hcl) (by decide)
  refine wpAny_pyNext_enum_itemD (yW hA it a hta its.toArray) ge ⟨gi,show s.heap.IsTuple a its.toArray from p⟩ hi ne hea fun y h' tk hy geo gs gT gz gk=>⟨_,rfl,?_⟩
  have ey:y=u:=by
   have:its[i]?=some y:=by simpa using hy
   rw[hu]at this
   exact(Option.some.inj this).symm
  subst ey
  have lt:∀b∈[e,it],b≠s.heap.objs.size:=fun b hb=>by
   rcases EK.mp hb with rfl | hb
   ·exact EO (Es ge)
   ·cases EG.mp hb
    obtain⟨o,ho,_⟩:=gi
    exact EO (Es ho)
  have I1:Inv X pins σ (upd H s.heap.objs.size (.tup [.int i,x])) { s with heap:=h',toks:=tk+1 }:=
   Inv.turnedNew (L:=[e,it]) I (fun b o hb z=>gk b o (fun q=>hb (by simp[q])) (fun q=>hb (by simp[q])) z) hf ⟨by show 2<=sizeLine;decide,[.int i tk,y],.cons ⟨tk,rfl⟩ (.cons ru .nil),⟨_,gT,rfl,_,rfl⟩⟩
  have fe:bV X pins (upd H s.heap.objs.size (.tup [.int i,x])) e:=by
   obtain⟨c0,c1,c2,c3,c4,c5⟩:=hf e (by simp)
   exact⟨by rw[az (lt e (by simp))];exact c0,c1,c2,c3,c4,c5⟩
  refine wpAny_letOwnedTupleGo_enum (s:={ s with heap:=h',toks:=tk+1 }) geo fun k gk' bk=>?_
  refine⟨.ref s.heap.objs.size,upd H s.heap.objs.size (.tup [.int i,x]),Inv.same (s:={ s with heap:=h',toks:=tk+1 }) (k:=h') I1 fe bk.extBut,rfl,⟨_,x,rfl,I.hok.fresh (ER _),rfl,rfl,fun zs hzs=>by rw[I.tuple_inj hzs hq];exact hx⟩,⟨⟨y,by simpa using gk'⟩,gs.1.at fun o z=>bk.extBut it o (Ne.symm ne) z⟩,fun b hb=>?_⟩
  rw[az (lt b hb)]
  exact(hf b hb).1
 done:=by
  intro X hP hw hK hc i pins s σ H E I hf st hg
  subst hP hw hK
  obtain⟨⟨old,ge⟩,gi⟩:=st
  obtain⟨xs,hq,hx⟩:=hg
  obtain⟨its,rv,p,hz⟩:=I.tuple hq
  have hA:X.A.in1.handled=none:=I.ok.hd hc
  have gT:s.TypeIs (.ref e) "enumerate":=⟨_,ge,rfl⟩
  have hl:=rv.length
  unfold pyNext
  refine Em (wpAny_attempt (wpAny_callSpecial?_slot (name:=Str.ofString "__next__") gT F.slot_enumerate_next (wpAny_call_entry F.slot_enumerate_next gT F.entry_enumerate_next ?_ (F.args_enumerate_next_1 _))))
  show wpAny _ _ (field (Value.ref e) 2 >>= _) _ _ _
  refine Em (wpAny_field ge rfl (x:=Value.ref it) rfl ?_)
  refine Em (mO hA gi (show s.heap.IsTuple a its.toArray from p) (by simp;omega) fun h' x he hx'=>?_)
  obtain⟨o,ho,hc'⟩:=hx'
  refine Em (wpAny_isInstance (s:={ s with heap:=h' }) (T:="StopIteration") (b:=true) ⟨o,ho,hc'⟩ isSubtype_stop ?_)
  exact En ⟨rfl,Inv.same (k:=s.heap) I (hf it (by simp)) he⟩
 self:=fun _ _ _ _ _ st h=>by
  obtain⟨⟨old,ge⟩,_⟩:=st
  exact wpAny_pyIter_enum ge h
section
variable {K:Eo} {σ:St} {H:Hp} {Q:VK}
def nz(K:Eo):List V->Hp->(It->Hp->Prop)->Prop:=fun vs H R=>∃a xs,vs=[.ref a]/\ah K H a xs/\R (fV K a) H
def vx(K:Eo)(ta:TA):TI:=fun σ H R=>ta σ H fun vs H1=>nz K vs H1 R
theorem uI{X:Cx}{elts:List Expr}{kk:Nat}{ps:Pos}(K:Eo){a:Expr}{ta:TA}{p pos:Pos}(hg:Gl X "enumerate")(hm:X.mg "enumerate" = none)(ha:PA X [a] ta)(hK:X.K=K:=by rfl)(hs:starEach [a] X.env=[(false,eval a X.env)]:=by rfl):
  PI X (.Tuple elts kk ps) (.Call (.Name "enumerate" p) [a] [] pos) (vx K ta):=by
 subst hK
 intro pins s σ H R I h
 refine Call_ (ft I hg hm PyProof.Rows.boot_enumerate (PyProof.Rows.callWith_type1 (aw (ha pos pins s σ H _ I h) fun us s1 ⟨vs,H1,I1,r1,q1⟩=>?_) (by rw[hs];rfl) rfl))
 obtain⟨l,xs,e,hq,q⟩:=q1
 subst e
 obtain⟨u,rfl,rx⟩:=vals1 r1
 cases rx
 obtain⟨its,_,p1,_⟩:=I1.tuple hq
 refine Bc (show s1.heap.IsTuple l its.toArray from p1) fun h' ge gi k=>?_
 refine wpAny_pyIter_enum (s:={ s1 with heap:=h' }) ge ?_
 refine⟨s1.heap.objs.size+1,[s1.heap.objs.size+1,s1.heap.objs.size],_,_,H1,rfl,I1.kept (t':=s1.toks) k,B8 l (s1.heap.objs.size+1) s1.heap.objs.size (fun z=>by have z':@Eq Nat _ _:=z;omega),⟨⟨_,ge⟩,gi⟩,fun b hb=>?_,q⟩
 have le:@LE.le Nat _ s1.heap.objs.size b:=by
  rcases EK.mp hb with rfl | hb
  ·exact Nat.le_add_right _ _
  ·cases EG.mp hb
   exact ER _
 exact I1.fpOk le (I1.hok.fresh le)
theorem rd_enum{a:TA}{R:It->Hp->Prop}(h:a σ H fun vs H1=>nz K vs H1 R):vx K a σ H R:=h
theorem vw{a:Addr}{xs:List V}{R:It->Hp->Prop}(ha:ah K H a xs)(h:R (fV K a) H):nz K [.ref a] H R:=⟨a,xs,rfl,ha,h⟩
theorem A8{a:Addr}{xs:List V}{g:TG}{tb:TS}{D:Ends}(Pv:Nat->St->Hp->Prop)(h0:Pv 0 σ H)(hl:∀i σ H,i<=xs.length->Pv i σ H->ah K H a xs)
  (hs:∀i u σ H p H',xs[i]?=some u->Pv i σ H->Ext H H'->H' p=some (.tup [.int i,u])->H p=none->g (.ref p) σ H' fun σ2 H2=>tb { D with nx:=Pv (i+1),ct:=Pv (i+1),bk:=D.nx } σ2 H2) (hd:∀σ H,Pv xs.length σ H->D.nx σ H) :
  ∃W:Nat->Nat->St->Hp->Prop,(∃m,W 0 m σ H)/\∀i m σ H,W i m σ H →
   ((fV K a).stop i H/\D.nx σ H)\/((fV K a).go i H/\∃N:St->Hp->Prop,(∀σ' H',N σ' H'->∃m',m'<m/\W (i+1) m' σ' H')/\∀x H',(fV K a).yld i H x H'->g x σ H' fun σ2 H2=>tb { D with nx:=N,ct:=N,bk:=D.nx } σ2 H2):=by
 refine⟨fun i m σ H=>m=xs.length-i/\i<=xs.length/\Pv i σ H,⟨xs.length,by simp,Nat.zero_le _,h0⟩,?_⟩
 rintro i m σ H ⟨rfl,hi,p⟩
 have qa:=hl i σ H hi p
 by_cases hlt:i<xs.length
 ·refine .inr ⟨⟨xs,xs[i],qa,by simp[hlt]⟩,Pv (i+1),fun σ' H' p'=>⟨xs.length-(i+1),by omega,rfl,hlt,p'⟩,fun x H' y=>?_⟩
  obtain⟨pp,u,rfl,hn,rfl,yu⟩:=y
  exact hs i u σ H pp _ (yu.2 xs qa) p (bx hn) aL hn
 ·have e:i=xs.length:=by omega
  subst e
  exact .inl ⟨⟨xs,qa,ER _⟩,hd σ H p⟩
end
section
variable {X:Cx}
def oV(neg:Bool):R2:=fun x y H Q=>∃n p xs d ds,aW H n x d/\y=.ref p/\H p=some (.lst xs)/\Paired (aW H n) xs ds/\n<=50/\Q (.bl (if neg then !(ds.any fun e=>PyData.eqv e d)else ds.any fun e=>PyData.eqv e d)) H
theorem Ek{k:Nat}(hr:Room k X.A):bB X (compareOp .In) (oV false):=by
 intro pins s σ H x y v u Q I rx ry h
 obtain⟨n,p,xs,d,ds,h1,rfl,h2,h3,hn,q⟩:=h
 have h4:aW H (n+1) (.ref p) (.list ds):=.inr ⟨p,xs,ds,rfl,.inr ⟨h2,rfl⟩,h3⟩
 obtain⟨as,ra⟩:=aW.reads I n h1 rx
 obtain⟨bs,rb⟩:=aW.reads I (n+1) h4 ry
 have l1:=aW.lay n h1
 have l2:=jb (fun{x d}=>aW.lay (H:=H) n) h3
 have hu:=hr.units
 have hm:min (PyData.depthAll ds) d.depth<=50:=E4 (Nat.min_le_right _ _) (E4 l1.2 hn)
 exact SeqAt.in_list_reads rb ra l2.1 l1.1 (by omega) ⟨.bl _,H,I,rfl,q⟩
theorem uj{k:Nat}(hr:Room k X.A):bB X (compareOp .NotIn) (oV true):=by
 intro pins s σ H x y v u Q I rx ry h
 obtain⟨n,p,xs,d,ds,h1,rfl,h2,h3,hn,q⟩:=h
 have h4:aW H (n+1) (.ref p) (.list ds):=.inr ⟨p,xs,ds,rfl,.inr ⟨h2,rfl⟩,h3⟩
 obtain⟨as,ra⟩:=aW.reads I n h1 rx
 obtain⟨bs,rb⟩:=aW.reads I (n+1) h4 ry
 have l1:=aW.lay n h1
 have l2:=jb (fun{x d}=>aW.lay (H:=H) n) h3
 have hu:=hr.units
 have hm:min (PyData.depthAll ds) d.depth<=50:=E4 (Nat.min_le_right _ _) (E4 l1.2 hn)
 exact SeqAt.notIn_list_reads rb ra l2.1 l1.1 (by omega) ⟨.bl _,H,I,rfl,q⟩
theorem rf{neg:Bool}{n:Nat}{x:V}{p:Addr}{xs:List V}{d:PyData}{ds:List PyData}{H:Hp}{Q:VK}(h1:aW H n x d)(h2:H p=some (.lst xs))(h3:Paired (aW H n) xs ds)(hn:n<=50)(q:Q (.bl (if neg then !(ds.any fun e=>PyData.eqv e d)else ds.any fun e=>PyData.eqv e d)) H):oV neg x (.ref p) H Q:=
 ⟨n,p,xs,d,ds,h1,rfl,h2,h3,hn,q⟩
end
end L2
namespace L2
open PySem PySem.Spec PyProof.Rows
abbrev Row3:=Str×Tok×Value
def jw(w:World)(e:Row3):DictEntry:=⟨PyData.keyHash w.params e.1,.str e.1 e.2.1,e.2.2⟩
def iB(w:World)(l:List Row3)(ep:Nat):Obj:={ cls:=.type "dict",dict:=none,data:=.dict (l.map (jw w)).toArray ep,slots:=#[] }
structure GDict(w:World)(K:Eo)(a:Addr)(kvs:List (Key×V)):Prop where
 has:∃l ep,K.lookup a=some (iB w l ep)/\KV kvs (l.map fun e=>((Sum.inr e.1:Key),e.2.2))
 nd:(kvs.map (·.1)).Nodup
 sm:(a == sysModules)=false
theorem w4{P:Program}{w:World}:∀l:List Row3,Pairs (aO P w) (l.map (jw w)) (l.map fun e=>((Sum.inr e.1:Key),e.2.2))
 | []=>.nil
 | e::l=>.cons (mQ P w e.1 e.2.1) rfl (w4 l)
theorem xV{P:Program}{w:World}(l:List Row3):KeysOf (aO P w) (l.map (jw w)).toArray:=fun e he=>by
 have he':e∈l.map (jw w):=by simpa using he
 obtain⟨x,_,rfl⟩:=List.mem_map.mp he'
 exact⟨.inr x.1,mQ P w x.1 x.2.1,rfl⟩
theorem GDict.at{X:Cx}{pins:List (Addr×Obj)}{σ:St}{H:Hp}{s:Shared}{a:Addr}{kvs:List (Key×V)}(D:GDict X.w X.K a kvs)(I:Inv X pins σ H s):∃vs,KV kvs vs/\s.heap.DictOf (aO X.prog X.w) a vs:=by
 obtain⟨l,ep,hl,r⟩:=D.has
 refine⟨_,r,iB X.w l ep,_,ep,I.kIn _ _ hl,⟨rfl,rfl,rfl⟩,rfl,xV l,w4 l,?_⟩
 rw[←r.keys]
 exact D.nd
section
variable {X:Cx} {x:Str} {a:Addr} {kvs:List (Key×V)} {i:Expr} {ty:TE} {p pos:Pos}
def sX(kvs:List (Key×V))(ty:TE):TE:=fun σ H Q=>ty σ H fun y H1=>∃k v,y=kV k/\bJ kvs k=some v/\Q v H1
def tE(neg:Bool)(kvs:List (Key×V))(ty:TE):TE:=fun σ H Q=>ty σ H fun y H1=>∃k,y=kV k/\Q (.bl (if neg then !(bJ kvs k).isSome else(bJ kvs k).isSome)) H1
theorem xT(hg:Gl X x)(hm:X.mg x=some (.ref a))(D:GDict X.w X.K a kvs)(hi:PE X i ty)(hs:my i)(hd:(x == ("__debug__":Str))=false:=by decide):PE X (.Subscript (.Name x p) i pos) (sX kvs ty):=by
 intro pins s σ H Q I h
 refine sC PySem.F.slot_dict_getitem.lookup hs (jk I hg hm (aw (hi pins s σ H _ I h) fun iv s2 ⟨y,H2,I2,ry,k,v,ey,hv,q⟩=>?_) hd)
 subst ey
 obtain⟨vs,rel,dd⟩:=D.at I2
 obtain⟨w',hw,rw'⟩:=dR.some_of (v:=v) (o:=valueAt vs k) (by rw[←hv];exact rel.val k)
 exact⟨dd.typeIs,wpAny_getItem_of (hZ ry) dd.mapOf hw ⟨v,H2,I2.tok _,rw',q⟩⟩
theorem Ar(hg:Gl X x)(hm:X.mg x=some (.ref a))(D:GDict X.w X.K a kvs)(hi:PE X i ty)(hd:(x == ("__debug__":Str))=false:=by decide):PC X .In i (.Name x p) (tE false kvs ty):=by
 intro pins s σ H Q I h
 refine aw (hi pins s σ H _ I h) fun iv s1 ⟨y,H1,I1,ry,k,ey,q⟩=>jk I1 hg hm ?_ hd
 subst ey
 obtain⟨vs,rel,dd⟩:=D.at I1
 refine wpAny_in_of (hZ ry) D.sm dd.mapOf ?_
 rw[←(rel.val k).isSome_eq]
 exact⟨.bl (bJ kvs k).isSome,H1,I1.tok _,rfl,q⟩
theorem rd_gget{σ:St}{H:Hp}{Q:VK}(h:ty σ H fun y H1=>∃k v,y=kV k/\bJ kvs k=some v/\Q v H1):sX kvs ty σ H Q:=h
theorem rd_gin{neg:Bool}{σ:St}{H:Hp}{Q:VK}(h:ty σ H fun y H1=>∃k,y=kV k/\Q (.bl (if neg then !(bJ kvs k).isSome else(bJ kvs k).isSome)) H1):tE neg kvs ty σ H Q:=h
theorem AA{R:V->Prop}{z:Str}{v:V}(hv:bJ kvs (.inr z)=some v)(h:R v):∃k v,V.str z=kV k/\bJ kvs k=some v/\R v:=⟨.inr z,v,rfl,hv,h⟩
def rL:R2:=fun x y H Q=>∃a b,x=.str a/\y=.str b/\Q (.bl (!decide (b.cps.toList<a.cps.toList))) H
theorem ui:bB X (compareOp .LtE) rL:=by
 intro pins s σ H x y v u Q I rx ry h
 obtain⟨a,b,rfl,rfl,q⟩:=h
 obtain⟨t,rfl⟩:=rx
 obtain⟨t',rfl⟩:=ry
 exact PySem.P.le_str ⟨.bl _,H,I,rfl,q⟩
theorem rd_leS{a b:Str}{H:Hp}{Q:VK}(h:Q (.bl (!decide (b.cps.toList<a.cps.toList))) H):rL (.str a) (.str b) H Q:=⟨a,b,rfl,rfl,h⟩
theorem mN{α β:Type}{f g:α->Option β}:∀{l:List α},(∀x∈l,f x=g x)->l.filterMap f=l.filterMap g
 | [],_=>rfl
 | x::l,h=>by
  rw[List.filterMap_cons,List.filterMap_cons,h x EC,mN fun y hy=>h y (Ez _ hy)]
theorem zS(n:Nat)(xs:List Value)(h:xs.length=n):(List.range n).filterMap (fun i:Nat=>xs[((n:Int)-1+(i:Int)*(-1)).toNat]?)=xs.reverse:=by
 refine List.ext_getElem? fun i=>?_
 have e:(List.range n).filterMap (fun i:Nat=>xs[((n:Int)-1+(i:Int)*(-1)).toNat]?)=(List.range n).map (fun i:Nat=>xs.reverse.getD i .none):=by
  rw[←List.filterMap_eq_map]
  refine mN fun i hi=>?_
  have hi:=List.mem_range.mp hi
  have:((n:Int)-1+(i:Int)*(-1)).toNat=n-1-i:=by omega
  rw[this,Function.comp_apply,List.getD_eq_getElem?_getD,List.getElem?_reverse (by omega),h,Ex (show n-1-i<xs.length by omega)]
  rfl
 rw[e,Ey]
 by_cases hi:i<n
 ·rw[Ex (by simpa using hi),Ex (by simpa[h]using hi)]
  simp[List.getD_eq_getElem?_getD,h,hi]
 ·rw[List.getElem?_eq_none (by simpa using hi),List.getElem?_eq_none (by simpa[h]using hi)]
  rfl
theorem yd(its:List Value):slicePick its.toArray none none (some (-1))=its.reverse.toArray:=by
 unfold slicePick
 have e:sliceBounds none none (some (-1)) its.toArray.size=((its.length:Int)-1,-1,-1):=by
  unfold sliceBounds
  simp
 rw[e]
 refine congrArg List.toArray ?_
 rw[←zS its.length its rfl]
 unfold sliceRange
 simp only
 rw[if_neg (by decide),List.filterMap_map]
 have el:(if(its.length:Int)-1 > -1 then((its.length:Int)-1 - -1 - -1-1) / - -1 else 0).toNat=its.length:=by
  rw[show (- -1:Int)=1 by decide,Int.ediv_one]
  split<;>omega
 rw[el]
 refine mN fun i hi=>?_
 rw[Function.comp_apply,show (its.length:Int)-1 + -1*(i:Int)=(its.length:Int)-1+(i:Int) * -1 by omega]
 simp
theorem Vals.rev{xs:List V}{us:List Value}(r:Vals xs us):Vals xs.reverse us.reverse:=by
 induction r with
 | nil=>exact .nil
 | cons h t ih=>
  rw[List.reverse_cons,List.reverse_cons]
  exact Vals.append ih (.cons h .nil)
def i5(K:Eo):V->Hp->VK->Prop:=fun x H Q=>∃a xs,x=.ref a/\ag K H a xs/\fb H (.lst xs.reverse) Q
def vo(K:Eo)(te:TE)(ts:TO):TE:=fun σ H Q=>te σ H fun x H1=>ts σ H1 fun k H2=>k=some (-1)/\i5 K x H2 Q
theorem Ee{e st:Expr}{te:TE}{ts:TO}{p2:Pos}(K:Eo)(he:PE X e te)(hs:PO X (some st) ts)(hK:X.K=K:=by rfl):PE X (.Subscript e (.Slice none none (some st) p2) pos) (vo K te ts):=by
 subst hK
 intro pins s σ H Q I h
 refine Subscript_ (aw (he pins s σ H _ I h) fun v s1 ⟨x,H1,I1,r1,q1⟩=>?_)
 refine wpAny_Slice ?_
 rw[evalPart_none]
 refine En (En ?_)
 refine aw (hs pins s1 σ H1 _ I1 q1) fun vs s2 ⟨k,H2,I2,pk,q2⟩=>?_
 obtain⟨rfl,a,xs,rfl,hx,q⟩:=q2
 cases pk with
 | int i tk=>
 cases r1
 have I3:Inv X pins σ H2 { s2 with heap:=s2.heap.push { cls:=.type "slice",data:=.fields #[.none,.none,.int (-1) tk] } }:=I2.kept (t':=s2.toks) fun b ob q=>Ep _ q
 obtain⟨its,r,ht,hz⟩:=I3.list hx
 have hlen:=r.length
 show wpAny (model X.prog X.w) X.A (subscriptTail e (.Slice none none (some st) p2) (.ref a) (.ref s2.heap.objs.size)) (EP X pins σ Q) X.xe { s2 with heap:=s2.heap.push { cls:=.type "slice",data:=.fields #[.none,.none,.int (-1) tk] } }
 refine tail_any (ops:=[.ref a,.ref s2.heap.objs.size]) ht.isList.typeIs slot_list_getitem.lookup (wpAny_getItem_list_slice ht.isList (Heap.IsSliceOf.new ..) .none .none (.int (-1) tk) (by decide) ?_ (by rw[EB];omega)) (by with_unfolding_all rfl)
 rw[yd]
 exact⟨.ref _,_,I3.laid (t':=s2.toks) (o:=.lst xs.reverse) (fun b ob e=>Ep _ e) (ER _) ⟨by rw[List.length_reverse];exact hz,_,0,r.rev,Er _ rfl⟩,rfl,q _ (I3.hok.fresh (ER _))⟩
theorem rd_revL{K:Eo}{te:TE}{ts:TO}{σ:St}{H:Hp}{Q:VK}(h:te σ H fun x H1=>ts σ H1 fun k H2=>k=some (-1)/\i5 K x H2 Q):vo K te ts σ H Q:=h
theorem xy{K:Eo}{H:Hp}{Q:VK}{a:Addr}{xs:List V}(e:ag K H a xs)(h:fb H (.lst xs.reverse) Q):i5 K (.ref a) H Q:=⟨a,xs,rfl,e,h⟩
theorem rd_dget{td:TE}{σ:St}{H:Hp}{Q:VK}(h:td σ H fun x H1=>ty σ H1 fun y H2=>∃a v,x=.ref a/\cZ H2 a y (some v)/\Q v H2):wO td ty σ H Q:=h
end
end L2
namespace L2
open PySem PySem.Spec PyProof.Rows
theorem DK:typeLookup (.type "list_reverseiterator") "__len__" = pure none:=by rw[typeLookup_type,builtinLookup_eq_fast];kernel_rfl
theorem yc:typeLookup (.type "list_reverseiterator") "__length_hint__" = pure (some (.builtin "list_reverseiterator.__length_hint__")):=by rw[typeLookup_type,builtinLookup_eq_fast];kernel_rfl
section
variable {prog:Program} {w:World} {A:Around} {E:Value->Shared->Prop} {s:Shared} {r d:Addr}
theorem xU{Q:Bool->Shared->Prop}(hT:s.TypeIs (.ref r) "list_reverseiterator")(h:Q false s):wpAny (model prog w) A (Builtin.List.listLengthHint (.ref r)) Q E s:=by
 unfold Builtin.List.listLengthHint
 refine Em (wpAny_specialOf hT DK ?_)
 show wpAny _ _ (specialOf (Value.ref r) (Str.ofString "__length_hint__") >>= _) _ _ _
 refine Em (wpAny_specialOf hT yc ?_)
 generalize hid:("list_reverseiterator.__length_hint__":String)=id0
 wp_delta
 rw[show splitId id0=some ("list_reverseiterator","__length_hint__")from by subst hid;decide +kernel]
 subst hid
 refine Em (wpAny_isInstance (T:="list_reverseiterator") (b:=true) hT (by rw[isSubtype_type];kernel_rfl) ?_)
 refine wpAny_ite_split (fun hab=>absurd hab (by decide)) (fun _=>?_)
 refine wpAny_ite_split (fun _=>?_) (fun hab=>absurd (by decide +kernel) hab)
 refine wpAny_ite_split (fun hab=>absurd hab (by decide +kernel)) (fun _=>?_)
 exact En h
theorem DJ{R:Result->Shared->Prop}{items:Array Value}(hh:A.handled=none)(hne:d≠r)(hit:s.heap.IsRevIter r d ((items.size:Int)-1))(hl:s.heap.IsList d items)(S:Addr)(hSr:S≠r)(hSd:S≠d)(res:Value)(c₀:Nat)(hS:s.heap.get? S=some { cls:=.type "list",data:=.seq #[] c₀ })
  (hR:∀h' tk acc' c',(∀b o,b≠S->b≠r->s.heap.get? b=some o->h'.get? b=some o)->h'.get? S=some { cls:=.type "list",dict:=none,data:=.seq acc' c',slots:=#[] }->ItemsOf (fun i v=>items[items.size-1-i]?=some v) acc' items.size->R (.ok (.ret res)) { s with heap:=h',toks:=tk }) (hn:items.size<=sizeLine) :
  wpAny (model prog w) A.in1 (Builtin.List.listExtendWith (.ref S) (.ref r) res)
   (fun fin s'=>match fin with | .done f=>R (.ok f) s' | .again c'=>c'.quiet=true/\codeAny (model prog w) A c' R s') (fun e s'=>R (.error e) s') s:=by
 have hSf:S∉[r,d]:=by simp only[EK,E5,or_false,not_or];exact⟨hSr,hSd⟩
 have W:=Walks.listRev (prog:=prog) (w:=w) (A:=A.in1) hh r d hne items
 have st:0<=items.size/\s.heap.IsRevIter r d ((items.size:Int)-1-((0:Nat):Int))/\s.heap.IsList d items:=⟨Nat.zero_le _,by rw[show (items.size:Int)-1-((0:Nat):Int)=(items.size:Int)-1 by omega];exact hit,hl⟩
 unfold Builtin.List.listExtendWith
 refine Em (wpAny_typeOf (T:="list_reverseiterator") hit.typeIs ?_)
 have h1:Builtin.List.listSameRef (.ref S) (.ref r)=false:=by simp[Builtin.List.listSameRef,hSr]
 have h2:(Value.type "list_reverseiterator" == Value.type "list")=false:=by decide
 have h3:(Value.type "list_reverseiterator" == Value.type "tuple")=false:=by decide
 simp only[h1,h2,h3,Bool.or_false,Bool.false_eq_true,if_false]
 refine Em (W.self 0 _ _ _ st ?_)
 refine Em (wpAny_holding (xU hit.typeIs ?_))
 refine wpAny_ite_split (fun hab=>absurd hab (by decide +kernel)) (fun _=>?_)
 refine En ⟨plainId_quiet PySem.F.plain_extend_loop _,?_⟩
 refine codeAny_extend_loopS W.toS hn S hSf res items.size 0 s #[] c₀ rfl (Nat.zero_le _) st hS (ItemsOf.nil _) fun s' acc' c' hm hS' hacc=>?_
 rw[Moved.eq_with hm]
 refine hR s'.heap s'.toks acc' c' (fun b o hb hb2 e=>hm.heap b o (fun hmem=>?_) e) hS' hacc
 rcases EK.mp hmem with e' | hmem
 ·exact hb e'
 ·exact hb2 (EG.mp hmem)
theorem AE{R:Result->Shared->Prop}{items:Array Value}(hh:A.handled=none)(hne:d≠r)(hit:s.heap.IsRevIter r d ((items.size:Int)-1))(hl:s.heap.IsList d items)(S:Addr)(hSr:S≠r)(hSd:S≠d)(hS:s.heap.get? S=some { cls:=.type "list",data:=.seq #[] })
  (hR:∀h' tk acc' c',(∀b o,b≠S->b≠r->s.heap.get? b=some o->h'.get? b=some o)->h'.get? S=some { cls:=.type "list",dict:=none,data:=.seq acc' c',slots:=#[] }->ItemsOf (fun i v=>items[items.size-1-i]?=some v) acc' items.size->R (.ok (.ret .none)) { s with heap:=h',toks:=tk }) (hn:items.size<=sizeLine) :
  wpAny (model prog w) A.in1 (Builtin.«list.__init__» ⟨[.ref S,.ref r],[]⟩)
   (fun fin s'=>match fin with | .done f=>R (.ok f) s' | .again c'=>c'.quiet=true/\codeAny (model prog w) A c' R s') (fun e s'=>R (.error e) s') s:=by
 show wpAny _ _ (do let old ←Builtin.List.listItems (.ref S);Builtin.List.listUpdate (.ref S) (fun _=>#[]);letGo old.toList.reverse;Builtin.List.listExtendWith (.ref S) (.ref r) .none) _ _ s
 refine Em ?_
 unfold Builtin.List.listItems
 refine Em (wpAny_seqItems hS rfl (En ?_))
 show wpAny _ _ (updateSeq S (fun _=>#[]) >>= fun _=>letGo (#[]:Array Value).toList.reverse >>= fun _=>Builtin.List.listExtendWith (.ref S) (.ref r) .none) _ _ s
 refine Em (wpAny_updateSeq hS rfl ?_)
 have hS₂:=Heap.get?_update_self (Obj.mapSeq (fun _=>(#[]:Array Value))) hS rfl
 have oth:∀b o,b≠S->s.heap.get? b=some o->(s.heap.update S (Obj.mapSeq (fun _=>(#[]:Array Value)))).get? b=some o:=
  fun b o hb e=>(Heap.get?_update_other _ _ (Ne.symm hb)).trans e
 refine Em (wpAny_letGo ?_)
 refine DJ hh hne (hit.at fun o e=>oth _ _ hSr.symm e) (hl.at fun o e=>oth _ _ hSd.symm e) S hSr hSd .none _ hS₂ (fun h' tk acc' c' hk hS' hacc=>?_) hn
 exact hR h' tk acc' c' (fun b o hb hb2 e=>hk b o hb hb2 (oth b o hb e)) hS' hacc
theorem DZ{Q:Value->Shared->Prop}{items:Array Value}(hh:A.handled=none)(hne:d≠r)(hit:s.heap.IsRevIter r d ((items.size:Int)-1))(hl:s.heap.IsList d items)(hn:items.size<=sizeLine)
  (hQ:∀h' tk acc' c',(∀b o,b≠r->s.heap.get? b=some o->h'.get? b=some o)->h'.get? s.heap.objs.size=some { cls:=.type "list",dict:=none,data:=.seq acc' c',slots:=#[] }->ItemsOf (fun i v=>items[items.size-1-i]?=some v) acc' items.size->Q (.ref s.heap.objs.size) { s with heap:=h',toks:=tk }) :
  wpAny (model prog w) A (call (.type "list") [.ref r]) Q E s:=by
 refine callType_codes (Q₁:=fun obj s₁=>obj=.ref s.heap.objs.size/\s₁={ s with heap:=s.heap.push { cls:=.type "list",data:=.seq #[] } }) PySem.F.called_list (PySem.F.typeCall_list_1 _) PySem.F.entry_list_init
  (code_list_new _ ⟨rfl,rfl⟩) fun obj s₁ h₁=>?_
 obtain⟨rfl,rfl⟩:=h₁
 have hS:(s.heap.push { cls:=.type "list",data:=.seq #[] }).get? s.heap.objs.size=some { cls:=.type "list",data:=.seq #[] }:=Er _ rfl
 have l1:r<s.heap.objs.size:=let ⟨o,ho,_⟩:=hit;Es ho
 have l2:d<s.heap.objs.size:=let ⟨o,ho,_⟩:=hl;Es ho
 refine⟨⟨_,hS,rfl⟩,PySem.F.args_list_init_2 _ _,AE (A:=A.in1) hh hne (hit.at fun o e=>Ep _ e) (hl.at fun o e=>Ep _ e) _ (Nat.ne_of_gt l1) (Nat.ne_of_gt l2) hS (fun h' tk acc' c' hk hS' hacc=>?_) hn⟩
 exact⟨rfl,hQ h' tk acc' c' (fun b o hb e=>hk b o (EO (Es e)) hb (Ep _ e)) hS' hacc⟩
end
theorem Dg{its:List Value}{acc:Array Value}(h:ItemsOf (fun i v=>its.toArray[its.toArray.size-1-i]?=some v) acc its.toArray.size):acc=its.reverse.toArray:=by
 have h1:acc.size=its.length:=h.1.trans EB
 have h2:=h.2
 refine Array.ext_getElem? fun i=>?_
 by_cases hi:i<acc.size
 ·have h3:=h2 i acc[i] (Array.getElem?_eq_getElem hi)
  rw[Array.getElem?_eq_getElem hi,←h3,List.getElem?_toArray,List.getElem?_toArray,EB,List.getElem?_reverse (by omega)]
 ·rw[Array.getElem?_eq_none (by omega),List.getElem?_toArray,List.getElem?_eq_none (by rw[List.length_reverse];omega)]
section
variable {X:Cx}
def v9(K:Eo)(te:TE):TE:=fun σ H Q=>te σ H fun x H1=>i5 K x H1 Q
theorem Cr{e:Expr}{te:TE}{p p2 pos pos2:Pos}(K:Eo)(hc:X.calm=true)(hg:Gl X "list")(hm:X.mg "list" = none)(hg2:Gl X "reversed")(hm2:X.mg "reversed" = none)(he:PE X e te)(hK:X.K=K:=by rfl)
  (h1:starEach [e] X.env=(false,eval e X.env)::starEach [] X.env:=by rfl)
  (h2:starEach [.Call (.Name "reversed" p2) [e] [] pos2] X.env=(false,eval (.Call (.Name "reversed" p2) [e] [] pos2) X.env)::starEach [] X.env:=by rfl) :
  PE X (.Call (.Name "list" p) [.Call (.Name "reversed" p2) [e] [] pos2] [] pos) (v9 K te):=by
 subst hK
 intro pins s σ H Q I h
 refine wpAny_Call_Name_kw (ft I hg hm PyProof.Rows.boot_list ?_ (by decide) (by decide))
 refine PyProof.Rows.callWith_type1 ?_ h2 rfl
 rw[h2]
 show wpAny _ _ (spliced ((false,eval (.Call (.Name "reversed" p2) [e] [] pos2) X.env)::backTo pos (starEach [] X.env))) _ _ s
 refine Calls.spliced_cons ?_
 refine wpAny_Call_Name_kw (ft I hg2 hm2 PyProof.Rows.boot_reversed ?_ (by decide) (by decide))
 refine PyProof.Rows.callWith_type1 ?_ h1 rfl
 rw[h1]
 show wpAny _ _ (spliced ((false,eval e X.env)::backTo pos2 (starEach [] X.env))) _ _ s
 refine Calls.spliced_cons (aw (he pins s σ H _ I h) fun u s1 ⟨x,H1,I1,r1,q1⟩=>?_)
 refine Calls.spliced_nil ?_
 obtain⟨a,xs,rfl,hx,q⟩:=q1
 cases r1
 obtain⟨its,r,pl,hz⟩:=I1.list hx
 have hlen:=r.length
 refine call_reversed_list pl.isList ?_
 refine Calls.spliced_nil ?_
 have la:a<s1.heap.objs.size:=let ⟨o,ho,_⟩:=pl.isList;Es ho
 have hsz:(s1.heap.push (revObj a ((its.toArray.size:Int)-1))).objs.size=s1.heap.objs.size+1:=Heap.size_push ..
 refine DZ (items:=its.toArray) (d:=a) (r:=s1.heap.objs.size) (I1.ok.hd hc) (EO la) ⟨_,Er _ rfl,rfl,rfl⟩ (pl.isList.at fun o e=>Ep _ e) (by rw[EB];omega) fun h' tk acc' c' hk hS' hacc=>?_
 have hk':∀b o,s1.heap.get? b=some o->h'.get? b=some o:=fun b o e=>hk b o (EO (Es e)) (Ep _ e)
 have hle:s1.heap.objs.size<=(s1.heap.push (revObj a ((its.toArray.size:Int)-1))).objs.size:=by rw[hsz];exact Nat.le_succ _
 rw[Dg hacc]at hS'
 exact⟨.ref _,_,I1.laid (t':=tk) (o:=.lst xs.reverse) hk' hle ⟨by rw[List.length_reverse];exact hz,_,c',r.rev,hS'⟩,rfl,q _ (I1.hok.fresh hle)⟩
def wZ(tk tv:TE):TE:=fun σ H Q=>∀p,H p=none->tk σ (upd H p (.dT [])) fun x H1=>tv σ H1 fun v H2=>∃b k,x=.ref b/\H2 b=some (.tup (List.map kV k))/\H2 p=some (.dT [])/\Q (.ref p) (upd H2 p (.dT [(k,v)]))
theorem p0{ek ev:Expr}{tk tv:TE}{pos:Pos}(hu:X.A.units+1<cLine)(hk:PE X ek tk)(hv:PE X ev tv):PE X (.Dict [some ek] [ev] pos) (wZ tk tv):=by
 intro pins s σ H Q I q
 have hn:=I.hok.fresh (ER s.heap.objs.size)
 have I1:=I.laid (a:=s.heap.objs.size) (o:=.dT []) (h':=s.heap.push { cls:=.type "dict",data:=.dict #[] }) (t':=s.toks) (fun _ _ q=>Ep _ q) (ER _) (DS s.heap I.big)
 refine wpAny_Dict_any rfl rfl (by simp) (by simp) ?_
 refine pairTrees_cons_walk (aw (hk pins _ σ _ _ I1 (q _ hn)) fun u s1 ⟨x,H1,I1,rx,q1⟩=>aw (hv pins s1 σ H1 _ I1 q1) fun w2 s2 ⟨v,H2,I2,ry,q2⟩=>pairTrees_nil_walk ?_)
 obtain⟨b,k,rfl,hb,e,q3⟩:=q2
 cases(show u=Value.ref b from rx)
 obtain⟨z,hd,xs,rel,dd⟩:=qV I2.hok e
 have hz:xs.length<=sizeLine:=by rw[←Paired.length rel];exact Nat.zero_le _
 unfold storeAll
 rw[List.forIn_cons]
 refine Em (Em (wpAny_dictSet_heap (hsz:=hz) (show(tupleKind (aO X.prog X.w)).room X.A from Nat.lt_of_succ_lt hu) (i7 I2.hok hb) dd fun h' dd' hs=>En ?_))
 dsimp only
 rw[List.forIn_nil]
 refine En ⟨.ref s.heap.objs.size,_,?_,rfl,q3⟩
 obtain⟨q,es,ep,hq,h2,h3,h4,_,h5⟩:=dd'
 refine nF I2 (by rw[e];exact True.intro) hs ⟨q,hq⟩ ⟨by rw[sizeLine_eq];simp,hd,_,(rel.put k hb ry).keeps fun c ys ec=>?_,q,es,ep,hq,h2,h3,h4,h5⟩
 rw[az (cK ec e (fun z=>nomatch z))]
 exact ec
theorem rd_lrev{K:Eo}{te:TE}{σ:St}{H:Hp}{Q:VK}(h:te σ H fun x H1=>i5 K x H1 Q):v9 K te σ H Q:=h
theorem rd_disp1{tk tv:TE}{σ:St}{H:Hp}{Q:VK}(h:∀p,H p=none->tk σ (upd H p (.dT [])) fun x H1=>tv σ H1 fun v H2=>∃b k,x=.ref b/\H2 b=some (.tup (List.map kV k))/\H2 p=some (.dT [])/\Q (.ref p) (upd H2 p (.dT [(k,v)]))):wZ tk tv σ H Q:=h
theorem rd_dnin{ty td:TE}{σ:St}{H:Hp}{Q:VK}(h:ty σ H fun y H1=>td σ H1 fun x H2=>∃a o,x=.ref a/\cZ H2 a y o/\Q (.bl (!o.isSome)) H2):uH ty td σ H Q:=h
theorem rd_dput{td ty tv:TE}{D:Ends}{σ:St}{H:Hp}(h:tv σ H fun v H1=>td σ H1 fun x H2=>ty σ H2 fun y H3=>∃a H4,x=.ref a/\f9 H3 a y v H4/\D.nx σ H4):qW td ty tv D σ H:=h
end
end L2
namespace L2
open PySem PySem.Spec PyProof.Rows
section
variable {X:Cx}
end
end L2
namespace L2
open PySem PySem.Spec PyProof.Rows
section
variable {X:Cx} {tg:Expr}
end
section
variable {prog:Program} {w:World} {A:Around} {E:Value->Shared->Prop} {s:Shared}
end
section
variable {X:Cx} {tg:Expr}
end
end L2
namespace L2
open PySem PySem.Spec PyProof.Rows
section
variable {X:Cx}
end
def DF(K:Eo):List V->Hp->VK->Prop:=fun xs H Q=>∃(p:Addr) (bs:List Bool),xs=[.ref p]/\ag K H p (bs.map V.bl)/\Q (.bl (bs.any id)) H
theorem any_range(bs:List Bool):((List.range bs.length).any fun i=>bs.getD i false)=bs.any id:=by
 rw[E8,E7,E7]
 constructor
 ·rintro⟨i,hi,h⟩
  have hi':=List.mem_range.mp hi
  rw[List.getD_eq_getElem?_getD,Ex hi']at h
  exact⟨_,EX hi',h⟩
 ·rintro⟨b,hb,h⟩
  obtain⟨i,hi,e⟩:=List.mem_iff_getElem.mp hb
  refine⟨i,List.mem_range.mpr hi,?_⟩
  rw[List.getD_eq_getElem?_getD,Ex hi,e]
  exact h
theorem zd{X:Cx}(K:Eo)(hc:X.calm=true)(hK:X.K=K:=by rfl):bS X (.builtin "any") (DF K):=by
 subst hK
 intro pins s σ H xs us Q I r h
 obtain⟨p,bs,rfl,hq,q⟩:=h
 obtain⟨u,rfl,rx⟩:=vals1 r
 cases rx
 obtain⟨its,rv,pl,hz⟩:=I.list hq
 have eb:=oY rv
 have hne:p≠s.heap.objs.size:=EO (by obtain⟨o,n,e,_⟩:=pl;exact Es e)
 refine call_any_walk (wpAny_pyIter_list pl.isList ?_)
 have I1:Inv X pins σ H { s with heap:=s.heap.push { cls:=.type "list_iterator",data:=.fields #[.ref p,.int 0 0] } }:=I.kept (t':=s.toks) fun b o e=>Ep _ e
 have hf:=I.fpOk (H':=H) (ER s.heap.objs.size) I.fresh
 refine⟨s.heap.objs.size,_,_,_,_,_,(fun i=>bs.getD i false),rfl,Walks.list (A:=X.A.in1) (I.ok.hd hc) _ p hne its.toArray,⟨⟨_,Er _ rfl,rfl,rfl⟩,?_⟩,?_,fun h' tk hk=>?_⟩
 ·exact pl.isList.push _
 ·intro i v s' Q' E' hv hQ
  rw[eb]at hv
  have hv':(bs.map Value.bool)[i]?=some v:=by simpa using hv
  rw[Ey]at hv'
  cases eg:bs[i]? with
  | none=>rw[eg]at hv';cases hv'
  | some b=>
   rw[eg]at hv'
   cases hv'
   have eb':bs.getD i false=b:=by rw[List.getD_eq_getElem?_getD,eg];rfl
   have hQ':Q' (bs.getD i false) s':=hQ
   rw[eb']at hQ'
   exact wpAny_truthy_bool hQ'
 ·obtain⟨f0,f1,f2,f3,f4,f5⟩:=hf
  have hl:=rv.length
  rw[Ew]at hl
  refine⟨.bl (bs.any id),H,I1.turned (it:=s.heap.objs.size) (fun b o hb e=>hk b o (by simpa using hb) e) f0 f1 f3 f4 f5,?_,q⟩
  show Value.bool _=Value.bool _
  rw[EB,←hl,any_range]
end L2
namespace L2
open PySem PySem.Spec PyProof.Rows
section
variable {X:Cx}
end
section
variable {X:Cx}
end
end L2
namespace L2
open PySem PySem.Spec PyProof.Rows
section
variable {X:Cx}
end
end L2
namespace L2
open PySem PySem.Spec PyProof.Rows
section
variable {P:Program} {w:World} {K:Eo} {mg:Str->Option Value} {base:Heap}
end
section
variable {X:Cx}
end
end L2
namespace L2
open PySem PySem.Spec PyProof.Rows
section
variable {P:Program} {w:World} {A:Around} {E:Value->Shared->Prop} {s:Shared}
end
section
variable {P:Program} {w:World} {A:Around} {E:Value->Shared->Prop} {s:Shared}
end
end L2
namespace L2
open PySem PySem.Spec PyProof.Rows
section
variable {P:Program} {w:World} {A:Around} {E:Value->Shared->Prop} {s:Shared}
end
end L2
namespace L2
open PySem PySem.Spec PyProof.Rows
section
variable {X:Cx} {pins:List (Addr×Obj)} {σ:St} {H:Hp} {s:Shared}
end
section
variable {X:Cx}
end
end L2
namespace L2
open PySem PySem.Spec PyProof.Rows
section
variable {P:Program} {w:World} {A:Around} {E:Value->Shared->Prop} {s:Shared}
end
section
variable {X:Cx}
end
end L2
namespace L2
open PySem PySem.Spec PyProof.Rows
section
variable {X:Cx}
end
end L2
namespace L2
open PySem PySem.Spec PyProof.Rows
section
variable {X:Cx} {pins:List (Addr×Obj)} {σ:St} {H:Hp} {s:Shared}
end
section
variable {X:Cx}
end
end L2
namespace L2
open PySem PySem.Spec PyProof.Rows
section
variable {X:Cx}
end
end L2
namespace L2
open PySem PySem.Spec PyProof.Rows
end L2
namespace L2
open PySem PySem.Spec PyProof.Rows
section
variable {X:Cx} {x:Addr} {oe:Obj}
end
end L2
namespace L2
open PySem PySem.Spec PyProof.Rows
section
variable {prog:Program} {w:World} {A:Around} {E:Value->Shared->Prop} {s:Shared} {dd:Option Addr}
end
section
variable {X:Cx} {x:Addr} {oe:Obj}
end
end L2
namespace L2
open PySem PySem.Spec PyProof.Rows
section
variable {X:Cx}
end
end L2
namespace L2
open PySem PySem.Spec PyProof.Rows
section
variable {prog:Program} {w:World} {A:Around} {E:Value->Shared->Prop} {K:Eo} {x D:Addr} {ox:Obj} {h:Heap} {g:Array GenState} {dr:Drawn} {t:Nat} {os:OsState}
variable {nm q:Str} {N:Addr} {bs bm bmB:List Value} {sn:List Str} {sub:List Value} {ab:Bool} {col:Option Bool} {dd:Option Addr} {k0 k1 k2 k3 k5:Option Value} {newId:String} {name:Str} {v:Value}
end
section
variable {prog:Program} {w:World} {A:Around} {E:Value->Shared->Prop} {h:Heap} {g:Array GenState} {d:Drawn} {t:Nat} {os:OsState}
variable {nm q:Str} {C N:Addr} {bs bm bmB:List Value} {hdct:Bool} {sn:List Str} {sub:List Value} {ab:Bool} {col:Option Bool} {dd:Option Addr} {k0 k1 k2 k3 k5:Option Value} {B newId initId:String} {K:Eo}
end
section
variable {P:Program} {w:World} {A:Around} {E:Value->Shared->Prop} {K:Eo} {s:Shared} {e C:Addr} {oe:Obj} {v:Value}
end
section
variable {M:Model} {A:Around} {E:Value->Shared->Prop} {env:Env} {nm q:Str} {C N:Addr} {bs bm bmB:List Value} {hdct:Bool} {sn:List Str} {sub:List Value} {ab:Bool} {col:Option Bool} {dd:Option Addr} {k0 k1 k2 k3 k5:Option Value} {newId:String}
end
section
variable {prog:Program} {w:World} {A:Around} {E:Value->Shared->Prop} {s:Shared} {env:Env} {K:Eo} {nm q:Str} {C N:Addr} {bs bm bmB:List Value} {hdct:Bool} {sn:List Str} {sub:List Value} {ab:Bool} {col:Option Bool} {dd:Option Addr} {k0 k1 k2 k3 k5:Option Value} {B newId initId:String}
end
section
variable {P:Program} {w:World} {K:Eo} {mg:Str->Option Value} {base:Heap} {N:List Str} {qual:Str} {scope:Scope} {f:Addr} {cd:Value} {A:Around} {outer:List Env} {s₀:Shared} {H₀:Hp} {E:XK}
end
end L2
namespace L2
open PySem PySem.Spec PyProof.Rows
section
variable {P:Program} {w:World} {K:Eo} {mg:Str->Option Value} {base:Heap}
end
section
variable {Y:Cx} {x:Addr} {oe:Obj}
end
end L2
namespace L2
open PySem PySem.Spec PyProof.Rows
section
variable {prog:Program} {w:World} {A:Around} {E:Value->Shared->Prop} {K:Eo} {x D:Addr} {ox:Obj} {od:Option Obj} {name:Str} {v:Value}
end
section
variable {X:Cx} {x D:Addr} {oe:Obj} {da:Option Addr}
end
end L2
set_option maxHeartbeats 1000000
namespace L2
open PySem PySem.Spec PyProof.Rows
section
variable {P:Program} {w:World} {A:Around} {E:Value->Shared->Prop} {s:Shared}
end
section
variable {P:Program} {w:World} {A:Around} {E:Value->Shared->Prop} {s:Shared}
end
end L2
set_option maxHeartbeats 400000
namespace L2
open PySem PySem.Spec PyProof.Rows
section
variable {P:Program} {w:World} {A:Around} {E:Value->Shared->Prop} {s:Shared}
end
section
variable {X:Cx}
end
end L2
namespace L2
open PySem PySem.Spec PyProof.Rows
section
variable {prog:Program} {w:World} {A:Around} {E:Value->Shared->Prop} {s:Shared}
end
section
variable {prog:Program} {w:World} {A:Around} {E:Value->Shared->Prop} {s:Shared}
end
section
variable {X:Cx}
end
end L2
namespace L2
open PySem PySem.Spec PyProof.Rows
theorem iQ{x:Str}{c:Addr}:∀(names:List (Str×NameKind)) (n:Nat) (acc:List (Str×Addr)),(cellsFrom n names acc).lookup x=some c->acc.lookup x=some c\/(n<=c/\(x,NameKind.cell)∈names)
 | [],_,_,h=>.inl h
 | (y,k)::r,n,acc,h=>by
  unfold cellsFrom at h
  by_cases hk:(k == NameKind.cell)=true
  ·rw[if_pos hk]at h
   have hk':k=.cell:=by simpa using hk
   subst hk'
   rcases iQ r (n+1) ((y,n)::acc) h with h | ⟨h1,h2⟩
   ·rw[List.lookup_cons]at h
    cases hb:x == y with
    | true=>
     rw[hb]at h
     cases h
     rw[beq_iff_eq.mp hb]
     exact .inr ⟨ER _,EC⟩
    | false=>rw[hb]at h;exact .inl h
   ·exact .inr ⟨Nat.le_of_succ_le h1,Ez _ h2⟩
  ·rw[if_neg hk]at h
   rcases iQ r n acc h with h | ⟨h1,h2⟩
   ·exact .inl h
   ·exact .inr ⟨h1,Ez _ h2⟩
theorem oO{x y:Str}{c:Addr}:∀(names:List (Str×NameKind)) (n:Nat) (acc:List (Str×Addr)),(∀x c,acc.lookup x=some c->@LT.lt Nat _ c n)->(∀x y c,acc.lookup x=some c->acc.lookup y=some c->x=y)->(cellsFrom n names acc).lookup x=some c->(cellsFrom n names acc).lookup y=some c->x=y
 | [],_,_,_,hi,h1,h2=>hi _ _ _ h1 h2
 | (z,k)::r,n,acc,hb,hi,h1,h2=>by
  unfold cellsFrom at h1 h2
  by_cases hk:(k == NameKind.cell)=true
  ·rw[if_pos hk]at h1 h2
   refine oO r (n+1) ((z,n)::acc) (fun x c h=>?_) (fun x y c h1 h2=>?_) h1 h2
   ·rw[List.lookup_cons]at h
    cases e:x == z with
    | true=>rw[e]at h;cases h;exact Nat.lt_succ_self _
    | false=>rw[e]at h;exact Nat.lt_succ_of_lt (hb x c h)
   ·rw[List.lookup_cons]at h1 h2
    cases e1:x == z with
    | true=>
     rw[e1]at h1
     cases h1
     cases e2:y == z with
     | true=>rw[beq_iff_eq.mp e1,beq_iff_eq.mp e2]
     | false=>rw[e2]at h2;exact absurd (hb _ _ h2) (Nat.lt_irrefl _)
    | false=>
     rw[e1]at h1
     cases e2:y == z with
     | true=>rw[e2]at h2;cases h2;exact absurd (hb _ _ h1) (Nat.lt_irrefl _)
     | false=>rw[e2]at h2;exact hi _ _ _ h1 h2
  ·rw[if_neg hk]at h1 h2
   exact oO r n acc hb hi h1 h2
section
variable {M:Model} {A:Around} {E:Value->Shared->Prop} {s:Shared}
end
section
variable {X:Cx} {pins:List (Addr×Obj)} {σ:St} {H:Hp} {s:Shared}
end
end L2
namespace L2
open PySem PySem.Spec PyProof.Rows
def cV(c:Addr)(o:Obj):HO:=.ext fun h=>h.get? c=some o
theorem Df{P:Program}{w:World}{H:Hp}{h:Heap}{c:Addr}{o:Obj}(r:h.get? c=some o):br P w H h c (cV c o):=⟨r,⟨o,r⟩,fun h1 h2 r1 k=>k o r1⟩
def bF(cs:List (Addr×Obj))(H:Hp):Hp:=fun b=>match cs.lookup b with | some o=>some (cV b o) | none=>H b
def aY(cs:List (Addr×Obj))(H:Hp):Hp:=fun b=>match cs.lookup b with | some _=>none | none=>H b
section
variable {cs:List (Addr×Obj)} {H H':Hp} {b:Addr} {o:Obj} {P:Program} {w:World} {h h':Heap} {fs ex:List Addr}
theorem eD(q:cs.lookup b=some o):bF cs H b=some (cV b o):=by unfold bF;rw[q]
theorem cN(q:cs.lookup b=none):bF cs H b=H b:=by unfold bF;rw[q]
theorem gE(q:cs.lookup b=some o):aY cs H b=none:=by unfold aY;rw[q]
theorem cy(q:cs.lookup b=none):aY cs H b=H b:=by unfold aY;rw[q]
theorem Cc{u:HO}(q:aY cs H b=some u):cs.lookup b=none/\H b=some u:=by
 cases e:cs.lookup b with
 | none=>rw[cy e]at q;exact⟨rfl,q⟩
 | some o=>rw[gE e]at q;cases q
theorem mz{u:HO}(hc:∀b o,cs.lookup b=some o->H b=none)(q:H b=some u):bF cs H b=some u:=by
 cases e:cs.lookup b with
 | none=>rw[cN e];exact q
 | some o=>rw[hc b o e]at q;cases q
theorem wC(hok:aZ P w H h)(hc:∀b o,cs.lookup b=some o->h.get? b=some o)(hn:∀b o,cs.lookup b=some o->H b=none):aZ P w (bF cs H) h:=fun b u e=>by
 cases q:cs.lookup b with
 | some o=>rw[eD q]at e;cases e;exact Df (hc b o q)
 | none=>
  rw[cN q]at e
  exact(hok b u e).stay (fun d v _ g=>g) (fun d hd=>mz hn hd) fun d xs hd=>mz hn hd
theorem wV(hok:aZ P w H h)(hc:∀b o,cs.lookup b=some o->H b=some (cV b o)):aZ P w (aY cs H) h:=fun b u e=>by
 obtain⟨q,e⟩:=Cc e
 have nt:∀d x,H d=some x->(∀f,x≠.ext f)->aY cs H d=some x:=fun d x hd nx=>by
  cases z:cs.lookup d with
  | none=>rw[cy z];exact hd
  | some o'=>rw[hc d o' z]at hd;cases hd;exact absurd rfl (nx _)
 exact(hok b u e).stay (fun d v _ g=>g) (fun d hd=>nt d _ hd fun f z=>by cases z) fun d xs hd=>nt d _ hd fun f z=>by cases z
theorem xY(u:Un fs ex (bF cs H) H' h h')(hok':aZ P w H' h')(hc:∀b o,cs.lookup b=some o->h.get? b=some o)(hn:∀b o,cs.lookup b=some o->H b=none)(hc':∀b o,cs.lookup b=some o->H' b=some (cV b o)):Un fs ex H (aY cs H') h h' where
 keep:=fun b o e n nf nx=>by
  cases q:cs.lookup b with
  | none=>exact u.keep b o e (by rw[cN q];exact n) nf nx
  | some o'=>
   rw[hc b o' q]at e
   cases e
   exact(hok' b _ (hc' b _ q)).1
 slot:=fun b o e n nf nx=>by
  cases q:cs.lookup b with
  | none=>exact u.slot b o e (by rw[cN q];exact n) nf nx
  | some o'=>
   rw[hc b o' q]at e
   cases e
   exact⟨_,(hok' b _ (hc' b _ q)).1⟩
 free:=fun b o e n nx=>by
  cases q:cs.lookup b with
  | none=>rw[cy q];exact u.free b o e (by rw[cN q];exact n) nx
  | some o'=>exact gE q
 there:=u.there
 tups:=fun b xs e=>by
  cases q:cs.lookup b with
  | none=>rw[cy q];exact u.tups b xs (by rw[cN q];exact e)
  | some o'=>rw[hn b o' q]at e;cases e
 frzs:=fun b o x e=>by
  cases q:cs.lookup b with
  | none=>rw[cy q];exact u.frzs b o x (by rw[cN q];exact e)
  | some o'=>rw[hn b o' q]at e;cases e
 tbls:=fun b ps e=>by
  cases q:cs.lookup b with
  | none=>rw[cy q];exact u.tbls b ps (by rw[cN q];exact e)
  | some o'=>rw[hn b o' q]at e;cases e
theorem CW(u:Un fs ex (aY cs H) H' h h')(hc:∀b o,cs.lookup b=some o->H b=some (cV b o)):Un fs ex H (bF cs H') h h' where
 keep:=fun b o e n nf nx=>by
  cases q:cs.lookup b with
  | none=>exact u.keep b o e (by rw[cy q];exact n) nf nx
  | some o'=>rw[hc b o' q]at n;cases n
 slot:=fun b o e n nf nx=>by
  cases q:cs.lookup b with
  | none=>exact u.slot b o e (by rw[cy q];exact n) nf nx
  | some o'=>rw[hc b o' q]at n;cases n
 free:=fun b o e n nx=>by
  cases q:cs.lookup b with
  | none=>rw[cN q];exact u.free b o e (by rw[cy q];exact n) nx
  | some o'=>rw[hc b o' q]at n;cases n
 there:=u.there
 tups:=fun b xs e=>by
  cases q:cs.lookup b with
  | none=>rw[cN q];exact u.tups b xs (by rw[cy q];exact e)
  | some o'=>rw[hc b o' q]at e;cases e
 frzs:=fun b o x e=>by
  cases q:cs.lookup b with
  | none=>rw[cN q];exact u.frzs b o x (by rw[cy q];exact e)
  | some o'=>rw[hc b o' q]at e;cases e
 tbls:=fun b ps e=>by
  cases q:cs.lookup b with
  | none=>rw[cN q];exact u.tbls b ps (by rw[cy q];exact e)
  | some o'=>rw[hc b o' q]at e;cases e
end
structure FunR(P:Program)(w:World)(K:Eo)(mg:Str->Option Value)(base:Heap)(k:Nat)(f:Addr)(pre:Hp->Prop)(R:List V->Hp->VK->Prop):Prop where
 at_:∀H h,aZ P w H h->pre H->PySem.W.FnAt f h
 run:∀(A:Around) (outer:List Env) (s:Shared) (H:Hp) (us:List Value) (vs:List V) (Q:VK),Room k A->Env0 P w K mg base A outer s H->pre H->Vals vs us->R vs H Q →
  codeAny (model P w) A (.call (.ref f) ⟨us,[]⟩) (CR dy outer P w H s Q E0) s
def pL(P:Program)(w:World)(K:Eo)(mg:Str->Option Value)(base:Heap)(k:Nat)(tf:TE)(ta:TA):TE:=fun σ H Q=>tf σ H fun fv H1=>∃f pre R,fv=.ref f/\FunR P w K mg base k f pre R/\pre H1/\ta σ H1 fun vs H2=>pre H2/\R vs H2 Q
theorem pX{X:Cx}{P:Program}{w:World}{K:Eo}{mg:Str->Option Value}{base:Heap}{k:Nat}{x:Str}{p pos:Pos}{e:Expr}{es:List Expr}{tf:TE}{ta:TA}{A0:Around}(hr:Room k A0)(hf:PE X (.Name x p) tf)(ha:PA X (e::es) ta)(hA:X.A=A0:=by rfl)(hP:X.prog=P:=by rfl)(hw:X.w=w:=by rfl)(hK:X.K=K:=by rfl)(hm:X.mg=mg:=by rfl)(hB:X.base=base:=by rfl)
  (he:starEach (e::es) X.env=(false,eval e X.env)::starEach es X.env:=by rfl) (hpl:(backTo pos (starEach es X.env)).any (·.1)=false:=by rfl):PE X (.Call (.Name x p) (e::es) [] pos) (pL P w K mg base k tf ta):=by
 subst hA
 subst hP
 subst hw
 subst hK
 subst hm
 subst hB
 intro pins s σ H Q I h
 refine wpAny_Call_Name_kw (aw (hf pins s σ H _ I h) fun fv s1 ⟨v,H1,I1,r1,⟨f,pre,R,ev,F,hp,q1⟩⟩=>?_)
 subst ev
 cases r1
 refine PySem.W.callWith_F (first:=[]) (F.at_ _ _ I1.hok hp) (aw (ha pos pins s1 σ H1 _ I1 q1) fun us s2 ⟨vs,H2,I2,r2,⟨hp2,q2⟩⟩=>?_) he hpl
 refine⟨F.at_ _ _ I2.hok hp2,?_⟩
 refine wpAny_call (codeAny_mono (F.run X.A X.stack s2 H2 us vs Q hr I2.env0 hp2 r2 q2) fun r s' hq=>?_)
 cases r with
 | error e=>exact False.elim hq
 | ok fl=>
  cases fl with
  | ret u=>exact I2.after hq
  | next=>exact False.elim hq
  | brk=>exact False.elim hq
  | cont=>exact False.elim hq
structure Cap where
 n:Str
 c:Addr
 o:Obj
 v:V
abbrev cellsOf(cp:List Cap):List (Addr×Obj):=cp.map fun e=>(e.c,e.o)
structure CapAt(X:Cx)(σ:St)(h:Heap)(js:List Nat)(cp:List Cap):Prop where
 len:cp.length=js.length
 at_:∀(i j:Nat) (e:Cap),js[i]?=some j->cp[i]?=some e->X.N[j]?=some e.n/\X.env.cells.lookup e.n=some e.c/\σ[j]?=some (some e.v)/\h.get? e.c=some e.o/\∃u,e.o.data=.cell (some u)/\RelV e.v u
theorem fP{cp:List Cap}{b:Addr}{o:Obj}(h:(cellsOf cp).lookup b=some o):∃e∈cp,e.c=b/\e.o=o:=by
 have hm:(b,o)∈cellsOf cp:=by
  have go:∀{l:List (Addr×Obj)},l.lookup b=some o->(b,o)∈l:=by
   intro l
   induction l with
   | nil=>intro h;cases h
   | cons x r ih=>
    intro h
    obtain⟨y,z⟩:=x
    rw[List.lookup_cons]at h
    cases hb:b == y with
    | true=>rw[hb]at h;cases h;rw[beq_iff_eq.mp hb];exact EC
    | false=>rw[hb]at h;exact Ez _ (ih h)
  exact go h
 obtain⟨e,he,eq⟩:=List.mem_map.mp hm
 cases eq
 exact⟨e,he,rfl,rfl⟩
theorem Cd{cp:List Cap}{e:Cap}(h:e∈cp):∃o,(cellsOf cp).lookup e.c=some o:=by
 induction cp with
 | nil=>cases h
 | cons x r ih=>
  show ∃o,List.lookup e.c ((x.c,x.o)::cellsOf r)=some o
  rw[List.lookup_cons]
  cases hb:e.c == x.c with
  | true=>exact⟨_,rfl⟩
  | false=>
   rcases EK.mp h with rfl | h
   ·simp at hb
   ·exact ih h
def lj(sc:Scope)(N:List Str)(js:List Nat):Bool:=js.all fun j=>decide (j<N.length) && (sc.names.lookup (N.getD j "") == some .cell)
section
variable {X:Cx} {pins:List (Addr×Obj)} {σ:St} {H:Hp} {s:Shared}
theorem Inv.capAt(I:Inv X pins σ H s):∀{js:List Nat},lj X.env.scope X.N js=true->(∀j∈js,∃v,σ[j]?=some (some v))->∃cp,CapAt X σ s.heap js cp
 | [],_,_=>⟨[],rfl,fun i j e h=>by simp at h⟩
 | j::js,hj,hv=>by
  have hj2:(decide (j<X.N.length) && (X.env.scope.names.lookup (X.N.getD j "") == some .cell))=true/\lj X.env.scope X.N js=true:=by
   simpa[lj]using hj
  obtain⟨cp,hcp⟩:=I.capAt (js:=js) hj2.2 fun i hi=>hv i (Ez _ hi)
  obtain⟨v,ev⟩:=hv j EC
  have h1:=hj2.1
  simp only[E9,decide_eq_true_eq,beq_iff_eq]at h1
  have eN:X.N[j]?=some (X.N.getD j ""):=by
   rw[List.getD_eq_getElem?_getD,Ex h1.1]
   rfl
  obtain⟨m,hn,hl⟩:=I.loc
  obtain⟨u,r,l⟩:=hl j _ v eN ev (.inr (.inl h1.2))
  rcases l with⟨z,_⟩ | ⟨_,c,hc,o,ho,hd⟩
  ·have z':X.env.scope.names.lookup (X.N.getD j "")=some .local:=z
   rw[h1.2]at z'
   cases z'
  ·refine⟨⟨X.N.getD j "",c,o,v⟩::cp,by simp[hcp.len],fun i k e h2 h3=>?_⟩
   cases i with
   | zero=>
    cases h2
    cases h3
    exact⟨eN,hc,ev,ho,u,hd,r⟩
   | succ i=>
    simp at h2 h3
    exact hcp.at_ i k e h2 h3
theorem CapAt.mem{js:List Nat}{cp:List Cap}{h:Heap}(C:CapAt X σ h js cp){e:Cap}(he:e∈cp):X.env.cells.lookup e.n=some e.c/\h.get? e.c=some e.o/\∃u,e.o.data=.cell (some u)/\RelV e.v u:=by
 obtain⟨i,hi⟩:=List.getElem?_of_mem he
 have hl:i<js.length:=by rw[←C.len];exact(EE.mp hi).1
 obtain⟨_,h2,_,h4,h5⟩:=C.at_ i _ e (Ex hl) hi
 exact⟨h2,h4,h5⟩
theorem AF{k:Nat}{f:Addr}{fd:FuncData}{ps:List Str}{sp:Sp}{Q:VK}{us:List Value}{vs:List V}{js:List Nat}{cp:List Cap}(F:FnOk X.prog X.w X.K X.mg X.base dy k f fd ps sp)(hr:Room k X.A)(hb:Binds X.K fd ps [])
  (I:Inv X pins σ H s) (C:CapAt X σ s.heap js cp) (hfn:∀e∈cp,X.fn e.n=true) (r:Vals vs us)
  (h:sp vs (bF (cellsOf cp) H) (fun v H'=>(∀b o,(cellsOf cp).lookup b=some o->H' b=some (cV b o))/\Q v (aY (cellsOf cp) H')) E0):wpAny (model X.prog X.w) X.A (call (.ref f) us) (EP X pins σ Q) X.xe s:=by
 have hc:∀b o,(cellsOf cp).lookup b=some o->s.heap.get? b=some o:=fun b o e=>by
  obtain⟨x,hx,rfl,rfl⟩:=fP e
  exact(C.mem hx).2.1
 have hn:∀b o,(cellsOf cp).lookup b=some o->H b=none:=fun b o e=>by
  obtain⟨x,hx,rfl,rfl⟩:=fP e
  exact I.freeC _ _ (C.mem hx).1
 have hab:∀b o,(cellsOf cp).lookup b=some o->X.s₀.heap.objs.size<=b:=fun b o e=>by
  obtain⟨x,hx,rfl,rfl⟩:=fP e
  exact I.ok.cab _ _ (hfn x hx) (C.mem hx).1
 have e0:=I.env0
 have e1:Env0 X.prog X.w X.K X.mg X.base X.A X.stack s (bF (cellsOf cp) H):=by
  refine⟨e0.frames,e0.mod,fun b o e=>⟨(e0.bs b o e).1,?_⟩,e0.bsz,e0.funs,fun b hb'=>?_,wC e0.hok hc hn,e0.bare⟩
  ·cases q:(cellsOf cp).lookup b with
   | none=>rw[cN q];exact(e0.bs b o e).2
   | some o'=>exact absurd (E3 (Es (I.ok.bs b o e).1) (hab b o' q)) (Nat.lt_irrefl _)
  ·cases q:(cellsOf cp).lookup b with
   | none=>rw[cN q];exact e0.frf b hb'
   | some o'=>
    exfalso
    rcases EK.mp (I.stkSub b hb')with z | z
    ·obtain⟨m,⟨ob,es,ep,ho,hd,_⟩,_⟩:=I.loc
     obtain⟨x,hx,rfl,rfl⟩:=fP q
     obtain⟨_,g,u,hu,_⟩:=C.mem hx
     rw[←z,g]at ho
     cases ho
     rw[hu]at hd
     cases hd
    ·obtain⟨_,ob,ho,_⟩:=I.ok.funs.mem z
     exact absurd (E3 (Es ho) (hab b o' q)) (Nat.lt_irrefl _)
 have hl:us.length=ps.length:=by rw[←r.length];exact F.len _ _ _ _ h
 refine wpAny_call (codeAny_mono (F.run X.A X.stack s (bF (cellsOf cp) H) ⟨us,[]⟩ us vs _ E0 hr e1 (by have:=hb s us I.kIn (by simpa using hl);rw[List.append_nil]at this;exact this) r h) fun r s' hq=>?_)
 cases r with
 | error e=>exact False.elim hq
 | ok fl=>
  cases fl with
  | ret u=>
   obtain⟨v,H',os,bare,un,hok,rv,hc',q⟩:=hq
   exact I.after ⟨v,aY (cellsOf cp) H',os,bare,xY un hok hc hn hc',wV hok hc',rv,q⟩
  | next=>exact False.elim hq
  | brk=>exact False.elim hq
  | cont=>exact False.elim hq
def iZ(sp:Sp)(js:List Nat)(cells:List (Str×Addr))(N:List Str)(ta:TA):TE:=fun σ H Q=>ta σ H fun vs H1=>(∀j∈js,∃v,σ[j]?=some (some v)) ∧
 ∀cp:List Cap,cp.length=js.length->(∀(i j:Nat) (e:Cap),js[i]?=some j->cp[i]?=some e->N[j]?=some e.n/\cells.lookup e.n=some e.c/\σ[j]?=some (some e.v)/\H1 e.c=none/\∃u,e.o.data=.cell (some u)/\RelV e.v u) →
  sp vs (bF (cellsOf cp) H1) (fun v H'=>(∀b o,(cellsOf cp).lookup b=some o->H' b=some (cV b o))/\Q v (aY (cellsOf cp) H')) E0
theorem oF{x:Str}{k j:Nat}{ps:List Str}{sp:Sp}{e:Expr}{es:List Expr}{t:TA}{p pos:Pos}(js:List Nat)(C:Cal X.prog X.w X.K X.mg X.base x j ps sp)(hr:Room k X.A)(ha:PA X (e::es) t)(hjk:j<=k:=by decide)(hg:Gl X x:=by rfl)(hdb:(x == ("__debug__":Str))=false:=by decide)
  (hj:lj X.env.scope X.N js=true:=by rfl) (hfn:∀y,X.fn y=true:=by intro _;rfl)
  (he:starEach (e::es) X.env=(false,eval e X.env)::starEach es X.env:=by rfl) (hpl:(backTo pos (starEach es X.env)).any (·.1)=false:=by rfl) :
  PE X (.Call (.Name x p) (e::es) [] pos) (iZ sp js X.env.cells X.N t):=by
 obtain⟨f,fd,hm,hk,hb,F⟩:=C.ex
 intro pins s σ H Q I h
 refine wpAny_Call_Name_kw (jk I hg hm ?_ hdb)
 refine PySem.W.callWith_K (h₀:=X.base) I.ok.mod.kin hk (aw (ha pos pins s σ H _ I h) fun us s1 ⟨vs,H1,I1,r,hv,q⟩=>⟨I1.kIn,?_⟩) he hpl
 obtain⟨cp,hcp⟩:=I1.capAt hj hv
 refine AF F (hr.mono hjk) hb I1 hcp (fun e _=>hfn _) r (q cp hcp.len fun i j e h1 h2=>?_)
 obtain⟨a1,a2,a3,_,a5⟩:=hcp.at_ i j e h1 h2
 exact⟨a1,a2,a3,I1.freeC _ _ a2,a5⟩
end
end L2
namespace L2
open PySem PySem.Spec PyProof.Rows
def dW(f c:Addr)(q:Str)(params:Arguments)(body:Expr)(scope:Scope)(cl:List (Str×Addr)):HO:=.ext fun h=>∃pm ctv,h.get? f=some (PySem.W.kla_obj "<lambda>" q params body scope cl pm c ctv)
theorem vB{P:Program}{w:World}{H:Hp}{h:Heap}{f c:Addr}{q:Str}{params:Arguments}{body:Expr}{scope:Scope}{cl:List (Str×Addr)}{pm ctv:Value}(r:h.get? f=some (PySem.W.kla_obj "<lambda>" q params body scope cl pm c ctv)):br P w H h f (dW f c q params body scope cl):=
 ⟨⟨pm,ctv,r⟩,⟨_,r⟩,fun h1 h2 ⟨a,b,g⟩ k=>⟨a,b,k _ g⟩⟩
def iF(sc:Scope):Bool:=sc.names.all fun p=>sc.names.lookup p.1 == some p.2
def oI(sc out:Scope):Bool:=sc.names.all fun p=>p.2 != .free || out.names.lookup p.1 == some .cell || out.names.lookup p.1 == some .free
theorem wG{sc:Scope}(h:iF sc=true){p:Str×NameKind}(hp:p∈sc.names):sc.names.lookup p.1=some p.2:=by simpa using E6.mp h p hp
theorem wy{sc out:Scope}(h:oI sc out=true){p:Str×NameKind}(hp:p∈sc.names)(hf:p.2=.free):out.names.lookup p.1=some .cell\/out.names.lookup p.1=some .free:=by
 have:=E6.mp h p hp
 simp[hf]at this
 exact this
structure ClOk(sc:Scope)(cells cl:List (Str×Addr)):Prop where
 one:iF sc=true
 fr:∀x c,cl.lookup x=some c->sc.names.lookup x=some .free/\cells.lookup x=some c
 has:∀x,sc.names.lookup x=some .free->∃c,cl.lookup x=some c
 inj:∀x y c,cl.lookup x=some c->cl.lookup y=some c->x=y
theorem ym{X:Cx}(ok:X.Ok){sc:Scope}(hsc:iF sc=true)(ho:oI sc X.env.scope=true):ClOk sc X.env.cells (dH sc.names X.env.cells):=by
 have fr:∀x c,(dH sc.names X.env.cells).lookup x=some c->sc.names.lookup x=some .free/\X.env.cells.lookup x=some c:=fun x c h=>by
  rcases oH X.env.cells sc.names [] x c h with⟨h1,h2⟩ | h1
  ·obtain⟨d,hd⟩:=ok.has x (wy ho h1 rfl)
   refine⟨wG hsc h1,?_⟩
   rw[hd]at h2 ⊢
   rw[h2]
   rfl
  ·simp at h1
 exact⟨hsc,fr,fun x h=>lF (iq h),fun x y c h1 h2=>ok.inj x y c (fr x c h1).2 (fr y c h2).2⟩
section
variable {X:Cx} {pins:List (Addr×Obj)} {σ:St} {H:Hp} {s:Shared}
theorem Bx{cl:List (Str×Addr)}{P c f:Addr}{ps more:Array Value}{q:Str}{params:Arguments}{body:Expr}{scope:Scope}{pm ctv:Value}{h':Heap}{tk:Nat}(I:Inv X pins σ H s)(hP:H P=some (.tbl ps))(b:Heap.ExtBut P s.heap h')(hc:s.heap.objs.size<=c)(hcf:c<f)(gP:h'.get? P=some { cls:=.none,data:=.fields (ps++more) })
  (gc:h'.CodeRec (.ref c) q) (gf:h'.get? f=some (PySem.W.kla_obj "<lambda>" q params body scope cl pm c ctv)) :
  Inv X pins σ (upd (upd (upd H P (.tbl (ps++more))) c (eW c q)) f (dW f c q params body scope cl)) { s with heap:=h',toks:=tk }:=by
 have hf:@LE.le Nat _ s.heap.objs.size f:=E4 hc (Nat.le_of_lt hcf)
 have nc:H c=none:=I.hok.fresh hc
 have nf:H f=none:=I.hok.fresh hf
 have cf:f≠c:=Nat.ne_of_gt hcf
 have Pc:c≠P:=fun z=>by rw[z,hP]at nc;cases nc
 have Pf:f≠P:=fun z=>by rw[z,hP]at nf;cases nf
 have old:∀b o,H b=some o->b≠P->upd (upd (upd H P (.tbl (ps++more))) c (eW c q)) f (dW f c q params body scope cl) b=some o:=fun b o e n=>by
  rw[az (bX e nf),az (bX e nc),az n];exact e
 have nP:∀b,H b=none->b≠P:=fun b e z=>by rw[z,hP]at e;cases e
 refine I.un ⟨fun b' o e n _ _=>b b' o (nP b' n) e,fun b' o e n _ _=>⟨o.slots,b b' o (nP b' n) e⟩,fun b' o e n _=>?_,fun b' o e _=>?_,fun b' xs e=>old b' _ e (fun z=>by rw[z,hP]at e;cases e),fun b' o u e=>old b' _ e (fun z=>by rw[z,hP]at e;cases e),fun b' qs e=>?_⟩ fun b' u e=>?_
 ·have lt:@LT.lt Nat _ b' s.heap.objs.size:=Es e
  rw[az (EO (E3 lt hf)),az (EO (E3 lt hc)),az (nP b' n)];exact n
 ·by_cases z:b'=P
  ·rw[z];exact⟨_,gP⟩
  ·exact⟨o,b b' o z e⟩
 ·by_cases z:b'=P
  ·subst z
   rw[hP]at e
   cases e
   exact⟨more,by rw[az (Ne.symm Pf),az (Ne.symm Pc),aL]⟩
  ·exact⟨#[],by rw[old b' _ e z];simp⟩
 ·by_cases z:b'=f
  ·subst z
   rw[aL]at e
   cases e
   exact vB gf
  ·rw[az z]at e
   by_cases z2:b'=c
   ·subst z2
    rw[aL]at e
    cases e
    exact Di gc
   ·rw[az z2]at e
    by_cases z3:b'=P
    ·subst z3
     rw[aL]at e
     cases e
     exact gP
    ·rw[az z3]at e
     refine(I.hok b' u e).stay (fun d v hd g=>b d v ?_ g) (fun d hd=>old d _ hd (fun y=>by rw[y,hP]at hd;cases hd)) fun d xs hd=>old d _ hd (fun y=>by rw[y,hP]at hd;cases hd)
     rcases hd with rfl | hd
     ·exact z3
     ·exact fun y=>by rw[y,hP]at hd;cases hd
end
def og(P:Addr)(pos:Pos)(q:Str)(params:Arguments)(body:Expr)(scope:Scope)(cells:List (Str×Addr))(H:Hp)(Q:VK):Prop:=∀cl,ClOk scope cells cl →
 (H P=some (.tbl #[])/\∀f c,H c=none->H f=none->c≠P->f≠P->f≠c->Q (.ref f) (upd (upd (upd H P (.tbl #[rawInt pos.line,rawInt pos.col,.ref c])) c (eW c q)) f (dW f c q params body scope cl))) ∨
 ∃c,H P=some (.tbl #[rawInt pos.line,rawInt pos.col,.ref c])/\H c=some (eW c q)/\∀f,H f=none->Q (.ref f) (upd H f (dW f c q params body scope cl))
def wj(P:Addr)(pos:Pos)(q:Str)(params:Arguments)(body:Expr)(scope:Scope)(cells:List (Str×Addr)):TE:=fun _ H Q=>og P pos q params body scope cells H Q
theorem nv{X:Cx}{params:Arguments}{body:Expr}{scope:Scope}{pos:Pos}{c P:Addr}(hcode:X.env.code=.ref c)(hgl:X.env.globals=mainGlobals)(C:PySem.W.CodeHd X.base c P)(hB:X.base.BuiltinsAt X.mg P)(hgP:mainGlobals≠P)(hsc:iF scope=true)(hout:oI scope X.env.scope=true)
  (hd0:params.defaults=[]) (hk0:params.kw_defaults=[]):PE X (.Lambda params body scope pos) (wj P pos (X.env.qual ++ "<lambda>") params body scope X.env.cells):=by
 intro pins s σ H Q I h
 rw[arm_eval_Lambda,PySem.defaultsOf_eq,hk0,hd0]
 refine Em (En (Em (wpAny_holding (En ?_))))
 have hcl:closureFor scope X.env=pure (dH scope.names X.env.cells):=mn fun p hp hf=>I.ok.has p.1 (wy hout hp hf)
 have h:=h _ (ym I.ok hsc hout)
 have C':PySem.W.CodeHd s.heap c P:=C.keeps fun b o e=>(I.bs b o e).1
 have hg:s.heap.Ns mainGlobals X.mg:=by
  obtain⟨o,es,ep,e,r⟩:=I.ok.mod.glob
  exact⟨o,es,ep,(I.bs _ _ e).1,r⟩
 have hb:s.heap.BuiltinsAt X.mg P:=by
  obtain⟨bm,o,a1,a2,a3,a4,a5,a6⟩:=hB
  exact⟨bm,o,a1,a2,a3,a4,(I.bs _ _ a5).1,a6⟩
 rcases h with⟨hP,q⟩ | ⟨c',hP,hc',q⟩
 ·have gP:s.heap.get? P=some (PySem.W.tabObj #[]):=I.hok P _ hP
  refine PySem.W.kla_makeFunction hcl hgl hg hcode C' gP trivial rfl hgP hb fun c' ctv h' tk hx hge hlt hrec htb=>?_
  have nc:H c'=none:=I.hok.fresh hge
  have hf:@LE.le Nat _ s.heap.objs.size h'.objs.size:=E4 hge (Nat.le_of_lt hlt)
  have nf:H h'.objs.size=none:=I.hok.fresh hf
  have lP:@LT.lt Nat _ P s.heap.objs.size:=Es gP
  have J:=Bx (cl:=dH scope.names X.env.cells) (tk:=tk) (f:=h'.objs.size) (h':=h'.push (PySem.W.kla_obj "<lambda>" (X.env.qual ++ "<lambda>") params body scope (dH scope.names X.env.cells) ((X.mg "__name__").getD .none) c' ctv)) (more:=#[rawInt pos.line,rawInt pos.col,.ref c']) I hP (fun b o n e=>Ep _ (hx b o n e)) hge hlt (Ep _ htb) (hrec.push _) (Er _ rfl)
  rw[Array.empty_append]at J
  exact⟨.ref h'.objs.size,_,J,rfl,q _ c' nc nf (Nat.ne_of_gt (E3 lP hge)) (Nat.ne_of_gt (E3 lP hf)) (Nat.ne_of_gt hlt)⟩
 ·have gP:s.heap.get? P=some (PySem.W.tabObj #[rawInt pos.line,rawInt pos.col,.ref c']):=I.hok P _ hP
  refine PySem.W.kla_makeFunctionHit (cv:=.ref c') hcl hgl hg hcode C' gP trivial (by simp[codeAmong,rawInt]) hb fun ctv h' tk hx hge=>?_
  exact⟨.ref h'.objs.size,_,I.laid (t':=tk) (o:=dW h'.objs.size c' (X.env.qual ++ "<lambda>") params body scope (dH scope.names X.env.cells)) (fun b o e=>Ep _ (hx b o e)) hge (vB (Er _ rfl)),rfl,q _ (I.hok.fresh hge)⟩
theorem oZ{cells:List (Str×Addr)}{K:Eo}{x q:Str}{params:Arguments}{body:Expr}{scope:Scope}{H:Hp}{Q:VK}{c T:Addr}{pos:Pos}(ht:dz K x q pos.line pos.col H)(e:PySem.W.tabIn K x=some (c,T))
  (h:∀f c' cl H',ClOk scope cells cl->Et H H'->dz K x q pos.line pos.col H'->(∀y q2 l2 k2,(∀c2 T2,PySem.W.tabIn K y=some (c2,T2)->T2≠T)->dz K y q2 l2 k2 H->dz K y q2 l2 k2 H')->H' f=some (dW f c' q params body scope cl)->H' c'=some (eW c' q)->Q (.ref f) H'):og T pos q params body scope cells H Q:=by
 intro cl hcl
 rcases ht c T e with hT | ⟨c',hT,hc'⟩
 ·refine .inl ⟨hT,fun f c' nc nf cT fT fc=>?_⟩
  have old:∀b o,H b=some o->b≠T->upd (upd (upd H T (.tbl #[rawInt pos.line,rawInt pos.col,.ref c'])) c' (eW c' q)) f (dW f c' q params body scope cl) b=some o:=fun b o hb n=>by
   rw[az (bX hb nf),az (bX hb nc),az n]
   exact hb
  refine h f c' cl _ hcl (fun b o hb n=>old b o hb fun z=>by rw[z,hT]at hb;cases hb;exact n _ rfl) (fun c2 T2 e2=>.inr ⟨c',?_,?_⟩) (fun y q2 l2 k2 hn hy c2 T2 e2=>?_) aL ?_
  ·rw[e]at e2
   cases e2
   rw[az (Ne.symm fT),az (Ne.symm cT),aL]
  ·rw[az (Ne.symm fc),aL]
  ·rcases hy c2 T2 e2 with g | ⟨c3,g1,g2⟩
   ·exact .inl (old _ _ g (hn c2 T2 e2))
   ·exact .inr ⟨c3,old _ _ g1 (hn c2 T2 e2),old _ _ g2 fun z=>by rw[z,hT]at g2;cases g2⟩
  ·rw[az (Ne.symm fc),aL]
 ·refine .inr ⟨c',hT,hc',fun f nf=>?_⟩
  have ex:Ext H (upd H f (dW f c' q params body scope cl)):=bx nf
  exact h f c' cl _ hcl ex.et (dz.ext ex ht) (fun y q2 l2 k2 _ hy=>hy.ext ex) aL (ex _ _ hc')
theorem oa{P:Addr}{pos:Pos}{q:Str}{params:Arguments}{body:Expr}{scope:Scope}{cells:List (Str×Addr)}{σ:St}{H:Hp}{Q:VK}(h:og P pos q params body scope cells H Q):wj P pos q params body scope cells σ H Q:=h
end L2
namespace L2
open PySem PySem.Spec PyProof.Rows
theorem iR{x:Str}{c:Addr}:∀(names:List (Str×NameKind)) (n:Nat) (a acc:List (Str×Addr)),(cellsFrom n names (a++acc)).lookup x=some c->acc.lookup x=some c\/(cellsFrom n names a).lookup x=some c
 | [],_,a,acc,h=>by
  unfold cellsFrom at h ⊢
  rw[List.lookup_append]at h
  cases q:a.lookup x with
  | none=>rw[q]at h;exact .inl h
  | some d=>rw[q]at h;exact .inr h
 | (y,k)::r,n,a,acc,h=>by
  unfold cellsFrom at h ⊢
  by_cases hk:(k == NameKind.cell)=true
  ·rw[if_pos hk]at h ⊢
   exact iR r (n+1) ((y,n)::a) acc h
  ·rw[if_neg hk]at h ⊢
   exact iR r n a acc h
structure InL(s₀:Shared)(L:Addr)(m:Str->Option Value)(own:List (Str×Addr))(cm:Str->Option Value)(s:Shared):Prop where
 same:∃h' tk,s={ s₀ with heap:=h',toks:=tk }
 ns:s.heap.Ns L m
 keep:∀b o,s₀.heap.get? b=some o->s.heap.get? b=some o
 fresh:s₀.heap.objs.size<=L
 cell:∀n c,own.lookup n=some c->s.heap.IsCell c (cm n)
 apart:own.Pairwise fun x y=>x.2≠y.2
 above:∀n c,(n,c)∈own->L<c
section
variable {M:Model} {A:Around} {E:Value->Shared->Prop} {s₀ s:Shared} {m cm:Str->Option Value} {env:Env} {own:List (Str×Addr)}
theorem InL.st{n:Str}{v:Value}{Q:Unit->Shared->Prop}(x:InL s₀ env.locals m own cm s)(hk:env.scope.kind=.function)(hl:env.kindOf n=some .local)
  (h:∀s',InL s₀ env.locals (fun y=>if y=n then some v else m y) own cm s'->Q () s'):wpAny M A (storeName env n v) Q E s:=by
 refine wpAny_storeName_local hl x.ns (fun h' hn' hs'=>h _ ⟨?_,hn',fun b o e=>?_,x.fresh,fun k c hc=>?_,x.apart,x.above⟩) (by rw[hk];rfl)
 ·obtain⟨h₁,tk,rfl⟩:=x.same
  exact⟨h',_,rfl⟩
 ·exact hs'.extBut b o (EO (E3 (Es e) x.fresh)) (x.keep b o e)
 ·exact(x.cell k c hc).sameBut hs' (Nat.ne_of_gt (x.above k c (PySem.mem_of_lookup hc)))
theorem InL.stC{n:Str}{c:Addr}{v:Value}{Q:Unit->Shared->Prop}(x:InL s₀ env.locals m own cm s)(hk:env.scope.kind=.function)(hl:env.kindOf n=some .cell)
  (hc:env.cells.lookup n=some c) (ho:own.lookup n=some c)
  (h:∀s',InL s₀ env.locals m own (fun y=>if y=n then some v else cm y) s'->Q () s'):wpAny M A (storeName env n v) Q E s:=by
 have hLc:=x.above n c (PySem.mem_of_lookup ho)
 refine wpAny_storeName_cell hk hl hc (x.cell n c ho) fun h' hc' hs'=>h _ ⟨?_,x.ns.sameBut hs' (EO hLc),fun b o e=>?_,x.fresh,fun k c' hk'=>?_,x.apart,x.above⟩
 ·obtain⟨h₁,tk,rfl⟩:=x.same
  exact⟨h',_,rfl⟩
 ·exact hs'.extBut b o (EO (Nat.lt_trans (E3 (Es e) x.fresh) hLc)) (x.keep b o e)
 ·by_cases hkn:k=n
  ·subst hkn
   rw[ho]at hk';cases hk'
   simpa using hc'
  ·rw[if_neg hkn]
   exact(x.cell k c' hk').sameBut hs' fun e=>hkn (name_of_addr x.apart (PySem.mem_of_lookup hk') (e ▸ PySem.mem_of_lookup ho))
theorem InL.binds(f:Str×Value->PUnit->Sem (ForInStep PUnit))(hf:∀n v u,f (n,v) u=(do storeName env n v;pure (.yield ⟨⟩)))(hk:env.scope.kind=.function):
  ∀(binds:List (Str×Value)) (m cm:Str->Option Value) (s:Shared) (Q:PUnit->Shared->Prop),InL s₀ env.locals m own cm s →
   (∀x∈binds,env.kindOf x.1=some .local\/(env.kindOf x.1=some .cell/\∃c,env.cells.lookup x.1=some c/\own.lookup x.1=some c)) →
   (∀s',InL s₀ env.locals (bindL env.kindOf binds m) own (bindC env.kindOf binds cm) s'->Q ⟨⟩ s')->wpAny M A (forIn binds ⟨⟩ f) Q E s
 | [],m,cm,s,Q,x,_,h=>by rw[List.forIn_nil];exact En (h s x)
 | (n,v)::r,m,cm,s,Q,x,hkind,h=>by
  rw[List.forIn_cons,hf]
  have hr:∀y∈r,env.kindOf y.1=some .local\/(env.kindOf y.1=some .cell/\∃c,env.cells.lookup y.1=some c/\own.lookup y.1=some c):=fun y hy=>hkind y (Ez _ hy)
  rcases hkind (n,v) EC with hl | ⟨hl,c,hc,ho⟩
  ·refine Em (Em (InL.st x hk hl fun s' x'=>En (InL.binds f hf hk r _ _ s' Q x' hr fun s'' x''=>h s'' ?_)))
   unfold bindL bindC;rw[if_pos hl,if_pos hl];exact x''
  ·have hnl:¬env.kindOf n=some .local:=by rw[hl];decide
   refine Em (Em (InL.stC x hk hl hc ho fun s' x'=>En (InL.binds f hf hk r _ _ s' Q x' hr fun s'' x''=>h s'' ?_)))
   unfold bindL bindC;rw[if_neg hnl,if_neg hnl];exact x''
end
def ef(q:Str)(scope:Scope)(L f:Addr)(cd:Value)(cl:List (Str×Addr)):Env:=
 { scope:=scope,locals:=L,globals:=mainGlobals,cells:=cellsFrom (L+1) scope.names cl,qual:=q ++ ".<locals>.",func:=some f,code:=cd,frame:=some L,builtins:=builtinsNs }
section
variable {M:Model} {A:Around} {E:Value->Shared->Prop} {s:Shared}
theorem DU {scope : Scope} {cl : List (Str × Addr)} {binds : List (Str × Value)} {q : Str} {f : Addr} {cd : Value} {Q : Env → Shared → Prop} (hk : scope.kind = .function) (hsc : iF scope = true) (hcl : ∀ x c, cl.lookup x = some c → scope.names.lookup x = some .free)
    (hkind : ∀ x ∈ binds, scope.names.lookup x.1 = some .local ∨ scope.names.lookup x.1 = some .cell)
    (hQ : ∀ s', InL s s.heap.objs.size (bindL (ef q scope s.heap.objs.size f cd cl).kindOf binds fun _ => none) (cellsFrom (s.heap.objs.size + 1) scope.names []) (bindC (ef q scope s.heap.objs.size f cd cl).kindOf binds fun _ => none) s' → Q (ef q scope s.heap.objs.size f cd cl) s') :
    wpAny M A (newFunctionEnv scope mainGlobals cl binds (q ++ ".<locals>.") (some f) cd none builtinsNs) Q E s := by
  simp only [newFunctionEnv, Option.isSome_none, Bool.false_eq_true, if_false]
  refine Em (wpAny_alloc ?_)
  refine Em (wpAny_layCells _ (fun name kind cells => by cases hkc : kind == NameKind.cell <;> simp [hkc]) _ _ _ _ ?_)
  have ok := cellsFrom_ok scope.names (s.heap.push { cls := .type "frame", data := .dict #[] }) (s.heap.objs.size + 1) [] ⟨fun _ _ hm => (nomatch hm), List.Pairwise.nil⟩ (by rw [Heap.size_push]; exact ER _)
  rw [Heap.size_push] at ok
  rw [show ({ s with heap := s.heap.push { cls := .type "frame", data := .dict #[] } } : Shared).heap.objs.size = s.heap.objs.size + 1 from Heap.size_push ..]
  refine Em (InL.binds (s₀ := s) (env := ef q scope s.heap.objs.size f cd cl) (own := cellsFrom (s.heap.objs.size + 1) scope.names [])
    _ (fun _ _ _ => rfl) hk binds (fun _ => none) (fun _ => none) _ _
    ⟨⟨_, _, rfl⟩, (Heap.Ns.new s.heap (.type "frame")).keeps (pushCells_keeps _ _), fun b o e => pushCells_keeps _ _ b o (Ep _ e), ER _,
      fun n c hc => (ok.empty n c (PySem.mem_of_lookup hc)).1, ok.apart, fun n c hm => (ok.empty n c hm).2⟩
    (fun x hx => ?_) fun s' x => En (hQ s' x))
  rcases hkind x hx with h | h
  · exact .inl h
  · obtain ⟨c, hc⟩ := Option.isSome_iff_exists.mp (PySem.W.cellsFrom_some scope.names (s.heap.objs.size + 1) cl (.inl h))
    rcases iR scope.names (s.heap.objs.size + 1) [] cl hc with h2 | h2
    · rw [hcl _ _ h2] at h; cases h
    · exact .inr ⟨h, c, hc, h2⟩
end
def jh(P:Program)(w:World)(K:Eo)(mg:Str->Option Value)(base:Heap)(N:List Str)(q:Str)(scope:Scope)(f:Addr)(cd:Value)(cl:List (Str×Addr))(A:Around)(outer:List Env)(s:Shared)(H:Hp):Cx where
 prog:=P
 w:=w
 K:=K
 mg:=mg
 base:=base
 A:=A.deeper (ef q scope s.heap.objs.size f cd cl)
 N:=N
 s₀:=s
 H₀:=H
 env:=ef q scope s.heap.objs.size f cd cl
 outer:=outer
 stack:=ef q scope s.heap.objs.size f cd cl::outer
 ex:=[]
 calm:=true
 fn:=fun x=>scope.names.lookup x == some .cell
 pn:=[]
 xe:=fun _ _=>False
structure Caps(H:Hp)(cl:List (Str×Addr))(cp:List Cap):Prop where
 at_:∀e∈cp,cl.lookup e.n=some e.c/\H e.c=some (cV e.c e.o)/\∃u,e.o.data=.cell (some u)/\RelV e.v u
 all:∀x c,cl.lookup x=some c->∃e∈cp,e.n=x/\e.c=c
theorem Caps.ext{H H':Hp}(e:Ext H H'){cl:List (Str×Addr)}{cp:List Cap}(h:Caps H cl cp):Caps H' cl cp:=⟨fun x hx=>⟨(h.at_ x hx).1,e _ _ (h.at_ x hx).2.1,(h.at_ x hx).2.2⟩,h.all⟩
theorem Caps.look{H:Hp}{cl:List (Str×Addr)}{cp:List Cap}(h:Caps H cl cp):∀b o,(cellsOf cp).lookup b=some o->H b=some (cV b o):=fun b o e=>by
 obtain⟨x,hx,rfl,rfl⟩:=fP e
 exact(h.at_ x hx).2.1
structure LamSc(ps:List Str)(sc:Scope):Prop where
 kind:sc.kind=.function
 co:sc.isCoroutine=false
 gen:sc.isGenerator=false
 nd:ps.Nodup
 par:∀x∈ps,sc.names.lookup x=some .local\/sc.names.lookup x=some .cell
theorem zV{P:Program}{w:World}{K:Eo}{mg:Str->Option Value}{base:Heap}{ps:List Str}{q:Str}{scope:Scope}{f:Addr}{cd:Value}{cl cells:List (Str×Addr)}{cp:List Cap}{A:Around}{outer:List Env}{s s1:Shared}{H:Hp}{us:List Value}{vs:List V}
  (S:LamSc ps scope) (C:ClOk scope cells cl) (hcp:Caps H cl cp) (hd:A.handled=none) (e0:Env0 P w K mg base A outer s H) (hl:vs.length=ps.length) (r:Vals vs us)
  (x:InL s s.heap.objs.size (bindL (ef q scope s.heap.objs.size f cd cl).kindOf (ps.zip us) fun _=>none) (cellsFrom (s.heap.objs.size+1) scope.names []) (bindC (ef q scope s.heap.objs.size f cd cl).kindOf (ps.zip us) fun _=>none) s1) :
  Inv (jh P w K mg base (ps++cp.map (·.n)) q scope f cd cl A outer s (aY (cellsOf cp) H)) [] (vs.map some++cp.map fun e=>some e.v) (aY (cellsOf cp) H) s1:=by
 obtain⟨h1,tk,rfl⟩:=x.same
 have hk:=x.keep
 have noA:∀b:Addr,b∉(jh P w K mg base (ps++cp.map (·.n)) q scope f cd cl A outer s (aY (cellsOf cp) H)).ex:=fun b z=>absurd (show b∈([]:List Addr)from z) (by simp)
 have nn:∀b,H b=none->aY (cellsOf cp) H b=none:=fun b hb=>by
  cases z:(cellsOf cp).lookup b with
  | none=>rw[cy z];exact hb
  | some o=>exact gE z
 have obj:∀e∈cp,s.heap.get? e.c=some e.o:=fun e he=>(e0.hok _ _ (hcp.at_ e he).2.1).1
 have clt:∀y c,cl.lookup y=some c->@LT.lt Nat _ c s.heap.objs.size:=fun y c h=>by
  obtain⟨e,he,_,rfl⟩:=hcp.all y c h
  exact Es (obj e he)
 have cinC:∀y c,cl.lookup y=some c->aY (cellsOf cp) H c=none:=fun y c h=>by
  obtain⟨e,he,_,rfl⟩:=hcp.all y c h
  obtain⟨o,ho⟩:=Cd he
  exact gE ho
 have hfr:∀y,scope.names.lookup y=some .free->∃c,cl.lookup y=some c/\(cellsFrom (s.heap.objs.size+1) scope.names cl).lookup y=some c:=fun y hy=>by
  obtain⟨c,hc⟩:=C.has y hy
  obtain⟨c',hc'⟩:=Option.isSome_iff_exists.mp (PySem.W.cellsFrom_some scope.names (s.heap.objs.size+1) cl (x:=y) (.inr (by rw[hc];rfl)))
  rcases iQ _ _ _ hc' with h | ⟨_,h⟩
  ·rw[hc]at h;cases h;exact⟨c,hc,hc'⟩
  ·have:=wG C.one h
   rw[hy]at this
   cases this
 refine⟨⟨e0.mod,S.kind,rfl,rfl,ER _,fun y z c h1 h2=>?_,fun y hy=>?_,fun y c h hc=>?_,fun _=>hd,Around.frames_deeper e0.frames,.inr ⟨rfl,rfl⟩,fun b z=>absurd z (noA b),fun b o e=>⟨(e0.bs b o e).1,nn b (e0.bs b o e).2⟩,e0.bsz,fun b _ _=>noA b,fun b z=>absurd z (noA b),e0.funs,fun b hb=>nn b (e0.frf b hb)⟩,
  rfl,e0.bare,Un.kept hk,⟨_,x.ns,fun i y v h1 h2 h3=>?_⟩,fun y c h=>?_,nn _ (e0.hok.fresh (ER _)),fun y c h=>?_,fun p hp=>absurd (show p∈([]:List (Addr×Obj))from hp) (by simp),(wV e0.hok hcp.look).kept hk,?_⟩
 ·exact oO scope.names _ _ (fun x c e=>Nat.lt_succ_of_lt (clt x c e)) C.inj h1 h2
 ·have hy:scope.names.lookup y=some .cell\/scope.names.lookup y=some .free:=hy
  rcases hy with hy | hy
  ·exact Option.isSome_iff_exists.mp (PySem.W.cellsFrom_some scope.names _ _ (.inl hy))
  ·obtain⟨c,_,h⟩:=hfr y hy
   exact⟨c,h⟩
 ·have hy:scope.names.lookup y=some .cell:=by simpa[jh]using h
  have hc':(cellsFrom (s.heap.objs.size+1) scope.names cl).lookup y=some c:=hc
  rcases iQ _ _ _ hc' with h2 | ⟨h2,_⟩
  ·rw[(C.fr y c h2).1]at hy;cases hy
  ·exact Nat.le_of_succ_le h2
 ·by_cases hi:i<vs.length
  ·have ha:vs[i]?=some v:=by
    rw[EW (by simpa using hi),Ey]at h2
    cases e:vs[i]? with
    | none=>rw[e]at h2;cases h2
    | some a=>rw[e]at h2;cases h2;rfl
   obtain⟨u,hu,rv⟩:=r.get ha
   have hp:ps[i]?=some y:=by
    have h1':(ps++cp.map (·.n))[i]?=some y:=h1
    rw[EW (by omega)]at h1'
    exact h1'
   refine⟨u,rv,?_⟩
   rcases S.par y (EF hp)with k | k
   ·exact .inl ⟨k,mU S.nd hp hu k⟩
   ·obtain⟨c,e⟩:=Option.isSome_iff_exists.mp (PySem.W.cellsFrom_some scope.names (s.heap.objs.size+1) cl (.inl k))
    refine .inr ⟨.inl k,c,e,?_⟩
    rcases iR scope.names (s.heap.objs.size+1) [] cl e with h4 | h4
    ·rw[(C.fr y c h4).1]at k;cases k
    ·have qq:=x.cell y c h4
     rw[mZ S.nd hp hu (by show scope.names.lookup y≠_;rw[k];decide)]at qq
     exact qq
  ·have h1':(ps++cp.map (·.n))[i]?=some y:=h1
   rw[EV (by omega),Ey]at h1'
   rw[EV (by simpa using Nat.le_of_not_lt hi),Ew,Ey]at h2
   rw[hl]at h2
   cases he:cp[i-ps.length]? with
   | none=>rw[he]at h2;cases h2
   | some e=>
    rw[he]at h1' h2
    cases h1'
    cases h2
    have hm:=EF he
    obtain⟨a1,a2,u,hu,rv⟩:=hcp.at_ e hm
    have hf:=(C.fr _ _ a1).1
    obtain⟨c,b1,b2⟩:=hfr e.n hf
    rw[a1]at b1
    cases b1
    exact⟨u,rv,.inr ⟨.inr hf,e.c,b2,e.o,hk _ _ (obj e hm),hu⟩⟩
 ·have h':(cellsFrom (s.heap.objs.size+1) scope.names cl).lookup y=some c:=h
  rcases iR scope.names (s.heap.objs.size+1) [] cl h' with h2 | h2
  ·obtain⟨e,he,_,rfl⟩:=hcp.all y c h2
   obtain⟨_,_,u,hu,_⟩:=hcp.at_ e he
   exact⟨some u,e.o,hk _ _ (obj e he),hu⟩
  ·exact⟨_,x.cell y c h2⟩
 ·have h':(cellsFrom (s.heap.objs.size+1) scope.names cl).lookup y=some c:=h
  rcases iQ _ _ _ h' with h2 | ⟨h2,_⟩
  ·exact cinC y c h2
  ·exact nn c (e0.hok.fresh (Nat.le_of_succ_le h2))
 ·show(vs.map some++cp.map fun e=>some e.v).length=(ps++cp.map (·.n)).length
  simp[hl]
def gm(f c:Addr)(q:Str)(params:Arguments)(body:Expr)(scope:Scope)(cl:List (Str×Addr))(cp:List Cap)(H:Hp):Prop:=H f=some (dW f c q params body scope cl)/\H c=some (eW c q)/\Caps H cl cp
theorem gm.ext{H H':Hp}(e:Ext H H'){f c:Addr}{q:Str}{params:Arguments}{body:Expr}{scope:Scope}{cl:List (Str×Addr)}{cp:List Cap}(h:gm f c q params body scope cl cp H):gm f c q params body scope cl cp H':=⟨e _ _ h.1,e _ _ h.2.1,h.2.2.ext e⟩
theorem Eh{P:Program}{w:World}{K:Eo}{mg:Str->Option Value}{base:Heap}{k:Nat}{f c:Addr}{q:Str}{params:Arguments}{body:Expr}{scope:Scope}{cl cells:List (Str×Addr)}{cp:List Cap}{ps:List Str}{R:List V->Hp->VK->Prop}(I:Hp->Prop)
  (S:LamSc ps scope) (C:ClOk scope cells cl) (bind:∀(pm cv ctv:Value) (us:List Value),us.length=ps.length->bindArgs (PySem.W.kla_fn "<lambda>" q params body scope cl pm cv ctv) ⟨us,[]⟩=pure (ps.zip us))
  (hR:∀vs H Q,R vs H Q->vs.length=ps.length)
  (hbody:∀(A:Around) (outer:List Env) (s:Shared) (H:Hp) (vs:List V) (Q:VK),Room k (A.deeper (ef q scope s.heap.objs.size f (.ref c) cl))->gm f c q params body scope cl cp H->I H->R vs H Q →
   ∃te,PE (jh P w K mg base (ps++cp.map (·.n)) q scope f (.ref c) cl A outer s (aY (cellsOf cp) H)) body te/\te (vs.map some++cp.map fun e=>some e.v) (aY (cellsOf cp) H) fun v H'=>(∀b o,(cellsOf cp).lookup b=some o->H' b=none)->Q v (bF (cellsOf cp) H')) :
  FunR P w K mg base (k+1) f (fun H=>gm f c q params body scope cl cp H/\I H) R:=by
 refine⟨fun H h hok hp=>?_,fun A outer s H us vs Q hr e0 hp r hq=>?_⟩
 ·obtain⟨⟨pm,ctv,gf⟩,_⟩:=hok f _ hp.1.1
  exact⟨_,_,_,_,gf⟩
 ·obtain⟨⟨hf,hc,hcp⟩,hI⟩:=id hp
  obtain⟨⟨pm,ctv,gf⟩,_⟩:=e0.hok f _ hf
  obtain⟨gc,_⟩:=e0.hok c _ hc
  have lim:s.heap.NoLimit:=e0.mod.nolimit.keeps fun b o e=>(e0.bs b o e).1
  have hl:=hR vs H Q hq
  refine PySem.W.kla_callFunE hr.depth gf rfl S.co S.gen rfl gc ?_
  rw[bind _ _ _ us (by rw[←r.length];exact hl)]
  refine En ?_
  refine DU (q:=q) (f:=f) (cd:=.ref c) S.kind C.one (fun x c h=>(C.fr x c h).1) (fun z hz=>?_) fun s1 z=>?_
  ·exact S.par z.1 (List.of_mem_zip hz).1
  refine⟨lim.keeps z.keep,PySem.W.kla_codeExpr ?_⟩
  have J:=zV S C hcp hr.hd e0 hl r z
  obtain⟨te,ht,hq'⟩:=hbody A outer s H vs Q (hr.deeper _) hp.1 hI hq
  refine wpAny_mono (ht [] s1 _ _ _ J hq') (fun u s' ⟨v,H',J',rv,q'⟩=>?_) fun e s' hs=>hs.elim
  have obj:∀b o,(cellsOf cp).lookup b=some o->s.heap.get? b=some o:=fun b o e=>(e0.hok _ _ (hcp.look b o e)).1
  have nfs:∀b o,(cellsOf cp).lookup b=some o->b∉cR outer:=fun b o e hb=>by
   have:=e0.frf b hb
   rw[hcp.look b o e]at this
   cases this
  have un:Un (cR outer) [] (aY (cellsOf cp) H) H' s.heap s'.heap:=J'.base
  exact⟨v,bF (cellsOf cp) H',J'.os,J'.bare,CW un hcp.look,wC J'.hok (fun b o e=>un.keep b o (obj b o e) (gE e) (nfs b o e) (by simp)) (fun b o e=>un.free b o (obj b o e) (gE e) (by simp)),rv,q' fun b o e=>un.free b o (obj b o e) (gE e) (by simp)⟩
end L2
namespace L2
open PySem PySem.Spec PyProof.Rows
section
variable {X:Cx}
def Af:V->List V->Hp->VK->Prop:=fun x vs H Q=>∃(n:Nat) (p:Addr) (xs:List V) (a:V) (d:PyData) (ds:List PyData) (j:Nat),x=.ref p/\vs=[a]/\aW H n a d/\H p=some (.lst xs)/\Paired (aW H n) xs ds/\n<=50/\(∃e,ds[j]?=some e/\PyData.eqv e d=true)/\(∀m e,m<j->ds[m]?=some e->PyData.eqv e d=false)/\j<2 ^ 32/\Q (.int (j:Int)) H
theorem B5{k:Nat}{A0:Around}(hr:Room k A0)(hA:X.A=A0:=by rfl):oT X "list.index" Af:=by
 subst hA
 intro pins s σ H x xs v us Q I rx rv h
 obtain⟨n,p,ys,a,d,ds,j,rfl,rfl,h1,h2,h3,hn,⟨e,hj,he⟩,hno,hjs,q⟩:=h
 cases rx
 obtain⟨u,rfl,ru⟩:=rv.one
 have h4:aW H (n+1) (.ref p) (.list ds):=.inr ⟨p,ys,ds,rfl,.inr ⟨h2,rfl⟩,h3⟩
 obtain⟨as,ra⟩:=aW.reads I n h1 ru
 obtain⟨bs,rb⟩:=aW.reads I (n+1) h4 rfl
 have l1:=aW.lay n h1
 have l2:=jb (fun{x d}=>aW.lay (H:=H) n) h3
 have hu:=hr.units
 have hm:min (PyData.depthAll ds) d.depth<=50:=E4 (Nat.min_le_right _ _) (E4 l1.2 hn)
 obtain⟨_,its,nn,rvv,gt⟩:=I.hok p _ h2
 cases rb with
 | list g1 g2 g3 g4=>
  rw[gt]at g1
  cases g1
  cases g3
  have mp:=SeqAt.readsAll_map ds _ _ l2.1 g4
  have hlen:its.length=ds.length:=by rw[←mp,Ew]
  have hjl:j<ds.length:=(EE.mp hj).1
  have hsz:j<its.toArray.size:=by rw[EB];omega
  have hat:∀m (hm:m<its.toArray.size),ds[m]?=some (SeqAt.readOf s.heap its.toArray[m]):=fun m hm=>by
   have hm':m<its.length:=by simpa using hm
   rw[←mp,Ey]
   simp[hm']
  refine call_meets PySem.F.slot_list_index ⟨_,gt,rfl⟩ PySem.F.entry_list_index (PySem.F.args_list_index_2 _ _) (SeqAt.list_indexAt p its.toArray nn none #[] u (fun y=>PyData.eqv (SeqAt.readOf s.heap y) d) j hsz (by omega) ?_ ?_)
   ⟨gt,SeqAt.items_eqAt g4 ra l2.1 l1.1 (by omega),?_⟩
  ·have:=hat j hsz
   rw[hj]at this
   cases this
   exact he
  ·intro m hm hmj
   exact hno m _ hmj (hat m hm)
  ·exact⟨.int _,H,I.tok _,⟨_,rfl⟩,q⟩
end
end L2
namespace St
def gC(lo hi:Int)(xs:List Int):Prop:=xs.Pairwise (· < ·)/\∀x∈xs,lo<=x/\x<hi
structure Ok(b s:Int)(o a:List Int):Prop where
 hb:0<=b
 hs:1<=s
 ho:gC 0 b o
 ha:gC b (b+s) a
def mem(b s:Int)(o a:List Int)(x:Int):Bool:=if x<b then o.contains x else a.contains (b+(x-b) % s)
section
variable {b s:Int} {o a:List Int}
theorem r6(x:Int)(h:x<b):mem b s o a x=o.contains x:=if_pos h
theorem xJ(x:Int)(h:b<=x):mem b s o a x=a.contains (b+(x-b) % s):=if_neg (by omega)
end
end St
namespace St
def bD(f:Nat->Bool)(b d:Nat):Prop:=∀x,b<=x->f (x+d)=f x
theorem bD.mul{f:Nat->Bool}{b d:Nat}(h:bD f b d):∀k x,b<=x->f (x+k*d)=f x
 | 0,x,hx=>by simp
 | k+1,x,hx=>by
  rw[Nat.succ_mul,←Nat.add_assoc,h _ (by omega),h.mul k x hx]
theorem bD.times{f:Nat->Bool}{b d:Nat}(h:bD f b d)(k:Nat):bD f b (k*d):=fun x hx=>h.mul k x hx
theorem bD.down{f:Nat->Bool}{b s b' d:Nat}(h:bD f b s)(hs:1<=s)(h':bD f b' d):bD f b d:=fun x hx=>by
 have e1:=h.mul b' (x+d) (by omega)
 have e2:=h.mul b' x hx
 rw[←e1,←e2,show x+d+b'*s=(x+b'*s)+d by omega]
 exact h' _ (by have:b'*1<=b'*s:=Nat.mul_le_mul_left _ hs;omega)
theorem bD.mod{f:Nat->Bool}{b s d:Nat}(h:bD f b s)(h':bD f b d):bD f b (s % d):=fun x hx=>by
 have e:=(h'.times (s / d)) (x+s % d) (by omega)
 rw[←e,show x+s % d+s / d*d=x+s by have:=Nat.div_add_mod s d;rw[Nat.mul_comm]at this;omega]
 exact h x hx
structure Least(f:Nat->Bool)(st low:Nat):Prop where
 pos:1<=st
 per:bD f low st
 step:∀d b,1<=d->bD f b d->st<=d
 base:∀b,bD f b st->low<=b
def Alike(f:Nat->Bool)(b s d:Nat):Prop:=s % d=0/\∀i,i+d<s->f (b+i+d)=f (b+i)
theorem Alike.per{f:Nat->Bool}{b s d:Nat}(h:bD f b s)(hs:1<=s)(hd:1<=d)(a:Alike f b s d):bD f b d:=by
 obtain⟨q,rfl⟩:∃q,s=d*q:=⟨s / d,by have:=Nat.div_add_mod s d;rw[a.1]at this;omega⟩
 have hq:1<=q:=by
  cases q with
  | zero=>simp at hs
  | succ q=>omega
 have inner:∀k i,i<d->k<q->f (b+i+k*d)=f (b+i):=by
  intro k
  induction k with
  | zero=>intro i _ _;simp
  | succ k ih=>
   intro i hi hk
   have e:=a.2 (i+k*d) (by
    have:(k+1+1)*d<=q*d:=Nat.mul_le_mul_right _ (by omega)
    rw[Nat.succ_mul,Nat.succ_mul,Nat.mul_comm q d]at this
    omega)
   rw[show b+i+(k+1)*d=b+(i+k*d)+d by rw[Nat.succ_mul];omega,e,←Nat.add_assoc]
   exact ih i hi (by omega)
 have all:∀n,f (b+n)=f (b+n % d):=fun n=>by
  have e1:f (b+n)=f (b+n % (d*q)):=by
   have:=h.mul (n / (d*q)) (b+n % (d*q)) (by omega)
   rw[←this]
   congr 1
   have:=Nat.div_add_mod n (d*q)
   rw[Nat.mul_comm (d*q)]at this
   omega
  rw[e1]
  have hlt:n % (d*q)<d*q:=Nat.mod_lt _ (by omega)
  have e2:n % (d*q)=n % (d*q) % d+n % (d*q) / d*d:=by
   have:=Nat.div_add_mod (n % (d*q)) d
   rw[Nat.mul_comm]at this
   omega
  have e3:n % (d*q) % d=n % d:=Nat.mod_mul_right_mod n d q
  have e4:n % (d*q) / d<q:=Nat.div_lt_of_lt_mul hlt
  rw[e2,←Nat.add_assoc,inner _ _ (Nat.mod_lt _ (by omega)) e4,e3]
 intro x hx
 obtain⟨n,rfl⟩:∃n,x=b+n:=⟨x-b,by omega⟩
 rw[Nat.add_assoc,all (n+d),all n,Nat.add_mod_right]
theorem bD.alike{f:Nat->Bool}{b s d:Nat}(h:bD f b d)(hm:s % d=0):Alike f b s d:=⟨hm,fun i _=>h (b+i) (by omega)⟩
theorem B3{f:Nat->Bool}{b s d:Nat}(h:bD f b s)(hs:1<=s)(hd:1<=d)(a:Alike f b s d)(first:∀e,1<=e->e<d->¬Alike f b s e):bD f b d/\∀e b',1<=e->bD f b' e->d<=e:=by
 have pd:=a.per h hs hd
 refine⟨pd,fun e b' he pe=>?_⟩
 have pe':bD f b e:=h.down hs pe
 -- the least one that goes round
 have go:∀n e,e<=n->1<=e->bD f b e->d<=e:=by
  intro n
  induction n with
  | zero=>intro e h1 h2;omega
  | succ n ih=>
   intro e h1 h2 pe
   by_cases hz:s % e=0
   ·rcases Nat.lt_or_ge e d with hlt | hge
    ·exact absurd (pe.alike hz) (first e h2 hlt)
    ·exact hge
   ·have hlt:s % e<e:=Nat.mod_lt _ (by omega)
    have:=ih (s % e) (by omega) (by omega) (h.mod pe)
    omega
 exact go e e (ER _) he pe'
theorem De{f:Nat->Bool}{b s d low:Nat}(h:bD f b s)(hs:1<=s)(hd:1<=d)(a:Alike f b s d)(first:∀e,1<=e->e<d->¬Alike f b s e)(hl:low<=b)
  (down:∀x,low<=x->x<b->f x=f (x+d)) (stop:low=0\/f (low-1)≠f (low-1+d)):Least f d low:=by
 obtain⟨pd,hmin⟩:=B3 h hs hd a first
 refine⟨hd,fun x hx=>?_,hmin,fun b' pb=>?_⟩
 ·rcases Nat.lt_or_ge x b with hlt | hge
  ·exact(down x hx hlt).symm
  ·exact pd x hge
 ·rcases stop with h0 | hne
  ·omega
  ·rcases Nat.lt_or_ge b' low with hlt | hge
   ·exact absurd (pb (low-1) (by omega)).symm hne
   ·exact hge
def row(f:Nat->Bool)(lo n:Nat):List Int:=((List.range n).filter fun i=>f (lo+i)).map fun i=>((lo+i:Nat):Int)
end St
namespace St
theorem rD(f:Nat->Bool)(lo n:Nat):row f lo (n+1)=row f lo n++if f (lo+n)then[((lo+n:Nat):Int)]else[]:=by
 unfold row
 rw[List.range_succ,List.filter_append,EM]
 congr 1
 by_cases h:f (lo+n)=true<;>simp[h]
theorem uJ(f:Nat->Bool)(lo n:Nat):(row f lo n).length<=n:=by
 unfold row
 rw[Ew]
 exact E4 (List.length_filter_le _ _) (by simp)
theorem mI{f:Nat->Bool}{lo n:Nat}{x:Int}:x∈row f lo n↔(lo:Int)<=x/\x<lo+n/\f x.toNat=true:=by
 unfold row
 simp only[List.mem_map,List.mem_filter,List.mem_range]
 constructor
 ·rintro⟨i,⟨hi,hf⟩,rfl⟩
  refine⟨by omega,by omega,?_⟩
  rw[EI];exact hf
 ·rintro⟨h1,h2,h3⟩
  refine⟨x.toNat-lo,⟨by omega,?_⟩,by omega⟩
  rw[show lo+(x.toNat-lo)=x.toNat by omega];exact h3
theorem pA(f:Nat->Bool)(lo n:Nat):gC lo (lo+n) (row f lo n):=by
 refine⟨?_,fun x hx=>⟨(mI.mp hx).1,(mI.mp hx).2.1⟩⟩
 unfold row
 rw[List.pairwise_map]
 refine List.Pairwise.imp (R:=fun a b=>a<b) (fun h=>by omega) ?_
 exact List.Pairwise.filter _ List.pairwise_lt_range
theorem sE{f:Nat->Bool}{lo n:Nat}{x:Int}(h1:(lo:Int)<=x)(h2:x<lo+n):(row f lo n).contains x=f x.toNat:=by
 rw[E8,List.contains_iff_mem,mI]
 constructor
 ·exact fun h=>h.2.2
 ·exact fun h=>⟨h1,h2,h⟩
theorem u7(f:Nat->Bool)(b s:Nat)(hs:1<=s):Ok b s (row f 0 b) (row f b s):=
 ⟨by omega,by omega,by have:=pA f 0 b;simpa using this,pA f b s⟩
theorem yU{f:Nat->Bool}{b s:Nat}(hs:1<=s)(h:bD f b s)(x:Nat):mem b s (row f 0 b) (row f b s) x=f x:=by
 by_cases hx:x<b
 ·rw[r6 _ (by omega),sE (by omega) (by omega),EI]
 ·rw[xJ _ (by omega)]
  have r0:0<=((x:Int)-b) % s:=Int.emod_nonneg _ (by omega)
  have r1:((x:Int)-b) % s<s:=Int.emod_lt_of_pos _ (by omega)
  rw[sE (by omega) (by omega)]
  have e:((b:Int)+((x:Int)-b) % s).toNat=b+(x-b) % s:=by
   have:((x:Int)-b) % s=(((x-b) % s:Nat):Int):=by
    rw[show (x:Int)-b=((x-b:Nat):Int) by omega]
    rfl
   omega
  rw[e]
  have:=h.mul ((x-b) / s) (b+(x-b) % s) (by omega)
  rw[←this]
  congr 1
  have:=Nat.div_add_mod (x-b) s
  rw[Nat.mul_comm]at this
  omega
end St
namespace St
end St
namespace St
end St
namespace Bfs
theorem j5:∀(N:Nat) (l:List Nat),l.Nodup->(∀x∈l,x<N)->l.length<=N
 | 0,l,_,h=>by
  cases l with
  | nil=>exact ER _
  | cons x l=>exact absurd (h x EC) (Nat.not_lt_zero _)
 | N+1,l,hn,h=>by
  have ih:=j5 N (l.erase N) (hn.erase N) (fun x hx=>by
   have:=h x (List.mem_of_mem_erase hx)
   have hne:x≠N:=fun e=>by
    subst e
    exact(List.Nodup.not_mem_erase hn) hx
   omega)
  by_cases hm:N∈l
  ·rw[List.length_erase_of_mem hm]at ih
   omega
  ·rw[List.erase_of_not_mem hm]at ih
   omega
abbrev Pl:=Int×Int
def inR(T:Int)(x:Pl):Prop:=0<=x.1/\x.1<12/\0<=x.2/\x.2<=T
theorem Bv{T:Int}{l:List Pl}(hT:T<=2000)(hn:l.Nodup)(h:∀x∈l,inR T x):l.length<=24012:=by
 have hmap:(l.map fun x=>(x.1*2001+x.2).toNat).Nodup:=by
  unfold List.Nodup at hn ⊢
  rw[List.pairwise_map]
  refine List.Pairwise.imp_of_mem ?_ hn
  intro a b ha hb hab e
  obtain⟨a1,a2,a3,a4⟩:=h a ha
  obtain⟨b1,b2,b3,b4⟩:=h b hb
  refine hab (Prod.ext ?_ ?_)<;>omega
 have:=j5 24012 _ hmap (fun y hy=>by
  obtain⟨x,hx,rfl⟩:=List.mem_map.mp hy
  obtain⟨a1,a2,a3,a4⟩:=h x hx
  omega)
 rwa [Ew]at this
section
variable (nx:Pl->Nat->Option Pl) (s:Pl)
inductive Wk:Nat->Pl->Prop
 | zero:Wk 0 s
 | succ {n:Nat} {x y:Pl} {k:Nat}:Wk n x->nx x k=some y->Wk (n+1) y
def cA(n:Nat)(x:Pl):Prop:=Wk nx s n x/\∀m,m<n->¬Wk nx s m x
theorem cA.uniq{n m:Nat}{x:Pl}(h:cA nx s n x)(g:cA nx s m x):n=m:=by
 rcases Nat.lt_trichotomy n m with l | l | l
 ·exact absurd h.1 (g.2 n l)
 ·exact l
 ·exact absurd g.1 (h.2 m l)
abbrev Ent:=Pl×Nat×Option (Pl×Nat)
structure QI(q:List Ent)(i B:Nat):Prop where
 nd:(q.map (·.1)).Nodup
 par:∀e∈q,(e.2.2=none/\e.1=s/\e.2.1=0)\/∃p k d o,e.2.2=some (p,k)/\nx p k=some e.1/\e.2.1=d+1/\(p,d,o)∈q
 le:∀e∈q,e.2.1<=B+1
 lo:∀j e,q[j]?=some e->i<=j->B<=e.2.1
 srt:q.Pairwise fun a b=>a.2.1<=b.2.1
 cl:∀j e,j<i->q[j]?=some e->∀k y,nx e.1 k=some y->∃e'∈q,e'.1=y/\e'.2.1<=e.2.1+1
 s0:(s,0,none)∈q
theorem QI.begin:QI nx s [(s,0,none)] 0 0:=by
 refine⟨by simp,?_,?_,?_,by simp,?_,by simp⟩
 ·intro e he
  rw[EG]at he
  subst he
  exact .inl ⟨rfl,rfl,rfl⟩
 ·intro e he
  rw[EG]at he
  subst he
  simp
 ·intro j e _ _
  exact Nat.zero_le _
 ·intro j e hj
  exact absurd hj (Nat.not_lt_zero _)
variable {nx s}
theorem QI.wk{q:List Ent}{i B:Nat}(h:QI nx s q i B):∀(d:Nat) (e:Ent),e∈q->e.2.1=d->Wk nx s d e.1
 | 0,e,he,hd=>by
  rcases h.par e he with⟨_,hs,_⟩ | ⟨p,k,d,o,_,_,hd',_⟩
  ·rw[hs];exact .zero
  ·omega
 | d+1,e,he,hd=>by
  rcases h.par e he with⟨_,_,h0⟩ | ⟨p,k,d',o,_,hn,hd',hm⟩
  ·omega
  ·have:d'=d:=by omega
   subst this
   exact .succ (QI.wk h d' _ hm rfl) hn
theorem QI.all {q : List Ent} {i B : Nat} (h : QI nx s q i B) : ∀ (n : Nat) (y : Pl), Wk nx s n y → (n ≤ B ∨ i = q.length) → ∃ e ∈ q, e.1 = y ∧ e.2.1 ≤ n := by
  intro n y w
  induction w with
  | zero => intro _; exact ⟨_, h.s0, rfl, ER _⟩
  | @succ n x y k w hk ih =>
    intro hB
    obtain ⟨e, he, hx, hd⟩ := ih (by rcases hB with h | h; · left; omega
                                     · exact .inr h)
    obtain ⟨j, hj⟩ := List.getElem?_of_mem he
    have hji : j < i := by
      rcases hB with hB | hB
      · rcases Nat.lt_or_ge j i with l | l
        · exact l
        · have := h.lo j e hj l
          omega
      · rw [hB]
        exact (EE.mp hj).1
    obtain ⟨e', he', hy, hd'⟩ := h.cl j e hji hj k y (by rw [hx]; exact hk)
    exact ⟨e', he', hy, by omega⟩
theorem Ay{q:List Ent}(hn:(q.map (·.1)).Nodup){e e':Ent}(h:e∈q)(h':e'∈q)(he:e.1=e'.1):e=e':=by
 induction q with
 | nil=>cases h
 | cons a q ih=>
  rw[List.map_cons,List.nodup_cons]at hn
  rcases EK.mp h with r | r<;>rcases EK.mp h' with r' | r'
  ·rw[r,r']
  ·subst r
   exact absurd (List.mem_map.mpr ⟨e',r',he.symm⟩) hn.1
  ·subst r'
   exact absurd (List.mem_map.mpr ⟨e,r,he⟩) hn.1
  ·exact ih hn.2 r r'
theorem QI.dist{q:List Ent}{i B:Nat}(h:QI nx s q i B){e:Ent}(he:e∈q):cA nx s e.2.1 e.1:=by
 refine⟨h.wk _ e he rfl,fun m hm w=>?_⟩
 have:=h.le e he
 obtain⟨e',he',hy,hd⟩:=h.all m e.1 w (.inl (by omega))
 have:=Ay h.nd he' he hy
 subst this
 omega
theorem QI.done{q:List Ent}{B:Nat}(h:QI nx s q q.length B){y:Pl}(hy:y∉q.map (·.1))(n:Nat):¬cA nx s n y:=fun d=>by
 obtain⟨e,he,hx,_⟩:=h.all n y d.1 (.inr rfl)
 exact hy (List.mem_map.mpr ⟨e,he,hx⟩)
theorem tL{q:List Ent}(hs:q.Pairwise fun a b=>a.2.1<=b.2.1){i j:Nat}{a b:Ent}(ha:q[i]?=some a)(hb:q[j]?=some b)(hij:i<=j):a.2.1<=b.2.1:=by
 rcases Nat.lt_or_ge i j with l | l
 ·obtain⟨h1,e1⟩:=EE.mp ha
  obtain⟨h2,e2⟩:=EE.mp hb
  have:=List.pairwise_iff_getElem.mp hs i j h1 h2 l
  rw[e1,e2]at this
  exact this
 ·have:i=j:=by omega
  subst this
  rw[ha]at hb
  cases hb
  exact ER _
theorem QI.deepAt{q:List Ent}{i B:Nat}(h:QI nx s q i B):∀(j:Nat) (e:Ent),q[j]?=some e->e.2.1<=j:=by
 intro j
 induction j using Nat.strongRecOn with
 | _ j ih=>
  intro e he
  rcases h.par e (EF he)with⟨_,_,h0⟩ | ⟨p,k,d,o,_,_,hd,hm⟩
  ·omega
  ·obtain⟨j',hj'⟩:=List.getElem?_of_mem hm
   have hlt:j'<j:=by
    rcases Nat.lt_or_ge j' j with l | l
    ·exact l
    ·have:=tL h.srt he hj' l
     dsimp only at this
     omega
   have:=ih j' hlt _ hj'
   dsimp only at this
   omega
theorem QI.deep{q:List Ent}{i B:Nat}(h:QI nx s q i B){e:Ent}(he:e∈q):e.2.1<=q.length:=by
 obtain⟨j,hj⟩:=List.getElem?_of_mem he
 have h1:=h.deepAt j e hj
 have h2:=(EE.mp hj).1
 omega
structure QF(q:List Ent)(i:Nat)(h:Ent)(ks:List Nat)(m:Nat):Prop where
 at_:q[i]?=some h
 nd:(q.map (·.1)).Nodup
 par:∀e∈q,(e.2.2=none/\e.1=s/\e.2.1=0)\/∃p k d o,e.2.2=some (p,k)/\nx p k=some e.1/\e.2.1=d+1/\(p,d,o)∈q
 le:∀e∈q,e.2.1<=h.2.1+1
 srt:q.Pairwise fun a b=>a.2.1<=b.2.1
 cl:∀j e,j<i->q[j]?=some e->∀k y,nx e.1 k=some y->∃e'∈q,e'.1=y/\e'.2.1<=e.2.1+1
 ch:∀k∈ks.take m,∀y,nx h.1 k=some y->∃e'∈q,e'.1=y/\e'.2.1<=h.2.1+1
 s0:(s,0,none)∈q
theorem QI.look{q:List Ent}{i B:Nat}{h:Ent}(H:QI nx s q i B)(ha:q[i]?=some h)(ks:List Nat):QF (nx:=nx) (s:=s) q i h ks 0:=by
 refine⟨ha,H.nd,H.par,fun e he=>?_,H.srt,H.cl,fun k hk=>by simp at hk,H.s0⟩
 have:=H.le e he
 have:=H.lo i h ha (ER _)
 omega
theorem QF.next{q:List Ent}{i:Nat}{h:Ent}{ks:List Nat}(H:QF (nx:=nx) (s:=s) q i h ks ks.length)(hk:∀k y,nx h.1 k=some y->k∈ks):QI nx s q (i+1) h.2.1:=by
 refine⟨H.nd,H.par,H.le,fun j e hj hij=>tL H.srt H.at_ hj (by omega),H.srt,fun j e hj he k y hy=>?_,H.s0⟩
 rcases Nat.lt_or_ge j i with l | l
 ·exact H.cl j e l he k y hy
 ·have:j=i:=by omega
  subst this
  have e':=H.at_
  rw[he]at e'
  cases e'
  exact H.ch k (by rw[EZ];exact hk k y hy) y hy
theorem QF.skip{q:List Ent}{i:Nat}{h:Ent}{ks:List Nat}{m k:Nat}(H:QF (nx:=nx) (s:=s) q i h ks m)(hk:ks[m]?=some k)(hy:∀y,nx h.1 k=some y->y∈q.map (·.1)):QF (nx:=nx) (s:=s) q i h ks (m+1):=by
 refine⟨H.at_,H.nd,H.par,H.le,H.srt,H.cl,fun k' hk' y hy'=>?_,H.s0⟩
 rw[List.take_succ,hk]at hk'
 rcases EU.mp hk' with z | z
 ·exact H.ch k' z y hy'
 ·have:k'=k:=by simpa using z
  subst this
  obtain⟨e,he,hx⟩:=List.mem_map.mp (hy y hy')
  exact⟨e,he,hx,H.le e he⟩
theorem QF.add{q:List Ent}{i:Nat}{h:Ent}{ks:List Nat}{m k:Nat}{y:Pl}(H:QF (nx:=nx) (s:=s) q i h ks m)(hk:ks[m]?=some k)(hy:nx h.1 k=some y)(hn:y∉q.map (·.1)):
  QF (nx:=nx) (s:=s) (q++[(y,h.2.1+1,some (h.1,k))]) i h ks (m+1):=by
 have hil:=(EE.mp H.at_).1
 have hmem:h∈q:=EF H.at_
 refine⟨by rw[EW hil];exact H.at_,?_,?_,?_,?_,?_,?_,List.mem_append_left _ H.s0⟩
 ·rw[EM,List.nodup_append]
  refine⟨H.nd,by simp,fun a ha b hb e=>?_⟩
  have:b=y:=by simpa using hb
  subst this
  subst e
  exact hn ha
 ·intro e he
  rcases EU.mp he with z | z
  ·rcases H.par e z with p | ⟨p,k',d,o,h1,h2,h3,h4⟩
   ·exact .inl p
   ·exact .inr ⟨p,k',d,o,h1,h2,h3,List.mem_append_left _ h4⟩
  ·have:e=(y,h.2.1+1,some (h.1,k)):=by simpa using z
   subst this
   exact .inr ⟨h.1,k,h.2.1,h.2.2,rfl,hy,rfl,List.mem_append_left _ hmem⟩
 ·intro e he
  rcases EU.mp he with z | z
  ·exact H.le e z
  ·have:e=(y,h.2.1+1,some (h.1,k)):=by simpa using z
   subst this
   exact ER _
 ·rw[List.pairwise_append]
  refine⟨H.srt,by simp,fun a ha b hb=>?_⟩
  have:b=(y,h.2.1+1,some (h.1,k)):=by simpa using hb
  subst this
  exact H.le a ha
 ·intro j e hj he k' y' hy'
  rw[EW (by omega)]at he
  obtain⟨e',h1,h2⟩:=H.cl j e hj he k' y' hy'
  exact⟨e',List.mem_append_left _ h1,h2⟩
 ·intro k' hk' y' hy'
  rw[List.take_succ,hk]at hk'
  rcases EU.mp hk' with z | z
  ·obtain⟨e',h1,h2⟩:=H.ch k' z y' hy'
   exact⟨e',List.mem_append_left _ h1,h2⟩
  ·have:k'=k:=by simpa using z
   subst this
   rw[hy]at hy'
   cases hy'
   exact⟨_,List.mem_append_right _ EC,rfl,ER _⟩
def gone:Pl->List Nat->Option Pl
 | x,[]=>some x
 | x,k::r=>(nx x k).bind fun y=>gone y r
end
end Bfs
namespace Bfs
inductive Rw(S:Pl->Pl->Prop):Nat->Pl->Pl->Prop
 | nil {x:Pl}:Rw S 0 x x
 | snoc {n:Nat} {x y z:Pl}:Rw S n x y->S y z->Rw S (n+1) x z
theorem Rw.trans{S:Pl->Pl->Prop}{n k:Nat}{x y z:Pl}(h:Rw S n x y)(g:Rw S k y z):Rw S (n+k) x z:=by
 induction g with
 | nil=>exact h
 | snoc _ hs ih=>exact .snoc (ih h) hs
theorem Rw.imp{S S':Pl->Pl->Prop}(hS:∀a c,S a c->S' a c){n:Nat}{x y:Pl}(h:Rw S n x y):Rw S' n x y:=by
 induction h with
 | nil=>exact .nil
 | snoc _ hs ih=>exact .snoc ih (hS _ _ hs)
theorem Rw.fn{S:Pl->Pl->Prop}{n:Nat}{x y:Pl}(h:Rw S n x y):∃w:Nat->Pl,w 0=x/\w n=y/\∀i,i<n->S (w i) (w (i+1)):=by
 induction h with
 | @nil x=>exact⟨fun _=>x,rfl,rfl,fun i hi=>absurd hi (Nat.not_lt_zero _)⟩
 | @snoc n x y z _ hs ih=>
  obtain⟨w,h0,hn,hw⟩:=ih
  refine⟨fun i=>if i<=n then w i else z,by simp[h0],(by show(if n+1<=n then w (n+1)else z)=z;rw[if_neg (by omega)]),fun i hi=>?_⟩
  try dsimp only
  rcases Nat.lt_or_ge i n with l | l
  ·rw[if_pos (by omega),if_pos (by omega)]
   exact hw i l
  ·have:i=n:=by omega
   subst this
   rw[if_pos (ER _),if_neg (by omega),hn]
   exact hs
theorem xm{S:Pl->Pl->Prop}{w:Nat->Pl}{i:Nat}:∀(k:Nat),(∀j,i<=j->j<i+k->S (w j) (w (j+1)))->Rw S k (w i) (w (i+k))
 | 0,_=>.nil
 | k+1,h=>.snoc (xm k fun j h1 h2=>h j h1 (by omega)) (h (i+k) (by omega) (by omega))
theorem iW{S:Pl->Pl->Prop}{w:Nat->Pl}{i j:Nat}(hij:i<=j)(h:∀k,i<=k->k<j->S (w k) (w (k+1))):Rw S (j-i) (w i) (w j):=by
 have:=xm (S:=S) (w:=w) (i:=i) (j-i) (fun k h1 h2=>h k h1 (by omega))
 rwa [show i+(j-i)=j by omega]at this
theorem iU{h:Nat->Int}{l:Int}:∀(P:Nat),(∀i,i<P->h (i+1)<=h i+1)->h 0<=l->l<=h P->∃u,u<=P/\h u=l/\∀i,u<i->i<=P->l<h i
 | 0,_,h0,hP=>⟨0,ER _,by omega,fun i h1 h2=>by omega⟩
 | P+1,hs,h0,hP=>by
  by_cases e:h (P+1)=l
  ·exact⟨P+1,ER _,e,fun i h1 h2=>by omega⟩
  ·have:=hs P (by omega)
   obtain⟨u,hu,hl,hi⟩:=iU P (fun i hi=>hs i (by omega)) h0 (by omega)
   refine⟨u,by omega,hl,fun i h1 h2=>?_⟩
   rcases Nat.lt_or_ge P i with g | g
   ·have:i=P+1:=by omega
    subst this
    omega
   ·exact hi i h1 g
theorem sI{h:Nat->Int}{l:Int}{P n:Nat}(hP:P<=n)(hs:∀i,P<=i->i<n->h i<=h (i+1)+1)(h0:h n<=l)(hl:l<=h P):∃d,P<=d/\d<=n/\h d=l/\∀i,P<=i->i<d->l<h i:=by
 obtain⟨u,hu,hul,hui⟩:=iU (h:=fun i=>h (n-i)) (l:=l) (n-P) (fun i hi=>by
  have:=hs (n-(i+1)) (by omega) (by omega)
  rwa [show n-(i+1)+1=n-i by omega]at this) (by simpa using h0) (by
  try dsimp only
  rw[show n-(n-P)=P by omega];exact hl)
 refine⟨n-u,by omega,by omega,hul,fun i h1 h2=>?_⟩
 have:=hui (n-i) (by omega) (by omega)
 (try dsimp only at this)
 rwa [show n-(n-i)=i by omega]at this
theorem code_inj{m r s r' s':Int}(hs:0<=s)(hs1:s<m)(hs':0<=s')(hs1':s'<m)(e:r*m+s=r'*m+s'):r=r'/\s=s':=by
 have h1:s=s':=by
  have:=congrArg (· % m) e
  (try dsimp only at this)
  rw[Int.add_comm,Int.add_mul_emod_self_right,Int.add_comm (r'*m),Int.add_mul_emod_self_right,Int.emod_eq_of_lt hs hs1,Int.emod_eq_of_lt hs' hs1']at this
  exact this
 refine⟨?_,h1⟩
 have h2:r*m=r'*m:=by omega
 exact Int.eq_of_mul_eq_mul_right (by omega) h2
theorem mD{m r s:Int}(hr:0<=r)(hr1:r<m)(hs:0<=s)(hs1:s<m):0<=r*m+s/\r*m+s<m*m:=by
 have h1:0<=r*m:=E1 hr (by omega)
 have h2:(r+1)*m<=m*m:=Int.mul_le_mul_of_nonneg_right (by omega) (by omega)
 rw[Int.add_mul,Int.one_mul]at h2
 omega
theorem twice{K:Nat}(code:Nat->Nat)(h:∀j,j<=K->code j<K):∃i j,i<j/\j<=K/\code i=code j:=by
 refine Classical.byContradiction fun no=>?_
 have hn:((List.range (K+1)).map code).Nodup:=by
  unfold List.Nodup
  rw[List.pairwise_map]
  refine List.Pairwise.imp_of_mem ?_ (List.pairwise_lt_range (n:=K+1))
  intro a b ha hb hab e
  exact no ⟨a,b,hab,by have:=List.mem_range.mp hb;omega,e⟩
 have:=j5 K _ hn (fun x hx=>by
  obtain⟨j,hj,rfl⟩:=List.mem_map.mp hx
  exact h j (by have:=List.mem_range.mp hj;omega))
 rw[Ew,List.length_range]at this
 omega
theorem cut{S:Pl->Pl->Prop}{m:Int}(hm:0<m)(h1:∀x y,S x y->y.2<=x.2+1/\x.2<=y.2+1)(h2:∀x y c,S x y->0<=c->1<=x.2-c->1<=y.2-c->S (x.1,x.2-c) (y.1,y.2-c))
  (h3:∀x y,S x y->0<=y.1/\y.1<m) {b:Int} (hb:0<=b):∀(n:Nat) (x g:Pl),Rw S n x g->0<=x.1->x.1<m->x.2<=b->g.2<=b->∃n',n'<=n/\Rw (fun a c=>S a c/\c.2<=b+m*m) n' x g:=by
 intro n
 induction n using Nat.strongRecOn with
 | _ n ih=>
  intro x g hw x0 x1 xb gb
  obtain⟨w,hw0,hwn,hws⟩:=hw.fn
  by_cases hall:∀i,i<=n->(w i).2<=b+m*m
  ·refine⟨n,ER _,?_⟩
   have:=iW (S:=fun a c=>S a c/\c.2<=b+m*m) (w:=w) (Nat.zero_le n) (fun k _ hk=>⟨hws k hk,hall (k+1) (by omega)⟩)
   rw[hw0,hwn]at this
   exact this
  ·obtain⟨P,hP⟩:=Classical.not_forall.mp hall
   obtain⟨hPn,hPh⟩:P<=n/\b+m*m<(w P).2:=by
    by_cases c:P<=n
    ·exact⟨c,by
      by_cases d:(w P).2<=b+m*m
      ·exact absurd (fun _=>d) hP
      ·omega⟩
    ·exact absurd (fun z=>absurd z c) hP
   have hmm:0<=m*m:=E1 (by omega) (by omega)
   have room:∀i,i<=n->0<=(w i).1/\(w i).1<m:=by
    intro i hi
    cases i with
    | zero=>rw[hw0];exact⟨x0,x1⟩
    | succ i=>exact h3 _ _ (hws i (by omega))
   have hu:∀j:Nat,∃u,(j<=(m*m).toNat->u<=P/\(w u).2=b+1+j/\∀i,u<i->i<=P->b+1+j<(w i).2):=by
    intro j
    by_cases hj:j<=(m*m).toNat
    ·obtain⟨u,a1,a2,a3⟩:=iU (h:=fun i=>(w i).2) (l:=b+1+j) P (fun i hi=>(h1 _ _ (hws i (by omega))).1) (by(try dsimp only);rw[hw0];omega) (by(try dsimp only);omega)
     exact⟨u,fun _=>⟨a1,a2,a3⟩⟩
    ·exact⟨0,fun z=>absurd z hj⟩
   have hd:∀j:Nat,∃d,(j<=(m*m).toNat->P<=d/\d<=n/\(w d).2=b+1+j/\∀i,P<=i->i<d->b+1+j<(w i).2):=by
    intro j
    by_cases hj:j<=(m*m).toNat
    ·obtain⟨d,a1,a2,a3,a4⟩:=sI (h:=fun i=>(w i).2) (l:=b+1+j) hPn (fun i _ hi=>(h1 _ _ (hws i hi)).2) (by(try dsimp only);rw[hwn];omega) (by(try dsimp only);omega)
     exact⟨d,fun _=>⟨a1,a2,a3,a4⟩⟩
    ·exact⟨0,fun z=>absurd z hj⟩
   obtain⟨u,hu⟩:=Classical.axiomOfChoice hu
   obtain⟨d,hd⟩:=Classical.axiomOfChoice hd
   obtain⟨i,j,hij,hjK,hcode⟩:=twice (K:=(m*m).toNat) (fun j=>((w (u j)).1*m+(w (d j)).1).toNat) (fun j hj=>by
    have a1:=hu j hj
    have a2:=hd j hj
    have r1:=room (u j) (by omega)
    have r2:=room (d j) (by omega)
    have:=mD r1.1 r1.2 r2.1 r2.2
    try dsimp only
    omega)
   obtain⟨ui1,ui2,ui3⟩:=hu i (by omega)
   obtain⟨uj1,uj2,uj3⟩:=hu j hjK
   obtain⟨di0,di1,di2,di3⟩:=hd i (by omega)
   obtain⟨dj0,dj1,dj2,dj3⟩:=hd j hjK
   have hr:(w (u i)).1=(w (u j)).1/\(w (d i)).1=(w (d j)).1:=by
    have r1:=room (u i) (by omega)
    have r2:=room (d i) (by omega)
    have r3:=room (u j) (by omega)
    have r4:=room (d j) (by omega)
    have c1:=mD r1.1 r1.2 r2.1 r2.2
    have c2:=mD r3.1 r3.2 r4.1 r4.2
    (try dsimp only at hcode)
    exact code_inj r2.1 r2.2 r4.1 r4.2 (by omega)
   have huu:u i<u j:=by
    rcases Nat.lt_trichotomy (u i) (u j)with z | z | z
    ·exact z
    ·rw[z]at ui2;omega
    ·have:=uj3 (u i) z ui1;omega
   have hdd:d j<d i:=by
    rcases Nat.lt_trichotomy (d j) (d i)with z | z | z
    ·exact z
    ·rw[z]at dj2;omega
    ·have:=dj3 (d i) di0 z;omega
   have s1:Rw S (u i-0) (w 0) (w (u i)):=iW (Nat.zero_le _) (fun k _ hk=>hws k (by omega))
   have s3:Rw S (n-d i) (w (d i)) (w n):=iW di1 (fun k _ hk=>hws k hk)
   have hi:∀k,u j<=k->k<=d j->b+1+j<=(w k).2:=by
    intro k k1 k2
    rcases Nat.lt_or_ge k P with z | z
    ·rcases Nat.lt_or_ge (u j) k with y | y
     ·have:=uj3 k y (by omega);omega
     ·have:k=u j:=by omega
      subst this;omega
    ·rcases Nat.lt_or_ge k (d j)with y | y
     ·have:=dj3 k z y;omega
     ·have:k=d j:=by omega
      subst this;omega
   have s2:Rw S (d j-u j) ((w (u j)).1,(w (u j)).2-(j-i:Nat)) ((w (d j)).1,(w (d j)).2-(j-i:Nat)):=
    iW (S:=S) (w:=fun k=>((w k).1,(w k).2-(j-i:Nat))) (show u j<=d j by omega) (fun k k1 k2=>h2 _ _ _ (hws k (by omega)) (by omega) (by have:=hi k k1 (by omega);omega) (by have:=hi (k+1) (by omega) (by omega);omega))
   have e1:((w (u j)).1,(w (u j)).2-((j-i:Nat):Int))=w (u i):=Prod.ext hr.1.symm (by(try dsimp only);omega)
   have e2:((w (d j)).1,(w (d j)).2-((j-i:Nat):Int))=w (d i):=Prod.ext hr.2.symm (by(try dsimp only);omega)
   rw[e1,e2]at s2
   have s:=(s1.trans s2).trans s3
   rw[hw0,hwn]at s
   obtain⟨n',hn',hr'⟩:=ih _ (by omega) x g s x0 x1 xb gb
   exact⟨n',by omega,hr'⟩
theorem Wk.rw{nx:Pl->Nat->Option Pl}{s y:Pl}{n:Nat}(h:Wk nx s n y):Rw (fun a c=>∃k,nx a k=some c) n s y:=by
 induction h with
 | zero=>exact .nil
 | succ _ hk ih=>exact .snoc ih ⟨_,hk⟩
theorem Rw.wk{nx:Pl->Nat->Option Pl}{s y:Pl}{n:Nat}{S:Pl->Pl->Prop}(hS:∀a c,S a c->∃k,nx a k=some c)(h:Rw S n s y):Wk nx s n y:=by
 induction h with
 | nil=>exact .zero
 | snoc _ hk ih=>
  obtain⟨k,hk⟩:=hS _ _ hk
  exact .succ ih hk
theorem cA.each{nx:Pl->Nat->Option Pl}{s y:Pl}{n:Nat}(d:cA nx s n y):∀j,j<=n->∃x,cA nx s (n-j) x:=by
 intro j
 induction j with
 | zero=>intro _;exact⟨y,d⟩
 | succ j ih=>
  intro hj
  obtain⟨x,w,hx⟩:=ih (by omega)
  rw[show n-j=(n-(j+1))+1 by omega]at w hx
  cases w with
  | @succ n' x' y' k w hk=>exact⟨x',w,fun m hm w'=>hx (m+1) (by omega) (.succ w' hk)⟩
theorem cA.few{nx:Pl->Nat->Option Pl}{s y:Pl}{n:Nat}{m T:Int}(hm:0<m)(hT:0<=T)(d:cA nx s n y)(hin:∀k z,Wk nx s k z->0<=z.1/\z.1<m/\0<=z.2/\z.2<=T):(n:Int)<=m*(T+1)-1:=by
 have hx:∀j:Nat,∃x,(j<=n->cA nx s j x):=by
  intro j
  by_cases hj:j<=n
  ·obtain⟨x,h⟩:=d.each (n-j) (by omega)
   rw[show n-(n-j)=j by omega]at h
   exact⟨x,fun _=>h⟩
  ·exact⟨s,fun z=>absurd z hj⟩
 obtain⟨f,hf⟩:=Classical.axiomOfChoice hx
 refine Classical.byContradiction fun no=>?_
 have hpos:0<=m*(T+1):=E1 (by omega) (by omega)
 have cl:∀z:Pl,0<=z.1->z.1<m->0<=z.2->z.2<=T->0<=z.1*(T+1)+z.2/\z.1*(T+1)+z.2<m*(T+1):=by
  intro z a1 a2 a3 a4
  have b1:0<=z.1*(T+1):=E1 a1 (by omega)
  have b2:(z.1+1)*(T+1)<=m*(T+1):=Int.mul_le_mul_of_nonneg_right (by omega) (by omega)
  rw[Int.add_mul,Int.one_mul]at b2
  omega
 obtain⟨i,j,hij,hj,hc⟩:=twice (K:=(m*(T+1)).toNat) (fun j=>((f j).1*(T+1)+(f j).2).toNat) (fun j hj=>by
  obtain⟨a1,a2,a3,a4⟩:=hin j (f j) (hf j (by omega)).1
  have:=cl (f j) a1 a2 a3 a4
  try dsimp only
  omega)
 obtain⟨a1,a2,a3,a4⟩:=hin i (f i) (hf i (by omega)).1
 obtain⟨b1,b2,b3,b4⟩:=hin j (f j) (hf j (by omega)).1
 have c1:=cl (f i) a1 a2 a3 a4
 have c2:=cl (f j) b1 b2 b3 b4
 (try dsimp only at hc)
 obtain⟨e1,e2⟩:=code_inj (m:=T+1) a3 (by omega) b3 (by omega) (show(f i).1*(T+1)+(f i).2=(f j).1*(T+1)+(f j).2 by omega)
 have:=cA.uniq (nx:=nx) (s:=s) (hf i (by omega)) (by rw[show f i=f j from Prod.ext e1 e2];exact hf j (by omega))
 omega
theorem A4{nx:Pl->Nat->Option Pl}{s y:Pl}:∀(n:Nat),Wk nx s n y->∃k,k<=n/\cA nx s k y:=by
 intro n
 induction n using Nat.strongRecOn with
 | _ n ih=>
  intro w
  by_cases h:∃k,k<n/\Wk nx s k y
  ·obtain⟨k,hk,w'⟩:=h
   obtain⟨k',h1,h2⟩:=ih k hk w'
   exact⟨k',by omega,h2⟩
  ·exact⟨n,ER _,w,fun k hk w'=>h ⟨k,hk,w'⟩⟩
end Bfs
namespace Bfs
end Bfs
namespace My
open PySem L2 St
def stq (i : Nat) : Stmt := PySem.Challenge.pw_stairrooms_k31_whole_least_closed.main.body.getD i (.Pass ⟨0, 0, 0, 0⟩)
local macro_rules | `(tactic| walk_at "cond") => `(tactic| first | decide | omega | (dsimp only; omega) | (unfold j2; omega) | (unfold w8; exact ⟨by decide, by decide, by decide⟩) | (dsimp only; exact ⟨by omega, by omega⟩) | exact .inr ⟨by decide, by decide⟩ | exact .inl ⟨by decide, by decide⟩ | (unfold SmallR; omega))
local macro_rules | `(tactic| walk_at "rd") => do
 let ts ← ("seq ret retN asg drop ifS next name var c op un CB cons nil ints test B exb not and or andV orV notV ifE yes I0 I U EqI NeI EqB NeB call BM tup lst sl noPart part exi chain comp iL iT i1 i2 i3 for tTru intB max2 min2 sub gcons gnil aug ipI zip rev par par2 lam calV raise fs try bseq bnext bplain bif bcall enum gget gin revL leS disp dget lrev disp1 din dnin dput min3 iS iD bm0 revS iD2 iLT thaw iD3 iDL dgt2 fs3 fs5".splitOn " ").toArray.mapM fun n =>
  let i := Lean.mkIdent (.mkSimple ("rd_" ++ n))
  if n == "var" || n == "aug" then `(tacticSeq| ((with_reducible apply $i); (exact rfl)))
  else if n == "I" then `(tacticSeq| ((with_reducible apply $i); (walk_at "cond")))
  else `(tacticSeq| with_reducible refine $i ?_)
 `(tactic| repeat (first $[| $ts]* | dsimp only))
structure Blt(mg:Str->Option Value):Prop where
 len_:mg "len" = none
 isinstance_:mg "isinstance" = none
 tuple_:mg "tuple" = none
 list_:mg "list" = none
 int_:mg "int" = none
 bool_:mg "bool" = none
 range_:mg "range" = none
 zip_:mg "zip" = none
 max_:mg "max" = none
 min_:mg "min" = none
 abs_:mg "abs" = none
 all_:mg "all" = none
 enumerate_:mg "enumerate" = none
 set_:mg "set" = none
 str_:mg "str" = none
 reversed_:mg "reversed" = none
 any_:mg "any" = none
def isInt:V->Bool
 | .int _=>true
 | _=>false
def isStr:V->Bool
 | .str _=>true
 | _=>false
def isTup(H:Hp):V->Bool
 | .ref p=>match H p with
  | some (.tup _)=>true
  | _=>false
 | _=>false
theorem CH{H:Hp}{v:V}{n:String}(h:dg H v n):∃b c,fC n "int" = some b/\fC n "bool" = some c/\(b && !c)=isInt v:=by
 cases v with
 | non=>cases(show n = "NoneType" from h);exact⟨_,_,rfl,rfl,rfl⟩
 | bl b=>cases(show n = "bool" from h);exact⟨_,_,rfl,rfl,rfl⟩
 | int i=>cases(show n = "int" from h);exact⟨_,_,rfl,rfl,rfl⟩
 | str z=>cases(show n = "str" from h);exact⟨_,_,rfl,rfl,rfl⟩
 | ref a=>rcases h with⟨rfl,xs,e⟩ | ⟨rfl,xs,e⟩<;>exact⟨_,_,rfl,rfl,rfl⟩
 | _=>exact False.elim h
theorem uV{H:Hp}{v:V}{n:String}(h:dg H v n):fC n "str" = some (isStr v):=by
 cases v with
 | non=>cases(show n = "NoneType" from h);rfl
 | bl b=>cases(show n = "bool" from h);rfl
 | int i=>cases(show n = "int" from h);rfl
 | str z=>cases(show n = "str" from h);rfl
 | ref a=>rcases h with⟨rfl,xs,e⟩ | ⟨rfl,xs,e⟩<;>rfl
 | _=>exact False.elim h
theorem oU{H:Hp}{v:V}{n:String}(h:dg H v n):fC n "tuple" = some (isTup H v):=by
 cases v with
 | non=>cases(show n = "NoneType" from h);rfl
 | bl b=>cases(show n = "bool" from h);rfl
 | int i=>cases(show n = "int" from h);rfl
 | str z=>cases(show n = "str" from h);rfl
 | ref a=>rcases h with⟨rfl,xs,e⟩ | ⟨rfl,xs,e⟩<;>(unfold isTup;dsimp only;rw[e];rfl)
 | _=>exact False.elim h
def bQ(H:Hp):Nat->V->Prop
 | _,.non=>True
 | _,.bl _=>True
 | _,.int _=>True
 | _,.str z=>z.length<=1000
 | 0,.ref _=>False
 | n+1,.ref p=>∃xs,(H p=some (.tup xs)\/H p=some (.lst xs))/\xs.length<=2000/\∀x∈xs,bQ H n x
 | _,_=>False
theorem bQ.ext{H H':Hp}(e:Ext H H'):∀{n:Nat} {v:V},bQ H n v->bQ H' n v:=by
 intro n
 induction n with
 | zero=>intro v h;cases v<;>exact h
 | succ n ih=>
  intro v h
  cases v with
  | ref p=>
   obtain⟨xs,h1,h2,h3⟩:=h
   exact⟨xs,h1.imp (e _ _) (e _ _),h2,fun x hx=>ih (h3 x hx)⟩
  | _=>exact h
theorem bQ.kind{H:Hp}{n:Nat}{v:V}(h:bQ H n v):∃k,dg H v k:=by
 cases v with
 | non=>exact⟨_,rfl⟩
 | bl b=>exact⟨_,rfl⟩
 | int i=>exact⟨_,rfl⟩
 | str z=>exact⟨_,rfl⟩
 | ref p=>
  cases n with
  | zero=>exact h.elim
  | succ n=>
   obtain⟨xs,h1,_⟩:=h
   rcases h1 with h1 | h1
   ·exact⟨"tuple",.inr ⟨rfl,xs,h1⟩⟩
   ·exact⟨"list",.inl ⟨rfl,xs,h1⟩⟩
 | _=>cases n<;>exact h.elim
theorem kF{H:Hp}{v:V}(h:isTup H v=true):∃p xs,v=.ref p/\H p=some (.tup xs):=by
 cases v with
 | ref p=>
  unfold isTup at h
  dsimp only at h
  split at h
  ·rename_i xs e
   exact⟨p,xs,rfl,e⟩
  ·cases h
 | _=>cases h
theorem bQ.items{H:Hp}{n:Nat}{p:Addr}{xs:List V}(h:bQ H (n+1) (.ref p))(e:H p=some (.tup xs)):xs.length<=2000/\∀x∈xs,bQ H n x:=by
 obtain⟨ys,h1,h2,h3⟩:=h
 rcases h1 with h1 | h1<;>rw[e]at h1<;>cases h1
 exact⟨h2,h3⟩
theorem g8{n:Nat}(h:n<=2000):n<=sizeLine:=E4 h (by decide)
def mx(K:Eo):Sp:=fun vs H Q _=>∃v n,vs=[v]/\dg H v n/\Q (.bl (isInt v)) H
abbrev lR:Stmt:=stq 6
theorem wz:FnScope ["thing"] ["thing"] (aK lR):=⟨rfl,rfl,rfl,by decide +kernel,rfl,by decide +kernel,by decide +kernel⟩
theorem yG{P:Program}{w:World}{K:Eo}{mg:Str->Option Value}{base:Heap}(D:Dfn K mg "is_whole" lR ["thing"])(T:Blt mg):Cal P w K mg base "is_whole" 1 ["thing"] (mx K):=by
 have nd:=(wz).nd
 refine D.ok wz (fun vs H Q E h=>?_) (fun X hX H vs Q E h=>?_)
 ·obtain⟨v,n,rfl,_⟩:=h;rfl
 ·obtain⟨f,cdv,A,outer,s,H0,E0,rfl,hr⟩:=hX
  obtain⟨v,n,rfl,hk,q⟩:=h
  obtain⟨b,c,hb,hc,e⟩:=CH hk
  refine⟨_,(ao (aF (eo (aX dv rfl T.isinstance_ PyProof.Rows.boot_isinstance (aa (pv 0) (aa (dC (v:=.ty "int") rfl T.int_ PyProof.Rows.boot_int rfl) ae))) (dX (wA (aX dv rfl T.isinstance_ PyProof.Rows.boot_isinstance (aa (pv 0) (aa (dC (v:=.ty "bool") rfl T.bool_ PyProof.Rows.boot_bool rfl) ae)))))))),?_⟩
  walk_at "rd"
  refine dw hk hb ?_
  walk_at "rd"
  cases b with
  | false=>refine aq ?_;rw[←e]at q;exact q
  | true=>
   refine aC ?_
   walk_at "rd"
   refine dw hk hc ?_
   walk_at "rd"
   rw[←e]at q;exact q
def eQ(m:Int):V->Bool
 | .int i=>decide (0<=i) && decide (i<m)
 | _=>false
def oW:List (Key×V):=[(.inr "up",.str "down"),(.inr "down",.str "up"),(.inr "stay",.str "stay"),(.inr "zero",.str "zero")]
theorem Au{w:World}{K:Eo}{a:Addr}{t1 t2 t3 t4 t5 t6 t7 t8:Tok}{ep:Nat}(h:K.lookup a=some (iB w [("up",t1,.str "down" t2),("down",t3,.str "up" t4),("stay",t5,.str "stay" t6),("zero",t7,.str "zero" t8)] ep))(hs:(a == sysModules)=false):GDict w K a oW:=
 ⟨⟨_,_,h,.cons ⟨rfl,⟨_,rfl⟩⟩ (.cons ⟨rfl,⟨_,rfl⟩⟩ (.cons ⟨rfl,⟨_,rfl⟩⟩ (.cons ⟨rfl,⟨_,rfl⟩⟩ .nil)))⟩,by decide +kernel,hs⟩
def ir:V->Bool
 | .str z=>(bJ oW (.inr z)).isSome
 | _=>false
def jD(z:Str):Bool:=!decide (z.cps.toList<(Str.ofString "a").cps.toList) && !decide ((Str.ofString "z").cps.toList<z.cps.toList)
def ic:V->Bool
 | .str z=>decide (z.length=1) && jD z
 | _=>false
theorem qg{v:V}(h:isInt v=true):∃i,v=.int i:=by
 cases v<;>first | exact ⟨_,rfl⟩ | cases h
theorem isStr_of{v:V}(h:isStr v=true):∃z,v=.str z:=by
 cases v<;>first | exact ⟨_,rfl⟩ | cases h
theorem Ad{m:Int}{v:V}(h:isInt v=false):eQ m v=false:=by
 cases v<;>first | rfl | cases h
theorem Cj{v:V}(h:isStr v=false):ir v=false:=by
 cases v<;>first | rfl | cases h
theorem Dl{v:V}(h:isStr v=false):ic v=false:=by
 cases v<;>first | rfl | cases h
def oG(K:Eo):Sp:=fun vs H Q _=>∃v m n,vs=[v,.int m]/\dg H v n/\Q (.bl (eQ m v)) H
abbrev lx:Stmt:=stq 15
theorem rS:FnScope ["thing","many"] ["thing","many"] (aK lx):=⟨rfl,rfl,rfl,by decide +kernel,rfl,by decide +kernel,by decide +kernel⟩
theorem yf{P:Program}{w:World}{K:Eo}{mg:Str->Option Value}{base:Heap}(D:Dfn K mg "is_room" lx ["thing","many"])(T:Blt mg)(C_is_whole:Cal P w K mg base "is_whole" 1 ["thing"] (mx K)):Cal P w K mg base "is_room" 2 ["thing","many"] (oG K):=by
 have nd:=(rS).nd
 refine D.ok rS (fun vs H Q E h=>?_) (fun X hX H vs Q E h=>?_)
 ·obtain⟨i,m,n,rfl,_⟩:=h;rfl
 ·obtain⟨f,cdv,A,outer,s,H0,E0,rfl,hr⟩:=hX
  obtain⟨v,m,n,rfl,hk,q⟩:=h
  refine⟨_,(ao (aF (eo (aD C_is_whole hr (aa (pv 0) ae)) (dX (lh gZ eB af (pv 0) (pv 1)))))),?_⟩
  walk_at "rd"
  refine⟨v,n,rfl,hk,?_⟩
  refine rd_exb ?_
  cases hv:isInt v with
  | false=>
   refine aq ?_
   rw[Ad hv]at q
   exact q
  | true=>
   obtain⟨i,rfl⟩:=qg hv
   refine aC ?_
   walk_at "rd"
   unfold eQ at q
   dsimp only at q
   cases h0:decide (0<=i)with
   | false=>
    refine aq ?_
    rw[h0]at q
    exact q
   | true=>
    refine aC ?_
    walk_at "rd"
    rw[h0,Bool.true_and]at q
    exact q
def pB(K:Eo):Sp:=fun vs H Q _=>∃v n,vs=[v]/\dg H v n/\Q (.bl (ir v)) H
abbrev me:Stmt:=stq 16
theorem vj:FnScope ["thing"] ["thing"] (aK me):=⟨rfl,rfl,rfl,by decide +kernel,rfl,by decide +kernel,by decide +kernel⟩
theorem CC{P:Program}{w:World}{K:Eo}{mg:Str->Option Value}{base:Heap}(D:Dfn K mg "is_deed" me ["thing"])(T:Blt mg)(g_TURNED:∃a,mg "TURNED" = some (.ref a)/\GDict w K a oW):Cal P w K mg base "is_deed" 1 ["thing"] (pB K):=by
 have nd:=(vj).nd
 refine D.ok vj (fun vs H Q E h=>?_) (fun X hX H vs Q E h=>?_)
 ·obtain⟨z,n,rfl,_⟩:=h;rfl
 ·obtain⟨f,cdv,A,outer,s,H0,E0,rfl,hr⟩:=hX
  obtain⟨a_TURNED,m_TURNED,d_TURNED⟩:=g_TURNED
  obtain⟨v,n,rfl,hk,q⟩:=h
  refine⟨_,(ao (aF (eo (aX dv rfl T.isinstance_ PyProof.Rows.boot_isinstance (aa (pv 0) (aa (dC (v:=.ty "str") rfl T.str_ PyProof.Rows.boot_str rfl) ae))) (dX (yS (Ar rfl m_TURNED d_TURNED (pv 0)) (by with_unfolding_all rfl)))))),?_⟩
  walk_at "rd"
  refine dw hk (uV hk) ?_
  walk_at "rd"
  cases hv:isStr v with
  | false=>
   refine aq ?_
   rw[Cj hv]at q
   exact q
  | true=>
   obtain⟨z,rfl⟩:=isStr_of hv
   refine aC ?_
   walk_at "rd"
   exact⟨.inr z,rfl,q⟩
def vd(K:Eo):Sp:=fun vs H Q _=>∃v n j,vs=[v]/\dg H v n/\bQ H j v/\Q (.bl (ic v)) H
abbrev ky:Stmt:=stq 17
theorem rR:FnScope ["thing"] ["thing"] (aK ky):=⟨rfl,rfl,rfl,by decide +kernel,rfl,by decide +kernel,by decide +kernel⟩
theorem zA{P:Program}{w:World}{K:Eo}{mg:Str->Option Value}{base:Heap}(D:Dfn K mg "is_sign" ky ["thing"])(T:Blt mg):Cal P w K mg base "is_sign" 1 ["thing"] (vd K):=by
 have nd:=(rR).nd
 refine D.ok rR (fun vs H Q E h=>?_) (fun X hX H vs Q E h=>?_)
 ·obtain⟨z,n,j,rfl,_⟩:=h;rfl
 ·obtain⟨f,cdv,A,outer,s,H0,E0,rfl,hr⟩:=hX
  obtain⟨v,n,j,rfl,hk,ht,q⟩:=h
  refine⟨_,(ao (aF (eo (aX dv rfl T.isinstance_ PyProof.Rows.boot_isinstance (aa (pv 0) (aa (dC (v:=.ty "str") rfl T.str_ PyProof.Rows.boot_str rfl) ae))) (eo (dF bM (aX Ax rfl T.len_ PySem.boot_len (aa (pv 0) ae)) af (aQ _)) (dX (lh ui ui aS (pv 0) aS)))))),?_⟩
  walk_at "rd"
  refine dw hk (uV hk) ?_
  walk_at "rd"
  cases hv:isStr v with
  | false=>
   refine aq ?_
   rw[Dl hv]at q
   exact q
  | true=>
   obtain⟨z,rfl⟩:=isStr_of hv
   refine aC ?_
   walk_at "rd"
   refine⟨_,rfl,g8 (E4 (show z.length<=1000 by cases j<;>exact ht) (by decide)),?_⟩
   walk_at "rd"
   unfold ic jD at q
   dsimp only at q
   by_cases h1:z.length=1
   ·rw[decide_eq_true (show((z.length:Nat):Int)=1 by omega)]
    refine aC ?_
    walk_at "rd"
    rw[decide_eq_true h1,Bool.true_and]at q
    cases h2:!decide (z.cps.toList<(Str.ofString "a").cps.toList)with
    | false=>
     refine aq ?_
     rw[h2]at q
     exact q
    | true=>
     refine aC ?_
     walk_at "rd"
     rw[h2,Bool.true_and]at q
     exact q
   ·rw[decide_eq_false (show ¬((z.length:Nat):Int)=1 by omega)]
    refine aq ?_
    rw[decide_eq_false h1,Bool.false_and]at q
    exact q
def gj(m:Int):List V->Bool
 | [a,b,c,d]=>eQ m a && (eQ m c && (ir b && ic d))
 | _=>false
def ck(H:Hp)(m:Int):V->Bool
 | .ref p=>match H p with
  | some (.tup xs)=>gj m xs
  | _=>false
 | _=>false
theorem tX{H:Hp}{m:Int}{v:V}(h:isTup H v=false):ck H m v=false:=by
 cases v with
 | ref p=>
  unfold isTup at h
  unfold ck
  dsimp only at h ⊢
  split
  ·rename_i xs e
   rw[e]at h
   cases h
  ·rfl
 | _=>rfl
theorem mj{H:Hp}{m:Int}{p:Addr}{xs:List V}(h:H p=some (.tup xs)):ck H m (.ref p)=gj m xs:=by
 unfold ck
 dsimp only
 rw[h]
theorem vY{m:Int}{xs:List V}(h:xs.length≠4):gj m xs=false:=by
 unfold gj
 split
 ·exact absurd rfl h
 ·rfl
theorem four{xs:List V}(h:xs.length=4):∃a b c d,xs=[a,b,c,d]:=by
 match xs,h with
 | [a,b,c,d],_=>exact⟨a,b,c,d,rfl⟩
def xf(K:Eo):Sp:=fun vs H Q _=>∃v m,vs=[v,.int m]/\bQ H 2 v/\Q (.bl (ck H m v)) H
abbrev j9:Stmt:=stq 18
theorem pR:FnScope ["thing","many"] ["thing","many"] (aK j9):=⟨rfl,rfl,rfl,by decide +kernel,rfl,by decide +kernel,by decide +kernel⟩
theorem yg{P:Program}{w:World}{K:Eo}{mg:Str->Option Value}{base:Heap}(D:Dfn K mg "is_way" j9 ["thing","many"])(T:Blt mg)(C_is_sign:Cal P w K mg base "is_sign" 1 ["thing"] (vd K))(C_is_deed:Cal P w K mg base "is_deed" 1 ["thing"] (pB K))(C_is_room:Cal P w K mg base "is_room" 2 ["thing","many"] (oG K)):Cal P w K mg base "is_way" 3 ["thing","many"] (xf K):=by
 have nd:=(pR).nd
 refine D.ok pR (fun vs H Q E h=>?_) (fun X hX H vs Q E h=>?_)
 ·obtain⟨p,m,rfl,_⟩:=h;rfl
 ·obtain⟨f,cdv,A,outer,s,H0,E0,rfl,hr⟩:=hX
  obtain⟨v,m,rfl,ht,q⟩:=h
  obtain⟨n,hk⟩:=ht.kind
  refine⟨_,(aj (bC (PW.pt (cM (bT (bw (aX dv rfl T.isinstance_ PyProof.Rows.boot_isinstance (aa (pv 0) (aa (dC (v:=.ty "tuple") rfl T.tuple_ PyProof.Rows.boot_tuple rfl) ae))))) (dh (aT fL (aX (cD K) rfl T.len_ PySem.boot_len (aa (pv 0) ae)) af (aQ _))))) (ao (aF bI)) aV)
    (aj (bC (PW.pt (cM (bT (bw (aD C_is_room hr (aa (ai (aA K) (pv 0) af (fun _ _=>rfl)) (aa (pv 1) ae))))) (dh (bT (bw (aD C_is_room hr (aa (ai (aA K) (pv 0) af (fun _ _=>rfl)) (aa (pv 1) ae)))))))) (ao (aF bI)) aV)
    (ao (aF (eo (aD C_is_deed hr (aa (ai (aA K) (pv 0) af (fun _ _=>rfl)) ae)) (dX (aD C_is_sign hr (aa (ai (aA K) (pv 0) af (fun _ _=>rfl)) ae)))))))),?_⟩
  walk_at "rd"
  refine dw hk (oU hk) ?_
  walk_at "rd"
  cases hv:isTup H v with
  | false=>
   refine aC ?_
   walk_at "rd"
   rw[tX hv]at q
   exact q
  | true=>
   refine aq ?_
   obtain⟨p,xs,rfl,hp⟩:=kF hv
   obtain⟨hx1,hx2⟩:=ht.items hp
   rw[mj hp]at q
   walk_at "rd"
   refine iN (ah.of hp) ?_
   walk_at "rd"
   by_cases h4:xs.length=4
   ·obtain⟨a,b,c,d,rfl⟩:=four h4
    have ta:=hx2 a (by simp)
    have tb:=hx2 b (by simp)
    have tc:=hx2 c (by simp)
    have td:=hx2 d (by simp)
    obtain⟨ka,hka⟩:=ta.kind
    obtain⟨kb,hkb⟩:=tb.kind
    obtain⟨kc,hkc⟩:=tc.kind
    obtain⟨kd,hkd⟩:=td.kind
    unfold gj at q
    dsimp only at q
    refine aq ?_
    walk_at "rd"
    refine ay (ah.of hp) (v:=a) rfl ?_
    walk_at "rd"
    refine⟨a,m,ka,rfl,hka,?_⟩
    walk_at "rd"
    cases ra:eQ m a with
    | false=>
     refine aC ?_
     walk_at "rd"
     rw[ra]at q
     exact q
    | true=>
     refine aq ?_
     walk_at "rd"
     refine ay (ah.of hp) (v:=c) rfl ?_
     walk_at "rd"
     refine⟨c,m,kc,rfl,hkc,?_⟩
     walk_at "rd"
     rw[ra,Bool.true_and]at q
     cases rc:eQ m c with
     | false=>
      refine aC ?_
      walk_at "rd"
      rw[rc]at q
      exact q
     | true=>
      refine aq ?_
      walk_at "rd"
      refine ay (ah.of hp) (v:=b) rfl ?_
      walk_at "rd"
      refine⟨b,kb,rfl,hkb,?_⟩
      walk_at "rd"
      rw[rc,Bool.true_and]at q
      cases rb:ir b with
      | false=>
       refine aq ?_
       rw[rb]at q
       exact q
      | true=>
       refine aC ?_
       walk_at "rd"
       refine ay (ah.of hp) (v:=d) rfl ?_
       walk_at "rd"
       rw[rb,Bool.true_and]at q
       exact⟨d,kd,1,rfl,hkd,td,q⟩
   ·rw[vY h4]at q
    rw[decide_eq_false (show ¬((xs.length:Nat):Int)=4 by omega)]
    refine aC ?_
    walk_at "rd"
    exact q
theorem jH{xs:List Int}{i:Nat}{v:V}(h:(xs.map V.int)[i]?=some v):∃x,v=.int x/\xs[i]?=some x:=by
 rw[Ey]at h
 cases e:xs[i]? with
 | none=>rw[e]at h;cases h
 | some x=>rw[e]at h;exact⟨x,(Option.some.inj h).symm,rfl⟩
theorem aB{n:Nat}(h:n<=1000000):n<=sizeLine:=E4 h (by decide)
def rV(K:Eo):Sp:=fun vs H Q _=>∃(a:Addr) (ns:List Int) (k:Int),vs=[.ref a,.int k]/\ag K H a (ns.map V.int)/\ns.length<=63/\0<=k/\∀z,Q (.int z) H
theorem xr{ns:List Int}{i:Int}(h0:0<=i)(h:i<ns.length):∃z,bq (ns.map V.int) i=some (.int z)/\ns[i.toNat]?=some z:=by
 have hi:i.toNat<ns.length:=by omega
 refine⟨ns[i.toNat],ee h0 ?_,Ex hi⟩
 rw[Ey,Ex hi]
 rfl
abbrev jv:Stmt:=stq 62
theorem sr:FnScope ["_law_script","_law_k"] ["_law_script","_law_k"] (aK jv):=⟨rfl,rfl,rfl,by decide +kernel,rfl,by decide +kernel,by decide +kernel⟩
theorem Bs{P:Program}{w:World}{K:Eo}{mg:Str->Option Value}{base:Heap}(D:Dfn K mg "_law_cell" jv ["_law_script","_law_k"])(T:Blt mg):Cal P w K mg base "_law_cell" 1 ["_law_script","_law_k"] (rV K):=by
 have nd:=(sr).nd
 refine D.ok sr (fun vs H Q E h=>?_) (fun X hX H vs Q E h=>?_)
 ·obtain⟨a,ns,k,rfl,_⟩:=h;rfl
 ·obtain⟨f,cdv,A,outer,s,H0,E0,rfl,hr⟩:=hX
  obtain⟨a,ns,k,rfl,ha,hl,hk,q⟩:=h
  refine⟨_,(aj (bC (aT bM (aX (cD K) rfl T.len_ PySem.boot_len (aa (pv 0) ae)) af (aQ _)) (ao (aF (av dP af (av aU (pv 1) af)))) aV)
    (aj (bC (aT eB (pv 1) (aX (cD K) rfl T.len_ PySem.boot_len (aa (pv 0) ae)) (aQ _)) (ao (aF (ai (aI K) (pv 0) (pv 1) (fun _ _=>rfl)))) aV)
    (ao (aF (av aU (ai (aI K) (pv 0) (av cz (pv 1) (aX (cD K) rfl T.len_ PySem.boot_len (aa (pv 0) ae))) (fun _ _=>rfl)) (av dP af (pv 1))))))),?_⟩
  walk_at "rd"
  refine dn ha ?_
  walk_at "rd"
  rw[Ew]
  by_cases h0:(ns.length:Int)=0
  ·rw[decide_eq_true h0]
   refine aC ?_
   walk_at "rd"
   exact q _
  ·rw[decide_eq_false h0]
   refine aq ?_
   walk_at "rd"
   refine dn ha ?_
   walk_at "rd"
   rw[Ew]
   by_cases h1:k<ns.length
   ·rw[decide_eq_true h1]
    refine aC ?_
    obtain⟨z,hz,_⟩:=xr hk h1
    walk_at "rd"
    refine aH ha hz ?_
    exact q _
   ·rw[decide_eq_false h1]
    refine aq ?_
    walk_at "rd"
    refine dn ha ?_
    rw[Ew]
    have hp:(0:Int)<ns.length:=by omega
    refine rd_I hp ?_
    obtain⟨z,hz,_⟩:=xr (ns:=ns) (Int.emod_nonneg k (by omega)) (Int.emod_lt_of_pos k hp)
    refine aH ha hz ?_
    walk_at "rd"
    exact q _
def rO(K:Eo):Sp:=fun vs H Q _=>∃c k p,vs=[.int c,.int k,.int p]/\0<=k/\k<100000/\0<p/\∀z,0<=z->z<p->Q (.int z) H
abbrev j3:Stmt:=stq 54
theorem xE:FnScope ["_law_cell_here","_law_k","_law_prime","_law_far"] ["_law_cell_here","_law_k","_law_prime"] (aK j3):=⟨rfl,rfl,rfl,by decide +kernel,rfl,by decide +kernel,by decide +kernel⟩
theorem Az{P:Program}{w:World}{K:Eo}{mg:Str->Option Value}{base:Heap}(D:Dfn K mg "_law_mixed" j3 ["_law_cell_here","_law_k","_law_prime"])(T:Blt mg):Cal P w K mg base "_law_mixed" 1 ["_law_cell_here","_law_k","_law_prime"] (rO K):=by
 have nd:=(xE).nd
 refine D.ok xE (fun vs H Q E h=>?_) (fun X hX H vs Q E h=>?_)
 ·obtain⟨c,k,p,rfl,_⟩:=h;rfl
 ·obtain⟨f,cdv,A,outer,s,H0,E0,rfl,hr⟩:=hX
  obtain⟨c,k,p,rfl,hk,hk2,hp,q⟩:=h
  refine⟨_,(aj (aG (i:=3) nd rfl (Or.inl rfl) (av cz (av dP (av aU (av aU (av aU (pv 0) (av dP (av dP af (pv 1)) (pv 1))) (av dP af (pv 1))) af) af) af))
    (aj (aG (i:=3) nd rfl (Or.inl rfl) (av cz (av dP (pv 3) (pv 3)) af))
    (ao (aF (av cz (av dP (pv 3) af) (pv 2)))))),?_⟩
  walk_at "rd"
  exact q _ (Int.emod_nonneg _ (by omega)) (Int.emod_lt_of_pos _ hp)
theorem cx{H H2:Hp}{q:Addr}{o:HO}(e:Ext H H2)(hq:H q=none):Ext H (upd H2 q o):=fun b u hb=>by
 rw[az (bX hb hq)]
 exact e b u hb
def fM(K:Eo):Sp:=fun vs H Q _=>∃(c:Int) (w:Addr) (ws:List Int) (p:Int),vs=[.int c,.ref w,.int p]/\H w=some (.lst (ws.map V.int))/\(∀x∈ws,0<x/\x<2 ^ 40)/\ws.length<=10000/\0<p ∧
 ∀(q:Addr) (ds:List Int) (H':Hp),Ext H H'->H' q=some (.lst (ds.map V.int))->H q=none->ds.length=ws.length->(∀(i:Nat) d x,ds[i]?=some d->ws[i]?=some x->0<=d/\d<x)->Q (.ref q) H'
theorem jJ{K:Eo}{H:Hp}{c:Int}{w:Addr}{p:Int}{Q:VK}{xe:XK}(ws:List Int)(h1:H w=some (.lst (ws.map V.int)))(h2:∀x∈ws,0<x/\x<2 ^ 40)(h3:ws.length<=10000)(h4:0<p)
  (k:∀(q:Addr) (ds:List Int) (H':Hp),Ext H H'->H' q=some (.lst (ds.map V.int))->H q=none->ds.length=ws.length->(∀(i:Nat) d x,ds[i]?=some d->ws[i]?=some x->0<=d/\d<x)->Q (.ref q) H'):fM K [.int c,.ref w,.int p] H Q xe:=⟨c,w,ws,p,rfl,h1,h2,h3,h4,k⟩
abbrev kq:Stmt:=stq 55
theorem wR:FnScope ["_law_cell_here","_law_widths","_law_prime","_law_left","_law_found","_law_k"] ["_law_cell_here","_law_widths","_law_prime"] (aK kq):=⟨rfl,rfl,rfl,by decide +kernel,rfl,by decide +kernel,by decide +kernel⟩
theorem DQ{P:Program}{w:World}{K:Eo}{mg:Str->Option Value}{base:Heap}(D:Dfn K mg "_law_draws" kq ["_law_cell_here","_law_widths","_law_prime"])(T:Blt mg)(C__law_mixed:Cal P w K mg base "_law_mixed" 1 ["_law_cell_here","_law_k","_law_prime"] (rO K)):Cal P w K mg base "_law_draws" 2 ["_law_cell_here","_law_widths","_law_prime"] (fM K):=by
 have nd:=(wR).nd
 refine D.ok wR (fun vs H Q E h=>?_) (fun X hX H vs Q E h=>?_)
 ·obtain⟨c,w,ws,p,rfl,_⟩:=h;rfl
 ·obtain⟨f,cdv,A,outer,s,H0,E0,rfl,hr⟩:=hX
  obtain⟨c,w,ws,p,rfl,hw,hpos,hlen,hp,q⟩:=h
  refine⟨_,(aj (aG (i:=3) nd rfl (Or.inl rfl) af)
    (aj (cL (aT wQ (pv 0) (av iS af af) (aQ _)) (ao (aG (i:=3) nd rfl (Or.inl rfl) (av cX (pv 0) (av iS af af)))) aV)
    (aj (aG (i:=4) nd rfl (Or.inl rfl) (bz ae))
    (aj (bL PassesOwn.never rfl (cI rfl T.range_ (aa (aX (cD K) rfl T.len_ PySem.boot_len (aa (pv 1) ae)) ae)) (aJ (i:=5) nd rfl (Or.inl rfl)) (ao (cL (aT gn (pv 3) af (aQ _)) (aj (bo (bG K ED ES ET bO (pv 4) (aa (av cz (pv 3) (ai (aI K) (pv 1) (pv 5) (fun _ _=>rfl))) ae)))
    (ao (aG (i:=3) nd rfl (Or.inl rfl) (av tW (pv 3) (ai (aI K) (pv 1) (pv 5) (fun _ _=>rfl)))))) (ao (bo (bG K ED ES ET bO (pv 4) (aa (av cz (aD C__law_mixed hr (aa (pv 0) (aa (pv 5) (aa (pv 2) ae)))) (ai (aI K) (pv 1) (pv 5) (fun _ _=>rfl))) ae)))))))
    (ao (aF (pv 4))))))),?_⟩
  walk_at "rd"
  refine gF (fun σ' H'=>H'=H/\∃l,σ'=[some (.int c),some (.ref w),some (.int p),some (.int l),none,none]) ?_ ?_
  ·walk_at "rd"
   refine eX (fun h=>?_) (fun h=>?_)
   ·walk_at "rd"
    exact⟨rfl,_,rfl⟩
   ·walk_at "rd"
    exact⟨rfl,_,rfl⟩
  rintro σ' H' ⟨rfl,l,rfl⟩
  walk_at "rd"
  refine⟨aB (by simp),aE fun f H1 e1 hf hfn=>?_⟩
  walk_at "rd"
  refine dn (ag.of (e1 _ _ hw)) ?_
  rw[Ew]
  walk_at "rd"
  refine cG (by omega) ?_
  refine forR (fun i σ H2=>Ext H' H2/\∃(l:Int) (k:Option V) (ds:List Int),σ=[some (.int c),some (.ref w),some (.int p),some (.int l),some (.ref f),k]/\H2 f=some (.lst (ds.map V.int))/\ds.length=i/\∀(i:Nat) d x,ds[i]?=some d->ws[i]?=some x->0<=d/\d<x)
   ⟨e1,l,none,[],rfl,hf,rfl,fun i d x hd=>by simp at hd⟩ ?_ ?_
  ·rintro i σ H2 hi ⟨e2,l,k,ds,rfl,hf2,hds,hb⟩
   rw[EI]at hi
   have hwi:ws[i]?=some ws[i]:=Ex hi
   have hx:=hpos ws[i] (EX hi)
   have hat:bq (ws.map V.int) (0+(i:Int))=some (.int ws[i]):=by
    rw[Int.zero_add]
    exact dJ (by rw[Ey,hwi];rfl)
   have next:∀d,0<=d->d<ws[i]->∀(j:Nat) (d' x:Int),(ds++[d])[j]?=some d'->ws[j]?=some x->0<=d'/\d'<x:=fun d h0 h1 j d' x hj hx'=>by
    rcases Nat.lt_or_ge j ds.length with h | h
    ·rw[EW h]at hj
     exact hb j d' x hj hx'
    ·rw[EV h]at hj
     have hj0:j-ds.length=0:=by
      rcases Nat.eq_zero_or_pos (j-ds.length)with h | h
      ·exact h
      ·rw[List.getElem?_eq_none (by simp;omega)]at hj;cases hj
     rw[hj0]at hj
     have hji:j=i:=by omega
     subst hji
     rw[hwi]at hx'
     cases hx'
     have:d=d':=by simpa using hj
     rw[←this]
     exact⟨h0,h1⟩
   walk_at "rd"
   refine bZ ?_
   walk_at "rd"
   refine eX (fun h=>?_) (fun h=>?_)
   ·have h':1<l:=by simpa using h
    walk_at "rd"
    refine⟨cS (ag.of hf2),?_⟩
    walk_at "rd"
    refine aH (ag.of (e2 _ _ hw)) hat ?_
    refine rd_I (show 0<ws[i] by omega) ?_
    walk_at "rd"
    refine bN hf2 (by rw[Ew];exact Nat.lt_of_le_of_lt (show ds.length<=10000 by omega) (by decide)) ?_
    walk_at "rd"
    refine aH (ag.of (cx e2 hfn _ _ hw)) hat ?_
    refine rd_I (show 0<ws[i]/\ws[i]<2 ^ 64 by omega) ?_
    walk_at "rd"
    refine⟨cx e2 hfn,_,_,ds++[l % ws[i]],rfl,?_,by rw[EN,hds];rfl,next _ (Int.emod_nonneg _ (by omega)) (Int.emod_lt_of_pos _ (by omega))⟩
    rw[aL,EM]
    rfl
   ·walk_at "rd"
    refine⟨cS (ag.of hf2),?_⟩
    walk_at "rd"
    refine⟨c,0+(i:Int),p,rfl,by omega,by omega,hp,fun z hz0 hz1=>?_⟩
    walk_at "rd"
    refine aH (ag.of (e2 _ _ hw)) hat ?_
    refine rd_I (show 0<ws[i] by omega) ?_
    walk_at "rd"
    refine bN hf2 (by rw[Ew];exact Nat.lt_of_le_of_lt (show ds.length<=10000 by omega) (by decide)) ?_
    walk_at "rd"
    refine⟨cx e2 hfn,_,_,ds++[z % ws[i]],rfl,?_,by rw[EN,hds];rfl,next _ (Int.emod_nonneg _ (by omega)) (Int.emod_lt_of_pos _ (by omega))⟩
    rw[aL,EM]
    rfl
  ·rintro σ H2 ⟨e2,l,k,ds,rfl,hf2,hds,hb⟩
   walk_at "rd"
   exact q f ds H2 e2 hf2 hfn (by rw[hds,EI]) hb
def wW(K:Eo):Sp:=fun vs H Q _=>∃c w,vs=[.int c,.int w]/\0<w/\w<2 ^ 64/\∀z,Q (.int z) H
abbrev kz:Stmt:=stq 56
theorem sT:FnScope ["_law_cell_here","_law_width"] ["_law_cell_here","_law_width"] (aK kz):=⟨rfl,rfl,rfl,by decide +kernel,rfl,by decide +kernel,by decide +kernel⟩
theorem DY{P:Program}{w:World}{K:Eo}{mg:Str->Option Value}{base:Heap}(D:Dfn K mg "_law_spare" kz ["_law_cell_here","_law_width"])(T:Blt mg):Cal P w K mg base "_law_spare" 1 ["_law_cell_here","_law_width"] (wW K):=by
 have nd:=(sT).nd
 refine D.ok sT (fun vs H Q E h=>?_) (fun X hX H vs Q E h=>?_)
 ·obtain⟨c,w,rfl,_⟩:=h;rfl
 ·obtain⟨f,cdv,A,outer,s,H0,E0,rfl,hr⟩:=hX
  obtain⟨c,w,rfl,h1,h2,q⟩:=h
  refine⟨_,(aj (bC (aT wQ (pv 0) (av iS af af) (aQ _)) (ao (aF (av aU (av tW (av cX (pv 0) (av iS af af)) (pv 1)) (av iS af af)))) aV)
    (ao (aF (av aU (pv 0) af)))),?_⟩
  walk_at "rd"
  refine eX (fun h=>?_) (fun h=>?_)
  ·walk_at "rd"
   exact q _
  ·walk_at "rd"
   exact q _
def vi:List V->List Key
 | [.int a,.str b,.int c,.str d]=>[.inl a,.inr b,.inl c,.inr d]
 | _=>[]
def fE(H:Hp):V->List Key
 | .ref p=>match H p with
  | some (.tup xs)=>vi xs
  | _=>[]
 | _=>[]
theorem ub{H:Hp}{p:Addr}{xs:List V}(h:H p=some (.tup xs)):fE H (.ref p)=vi xs:=by
 unfold fE
 dsimp only
 rw[h]
theorem Ed{H:Hp}{m:Int}{v:V}(h:ck H m v=true):∃p a b c d,v=.ref p/\H p=some (.tup [.int a,.str b,.int c,.str d])/\(0<=a/\a<m)/\(0<=c/\c<m)/\ir (.str b)=true/\ic (.str d)=true:=by
 cases ht:isTup H v with
 | false=>rw[tX ht]at h;cases h
 | true=>
  obtain⟨p,xs,rfl,hp⟩:=kF ht
  rw[mj hp]at h
  by_cases h4:xs.length=4
  ·obtain⟨a,b,c,d,rfl⟩:=four h4
   unfold gj at h
   simp only[E9]at h
   obtain⟨h1,h2,h3,h5⟩:=h
   cases a with
   | int i=>
    cases c with
    | int j=>
     cases b with
     | str y=>
      cases d with
      | str z=>
       unfold eQ at h1 h2
       simp only[E9,decide_eq_true_eq]at h1 h2
       exact⟨p,i,y,j,z,rfl,hp,h1,h2,h3,h5⟩
      | _=>cases h5
     | _=>cases h3
    | _=>cases h2
   | _=>cases h1
  ·rw[vY h4]at h
   cases h
theorem p7{H:Hp}{m:Int}:∀{xs:List V},xs.all (ck H m)=true->∃bs:List Addr,xs=bs.map V.ref/\iG H bs (xs.map (fE H))
 | [],_=>⟨[],rfl,rfl,fun j b k e=>by simp at e⟩
 | x::xs,h=>by
  rw[List.all_cons,E9]at h
  obtain⟨bs,e,h1,h2⟩:=p7 h.2
  obtain⟨p,a,b,c,d,rfl,hp,_⟩:=Ed h.1
  refine⟨p::bs,by rw[List.map_cons,←e],by rw[EY,List.map_cons,EY,h1],fun j b' k e1 e2=>?_⟩
  cases j with
  | zero=>
   cases e1
   rw[List.map_cons,ub hp]at e2
   cases e2
   exact hp
  | succ j=>exact h2 j b' k e1 e2
theorem yj{H H':Hp}{m:Int}{n:Nat}{v:V}(e:Ext H H')(h:bQ H n v):ck H' m v=ck H m v:=by
 cases v with
 | ref p=>
  cases n with
  | zero=>exact h.elim
  | succ n=>
   obtain⟨xs,h1,_⟩:=h
   unfold ck
   dsimp only
   rcases h1 with h1 | h1<;>rw[h1,e _ _ h1]
 | _=>rfl
def jM(H:Hp)(m:Int)(xs:List V):Bool:=decide (xs.length<=100) && (xs.all (ck H m) && decide (xs.map (fE H)).Nodup)
def ip(H:Hp)(m:Int):V->Bool
 | .ref p=>match H p with
  | some (.tup xs)=>jM H m xs
  | _=>false
 | _=>false
theorem xR{H:Hp}{m:Int}{v:V}(h:isTup H v=false):ip H m v=false:=by
 cases v with
 | ref p=>
  unfold isTup at h
  unfold ip
  dsimp only at h ⊢
  split
  ·rename_i xs e
   rw[e]at h
   cases h
  ·rfl
 | _=>rfl
theorem tT{H:Hp}{m:Int}{p:Addr}{xs:List V}(h:H p=some (.tup xs)):ip H m (.ref p)=jM H m xs:=by
 unfold ip
 dsimp only
 rw[h]
open Classical in
theorem kL{α:Type}:∀{D l:List α},D.Nodup->(∀k∈D,k∈l)->D.length<=l.length
 | [],l,_,_=>Nat.zero_le _
 | d::D,l,hn,hs=>by
  have hn':=List.nodup_cons.mp hn
  have hm:=hs d EC
  have:=kL (D:=D) (l:=l.erase d) hn'.2 fun k hk=>(List.mem_erase_of_ne (by rintro rfl;exact hn'.1 hk)).mpr (hs k (Ez _ hk))
  rw[List.length_erase_of_mem hm]at this
  have h0:0<l.length:=List.length_pos_of_mem hm
  rw[EY]
  omega
theorem nodup_iff{α:Type}{D l:List α}(hn:D.Nodup)(hm:∀k,k∈D↔k∈l):D.length=l.length↔l.Nodup:=by
 constructor
 ·intro e
  exact(sk hn (fun k hk=>(hm k).mp hk) e.symm).nodup_iff.mpr hn
 ·intro hl
  have h1:=kL hn fun k hk=>(hm k).mp hk
  have h2:=kL hl fun k hk=>(hm k).mpr hk
  omega
def vA(K:Eo):Sp:=fun vs H Q _=>∃v m,vs=[v,.int m]/\bQ H 3 v/\∀H',Ext H H'->Q (.bl (ip H m v)) H'
abbrev kf:Stmt:=stq 19
theorem vq:FnScope ["thing","many"] ["thing","many"] (aK kf):=⟨rfl,rfl,rfl,by decide +kernel,rfl,by decide +kernel,by decide +kernel⟩
theorem zZ{P:Program}{w:World}{K:Eo}{mg:Str->Option Value}{base:Heap}(D:Dfn K mg "are_ways" kf ["thing","many"])(T:Blt mg)(g_GREATEST_WAYS:∃t,mg "GREATEST_WAYS" = some (.int 100 t))(C_is_way:Cal P w K mg base "is_way" 3 ["thing","many"] (xf K)):Cal P w K mg base "are_ways" 4 ["thing","many"] (vA K):=by
 have nd:=(vq).nd
 refine D.ok vq (fun vs H Q E h=>?_) (fun X hX H vs Q E h=>?_)
 ·obtain⟨p,m,rfl,_⟩:=h;rfl
 ·obtain⟨f,cdv,A,outer,s,H0,E0,rfl,hr⟩:=hX
  obtain⟨t_GREATEST_WAYS,c_GREATEST_WAYS⟩:=g_GREATEST_WAYS
  obtain⟨v,m,rfl,ht,q⟩:=h
  obtain⟨n,hk⟩:=ht.kind
  refine⟨_,(aj (bC (PW.pt (cM (bT (bw (aX dv rfl T.isinstance_ PyProof.Rows.boot_isinstance (aa (pv 0) (aa (dC (v:=.ty "tuple") rfl T.tuple_ PyProof.Rows.boot_tuple rfl) ae))))) (dh (aT gn (aX (cD K) rfl T.len_ PySem.boot_len (aa (pv 0) ae)) (nV (v:=.int 100) rfl c_GREATEST_WAYS ⟨_,rfl⟩) (aQ _))))) (ao (aF bI)) aV)
    (ao (aF (eo (aX (hJ K rfl) rfl T.all_ PyProof.Rows.boot_all (aa (cO ["way"] [1] (ib K (pv 0)) (fun _=>(aJ (i:=0) (show(["way","many"]:List Str).Nodup from by decide +kernel) rfl (Or.inl rfl) (Or.inr rfl))) (fun _=>dm) (fun _=>(aD C_is_way hr (aa (pv 0) (aa (pv 1) ae))))) ae)) (dX (dF bM (aX Bp rfl T.len_ PySem.boot_len (aa (fu (zU hr) rfl T.set_ PyProof.Rows.boot_set (aa (pv 0) ae)) ae)) (aX (cD K) rfl T.len_ PySem.boot_len (aa (pv 0) ae)) (aQ _))))))),?_⟩
  walk_at "rd"
  refine dw hk (oU hk) ?_
  walk_at "rd"
  cases hv:isTup H v with
  | false=>
   refine aC ?_
   walk_at "rd"
   rw[xR hv]at q
   exact q H fun _ _ z=>z
  | true=>
   refine aq ?_
   obtain⟨p,xs,rfl,hp⟩:=kF hv
   obtain⟨hx1,hx2⟩:=ht.items hp
   rw[tT hp]at q
   unfold jM at q
   walk_at "rd"
   refine iN (ah.of hp) ?_
   walk_at "rd"
   by_cases h4:xs.length<=100
   ·rw[decide_eq_false (show ¬((100:Int)<((xs.length:Nat):Int)) by omega)]
    rw[decide_eq_true h4,Bool.true_and]at q
    refine aq ?_
    walk_at "rd"
    refine gR (ah.of hp) ?_
    refine kY (xs:=xs) (fun i ys H'=>Ext H H'/\ys=((xs.take i).map (ck H m)).map V.bl) (g8 hx1) ⟨fun _ _ z=>z,rfl⟩ (fun i ys H' hi h=>⟨ah.of (h.1 _ _ hp),by rw[h.2,Ew,Ew,List.length_take];omega⟩) ?_ ?_
    ·rintro i x ys H' hx ⟨e,rfl⟩
     have hxt:=hx2 x (EF hx)
     walk_at "rd"
     refine aC ?_
     walk_at "rd"
     refine⟨x,m,rfl,hxt.ext e,e,?_⟩
     rw[yj e hxt,List.take_add_one,hx]
     simp
    ·rintro ys H' pl ⟨e,rfl⟩ hpl
     rw[EZ]
     walk_at "rd"
     have eN:Ext H (upd H' pl (.lst ((xs.map (ck H m)).map V.bl))):=e.trans (bx hpl)
     refine⟨pl,xs.map (ck H m),rfl,ag.of aL,?_⟩
     have ea:(xs.map (ck H m)).all id=xs.all (ck H m):=by
      rw[List.all_map]
      rfl
     rw[ea]
     walk_at "rd"
     cases hall:xs.all (ck H m)with
     | false=>
      refine aq ?_
      rw[hall,Bool.false_and]at q
      exact q _ eN
     | true=>
      refine aC ?_
      rw[hall,Bool.true_and]at q
      obtain⟨bs,ebs,hka⟩:=p7 hall
      generalize upd H' pl (.lst ((xs.map (ck H m)).map V.bl))=H2 at eN ⊢
      walk_at "rd"
      refine⟨p,bs,xs.map (fE H),rfl,.inl (by rw[←ebs];exact eN _ _ hp),hka.ext eN,by rw[Ew];omega,fun l L hl hnd hmem hL=>?_⟩
      have hll:L.length<=xs.length:=by
       have:=kL hnd fun k hk=>(hmem k).mp hk
       rwa [Ew,Ew]at this
      walk_at "rd"
      refine⟨l,L,rfl,aL,by omega,?_⟩
      walk_at "rd"
      have eL:Ext H (upd H2 l (jR P w l L)):=eN.trans (bx hl)
      refine iN (ah.of (eL _ _ hp)) ?_
      walk_at "rd"
      have hiff:=nodup_iff hnd hmem
      rw[Ew,Ew]at hiff
      have eb:decide ((((L.length:Nat):Int))=((xs.length:Nat):Int))=decide ((xs.map (fE H)).Nodup):=by
       by_cases hq:(xs.map (fE H)).Nodup
       ·rw[decide_eq_true (show((L.length:Nat):Int)=((xs.length:Nat):Int) by have:=hiff.mpr hq;omega)]
        exact(decide_eq_true hq).symm
       ·rw[decide_eq_false (show ¬((L.length:Nat):Int)=((xs.length:Nat):Int)from fun z=>hq (hiff.mp (by omega)))]
        exact(decide_eq_false hq).symm
      rw[eb]
      exact q _ eL
   ·rw[decide_eq_true (show((100:Int)<((xs.length:Nat):Int)) by omega)]
    rw[decide_eq_false h4,Bool.false_and]at q
    refine aC ?_
    walk_at "rd"
    exact q H fun _ _ z=>z
def gg(H:Hp):List V->Bool
 | [.int m,q]=>decide (1<=m) && (decide (m<=12) && ip H m q)
 | _=>false
def gG(H:Hp):V->Bool
 | .ref p=>match H p with
  | some (.tup xs)=>gg H xs
  | _=>false
 | _=>false
theorem yK{H:Hp}{v:V}(h:isTup H v=false):gG H v=false:=by
 cases v with
 | ref p=>
  unfold isTup at h
  unfold gG
  dsimp only at h ⊢
  split
  ·rename_i xs e
   rw[e]at h
   cases h
  ·rfl
 | _=>rfl
theorem tV{H:Hp}{p:Addr}{xs:List V}(h:H p=some (.tup xs)):gG H (.ref p)=gg H xs:=by
 unfold gG
 dsimp only
 rw[h]
theorem y4{H:Hp}{xs:List V}(h:xs.length≠2):gg H xs=false:=by
 unfold gg
 split
 ·exact absurd rfl h
 ·rfl
theorem BZ{H:Hp}{a b:V}(h:isInt a=false):gg H [a,b]=false:=by
 cases a<;>first | rfl | cases h
theorem Ck{xs:List V}(h:xs.length=2):∃a b,xs=[a,b]:=by
 match xs,h with
 | [a,b],_=>exact⟨a,b,rfl⟩
def pF(K:Eo):Sp:=fun vs H Q _=>∃v,vs=[v]/\bQ H 4 v/\∀H',Ext H H'->Q (.bl (gG H v)) H'
abbrev jy:Stmt:=stq 20
theorem rQ:FnScope ["thing"] ["thing"] (aK jy):=⟨rfl,rfl,rfl,by decide +kernel,rfl,by decide +kernel,by decide +kernel⟩
theorem Dw{P:Program}{w:World}{K:Eo}{mg:Str->Option Value}{base:Heap}(D:Dfn K mg "is_house" jy ["thing"])(T:Blt mg)(g_GREATEST_MANY:∃t,mg "GREATEST_MANY" = some (.int 12 t))(C_are_ways:Cal P w K mg base "are_ways" 4 ["thing","many"] (vA K))(C_is_whole:Cal P w K mg base "is_whole" 1 ["thing"] (mx K)):Cal P w K mg base "is_house" 5 ["thing"] (pF K):=by
 have nd:=(rQ).nd
 refine D.ok rQ (fun vs H Q E h=>?_) (fun X hX H vs Q E h=>?_)
 ·obtain⟨p,rfl,_⟩:=h;rfl
 ·obtain⟨f,cdv,A,outer,s,H0,E0,rfl,hr⟩:=hX
  obtain⟨t_GREATEST_MANY,c_GREATEST_MANY⟩:=g_GREATEST_MANY
  obtain⟨v,rfl,ht,q⟩:=h
  obtain⟨n,hk⟩:=ht.kind
  refine⟨_,(aj (bC (PW.pt (cM (bT (bw (aX dv rfl T.isinstance_ PyProof.Rows.boot_isinstance (aa (pv 0) (aa (dC (v:=.ty "tuple") rfl T.tuple_ PyProof.Rows.boot_tuple rfl) ae))))) (dh (aT fL (aX (cD K) rfl T.len_ PySem.boot_len (aa (pv 0) ae)) af (aQ _))))) (ao (aF bI)) aV)
    (ao (aF (eo (aD C_is_whole hr (aa (ai (aA K) (pv 0) af (fun _ _=>rfl)) ae)) (eo (lh gZ gZ af (ai (aA K) (pv 0) af (fun _ _=>rfl)) (nV (v:=.int 12) rfl c_GREATEST_MANY ⟨_,rfl⟩)) (dX (aD C_are_ways hr (aa (ai (aA K) (pv 0) af (fun _ _=>rfl)) (aa (ai (aA K) (pv 0) af (fun _ _=>rfl)) ae))))))))),?_⟩
  walk_at "rd"
  refine dw hk (oU hk) ?_
  walk_at "rd"
  cases hv:isTup H v with
  | false=>
   refine aC ?_
   walk_at "rd"
   rw[yK hv]at q
   exact q H fun _ _ z=>z
  | true=>
   refine aq ?_
   obtain⟨p,xs,rfl,hp⟩:=kF hv
   obtain⟨hx1,hx2⟩:=ht.items hp
   rw[tV hp]at q
   walk_at "rd"
   refine iN (ah.of hp) ?_
   walk_at "rd"
   by_cases h4:xs.length=2
   ·obtain⟨a,b,rfl⟩:=Ck h4
    have ta:=hx2 a (by simp)
    have tb:=hx2 b (by simp)
    obtain⟨ka,hka⟩:=ta.kind
    refine aq ?_
    walk_at "rd"
    refine ay (ah.of hp) (v:=a) rfl ?_
    walk_at "rd"
    refine⟨a,ka,rfl,hka,?_⟩
    refine rd_exb ?_
    cases ha:isInt a with
    | false=>
     refine aq ?_
     rw[BZ ha]at q
     exact q H fun _ _ z=>z
    | true=>
     obtain⟨m,rfl⟩:=qg ha
     refine aC ?_
     unfold gg at q
     dsimp only at q
     walk_at "rd"
     refine ay (ah.of hp) (v:=.int m) rfl ?_
     walk_at "rd"
     cases h1:decide (1<=m)with
     | false=>
      refine aq ?_
      walk_at "rd"
      refine aq ?_
      rw[h1]at q
      exact q H fun _ _ z=>z
     | true=>
      refine aC ?_
      walk_at "rd"
      rw[h1,Bool.true_and]at q
      cases h2:decide (m<=12)with
      | false=>
       refine aq ?_
       rw[h2]at q
       exact q H fun _ _ z=>z
      | true=>
       refine aC ?_
       walk_at "rd"
       refine ay (ah.of hp) (v:=b) rfl ?_
       walk_at "rd"
       refine ay (ah.of hp) (v:=.int m) rfl ?_
       walk_at "rd"
       rw[h2,Bool.true_and]at q
       exact⟨b,m,rfl,tb,q⟩
   ·rw[y4 h4]at q
    rw[decide_eq_false (show ¬((xs.length:Nat):Int)=2 by omega)]
    refine aC ?_
    walk_at "rd"
    exact q H fun _ _ z=>z
def cn(H:Hp)(p:Addr)(kk:List (List Key)):Prop:=∃bs:List Addr,H p=some (.tup (bs.map V.ref))/\bs.length=kk.length/\∀(j:Nat) (b:Addr) (k:List Key),bs[j]?=some b->kk[j]?=some k->H b=some (.tup (k.map kV))
theorem cn.ext{H H':Hp}{p:Addr}{kk:List (List Key)}(e:Ext H H')(h:cn H p kk):cn H' p kk:=by
 obtain⟨bs,h1,h2,h3⟩:=h
 exact⟨bs,e _ _ h1,h2,fun j b k e1 e2=>e _ _ (h3 j b k e1 e2)⟩
structure Way where
 room:Int
 deed:Str
 other:Int
 sign:Str
 deriving DecidableEq
abbrev Way.key(w:Way):List Key:=[.inl w.room,.inr w.deed,.inl w.other,.inr w.sign]
abbrev Way.vs(w:Way):List V:=[.int w.room,.str w.deed,.int w.other,.str w.sign]
theorem Way.key_inj{w u:Way}(h:w.key=u.key):w=u:=by
 cases w;cases u
 simp only[Way.key,List.cons.injEq,Sum.inl.injEq,Sum.inr.injEq]at h
 obtain⟨rfl,rfl,rfl,rfl,_⟩:=h
 rfl
def qD(z:Str):Prop:=∃c:Nat,97<=c/\c<=122/\z=⟨#[c]⟩
def bR(z:Str):Prop:=z = "up"\/z = "down"\/z = "stay"\/z = "zero"
structure Way.Ok(m:Int)(w:Way):Prop where
 r0:0<=w.room
 r1:w.room<m
 o0:0<=w.other
 o1:w.other<m
 dd:bR w.deed
 sg:qD w.sign
structure HOuse(m:Int)(ws:List Way):Prop where
 m1:1<=m
 m12:m<=12
 few:ws.length<=100
 ok:∀w∈ws,w.Ok m
 nd:ws.Nodup
def bf(H:Hp)(v:V)(m:Int)(ws:List Way):Prop:=∃p q,v=.ref p/\H p=some (.tup [.int m,.ref q])/\cn H q (ws.map Way.key)
theorem bf.ext{H H':Hp}{v:V}{m:Int}{ws:List Way}(e:Ext H H')(h:bf H v m ws):bf H' v m ws:=by
 obtain⟨p,q,rfl,h1,h2⟩:=h
 exact⟨p,q,rfl,e _ _ h1,h2.ext e⟩
theorem cn.item{H:Hp}{ws:List Way}{bs:List Addr}(h:∀(j:Nat) (b:Addr) (k:List Key),bs[j]?=some b->(ws.map Way.key)[j]?=some k->H b=some (.tup (k.map kV))){j:Nat}{b:Addr}{w:Way}(e1:bs[j]?=some b)(e2:ws[j]?=some w):H b=some (.tup w.vs):=
 h j b w.key e1 (by rw[Ey,e2];rfl)
def aP(H:Hp)(bs:List Addr)(ws:List Way):Prop:=bs.length=ws.length/\∀(j:Nat) (b:Addr) (w:Way),bs[j]?=some b->ws[j]?=some w->H b=some (.tup w.vs)
theorem aP.ext{H H':Hp}{bs:List Addr}{ws:List Way}(e:Ext H H')(h:aP H bs ws):aP H' bs ws:=⟨h.1,fun j b w e1 e2=>e _ _ (h.2 j b w e1 e2)⟩
theorem aP.put{H:Hp}{f:Addr}{xs ys:List V}{bs:List Addr}{ws:List Way}(hf:H f=some (.lst xs))(h:aP H bs ws):aP (upd H f (.lst ys)) bs ws:=⟨h.1,fun j b w e1 e2=>by
 have:=h.2 j b w e1 e2
 rw[az (cK this hf (by intro z;cases z))]
 exact this⟩
theorem aP.nil(H:Hp):aP H [] []:=⟨rfl,fun j b w e=>by simp at e⟩
theorem aP.snoc{H:Hp}{bs:List Addr}{ws:List Way}{b:Addr}{w:Way}(h:aP H bs ws)(hb:H b=some (.tup w.vs)):aP H (bs++[b]) (ws++[w]):=by
 refine⟨by simp[h.1],fun j b' w' e1 e2=>?_⟩
 rcases Nat.lt_or_ge j bs.length with hj | hj
 ·rw[EW hj]at e1
  rw[EW (by rw[←h.1];exact hj)]at e2
  exact h.2 j b' w' e1 e2
 ·rw[EV hj]at e1
  rw[EV (by rw[←h.1];exact hj),←h.1]at e2
  cases hk:j-bs.length with
  | zero=>
   rw[hk]at e1 e2
   cases e1;cases e2
   exact hb
  | succ k=>rw[hk]at e1;simp at e1
theorem aP.ways{H:Hp}{p:Addr}{bs:List Addr}{ws:List Way}(h:aP H bs ws)(hp:H p=some (.tup (bs.map V.ref))):cn H p (ws.map Way.key):=
 ⟨bs,hp,by rw[Ew];exact h.1,fun j b k e1 e2=>by
  rw[Ey]at e2
  obtain⟨w,hw,rfl⟩:=EH.mp e2
  exact h.2 j b w e1 hw⟩
theorem cn.al{H:Hp}{p:Addr}{ws:List Way}(h:cn H p (ws.map Way.key)):∃bs:List Addr,H p=some (.tup (bs.map V.ref))/\aP H bs ws:=by
 obtain⟨bs,h1,h2,h3⟩:=h
 rw[Ew]at h2
 exact⟨bs,h1,h2,fun j b w e1 e2=>cn.item h3 e1 e2⟩
abbrev Way.D(w:Way):PyData:=.tuple [.int w.room,.str w.deed,.int w.other,.str w.sign]
structure Way.Lay(w:Way):Prop where
 d:(PyData.str w.deed).canLay0=true
 s:(PyData.str w.sign).canLay0=true
theorem yr:∀c:Fin 123,97<=c.1->(PyData.str ⟨#[c.1]⟩).canLay0=true:=by decide +kernel
theorem Way.Ok.lay{m:Int}{w:Way}(h:w.Ok m):w.Lay:=by
 constructor
 ·rcases h.dd with e | e | e | e<;>rw[e]<;>decide +kernel
 ·obtain⟨c,h1,h2,e⟩:=h.sg
  rw[e]
  exact yr ⟨c,Nat.lt_succ_of_le h2⟩ h1
theorem Way.rep{H:Hp}{b:Addr}{w:Way}(h:H b=some (.tup w.vs))(l:w.Lay):aW H 1 (.ref b) w.D:=
 .inr ⟨b,w.vs,_,rfl,.inl ⟨h,rfl⟩,.cons rfl (.cons ⟨rfl,l.d⟩ (.cons rfl (.cons ⟨rfl,l.s⟩ .nil)))⟩
theorem Way.eqv(w u:Way):PyData.eqv w.D u.D=decide (w=u):=by
 simp only[PyData.eqv,PyData.eqvAll]
 by_cases h:w=u
 ·subst h;simp
 ·rw[decide_eq_false h]
  obtain⟨a,b,c,d⟩:=w
  obtain⟨a',b',c',d'⟩:=u
  simp only[Way.mk.injEq,not_and]at h
  simp only[Bool.and_true,Bool.and_eq_false_iff,beq_eq_false_iff_ne]
  by_cases h1:a=a'
  ·by_cases h2:b=b'
   ·by_cases h3:c=c'
    ·exact .inr (.inr (.inr (h h1 h2 h3)))
    ·exact .inr (.inr (.inl h3))
   ·exact .inr (.inl h2)
  ·exact .inl h1
theorem aP.reps{H:Hp}:∀{bs:List Addr} {ws:List Way},aP H bs ws->(∀w∈ws,w.Lay)->Paired (aW H 1) (bs.map V.ref) (ws.map Way.D)
 | [],[],_,_=>.nil
 | [],_::_,h,_=>by cases h.1
 | _::_,[],h,_=>by cases h.1
 | b::bs,w::ws,h,l=>.cons (Way.rep (h.2 0 b w rfl rfl) (l w EC)) (aP.reps ⟨Nat.succ.inj h.1,fun j b w e1 e2=>h.2 (j+1) b w e1 e2⟩ fun u hu=>l u (Ez _ hu))
theorem CG(ws:List Way)(w:Way):((ws.map Way.D).any fun e=>PyData.eqv e w.D)=decide (w∈ws):=by
 rw[List.any_map]
 induction ws with
 | nil=>rfl
 | cons u ws ih=>
  rw[List.any_cons,ih,Function.comp_apply,Way.eqv]
  by_cases h:w∈ws
  ·simp[h]
  ·by_cases e:u=w
   ·simp[e]
   ·have:¬w=u:=fun z=>e z.symm
    simp[h,e,this]
def pj(K:Eo):Sp:=fun vs H Q _=>∃l bs ws,vs=[.ref l]/\H l=some (.lst (bs.map V.ref))/\aP H bs ws/\(∀w∈ws,Way.Lay w)/\ws.length<=200 ∧
 ∀q H' us,Ext H H'->cn H' q (List.map Way.key us)->us.Nodup->(∀u∈us,u∈ws)->us.length<=ws.length->Q (.ref q) H'
abbrev ly:Stmt:=stq 58
theorem qR:FnScope ["_law_ways","_law_found","_law_way"] ["_law_ways"] (aK ly):=⟨rfl,rfl,rfl,by decide +kernel,rfl,by decide +kernel,by decide +kernel⟩
theorem zc{P:Program}{w:World}{K:Eo}{mg:Str->Option Value}{base:Heap}(D:Dfn K mg "_law_unlike" ly ["_law_ways"])(T:Blt mg):Cal P w K mg base "_law_unlike" 1 ["_law_ways"] (pj K):=by
 have nd:=(qR).nd
 refine D.ok qR (fun vs H Q E h=>?_) (fun X hX H vs Q E h=>?_)
 ·obtain⟨l,bs,ws,rfl,_⟩:=h;rfl
 ·obtain⟨f,cdv,A,outer,s,H0,E0,rfl,hr⟩:=hX
  obtain⟨l,bs,ws,rfl,hl,al,lay,hlen,q⟩:=h
  refine⟨_,(aj (aG (i:=1) nd rfl (Or.inl rfl) (bz ae))
    (aj (bL PassesOwn.never rfl (cw K (pv 0)) (aJ (i:=2) nd rfl (Or.inl rfl)) (ao (cL (aT (uj hr) (pv 2) (pv 1) (by with_unfolding_all rfl)) (ao (bo (bG K ED ES ET bO (pv 1) (aa (pv 2) ae)))) aV)))
    (ao (aF (fu (kx K) rfl T.tuple_ PyProof.Rows.boot_tuple (aa (pv 1) ae)))))),?_⟩
  walk_at "rd"
  refine⟨aB (by simp),aE fun f H1 e1 hf hfn=>?_⟩
  walk_at "rd"
  refine cj (ag.of (e1 _ _ hl)) ?_
  refine forL (xs:=bs.map V.ref) (fun i σ H2=>Ext H H2/\∃(k:Option V) (cs:List Addr) (us:List Way),σ=[some (.ref l),some (.ref f),k]/\H2 f=some (.lst (cs.map V.ref))/\aP H2 cs us/\us.Nodup/\(∀u∈us,u∈ws)/\us.length<=i)
   ⟨e1,none,[],[],rfl,hf,aP.nil _,List.nodup_nil,fun u hu=>by simp at hu,ER _⟩ (fun i σ H2 _ h=>ag.of (h.1 _ _ hl)) ?_ ?_
  ·rintro i x σ H2 hx ⟨e2,k,cs,us,rfl,hf2,al2,nd2,sub2,len2⟩
   rw[Ey]at hx
   obtain⟨b,hb,rfl⟩:=EH.mp hx
   have hi:i<ws.length:=by
    rw[←al.1]
    exact(EE.mp hb).1
   have hwi:ws[i]?=some ws[i]:=Ex hi
   have hbw:=e2 _ _ (al.2 i b _ hb hwi)
   walk_at "rd"
   refine bZ ?_
   walk_at "rd"
   refine rf (Way.rep hbw (lay _ (EX hi))) hf2 (al2.reps fun u hu=>lay u (sub2 u hu)) (by decide) ?_
   simp only[if_true,CG]
   refine rd_exb ?_
   by_cases hm:ws[i]∈us
   ·rw[decide_eq_true hm]
    refine aq ?_
    walk_at "rd"
    exact⟨e2,_,cs,us,rfl,hf2,al2,nd2,sub2,by omega⟩
   ·rw[decide_eq_false hm]
    refine aC ?_
    walk_at "rd"
    refine⟨cS (ag.of hf2),?_⟩
    walk_at "rd"
    refine bN hf2 (by rw[Ew,al2.1];exact Nat.lt_of_le_of_lt (show us.length<=1000 by omega) (by decide)) ?_
    walk_at "rd"
    refine⟨cx e2 hfn,_,cs++[b],us++[ws[i]],rfl,by rw[aL,EM];rfl,(al2.put hf2).snoc ?_,?_,?_,by simp;omega⟩
    ·rw[az (cK hbw hf2 (by intro z;cases z))]
     exact hbw
    ·rw[List.nodup_append]
     exact⟨nd2,by simp,fun a ha c hc=>by rw[EG.mp hc];exact fun z=>hm (z ▸ ha)⟩
    ·intro u hu
     rcases EU.mp hu with hu | hu
     ·exact sub2 u hu
     ·rw[EG.mp hu];exact EX hi
  ·rintro σ H2 ⟨e2,k,cs,us,rfl,hf2,al2,nd2,sub2,len2⟩
   walk_at "rd"
   refine kH (ag.of hf2) (aE fun p H3 e3 hp _=>?_)
   exact q p H3 us (e2.trans e3) ((al2.ext e3).ways hp) nd2 sub2 (by rw[Ew,al.1]at len2;exact len2)
def ki(z:Str):Prop:=∃c:Nat,97<=c/\c<=99/\z=⟨#[c]⟩
structure Way.Ok3(m:Int)(w:Way):Prop where
 r0:0<=w.room
 r1:w.room<m
 o0:0<=w.other
 o1:w.other<m
 dd:bR w.deed
 sg:ki w.sign
structure HOuse3(m:Int)(ws:List Way):Prop where
 m1:1<=m
 m12:m<=12
 few:ws.length<=100
 ok:∀w∈ws,w.Ok3 m
 nd:ws.Nodup
theorem Way.Ok3.ok{m:Int}{w:Way}(h:w.Ok3 m):w.Ok m:=by
 obtain⟨c,h1,h2,h3⟩:=h.sg
 exact⟨h.r0,h.r1,h.o0,h.o1,h.dd,c,h1,by omega,h3⟩
theorem Way.Ok3.lay{m:Int}{w:Way}(h:w.Ok3 m):w.Lay:=h.ok.lay
theorem HOuse3.house{m:Int}{ws:List Way}(h:HOuse3 m ws):HOuse m ws:=⟨h.m1,h.m12,h.few,fun w hw=>(h.ok w hw).ok,h.nd⟩
theorem DL{ds:List Int}{i:Nat}(h:i+4<=ds.length):∃a b c d,cg (ds.map V.int) (some (i:Int)) (some ((i+4:Nat):Int))=[.int a,.int b,.int c,.int d]/\ds[i]?=some a/\ds[i+1]?=some b/\ds[i+2]?=some c/\ds[i+3]?=some d:=by
 refine⟨ds[i],ds[i+1],ds[i+2],ds[i+3],?_,Ex _,Ex _,Ex _,Ex _⟩
 unfold cg
 rw[HT.rK,HT.rK,Ew,Nat.min_eq_left (by omega),Nat.min_eq_left (by omega),show i+4-i=4 by omega,←List.map_drop,←List.map_take]
 rw[List.drop_eq_getElem_cons (show i<ds.length by omega),List.drop_eq_getElem_cons (show i+1<ds.length by omega),List.drop_eq_getElem_cons (show i+1+1<ds.length by omega),List.drop_eq_getElem_cons (show i+1+1+1<ds.length by omega)]
 rfl
def eO:List Int:=[8,12,13,31]++(List.replicate 30 ([12,6,12,3]:List Int)).flatten
theorem yq{k:Nat}(h:k<30):eO[4+4*k]?=some 12/\eO[4+4*k+1]?=some 6/\eO[4+4*k+2]?=some 12/\eO[4+4*k+3]?=some 3:=by
 have:∀k:Fin 30,eO[4+4*k.val]?=some 12/\eO[4+4*k.val+1]?=some 6/\eO[4+4*k.val+2]?=some 12/\eO[4+4*k.val+3]?=some 3:=by decide +kernel
 exact this ⟨k,h⟩
def uw(K:Eo):Sp:=fun vs H Q _=>∃c p,vs=[.int c,.int p]/\0<p/\∀v m ws H',Ext H H'->bf H' v m ws->HOuse3 m ws->Q v H'
theorem AV{e:Int}(h0:0<=e)(h1:e<6):∃z,bq ([.str "up",.str "down",.str "stay",.str "zero",.str "up",.str "down"]:List V) e=some (.str z)/\bR z:=by
 have:e=0\/e=1\/e=2\/e=3\/e=4\/e=5:=by omega
 rcases this with rfl | rfl | rfl | rfl | rfl | rfl
 ·exact⟨_,rfl,.inl rfl⟩
 ·exact⟨_,rfl,.inr (.inl rfl)⟩
 ·exact⟨_,rfl,.inr (.inr (.inl rfl))⟩
 ·exact⟨_,rfl,.inr (.inr (.inr rfl))⟩
 ·exact⟨_,rfl,.inl rfl⟩
 ·exact⟨_,rfl,.inr (.inl rfl)⟩
theorem CO:(Str.ofString "abc").cps.toList=[97,98,99]:=by decide +kernel
theorem yh{e:Int}(h0:0<=e)(h1:e<3):∃c,bq (Str.ofString "abc").cps.toList e=some c/\97<=c/\c<=99:=by
 rw[CO]
 have:e=0\/e=1\/e=2:=by omega
 rcases this with rfl | rfl | rfl
 ·exact⟨97,rfl,by decide,by decide⟩
 ·exact⟨98,rfl,by decide,by decide⟩
 ·exact⟨99,rfl,by decide,by decide⟩
theorem Cm{e:Int}(h0:0<=e)(h1:e<8):∃w:Int,bq (([4,4,4,5,3,2,5,12]:List Int).map V.int) e=some (.int w)/\1<=w/\w<=12:=by
 have:e=0\/e=1\/e=2\/e=3\/e=4\/e=5\/e=6\/e=7:=by omega
 rcases this with rfl | rfl | rfl | rfl | rfl | rfl | rfl | rfl<;>exact⟨_,rfl,by decide,by decide⟩
theorem bf.mk{H:Hp}{p q:Addr}{m:Int}{ws:List Way}(h1:H p=some (.tup [.int m,.ref q]))(h2:cn H q (ws.map Way.key)):bf H (.ref p) m ws:=⟨p,q,rfl,h1,h2⟩
abbrev lH:Stmt:=stq 60
theorem tu:FnScope ["_law_cell_here","_law_prime","_law_draws_here","_law_many","_law_often","_law_ways","_law_k","_law_room","_law_deed","_law_other","_law_sign","_law_word"] ["_law_cell_here","_law_prime"] (aK lH):=⟨rfl,rfl,rfl,by decide +kernel,rfl,by decide +kernel,by decide +kernel⟩
theorem Eb{P:Program}{w:World}{K:Eo}{mg:Str->Option Value}{base:Heap}(D:Dfn K mg "_law_drawn_house" lH ["_law_cell_here","_law_prime"])(T:Blt mg)(C__law_unlike:Cal P w K mg base "_law_unlike" 1 ["_law_ways"] (pj K))(C__law_draws:Cal P w K mg base "_law_draws" 2 ["_law_cell_here","_law_widths","_law_prime"] (fM K)):Cal P w K mg base "_law_drawn_house" 3 ["_law_cell_here","_law_prime"] (uw K):=by
 have nd:=(tu).nd
 refine D.ok tu (fun vs H Q E h=>?_) (fun X hX H vs Q E h=>?_)
 ·obtain⟨c,p,rfl,_⟩:=h;rfl
 ·obtain⟨f,cdv,A,outer,s,H0,E0,rfl,hr⟩:=hX
  obtain⟨c,p,rfl,hp,q⟩:=h
  refine⟨_,(@aj _ _ _ _ _ (@aG _ _ 2 _ _ _ _ nd rfl (Or.inl rfl) (aD C__law_draws hr (@aa _ _ _ _ _ (pv 0) (@aa _ _ _ _ _ (av mG (@bz _ _ _ _ (i9 (.c (.c (.c (.c .n)))))) (av om (@bz _ _ _ _ (i9 (.c (.c (.c (.c .n)))))) af)) (@aa _ _ _ _ _ (pv 1) ae rfl) rfl) rfl)) rfl (Or.inl rfl))
    (@aj _ _ _ _ _ (@aG _ _ 3 _ _ _ _ nd rfl (Or.inl rfl) (av aU af (av cz (@ai _ _ _ _ _ _ _ (aI K) (pv 2) af (fun _ _=>rfl)) (@ai _ _ _ _ _ _ _ (aI K) (@bz _ _ _ _ (i9 (.c (.c (.c (.c (.c (.c (.c (.c .n)))))))))) (@ai _ _ _ _ _ _ _ (aI K) (pv 2) af (fun _ _=>rfl)) (fun _ _=>rfl)))) rfl (Or.inl rfl))
    (@aj _ _ _ _ _ (@aG _ _ 4 _ _ _ _ nd rfl (Or.inl rfl) (@ai _ _ _ _ _ _ _ (aI K) (pv 2) af (fun _ _=>rfl)) rfl (Or.inl rfl))
    (@aj _ _ _ _ _ (cL (aT bM (@ai _ _ _ _ _ _ _ (aI K) (pv 2) af (fun _ _=>rfl)) af (aQ _)) (@ao _ _ _ (@aG _ _ 4 _ _ _ _ nd rfl (Or.inl rfl) (@ai _ _ _ _ _ _ _ (aI K) (pv 2) af (fun _ _=>rfl)) rfl (Or.inl rfl))) aV)
    (@aj _ _ _ _ _ (@aG _ _ 5 _ _ _ _ nd rfl (Or.inl rfl) (@bz _ _ _ _ ae) rfl (Or.inl rfl))
    (@aj _ _ _ _ _ (bL PassesOwn.never rfl (cI rfl T.range_ (@aa _ _ _ _ _ (pv 4) ae rfl)) (aJ (i:=6) nd rfl (Or.inl rfl)) (@aj _ _ _ _ _ (@gD _ _ _ _ _ _ (g7 (iI K) (pv 2) (fG (av aU af (av dP af (pv 6)))) (fG (av aU af (av dP af (pv 6))))) (Br (n:=4) K rfl (bE (aJ (i:=7) nd rfl (Or.inl rfl)) (bE (aJ (i:=8) nd rfl (Or.inl rfl)) (bE (aJ (i:=9) nd rfl (Or.inl rfl)) (bE (aJ (i:=10) nd rfl (Or.inl rfl)) eA))))) rfl rfl rfl)
    (@aj _ _ _ _ _ (@aG _ _ 11 _ _ _ _ nd rfl (Or.inl rfl) (@ai _ _ _ _ _ _ _ (aI K) (@bz _ _ _ _ (@aa _ _ _ _ _ aS (@aa _ _ _ _ _ aS (@aa _ _ _ _ _ aS (@aa _ _ _ _ _ aS (@aa _ _ _ _ _ aS (@aa _ _ _ _ _ aS ae rfl) rfl) rfl) rfl) rfl) rfl)) (pv 8) (fun _ _=>rfl)) rfl (Or.inl rfl))
    (@ao _ _ _ (bo (bG K ED ES ET bO (pv 5) (@aa _ _ _ _ _ (@bA _ _ _ _ _ (@aa _ _ _ _ _ (av cz (pv 7) (pv 3)) (@aa _ _ _ _ _ (pv 11) (@aa _ _ _ _ _ (av cz (pv 9) (pv 3)) (@aa _ _ _ _ _ (@ai _ _ _ _ _ _ _ t9 aS (pv 10) (fun _ _=>rfl)) ae rfl) rfl) rfl) rfl)) ae rfl)))))))
    (@ao _ _ _ (@aF _ _ _ _ (@bA _ _ _ _ _ (@aa _ _ _ _ _ (pv 3) (@aa _ _ _ _ _ (aD C__law_unlike hr (@aa _ _ _ _ _ (pv 5) ae rfl)) ae rfl) rfl)))))))))),?_⟩
  walk_at "rd"
  refine⟨aB (by simp),aE fun w0 G1 f1 hw0 _=>?_⟩
  walk_at "rd"
  refine⟨aB (by simp),aE fun w1 G2 f2 hw1 _=>?_⟩
  walk_at "rd"
  refine oQ hw1 (by omega) (aB (by decide)) (aE fun w2 G3 f3 hw2 _=>?_)
  walk_at "rd"
  refine nL (f3 _ _ (f2 _ _ hw0)) hw2 (aB (by decide)) (aE fun w3 G4 f4 hw3 _=>?_)
  walk_at "rd"
  refine jJ eO hw3 (by decide +kernel) (by decide +kernel) (hp) fun dq ds H1 e1 hd hdn hl hb=>?_
  have eH:Ext H H1:=f1.trans (f2.trans (f3.trans (f4.trans e1)))
  have hl':ds.length=124:=hl
  have at_:∀(i:Nat) (x:Int),eO[i]?=some x->∃d,ds[i]?=some d/\0<=d/\d<x:=fun i x hx=>by
   have hi:i<ds.length:=by
    rw[hl]
    exact(EE.mp hx).1
   exact⟨ds[i],Ex hi,hb i _ x (Ex hi) hx⟩
  obtain⟨d0,g0,b00,b01⟩:=at_ 0 8 rfl
  obtain⟨d1,g1,b10,b11⟩:=at_ 1 12 rfl
  obtain⟨d2,g2,b20,b21⟩:=at_ 2 13 rfl
  obtain⟨d3,g3,b30,b31⟩:=at_ 3 31 rfl
  have pick:∀{i:Nat} {d:Int},ds[i]?=some d->bq (ds.map V.int) (i:Int)=some (.int d):=fun{i d} h=>dJ (by rw[Ey,h];rfl)
  walk_at "rd"
  refine aH (ag.of hd) (pick (i:=1) g1) ?_
  walk_at "rd"
  refine⟨aB (by simp),aE fun mq H2 e2 hmq _=>?_⟩
  walk_at "rd"
  refine aH (ag.of (e2 _ _ hd)) (pick (i:=0) g0) ?_
  obtain⟨w,hw,hw1',hw2'⟩:=Cm b00 b01
  refine aH (ag.of hmq) hw ?_
  try refine rd_I (show(0:Int)<w by omega) ?_
  walk_at "rd"
  have r0:0<=d1 % w:=Int.emod_nonneg _ (by omega)
  have r1:d1 % w<w:=Int.emod_lt_of_pos _ (by omega)
  obtain⟨m,hm,m1,m2⟩:∃m,1+d1 % w=m/\1<=m/\m<=12:=⟨_,rfl,by omega,by omega⟩
  rw[hm]
  refine aH (ag.of (e2 _ _ hd)) (pick (i:=2) g2) ?_
  walk_at "rd"
  have eH2:Ext H H2:=eH.trans e2
  have hd2:=e2 _ _ hd
  refine gF (fun σ' H'=>H'=H2/\∃o:Nat,o<=30/\σ'=[some (.int c),some (.int p),some (.ref dq),some (.int m),some (.int o),none,none,none,none,none,none,none]) ?_ ?_
  ·walk_at "rd"
   refine aH (ag.of hd2) (pick (i:=0) g0) ?_
   walk_at "rd"
   refine eX (fun h=>?_) (fun h=>?_)
   ·walk_at "rd"
    refine aH (ag.of hd2) (pick (i:=3) g3) ?_
    walk_at "rd"
    exact⟨rfl,d3.toNat,by omega,by rw[EJ b30];rfl⟩
   ·walk_at "rd"
    exact⟨rfl,d2.toNat,by omega,by rw[EJ b20];rfl⟩
  rintro σ' H' ⟨rfl,o,ho,rfl⟩
  clear hw hw1' hw2' r0 r1 b00 b01 b10 b11 b20 b21 b30 b31
  walk_at "rd"
  refine⟨aB (by simp),aE fun f H3 e3 hf hfn=>?_⟩
  walk_at "rd"
  refine cG (by omega) ?_
  refine forR (fun i σ H4=>Ext H' H4/\∃(k1 k2 k3 k4 k5 k6:Option V) (cs:List Addr) (us:List Way),σ=[some (.int c),some (.int p),some (.ref dq),some (.int m),some (.int o),some (.ref f),k1,k2,k3,k4,k5,k6]/\H4 f=some (.lst (cs.map V.ref))/\aP H4 cs us/\(∀u∈us,u.Ok3 m)/\us.length=i)
   ⟨e3,none,none,none,none,none,none,[],[],rfl,hf,aP.nil _,fun u hu=>by simp at hu,rfl⟩ ?_ ?_
  ·rintro i σ H4 hi ⟨e4,k1,k2,k3,k4,k5,k6,cs,us,rfl,hf4,al,ok,len⟩
   rw[EI]at hi
   have hi30:i<30:=by omega
   obtain⟨a,b,c',d,hcut,ga,gb,gc,gd⟩:=DL (ds:=ds) (i:=4+4*i) (by omega)
   obtain⟨y0,y1,y2,y3⟩:=yq hi30
   have ba:=hb _ _ _ ga y0
   have bb:=hb _ _ _ gb y1
   have bc:=hb _ _ _ gc y2
   have bd:=hb _ _ _ gd y3
   have hd4:=e4 _ _ hd2
   walk_at "rd"
   refine iY (ag.of hd4) (aE fun t H5 e5 ht htn=>?_)
   rw[show (4:Int)+4*(0+(i:Int))=((4+4*i:Nat):Int) by omega,show (8:Int)+4*(0+(i:Int))=((4+4*i+4:Nat):Int) by omega,hcut]at ht
   walk_at "rd"
   refine DN (ag.of ht) rfl ?_
   walk_at "rd"
   refine⟨aB (by simp),aE fun u1 H6 e6 hu1 _=>?_⟩
   walk_at "rd"
   obtain⟨z,hz,okz⟩:=AV bb.1 bb.2
   refine aH (ag.of hu1) hz ?_
   walk_at "rd"
   have hf6:=e6 _ _ (e5 _ _ hf4)
   refine⟨cS (ag.of hf6),?_⟩
   walk_at "rd"
   try refine rd_I (show(0:Int)<m by omega) ?_
   walk_at "rd"
   try refine rd_I (show(0:Int)<m by omega) ?_
   walk_at "rd"
   obtain⟨s,hs,s1,s2⟩:=yh bd.1 bd.2
   refine⟨_,_,s,rfl,rfl,g8 (by decide +kernel),hs,?_⟩
   walk_at "rd"
   refine⟨aB (by simp),aE fun v H7 e7 hv _=>?_⟩
   have hf7:=e7 _ _ hf6
   walk_at "rd"
   refine bN hf7 (by rw[Ew,al.1,len];exact Nat.lt_of_le_of_lt (show i<=1000 by omega) (by decide)) ?_
   walk_at "rd"
   have al7:aP H7 cs us:=((al.ext e5).ext e6).ext e7
   have hv7:H7 v=some (.tup (Way.vs ⟨a % m,z,c' % m,⟨#[s]⟩⟩)):=hv
   refine⟨cx (e4.trans (e5.trans (e6.trans e7))) hfn,_,_,_,_,_,_,cs++[v],us++[⟨a % m,z,c' % m,⟨#[s]⟩⟩],rfl,by rw[aL,EM];rfl,(al7.put hf7).snoc ?_,?_,by simp[len]⟩
   ·rw[az (cK hv7 hf7 (by intro z;cases z))]
    exact hv7
   ·intro u hu
    rcases EU.mp hu with hu | hu
    ·exact ok u hu
    ·rw[EG.mp hu]
     exact⟨Int.emod_nonneg _ (by omega),Int.emod_lt_of_pos _ (by omega),Int.emod_nonneg _ (by omega),Int.emod_lt_of_pos _ (by omega),okz,s,s1,s2,rfl⟩
  ·rintro σ H4 ⟨e4,k1,k2,k3,k4,k5,k6,cs,us,rfl,hf4,al,ok,len⟩
   rw[EI]at len
   walk_at "rd"
   refine⟨f,cs,us,rfl,hf4,al,fun u hu=>(ok u hu).lay,by omega,fun r H5 ws e5 hws nd sub ln=>?_⟩
   walk_at "rd"
   refine⟨aB (by simp),aE fun t H6 e6 ht _=>?_⟩
   exact q _ m ws H6 (eH2.trans (e4.trans (e5.trans e6))) (bf.mk ht (hws.ext e6)) ⟨m1,m2,by omega,fun u hu=>ok u (sub u hu),nd⟩
structure WL(H0 H:Hp)(f:Addr)(us:List Way):Prop where
 ext:Ext H0 H
 at_:∃cs:List Addr,H f=some (.lst (cs.map V.ref))/\aP H cs us
theorem WL.nil{H0 H:Hp}{f:Addr}(e:Ext H0 H)(hf:H f=some (.lst [])):WL H0 H f []:=⟨e,[],hf,aP.nil _⟩
theorem WL.push{H0 H H1:Hp}{f v:Addr}{us:List Way}{w:Way}(h:WL H0 H f us)(hfn:H0 f=none)(e:Ext H H1)(hv:H1 v=some (.tup w.vs)):
  ∃xs,H1 f=some (.lst xs)/\xs.length=us.length/\WL H0 (upd H1 f (.lst (xs++[.ref v]))) f (us++[w]):=by
 obtain⟨e0,cs,hf,al⟩:=h
 have hf1:=e _ _ hf
 refine⟨cs.map V.ref,hf1,by rw[Ew];exact al.1,cx (e0.trans e) hfn,cs++[v],by rw[aL,EM];rfl,((al.ext e).put hf1).snoc ?_⟩
 rw[az (cK hv hf1 (by intro z;cases z))]
 exact hv
theorem WL.ty{K:Eo}{H0 H H1:Hp}{f:Addr}{us:List Way}(h:WL H0 H f us)(e:Ext H H1):gL K "list" (.ref f) H1:=by
 obtain⟨_,cs,hf,al⟩:=h
 exact cS (ag.of (e _ _ hf))
theorem kW:ki "a":=⟨97,by decide,by decide,by decide +kernel⟩
theorem iD:ki "b":=⟨98,by decide,by decide,by decide +kernel⟩
theorem nj:ki "c":=⟨99,by decide,by decide,by decide +kernel⟩
theorem lW:bR "up":=.inl rfl
theorem oo:bR "down":=.inr (.inl rfl)
theorem g9:bR "stay":=.inr (.inr (.inl rfl))
theorem oy:bR "zero":=.inr (.inr (.inr rfl))
theorem cU{n:Nat}(h:n<=1000):n<sizeLine:=Nat.lt_of_le_of_lt h (by decide)
theorem jK{a b:V}{e:Int}(h0:0<=e)(h1:e<2):∃v,bq [a,b] e=some v/\(v=a\/v=b):=by
 have:e=0\/e=1:=by omega
 rcases this with rfl | rfl
 ·exact⟨a,rfl,.inl rfl⟩
 ·exact⟨b,rfl,.inr rfl⟩
theorem dZ{m:Int}{us:List Way}{w:Way}(h:∀u∈us,u.Ok3 m)(hw:w.Ok3 m):∀u∈us++[w],u.Ok3 m:=fun u hu=>by
 rcases EU.mp hu with hu | hu
 ·exact h u hu
 ·rw[EG.mp hu];exact hw
theorem zQ:(Str.ofString "ab").cps.toList=[97,98]:=by decide +kernel
theorem Dt{e:Int}(h0:0<=e)(h1:e<2):∃c,bq (Str.ofString "ab").cps.toList e=some c/\97<=c/\c<=99:=by
 rw[zQ]
 have:e=0\/e=1:=by omega
 rcases this with rfl | rfl
 ·exact⟨97,rfl,by decide,by decide⟩
 ·exact⟨98,rfl,by decide,by decide⟩
theorem cC{ws ds:List Int}(hl:ds.length=ws.length)(hb:∀(i:Nat) (d x:Int),ds[i]?=some d->ws[i]?=some x->0<=d/\d<x)(i:Nat){x:Int}(hx:ws[i]?=some x):∃d,bq (ds.map V.int) (i:Int)=some (.int d)/\0<=d/\d<x:=by
 have hi:i<ds.length:=by
  rw[hl]
  exact(EE.mp hx).1
 have g:ds[i]?=some ds[i]:=Ex hi
 exact⟨ds[i],dJ (by rw[Ey,g];rfl),hb i _ x g hx⟩
def sh(K:Eo):Sp:=fun vs H Q _=>∃c p,vs=[.int c,.int p]/\0<p/\∀v m ws H',Ext H H'->bf H' v m ws->HOuse3 m ws->Q v H'
abbrev kh:Stmt:=stq 59
theorem xi:FnScope ["_law_cell_here","_law_prime","_law_draws_here","_law_up","_law_down","_law_many","_law_ways","_law_k"] ["_law_cell_here","_law_prime"] (aK kh):=⟨rfl,rfl,rfl,by decide +kernel,rfl,by decide +kernel,by decide +kernel⟩
theorem Bf{P:Program}{w:World}{K:Eo}{mg:Str->Option Value}{base:Heap}(D:Dfn K mg "_law_gate_house" kh ["_law_cell_here","_law_prime"])(T:Blt mg)(C__law_unlike:Cal P w K mg base "_law_unlike" 1 ["_law_ways"] (pj K))(C__law_draws:Cal P w K mg base "_law_draws" 2 ["_law_cell_here","_law_widths","_law_prime"] (fM K)):Cal P w K mg base "_law_gate_house" 3 ["_law_cell_here","_law_prime"] (sh K):=by
 have nd:=(xi).nd
 refine D.ok xi (fun vs H Q E h=>?_) (fun X hX H vs Q E h=>?_)
 ·obtain⟨c,p,rfl,_⟩:=h;rfl
 ·obtain⟨f,cdv,A,outer,s,H0,E0,rfl,hr⟩:=hX
  obtain⟨c,p,rfl,hp,q⟩:=h
  refine⟨_,(@aj _ _ _ _ _ (@aG _ _ 2 _ _ _ _ nd rfl (Or.inl rfl) (aD C__law_draws hr (@aa _ _ _ _ _ (pv 0) (@aa _ _ _ _ _ (@bz _ _ _ _ (i9 (.c (.c (.c (.c (.c (.c (.c .n))))))))) (@aa _ _ _ _ _ (pv 1) ae rfl) rfl) rfl)) rfl (Or.inl rfl))
    (@aj _ _ _ _ _ (tF (i:=3) (j:=4) rfl nd rfl rfl (by decide) rfl rfl (@aa _ _ _ _ _ (av aU af (@ai _ _ _ _ _ _ _ (aI K) (pv 2) af (fun _ _=>rfl))) (@aa _ _ _ _ _ (av aU af (@ai _ _ _ _ _ _ _ (aI K) (pv 2) af (fun _ _=>rfl))) ae rfl) rfl) rfl)
    (@aj _ _ _ _ _ (@aG _ _ 5 _ _ _ _ nd rfl (Or.inl rfl) (av aU (av aU (pv 3) (pv 4)) af) rfl (Or.inl rfl))
    (@aj _ _ _ _ _ (@aG _ _ 6 _ _ _ _ nd rfl (Or.inl rfl) (@bz _ _ _ _ ae) rfl (Or.inl rfl))
    (@aj _ _ _ _ _ (bL PassesOwn.never rfl (cI rfl T.range_ (@aa _ _ _ _ _ (pv 3) ae rfl)) (aJ (i:=7) nd rfl (Or.inl rfl)) (@ao _ _ _ (bo (bG K ED ES ET bO (pv 6) (@aa _ _ _ _ _ (@bA _ _ _ _ _ (@aa _ _ _ _ _ (pv 7) (@aa _ _ _ _ _ aS (@aa _ _ _ _ _ (av cz (av aU (pv 7) af) (pv 3)) (@aa _ _ _ _ _ (@ai _ _ _ _ _ _ _ t9 aS (@ai _ _ _ _ _ _ _ (aI K) (pv 2) af (fun _ _=>rfl)) (fun _ _=>rfl)) ae rfl) rfl) rfl) rfl)) ae rfl)))))
    (@aj _ _ _ _ _ (bo (bG K ED ES ET bO (pv 6) (@aa _ _ _ _ _ (@bA _ _ _ _ _ (@aa _ _ _ _ _ (av cz (@ai _ _ _ _ _ _ _ (aI K) (pv 2) af (fun _ _=>rfl)) (pv 3)) (@aa _ _ _ _ _ aS (@aa _ _ _ _ _ (pv 3) (@aa _ _ _ _ _ aS ae rfl) rfl) rfl) rfl)) ae rfl)))
    (@aj _ _ _ _ _ (bL PassesOwn.never rfl (cI rfl T.range_ (@aa _ _ _ _ _ (pv 4) ae rfl)) (aJ (i:=7) nd rfl (Or.inl rfl)) (@ao _ _ _ (bo (bG K ED ES ET bO (pv 6) (@aa _ _ _ _ _ (@bA _ _ _ _ _ (@aa _ _ _ _ _ (av aU (pv 3) (pv 7)) (@aa _ _ _ _ _ aS (@aa _ _ _ _ _ (av aU (pv 3) (av cz (av aU (pv 7) af) (pv 4))) (@aa _ _ _ _ _ aS ae rfl) rfl) rfl) rfl)) ae rfl)))))
    (@aj _ _ _ _ _ (bo (bG K ED ES ET bO (pv 6) (@aa _ _ _ _ _ (@bA _ _ _ _ _ (@aa _ _ _ _ _ (av aU (pv 3) (av cz (@ai _ _ _ _ _ _ _ (aI K) (pv 2) af (fun _ _=>rfl)) (pv 4))) (@aa _ _ _ _ _ aS (@aa _ _ _ _ _ (av cX (pv 5) af) (@aa _ _ _ _ _ aS ae rfl) rfl) rfl) rfl)) ae rfl)))
    (@aj _ _ _ _ _ (bo (bG K ED ES ET bO (pv 6) (@aa _ _ _ _ _ (@bA _ _ _ _ _ (@aa _ _ _ _ _ (av cX (pv 5) af) (@aa _ _ _ _ _ (@ai _ _ _ _ _ _ _ (aI K) (@bz _ _ _ _ (@aa _ _ _ _ _ aS (@aa _ _ _ _ _ aS ae rfl) rfl)) (@ai _ _ _ _ _ _ _ (aI K) (pv 2) af (fun _ _=>rfl)) (fun _ _=>rfl)) (@aa _ _ _ _ _ (@ai _ _ _ _ _ _ _ (aI K) (@bz _ _ _ _ (@aa _ _ _ _ _ af (@aa _ _ _ _ _ (av cX (pv 5) af) ae rfl) rfl)) (@ai _ _ _ _ _ _ _ (aI K) (pv 2) af (fun _ _=>rfl)) (fun _ _=>rfl)) (@aa _ _ _ _ _ aS ae rfl) rfl) rfl) rfl)) ae rfl)))
    (@ao _ _ _ (@aF _ _ _ _ (@bA _ _ _ _ _ (@aa _ _ _ _ _ (pv 5) (@aa _ _ _ _ _ (aD C__law_unlike hr (@aa _ _ _ _ _ (pv 6) ae rfl)) ae rfl) rfl))))))))))))),?_⟩
  walk_at "rd"
  refine⟨aB (by simp),aE fun w0 G1 f1 hw0 _=>?_⟩
  walk_at "rd"
  refine jJ [6,5,6,5,2,2,2] hw0 (by decide) (by decide) (hp) fun dq ds H1 e1 hd hdn hl hb=>?_
  have eH:Ext H H1:=f1.trans e1
  obtain⟨d0,g0,b00,b01⟩:=cC hl hb 0 rfl
  obtain⟨d1,g1,b10,b11⟩:=cC hl hb 1 rfl
  obtain⟨d2,g2,b20,b21⟩:=cC hl hb 2 rfl
  obtain⟨d3,g3,b30,b31⟩:=cC hl hb 3 rfl
  obtain⟨d4,g4,b40,b41⟩:=cC hl hb 4 rfl
  obtain⟨d5,g5,b50,b51⟩:=cC hl hb 5 rfl
  obtain⟨d6,g6,b60,b61⟩:=cC hl hb 6 rfl
  clear hb hl
  walk_at "rd"
  refine aH (ag.of hd) g0 ?_
  walk_at "rd"
  refine aH (ag.of hd) g1 ?_
  walk_at "rd"
  obtain⟨U,hU⟩:∃U:Nat,1+d0=(U:Int):=⟨(1+d0).toNat,by omega⟩
  obtain⟨D,hD⟩:∃D:Nat,1+d1=(D:Int):=⟨(1+d1).toNat,by omega⟩
  rw[hU,hD]
  have u1:1<=U:=by omega
  have u6:U<=6:=by omega
  have v1:1<=D:=by omega
  have v5:D<=5:=by omega
  clear b00 b01 b10 b11 hU hD
  obtain⟨m,hm⟩:∃m:Int,(U:Int)+(D:Int)+1=m:=⟨_,rfl⟩
  rw[hm]
  refine⟨aB (by simp),aE fun f H2 e2 hf hfn=>?_⟩
  walk_at "rd"
  refine cG (by omega) ?_
  have hfn0:H1 f=none:=hfn
  refine forR (fun i σ H3=>∃(k:Option V) (us:List Way),σ=[some (.int c),some (.int p),some (.ref dq),some (.int U),some (.int D),some (.int m),some (.ref f),k]/\WL H1 H3 f us/\(∀u∈us,u.Ok3 m)/\us.length=i)
   ⟨none,[],rfl,WL.nil e2 hf,fun u hu=>by simp at hu,rfl⟩ ?_ ?_
  ·rintro i σ H3 hi ⟨k,us,rfl,wl,ok,len⟩
   rw[EI]at hi
   walk_at "rd"
   refine⟨wl.ty (Ext.rfl' _),?_⟩
   walk_at "rd"
   try refine rd_I (show(0:Int)<(U:Int) by omega) ?_
   walk_at "rd"
   refine aH (ag.of (wl.ext _ _ hd)) g4 ?_
   obtain⟨s,hs,s1,s2⟩:=Dt b40 b41
   refine⟨_,_,s,rfl,rfl,g8 (by decide +kernel),hs,?_⟩
   walk_at "rd"
   refine⟨aB (by simp),aE fun v H4 e4 hv _=>?_⟩
   walk_at "rd"
   obtain⟨xs,hx,hlx,wl'⟩:=wl.push (w:=⟨0+(i:Int),"up",(0+(i:Int)+1) % (U:Int),⟨#[s]⟩⟩) hfn0 e4 hv
   refine bN hx (cU (by omega)) ?_
   walk_at "rd"
   exact⟨_,_,rfl,wl',dZ ok ⟨by show 0<=0+(i:Int);omega,by show 0+(i:Int)<m;omega,Int.emod_nonneg _ (by omega),Int.lt_trans (Int.emod_lt_of_pos _ (by omega)) (by omega),lW,s,s1,s2,rfl⟩,by simp[len]⟩
  rintro σ H3 ⟨k,us,rfl,wl,ok,len⟩
  rw[EI]at len
  walk_at "rd"
  refine⟨wl.ty (Ext.rfl' _),?_⟩
  walk_at "rd"
  refine aH (ag.of (wl.ext _ _ hd)) g2 ?_
  try refine rd_I (show(0:Int)<(U:Int) by omega) ?_
  walk_at "rd"
  refine⟨aB (by simp),aE fun v H4 e4 hv _=>?_⟩
  walk_at "rd"
  have r0:0<=d2 % (U:Int):=Int.emod_nonneg _ (by omega)
  have r1:d2 % (U:Int)<U:=Int.emod_lt_of_pos _ (by omega)
  obtain⟨xs,hx,hlx,wl2⟩:=wl.push (w:=⟨d2 % (U:Int),"stay",(U:Int),"b"⟩) hfn0 e4 hv
  have ok2:=dZ ok (w:=⟨d2 % (U:Int),"stay",(U:Int),"b"⟩) ⟨r0,by show d2 % (U:Int)<m;omega,by show 0<=(U:Int);omega,by show(U:Int)<m;omega,g9,iD⟩
  refine bN hx (cU (by omega)) ?_
  generalize upd H4 f _=H5 at wl2 ⊢
  generalize hus2:us++[_]=us2 at wl2 ok2
  have len2:us2.length=U+1:=by rw[←hus2];simp[len]
  clear hus2 hx hlx hv e4 r0 r1 wl ok len
  walk_at "rd"
  refine cG (by omega) ?_
  refine forR (fun i σ H3=>∃(k:Option V) (us:List Way),σ=[some (.int c),some (.int p),some (.ref dq),some (.int U),some (.int D),some (.int m),some (.ref f),k]/\WL H1 H3 f us/\(∀u∈us,u.Ok3 m)/\us.length=U+1+i)
   ⟨_,us2,rfl,wl2,ok2,len2⟩ ?_ ?_
  ·rintro i σ H3 hi ⟨k,us,rfl,wl,ok,len⟩
   rw[EI]at hi
   walk_at "rd"
   refine⟨wl.ty (Ext.rfl' _),?_⟩
   walk_at "rd"
   try refine rd_I (show(0:Int)<(D:Int) by omega) ?_
   walk_at "rd"
   refine⟨aB (by simp),aE fun v H4 e4 hv _=>?_⟩
   walk_at "rd"
   have r0:0<=(0+(i:Int)+1) % (D:Int):=Int.emod_nonneg _ (by omega)
   have r1:(0+(i:Int)+1) % (D:Int)<D:=Int.emod_lt_of_pos _ (by omega)
   obtain⟨xs,hx,hlx,wl'⟩:=wl.push (w:=⟨(U:Int)+(0+(i:Int)),"down",(U:Int)+(0+(i:Int)+1) % (D:Int),"a"⟩) hfn0 e4 hv
   refine bN hx (cU (by omega)) ?_
   walk_at "rd"
   exact⟨_,_,rfl,wl',dZ ok ⟨by show 0<=(U:Int)+(0+(i:Int));omega,by show(U:Int)+(0+(i:Int))<m;omega,by show 0<=(U:Int)+(0+(i:Int)+1) % (D:Int);omega,by show(U:Int)+(0+(i:Int)+1) % (D:Int)<m;omega,oo,kW⟩,by simp[len];omega⟩
  clear wl2 ok2 len2
  rintro σ H3 ⟨k,us,rfl,wl,ok,len⟩
  rw[EI]at len
  walk_at "rd"
  refine⟨wl.ty (Ext.rfl' _),?_⟩
  walk_at "rd"
  refine aH (ag.of (wl.ext _ _ hd)) g3 ?_
  try refine rd_I (show(0:Int)<(D:Int) by omega) ?_
  walk_at "rd"
  refine⟨aB (by simp),aE fun v H4 e4 hv _=>?_⟩
  walk_at "rd"
  have r0:0<=d3 % (D:Int):=Int.emod_nonneg _ (by omega)
  have r1:d3 % (D:Int)<D:=Int.emod_lt_of_pos _ (by omega)
  obtain⟨xs,hx,hlx,wl2⟩:=wl.push (w:=⟨(U:Int)+d3 % (D:Int),"zero",m-1,"c"⟩) hfn0 e4 hv
  have ok2:=dZ ok (w:=⟨(U:Int)+d3 % (D:Int),"zero",m-1,"c"⟩) ⟨by show 0<=(U:Int)+d3 % (D:Int);omega,by show(U:Int)+d3 % (D:Int)<m;omega,by show 0<=m-1;omega,by show m-1<m;omega,oy,nj⟩
  refine bN hx (cU (by omega)) ?_
  generalize upd H4 f _=H5 at wl2 ⊢
  generalize hus2:us++[_]=us2 at wl2 ok2
  have len2:us2.length=U+D+2:=by rw[←hus2];simp[len];omega
  clear hus2 hx hlx hv e4 r0 r1 wl ok len
  walk_at "rd"
  refine⟨wl2.ty (Ext.rfl' _),?_⟩
  walk_at "rd"
  refine⟨aB (by simp),aE fun t1 H6 e6 ht1 _=>?_⟩
  walk_at "rd"
  refine aH (ag.of (e6 _ _ (wl2.ext _ _ hd))) g5 ?_
  obtain⟨x5,hx5,ax5⟩:=jK (a:=V.str "up") (b:=V.str "stay") b50 b51
  refine aH (ag.of ht1) hx5 ?_
  walk_at "rd"
  refine⟨aB (by simp),aE fun t2 H7 e7 ht2 _=>?_⟩
  walk_at "rd"
  refine aH (ag.of (e7 _ _ (e6 _ _ (wl2.ext _ _ hd)))) g6 ?_
  obtain⟨x6,hx6,ax6⟩:=jK (a:=V.int 0) (b:=V.int (m-1)) b60 b61
  refine aH (ag.of ht2) hx6 ?_
  walk_at "rd"
  refine⟨aB (by simp),aE fun v H8 e8 hv _=>?_⟩
  walk_at "rd"
  obtain⟨z,rfl,oz⟩:∃z,x5=.str z/\bR z:=by
   rcases ax5 with rfl | rfl
   ·exact⟨_,rfl,lW⟩
   ·exact⟨_,rfl,g9⟩
  obtain⟨y,rfl,y0,y1⟩:∃y:Int,x6=.int y/\0<=y/\y<m:=by
   rcases ax6 with rfl | rfl
   ·exact⟨_,rfl,by omega,by omega⟩
   ·exact⟨_,rfl,by omega,by omega⟩
  obtain⟨xs,hx,hlx,wl3⟩:=wl2.push (w:=⟨m-1,z,y,"b"⟩) hfn0 (e6.trans (e7.trans e8)) hv
  have ok3:=dZ ok2 (w:=⟨m-1,z,y,"b"⟩) ⟨by show 0<=m-1;omega,by show m-1<m;omega,y0,y1,oz,iD⟩
  refine bN hx (cU (by omega)) ?_
  generalize upd H8 f _=H9 at wl3 ⊢
  generalize hus3:us2++[_]=us3 at wl3 ok3
  have len3:us3.length=U+D+3:=by rw[←hus3];simp[len2]
  walk_at "rd"
  obtain⟨ew,cs,hcs,al⟩:=wl3
  refine⟨f,cs,us3,rfl,hcs,al,fun u hu=>(ok3 u hu).lay,by omega,fun r I1 ws e5 hws nd sub ln=>?_⟩
  walk_at "rd"
  refine⟨aB (by simp),aE fun t I2 e6' ht _=>?_⟩
  exact q _ m ws I2 (eH.trans (ew.trans (e5.trans e6'))) (bf.mk ht (hws.ext e6')) ⟨by omega,by omega,by omega,fun u hu=>ok3 u (sub u hu),nd⟩
theorem aP.rev{H:Hp}{bs:List Addr}{ws:List Way}(h:aP H bs ws):aP H bs.reverse ws.reverse:=by
 refine⟨by rw[List.length_reverse,List.length_reverse];exact h.1,fun j b w e1 e2=>?_⟩
 have hj:j<bs.length:=by
  have:=(EE.mp e1).1
  simpa using this
 rw[List.getElem?_reverse hj]at e1
 rw[List.getElem?_reverse (by rw[←h.1];exact hj),←h.1]at e2
 exact h.2 _ b w e1 e2
theorem gX{us:List Way}{w:Way}(h:us.Nodup)(hw:w∉us):(us++[w]).Nodup:=by
 rw[List.nodup_append]
 exact⟨h,by simp,fun a ha c hc=>by rw[EG.mp hc];exact fun z=>hw (z ▸ ha)⟩
theorem i4{P:Way->Prop}{us:List Way}{w:Way}(h:∀u∈us,P u)(hw:P w):∀u∈us++[w],P u:=fun u hu=>by
 rcases EU.mp hu with hu | hu
 ·exact h u hu
 ·rw[EG.mp hu];exact hw
theorem qC:(Str.ofString "a")≠"b":=by decide +kernel
theorem sP:(Str.ofString "a")≠"c":=by decide +kernel
theorem oX:(Str.ofString "b")≠"c":=by decide +kernel
def uo(K:Eo):Sp:=fun vs H Q _=>∃c p,vs=[.int c,.int p]/\0<p/\∀v m ws H',Ext H H'->bf H' v m ws->HOuse3 m ws->Q v H'
abbrev lN:Stmt:=stq 57
theorem vD:FnScope ["_law_cell_here","_law_prime","_law_draws_here","_law_one","_law_two","_law_many","_law_ways","_law_k"] ["_law_cell_here","_law_prime"] (aK lN):=⟨rfl,rfl,rfl,by decide +kernel,rfl,by decide +kernel,by decide +kernel⟩
theorem Bn{P:Program}{w:World}{K:Eo}{mg:Str->Option Value}{base:Heap}(D:Dfn K mg "_law_ring_house" lN ["_law_cell_here","_law_prime"])(T:Blt mg)(C__law_draws:Cal P w K mg base "_law_draws" 2 ["_law_cell_here","_law_widths","_law_prime"] (fM K)):Cal P w K mg base "_law_ring_house" 3 ["_law_cell_here","_law_prime"] (uo K):=by
 have nd:=(vD).nd
 refine D.ok vD (fun vs H Q E h=>?_) (fun X hX H vs Q E h=>?_)
 ·obtain⟨c,p,rfl,_⟩:=h;rfl
 ·obtain⟨f,cdv,A,outer,s,H0,E0,rfl,hr⟩:=hX
  obtain⟨c,p,rfl,hp,q⟩:=h
  refine⟨_,(@aj _ _ _ _ _ (@aG _ _ 2 _ _ _ _ nd rfl (Or.inl rfl) (aD C__law_draws hr (@aa _ _ _ _ _ (pv 0) (@aa _ _ _ _ _ (@bz _ _ _ _ (i9 (.c (.c (.c (.c (.c (.c (.c .n))))))))) (@aa _ _ _ _ _ (pv 1) ae rfl) rfl) rfl)) rfl (Or.inl rfl))
    (@aj _ _ _ _ _ (tF (i:=3) (j:=4) rfl nd rfl rfl (by decide) rfl rfl (@aa _ _ _ _ _ (av aU af (@ai _ _ _ _ _ _ _ (aI K) (pv 2) af (fun _ _=>rfl))) (@aa _ _ _ _ _ (av aU af (@ai _ _ _ _ _ _ _ (aI K) (pv 2) af (fun _ _=>rfl))) ae rfl) rfl) rfl)
    (@aj _ _ _ _ _ (@aG _ _ 5 _ _ _ _ nd rfl (Or.inl rfl) (av aU (av aU (pv 3) (pv 4)) af) rfl (Or.inl rfl))
    (@aj _ _ _ _ _ (@aG _ _ 6 _ _ _ _ nd rfl (Or.inl rfl) (@bz _ _ _ _ (@aa _ _ _ _ _ (@bA _ _ _ _ _ (@aa _ _ _ _ _ af (@aa _ _ _ _ _ aS (@aa _ _ _ _ _ af (@aa _ _ _ _ _ aS ae rfl) rfl) rfl) rfl)) (@aa _ _ _ _ _ (@bA _ _ _ _ _ (@aa _ _ _ _ _ af (@aa _ _ _ _ _ (@ai _ _ _ _ _ _ _ (aI K) (@bz _ _ _ _ (@aa _ _ _ _ _ aS (@aa _ _ _ _ _ aS ae rfl) rfl)) (@ai _ _ _ _ _ _ _ (aI K) (pv 2) af (fun _ _=>rfl)) (fun _ _=>rfl)) (@aa _ _ _ _ _ (av aU af (pv 3)) (@aa _ _ _ _ _ aS ae rfl) rfl) rfl) rfl)) ae rfl) rfl)) rfl (Or.inl rfl))
    (@aj _ _ _ _ _ (bL PassesOwn.never rfl (cI rfl T.range_ (@aa _ _ _ _ _ (pv 3) ae rfl)) (aJ (i:=7) nd rfl (Or.inl rfl)) (@ao _ _ _ (bo (bG K ED ES ET bO (pv 6) (@aa _ _ _ _ _ (@bA _ _ _ _ _ (@aa _ _ _ _ _ (av aU af (pv 7)) (@aa _ _ _ _ _ aS (@aa _ _ _ _ _ (av aU af (av cz (av aU (pv 7) af) (pv 3))) (@aa _ _ _ _ _ aS ae rfl) rfl) rfl) rfl)) ae rfl)))))
    (@aj _ _ _ _ _ (bL PassesOwn.never rfl (cI rfl T.range_ (@aa _ _ _ _ _ (pv 4) ae rfl)) (aJ (i:=7) nd rfl (Or.inl rfl)) (@ao _ _ _ (bo (bG K ED ES ET bO (pv 6) (@aa _ _ _ _ _ (@bA _ _ _ _ _ (@aa _ _ _ _ _ (av aU (av aU af (pv 3)) (pv 7)) (@aa _ _ _ _ _ (@ai _ _ _ _ _ _ _ (aI K) (@bz _ _ _ _ (@aa _ _ _ _ _ aS (@aa _ _ _ _ _ aS ae rfl) rfl)) (@ai _ _ _ _ _ _ _ (aI K) (pv 2) af (fun _ _=>rfl)) (fun _ _=>rfl)) (@aa _ _ _ _ _ (av aU (av aU af (pv 3)) (av cz (av aU (pv 7) af) (pv 4))) (@aa _ _ _ _ _ aS ae rfl) rfl) rfl) rfl)) ae rfl)))))
    (@aj _ _ _ _ _ (bo (bG K ED ES ET bO (pv 6) (@aa _ _ _ _ _ (@bA _ _ _ _ _ (@aa _ _ _ _ _ af (@aa _ _ _ _ _ aS (@aa _ _ _ _ _ (av cX (pv 5) af) (@aa _ _ _ _ _ aS ae rfl) rfl) rfl) rfl)) ae rfl)))
    (@aj _ _ _ _ _ (bo (bG K ED ES ET bO (pv 6) (@aa _ _ _ _ _ (@bA _ _ _ _ _ (@aa _ _ _ _ _ (av aU af (pv 3)) (@aa _ _ _ _ _ aS (@aa _ _ _ _ _ (av cX (pv 5) af) (@aa _ _ _ _ _ aS ae rfl) rfl) rfl) rfl)) ae rfl)))
    (@aj _ _ _ _ _ (cL (aT bM (@ai _ _ _ _ _ _ _ (aI K) (pv 2) af (fun _ _=>rfl)) af (aQ _)) (@ao _ _ _ (bo (bG K ED ES ET bO (pv 6) (@aa _ _ _ _ _ (@bA _ _ _ _ _ (@aa _ _ _ _ _ (av cX (pv 5) af) (@aa _ _ _ _ _ aS (@aa _ _ _ _ _ (av cX (pv 5) af) (@aa _ _ _ _ _ aS ae rfl) rfl) rfl) rfl)) ae rfl)))) aV)
    (@aj _ _ _ _ _ (cL (aT bM (@ai _ _ _ _ _ _ _ (aI K) (pv 2) af (fun _ _=>rfl)) af (aQ _)) (@ao _ _ _ (bo (bG K ED ES ET bO (pv 6) (@aa _ _ _ _ _ (@bA _ _ _ _ _ (@aa _ _ _ _ _ (av cX (pv 5) af) (@aa _ _ _ _ _ aS (@aa _ _ _ _ _ af (@aa _ _ _ _ _ aS ae rfl) rfl) rfl) rfl)) ae rfl)))) aV)
    (@aj _ _ _ _ _ (cL (aT bM (@ai _ _ _ _ _ _ _ (aI K) (pv 2) af (fun _ _=>rfl)) af (aQ _)) (@ao _ _ _ (@aG _ _ 6 _ _ _ _ nd rfl (Or.inl rfl) (Ee K (pv 6) (fG (gW gY af))) rfl (Or.inl rfl))) aV)
    (@ao _ _ _ (@aF _ _ _ _ (@bA _ _ _ _ _ (@aa _ _ _ _ _ (pv 5) (@aa _ _ _ _ _ (fu (kx K) rfl T.tuple_ PyProof.Rows.boot_tuple (@aa _ _ _ _ _ (pv 6) ae rfl)) ae rfl) rfl))))))))))))))),?_⟩
  walk_at "rd"
  refine⟨aB (by simp),aE fun w0 G1 f1 hw0 _=>?_⟩
  walk_at "rd"
  refine jJ [5,5,2,2,4,4,2] hw0 (by decide) (by decide) (hp) fun dq ds H1 e1 hd hdn hl hb=>?_
  have eH:Ext H H1:=f1.trans e1
  obtain⟨d0,g0,b00,b01⟩:=cC hl hb 0 rfl
  obtain⟨d1,g1,b10,b11⟩:=cC hl hb 1 rfl
  obtain⟨d2,g2,b20,b21⟩:=cC hl hb 2 rfl
  obtain⟨d3,g3,b30,b31⟩:=cC hl hb 3 rfl
  obtain⟨d4,g4,_⟩:=cC hl hb 4 rfl
  obtain⟨d5,g5,_⟩:=cC hl hb 5 rfl
  obtain⟨d6,g6,_⟩:=cC hl hb 6 rfl
  clear hb hl
  walk_at "rd"
  refine aH (ag.of hd) g0 ?_
  walk_at "rd"
  refine aH (ag.of hd) g1 ?_
  walk_at "rd"
  obtain⟨U,hU⟩:∃U:Nat,1+d0=(U:Int):=⟨(1+d0).toNat,by omega⟩
  obtain⟨D,hD⟩:∃D:Nat,1+d1=(D:Int):=⟨(1+d1).toNat,by omega⟩
  rw[hU,hD]
  have u1:1<=U:=by omega
  have u6:U<=5:=by omega
  have v1:1<=D:=by omega
  have v5:D<=5:=by omega
  clear b00 b01 b10 b11 hU hD
  obtain⟨m,hm⟩:∃m:Int,(U:Int)+(D:Int)+2=m:=⟨_,rfl⟩
  rw[hm]
  -- the first two ways
  refine⟨aB (by simp),aE fun a1 H2 e2 ha1 _=>?_⟩
  walk_at "rd"
  refine⟨aB (by simp),aE fun t1 H3 e3 ht1 _=>?_⟩
  walk_at "rd"
  refine aH (ag.of (e3 _ _ (e2 _ _ hd))) g2 ?_
  obtain⟨x2,hx2,ax2⟩:=jK (a:=V.str "stay") (b:=V.str "zero") b20 b21
  refine aH (ag.of ht1) hx2 ?_
  walk_at "rd"
  obtain⟨z2,rfl,oz2⟩:∃z,x2=.str z/\bR z:=by
   rcases ax2 with rfl | rfl
   ·exact⟨_,rfl,g9⟩
   ·exact⟨_,rfl,oy⟩
  refine⟨aB (by simp),aE fun a2 H4 e4 ha2 _=>?_⟩
  walk_at "rd"
  refine⟨aB (by simp),aE fun f H5 e5 hf hfn=>?_⟩
  have e15:Ext H1 H5:=e2.trans (e3.trans (e4.trans e5))
  have hfn0:H1 f=none:=(e2.trans (e3.trans e4)).none hfn
  obtain⟨y1,hy1⟩:∃y:Way,y=⟨0,"stay",1,"a"⟩:=⟨_,rfl⟩
  obtain⟨y2,hy2⟩:∃y:Way,y=⟨0,z2,1+(U:Int),"b"⟩:=⟨_,rfl⟩
  have wl0:WL H1 H5 f [y1,y2]:=by
   refine⟨e15,[a1,a2],hf,?_⟩
   have k1:H5 a1=some (.tup y1.vs):=by rw[hy1];exact e5 _ _ (e4 _ _ (e3 _ _ ha1))
   have k2:H5 a2=some (.tup y2.vs):=by rw[hy2];exact e5 _ _ ha2
   exact((aP.nil H5).snoc k1).snoc k2
  have ok0:∀u∈[y1,y2],u.Ok3 m:=by
   intro u hu
   rcases EK.mp hu with rfl | hu
   ·subst hy1;exact⟨Int.le_refl _,by show(0:Int)<m;omega,by show(0:Int)<=1;decide,by show(1:Int)<m;omega,g9,kW⟩
   ·rw[EG.mp hu];subst hy2;exact⟨Int.le_refl _,by show(0:Int)<m;omega,by show(0:Int)<=1+(U:Int);omega,by show 1+(U:Int)<m;omega,oz2,iD⟩
  have nd0:[y1,y2].Nodup:=by
   subst hy1 hy2
   refine List.nodup_cons.mpr ⟨fun z=>?_,by simp⟩
   have:=congrArg Way.sign (EG.mp z)
   exact qC this
  have pr0:∀u∈[y1,y2],u.room<=((0:Nat):Int)/\u.sign≠"c":=by
   intro u hu
   rcases EK.mp hu with rfl | hu
   ·subst hy1;exact⟨Int.le_refl _,sP⟩
   ·rw[EG.mp hu];subst hy2;exact⟨Int.le_refl _,oX⟩
  have ln0:[y1,y2].length=2:=rfl
  generalize [y1,y2]=us0 at wl0 ok0 nd0 pr0 ln0
  clear hy1 hy2 ha1 ha2 ht1 hf e2 e3 e4 e5
  walk_at "rd"
  refine cG (by omega) ?_
  refine forR (fun i σ H3=>∃(k:Option V) (us:List Way),σ=[some (.int c),some (.int p),some (.ref dq),some (.int U),some (.int D),some (.int m),some (.ref f),k]/\WL H1 H3 f us/\(∀u∈us,u.Ok3 m)/\us.Nodup/\(∀u∈us,u.room<=(i:Int)/\u.sign≠"c")/\us.length=2+i)
   ⟨none,us0,rfl,wl0,ok0,nd0,pr0,ln0⟩ ?_ ?_
  ·rintro i σ H3 hi ⟨k,us,rfl,wl,ok,nd',pr,len⟩
   rw[EI]at hi
   walk_at "rd"
   refine⟨wl.ty (Ext.rfl' _),?_⟩
   walk_at "rd"
   try refine rd_I (show(0:Int)<(U:Int) by omega) ?_
   walk_at "rd"
   refine⟨aB (by simp),aE fun v H4 e4 hv _=>?_⟩
   walk_at "rd"
   have r0:0<=(0+(i:Int)+1) % (U:Int):=Int.emod_nonneg _ (by omega)
   have r1:(0+(i:Int)+1) % (U:Int)<U:=Int.emod_lt_of_pos _ (by omega)
   obtain⟨xs,hx,hlx,wl'⟩:=wl.push (w:=⟨1+(0+(i:Int)),"up",1+(0+(i:Int)+1) % (U:Int),"a"⟩) hfn0 e4 hv
   refine bN hx (cU (by omega)) ?_
   walk_at "rd"
   refine⟨_,_,rfl,wl',dZ ok ⟨by show 0<=1+(0+(i:Int));omega,by show 1+(0+(i:Int))<m;omega,by show 0<=1+(0+(i:Int)+1) % (U:Int);omega,by show 1+(0+(i:Int)+1) % (U:Int)<m;omega,lW,kW⟩,gX nd' fun z=>?_,i4 (fun u hu=>⟨by have:=(pr u hu).1;omega,(pr u hu).2⟩) ⟨by show 1+(0+(i:Int))<=_;omega,sP⟩,by simp[len];omega⟩
   have:=(pr _ z).1
   have:1+(0+(i:Int))<=(i:Int):=this
   omega
  clear wl0 ok0 nd0 pr0 ln0
  rintro σ H3 ⟨k,us,rfl,wl,ok,nd',pr,len⟩
  rw[EI]at pr len
  walk_at "rd"
  refine cG (by omega) ?_
  refine forR (fun i σ H3=>∃(k:Option V) (us:List Way),σ=[some (.int c),some (.int p),some (.ref dq),some (.int U),some (.int D),some (.int m),some (.ref f),k]/\WL H1 H3 f us/\(∀u∈us,u.Ok3 m)/\us.Nodup/\(∀u∈us,u.room<=(U:Int)+(i:Int)/\u.sign≠"c"/\(u.room=1+(U:Int)->u.sign = "b"))/\us.length=2+U+i)
   ⟨_,us,rfl,wl,ok,nd',fun u hu=>⟨by have:=(pr u hu).1;omega,(pr u hu).2,fun z=>by have:=(pr u hu).1;omega⟩,len⟩ ?_ ?_
  ·clear wl ok nd' pr len
   rintro i σ H3 hi ⟨k,us,rfl,wl,ok,nd',pr,len⟩
   rw[EI]at hi
   walk_at "rd"
   refine⟨wl.ty (Ext.rfl' _),?_⟩
   walk_at "rd"
   refine⟨aB (by simp),aE fun t1 H6 e6 ht1 _=>?_⟩
   walk_at "rd"
   refine aH (ag.of (e6 _ _ (wl.ext _ _ hd))) g3 ?_
   obtain⟨x3,hx3,ax3⟩:=jK (a:=V.str "up") (b:=V.str "down") b30 b31
   refine aH (ag.of ht1) hx3 ?_
   walk_at "rd"
   obtain⟨z3,rfl,oz3⟩:∃z,x3=.str z/\bR z:=by
    rcases ax3 with rfl | rfl
    ·exact⟨_,rfl,lW⟩
    ·exact⟨_,rfl,oo⟩
   try refine rd_I (show(0:Int)<(D:Int) by omega) ?_
   walk_at "rd"
   refine⟨aB (by simp),aE fun v H4 e4 hv _=>?_⟩
   walk_at "rd"
   have r0:0<=(0+(i:Int)+1) % (D:Int):=Int.emod_nonneg _ (by omega)
   have r1:(0+(i:Int)+1) % (D:Int)<D:=Int.emod_lt_of_pos _ (by omega)
   obtain⟨xs,hx,hlx,wl'⟩:=wl.push (w:=⟨1+(U:Int)+(0+(i:Int)),z3,1+(U:Int)+(0+(i:Int)+1) % (D:Int),"b"⟩) hfn0 (e6.trans e4) hv
   refine bN hx (cU (by omega)) ?_
   walk_at "rd"
   refine⟨_,_,rfl,wl',dZ ok ⟨by show 0<=1+(U:Int)+(0+(i:Int));omega,by show 1+(U:Int)+(0+(i:Int))<m;omega,by show 0<=1+(U:Int)+(0+(i:Int)+1) % (D:Int);omega,by show 1+(U:Int)+(0+(i:Int)+1) % (D:Int)<m;omega,oz3,iD⟩,gX nd' fun z=>?_,i4 (fun u hu=>⟨by have:=(pr u hu).1;omega,(pr u hu).2⟩) ⟨by show 1+(U:Int)+(0+(i:Int))<=_;omega,oX,fun _=>rfl⟩,by simp[len];omega⟩
   have:=(pr _ z).1
   have:1+(U:Int)+(0+(i:Int))<=(U:Int)+(i:Int):=this
   omega
  clear wl ok nd' pr len
  rintro σ H3 ⟨k,us,rfl,wl,ok,nd',pr,len⟩
  rw[EI]at pr len
  walk_at "rd"
  -- (1,stay,m-1,c)
  refine⟨wl.ty (Ext.rfl' _),?_⟩
  walk_at "rd"
  refine⟨aB (by simp),aE fun v H4 e4 hv _=>?_⟩
  walk_at "rd"
  obtain⟨xs,hx,hlx,wl2⟩:=wl.push (w:=⟨1,"stay",m-1,"c"⟩) hfn0 e4 hv
  have ok2:=dZ ok (w:=⟨1,"stay",m-1,"c"⟩) ⟨by show(0:Int)<=1;decide,by show(1:Int)<m;omega,by show 0<=m-1;omega,by show m-1<m;omega,g9,nj⟩
  have nd2:=gX nd' (w:=⟨1,"stay",m-1,"c"⟩) fun z=>(pr _ z).2.1 rfl
  have pr2:=i4 (P:=fun u=>u.room<=(U:Int)+(D:Int)/\(u.room=1+(U:Int)->u.sign = "b")) (fun u hu=>⟨(pr u hu).1,(pr u hu).2.2⟩) (w:=⟨1,"stay",m-1,"c"⟩) ⟨by show(1:Int)<=_;omega,fun z=>by have:(1:Int)=1+(U:Int):=z;omega⟩
  refine bN hx (cU (by omega)) ?_
  generalize upd H4 f _=H5 at wl2 ⊢
  generalize hus2:us++[_]=us2 at wl2 ok2 nd2 pr2
  have len2:us2.length=3+U+D:=by rw[←hus2];simp[len];omega
  clear hus2 hx hlx hv e4 wl ok nd' pr len
  walk_at "rd"
  -- (1+U,stay,m-1,a)
  refine⟨wl2.ty (Ext.rfl' _),?_⟩
  walk_at "rd"
  refine⟨aB (by simp),aE fun v H4 e4 hv _=>?_⟩
  walk_at "rd"
  obtain⟨xs,hx,hlx,wl3⟩:=wl2.push (w:=⟨1+(U:Int),"stay",m-1,"a"⟩) hfn0 e4 hv
  have ok3:=dZ ok2 (w:=⟨1+(U:Int),"stay",m-1,"a"⟩) ⟨by show(0:Int)<=1+(U:Int);omega,by show 1+(U:Int)<m;omega,by show 0<=m-1;omega,by show m-1<m;omega,g9,kW⟩
  have nd3:=gX nd2 (w:=⟨1+(U:Int),"stay",m-1,"a"⟩) fun z=>qC ((pr2 _ z).2 rfl)
  have pr3:=i4 (P:=fun u=>u.room<=(U:Int)+(D:Int)) (fun u hu=>(pr2 u hu).1) (w:=⟨1+(U:Int),"stay",m-1,"a"⟩) (by show 1+(U:Int)<=_;omega)
  refine bN hx (cU (by omega)) ?_
  generalize upd H4 f _=H6 at wl3 ⊢
  generalize hus3:us2++[_]=us3 at wl3 ok3 nd3 pr3
  have len3:us3.length=4+U+D:=by rw[←hus3];simp[len2];omega
  clear hus3 hx hlx hv e4 wl2 ok2 nd2 pr2 len2
  walk_at "rd"
  -- the two that may be left out
  refine gF (fun σ' H'=>∃(k:Option V) (us:List Way),σ'=[some (.int c),some (.int p),some (.ref dq),some (.int U),some (.int D),some (.int m),some (.ref f),k]/\WL H1 H' f us/\(∀u∈us,u.Ok3 m)/\us.Nodup/\(∀u∈us,u.room<=(U:Int)+(D:Int)\/u.sign = "c")/\us.length<=5+U+D) ?_ ?_
  ·walk_at "rd"
   refine aH (ag.of (wl3.ext _ _ hd)) g4 ?_
   walk_at "rd"
   refine eX (fun h=>?_) (fun h=>?_)
   ·walk_at "rd"
    refine⟨wl3.ty (Ext.rfl' _),?_⟩
    walk_at "rd"
    refine⟨aB (by simp),aE fun v H4 e4 hv _=>?_⟩
    walk_at "rd"
    obtain⟨xs,hx,hlx,wl4⟩:=wl3.push (w:=⟨m-1,"down",m-1,"c"⟩) hfn0 e4 hv
    refine bN hx (cU (by omega)) ?_
    walk_at "rd"
    exact⟨_,_,rfl,wl4,dZ ok3 ⟨by show 0<=m-1;omega,by show m-1<m;omega,by show 0<=m-1;omega,by show m-1<m;omega,oo,nj⟩,gX nd3 fun z=>by have:m-1<=(U:Int)+(D:Int):=pr3 _ z;omega,i4 (fun u hu=>.inl (pr3 u hu)) (.inr rfl),by simp[len3];omega⟩
   ·walk_at "rd"
    exact⟨_,us3,rfl,wl3,ok3,nd3,fun u hu=>.inl (pr3 u hu),by omega⟩
  clear wl3 ok3 nd3 pr3 len3
  rintro σ' H7 ⟨k,us,rfl,wl,ok,nd',pr,len⟩
  walk_at "rd"
  refine gF (fun σ' H'=>∃(k:Option V) (us:List Way),σ'=[some (.int c),some (.int p),some (.ref dq),some (.int U),some (.int D),some (.int m),some (.ref f),k]/\WL H1 H' f us/\(∀u∈us,u.Ok3 m)/\us.Nodup/\us.length<=6+U+D) ?_ ?_
  ·walk_at "rd"
   refine aH (ag.of (wl.ext _ _ hd)) g5 ?_
   walk_at "rd"
   refine eX (fun h=>?_) (fun h=>?_)
   ·walk_at "rd"
    refine⟨wl.ty (Ext.rfl' _),?_⟩
    walk_at "rd"
    refine⟨aB (by simp),aE fun v H4 e4 hv _=>?_⟩
    walk_at "rd"
    obtain⟨xs,hx,hlx,wl4⟩:=wl.push (w:=⟨m-1,"zero",0,"b"⟩) hfn0 e4 hv
    refine bN hx (cU (by omega)) ?_
    walk_at "rd"
    exact⟨_,_,rfl,wl4,dZ ok ⟨by show 0<=m-1;omega,by show m-1<m;omega,by show(0:Int)<=0;decide,by show(0:Int)<m;omega,oy,iD⟩,gX nd' (fun z=>(pr _ z).elim (fun y=>by have:m-1<=(U:Int)+(D:Int):=y;omega) fun y=>oX y),by simp;omega⟩
   ·walk_at "rd"
    exact⟨_,us,rfl,wl,ok,nd',by omega⟩
  clear wl ok nd' pr len
  rintro σ' H8 ⟨k,us,rfl,wl,ok,nd',len⟩
  walk_at "rd"
  -- backward or not
  refine gF (fun σ' H'=>∃(k:Option V) (f:Addr) (cs:List Addr) (us:List Way),σ'=[some (.int c),some (.int p),some (.ref dq),some (.int U),some (.int D),some (.int m),some (.ref f),k]/\Ext H1 H'/\H' f=some (.lst (cs.map V.ref))/\aP H' cs us/\(∀u∈us,u.Ok3 m)/\us.Nodup/\us.length<=6+U+D) ?_ ?_
  ·walk_at "rd"
   refine aH (ag.of (wl.ext _ _ hd)) g6 ?_
   walk_at "rd"
   obtain⟨ew,cs,hcs,al⟩:=wl
   refine eX (fun h=>?_) (fun h=>?_)
   ·walk_at "rd"
    refine⟨rfl,xy (ag.of hcs) (aE fun r H9 e9 hr9 _=>?_)⟩
    walk_at "rd"
    exact⟨_,r,cs.reverse,us.reverse,rfl,ew.trans e9,by rw[hr9,List.map_reverse],(al.ext e9).rev,fun u hu=>ok u (List.mem_reverse.mp hu),List.pairwise_reverse.mpr (nd'.imp fun h=>Ne.symm h),by rw[List.length_reverse];omega⟩
   ·walk_at "rd"
    exact⟨_,f,cs,us,rfl,ew,hcs,al,ok,nd',by omega⟩
  clear wl ok nd' len
  rintro σ' H9 ⟨k,g,cs,us,rfl,ew,hcs,al,ok,nd',len⟩
  walk_at "rd"
  refine kH (ag.of hcs) (aE fun r I1 i1 hr1 _=>?_)
  walk_at "rd"
  refine⟨aB (by simp),aE fun t I2 i2 ht _=>?_⟩
  exact q _ m us I2 (eH.trans (ew.trans (i1.trans i2))) (bf.mk ht (((al.ext i1).ways hr1).ext i2)) ⟨by omega,by omega,by omega,ok,nd'⟩
def xA(K:Eo):Sp:=fun vs H Q _=>∃c p,vs=[.int c,.int p]/\0<p/\∀v m ws H',Ext H H'->bf H' v m ws->HOuse3 m ws->Q v H'
abbrev lV:Stmt:=stq 61
theorem xo:FnScope ["_law_cell_here","_law_prime","_law_kind","_law_left"] ["_law_cell_here","_law_prime"] (aK lV):=⟨rfl,rfl,rfl,by decide +kernel,rfl,by decide +kernel,by decide +kernel⟩
theorem Be{P:Program}{w:World}{K:Eo}{mg:Str->Option Value}{base:Heap}(D:Dfn K mg "_law_house" lV ["_law_cell_here","_law_prime"])(T:Blt mg)(C__law_drawn_house:Cal P w K mg base "_law_drawn_house" 3 ["_law_cell_here","_law_prime"] (uw K))(C__law_gate_house:Cal P w K mg base "_law_gate_house" 3 ["_law_cell_here","_law_prime"] (sh K))(C__law_ring_house:Cal P w K mg base "_law_ring_house" 3 ["_law_cell_here","_law_prime"] (uo K))(C__law_spare:Cal P w K mg base "_law_spare" 1 ["_law_cell_here","_law_width"] (wW K))(C__law_draws:Cal P w K mg base "_law_draws" 2 ["_law_cell_here","_law_widths","_law_prime"] (fM K)):Cal P w K mg base "_law_house" 4 ["_law_cell_here","_law_prime"] (xA K):=by
 have nd:=(xo).nd
 refine D.ok xo (fun vs H Q E h=>?_) (fun X hX H vs Q E h=>?_)
 ·obtain⟨c,p,rfl,_⟩:=h;rfl
 ·obtain⟨f,cdv,A,outer,s,H0,E0,rfl,hr⟩:=hX
  obtain⟨c,p,rfl,hp,q⟩:=h
  refine⟨_,(aj (aG (i:=2) nd rfl (Or.inl rfl) (ai (aI K) (aD C__law_draws hr (aa (pv 0) (aa (bz (aa af ae)) (aa (pv 1) ae)))) af (fun _ _=>rfl)))
    (aj (aG (i:=3) nd rfl (Or.inl rfl) (aD C__law_spare hr (aa (pv 0) (aa af ae))))
    (aj (bC (aT bM (pv 2) af (aQ _)) (ao (aF (aD C__law_ring_house hr (aa (pv 3) (aa (pv 1) ae))))) aV)
    (aj (bC (aT bM (pv 2) af (aQ _)) (ao (aF (aD C__law_gate_house hr (aa (pv 3) (aa (pv 1) ae))))) aV)
    (ao (aF (aD C__law_drawn_house hr (aa (pv 3) (aa (pv 1) ae))))))))),?_⟩
  walk_at "rd"
  refine⟨aB (by simp),aE fun w0 G1 f1 hw0 _=>?_⟩
  walk_at "rd"
  refine jJ [8] hw0 (by decide) (by decide) (hp) fun dq ds H1 e1 hd hdn hl hb=>?_
  have eH:Ext H H1:=f1.trans e1
  obtain⟨d0,g0,_⟩:=cC hl hb 0 rfl
  walk_at "rd"
  refine aH (ag.of hd) g0 ?_
  walk_at "rd"
  refine⟨c,8,rfl,by decide,by decide,fun z=>?_⟩
  walk_at "rd"
  refine eX (fun h=>?_) (fun h=>?_)
  ·walk_at "rd"
   exact⟨z,p,rfl,hp,fun v m ws H' e hv ok=>q v m ws H' (eH.trans e) hv ok⟩
  ·walk_at "rd"
   refine eX (fun h=>?_) (fun h=>?_)
   ·walk_at "rd"
    exact⟨z,p,rfl,hp,fun v m ws H' e hv ok=>q v m ws H' (eH.trans e) hv ok⟩
   ·walk_at "rd"
    exact⟨z,p,rfl,hp,fun v m ws H' e hv ok=>q v m ws H' (eH.trans e) hv ok⟩
theorem nY{m i:Int}(h:0<=i)(h':i<m):eQ m (.int i)=true:=by
 unfold eQ
 dsimp only
 rw[decide_eq_true h,decide_eq_true h']
 rfl
def fR(H:Hp)(n:Nat)(xs:List V):Prop:=∀x∈xs,bQ H n x
theorem fR.nil(H:Hp)(n:Nat):fR H n []:=fun x hx=>by cases hx
theorem fR.cons{H:Hp}{n:Nat}{x:V}{xs:List V}(h:bQ H n x)(h':fR H n xs):fR H n (x::xs):=fun y hy=>by
 rcases EK.mp hy with rfl | hy
 ·exact h
 ·exact h' y hy
theorem nB{H:Hp}{n:Nat}{p:Addr}{xs:List V}(h:H p=some (.tup xs))(hl:xs.length<=2000)(hx:fR H n xs):bQ H (n+1) (.ref p):=⟨xs,.inl h,hl,hx⟩
theorem bQ.up{H:Hp}:∀{n:Nat} {v:V},bQ H n v->bQ H (n+1) v:=by
 intro n
 induction n with
 | zero=>
  intro v h
  cases v<;>first | exact h | exact h.elim
 | succ n ih=>
  intro v h
  cases v with
  | ref p=>
   obtain⟨xs,h1,h2,h3⟩:=h
   exact⟨xs,h1,h2,fun x hx=>ih (h3 x hx)⟩
  | _=>exact h
theorem oA(H:Hp)(n:Nat)(i:Int):bQ H n (.int i):=by cases n<;>trivial
theorem wJ(H:Hp)(n:Nat){z:Str}(h:z.length<=1000):bQ H n (.str z):=by cases n<;>exact h
theorem B4{z:Str}(h:bR z):z.length<=1000:=by
 rcases h with rfl | rfl | rfl | rfl<;>decide +kernel
theorem y6{z:Str}(h:qD z):z.length<=1000:=by
 obtain⟨c,_,_,rfl⟩:=h
 show 1<=1000
 decide
theorem DB{H:Hp}{m:Int}{w:Way}(ok:w.Ok m):fR H 0 w.vs:=
 .cons (oA _ _ _) (.cons (wJ _ _ (B4 ok.dd)) (.cons (oA _ _ _) (.cons (wJ _ _ (y6 ok.sg)) (.nil _ _))))
theorem Ei{H:Hp}{v:V}{m:Int}{ws:List Way}(h:bf H v m ws)(ok:HOuse m ws):∃p q bs,v=.ref p/\H p=some (.tup [.int m,.ref q])/\H q=some (.tup (bs.map V.ref))/\bs.length=ws.length/\aP H bs ws/\fR H 1 (bs.map V.ref):=by
 obtain⟨p,q,rfl,h1,h2⟩:=h
 obtain⟨bs,h3,h4⟩:=h2.al
 refine⟨p,q,bs,rfl,h1,h3,h4.1,h4,fun x hx=>?_⟩
 obtain⟨b,hb,rfl⟩:=List.mem_map.mp hx
 obtain⟨j,hj,e⟩:=List.mem_iff_getElem.mp hb
 have hjw:j<ws.length:=by rw[←h4.1];exact hj
 have hw:ws[j]?=some ws[j]:=Ex hjw
 exact nB (h4.2 j b _ (by rw[Ex hj,e]) hw) (by show 4<=2000;decide) (DB (ok.ok _ (EX _)))
theorem AW{c:Nat}(h1:97<=c)(h2:c<=122):jD ⟨#[c]⟩=true:=by
 have ea:(Str.ofString "a").cps.toList=[97]:=by decide +kernel
 have ez:(Str.ofString "z").cps.toList=[122]:=by decide +kernel
 unfold jD
 rw[ea,ez]
 show(!decide (([c]:List Nat) < [97]) && !decide (([122]:List Nat) < [c]))=true
 rw[decide_eq_false (fun z=>by rw[List.cons_lt_cons_iff]at z;simp at z;omega),decide_eq_false (fun z=>by rw[List.cons_lt_cons_iff]at z;simp at z;omega)]
 rfl
theorem B2{z:Str}(h:bR z):ir (.str z)=true:=by
 rcases h with rfl | rfl | rfl | rfl<;>decide +kernel
theorem CI{H:Hp}{b:Addr}{m:Int}{w:Way}(h:H b=some (.tup w.vs))(ok:w.Ok m):ck H m (.ref b)=true:=by
 rw[mj h]
 obtain⟨c,h1,h2,e⟩:=ok.sg
 unfold Way.vs gj
 dsimp only
 rw[nY ok.r0 ok.r1,nY ok.o0 ok.o1,B2 ok.dd,e]
 unfold ic
 dsimp only
 rw[AW h1 h2]
 rfl
theorem xF{H:Hp}:∀{bs:List Addr} {ws:List Way},aP H bs ws->(bs.map V.ref).map (fE H)=ws.map Way.key
 | [],[],_=>rfl
 | [],_::_,h=>by cases h.1
 | _::_,[],h=>by cases h.1
 | b::bs,w::ws,h=>by
  rw[List.map_cons,List.map_cons,List.map_cons,xF (bs:=bs) (ws:=ws) ⟨Nat.succ.inj h.1,fun j b w e1 e2=>h.2 (j+1) b w e1 e2⟩,ub (h.2 0 b w rfl rfl)]
  rfl
theorem Bm{H:Hp}{m:Int}{bs:List Addr}{ws:List Way}(h:aP H bs ws)(ok:∀w∈ws,w.Ok m):(bs.map V.ref).all (ck H m)=true:=by
 rw[E6]
 intro x hx
 obtain⟨b,hb,rfl⟩:=List.mem_map.mp hx
 obtain⟨j,hj,e⟩:=List.mem_iff_getElem.mp hb
 have hjw:j<ws.length:=by rw[←h.1];exact hj
 exact CI (h.2 j b _ (by rw[Ex hj,e]) (Ex hjw)) (ok _ (EX hjw))
theorem An{H:Hp}{p q:Addr}{m:Int}{bs:List Addr}{ws:List Way}(h1:H p=some (.tup [.int m,.ref q]))(h2:H q=some (.tup (bs.map V.ref)))(h3:aP H bs ws)(m1:1<=m)(m2:m<=12)(ok:∀w∈ws,w.Ok m)(nd:ws.Nodup):gG H (.ref p)=decide (ws.length<=100):=by
 rw[tV h1]
 unfold gg
 dsimp only
 rw[decide_eq_true m1,decide_eq_true m2,tT h2]
 unfold jM
 have hk:(ws.map Way.key).Nodup:=by
  unfold List.Nodup at nd ⊢
  rw[List.pairwise_map]
  exact nd.imp fun ne e=>ne (Way.key_inj e)
 rw[Bm h3 ok,xF h3,decide_eq_true hk,Ew,h3.1]
 simp
theorem wm{H:Hp}{v:V}{m:Int}{ws:List Way}(hv:bf H v m ws)(ok:HOuse m ws):bQ H 4 v/\gG H v=true:=by
 obtain⟨p,q,bs,rfl,h1,h2,h3,h4,h5⟩:=Ei hv ok
 have hfew:=ok.few
 have t2:bQ H 2 (.ref q):=nB h2 (by rw[Ew,h3];omega) h5
 exact⟨nB h1 (by simp) (.cons (oA _ _ _) (.cons t2.up (.nil _ _))),(An h1 h2 h4 ok.m1 ok.m12 ok.ok ok.nd).trans (decide_eq_true ok.few)⟩
def iM(K:Eo):Sp:=fun vs H Q _=>∃v m ws,vs=[v]/\bf H v m ws/\HOuse m ws/\∀H',Ext H H'->Q .non H'
abbrev kJ:Stmt:=stq 21
theorem uD:FnScope ["thing"] ["thing"] (aK kJ):=⟨rfl,rfl,rfl,by decide +kernel,rfl,by decide +kernel,by decide +kernel⟩
theorem AJ{P:Program}{w:World}{K:Eo}{mg:Str->Option Value}{base:Heap}(D:Dfn K mg "refuse_no_house" kJ ["thing"])(T:Blt mg)(C_is_house:Cal P w K mg base "is_house" 5 ["thing"] (pF K)):Cal P w K mg base "refuse_no_house" 6 ["thing"] (iM K):=by
 have nd:=(uD).nd
 refine D.ok uD (fun vs H Q E h=>?_) (fun X hX H vs Q E h=>?_)
 ·obtain⟨p,w,m,rfl,_⟩:=h;rfl
 ·obtain⟨f,cdv,A,outer,s,H0,E0,rfl,hr⟩:=hX
  obtain⟨v,m,ws,rfl,h1,ok,q⟩:=h
  refine⟨_,(ao (bC (bT (bw (aD C_is_house hr (aa (pv 0) ae)))) (ao mJ) aV)),?_⟩
  walk_at "rd"
  refine⟨v,rfl,(wm h1 ok).1,fun H' e=>?_⟩
  rw[(wm h1 ok).2]
  refine rd_exb (aq ?_)
  walk_at "rd"
  exact q H' e
theorem ja{a b:Str}:decide (V.str a=V.str b)=decide (a=b):=by
 by_cases h:a=b
 ·subst h;simp
 ·rw[decide_eq_false h,decide_eq_false (fun z=>h (V.str.inj z))]
theorem bU{a b:Str}{H:Hp}{Q:VK}(h:Q (.bl (decide (a=b))) H):lg (.str a) (.str b) H Q:=⟨rfl,by rw[ja];exact h⟩
theorem qM{a b:Str}{H:Hp}{Q:VK}(h:Q (.bl (!decide (a=b))) H):mi (.str a) (.str b) H Q:=⟨rfl,by rw[ja];exact h⟩
theorem fH{α β:Type}{F:α->β->Prop}{cs:List α}{ts:List β}(h:Paired F cs ts):∀{i:Nat} {c:α},cs[i]?=some c->∃t,ts[i]?=some t/\F c t:=by
 induction h with
 | nil=>intro i c e;simp at e
 | cons h t ih=>
  intro i c e
  cases i with
  | zero=>cases e;exact⟨_,rfl,h⟩
  | succ i=>exact ih e
theorem wx{α β:Type}{F:α->β->Prop}{cs:List α}{ts:List β}(h:Paired F cs ts):∀{i:Nat} {t:β},ts[i]?=some t->∃c,cs[i]?=some c/\F c t:=by
 induction h with
 | nil=>intro i c e;simp at e
 | cons h t ih=>
  intro i c e
  cases i with
  | zero=>cases e;exact⟨_,rfl,h⟩
  | succ i=>exact ih e
abbrev ax(H:Hp)(a:Addr)(x:Bfs.Pl):Prop:=H a=some (.tup [.int x.1,.int x.2])
abbrev bh(x:Bfs.Pl):List Key:=[.inl x.1,.inl x.2]
theorem xI{x y:Bfs.Pl}(h:bh x=bh y):x=y:=by
 simp only[bh,List.cons.injEq,Sum.inl.injEq,and_true]at h
 exact Prod.ext h.1 h.2
theorem ax.put{H:Hp}{f a:Addr}{x:Bfs.Pl}{o o':HO}(hf:H f=some o)(hn:∀xs,o≠.tup xs)(h:ax H a x):ax (upd H f o') a x:=by
 show upd H f o' a=_
 rw[az (cK h hf (fun z=>hn _ z.symm))]
 exact h
def dA(m:Int)(x:Bfs.Pl):Prop:=0<=x.1/\x.1<m/\0<=x.2/\x.2<=1000
def m8(K:Eo):Sp:=fun vs H Q _=>∃hp hq m l as xs,vs=[.ref hp,.ref l]/\H hp=some (.tup [.int m,hq])/\H l=some (.lst (List.map V.ref as))/\Paired (ax H) as xs/\(∀x∈xs,dA m x)/\Q .non H
abbrev kA:Stmt:=stq 22
theorem xa:FnScope ["house","places","place"] ["house","places"] (aK kA):=⟨rfl,rfl,rfl,by decide +kernel,rfl,by decide +kernel,by decide +kernel⟩
theorem zk{P:Program}{w:World}{K:Eo}{mg:Str->Option Value}{base:Heap}(D:Dfn K mg "refuse_bad_places" kA ["house","places"])(T:Blt mg)(g_GREATEST_NUMBER:∃t,mg "GREATEST_NUMBER" = some (.int 1000 t))(C_is_room:Cal P w K mg base "is_room" 2 ["thing","many"] (oG K)):Cal P w K mg base "refuse_bad_places" 3 ["house","places"] (m8 K):=by
 have nd:=(xa).nd
 refine D.ok xa (fun vs H Q E h=>?_) (fun X hX H vs Q E h=>?_)
 ·obtain⟨hp,hq,m,l,as,xs,rfl,_⟩:=h;rfl
 ·obtain⟨f,cdv,A,outer,s,H0,E0,rfl,hr⟩:=hX
  obtain⟨t_GREATEST_NUMBER,c_GREATEST_NUMBER⟩:=g_GREATEST_NUMBER
  obtain⟨hp,hq,m,l,as,xs,rfl,h1,h2,h3,hin,q⟩:=h
  refine⟨_,(aj (bL PassesOwn.never rfl (cw K (pv 1)) (aJ (i:=2) nd rfl (Or.inl rfl)) (ao (bC (PW.pt (cM (bT (bw (aD C_is_room hr (aa (ai (aA K) (pv 2) af (fun _ _=>rfl)) (aa (ai (aA K) (pv 0) af (fun _ _=>rfl)) ae))))) (dh (aT eB (ai (aA K) (pv 2) af (fun _ _=>rfl)) af (aQ _))))) (ao mJ) aV)))
    (ao (bL PassesOwn.never rfl (cw K (pv 1)) (aJ (i:=2) nd rfl (Or.inl rfl)) (ao (bC (aT gn (ai (aA K) (pv 2) af (fun _ _=>rfl)) (nV (v:=.int 1000) rfl c_GREATEST_NUMBER ⟨_,rfl⟩) (aQ _)) (ao mJ) aV))))),?_⟩
  walk_at "rd"
  refine cj (ag.of h2) ?_
  refine forL (xs:=List.map V.ref as) (fun i σ H'=>H'=H/\∃k,σ=[some (.ref hp),some (.ref l),k]) ⟨rfl,none,rfl⟩ (fun i σ H' _ h=>by rw[h.1];exact ag.of h2) ?_ ?_
  ·rintro i x σ H' hx ⟨rfl,k,rfl⟩
   rw[Ey]at hx
   obtain⟨b,hb,rfl⟩:=EH.mp hx
   obtain⟨t,ht,hp3⟩:=fH h3 hb
   obtain⟨r0,r1,n0,n1⟩:=hin t (EF ht)
   walk_at "rd"
   refine ay (ah.of hp3) (v:=.int t.1) rfl ?_
   walk_at "rd"
   refine ay (ah.of h1) (v:=.int m) rfl ?_
   walk_at "rd"
   refine⟨_,_,"int",rfl,rfl,?_⟩
   rw[nY r0 r1]
   walk_at "rd"
   refine aq ?_
   walk_at "rd"
   refine ay (ah.of hp3) (v:=.int t.2) rfl ?_
   walk_at "rd"
   rw[decide_eq_false (show ¬t.2<0 by omega)]
   refine aq ?_
   walk_at "rd"
   exact⟨rfl,_,rfl⟩
  ·rintro σ H' ⟨rfl,k,rfl⟩
   walk_at "rd"
   refine cj (ag.of h2) ?_
   refine forL (xs:=List.map V.ref as) (fun i σ H2=>H2=H'/\∃k,σ=[some (.ref hp),some (.ref l),k]) ⟨rfl,_,rfl⟩ (fun i σ H2 _ h=>by rw[h.1];exact ag.of h2) ?_ ?_
   ·rintro i x σ H2 hx ⟨rfl,k,rfl⟩
    rw[Ey]at hx
    obtain⟨b,hb,rfl⟩:=EH.mp hx
    obtain⟨t,ht,hp3⟩:=fH h3 hb
    obtain⟨r0,r1,n0,n1⟩:=hin t (EF ht)
    walk_at "rd"
    refine ay (ah.of hp3) (v:=.int t.2) rfl ?_
    walk_at "rd"
    rw[decide_eq_false (show ¬(1000:Int)<t.2 by omega)]
    refine aq ?_
    walk_at "rd"
    exact⟨rfl,_,rfl⟩
   ·rintro σ H2 ⟨rfl,k,rfl⟩
    walk_at "rd"
    exact q
def bW(w:Way)(r n:Int):Bool:=decide (w.room=r) && (if decide (w.deed = "down")=true then decide (0<n)else(!decide (w.deed = "zero") || decide (n=0)))
def oK(K:Eo):Sp:=fun vs H Q _=>∃b w p x,vs=[.ref b,.ref p]/\H b=some (.tup (Way.vs w))/\ax H p x/\Q (.bl (bW w x.1 x.2)) H
abbrev jQ:Stmt:=stq 23
theorem wd:FnScope ["way","place"] ["way","place"] (aK jQ):=⟨rfl,rfl,rfl,by decide +kernel,rfl,by decide +kernel,by decide +kernel⟩
theorem Cu{P:Program}{w:World}{K:Eo}{mg:Str->Option Value}{base:Heap}(D:Dfn K mg "is_open" jQ ["way","place"])(T:Blt mg):Cal P w K mg base "is_open" 1 ["way","place"] (oK K):=by
 have nd:=(wd).nd
 refine D.ok wd (fun vs H Q E h=>?_) (fun X hX H vs Q E h=>?_)
 ·obtain⟨b,w,p,x,rfl,_⟩:=h;rfl
 ·obtain⟨f,cdv,A,outer,s,H0,E0,rfl,hr⟩:=hX
  obtain⟨b,w,p,⟨r,n⟩,rfl,h1,h2,q⟩:=h
  refine⟨_,(aj (bC (aT fL (ai (aA K) (pv 0) af (fun _ _=>rfl)) (ai (aA K) (pv 1) af (fun _ _=>rfl)) (aQ _)) (ao (aF bI)) aV)
    (aj (bC (aT bM (ai (aA K) (pv 0) af (fun _ _=>rfl)) aS (aQ _)) (ao (aF (dF gn (ai (aA K) (pv 1) af (fun _ _=>rfl)) af (aQ _)))) aV)
    (ao (aF (tI (dF fL (ai (aA K) (pv 0) af (fun _ _=>rfl)) aS (aQ _)) (dX (dF bM (ai (aA K) (pv 1) af (fun _ _=>rfl)) af (aQ _)))))))),?_⟩
  walk_at "rd"
  refine ay (ah.of h1) (v:=.int w.room) rfl ?_
  walk_at "rd"
  refine ay (ah.of h2) (v:=.int r) rfl ?_
  walk_at "rd"
  unfold bW at q
  dsimp only at q
  by_cases e:w.room=r
  ·rw[decide_eq_true e]
   refine aq ?_
   walk_at "rd"
   rw[decide_eq_true e,Bool.true_and]at q
   refine ay (ah.of h1) (v:=.str w.deed) rfl ?_
   walk_at "rd"
   refine bU ?_
   refine rd_exb ?_
   cases ed:decide (w.deed = "down")with
   | true=>
    rw[ed]at q
    refine aC ?_
    walk_at "rd"
    refine ay (ah.of h2) (v:=.int n) rfl ?_
    walk_at "rd"
    exact q
   | false=>
    rw[ed]at q
    refine aq ?_
    walk_at "rd"
    refine ay (ah.of h1) (v:=.str w.deed) rfl ?_
    walk_at "rd"
    refine qM ?_
    refine rd_exb ?_
    cases ez:decide (w.deed = "zero")with
    | true=>
     rw[ez]at q
     refine aq ?_
     walk_at "rd"
     refine ay (ah.of h2) (v:=.int n) rfl ?_
     walk_at "rd"
     exact q
    | false=>
     rw[ez]at q
     exact aC q
  ·rw[decide_eq_false e]
   refine aC ?_
   walk_at "rd"
   rw[decide_eq_false e,Bool.false_and]at q
   exact q
def n8:List (Key×V):=[(.inr "up",.int 1),(.inr "down",.int (-1)),(.inr "stay",.int 0),(.inr "zero",.int 0)]
theorem Bt{w:World}{K:Eo}{a:Addr}{t1 t2 t3 t4 t5 t6 t7 t8:Tok}{ep:Nat}(h:K.lookup a=some (iB w [("up",t1,.int 1 t2),("down",t3,.int (-1) t4),("stay",t5,.int 0 t6),("zero",t7,.int 0 t8)] ep))(hs:(a == sysModules)=false):GDict w K a n8:=
 ⟨⟨_,_,h,.cons ⟨rfl,⟨_,rfl⟩⟩ (.cons ⟨rfl,⟨_,rfl⟩⟩ (.cons ⟨rfl,⟨_,rfl⟩⟩ (.cons ⟨rfl,⟨_,rfl⟩⟩ .nil)))⟩,by decide +kernel,hs⟩
def rz(z:Str):Int:=if z = "up" then 1 else if z = "down" then -1 else 0
theorem A1{z:Str}(h:bR z):bJ n8 (.inr z)=some (.int (rz z)):=by
 rcases h with rfl | rfl | rfl | rfl<;>decide +kernel
def xM(K:Eo):Sp:=fun vs H Q _=>∃b w,vs=[.ref b]/\H b=some (.tup (Way.vs w))/\bR w.deed/\Q (.int (rz w.deed)) H
abbrev lM:Stmt:=stq 24
theorem s9:FnScope ["way"] ["way"] (aK lM):=⟨rfl,rfl,rfl,by decide +kernel,rfl,by decide +kernel,by decide +kernel⟩
theorem Bw{P:Program}{w:World}{K:Eo}{mg:Str->Option Value}{base:Heap}(D:Dfn K mg "raised_by" lM ["way"])(T:Blt mg)(g_RAISED:∃a,mg "RAISED" = some (.ref a)/\GDict w K a n8):Cal P w K mg base "raised_by" 1 ["way"] (xM K):=by
 have nd:=(s9).nd
 refine D.ok s9 (fun vs H Q E h=>?_) (fun X hX H vs Q E h=>?_)
 ·obtain⟨b,w,rfl,_⟩:=h;rfl
 ·obtain⟨f,cdv,A,outer,s,H0,E0,rfl,hr⟩:=hX
  obtain⟨a_RAISED,m_RAISED,d_RAISED⟩:=g_RAISED
  obtain⟨b,w,rfl,h1,hd,q⟩:=h
  refine⟨_,(ao (aF (xT rfl m_RAISED d_RAISED (ai (aA K) (pv 0) af (fun _ _=>rfl)) (fun _ _=>rfl)))),?_⟩
  walk_at "rd"
  refine ay (ah.of h1) (v:=.str w.deed) rfl ?_
  exact AA (A1 hd) q
theorem ya(z:Str):-1<=rz z:=by
 unfold rz
 split
 ·decide
 ·split<;>decide
theorem yw(z:Str):rz z<=1:=by
 unfold rz
 split
 ·decide
 ·split<;>decide
def oj(K:Eo):Sp:=fun vs H Q _=>∃b w p x,vs=[.ref b,.ref p]/\H b=some (.tup (Way.vs w))/\bR w.deed/\ax H p x/\∀t H',Ext H H'->ax H' t (w.other,x.2+rz w.deed)->H t=none->Q (.ref t) H'
abbrev kg:Stmt:=stq 25
theorem qO:FnScope ["way","place"] ["way","place"] (aK kg):=⟨rfl,rfl,rfl,by decide +kernel,rfl,by decide +kernel,by decide +kernel⟩
theorem Bo{P:Program}{w:World}{K:Eo}{mg:Str->Option Value}{base:Heap}(D:Dfn K mg "led_to" kg ["way","place"])(T:Blt mg)(C_raised_by:Cal P w K mg base "raised_by" 1 ["way"] (xM K)):Cal P w K mg base "led_to" 2 ["way","place"] (oj K):=by
 have nd:=(qO).nd
 refine D.ok qO (fun vs H Q E h=>?_) (fun X hX H vs Q E h=>?_)
 ·obtain⟨b,w,p,x,rfl,_⟩:=h;rfl
 ·obtain⟨f,cdv,A,outer,s,H0,E0,rfl,hr⟩:=hX
  obtain⟨b,w,p,⟨r,n⟩,rfl,h1,hd,h2,q⟩:=h
  refine⟨_,(ao (aF (bA (aa (ai (aA K) (pv 0) af (fun _ _=>rfl)) (aa (av aU (ai (aA K) (pv 1) af (fun _ _=>rfl)) (aD C_raised_by hr (aa (pv 0) ae))) ae))))),?_⟩
  walk_at "rd"
  refine ay (ah.of h1) (v:=.int w.other) rfl ?_
  walk_at "rd"
  refine ay (ah.of h2) (v:=.int n) rfl ?_
  walk_at "rd"
  refine⟨b,w,rfl,h1,hd,?_⟩
  walk_at "rd"
  refine⟨aB (by simp),aE fun t H1 e1 ht htn=>?_⟩
  exact q t H1 e1 ht htn
theorem wb{K:Eo}{a:Addr}{xs:List V}{g:TG}{tb:TS}{D:Ends}{σ:St}{H:Hp}(Pv:Nat->St->Hp->Prop)(h0:Pv 0 σ H)(hl:∀i σ H,i<=xs.length->Pv i σ H->ah K H a xs)
  (hs:∀i u σ H p H',xs[i]?=some u->Pv i σ H->Ext H H'->H' p=some (.tup [.int i,u])->H p=none->g (.ref p) σ H' fun σ2 H2=>tb { D with nx:=Pv (i+1),ct:=Pv (i+1),bk:=D.nx } σ2 H2) (hd:∀σ H,Pv xs.length σ H->D.nx σ H) :
  jc (fV K a) g tb D σ H:=A8 Pv h0 hl hs hd
def cq(z:Str)(n:Int):Option Int:=
 if decide (z = "up")=true then some (n+1)else if decide (z = "down")=true then(if decide (0<n)=true then some (n-1)else none)else if decide (z = "stay")=true then some n else if decide (z = "zero")=true then(if decide (n=0)=true then some n else none)else none
def dO(w:Way)(r n:Int)(j:Nat):List (Int×Int×Int):=if decide (w.room=r)=true then((cq w.deed n).map fun n'=>((j:Int),w.other,n')).toList else[]
def df(ws:List Way)(r n:Int):Nat->List (Int×Int×Int)
 | 0=>[]
 | k+1=>df ws r n k++((ws[k]?).map fun w=>dO w r n k).getD []
theorem yV{ws:List Way}{r n:Int}{i:Nat}{w:Way}(h:ws[i]?=some w):df ws r n (i+1)=df ws r n i++dO w r n i:=by
 show _++((ws[i]?).map fun w=>dO w r n i).getD []=_
 rw[h]
 rfl
theorem A6(w:Way)(r n:Int)(j:Nat):(dO w r n j).length<=1:=by
 unfold dO
 split
 ·cases cq w.deed n<;>simp
 ·simp
theorem ow(ws:List Way)(r n:Int):∀k,(df ws r n k).length<=k
 | 0=>ER _
 | k+1=>by
  have:=ow ws r n k
  show(df ws r n k++((ws[k]?).map fun w=>dO w r n k).getD []).length<=k+1
  rw[EN]
  cases h:ws[k]? with
  | none=>simp;omega
  | some w=>
   have:=A6 w r n k
   simp;omega
theorem uL{w:Way}{r n:Int}{j:Nat}(h:w.room≠r):dO w r n j=[]:=by
 unfold dO
 rw[decide_eq_false h]
 rfl
theorem fB{w:Way}{r n:Int}{j:Nat}{o:Option Int}(h:w.room=r)(hs:cq w.deed n=o):dO w r n j=(o.map fun n'=>((j:Int),w.other,n')).toList:=by
 unfold dO
 rw[decide_eq_true h,hs]
 rfl
def cQ(H:Hp)(c:Addr)(t:Int×Int×Int):Prop:=∃d,H c=some (.tup [.int t.1,.ref d])/\H d=some (.tup [.int t.2.1,.int t.2.2])
theorem vk{H H':Hp}(f:∀c t,cQ H c t->cQ H' c t){cs:List Addr}{ts:List (Int×Int×Int)}(h:Paired (cQ H) cs ts):Paired (cQ H') cs ts:=by
 induction h with
 | nil=>exact .nil
 | cons h t ih=>exact .cons (f _ _ h) ih
theorem BE{H:Hp}{cs:List Addr}{ts:List (Int×Int×Int)}{c:Addr}{t:Int×Int×Int}(h:Paired (cQ H) cs ts)(ht:cQ H c t):Paired (cQ H) (cs++[c]) (ts++[t]):=by
 induction h with
 | nil=>exact .cons ht .nil
 | cons h _ ih=>exact .cons h ih
theorem cQ.ext{H H':Hp}(e:Ext H H'){c:Addr}{t:Int×Int×Int}(h:cQ H c t):cQ H' c t:=by
 obtain⟨d,h1,h2⟩:=h
 exact⟨d,e _ _ h1,e _ _ h2⟩
theorem cQ.put{H:Hp}{f:Addr}{xs ys:List V}(hf:H f=some (.lst xs)){c:Addr}{t:Int×Int×Int}(h:cQ H c t):cQ (upd H f (.lst ys)) c t:=by
 obtain⟨d,h1,h2⟩:=h
 exact⟨d,by rw[az (cK h1 hf (by intro z;cases z))];exact h1,by rw[az (cK h2 hf (by intro z;cases z))];exact h2⟩
structure BL(H0 H:Hp)(f:Addr)(ts:List (Int×Int×Int)):Prop where
 ext:Ext H0 H
 at_:∃cs:List Addr,H f=some (.lst (cs.map V.ref))/\Paired (cQ H) cs ts
theorem BL.push{H0 H H1:Hp}{f c d:Addr}{ts:List (Int×Int×Int)}{j o n:Int}(h:BL H0 H f ts)(hfn:H0 f=none)(e:Ext H H1)(hd:H1 d=some (.tup [.int o,.int n]))(hc:H1 c=some (.tup [.int j,.ref d])):
  ∃xs,H1 f=some (.lst xs)/\xs.length=ts.length/\BL H0 (upd H1 f (.lst (xs++[.ref c]))) f (ts++[(j,o,n)]):=by
 obtain⟨e0,cs,hf,al⟩:=h
 have hf1:=e _ _ hf
 have hp:cQ H1 c (j,o,n):=⟨d,hc,hd⟩
 refine⟨cs.map V.ref,hf1,by rw[Ew];exact Paired.length al,cx (e0.trans e) hfn,cs++[c],by rw[aL,EM];rfl,BE (vk (fun _ _ z=>(z.ext e).put hf1) al) (hp.put hf1)⟩
theorem BL.ty{K:Eo}{H0 H H1:Hp}{f:Addr}{ts:List (Int×Int×Int)}(h:BL H0 H f ts)(e:Ext H H1):gL K "list" (.ref f) H1:=by
 obtain⟨_,cs,hf,al⟩:=h
 exact cS (ag.of (e _ _ hf))
theorem BL.step{H0 H H1:Hp}{f:Addr}{ts:List (Int×Int×Int)}(h:BL H0 H f ts)(e:Ext H H1):BL H0 H1 f ts:=by
 obtain⟨e0,cs,hf,al⟩:=h
 exact⟨e0.trans e,cs,e _ _ hf,vk (fun _ _ z=>z.ext e) al⟩
theorem qj:decide ((Str.ofString "up")=Str.ofString "down")=false:=by decide +kernel
theorem Ag:decide ((Str.ofString "up")=Str.ofString "stay")=false:=by decide +kernel
theorem q9:decide ((Str.ofString "up")=Str.ofString "zero")=false:=by decide +kernel
theorem qU:decide ((Str.ofString "down")=Str.ofString "up")=false:=by decide +kernel
theorem rZ:decide ((Str.ofString "down")=Str.ofString "stay")=false:=by decide +kernel
theorem qk:decide ((Str.ofString "down")=Str.ofString "zero")=false:=by decide +kernel
theorem tJ:decide ((Str.ofString "stay")=Str.ofString "up")=false:=by decide +kernel
theorem mE:decide ((Str.ofString "stay")=Str.ofString "down")=false:=by decide +kernel
theorem qT:decide ((Str.ofString "zero")=Str.ofString "up")=false:=by decide +kernel
theorem mR:decide ((Str.ofString "zero")=Str.ofString "down")=false:=by decide +kernel
theorem pW:decide ((Str.ofString "zero")=Str.ofString "stay")=false:=by decide +kernel
theorem eJ(z:Str):decide (z=z)=true:=decide_eq_true rfl
theorem jf(n:Int):cq "up" n=some (n+1):=by unfold cq;rw[eJ];rfl
theorem f6(n:Int):cq "down" n=if decide (0<n)=true then some (n-1)else none:=by unfold cq;rw[qU,eJ];rfl
theorem jr(n:Int):cq "stay" n=some n:=by unfold cq;rw[tJ,mE,eJ];rfl
theorem fW(n:Int):cq "zero" n=if decide (n=0)=true then some n else none:=by unfold cq;rw[qT,mR,pW,eJ];rfl
def sq(K:Eo):Sp:=fun vs H Q _=>∃v m ws p r n,vs=[v,.ref p]/\bf H v m ws/\HOuse m ws/\H p=some (.tup [.int r,.int n]) ∧
 ∀l H' cs,Ext H H'->H l=none->H' l=some (.lst (List.map V.ref cs))->Paired (cQ H') cs (df ws r n ws.length)->Q (.ref l) H'
abbrev jN:Stmt:=stq 68
theorem rT:FnScope ["_law_house_here","_law_place_here","_law_found","_law_k","_law_room","_law_deed","_law_other","_law_sign"] ["_law_house_here","_law_place_here"] (aK jN):=⟨rfl,rfl,rfl,by decide +kernel,rfl,by decide +kernel,by decide +kernel⟩
theorem Cy{P:Program}{w:World}{K:Eo}{mg:Str->Option Value}{base:Heap}(D:Dfn K mg "_law_behind" jN ["_law_house_here","_law_place_here"])(T:Blt mg):Cal P w K mg base "_law_behind" 1 ["_law_house_here","_law_place_here"] (sq K):=by
 have nd:=(rT).nd
 refine D.ok rT (fun vs H Q E h=>?_) (fun X hX H vs Q E h=>?_)
 ·obtain⟨v,m,ws,p,r,n,rfl,_⟩:=h;rfl
 ·obtain⟨f,cdv,A,outer,s,H0,E0,rfl,hr⟩:=hX
  obtain⟨v,m,ws,p,r,n,rfl,⟨hh,t,rfl,g1,g2⟩,ok,hp,q⟩:=h
  obtain⟨bs,g3,al⟩:=cn.al g2
  have hfew:=ok.few
  refine⟨_,(aj (aG (i:=2) nd rfl (Or.inl rfl) (bz ae))
    (aj (bL PassesOwn.never rfl (uI K rfl T.enumerate_ (aa (ai (aA K) (pv 0) af (fun _ _=>rfl)) ae)) (eP (n:=2) K rfl (bE (aJ (i:=3) nd rfl (Or.inl rfl)) (bE (eP (n:=4) K rfl (bE (aJ (i:=4) nd rfl (Or.inl rfl)) (bE (aJ (i:=5) nd rfl (Or.inl rfl)) (bE (aJ (i:=6) nd rfl (Or.inl rfl)) (bE (aJ (i:=7) nd rfl (Or.inl rfl)) eA))))) eA))) (ao (cL (aT bM (pv 4) (ai (aA K) (pv 1) af (fun _ _=>rfl)) (aQ _)) (aj (cL (aT bM (pv 5) aS (aQ _)) (ao (bo (bG K ED ES ET bO (pv 2) (aa (bA (aa (pv 3) (aa (bA (aa (pv 6) (aa (av aU (ai (aA K) (pv 1) af (fun _ _=>rfl)) af) ae))) ae))) ae)))) aV)
    (aj (cL (PW.pt (fI (aT bM (pv 5) aS (aQ _)) (fZ (aT gn (ai (aA K) (pv 1) af (fun _ _=>rfl)) af (aQ _))))) (ao (bo (bG K ED ES ET bO (pv 2) (aa (bA (aa (pv 3) (aa (bA (aa (pv 6) (aa (av cX (ai (aA K) (pv 1) af (fun _ _=>rfl)) af) ae))) ae))) ae)))) aV)
    (ao (cL (PW.pt (cM (aT bM (pv 5) aS (aQ _)) (dh (PW.pt (fI (aT bM (pv 5) aS (aQ _)) (fZ (aT bM (ai (aA K) (pv 1) af (fun _ _=>rfl)) af (aQ _)))))))) (ao (bo (bG K ED ES ET bO (pv 2) (aa (bA (aa (pv 3) (aa (bA (aa (pv 6) (aa (ai (aA K) (pv 1) af (fun _ _=>rfl)) ae))) ae))) ae)))) aV)))) aV)))
    (ao (aF (pv 2))))),?_⟩
  walk_at "rd"
  refine⟨aB (by simp),aE fun f H1 e1 hf hfn=>?_⟩
  walk_at "rd"
  refine ay (ah.of (e1 _ _ g1)) (v:=.ref t) rfl ?_
  walk_at "rd"
  refine vw (ah.of (e1 _ _ g3)) ?_
  refine wb (xs:=bs.map V.ref) (fun i σ H'=>∃k1 k2 k3 k4 k5,σ=[some (.ref hh),some (.ref p),some (.ref f),k1,k2,k3,k4,k5]/\BL H H' f (df ws r n i)) ⟨none,none,none,none,none,rfl,e1,[],hf,.nil⟩ (fun i σ H' _ h=>by obtain⟨_,_,_,_,_,_,bl⟩:=h;exact ah.of (bl.ext _ _ g3)) ?_ ?_
  ·rintro i u σ H2 pp H3 hu ⟨k1,k2,k3,k4,k5,rfl,bl0⟩ e3 hpp _
   rw[Ey]at hu
   obtain⟨b,hb,rfl⟩:=EH.mp hu
   have hi:i<ws.length:=by
    rw[←al.1]
    exact(EE.mp hb).1
   have hwi:ws[i]?=some ws[i]:=Ex hi
   have bl:=bl0.step e3
   have hw:=bl.ext _ _ (al.2 i b _ hb hwi)
   have hp3:=bl.ext _ _ hp
   have okw:=(ok.ok _ (EX hi)).dd
   rw[yV hwi]
   have hlen:=ow ws r n i
   generalize df ws r n i=ts at bl hlen
   clear bl0 hwi
   generalize ws[i]=w at hw okw ⊢
   obtain⟨room,deed,other,sign⟩:=w
   refine eG (ah.of hpp) rfl ?_
   walk_at "rd"
   refine eG (ah.of hw) rfl ?_
   walk_at "rd"
   refine bZ ?_
   walk_at "rd"
   refine ay (ah.of hp3) (v:=.int r) rfl ?_
   walk_at "rd"
   by_cases er:room=r
   rotate_left
   ·rw[decide_eq_false er]
    refine aq ?_
    walk_at "rd"
    refine⟨_,_,_,_,_,rfl,?_⟩
    rw[uL er,List.append_nil]
    exact bl
   ·rw[decide_eq_true er]
    refine aC ?_
    rcases okw with e | e | e | e<;>(simp only at e;subst e)
    ·rw[fB er (jf n)]
     walk_at "rd"
     refine bZ ?_
     walk_at "rd"
     refine bU ?_
     rw[eJ]
     refine rd_exb (aC ?_)
     walk_at "rd"
     refine⟨bl.ty (Ext.rfl' _),?_⟩
     walk_at "rd"
     refine ay (ah.of hp3) (v:=.int n) rfl ?_
     walk_at "rd"
     refine⟨aB (by simp),aE fun d H4 e4 hd _=>?_⟩
     walk_at "rd"
     refine⟨aB (by simp),aE fun c H5 e5 hc _=>?_⟩
     walk_at "rd"
     obtain⟨xs,hx,hlx,bl'⟩:=bl.push hfn (e4.trans e5) (e5 _ _ hd) hc
     refine bN hx (cU (by omega)) ?_
     generalize upd H5 f _=H6 at bl' ⊢
     walk_at "rd"
     refine bZ ?_
     walk_at "rd"
     refine bU ?_
     rw[qj]
     refine rd_exb (aq ?_)
     refine aq ?_
     walk_at "rd"
     refine bZ ?_
     walk_at "rd"
     refine bU ?_
     rw[Ag]
     refine rd_exb (aq ?_)
     walk_at "rd"
     refine bU ?_
     rw[q9]
     refine rd_exb (aq ?_)
     refine aq ?_
     walk_at "rd"
     exact⟨_,_,_,_,_,rfl,bl'⟩
    ·-- down
     walk_at "rd"
     refine bZ ?_
     walk_at "rd"
     refine bU ?_
     rw[qU]
     refine rd_exb (aq ?_)
     walk_at "rd"
     refine bZ ?_
     walk_at "rd"
     refine bU ?_
     rw[eJ]
     refine rd_exb (aC ?_)
     walk_at "rd"
     refine ay (ah.of hp3) (v:=.int n) rfl ?_
     walk_at "rd"
     by_cases hn:0<n
     ·rw[decide_eq_true hn]
      refine aC ?_
      walk_at "rd"
      refine⟨bl.ty (Ext.rfl' _),?_⟩
      walk_at "rd"
      refine ay (ah.of hp3) (v:=.int n) rfl ?_
      walk_at "rd"
      refine⟨aB (by simp),aE fun d H4 e4 hd _=>?_⟩
      walk_at "rd"
      refine⟨aB (by simp),aE fun c H5 e5 hc _=>?_⟩
      walk_at "rd"
      obtain⟨xs,hx,hlx,bl'⟩:=bl.push hfn (e4.trans e5) (e5 _ _ hd) hc
      refine bN hx (cU (by omega)) ?_
      generalize upd H5 f _=H6 at bl' ⊢
      walk_at "rd"
      refine bZ ?_
      walk_at "rd"
      refine bU ?_
      rw[rZ]
      refine rd_exb (aq ?_)
      walk_at "rd"
      refine bU ?_
      rw[qk]
      refine rd_exb (aq ?_)
      refine aq ?_
      walk_at "rd"
      refine⟨_,_,_,_,_,rfl,?_⟩
      rw[fB er (f6 n),decide_eq_true hn]
      exact bl'
     ·rw[decide_eq_false hn]
      refine aq ?_
      walk_at "rd"
      refine bZ ?_
      walk_at "rd"
      refine bU ?_
      rw[rZ]
      refine rd_exb (aq ?_)
      walk_at "rd"
      refine bU ?_
      rw[qk]
      refine rd_exb (aq ?_)
      refine aq ?_
      walk_at "rd"
      refine⟨_,_,_,_,_,rfl,?_⟩
      rw[fB er (f6 n),decide_eq_false hn]
      simpa using bl
    ·-- stay
     walk_at "rd"
     refine bZ ?_
     walk_at "rd"
     refine bU ?_
     rw[tJ]
     refine rd_exb (aq ?_)
     walk_at "rd"
     refine bZ ?_
     walk_at "rd"
     refine bU ?_
     rw[mE]
     refine rd_exb (aq ?_)
     refine aq ?_
     walk_at "rd"
     refine bZ ?_
     walk_at "rd"
     refine bU ?_
     rw[eJ]
     refine rd_exb (aC ?_)
     refine aC ?_
     walk_at "rd"
     refine⟨bl.ty (Ext.rfl' _),?_⟩
     walk_at "rd"
     refine ay (ah.of hp3) (v:=.int n) rfl ?_
     walk_at "rd"
     refine⟨aB (by simp),aE fun d H4 e4 hd _=>?_⟩
     walk_at "rd"
     refine⟨aB (by simp),aE fun c H5 e5 hc _=>?_⟩
     walk_at "rd"
     obtain⟨xs,hx,hlx,bl'⟩:=bl.push hfn (e4.trans e5) (e5 _ _ hd) hc
     refine bN hx (cU (by omega)) ?_
     generalize upd H5 f _=H6 at bl' ⊢
     walk_at "rd"
     refine⟨_,_,_,_,_,rfl,?_⟩
     rw[fB er (jr n)]
     exact bl'
    ·-- zero
     walk_at "rd"
     refine bZ ?_
     walk_at "rd"
     refine bU ?_
     rw[qT]
     refine rd_exb (aq ?_)
     walk_at "rd"
     refine bZ ?_
     walk_at "rd"
     refine bU ?_
     rw[mR]
     refine rd_exb (aq ?_)
     refine aq ?_
     walk_at "rd"
     refine bZ ?_
     walk_at "rd"
     refine bU ?_
     rw[pW]
     refine rd_exb (aq ?_)
     walk_at "rd"
     refine bU ?_
     rw[eJ]
     refine rd_exb (aC ?_)
     walk_at "rd"
     refine ay (ah.of hp3) (v:=.int n) rfl ?_
     walk_at "rd"
     by_cases hn:n=0
     ·rw[decide_eq_true hn]
      refine aC ?_
      walk_at "rd"
      refine⟨bl.ty (Ext.rfl' _),?_⟩
      walk_at "rd"
      refine ay (ah.of hp3) (v:=.int n) rfl ?_
      walk_at "rd"
      refine⟨aB (by simp),aE fun d H4 e4 hd _=>?_⟩
      walk_at "rd"
      refine⟨aB (by simp),aE fun c H5 e5 hc _=>?_⟩
      walk_at "rd"
      obtain⟨xs,hx,hlx,bl'⟩:=bl.push hfn (e4.trans e5) (e5 _ _ hd) hc
      refine bN hx (cU (by omega)) ?_
      generalize upd H5 f _=H6 at bl' ⊢
      walk_at "rd"
      refine⟨_,_,_,_,_,rfl,?_⟩
      rw[fB er (fW n),decide_eq_true hn]
      exact bl'
     ·rw[decide_eq_false hn]
      refine aq ?_
      walk_at "rd"
      refine⟨_,_,_,_,_,rfl,?_⟩
      rw[fB er (fW n),decide_eq_false hn]
      simpa using bl
  ·rintro σ H' ⟨k1,k2,k3,k4,k5,rfl,bl⟩
   rw[Ew,al.1]at bl
   obtain⟨ew,cs,hcs,hpd⟩:=bl
   walk_at "rd"
   exact q f H' cs ew hfn hcs hpd
theorem BJ{α:Type}{l:List α}(hn:l.Nodup){i j:Nat}{a:α}(hi:l[i]?=some a)(hj:l[j]?=some a):i=j:=by
 obtain⟨h1,e1⟩:=EE.mp hi
 obtain⟨h2,e2⟩:=EE.mp hj
 rcases Nat.lt_trichotomy i j with z | z | z
 ·exact absurd (e1.trans e2.symm) (List.pairwise_iff_getElem.mp hn i j h1 h2 z)
 ·exact z
 ·exact absurd (e2.trans e1.symm) (List.pairwise_iff_getElem.mp hn j i h2 h1 z)
def dj(ws:List Way)(r:Int)(k:Nat):List Nat:=(List.range k).filter fun j=>(ws[j]?).any fun w=>decide (w.room=r)
theorem BI{ws:List Way}{r:Int}{i:Nat}{w:Way}(h:ws[i]?=some w):dj ws r (i+1)=dj ws r i++if w.room=r then[i]else[]:=by
 unfold dj
 rw[List.range_succ,List.filter_append]
 congr 1
 simp only[List.filter_cons,List.filter_nil,h,Option.any_some]
 by_cases e:w.room=r
 ·rw[decide_eq_true e,if_pos rfl,if_pos e]
 ·rw[decide_eq_false e,if_neg (by decide),if_neg e]
theorem Co(ws:List Way)(r:Int)(k:Nat):(dj ws r k).length<=k:=by
 unfold dj
 exact E4 (List.length_filter_le _ _) (Nat.le_of_eq List.length_range)
theorem BD{ws:List Way}{r:Int}{j:Nat}{w:Way}(h:ws[j]?=some w)(e:w.room=r):j∈dj ws r ws.length:=by
 unfold dj
 rw[List.mem_filter,List.mem_range,h]
 exact⟨(EE.mp h).1,by simp[e]⟩
theorem DM{ws:List Way}{r:Int}{j:Nat}(h:j∈dj ws r ws.length):∃w,ws[j]?=some w/\w.room=r:=by
 unfold dj at h
 rw[List.mem_filter,List.mem_range]at h
 have e:=Ex h.1
 rw[e]at h
 exact⟨_,e,by simpa using h.2⟩
theorem fU{n:Nat}(h:n<=24100):n<sizeLine:=Nat.lt_of_le_of_lt h (by decide)
abbrev b9(l:List Nat):List V:=l.map fun j:Nat=>V.int (j:Int)
theorem tp(l:List Nat)(k:Nat):b9 (l++[k])=b9 l++[.int (k:Int)]:=EM
structure CT(H:Hp)(c:Addr)(m:Int)(ls:List Addr)(ws:List Way)(k:Nat):Prop where
 at_:H c=some (.lst (List.map V.ref ls))
 len:ls.length=m.toNat
 nd:ls.Nodup
 it:∀(r:Nat) (l:Addr),ls[r]?=some l->H l=some (.lst (b9 (dj ws r k)))
theorem CT.ext{H H':Hp}{c:Addr}{m:Int}{ls:List Addr}{ws:List Way}{k:Nat}(e:Ext H H')(h:CT H c m ls ws k):CT H' c m ls ws k:=
 ⟨e _ _ h.at_,h.len,h.nd,fun r l hl=>e _ _ (h.it r l hl)⟩
def um(K:Eo):Sp:=fun vs H Q _=>∃v m ws,vs=[v]/\bf H v m ws/\HOuse m ws/\∀c ls H',Ext H H'->CT H' c m ls ws ws.length->Q (.ref c) H'
abbrev kr:Stmt:=stq 46
theorem si:FnScope ["house","counts","count","way"] ["house"] (aK kr):=⟨rfl,rfl,rfl,by decide +kernel,rfl,by decide +kernel,by decide +kernel⟩
theorem zr{P:Program}{w:World}{K:Eo}{mg:Str->Option Value}{base:Heap}(D:Dfn K mg "counts_by_room" kr ["house"])(T:Blt mg):Cal P w K mg base "counts_by_room" 1 ["house"] (um K):=by
 have nd:=(si).nd
 refine D.ok si (fun vs H Q E h=>?_) (fun X hX H vs Q E h=>?_)
 ·obtain⟨v,m,ws,rfl,_⟩:=h;rfl
 ·obtain⟨f,cdv,A,outer,s,H0,E0,rfl,hr⟩:=hX
  obtain⟨v,m,ws,rfl,⟨hh,t,rfl,g1,g2⟩,ok,q⟩:=h
  obtain⟨bs,g3,al⟩:=cn.al g2
  have hfew:=ok.few
  have m1:=ok.m1
  have m2:=ok.m12
  refine⟨_,(aj (f7 (i:=1) ["room"] [] nd rfl (Or.inl rfl) (cI rfl T.range_ (aa (ai (aA K) (pv 0) af (fun _ _=>rfl)) ae)) (fun _=>(aJ (i:=0) (show(["room"]:List Str).Nodup from by decide +kernel) rfl (Or.inl rfl) (Or.inr rfl))) (fun _=>dm) (fun _=>(bz ae)))
    (aj (bL PassesOwn.never rfl (uI K rfl T.enumerate_ (aa (ai (aA K) (pv 0) af (fun _ _=>rfl)) ae)) (eP (n:=2) K rfl (bE (aJ (i:=2) nd rfl (Or.inl rfl)) (bE (aJ (i:=3) nd rfl (Or.inl rfl)) eA))) (ao (bo (bG K ED ES ET bO (ai (aI K) (pv 1) (ai (aA K) (pv 3) af (fun _ _=>rfl)) (fun _ _=>rfl)) (aa (pv 2) ae)))))
    (ao (aF (pv 1))))),?_⟩
  walk_at "rd"
  refine ay (ah.of g1) (v:=.int m) rfl ?_
  walk_at "rd"
  refine cG ⟨by omega,by omega⟩ ?_
  refine fm (fun i ys H'=>Ext H H'/\∃ls:List Addr,ys=List.map V.ref ls/\ls.length=i/\ls.Nodup/\∀l∈ls,H' l=some (.lst [])/\H l=none) (g8 (by omega)) ⟨Ext.rfl' _,[],rfl,rfl,List.nodup_nil,fun l h=>by cases h⟩ (fun i ys H' _ h=>by obtain⟨_,ls,rfl,hl,_⟩:=h;rw[Ew,hl];exact ER _) ?_ ?_
  ·rintro i ys H' hi ⟨e,ls,rfl,hl,hnd,hls⟩
   walk_at "rd"
   refine aC ?_
   walk_at "rd"
   refine⟨aB (by simp),aE fun l H1 e1 hl1 hln=>?_⟩
   refine⟨e.trans e1,ls++[l],by rw[EM];rfl,by rw[EN,hl];rfl,?_,?_⟩
   ·rw[List.nodup_append]
    refine⟨hnd,by simp,fun a ha b hb z=>?_⟩
    have:b=l:=by simpa using hb
    subst this
    subst z
    rw[(hls a ha).1]at hln
    cases hln
   ·intro a ha
    rcases EU.mp ha with z | z
    ·exact⟨e1 _ _ (hls a z).1,(hls a z).2⟩
    ·have:a=l:=by simpa using z
     subst this
     exact⟨hl1,e.none hln⟩
  ·rintro ys H1 c ⟨e,ls,rfl,hl,hnd,hls⟩ hc
   walk_at "rd"
   have eN:Ext H (upd H1 c (.lst (List.map V.ref ls))):=e.trans (bx hc)
   have hcH:H c=none:=e.none hc
   have ct0:CT (upd H1 c (.lst (List.map V.ref ls))) c m ls ws 0:=⟨aL,hl,hnd,fun r l hl=>by
    have:=(hls l (EF hl)).1
    rw[az (bX this hc)]
    exact this⟩
   have hcl:∀l∈ls,H l=none:=fun l h=>(hls l h).2
   generalize upd H1 c (.lst (List.map V.ref ls))=H2 at eN ct0 ⊢
   clear hls hc e H1
   refine ay (ah.of (eN _ _ g1)) (v:=.ref t) rfl ?_
   walk_at "rd"
   refine vw (ah.of (eN _ _ g3)) ?_
   refine wb (xs:=bs.map V.ref) (fun i σ H'=>∃k1 k2,σ=[some (.ref hh),some (.ref c),k1,k2]/\Ext H H'/\CT H' c m ls ws i) ⟨none,none,rfl,eN,ct0⟩ (fun i σ H' _ h=>by obtain⟨_,_,_,e,_⟩:=h;exact ah.of (e _ _ g3)) ?_ ?_
   ·rintro i u σ H3 pp H4 hu ⟨k1,k2,rfl,e3,ct3⟩ e4 hpp _
    rw[Ey]at hu
    obtain⟨b,hb,rfl⟩:=EH.mp hu
    have hi:i<ws.length:=by
     rw[←al.1]
     exact(EE.mp hb).1
    have hwi:ws[i]?=some ws[i]:=Ex hi
    have e34:=e3.trans e4
    have ct:=ct3.ext e4
    have okw:=ok.ok _ (EX hi)
    have hw:=e34 _ _ (al.2 i b _ hb hwi)
    have csu:=fun r:Nat=>BI (r:=(r:Int)) hwi
    clear ct3
    generalize ws[i]=w at hw okw csu hwi
    have r0:=okw.r0
    have r1:=okw.r1
    have hlr:w.room.toNat<ls.length:=by rw[ct.len];omega
    have hlg:ls[w.room.toNat]?=some ls[w.room.toNat]:=Ex hlr
    generalize ls[w.room.toNat]=l at hlg
    have hl:=ct.it _ _ hlg
    have hlen:=Co ws (w.room.toNat:Nat) i
    refine eG (ah.of hpp) rfl ?_
    walk_at "rd"
    refine ay (ah.of hw) (v:=.int w.room) rfl ?_
    refine aH (ag.of ct.at_) (v:=.ref l) ?_ ?_
    ·refine ee r0 ?_
     rw[Ey,hlg]
     rfl
    refine⟨cS (ag.of hl),?_⟩
    walk_at "rd"
    refine bN hl (cU (by rw[Ew];omega)) ?_
    have lc:l≠c:=cK hl ct.at_ (fun z=>by
     have z':=HO.lst.inj z
     have hlc:=congrArg List.length z'
     cases hcn:dj ws (w.room.toNat:Nat) i with
     | nil=>
      rw[hcn]at hlc
      rw[Ew,Ew]at hlc
      have:ls.length=0:=hlc.symm
      omega
     | cons a r=>
      rw[hcn]at z'
      cases ls with
      | nil=>cases z'
      | cons x y=>cases(List.cons.inj z').1)
    walk_at "rd"
    refine⟨_,_,rfl,cx e34 (hcl l (EF hlg)),?_⟩
    refine⟨by rw[az lc.symm];exact ct.at_,ct.len,ct.nd,fun r l' hl'=>?_⟩
    rw[csu r]
    by_cases er:r=w.room.toNat
    ·subst er
     rw[hlg]at hl'
     cases hl'
     rw[aL,if_pos (by omega),tp]
    ·have nl:l'≠l:=fun z=>er (by
      subst z
      exact BJ ct.nd hl' hlg)
     rw[az nl,if_neg (by omega),List.append_nil]
     exact ct.it r l' hl'
   ·rintro σ H' ⟨k1,k2,rfl,e3,ct⟩
    rw[Ew,al.1]at ct
    walk_at "rd"
    exact q c ls H' e3 ct
def cb(m:Int)(x g:Bfs.Pl):Int:=(if g.2>x.2 then g.2 else x.2)+m*m
def wX(K:Eo):Sp:=fun vs H Q _=>∃v m ws a b x g,vs=[v,.ref a,.ref b]/\bf H v m ws/\HOuse m ws/\ax H a x/\ax H b g/\Q (.int (cb m x g)) H
abbrev lD:Stmt:=stq 47
theorem wo:FnScope ["house","place","goal"] ["house","place","goal"] (aK lD):=⟨rfl,rfl,rfl,by decide +kernel,rfl,by decide +kernel,by decide +kernel⟩
theorem yZ{P:Program}{w:World}{K:Eo}{mg:Str->Option Value}{base:Heap}(D:Dfn K mg "greatest_met" lD ["house","place","goal"])(T:Blt mg):Cal P w K mg base "greatest_met" 1 ["house","place","goal"] (wX K):=by
 have nd:=(wo).nd
 refine D.ok wo (fun vs H Q E h=>?_) (fun X hX H vs Q E h=>?_)
 ·obtain⟨v,m,ws,a,b,x,g,rfl,_⟩:=h;rfl
 ·obtain⟨f,cdv,A,outer,s,H0,E0,rfl,hr⟩:=hX
  obtain⟨v,m,ws,a,b,x,g,rfl,⟨hh,t,rfl,g1,g2⟩,ok,hx,hg,q⟩:=h
  have m1:=ok.m1
  have m2:=ok.m12
  refine⟨_,(ao (aF (av aU (aX (pz rfl) rfl T.max_ PyProof.Rows.boot_max (aa (ai (aA K) (pv 1) af (fun _ _=>rfl)) (aa (ai (aA K) (pv 2) af (fun _ _=>rfl)) ae))) (av dP (ai (aA K) (pv 0) af (fun _ _=>rfl)) (ai (aA K) (pv 0) af (fun _ _=>rfl)))))),?_⟩
  walk_at "rd"
  refine ay (ah.of hx) (v:=.int x.2) rfl ?_
  walk_at "rd"
  refine ay (ah.of hg) (v:=.int g.2) rfl ?_
  walk_at "rd"
  refine ay (ah.of g1) (v:=.int m) rfl ?_
  walk_at "rd"
  refine ay (ah.of g1) (v:=.int m) rfl ?_
  walk_at "rd"
  try refine rd_I (.inl ⟨by omega,by omega⟩) ?_
  walk_at "rd"
  exact q
def bH(ws:List Way)(T:Int)(x:Bfs.Pl)(k:Nat):Option Bfs.Pl:=
 (ws[k]?).bind fun w=>if w.room=x.1 then(cq w.deed x.2).bind fun n=>if n<=T then some (w.other,n)else none else none
theorem ji:rz "up" = 1:=by decide +kernel
theorem jT:rz "down" = -1:=by decide +kernel
theorem jO:rz "stay" = 0:=by decide +kernel
theorem n6:rz "zero" = 0:=by decide +kernel
theorem qP{z:Str}{n n':Int}(hz:bR z)(h:cq z n=some n'):n'=n+rz z:=by
 rcases hz with e | e | e | e<;>rw[e]at h ⊢
 ·rw[jf]at h;rw[ji];cases h;rfl
 ·rw[f6]at h
  rw[jT]
  split at h
  ·cases h;omega
  ·cases h
 ·rw[jr]at h;rw[jO];cases h;omega
 ·rw[fW]at h
  rw[n6]
  split at h
  ·cases h;omega
  ·cases h
theorem nJ{w:Way}(hz:bR w.deed)(x:Bfs.Pl):bW w x.1 x.2=true↔w.room=x.1/\cq w.deed x.2=some (x.2+rz w.deed):=by
 unfold bW
 rcases hz with e | e | e | e<;>rw[e]
 ·rw[qj,q9,jf,ji];simp
 ·rw[eJ,f6,jT]
  by_cases h:0<x.2
  ·rw[decide_eq_true h];simp[Int.sub_eq_add_neg]
  ·rw[decide_eq_false h];simp
 ·rw[mE,decide_eq_false (show ¬(Str.ofString "stay")=Str.ofString "zero" by decide +kernel),jr,jO];simp
 ·rw[mR,eJ,fW,n6]
  by_cases h:x.2=0
  ·rw[decide_eq_true h];simp
  ·rw[decide_eq_false h];simp
theorem Ab{ws:List Way}{T:Int}{x:Bfs.Pl}{k:Nat}{w:Way}(h:ws[k]?=some w)(hz:bR w.deed)(ho:bW w x.1 x.2=true)(ht:x.2+rz w.deed<=T):bH ws T x k=some (w.other,x.2+rz w.deed):=by
 obtain⟨h1,h2⟩:=(nJ hz x).mp ho
 unfold bH
 rw[h,E2,if_pos h1,h2,E2,if_pos ht]
theorem gJ{ws:List Way}{T:Int}{x y:Bfs.Pl}{k:Nat}(h:bH ws T x k=some y):∃w,ws[k]?=some w/\w.room=x.1/\cq w.deed x.2=some y.2/\y.1=w.other/\y.2<=T:=by
 unfold bH at h
 obtain⟨w,hw,h⟩:=Option.bind_eq_some_iff.mp h
 split at h
 ·rename_i hr
  obtain⟨n,hn,h⟩:=Option.bind_eq_some_iff.mp h
  split at h
  ·rename_i ht
   cases h
   exact⟨w,hw,hr,hn,rfl,ht⟩
  ·cases h
 ·cases h
theorem vZ{ws:List Way}{T:Int}{x y:Bfs.Pl}{k:Nat}{w:Way}(hw:ws[k]?=some w)(hz:bR w.deed)(h:bH ws T x k=some y):bW w x.1 x.2=true/\y=(w.other,x.2+rz w.deed)/\x.2+rz w.deed<=T:=by
 obtain⟨w',hw',hr,hs,ho,ht⟩:=gJ h
 rw[hw]at hw'
 cases hw'
 have e:=qP hz hs
 rw[e]at ht hs
 exact⟨(nJ hz x).mpr ⟨hr,hs⟩,Prod.ext ho e,ht⟩
theorem vz{z:Str}{n n':Int}(hz:bR z)(h0:0<=n)(h:cq z n=some n'):0<=n':=by
 rcases hz with e | e | e | e<;>rw[e]at h
 ·rw[jf]at h;cases h;omega
 ·rw[f6]at h
  split at h
  ·rename_i g
   have:=of_decide_eq_true g
   cases h;omega
  ·cases h
 ·rw[jr]at h;cases h;exact h0
 ·rw[fW]at h
  split at h
  ·cases h;exact h0
  ·cases h
def fk(H:Hp)(v:V):Option (Bfs.Pl×Nat)->Prop
 | none=>v=.non
 | some (p,k)=>∃a b,v=.ref a/\H a=some (.tup [.ref b,.int (k:Int)])/\ax H b p
theorem fk.ext{H H':Hp}(e:Ext H H'){v:V}{o:Option (Bfs.Pl×Nat)}(h:fk H v o):fk H' v o:=by
 cases o with
 | none=>exact h
 | some pk=>
  obtain⟨a,b,h1,h2,h3⟩:=h
  exact⟨a,b,h1,e _ _ h2,e _ _ h3⟩
theorem fk.put{H:Hp}{f:Addr}{u u':HO}(hf:H f=some u)(hn:∀xs,u≠.tup xs){v:V}{o:Option (Bfs.Pl×Nat)}(h:fk H v o):fk (upd H f u') v o:=by
 cases o with
 | none=>exact h
 | some pk=>
  obtain⟨a,b,h1,h2,h3⟩:=h
  exact⟨a,b,h1,by rw[az (cK h2 hf (fun z=>hn _ z.symm))];exact h2,ax.put hf hn h3⟩
abbrev oC(H:Hp)(kv:List Key×V)(e:Bfs.Ent):Prop:=kv.1=bh e.1/\fk H kv.2 e.2.2
abbrev zI(H:Hp)(a:Addr)(e:Bfs.Ent):Prop:=ax H a e.1
section
variable {β:Type} {F:List Key×V->β->Prop} {key:β->Bfs.Pl} {kvs:List (List Key×V)} {q:List β}
theorem iP(hF:∀kv e,F kv e->kv.1=bh (key e))(h:Paired F kvs q){x:Bfs.Pl}(hx:x∉q.map key):bJ kvs (bh x)=none:=by
 induction h with
 | nil=>rfl
 | @cons a b as bs h t ih=>
  rw[List.map_cons,EK,not_or]at hx
  rw[iE (fun z=>hx.1 (xI (z.symm.trans (hF _ _ h))))]
  exact ih hx.2
theorem iw(hF:∀kv e,F kv e->kv.1=bh (key e))(h:Paired F kvs q)(nd:(q.map key).Nodup){e:β}(he:e∈q):∃v,bJ kvs (bh (key e))=some v/\F (bh (key e),v) e:=by
 induction h with
 | nil=>cases he
 | @cons a b as bs h t ih=>
  rw[List.map_cons,List.nodup_cons]at nd
  rcases EK.mp he with z | z
  ·subst z
   have e1:=hF _ _ h
   refine⟨a.2,jB e1,?_⟩
   rw[←e1]
   exact h
  ·obtain⟨v,h1,h2⟩:=ih nd.2 z
   refine⟨v,?_,h2⟩
   rw[iE (fun w=>nd.1 ?_)]
   ·exact h1
   ·rw[xI ((hF _ _ h).symm.trans w)]
    exact List.mem_map.mpr ⟨e,z,rfl⟩
end
structure FF(H0 H:Hp)(f rw:Addr)(q:List Bfs.Ent):Prop where
 ext:Ext H0 H
 fn:H0 f=none
 rn:H0 rw=none
 d:∃kvs,H f=some (.dT kvs)/\Paired (oC H) kvs q
 r:∃as,H rw=some (.lst (List.map V.ref as))/\Paired (zI H) as q
theorem FF.step{H0 H H1:Hp}{f rw:Addr}{q:List Bfs.Ent}(h:FF H0 H f rw q)(e:Ext H H1):FF H0 H1 f rw q:=by
 obtain⟨h1,h2,h3,⟨kvs,h4,h5⟩,as,h6,h7⟩:=h
 exact⟨h1.trans e,h2,h3,⟨kvs,e _ _ h4,Paired.mapP h5 fun _ _ z=>⟨z.1,z.2.ext e⟩⟩,as,e _ _ h6,Paired.mapP h7 fun _ _ z=>e _ _ z⟩
theorem FF.push{H0 H:Hp}{f rw th t b:Addr}{q:List Bfs.Ent}{y p:Bfs.Pl}{k d:Nat}(h:FF H0 H f rw q)(hy:y∉q.map (·.1))(hth:ax H th y)(hb:ax H b p)(ht:H t=some (.tup [.ref b,.int (k:Int)])):
  ∃kvs,H f=some (.dT kvs)/\kvs.length=q.length/\∃as,upd H f (.dT (putK kvs (bh y) (.ref t))) rw=some (.lst (List.map V.ref as))/\as.length=q.length ∧
   FF H0 (upd (upd H f (.dT (putK kvs (bh y) (.ref t)))) rw (.lst (List.map V.ref as++[.ref th]))) f rw (q++[(y,d,some (p,k))]):=by
 obtain⟨h1,h2,h3,⟨kvs,h4,h5⟩,as,h6,h7⟩:=h
 have nf:∀xs,(HO.dT kvs)≠.tup xs:=fun xs z=>by cases z
 have nr:∀xs,(HO.lst (List.map V.ref as))≠.tup xs:=fun xs z=>by cases z
 have ne:rw≠f:=cK h6 h4 (by intro z;cases z)
 have h6':upd H f (.dT (putK kvs (bh y) (.ref t))) rw=some (.lst (List.map V.ref as)):=by rw[az ne];exact h6
 have vp:fk H (.ref t) (some (p,k)):=⟨t,b,rfl,ht,hb⟩
 refine⟨kvs,h4,Paired.length h5,as,h6',Paired.length h7,cx (cx h1 h2) h3,h2,h3,⟨kvs++[(bh y,.ref t)],?_,?_⟩,as++[th],?_,?_⟩
 ·rw[az ne.symm,aL,uE _ (iP (fun _ _ z=>z.1) h5 hy)]
 ·exact Paired.snoc (Paired.mapP h5 fun _ _ z=>⟨z.1,(z.2.put h4 nf).put h6' nr⟩) ⟨rfl,(vp.put h4 nf).put h6' nr⟩
 ·rw[aL,EM];rfl
 ·exact Paired.snoc (Paired.mapP h7 fun _ _ z=>ax.put h6' nr (ax.put h4 nf z)) (ax.put h6' nr (ax.put h4 nf hth))
def bP(m T:Int)(x:Bfs.Pl):Prop:=0<=x.1/\x.1<m/\0<=x.2/\x.2<=T
theorem bP.few{m T:Int}{l:List Bfs.Pl}(hm:m<=12)(hT:T<=2000)(hn:l.Nodup)(h:∀x∈l,bP m T x):l.length<=24012:=
 Bfs.Bv hT hn fun x hx=>by
  obtain⟨a,b,c,d⟩:=h x hx
  exact⟨a,by omega,c,d⟩
theorem qE{m T:Int}{ws:List Way}(ok:HOuse m ws){x y:Bfs.Pl}{k:Nat}(hx:0<=x.2)(h:bH ws T x k=some y):bP m T y:=by
 obtain⟨w,hw,hr,hs,ho,ht⟩:=gJ h
 have okw:=ok.ok w (EF hw)
 exact⟨by rw[ho];exact okw.o0,by rw[ho];exact okw.o1,vz okw.dd hx hs,ht⟩
def qz(H1:Hp)(ws:List Way)(m T:Int)(x:Bfs.Pl)(v:V)(pa ga c f rw:Addr)(M:Nat)(σ:St)(H':Hp):Prop:=
 ∃q i B k1 k2 k3 k4,σ=[some v,some (.ref pa),some (.ref ga),some (.int T),some (.ref c),some (.ref f),some (.ref rw),some (.int ((i:Nat):Int)),k1,k2,k3,k4]/\FF H1 H' f rw q/\Bfs.QI (bH ws T) x q i B/\(∀e∈q,bP m T e.1)/\i<=q.length/\M+i=24013
def AL(H1:Hp)(ws:List Way)(T:Int)(x g:Bfs.Pl)(v:V)(pa ga c f rw:Addr)(σ:St)(H':Hp):Prop:=
 ∃q i B k0 k1 k2 k3 k4,σ=[some v,some (.ref pa),some (.ref ga),some (.int T),some (.ref c),some (.ref f),some (.ref rw),k0,k1,k2,k3,k4]/\FF H1 H' f rw q/\Bfs.QI (bH ws T) x q i B/\q.length<=24012/\(i=q.length\/g∈q.map (·.1))
def zh(H1:Hp)(ws:List Way)(m T:Int)(x:Bfs.Pl)(v:V)(pa ga c f rw b:Addr)(i:Nat)(h:Bfs.Ent)(ks:List Nat)(j:Nat)(σ:St)(H':Hp):Prop:=
 ∃q k1 k2 k3,σ=[some v,some (.ref pa),some (.ref ga),some (.int T),some (.ref c),some (.ref f),some (.ref rw),some (.int ((i:Nat):Int)),some (.ref b),k1,k2,k3]/\FF H1 H' f rw q/\Bfs.QF (nx:=bH ws T) (s:=x) q (i-1) h ks j/\(∀e∈q,bP m T e.1)/\ax H' b h.1
theorem yi{m:Int}{x g:Bfs.Pl}(h0:0<=m)(hm:m<=12)(hx:x.2<=1000)(hg:g.2<=1000):cb m x g<=2000:=by
 unfold cb
 have:m*m<=12*12:=Int.mul_le_mul hm hm h0 (by decide)
 split<;>omega
theorem vP{m:Int}{x g:Bfs.Pl}(h0:0<=m):x.2<=cb m x g/\g.2<=cb m x g:=by
 unfold cb
 have:0<=m*m:=E1 h0 h0
 split<;>constructor<;>omega
def vI(K:Eo):Sp:=fun vs H Q _=>∃v m ws pa ga x g,vs=[v,.ref pa,.ref ga]/\bf H v m ws/\HOuse m ws/\ax H pa x/\ax H ga g/\dA m x/\dA m g ∧
 ∀f H' kvs q i B,Ext H H'->H' f=some (.dT kvs)->Paired (oC H') kvs q->Bfs.QI (bH ws (cb m x g)) x q i B->q.length<=24012->(i=q.length\/g∈q.map (·.1))->Q (.ref f) H'
abbrev jS:Stmt:=stq 48
theorem xc:FnScope ["house","place","goal","greatest","counts","found","row","looked","here","count","way","there"] ["house","place","goal"] (aK jS):=⟨rfl,rfl,rfl,by decide +kernel,rfl,by decide +kernel,by decide +kernel⟩
theorem B0{P:Program}{w:World}{K:Eo}{mg:Str->Option Value}{base:Heap}(D:Dfn K mg "found_from" jS ["house","place","goal"])(T:Blt mg)(C_is_open:Cal P w K mg base "is_open" 1 ["way","place"] (oK K))(C_led_to:Cal P w K mg base "led_to" 2 ["way","place"] (oj K))(C_counts_by_room:Cal P w K mg base "counts_by_room" 1 ["house"] (um K))(C_greatest_met:Cal P w K mg base "greatest_met" 1 ["house","place","goal"] (wX K)):Cal P w K mg base "found_from" 3 ["house","place","goal"] (vI K):=by
 have nd:=(xc).nd
 refine D.ok xc (fun vs H Q E h=>?_) (fun X hX H vs Q E h=>?_)
 ·obtain⟨v,m,ws,pa,ga,x,g,rfl,_⟩:=h;rfl
 ·obtain⟨f,cdv,A,outer,s,H0,E0,rfl,hr⟩:=hX
  obtain⟨v,m,ws,pa,ga,x,g,rfl,hv,ok,hx,hg,ix,ig,q⟩:=h
  have m1:=ok.m1
  have m2:=ok.m12
  have hfew:=ok.few
  have hT:=yi (m:=m) (x:=x) (g:=g) (by omega) m2 ix.2.2.2 ig.2.2.2
  have hxT:=(vP (m:=m) (x:=x) (g:=g) (by omega)).1
  refine⟨_,(aj (aG (i:=3) nd rfl (Or.inl rfl) (aD C_greatest_met hr (aa (pv 0) (aa (pv 1) (aa (pv 2) ae)))))
    (aj (aG (i:=4) nd rfl (Or.inl rfl) (aD C_counts_by_room hr (aa (pv 0) ae)))
    (aj (aG (i:=5) nd rfl (Or.inl rfl) (p0 (eE hr) (pv 1) iA))
    (aj (aG (i:=6) nd rfl (Or.inl rfl) (bz (aa (pv 1) ae)))
    (aj (aG (i:=7) nd rfl (Or.inl rfl) af)
    (aj (gH PassesOwn.never (PW.pt (fI (aT eB (pv 7) (aX (cD K) rfl T.len_ PySem.boot_len (aa (pv 6) ae)) (aQ _)) (fZ (jP (kN (eE hr) (pv 2) (pv 5)) (by with_unfolding_all rfl))))) (aj (aG (i:=8) nd rfl (Or.inl rfl) (ai (aI K) (pv 6) (pv 7) (fun _ _=>rfl)))
    (aj (lX (i:=7) nd rfl (Or.inl rfl) af mT)
    (ao (bL PassesOwn.never rfl (cw K (ai (aI K) (pv 4) (ai (aA K) (pv 8) af (fun _ _=>rfl)) (fun _ _=>rfl))) (aJ (i:=9) nd rfl (Or.inl rfl)) (aj (aG (i:=10) nd rfl (Or.inl rfl) (ai (aA K) (ai (aA K) (pv 0) af (fun _ _=>rfl)) (pv 9) (fun _ _=>rfl)))
    (aj (aG (i:=11) nd rfl (Or.inl rfl) (aD C_led_to hr (aa (pv 10) (aa (pv 8) ae))))
    (ao (cL (PW.pt (fI (bw (aD C_is_open hr (aa (pv 10) (aa (pv 8) ae)))) (fI (aT gZ (ai (aA K) (pv 11) af (fun _ _=>rfl)) (pv 3) (aQ _)) (fZ (jP (kN (eE hr) (pv 11) (pv 5)) (by with_unfolding_all rfl)))))) (aj (wD (eE hr) (pv 5) (pv 11) (bA (aa (pv 8) (aa (pv 9) ae))) rfl)
    (ao (bo (bG K ED ES ET bO (pv 6) (aa (pv 11) ae))))) aV)))))))))
    (ao (aF (pv 5))))))))),?_⟩
  walk_at "rd"
  refine⟨v,m,ws,pa,ga,x,g,rfl,hv,ok,hx,hg,?_⟩
  generalize cb m x g=T at q hT hxT ⊢
  walk_at "rd"
  refine⟨v,m,ws,rfl,hv,ok,fun c ls H1 e1 ct=>?_⟩
  walk_at "rd"
  refine fun f hfn=>?_
  walk_at "rd"
  refine⟨pa,bh x,rfl,(bx hfn) _ _ (e1 _ _ hx),aL,?_⟩
  walk_at "rd"
  refine⟨aB (by simp),aE fun rw H3 e3 hrw hrn=>?_⟩
  walk_at "rd"
  have e13:Ext H1 (upd (upd H1 f (.dT [])) f (.dT [(bh x,.non)])):=fun b o hb=>by
   rw[az (bX hb hfn),az (bX hb hfn)];exact hb
  have hrn1:H1 rw=none:=e13.none hrn
  have hf3:H3 f=some (.dT [(bh x,.non)]):=e3 _ _ aL
  have ff0:FF H1 H3 f rw [(x,0,none)]:=⟨e13.trans e3,hfn,hrn1,⟨_,hf3,.cons ⟨rfl,rfl⟩ .nil⟩,[pa],hrw,.cons (e3 _ _ (e13 _ _ (e1 _ _ hx))) .nil⟩
  refine gh (qz H1 ws m T x v pa ga c f rw) (AL H1 ws T x g v pa ga c f rw) 24013 ⟨[(x,0,none)],0,0,_,_,_,_,rfl,ff0,Bfs.QI.begin _ _,?_,by simp,rfl⟩ ?_ ?_
  ·intro e he
   rw[EG]at he
   subst he
   exact⟨ix.1,ix.2.1,ix.2.2.1,hxT⟩
  ·clear ff0 hf3 hrn1 e13 hrw hrn e3
   rintro M σ H4 ⟨qq,i,B,k1,k2,k3,k4,rfl,ff,qi,hin,hi,hM⟩
   have hqn:qq.length<=24012:=by
    have:=bP.few m2 hT qi.nd (fun y hy=>by
     obtain⟨e,he,rfl⟩:=List.mem_map.mp hy
     exact hin e he)
    rwa [Ew]at this
   obtain⟨kvs,hd,pk⟩:=ff.d
   obtain⟨as,hr,pr⟩:=ff.r
   have hal:=Paired.length pr
   have hg4:ax H4 ga g:=ff.ext _ _ (e1 _ _ hg)
   walk_at "rd"
   refine dn (ag.of hr) ?_
   walk_at "rd"
   by_cases hlt:i<qq.length
   rotate_left
   ·rw[decide_eq_false (show ¬((i:Nat):Int)<((List.map V.ref as).length:Nat) by rw[Ew,hal];omega)]
    refine aq ?_
    refine aq ?_
    exact⟨qq,i,B,_,_,_,_,_,rfl,ff,qi,hqn,.inl (by omega)⟩
   ·rw[decide_eq_true (show((i:Nat):Int)<((List.map V.ref as).length:Nat) by rw[Ew,hal];omega)]
    refine aC ?_
    walk_at "rd"
    refine⟨f,_,rfl,cZ.t hd (k:=bh g) hg4,?_⟩
    by_cases hgk:g∈qq.map (·.1)
    ·obtain⟨e,he,rfl⟩:=List.mem_map.mp hgk
     obtain⟨v1,hv1,_⟩:=iw (fun _ _ z=>z.1) pk qi.nd he
     rw[hv1]
     refine rd_exb (aq ?_)
     exact⟨qq,i,B,_,_,_,_,_,rfl,ff,qi,hqn,.inr hgk⟩
    ·rw[iP (fun _ _ z=>z.1) pk hgk]
     refine rd_exb (aC ?_)
     refine⟨fun σ' H'=>∃m',m'<M/\qz H1 ws m T x v pa ga c f rw m' σ' H',fun _ _ h=>h,?_⟩
     have hqi:=Ex hlt
     generalize qq[i]=hh at hqi
     obtain⟨b,hb,hbp⟩:=wx pr hqi
     have qf:=qi.look hqi (dj ws hh.1.1 ws.length)
     have hih:=hin hh (EF hqi)
     obtain⟨hr0,hr1,hn0,hn1⟩:=hih
     clear qi hgk hg4 pr hal pk hd
     walk_at "rd"
     refine aH (ag.of hr) (dJ (v:=.ref b) (by rw[Ey,hb];rfl)) ?_
     walk_at "rd"
     refine ay (ah.of hbp) (v:=.int hh.1.1) rfl ?_
     walk_at "rd"
     have ct4:=ct.ext ff.ext
     have hlr:hh.1.1.toNat<ls.length:=by rw[ct.len];omega
     have hlg:ls[hh.1.1.toNat]?=some ls[hh.1.1.toNat]:=Ex hlr
     generalize ls[hh.1.1.toNat]=l at hlg
     have hll:=ct.it _ _ hlg
     rw[show ((hh.1.1.toNat:Nat):Int)=hh.1.1 by omega]at hll
     refine aH (ag.of ct4.at_) (v:=.ref l) (ee hr0 (by rw[Ey,hlg];rfl)) ?_
     refine cj (ag.of (ff.ext _ _ hll)) ?_
     obtain⟨hp,ht,rfl,g1,g2⟩:=hv.ext e1
     obtain⟨bs,g3,al⟩:=cn.al g2
     refine forL (xs:=b9 (dj ws hh.1.1 ws.length)) (zh H1 ws m T x (.ref hp) pa ga c f rw b (i+1) hh (dj ws hh.1.1 ws.length)) ?_ (fun j σ H' _ h=>?_) ?_ ?_
     ·exact⟨qq,k2,k3,k4,rfl,ff,qf,hin,hbp⟩
     ·obtain⟨_,_,_,_,_,ff',_⟩:=h
      exact ag.of (ff'.ext _ _ hll)
     ·clear qf ff hbp hr hqi hlt hqn hin
      rintro j u σ H5 hu ⟨q5,c1,c2,c3,rfl,ff,qf,hin,hbp⟩
      rw[Ey]at hu
      obtain⟨k,hk,rfl⟩:=EH.mp hu
      obtain⟨w,hw,hroom⟩:=DM (EF hk)
      have okw:=ok.ok w (EF hw)
      have hkb:k<bs.length:=by rw[al.1];exact(EE.mp hw).1
      have hbk:=Ex hkb
      generalize bs[k]=bk at hbk
      have hwt:=al.2 k bk w hbk hw
      have hqn:q5.length<=24012:=by
       have:=bP.few m2 hT qf.nd (fun y hy=>by
        obtain⟨e,he,rfl⟩:=List.mem_map.mp hy
        exact hin e he)
       rwa [Ew]at this
      walk_at "rd"
      refine ay (ah.of (ff.ext _ _ g1)) (v:=.ref ht) rfl ?_
      walk_at "rd"
      refine ay (ah.of (ff.ext _ _ g3)) (v:=.ref bk) (dJ (by rw[Ey,hbk];rfl)) ?_
      walk_at "rd"
      refine⟨bk,w,b,hh.1,rfl,ff.ext _ _ hwt,okw.dd,hbp,fun th H6 e6 hth hthn=>?_⟩
      have ff6:=ff.step e6
      have hb6:ax H6 b hh.1:=e6 _ _ hbp
      clear ff hbp
      walk_at "rd"
      refine bZ ?_
      walk_at "rd"
      refine⟨bk,w,b,hh.1,rfl,ff6.ext _ _ hwt,hb6,?_⟩
      refine rd_exb ?_
      cases ho:bW w hh.1.1 hh.1.2 with
      | false=>
       refine aq ?_
       refine aq ?_
       walk_at "rd"
       exact⟨q5,_,_,_,rfl,ff6,qf.skip hk (fun y hy=>by rw[(vZ hw okw.dd hy).1]at ho;cases ho),hin,hb6⟩
      | true=>
       refine aC ?_
       walk_at "rd"
       refine ay (ah.of hth) (v:=.int (hh.1.2+rz w.deed)) rfl ?_
       walk_at "rd"
       by_cases hle:hh.1.2+rz w.deed<=T
       rotate_left
       ·rw[decide_eq_false hle]
        refine aq ?_
        refine aq ?_
        walk_at "rd"
        exact⟨q5,_,_,_,rfl,ff6,qf.skip hk (fun y hy=>absurd (vZ hw okw.dd hy).2.2 hle),hin,hb6⟩
       ·rw[decide_eq_true hle]
        refine aC ?_
        walk_at "rd"
        have hy:=Ab (T:=T) hw okw.dd ho hle
        obtain⟨kvs,hd,pk⟩:=ff6.d
        refine⟨f,_,rfl,cZ.t hd (k:=bh (w.other,hh.1.2+rz w.deed)) hth,?_⟩
        by_cases hnew:(w.other,hh.1.2+rz w.deed)∈q5.map (·.1)
        ·obtain⟨e,he,hee⟩:=List.mem_map.mp hnew
         obtain⟨v1,hv1,_⟩:=iw (fun _ _ z=>z.1) pk qf.nd he
         rw[hee]at hv1
         rw[hv1]
         refine rd_exb (aq ?_)
         walk_at "rd"
         exact⟨q5,_,_,_,rfl,ff6,qf.skip hk (fun y hy'=>by rw[hy]at hy';cases hy';exact hnew),hin,hb6⟩
        ·rw[iP (fun _ _ z=>z.1) pk hnew]
         refine rd_exb (aC ?_)
         clear pk hd
         walk_at "rd"
         refine⟨aB (by simp),aE fun t H7 e7 ht7 _=>?_⟩
         walk_at "rd"
         obtain⟨kvs,hd,hkl,as,hr7,hal,ff8⟩:=(ff6.step e7).push (d:=hh.2.1+1) hnew (e7 _ _ hth) (e7 _ _ hb6) ht7
         have hb8:=ax.put (o':=.lst (List.map V.ref as++[.ref th])) hr7 (fun xs z=>by cases z) (ax.put (o':=.dT (putK kvs (bh (w.other,hh.1.2+rz w.deed)) (.ref t))) hd (fun xs z=>by cases z) (e7 _ _ hb6))
         refine⟨f,_,rfl,f9.t hd (k:=bh (w.other,hh.1.2+rz w.deed)) (e7 _ _ hth) (fU (by omega)),?_⟩
         walk_at "rd"
         refine⟨cS (ag.of hr7),?_⟩
         walk_at "rd"
         refine bN hr7 (fU (by rw[Ew];omega)) ?_
         refine⟨_,_,_,_,rfl,ff8,qf.add hk hy hnew,?_,hb8⟩
         intro e he
         rcases EU.mp he with z | z
         ·exact hin e z
         ·rw[EG]at z
          subst z
          exact qE ok hn0 hy
     ·rintro σ H5 ⟨q5,c1,c2,c3,rfl,ff5,qf5,hin5,hbp5⟩
      rw[Ew]at qf5
      refine⟨M-1,by omega,q5,i+1,hh.2.1,_,_,_,_,rfl,ff5,qf5.next (fun k y hy=>?_),hin5,?_,by omega⟩
      ·obtain⟨w,hw,hr,_⟩:=gJ hy
       exact BD hw hr
      ·have:=(EE.mp qf5.at_).1
       omega
  ·rintro σ H4 ⟨qq,i,B,k0,k1,k2,k3,k4,rfl,ff,qi,hqn,hend⟩
   obtain⟨kvs,hd,pk⟩:=ff.d
   walk_at "rd"
   exact q f H4 kvs qq i B (e1.trans ff.ext) hd pk qi hqn hend
def vQ(K:Eo):Sp:=fun vs H Q _=>∃(f ga:Addr) (kvs:List (List Key×V)) (q:List Bfs.Ent) (nx:Bfs.Pl->Nat->Option Bfs.Pl) (s:Bfs.Pl) (i B:Nat) (e:Bfs.Ent),vs=[.ref f,.ref ga]/\H f=some (.dT kvs)/\Paired (oC H) kvs q/\Bfs.QI nx s q i B/\ax H ga e.1/\e∈q/\e.2.1<=24012 ∧
 ∀l H' ks,Ext H H'->H' l=some (.lst (b9 ks))->H l=none->ks.length=e.2.1->Bfs.gone (nx:=nx) s ks=some e.1->Q (.ref l) H'
def tO(H:Hp)(f ga l:Addr)(q:List Bfs.Ent)(nx:Bfs.Pl->Nat->Option Bfs.Pl)(e:Bfs.Ent)(M:Nat)(σ:St)(H':Hp):Prop:=
 ∃v u ks,σ=[some (.ref f),some (.ref ga),some (.ref l),some v]/\Ext H H'/\H' l=some (.lst (b9 ks))/\u∈q/\fk H' v u.2.2/\u.2.1=M/\ks.length+M=e.2.1/\Bfs.gone (nx:=nx) u.1 ks.reverse=some e.1
abbrev lr:Stmt:=stq 49
theorem sR:FnScope ["found","goal","walk","step"] ["found","goal"] (aK lr):=⟨rfl,rfl,rfl,by decide +kernel,rfl,by decide +kernel,by decide +kernel⟩
theorem Ct{P:Program}{w:World}{K:Eo}{mg:Str->Option Value}{base:Heap}(D:Dfn K mg "walk_back" lr ["found","goal"])(T:Blt mg):Cal P w K mg base "walk_back" 1 ["found","goal"] (vQ K):=by
 have nd:=(sR).nd
 refine D.ok sR (fun vs H Q E h=>?_) (fun X hX H vs Q E h=>?_)
 ·obtain⟨f,ga,kvs,q,nx,s,i,B,e,rfl,_⟩:=h;rfl
 ·obtain⟨f,cdv,A,outer,s,H0,E0,rfl,hr⟩:=hX
  obtain⟨f,ga,kvs,q,nx,s,i,B,e,rfl,hf,pk,qi,hg,he,hle,qq⟩:=h
  refine⟨_,(aj (aG (i:=2) nd rfl (Or.inl rfl) (bz ae))
    (aj (aG (i:=3) nd rfl (Or.inl rfl) (vR (eE hr) (pv 0) (pv 1) (fun _ _=>rfl)))
    (aj (gH PassesOwn.never (aT sH (pv 3) iA (aQ _)) (aj (bo (bG K ED ES ET bO (pv 2) (aa (ai (aA K) (pv 3) af (fun _ _=>rfl)) ae)))
    (ao (aG (i:=3) nd rfl (Or.inl rfl) (vR (eE hr) (pv 0) (ai (aA K) (pv 3) af (fun _ _=>rfl)) (fun _ _=>rfl))))))
    (ao (aF (Cr K rfl rfl T.list_ rfl T.reversed_ (pv 2))))))),?_⟩
  walk_at "rd"
  refine⟨aB (by simp),aE fun l H1 e1 hl hln=>?_⟩
  walk_at "rd"
  obtain⟨v0,hv0,_,hp0⟩:=iw (fun _ _ z=>z.1) pk qi.nd he
  refine⟨f,v0,rfl,by rw[←hv0];exact cZ.t (e1 _ _ hf) (k:=bh e.1) (e1 _ _ hg),?_⟩
  walk_at "rd"
  refine gh (tO H f ga l q nx e) (fun σ H'=>∃v ks,σ=[some (.ref f),some (.ref ga),some (.ref l),some v]/\Ext H H'/\H' l=some (.lst (b9 ks))/\ks.length=e.2.1/\Bfs.gone (nx:=nx) s ks.reverse=some e.1) e.2.1 ⟨v0,e,[],rfl,e1,hl,he,hp0.ext e1,rfl,by simp,rfl⟩ ?_ ?_
  ·rintro M σ H4 ⟨v,u,ks,rfl,e4,hl4,hu,hvp,hM,hks,hgo⟩
   walk_at "rd"
   rcases qi.par u hu with⟨p1,p2,p3⟩ | ⟨p,k,d,o,p1,p2,p3,p4⟩
   ·rw[p1]at hvp
    obtain rfl:v=.non:=hvp
    refine⟨rfl,?_⟩
    refine rd_exb (aq ?_)
    exact⟨_,ks,rfl,e4,hl4,by omega,by rw[←p2];exact hgo⟩
   ·rw[p1]at hvp
    obtain⟨a,b,rfl,ha,hb⟩:=hvp
    refine⟨rfl,?_⟩
    rw[decide_eq_false (show ¬(V.ref a=V.non) by intro z;cases z)]
    refine rd_exb (aC ?_)
    refine⟨fun σ' H'=>∃m',m'<M/\tO H f ga l q nx e m' σ' H',fun _ _ h=>h,?_⟩
    walk_at "rd"
    refine⟨cS (ag.of hl4),?_⟩
    walk_at "rd"
    refine ay (ah.of ha) (v:=.int (k:Int)) rfl ?_
    walk_at "rd"
    refine bN hl4 (fU (by rw[Ew];omega)) ?_
    walk_at "rd"
    have nl:∀xs,(HO.lst (b9 ks))≠.tup xs:=fun xs z=>by cases z
    have ha5:upd H4 l (.lst (b9 ks++[.int (k:Int)])) a=some (.tup [.ref b,.int (k:Int)]):=by
     rw[az (cK ha hl4 (by intro z;cases z))];exact ha
    have hb5:=ax.put (o':=.lst (b9 ks++[.int (k:Int)])) hl4 nl hb
    refine ay (ah.of ha5) (v:=.ref b) rfl ?_
    obtain⟨v1,hv1,_,hp1⟩:=iw (fun _ _ z=>z.1) pk qi.nd p4
    have hf5:upd H4 l (.lst (b9 ks++[.int (k:Int)])) f=some (.dT kvs):=by
     rw[az (cK (e4 _ _ hf) hl4 (by intro z;cases z))];exact e4 _ _ hf
    have eH:Ext H (upd H4 l (.lst (b9 ks++[.int (k:Int)]))):=cx e4 hln
    refine⟨f,v1,rfl,by rw[←hv1];exact cZ.t hf5 (k:=bh p) hb5,?_⟩
    walk_at "rd"
    refine⟨d,by omega,v1,(p,d,o),ks++[k],rfl,eH,by rw[aL,tp],p4,hp1.ext eH,rfl,by rw[EN];simp;omega,?_⟩
    rw[List.reverse_append]
    show(nx p k).bind _=_
    rw[p2]
    exact hgo
  ·rintro σ H4 ⟨v,ks,rfl,e4,hl4,hks,hgo⟩
   walk_at "rd"
   refine xy (ag.of hl4) (aE fun r H5 e5 hr hrn=>?_)
   refine qq r H5 ks.reverse (e4.trans e5) ?_ (e4.none hrn) (by rw[List.length_reverse];exact hks) hgo
   rw[hr,←List.map_reverse]
def wg(K:Eo):Sp:=fun vs H Q _=>∃v m ws pa ga x g,vs=[v,.ref pa,.ref ga]/\bf H v m ws/\HOuse m ws/\ax H pa x/\ax H ga g/\dA m x/\dA m g ∧
 ((∀n,¬Bfs.cA (bH ws (cb m x g)) x n g)->∀H',Ext H H'->Q .non H')/\∀n l H' ks,Bfs.cA (bH ws (cb m x g)) x n g->n<=24012->Ext H H'->H l=none->H' l=some (.lst (b9 ks))->ks.length=n->Bfs.gone (nx:=bH ws (cb m x g)) x ks=some g->Q (.ref l) H'
abbrev kn:Stmt:=stq 50
theorem ue:FnScope ["house","place","goal","found"] ["house","place","goal"] (aK kn):=⟨rfl,rfl,rfl,by decide +kernel,rfl,by decide +kernel,by decide +kernel⟩
theorem Ef{P:Program}{w:World}{K:Eo}{mg:Str->Option Value}{base:Heap}(D:Dfn K mg "sought_walk" kn ["house","place","goal"])(T:Blt mg)(C_walk_back:Cal P w K mg base "walk_back" 1 ["found","goal"] (vQ K))(C_found_from:Cal P w K mg base "found_from" 3 ["house","place","goal"] (vI K)):Cal P w K mg base "sought_walk" 4 ["house","place","goal"] (wg K):=by
 have nd:=(ue).nd
 refine D.ok ue (fun vs H Q E h=>?_) (fun X hX H vs Q E h=>?_)
 ·obtain⟨v,m,ws,pa,ga,x,g,rfl,_⟩:=h;rfl
 ·obtain⟨f,cdv,A,outer,s,H0,E0,rfl,hr⟩:=hX
  obtain⟨v,m,ws,pa,ga,x,g,rfl,hv,ok,hx,hg,ix,ig,qn,qy⟩:=h
  refine⟨_,(aj (aG (i:=3) nd rfl (Or.inl rfl) (aD C_found_from hr (aa (pv 0) (aa (pv 1) (aa (pv 2) ae)))))
    (aj (bC (jP (kN (eE hr) (pv 2) (pv 3)) (by with_unfolding_all rfl)) (ao (aF iA)) aV)
    (ao (aF (aD C_walk_back hr (aa (pv 3) (aa (pv 2) ae))))))),?_⟩
  walk_at "rd"
  refine⟨v,m,ws,pa,ga,x,g,rfl,hv,ok,hx,hg,ix,ig,fun f H1 kvs q i B e1 hf pk qi hql hend=>?_⟩
  generalize cb m x g=T at qn qy qi
  walk_at "rd"
  refine⟨f,_,rfl,cZ.t hf (k:=bh g) (e1 _ _ hg),?_⟩
  by_cases hgk:g∈q.map (·.1)
  ·obtain⟨e,he,rfl⟩:=List.mem_map.mp hgk
   obtain⟨v1,hv1,_⟩:=iw (fun _ _ z=>z.1) pk qi.nd he
   rw[hv1]
   refine rd_exb (aq ?_)
   walk_at "rd"
   have hd:=qi.dist he
   have hlv:e.2.1<=24012:=E4 (qi.deep he) hql
   refine⟨f,ga,kvs,q,bH ws T,x,i,B,e,rfl,hf,pk,qi,e1 _ _ hg,he,hlv,fun l H2 ks e2 hl hln hks hgo=>?_⟩
   exact qy _ l H2 ks hd hlv (e1.trans e2) (e1.none hln) hl hks hgo
  ·rw[iP (fun _ _ z=>z.1) pk hgk]
   refine rd_exb (aC ?_)
   walk_at "rd"
   refine qn (fun n=>?_) H1 e1
   rcases hend with h | h
   ·subst h
    exact qi.done hgk n
   ·exact absurd h hgk
def xj(K:Eo):Sp:=fun vs H Q _=>∃v m ws pa ga x g,vs=[v,.ref pa,.ref ga]/\bf H v m ws/\HOuse m ws/\ax H pa x/\ax H ga g/\dA m x/\dA m g ∧
 ((∀n,¬Bfs.cA (bH ws (cb m x g)) x n g)->∀H',Ext H H'->Q .non H')/\∀n l H' ks,Bfs.cA (bH ws (cb m x g)) x n g->n<=24012->Ext H H'->H l=none->H' l=some (.lst (b9 ks))->ks.length=n->Bfs.gone (nx:=bH ws (cb m x g)) x ks=some g->Q (.ref l) H'
abbrev md:Stmt:=stq 51
theorem xH:FnScope ["house","place","goal"] ["house","place","goal"] (aK md):=⟨rfl,rfl,rfl,by decide +kernel,rfl,by decide +kernel,by decide +kernel⟩
theorem AQ{P:Program}{w:World}{K:Eo}{mg:Str->Option Value}{base:Heap}(D:Dfn K mg "shortest" md ["house","place","goal"])(T:Blt mg)(C_sought_walk:Cal P w K mg base "sought_walk" 4 ["house","place","goal"] (wg K))(C_refuse_bad_places:Cal P w K mg base "refuse_bad_places" 3 ["house","places"] (m8 K))(C_refuse_no_house:Cal P w K mg base "refuse_no_house" 6 ["thing"] (iM K)):Cal P w K mg base "shortest" 7 ["house","place","goal"] (xj K):=by
 have nd:=(xH).nd
 refine D.ok xH (fun vs H Q E h=>?_) (fun X hX H vs Q E h=>?_)
 ·obtain⟨v,m,ws,pa,ga,x,g,rfl,_⟩:=h;rfl
 ·obtain⟨f,cdv,A,outer,s,H0,E0,rfl,hr⟩:=hX
  obtain⟨v,m,ws,pa,ga,x,g,rfl,hv,ok,hx,hg,ix,ig,qn,qy⟩:=h
  refine⟨_,(aj (bo (aD C_refuse_no_house hr (aa (pv 0) ae)))
    (aj (bo (aD C_refuse_bad_places hr (aa (pv 0) (aa (bz (aa (pv 1) (aa (pv 2) ae))) ae))))
    (ao (aF (aD C_sought_walk hr (aa (pv 0) (aa (pv 1) (aa (pv 2) ae)))))))),?_⟩
  walk_at "rd"
  refine⟨v,m,ws,rfl,hv,ok,fun H1 e1=>?_⟩
  walk_at "rd"
  refine⟨aB (by simp),aE fun l H2 e2 hl _=>?_⟩
  walk_at "rd"
  have e12:=e1.trans e2
  obtain⟨hh,t,rfl,g1,g2⟩:=hv.ext e12
  refine⟨hh,_,m,l,[pa,ga],[x,g],rfl,g1,hl,.cons (e12 _ _ hx) (.cons (e12 _ _ hg) .nil),?_,?_⟩
  ·intro y hy
   rcases EK.mp hy with rfl | hy
   ·exact ix
   ·rw[EG]at hy
    subst hy
    exact ig
  walk_at "rd"
  exact⟨_,m,ws,pa,ga,x,g,rfl,⟨hh,t,rfl,g1,g2⟩,ok,e12 _ _ hx,e12 _ _ hg,ix,ig,fun h H' e=>qn h H' (e12.trans e),fun n l H' ks hd hn e hln hl hks hgo=>qy n l H' ks hd hn (e12.trans e) (e12.none hln) hl hks hgo⟩
def aR(n:Nat)(f:Nat->Bool):List V:=(List.range n).map fun i=>V.bl (f i)
theorem cJ(n:Nat)(f:Nat->Bool):(aR n f).length=n:=by simp[aR]
theorem fg{n i:Nat}(f:Nat->Bool)(h:i<n):(aR n f)[i]?=some (.bl (f i)):=by
 unfold aR
 rw[Ey,List.getElem?_range h]
 rfl
theorem dY{n:Nat}{f g:Nat->Bool}(h:∀i,i<n->f i=g i):aR n f=aR n g:=by
 unfold aR
 apply List.map_congr_left
 intro i hi
 rw[h i (List.mem_range.mp hi)]
theorem iH(n:Nat)(f:Nat->Bool):aR (n+1) f=aR n f++[V.bl (f n)]:=by
 unfold aR
 rw[List.range_succ,EM]
 rfl
theorem mH{n k:Nat}(f:Nat->Bool)(c:Bool)(hk:k<n):(aR n f).set k (.bl c)=aR n fun i=>if i=k then c else f i:=by
 apply List.ext_getElem?
 intro i
 rcases Nat.lt_or_ge i n with hi | hi
 ·rw[List.getElem?_set,cJ,fg _ hi,fg _ hi]
  by_cases h:k=i
  ·subst h
   simp[hi]
  ·rw[if_neg h,if_neg (Ne.symm h)]
 ·rw[List.getElem?_eq_none (by rw[List.length_set,cJ];exact hi),List.getElem?_eq_none (by rw[cJ];exact hi)]
theorem dG{n:Nat}{f:Nat->Bool}{i:Int}(h0:0<=i)(h:i<n):bq (aR n f) i=some (.bl (f i.toNat)):=ee h0 (fg f (by omega))
theorem sF(n:Nat)(c:Bool):(List.replicate n [V.bl c]).flatten=aR n fun _=>c:=by
 induction n with
 | zero=>rfl
 | succ n ih=>
  rw[List.replicate_succ',List.flatten_append,ih,iH]
  rfl
theorem CZ{n:Nat}{f:Nat->Bool}{i:Int}(h0:0<=i)(h:i<=n):cg (aR n f) none (some i)=aR i.toNat f:=by
 unfold cg
 rw[cJ,HT.nZ]
 have e:HT.aN n n (some i)=i.toNat:=by
  show(if i<0 then(i+(n:Int)).toNat else min i.toNat n)=i.toNat
  rw[if_neg (by omega)]
  omega
 rw[e,List.drop_zero,Nat.sub_zero]
 apply List.ext_getElem?
 intro k
 rcases Nat.lt_or_ge k i.toNat with hk | hk
 ·rw[List.getElem?_take_of_lt hk,fg _ (by omega),fg _ hk]
 ·rw[List.getElem?_eq_none (by rw[List.length_take,cJ];omega),List.getElem?_eq_none (by rw[cJ];omega)]
def Rows(H:Hp)(q:Addr)(rs:List Addr)(n:Nat)(M:Nat->Nat->Bool):Prop:=H q=some (.lst (rs.map V.ref))/\∀(i:Nat) (r:Addr),rs[i]?=some r->H r=some (.lst (aR n (M i)))
theorem Rows.ext{H H':Hp}(e:Ext H H'){q:Addr}{rs:List Addr}{n:Nat}{M:Nat->Nat->Bool}(h:Rows H q rs n M):Rows H' q rs n M:=⟨e _ _ h.1,fun i r hi=>e _ _ (h.2 i r hi)⟩
def lO(K:Eo):Sp:=fun vs H Q _=>∃vh m ws d,vs=[vh,.str d]/\bf H vh m ws/\HOuse m ws/\∀l cs us H',Ext H H'->H l=none->H' l=some (.lst (List.map V.ref cs))->aP H' cs us->us=ws.filter (fun w=>decide (w.deed=d))->Q (.ref l) H'
abbrev jA:Stmt:=stq 28
theorem sW:FnScope ["house","deed"] ["house","deed"] (aK jA):=⟨rfl,rfl,rfl,by decide +kernel,rfl,by decide +kernel,by decide +kernel⟩
theorem xW{P:Program}{w:World}{K:Eo}{mg:Str->Option Value}{base:Heap}(D:Dfn K mg "ways_of_deed" jA ["house","deed"])(T:Blt mg):Cal P w K mg base "ways_of_deed" 1 ["house","deed"] (lO K):=by
 have nd:=(sW).nd
 refine D.ok sW (fun vs H Q E h=>?_) (fun X hX H vs Q E h=>?_)
 ·obtain⟨vh,m,ws,d,rfl,_⟩:=h;rfl
 ·obtain⟨f,cdv,A,outer,s,H0,E0,rfl,hr⟩:=hX
  obtain⟨vh,m,ws,d,rfl,hv,ok,q⟩:=h
  have few:=ok.few
  obtain⟨hp0,hq0,rfl,hh,hw⟩:=id hv
  obtain⟨bs,hq,hal⟩:=cn.al hw
  have hbl:=hal.1
  refine⟨_,(@ao _ _ _ (@aF _ _ _ _ (cO ["way"] [1] (ib K (@ai _ _ _ _ _ _ _ (aA K) (pv 0) af (fun _ _=>rfl))) (fun _=>(aJ (i:=0) (show(["way","deed"]:List Str).Nodup from by decide +kernel) rfl (Or.inl rfl) (Or.inr rfl))) (fun _=>(fj (aT bM (@ai _ _ _ _ _ _ _ (aA K) (pv 0) af (fun _ _=>rfl)) (pv 1) (aQ _)))) (fun _=>(pv 0))))),?_⟩
  walk_at "rd"
  refine ay (ah.of hh) (v:=.ref hq0) rfl ?_
  walk_at "rd"
  refine gR (ah.of hq) ?_
  refine kY (xs:=bs.map V.ref) (fun i ys H'=>H'=H/\∃cs us,ys=List.map V.ref cs/\aP H cs us/\us=(ws.take i).filter fun w=>decide (w.deed=d)) (aB (by rw[Ew];omega)) ⟨rfl,[],[],rfl,aP.nil _,rfl⟩ ?_ ?_ ?_
  ·rintro i ys H' _ ⟨rfl,cs,us,rfl,hau,rfl⟩
   refine⟨ah.of hq,?_⟩
   rw[Ew,hau.1]
   exact E4 (List.length_filter_le _ _) (by rw[List.length_take];omega)
  ·rintro i v ys H' hx ⟨rfl,cs,us,rfl,hau,hus⟩
   rw[Ey]at hx
   obtain⟨b,hb,rfl⟩:=EH.mp hx
   have hiw:i<ws.length:=by
    have:=(EE.mp hb).1
    omega
   have hwi:ws[i]?=some ws[i]:=Ex hiw
   have hbw:=hal.2 i b _ hb hwi
   generalize ws[i]=w0 at hwi hbw
   walk_at "rd"
   refine ay (ah.of hbw) (v:=.str w0.deed) rfl ?_
   walk_at "rd"
   refine bU (rd_exb ?_)
   cases hc:decide (w0.deed=d)with
   | true=>
    refine aC ?_
    walk_at "rd"
    refine⟨rfl,cs++[b],us++[w0],?_,hau.snoc hbw,?_⟩
    ·rw[EM];rfl
    ·rw[hus,List.take_add_one,hwi,List.filter_append]
     congr 1
     show[w0]=List.filter _ [w0]
     rw[List.filter_cons,if_pos hc]
     rfl
   | false=>
    refine aq ⟨rfl,cs,us,rfl,hau,?_⟩
    rw[hus,List.take_add_one,hwi,List.filter_append]
    have:List.filter (fun w:Way=>decide (w.deed=d)) [w0]=[]:=by
     rw[List.filter_cons,if_neg (by rw[hc];exact EL)]
     rfl
    show _=_++List.filter _ [w0]
    rw[this,List.append_nil]
  ·rintro ys H' pc ⟨hH,cs,us,rfl,hau,hus⟩ hpc
   subst hH
   rw[Ew,hbl,EZ]at hus
   have e:=bx (o:=.lst (List.map V.ref cs)) hpc
   exact q pc cs us _ e hpc aL (hau.ext e) hus
theorem xB{x:Addr}:∀{l:List Addr} {i:Nat},l.Nodup->x∉l->(l.set i x).Nodup
 | [],_,_,_=>List.nodup_nil
 | a::l,0,h,hx=>by
  rw[List.nodup_cons]at h
  exact List.nodup_cons.mpr ⟨fun z=>hx (Ez _ z),h.2⟩
 | a::l,i+1,h,hx=>by
  rw[List.nodup_cons]at h
  refine List.nodup_cons.mpr ⟨fun z=>?_,xB h.2 fun z=>hx (Ez _ z)⟩
  rcases List.mem_or_eq_of_mem_set z with z | z
  ·exact h.1 z
  ·exact hx (by rw[z];exact EC)
structure TB(H H':Hp)(q:Addr)(rs rs':List Addr)(n:Nat)(M:Nat->Nat->Bool):Prop where
 keep:∀b o,b≠q->H b=some o->H' b=some o
 len:rs'.length=n
 nd:rs'.Nodup
 nq:q∉rs'
 old:∀r∈rs',r∈rs\/H r=none
 rows:Rows H' q rs' n M
theorem TB.congr{H H':Hp}{q:Addr}{rs rs':List Addr}{n:Nat}{M M':Nat->Nat->Bool}(h:TB H H' q rs rs' n M)(e:∀i j,i<n->j<n->M i j=M' i j):TB H H' q rs rs' n M':=
 ⟨h.keep,h.len,h.nd,h.nq,h.old,h.rows.1,fun i r hi=>by
  rw[h.rows.2 i r hi]
  have hl:i<n:=by rw[←h.len];exact(EE.mp hi).1
  congr 2
  exact dY fun j hj=>e i j hl hj⟩
theorem TB.set{H H1:Hp}{q p9:Addr}{rs rs1:List Addr}{n i:Nat}{M:Nat->Nat->Bool}{f:Nat->Bool}(h:TB H H1 q rs rs1 n M)(hi:i<n)(hp:H1 p9=none):TB H (upd (upd H1 p9 (.lst (aR n f))) q (.lst ((rs1.map V.ref).set i (.ref p9)))) q rs (rs1.set i p9) n (fun a b=>if a=i then f b else M a b):=by
 have hq:H1 q=some (.lst (rs1.map V.ref)):=h.rows.1
 have nqp:q≠p9:=fun z=>by rw[z,hp]at hq;cases hq
 have nin:p9∉rs1:=fun z=>by
  obtain⟨j,hj⟩:=List.getElem?_of_mem z
  rw[h.rows.2 j p9 hj]at hp
  cases hp
 refine⟨fun b o nb e=>?_,by rw[List.length_set];exact h.len,xB h.nd nin,fun z=>?_,fun r hr=>?_,?_,fun a r ha=>?_⟩
 ·have e1:=h.keep b o nb e
  rw[az nb,az (bX e1 hp)]
  exact e1
 ·rcases List.mem_or_eq_of_mem_set z with z | z
  ·exact h.nq z
  ·exact nqp z
 ·rcases List.mem_or_eq_of_mem_set hr with hr | rfl
  ·exact h.old r hr
  ·right
   cases e:H r with
   | none=>rfl
   | some o=>rw[h.keep r o (Ne.symm nqp) e]at hp;cases hp
 ·rw[aL,List.map_set]
 ·rw[List.getElem?_set]at ha
  by_cases hai:i=a
  ·subst hai
   rw[if_pos rfl,if_pos (by rw[h.len];exact hi)]at ha
   cases ha
   rw[az (Ne.symm nqp),aL]
   congr 2
   exact dY fun j _=>by dsimp only;rw[if_pos rfl]
  ·rw[if_neg hai]at ha
   have e:=h.rows.2 a r ha
   have nrq:r≠q:=fun z=>h.nq (z ▸ EF ha)
   rw[az nrq,az (bX e hp),e]
   congr 2
   exact dY fun j _=>by dsimp only;rw[if_neg (Ne.symm hai)]
def jn(M:Nat->Nat->Bool)(k:Nat):Nat->Nat->Bool:=fun i j=>M i j || (M i k && M k j)
def bK(M:Nat->Nat->Bool):Nat->Nat->Nat->Bool
 | 0=>M
 | k+1=>jn (bK M k) k
structure Joined(n:Nat)(M M':Nat->Nat->Bool):Prop where
 le:∀i j,M i j=true->M' i j=true
 tr:∀i a j,a<n->M' i a=true->M' a j=true->M' i j=true
 least:∀S:Nat->Nat->Prop,(∀i a j,S i a->S a j->S i j)->(∀i j,M i j=true->S i j)->∀i j,M' i j=true->S i j
theorem uR(M:Nat->Nat->Bool):∀k,Joined k M (bK M k)
 | 0=>⟨fun _ _ h=>h,fun _ _ _ h=>absurd h (Nat.not_lt_zero _),fun _ _ h=>h⟩
 | k+1=>by
  have ih:=uR M k
  have up:∀i j,bK M (k+1) i j=true↔(bK M k i j=true\/(bK M k i k=true/\bK M k k j=true)):=fun i j=>by
   show(bK M k i j || (bK M k i k && bK M k k j))=true↔_
   simp
  refine⟨fun i j h=>(up i j).mpr (.inl (ih.le i j h)),fun i a j ha h1 h2=>?_,fun S ht hm i j h=>?_⟩
  ·rw[up]at h1 h2 ⊢
   by_cases hak:a=k
   ·subst hak
    have x1:bK M a i a=true:=by rcases h1 with h | h;exact h;exact h.1
    have x2:bK M a a j=true:=by rcases h2 with h | h;exact h;exact h.2
    exact .inr ⟨x1,x2⟩
   ·have hlt:a<k:=by omega
    rcases h1 with h1 | ⟨h1,h1'⟩<;>rcases h2 with h2 | ⟨h2,h2'⟩
    ·exact .inl (ih.tr i a j hlt h1 h2)
    ·exact .inr ⟨ih.tr i a k hlt h1 h2,h2'⟩
    ·exact .inr ⟨h1,ih.tr k a j hlt h1' h2⟩
    ·exact .inr ⟨h1,h2'⟩
  ·rcases(up i j).mp h with h | ⟨h1,h2⟩
   ·exact ih.least S ht hm i j h
   ·exact ht i k j (ih.least S ht hm i k h1) (ih.least S ht hm k j h2)
def sQ(K:Eo):Sp:=fun vs H Q _=>∃q rs n M,vs=[.ref q]/\TB H H q rs rs n M/\n<=12/\∀rs' M' H',TB H H' q rs rs' n M'->Joined n M M'->Q .non H'
abbrev kT:Stmt:=stq 31
theorem sy:FnScope ["table","many","middle","p"] ["table"] (aK kT):=⟨rfl,rfl,rfl,by decide +kernel,rfl,by decide +kernel,by decide +kernel⟩
theorem AM{P:Program}{w:World}{K:Eo}{mg:Str->Option Value}{base:Heap}(D:Dfn K mg "join_walks" kT ["table"])(T:Blt mg):Cal P w K mg base "join_walks" 1 ["table"] (sQ K):=by
 have nd:=(sy).nd
 refine D.ok sy (fun vs H Q E h=>?_) (fun X hX H vs Q E h=>?_)
 ·obtain⟨q,rs,n,M,rfl,_⟩:=h;rfl
 ·obtain⟨f,cdv,A,outer,s,H0,E0,rfl,hr⟩:=hX
  obtain⟨qt,rs,n,M,rfl,ht,hn,q⟩:=h
  refine⟨_,(@aj _ _ _ _ _ (@aG _ _ 1 _ _ _ _ nd rfl (Or.inl rfl) (aX (cD K) rfl T.len_ PySem.boot_len (@aa _ _ _ _ _ (pv 0) ae rfl)) rfl (Or.inl rfl))
    (@ao _ _ _ (bL PassesOwn.never rfl (cI rfl T.range_ (@aa _ _ _ _ _ (pv 1) ae rfl)) (aJ (i:=2) nd rfl (Or.inr rfl)) (@ao _ _ _ (bL PassesOwn.never rfl (cI rfl T.range_ (@aa _ _ _ _ _ (pv 1) ae rfl)) (aJ (i:=3) nd rfl (Or.inr rfl)) (@ao _ _ _ (cL (bw (@ai _ _ _ _ _ _ _ (aI K) (@ai _ _ _ _ _ _ _ (aI K) (pv 0) (pv 3) (fun _ _=>rfl)) (pv 2) (fun _ _=>rfl))) (@ao _ _ _ (@gD _ _ _ _ _ _ (cO ["q"] [0,3,2] (cI rfl T.range_ (@aa _ _ _ _ _ (pv 1) ae rfl)) (fun _=>(aJ (i:=0) (show(["q","table","p","middle"]:List Str).Nodup from by decide +kernel) rfl (Or.inl rfl) (Or.inr rfl))) (fun _=>dm) (fun _=>(tI (@ai _ _ _ _ _ _ _ (aI K) (@ai _ _ _ _ _ _ _ (aI K) (pv 1) (pv 2) (fun _ _=>rfl)) (pv 0) (fun _ _=>rfl)) (dX (@ai _ _ _ _ _ _ _ (aI K) (@ai _ _ _ _ _ _ _ (aI K) (pv 1) (pv 3) (fun _ _=>rfl)) (pv 0) (fun _ _=>rfl)))))) (jm (pv 0) (pv 3) set_list) rfl rfl rfl)) aV))))))),?_⟩
  walk_at "rd"
  refine dn (ag.of ht.rows.1) ?_
  rw[Ew,ht.len]
  walk_at "rd"
  refine cG (by omega) ?_
  rw[EI]
  refine forR (fun k σ H'=>∃rs1 k1 k2,TB H H' qt rs rs1 n (bK M k)/\σ=[some (.ref qt),some (.int (n:Nat)),k1,k2]) ⟨rs,_,_,ht,rfl⟩ ?_ ?_
  ·rintro k σ H1 hk ⟨rs1,k1,k2,tb,rfl⟩
   rw[show (0:Int)+(k:Int)=((k:Nat):Int) by omega]
   walk_at "rd"
   refine cG (by omega) ?_
   rw[EI]
   refine forR (fun p σ H'=>∃rs2 k2,TB H H' qt rs rs2 n (fun i j=>if i<p then jn (bK M k) k i j else bK M k i j)/\σ=[some (.ref qt),some (.int (n:Nat)),some (.int (k:Nat)),k2]) ⟨rs1,_,tb,rfl⟩ ?_ ?_
   ·rintro p σ H2 hp ⟨rs2,k2,tb2,rfl⟩
    rw[show (0:Int)+(p:Int)=((p:Nat):Int) by omega]
    have hp2:p<rs2.length:=by rw[tb2.len];exact hp
    have hk2:k<rs2.length:=by rw[tb2.len];exact hk
    have gp:rs2[p]?=some rs2[p]:=Ex hp2
    have gk:rs2[k]?=some rs2[k]:=Ex hk2
    have rp:=tb2.rows.2 p _ gp
    have rk:=tb2.rows.2 k _ gk
    generalize rs2[p]=ap at gp rp
    generalize rs2[k]=ak at gk rk
    have ap1:bq (rs2.map V.ref) ((p:Nat):Int)=some (.ref ap):=dJ (by rw[Ey,gp];rfl)
    have ak1:bq (rs2.map V.ref) ((k:Nat):Int)=some (.ref ak):=dJ (by rw[Ey,gk];rfl)
    have rp':H2 ap=some (.lst (aR n (bK M k p))):=by
     rw[rp]
     congr 2
     exact dY fun j _=>by dsimp only;rw[if_neg (Nat.lt_irrefl _)]
    have rk':H2 ak=some (.lst (aR n (bK M k k))):=by
     rw[rk]
     congr 2
     refine dY fun j _=>?_
     dsimp only
     by_cases hkp:k<p
     ·rw[if_pos hkp]
      unfold jn
      cases bK M k k j<;>simp
     ·rw[if_neg hkp]
    walk_at "rd"
    refine bZ ?_
    walk_at "rd"
    refine aH (ag.of tb2.rows.1) ap1 ?_
    walk_at "rd"
    refine aH (ag.of rp') (dG (by omega) (by omega)) ?_
    rw[EI]
    walk_at "rd"
    cases hc:bK M k p k with
    | false=>
     refine aq ?_
     walk_at "rd"
     refine⟨rs2,_,tb2.congr fun i j hi hj=>?_,rfl⟩
     try dsimp only
     by_cases h1:i<p
     ·rw[if_pos h1,if_pos (by omega)]
     ·rw[if_neg h1]
      by_cases h2:i<p+1
      ·have:i=p:=by omega
       subst this
       rw[if_pos h2]
       unfold jn
       rw[hc]
       simp
      ·rw[if_neg h2]
    | true=>
     refine aC ?_
     walk_at "rd"
     refine cG (by omega) ?_
     rw[EI]
     refine fm (fun i ys H'=>H'=H2/\ys=aR i (jn (bK M k) k p)) (aB (by omega)) ⟨rfl,rfl⟩ ?_ ?_ ?_
     ·rintro i ys H' _ ⟨_,rfl⟩
      rw[cJ];exact ER _
     ·rintro i ys H3 hi ⟨rfl,rfl⟩
      rw[show (0:Int)+(i:Int)=((i:Nat):Int) by omega]
      walk_at "rd"
      refine aC ?_
      walk_at "rd"
      refine aH (ag.of tb2.rows.1) ap1 ?_
      walk_at "rd"
      refine aH (ag.of rp') (dG (by omega) (by omega)) ?_
      rw[EI]
      refine rd_exb ?_
      cases hv:bK M k p i with
      | true=>
       refine aC ⟨rfl,?_⟩
       rw[iH]
       congr 1
       show[V.bl true]=[V.bl (bK M k p i || _)]
       rw[hv]
       rfl
      | false=>
       refine aq ?_
       walk_at "rd"
       refine aH (ag.of tb2.rows.1) ak1 ?_
       walk_at "rd"
       refine aH (ag.of rk') (dG (by omega) (by omega)) ?_
       rw[EI]
       refine⟨rfl,?_⟩
       rw[iH]
       congr 1
       show[V.bl (bK M k k i)]=[V.bl (bK M k p i || (bK M k p k && bK M k k i))]
       rw[hv,hc]
       simp
     ·rintro ys H3 p9 ⟨hH,rfl⟩ hp9
      subst hH
      have hq2:(upd H3 p9 (.lst (aR n (jn (bK M k) k p)))) qt=some (.lst (rs2.map V.ref)):=(bx hp9) _ _ tb2.rows.1
      walk_at "rd"
      refine iV hq2 (je (by omega) (by rw[Ew,tb2.len];omega)) ?_
      rw[EI]
      refine⟨_,_,(tb2.set (f:=jn (bK M k) k p) hp hp9).congr fun i j hi hj=>?_,rfl⟩
      try dsimp only
      by_cases h1:i=p
      ·subst h1
       rw[if_pos rfl,if_pos (by omega)]
      ·rw[if_neg h1]
       by_cases h2:i<p
       ·rw[if_pos h2,if_pos (by omega)]
       ·rw[if_neg h2,if_neg (by omega)]
   ·rintro σ H2 ⟨rs2,k2,tb2,rfl⟩
    exact⟨rs2,_,_,tb2.congr (fun i j hi hj=>by rw[if_pos hi];rfl),rfl⟩
  ·rintro σ H1 ⟨rs1,k1,k2,tb,rfl⟩
   walk_at "rd"
   exact q rs1 _ H1 tb (uR M n)
def put2(M:Nat->Nat->Bool)(i x:Nat):Nat->Nat->Bool:=fun j y=>if j=i/\y=x then true else M j y
structure TW(H H':Hp)(q:Addr)(rs:List Addr)(n:Nat)(M:Nat->Nat->Bool):Prop where
 keep:∀b o,b∉rs->H b=some o->H' b=some o
 len:rs.length=n
 nd:rs.Nodup
 nq:q∉rs
 rows:Rows H' q rs n M
theorem TW.mark{H H1:Hp}{q r:Addr}{rs:List Addr}{n i j:Nat}{M:Nat->Nat->Bool}(h:TW H H1 q rs n M)(hi:rs[i]?=some r)(hj:j<n):TW H (upd H1 r (.lst ((aR n (M i)).set j (.bl true)))) q rs n (put2 M i j):=by
 have hm:=EF hi
 have nqr:q≠r:=fun z=>h.nq (z ▸ hm)
 refine⟨fun b o nb e=>?_,h.len,h.nd,h.nq,?_,fun a r' ha=>?_⟩
 ·have nbr:b≠r:=fun z=>nb (by rw[z];exact hm)
  rw[az nbr]
  exact h.keep b o nb e
 ·rw[az nqr]
  exact h.rows.1
 ·by_cases hai:a=i
  ·subst hai
   rw[hi]at ha
   cases ha
   rw[aL,mH _ _ hj]
   congr 2
   refine dY fun y _=>?_
   unfold put2
   by_cases hy:y=j
   ·rw[if_pos hy,if_pos ⟨rfl,hy⟩]
   ·rw[if_neg hy,if_neg fun z=>hy z.2]
  ·have nr:r'≠r:=fun z=>hai ((List.getElem?_inj (by rw[h.len];exact(by rw[←h.len];exact(EE.mp ha).1)) h.nd).mp (by rw[ha,hi,z]))
   rw[az nr,h.rows.2 a r' ha]
   congr 2
   exact dY fun y _=>by unfold put2;rw[if_neg fun z=>hai z.1]
structure ArchR(n:Nat)(us ds:List Way)(M M':Nat->Nat->Bool)(ad:Bool):Prop where
 le:∀i j,M i j=true->M' i j=true
 same:ad=false->∀i j,M' i j=M i j
 more:ad=true->∃i j,i<n/\j<n/\M i j=false/\M' i j=true
 least:∀S:Nat->Nat->Prop,(∀u∈us,∀d∈ds,S u.other.toNat d.room.toNat->S u.room.toNat d.other.toNat)->(∀i j,M i j=true->S i j)->∀i j,M' i j=true->S i j
theorem ArchR.refl{n:Nat}{us ds:List Way}{M:Nat->Nat->Bool}:ArchR n us ds M M false:=⟨fun _ _ h=>h,fun _ _ _=>rfl,fun h=>(nomatch h),fun _ _ h=>h⟩
theorem ArchR.put{n:Nat}{us ds:List Way}{M M':Nat->Nat->Bool}{ad:Bool}(h:ArchR n us ds M M' ad){u d:Way}(hu:u∈us)(hd:d∈ds)(h1:M' u.other.toNat d.room.toNat=true)(h2:M' u.room.toNat d.other.toNat=false)(hn1:u.room.toNat<n)(hn2:d.other.toNat<n):ArchR n us ds M (put2 M' u.room.toNat d.other.toNat) true:=by
 have le:∀i j,M i j=true->put2 M' u.room.toNat d.other.toNat i j=true:=fun i j hm=>by
  unfold put2
  split
  ·rfl
  ·exact h.le i j hm
 refine⟨le,fun z=>(nomatch z),fun _=>⟨_,_,hn1,hn2,?_,by unfold put2;rw[if_pos ⟨rfl,rfl⟩]⟩,fun S hS hm i j hp=>?_⟩
 ·rw[Bool.eq_false_iff]
  intro z
  rw[h.le _ _ z]at h2
  cases h2
 ·unfold put2 at hp
  split at hp
  ·rename_i z
   rw[z.1,z.2]
   exact hS u hu d hd (h.least S hS hm _ _ h1)
  ·exact h.least S hS hm i j hp
def vM(K:Eo):Sp:=fun vs H Q _=>∃q rs n M lu cu us ld cd ds,vs=[.ref q,.ref lu,.ref ld]/\TW H H q rs n M/\H lu=some (.lst (List.map V.ref cu))/\aP H cu us/\H ld=some (.lst (List.map V.ref cd))/\aP H cd ds/\lu∉rs/\ld∉rs/\(∀w∈us++ds,0<=w.room/\w.room<(n:Int)/\0<=w.other/\w.other<(n:Int)) ∧
 ∀M' ad H',TW H H' q rs n M'->ArchR n us ds M M' ad->(ad=false->∀u∈us,∀d∈ds,M u.other.toNat d.room.toNat=true->M u.room.toNat d.other.toNat=true)->Q (.bl ad) H'
abbrev j4:Stmt:=stq 32
theorem vb:FnScope ["table","ups","downs","added","rise","fall"] ["table","ups","downs"] (aK j4):=⟨rfl,rfl,rfl,by decide +kernel,rfl,by decide +kernel,by decide +kernel⟩
theorem AX{P:Program}{w:World}{K:Eo}{mg:Str->Option Value}{base:Heap}(D:Dfn K mg "add_arches" j4 ["table","ups","downs"])(T:Blt mg):Cal P w K mg base "add_arches" 1 ["table","ups","downs"] (vM K):=by
 have nd:=(vb).nd
 refine D.ok vb (fun vs H Q E h=>?_) (fun X hX H vs Q E h=>?_)
 ·obtain⟨q,rs,n,M,lu,cu,us,ld,cd,ds,rfl,_⟩:=h;rfl
 ·obtain⟨f,cdv,A,outer,s,H0,E0,rfl,hr⟩:=hX
  obtain⟨qt,rs,n,M,lu,cu,us,ld,cd,ds,rfl,tw,hlu,hau,hld,had,nlu,nld,hin,q⟩:=h
  have hcu:=hau.1
  have hcd:=had.1
  refine⟨_,(@aj _ _ _ _ _ (@aG _ _ 3 _ _ _ _ nd rfl (Or.inl rfl) bI rfl (Or.inl rfl))
    (@aj _ _ _ _ _ (bL PassesOwn.never rfl (cw K (pv 1)) (aJ (i:=4) nd rfl (Or.inl rfl)) (@ao _ _ _ (bL PassesOwn.never rfl (cw K (pv 2)) (aJ (i:=5) nd rfl (Or.inl rfl)) (@ao _ _ _ (cL (PW.pt (fI (bw (@ai _ _ _ _ _ _ _ (aI K) (@ai _ _ _ _ _ _ _ (aI K) (pv 0) (@ai _ _ _ _ _ _ _ (aA K) (pv 4) af (fun _ _=>rfl)) (fun _ _=>rfl)) (@ai _ _ _ _ _ _ _ (aA K) (pv 5) af (fun _ _=>rfl)) (fun _ _=>rfl))) (fZ (bT (bw (@ai _ _ _ _ _ _ _ (aI K) (@ai _ _ _ _ _ _ _ (aI K) (pv 0) (@ai _ _ _ _ _ _ _ (aA K) (pv 4) af (fun _ _=>rfl)) (fun _ _=>rfl)) (@ai _ _ _ _ _ _ _ (aA K) (pv 5) af (fun _ _=>rfl)) (fun _ _=>rfl))))))) (@aj _ _ _ _ _ (@gD _ _ _ _ _ _ bI (jm (@ai _ _ _ _ _ _ _ (aI K) (pv 0) (@ai _ _ _ _ _ _ _ (aA K) (pv 4) af (fun _ _=>rfl)) (fun _ _=>rfl)) (@ai _ _ _ _ _ _ _ (aA K) (pv 5) af (fun _ _=>rfl)) set_list) rfl rfl rfl)
    (@ao _ _ _ (@aG _ _ 3 _ _ _ _ nd rfl (Or.inl rfl) bI rfl (Or.inl rfl)))) aV)))))
    (@ao _ _ _ (@aF _ _ _ _ (pv 3))))),?_⟩
  have tupN:∀(b:Addr) (w:Way),H b=some (.tup w.vs)->b∉rs:=fun b w hb z=>by
   obtain⟨j,hj⟩:=List.getElem?_of_mem z
   rw[tw.rows.2 j b hj]at hb
   cases hb
  walk_at "rd"
  refine cj (ag.of hlu) ?_
  refine forL (xs:=List.map V.ref cu) (fun i σ H'=>∃M' ad k1 k2,TW H H' qt rs n M'/\ArchR n us ds M M' ad/\(ad=false->∀a,a<i->∀u,us[a]?=some u->∀d∈ds,M u.other.toNat d.room.toNat=true->M u.room.toNat d.other.toNat=true)/\σ=[some (.ref qt),some (.ref lu),some (.ref ld),some (.bl ad),k1,k2]) ⟨M,false,_,_,tw,.refl,fun _ a ha=>absurd ha (Nat.not_lt_zero _),rfl⟩ (fun i σ H' _ h=>by obtain⟨M',ad,k1,k2,t,_⟩:=h;exact ag.of (t.keep _ _ nlu hlu)) ?_ ?_
  ·rintro i v σ H1 hx ⟨M1,ad,k1,k2,tw1,ar1,cl1,rfl⟩
   rw[Ey]at hx
   obtain⟨bu,hbu,rfl⟩:=EH.mp hx
   have hiu:i<us.length:=by rw[←hcu];exact(EE.mp hbu).1
   have gu:us[i]?=some us[i]:=Ex hiu
   have hbu0:=hau.2 i bu _ hbu gu
   generalize us[i]=u at gu hbu0
   have hum:=EF gu
   obtain⟨u0,u1,u2,u3⟩:=hin u (List.mem_append_left _ hum)
   walk_at "rd"
   refine cj (ag.of (tw1.keep _ _ nld hld)) ?_
   refine forL (xs:=List.map V.ref cd) (fun j σ H'=>∃M' ad k2,TW H H' qt rs n M'/\ArchR n us ds M M' ad/\(ad=false->(∀a,a<i->∀u,us[a]?=some u->∀d∈ds,M u.other.toNat d.room.toNat=true->M u.room.toNat d.other.toNat=true)/\∀b,b<j->∀d,ds[b]?=some d->M u.other.toNat d.room.toNat=true->M u.room.toNat d.other.toNat=true)/\σ=[some (.ref qt),some (.ref lu),some (.ref ld),some (.bl ad),some (.ref bu),k2]) ⟨M1,ad,_,tw1,ar1,fun h=>⟨cl1 h,fun b hb=>absurd hb (Nat.not_lt_zero _)⟩,rfl⟩ (fun j σ H' _ h=>by obtain⟨M',ad,k2,t,_⟩:=h;exact ag.of (t.keep _ _ nld hld)) ?_ ?_
   ·rintro j v σ H2 hx2 ⟨M2,ad2,k2,tw2,ar2,cl2,rfl⟩
    rw[Ey]at hx2
    obtain⟨bd,hbd,rfl⟩:=EH.mp hx2
    have hid:j<ds.length:=by rw[←hcd];exact(EE.mp hbd).1
    have gd:ds[j]?=some ds[j]:=Ex hid
    have hbd0:=had.2 j bd _ hbd gd
    generalize ds[j]=d at gd hbd0
    have hdm:=EF gd
    obtain⟨d0,d1,d2,d3⟩:=hin d (List.mem_append_right _ hdm)
    have ku:=tw2.keep _ _ (tupN bu u hbu0) hbu0
    have kd:=tw2.keep _ _ (tupN bd d hbd0) hbd0
    have x1:u.other.toNat<rs.length:=by rw[tw2.len];omega
    have x2:u.room.toNat<rs.length:=by rw[tw2.len];omega
    have r1:rs[u.other.toNat]?=some rs[u.other.toNat]:=Ex x1
    have r2:rs[u.room.toNat]?=some rs[u.room.toNat]:=Ex x2
    have w1:=tw2.rows.2 _ _ r1
    have w2:=tw2.rows.2 _ _ r2
    generalize rs[u.other.toNat]=a1 at r1 w1
    generalize rs[u.room.toNat]=a2 at r2 w2
    have at1:bq (rs.map V.ref) u.other=some (.ref a1):=ee u2 (by rw[Ey,r1];rfl)
    have at2:bq (rs.map V.ref) u.room=some (.ref a2):=ee u0 (by rw[Ey,r2];rfl)
    have step:(M u.other.toNat d.room.toNat=true->M u.room.toNat d.other.toNat=true)->ad2=false->∀b,b<j+1->∀d',ds[b]?=some d'->M u.other.toNat d'.room.toNat=true->M u.room.toNat d'.other.toNat=true:=fun hs hf b hb d' hd'=>by
     by_cases hbj:b<j
     ·exact(cl2 hf).2 b hbj d' hd'
     ·have:b=j:=by omega
      subst this
      rw[gd]at hd'
      cases hd'
      exact hs
    walk_at "rd"
    refine bZ ?_
    walk_at "rd"
    refine ay (ah.of ku) (v:=.int u.other) rfl ?_
    walk_at "rd"
    refine aH (ag.of tw2.rows.1) at1 ?_
    walk_at "rd"
    refine ay (ah.of kd) (v:=.int d.room) rfl ?_
    walk_at "rd"
    refine aH (ag.of w1) (dG d0 (by omega)) ?_
    walk_at "rd"
    cases hm1:M2 u.other.toNat d.room.toNat with
    | false=>
     refine aq ?_
     walk_at "rd"
     refine⟨M2,ad2,_,tw2,ar2,fun hf=>⟨(cl2 hf).1,step (fun z=>?_) hf⟩,rfl⟩
     rw[ar2.same hf]at hm1
     rw[hm1]at z
     cases z
    | true=>
     refine aC ?_
     walk_at "rd"
     refine ay (ah.of ku) (v:=.int u.room) rfl ?_
     walk_at "rd"
     refine aH (ag.of tw2.rows.1) at2 ?_
     walk_at "rd"
     refine ay (ah.of kd) (v:=.int d.other) rfl ?_
     walk_at "rd"
     refine aH (ag.of w2) (dG d2 (by omega)) ?_
     walk_at "rd"
     cases hm2:M2 u.room.toNat d.other.toNat with
     | true=>
      refine aq ?_
      walk_at "rd"
      refine⟨M2,ad2,_,tw2,ar2,fun hf=>⟨(cl2 hf).1,step (fun _=>?_) hf⟩,rfl⟩
      rw[ar2.same hf]at hm2
      exact hm2
     | false=>
      refine aC ?_
      walk_at "rd"
      refine ay (ah.of ku) (v:=.int u.room) rfl ?_
      walk_at "rd"
      refine aH (ag.of tw2.rows.1) at2 ?_
      walk_at "rd"
      refine ay (ah.of kd) (v:=.int d.other) rfl ?_
      walk_at "rd"
      refine iV w2 (je d2 (by rw[cJ];omega)) ?_
      walk_at "rd"
      exact⟨_,true,_,tw2.mark r2 (by omega),ar2.put hum hdm hm1 hm2 (by omega) (by omega),fun z=>(nomatch z),rfl⟩
   ·rintro σ H2 ⟨M2,ad2,k2,tw2,ar2,cl2,rfl⟩
    rw[Ew,hcd]at cl2
    refine⟨M2,ad2,_,_,tw2,ar2,fun hf a ha u' hu'=>?_,rfl⟩
    by_cases hai:a<i
    ·exact(cl2 hf).1 a hai u' hu'
    ·have:a=i:=by omega
     subst this
     rw[gu]at hu'
     cases hu'
     intro d hd
     obtain⟨b,hb⟩:=List.getElem?_of_mem hd
     exact(cl2 hf).2 b (EE.mp hb).1 d hb
  ·rintro σ H1 ⟨M1,ad,k1,k2,tw1,ar1,cl1,rfl⟩
   rw[Ew,hcu]at cl1
   walk_at "rd"
   refine q M1 ad H1 tw1 ar1 fun hf u hu d hd=>?_
   obtain⟨a,ha⟩:=List.getElem?_of_mem hu
   exact cl1 hf a (EE.mp ha).1 u ha d hd
inductive Kpt(ws:List Way)(n:Nat):Nat->Nat->Prop
 | refl {i:Nat}:i<n->Kpt ws n i i
 | stay {w:Way}:w∈ws->w.deed = "stay"->Kpt ws n w.room.toNat w.other.toNat
 | trans {i a j:Nat}:Kpt ws n i a->Kpt ws n a j->Kpt ws n i j
 | arch {u d:Way}:u∈ws->u.deed = "up"->d∈ws->d.deed = "down"->Kpt ws n u.other.toNat d.room.toNat->Kpt ws n u.room.toNat d.other.toNat
theorem iu{m:Int}{ws:List Way}(ok:∀w∈ws,w.Ok m){w:Way}(hw:w∈ws):w.room.toNat<m.toNat/\w.other.toNat<m.toNat:=by
 have h:=ok w hw
 have:=h.r0
 have:=h.r1
 have:=h.o0
 have:=h.o1
 omega
theorem Kpt.lt{m:Int}{ws:List Way}(ok:∀w∈ws,w.Ok m){i j:Nat}(h:Kpt ws m.toNat i j):i<m.toNat/\j<m.toNat:=by
 induction h with
 | refl h=>exact⟨h,h⟩
 | stay h _=>exact iu ok h
 | trans _ _ h1 h2=>exact⟨h1.1,h2.2⟩
 | arch h1 _ h2 _ _ _=>exact⟨(iu ok h1).1,(iu ok h2).2⟩
def zE(ws:List Way)(M:Nat->Nat->Bool):Prop:=∀i j,M i j=true↔(i=j\/∃w∈ws,w.deed = "stay"/\w.room.toNat=i/\w.other.toNat=j)
def hV(n:Nat)(M:Nat->Nat->Bool):Nat:=((List.range n).flatMap fun i=>(List.range n).map fun j=>(i,j)).countP fun z=>!M z.1 z.2
theorem uS{α:Type}{p p':α->Bool}(hi:∀y,p' y=true->p y=true){a:α}(ha:p a=true)(ha':p' a=false):∀{L:List α},a∈L->L.countP p'<L.countP p
 | b::L,hm=>by
  have hle:L.countP p'<=L.countP p:=List.countP_mono_left fun y _=>hi y
  rw[List.countP_cons,List.countP_cons]
  rcases EK.mp hm with rfl | hm
  ·rw[ha,ha']
   simp
   omega
  ·have:=uS hi ha ha' hm
   cases h1:p' b with
   | false=>simp[h1];split<;>omega
   | true=>rw[hi b h1];simp;omega
theorem DI{n i j:Nat}{M M':Nat->Nat->Bool}(hi:i<n)(hj:j<n)(le:∀a b,M a b=true->M' a b=true)(h1:M i j=false)(h2:M' i j=true):hV n M'<hV n M:=by
 refine uS (a:=(i,j)) (fun y hy=>?_) (by simp[h1]) (by simp[h2]) (by simp;exact⟨hi,hj⟩)
 have hy':M' y.1 y.2=false:=by simpa using hy
 have:M y.1 y.2=false:=by
  rw[Bool.eq_false_iff]
  intro z
  rw[le _ _ z]at hy'
  cases hy'
 simp[this]
structure KT(H H':Hp)(q:Addr)(rs:List Addr)(n:Nat)(M:Nat->Nat->Bool):Prop where
 ext:Ext H H'
 fq:H q=none
 fr:∀r∈rs,H r=none
 len:rs.length=n
 nd:rs.Nodup
 nq:q∉rs
 rows:Rows H' q rs n M
theorem KT.tw{H H':Hp}{q:Addr}{rs:List Addr}{n:Nat}{M:Nat->Nat->Bool}(h:KT H H' q rs n M):TW H' H' q rs n M:=⟨fun _ _ _ e=>e,h.len,h.nd,h.nq,h.rows⟩
theorem KT.tb{H H':Hp}{q:Addr}{rs:List Addr}{n:Nat}{M:Nat->Nat->Bool}(h:KT H H' q rs n M):TB H' H' q rs rs n M:=⟨fun _ _ _ e=>e,h.len,h.nd,h.nq,fun _ h=>.inl h,h.rows⟩
theorem KT.more{H H1 H2:Hp}{q:Addr}{rs:List Addr}{n:Nat}{M:Nat->Nat->Bool}(h:KT H H1 q rs n M)(e:Ext H1 H2):KT H H2 q rs n M:=⟨h.ext.trans e,h.fq,h.fr,h.len,h.nd,h.nq,h.rows.ext e⟩
theorem KT.byW{H H1 H2:Hp}{q:Addr}{rs:List Addr}{n:Nat}{M M':Nat->Nat->Bool}(h:KT H H1 q rs n M)(t:TW H1 H2 q rs n M'):KT H H2 q rs n M':=
 ⟨fun b o e=>t.keep b o (fun z=>by rw[h.fr b z]at e;cases e) (h.ext b o e),h.fq,h.fr,h.len,h.nd,h.nq,t.rows⟩
theorem KT.byB{H H1 H2:Hp}{q:Addr}{rs rs':List Addr}{n:Nat}{M M':Nat->Nat->Bool}(h:KT H H1 q rs n M)(t:TB H1 H2 q rs rs' n M'):KT H H2 q rs' n M':=
 ⟨fun b o e=>t.keep b o (fun z=>by rw[z,h.fq]at e;cases e) (h.ext b o e),h.fq,fun r hr=>by
  rcases t.old r hr with z | z
  ·exact h.fr r z
  ·cases e:H r with
   | none=>rfl
   | some o=>exact absurd ((h.ext r o e).symm.trans z) (by simp),t.len,t.nd,t.nq,t.rows⟩
def vW(K:Eo):Sp:=fun vs H Q _=>∃vh m ws,vs=[vh]/\bf H vh m ws/\HOuse m ws/\∀q rs M H',KT H H' q rs m.toNat M->zE ws M->Q (.ref q) H'
abbrev jW:Stmt:=stq 30
theorem w6:FnScope ["house","table","p","way"] ["house"] (aK jW):=⟨rfl,rfl,rfl,by decide +kernel,rfl,by decide +kernel,by decide +kernel⟩
theorem B1{P:Program}{w:World}{K:Eo}{mg:Str->Option Value}{base:Heap}(D:Dfn K mg "beginning_table" jW ["house"])(T:Blt mg)(C_ways_of_deed:Cal P w K mg base "ways_of_deed" 1 ["house","deed"] (lO K)):Cal P w K mg base "beginning_table" 2 ["house"] (vW K):=by
 have nd:=(w6).nd
 refine D.ok w6 (fun vs H Q E h=>?_) (fun X hX H vs Q E h=>?_)
 ·obtain⟨vh,m,ws,rfl,_⟩:=h;rfl
 ·obtain⟨f,cdv,A,outer,s,H0,E0,rfl,hr⟩:=hX
  obtain⟨vh,m,ws,rfl,hv,ok,q⟩:=h
  have m1:=ok.m1
  have m12:=ok.m12
  obtain⟨hp0,hq0,rfl,hh,_⟩:=id hv
  refine⟨_,(@aj _ _ _ _ _ (@aG _ _ 1 _ _ _ _ nd rfl (Or.inl rfl) (@bz _ _ _ _ ae) rfl (Or.inl rfl))
    (@aj _ _ _ _ _ (bL PassesOwn.never rfl (cI rfl T.range_ (@aa _ _ _ _ _ (@ai _ _ _ _ _ _ _ (aA K) (pv 0) af (fun _ _=>rfl)) ae rfl)) (aJ (i:=2) nd rfl (Or.inr rfl)) (@ao _ _ _ (bo (bG K ED ES ET bO (pv 1) (@aa _ _ _ _ _ (cO ["q"] [2] (cI rfl T.range_ (@aa _ _ _ _ _ (@ai _ _ _ _ _ _ _ (aA K) (pv 0) af (fun _ _=>rfl)) ae rfl)) (fun _=>(aJ (i:=0) (show(["q","p"]:List Str).Nodup from by decide +kernel) rfl (Or.inl rfl) (Or.inr rfl))) (fun _=>dm) (fun _=>(dF bM (pv 1) (pv 0) (aQ _)))) ae rfl)))))
    (@aj _ _ _ _ _ (bL PassesOwn.never rfl (cw K (aD C_ways_of_deed hr (@aa _ _ _ _ _ (pv 0) (@aa _ _ _ _ _ aS ae rfl) rfl))) (aJ (i:=3) nd rfl (Or.inl rfl)) (@ao _ _ _ (@gD _ _ _ _ _ _ bI (jm (@ai _ _ _ _ _ _ _ (aI K) (pv 1) (@ai _ _ _ _ _ _ _ (aA K) (pv 3) af (fun _ _=>rfl)) (fun _ _=>rfl)) (@ai _ _ _ _ _ _ _ (aA K) (pv 3) af (fun _ _=>rfl)) set_list) rfl rfl rfl)))
    (@ao _ _ _ (@aF _ _ _ _ (pv 1)))))),?_⟩
  walk_at "rd"
  refine⟨aB (by simp),aE fun tq H1 e1 htq hfq=>?_⟩
  walk_at "rd"
  refine ay (ah.of (e1 _ _ hh)) (v:=.int m) rfl ?_
  walk_at "rd"
  refine cG (by omega) ?_
  refine forR (fun p σ H'=>∃rs k1 k2,Ext H H'/\H' tq=some (.lst (List.map V.ref rs))/\(∀r∈rs,H r=none)/\rs.length=p/\rs.Nodup/\tq∉rs/\(∀(a:Nat) (r:Addr),rs[a]?=some r->H' r=some (.lst (aR m.toNat fun j=>decide (a=j))))/\σ=[some (.ref hp0),some (.ref tq),k1,k2]) ⟨[],_,_,e1,htq,fun r hr=>(by cases hr),rfl,List.nodup_nil,by simp,fun a r h=>by simp at h,rfl⟩ ?_ ?_
  ·rintro p σ H2 hp ⟨rs,k1,k2,e2,hq2,hfr,hln,hnd,hnq,hrs,rfl⟩
   rw[show (0:Int)+(p:Int)=((p:Nat):Int) by omega]
   walk_at "rd"
   refine⟨cS (ag.of hq2),?_⟩
   walk_at "rd"
   refine ay (ah.of (e2 _ _ hh)) (v:=.int m) rfl ?_
   walk_at "rd"
   refine cG (by omega) ?_
   refine fm (fun i ys H'=>H'=H2/\ys=aR i (fun j=>decide (p=j))) (aB (by omega)) ⟨rfl,rfl⟩ ?_ ?_ ?_
   ·rintro i ys H' _ ⟨_,rfl⟩
    rw[cJ];exact ER _
   ·rintro i ys H3 hi ⟨rfl,rfl⟩
    rw[show (0:Int)+(i:Int)=((i:Nat):Int) by omega]
    walk_at "rd"
    refine aC ?_
    walk_at "rd"
    refine⟨rfl,?_⟩
    rw[iH]
    congr 3
    rw[E8]
    simp
    omega
   ·rintro ys H3 p9 ⟨hH,rfl⟩ hp9
    subst hH
    have e3:=bx (o:=.lst (aR m.toNat fun j=>decide (p=j))) hp9
    have hq3:=e3 _ _ hq2
    have h9:(upd H3 p9 (.lst (aR m.toNat fun j=>decide (p=j)))) p9=_:=aL
    have e03:=e2.trans e3
    have hrs3:∀(a:Nat) (r:Addr),rs[a]?=some r->(upd H3 p9 (.lst (aR m.toNat fun j=>decide (p=j)))) r=some (.lst (aR m.toNat fun j=>decide (a=j))):=fun a r h=>e3 _ _ (hrs a r h)
    have n9:H p9=none:=by
     cases z:H p9 with
     | none=>rfl
     | some o=>rw[e2 _ _ z]at hp9;cases hp9
    have nin:p9∉rs:=fun z=>by
     obtain⟨j,hj⟩:=List.getElem?_of_mem z
     rw[hrs j p9 hj]at hp9
     cases hp9
    have nqp:tq≠p9:=fun z=>by rw[z,hp9]at hq2;cases hq2
    generalize upd H3 p9 (.lst (aR m.toNat fun j=>decide (p=j)))=H4 at e3 hq3 h9 e03 hrs3 ⊢
    walk_at "rd"
    refine bN hq3 (by rw[Ew];exact Nat.lt_of_le_of_lt (show rs.length<=12 by omega) (by decide)) ?_
    walk_at "rd"
    have keep:∀b o,b≠tq->H4 b=some o->upd H4 tq (.lst (List.map V.ref rs++[.ref p9])) b=some o:=fun b o nb e=>by rw[az nb];exact e
    refine⟨rs++[p9],_,_,cx e03 hfq,?_,fun r hr=>?_,by rw[EN,hln];rfl,?_,fun z=>?_,fun a r ha=>?_,rfl⟩
    ·rw[aL,EM];rfl
    ·rcases EU.mp hr with hr | hr
     ·exact hfr r hr
     ·rw[EG.mp hr];exact n9
    ·rw[List.nodup_append]
     refine⟨hnd,by simp,fun a ha c hc z=>?_⟩
     rw[EG.mp hc]at z
     exact nin (z ▸ ha)
    ·rcases EU.mp z with z | z
     ·exact hnq z
     ·exact nqp (EG.mp z)
    ·by_cases hal:a<rs.length
     ·rw[EW hal]at ha
      exact keep r _ (fun z=>hnq (z ▸ EF ha)) (hrs3 a r ha)
     ·rw[EV (by omega)]at ha
      have hz:a-rs.length=0:=by
       have:=(EE.mp ha).1
       simp at this
       omega
      rw[hz]at ha
      cases ha
      have:a=p:=by omega
      subst this
      exact keep p9 _ (Ne.symm nqp) h9
  ·rintro σ H2 ⟨rs,k1,k2,e2,hq2,hfr,hln,hnd,hnq,hrs,rfl⟩
   have tw:TW H2 H2 tq rs m.toNat (fun i j=>decide (i=j)):=⟨fun _ _ _ e=>e,hln,hnd,hnq,hq2,hrs⟩
   have kt:KT H H2 tq rs m.toNat (fun i j=>decide (i=j)):=⟨e2,hfq,hfr,hln,hnd,hnq,hq2,hrs⟩
   walk_at "rd"
   refine⟨.ref hp0,m,ws,_,rfl,hv.ext e2,ok,fun l cs us H3 e3 hl3 hl hau hus=>?_⟩
   have kt3:=kt.more e3
   have nl:l∉rs:=fun z=>by
    obtain⟨j,hj⟩:=List.getElem?_of_mem z
    rw[hrs j l hj]at hl3
    cases hl3
   have hcs:=hau.1
   have tupN:∀(b:Addr) (w:Way),H3 b=some (.tup w.vs)->b∉rs:=fun b w hb z=>by
    obtain⟨j,hj⟩:=List.getElem?_of_mem z
    rw[kt3.rows.2 j b hj]at hb
    cases hb
   refine cj (ag.of hl) ?_
   refine forL (xs:=List.map V.ref cs) (fun i σ H'=>∃M k1 k2,TW H3 H' tq rs m.toNat M/\(∀a b,M a b=true↔(a=b\/∃w∈us.take i,w.room.toNat=a/\w.other.toNat=b))/\σ=[some (.ref hp0),some (.ref tq),k1,k2]) ⟨_,_,_,kt3.tw,fun a b=>by simp,rfl⟩ (fun i σ H' _ h=>by obtain⟨M,k1,k2,t,_⟩:=h;exact ag.of (t.keep _ _ nl hl)) ?_ ?_
   ·rintro i v σ H4 hx ⟨M,k1,k2,tw4,hM,rfl⟩
    rw[Ey]at hx
    obtain⟨b,hb,rfl⟩:=EH.mp hx
    have hi:i<us.length:=by rw[←hcs];exact(EE.mp hb).1
    have gu:us[i]?=some us[i]:=Ex hi
    have hb0:=hau.2 i b _ hb gu
    generalize us[i]=u at gu hb0
    have hum:u∈ws:=by
     have:=EF gu
     rw[hus]at this
     exact(List.mem_filter.mp this).1
    have oku:=ok.ok u hum
    have u0:=oku.r0
    have u1:=oku.r1
    have u2:=oku.o0
    have u3:=oku.o1
    have kb:=tw4.keep _ _ (tupN b u hb0) hb0
    have x2:u.room.toNat<rs.length:=by rw[tw4.len];omega
    have r2:rs[u.room.toNat]?=some rs[u.room.toNat]:=Ex x2
    have w2:=tw4.rows.2 _ _ r2
    generalize rs[u.room.toNat]=a2 at r2 w2
    have at2:bq (rs.map V.ref) u.room=some (.ref a2):=ee u0 (by rw[Ey,r2];rfl)
    walk_at "rd"
    refine ay (ah.of kb) (v:=.int u.room) rfl ?_
    walk_at "rd"
    refine aH (ag.of tw4.rows.1) at2 ?_
    walk_at "rd"
    refine ay (ah.of kb) (v:=.int u.other) rfl ?_
    walk_at "rd"
    refine iV w2 (je u2 (by rw[cJ];omega)) ?_
    refine⟨_,_,_,tw4.mark r2 (by omega),fun a c=>?_,rfl⟩
    rw[List.take_add_one,gu]
    unfold put2
    split
    ·rename_i z
     simp only[true_iff]
     exact .inr ⟨u,List.mem_append_right _ (by simp),z.1.symm,z.2.symm⟩
    ·rename_i z
     rw[hM]
     constructor
     ·rintro(h | ⟨w,hw,h⟩)
      ·exact .inl h
      ·exact .inr ⟨w,List.mem_append_left _ hw,h⟩
     ·rintro(h | ⟨w,hw,h1,h2⟩)
      ·exact .inl h
      ·rcases EU.mp hw with hw | hw
       ·exact .inr ⟨w,hw,h1,h2⟩
       ·have:w=u:=by simpa using hw
        subst this
        exact absurd ⟨h1.symm,h2.symm⟩ z
   ·rintro σ H4 ⟨M,k1,k2,tw4,hM,rfl⟩
    rw[Ew,hcs,EZ]at hM
    walk_at "rd"
    refine q tq rs M H4 (kt3.byW tw4) fun a b=>?_
    rw[hM,hus]
    constructor
    ·rintro(h | ⟨w,hw,h⟩)
     ·exact .inl h
     ·obtain⟨h1,h2⟩:=List.mem_filter.mp hw
      exact .inr ⟨w,h1,of_decide_eq_true h2,h⟩
    ·rintro(h | ⟨w,hw,hd,h⟩)
     ·exact .inl h
     ·exact .inr ⟨w,List.mem_filter.mpr ⟨hw,decide_eq_true hd⟩,h⟩
structure UD(H:Hp)(tq:Addr)(rs:List Addr)(lu ld:Addr)(cu cd:List Addr)(us ds:List Way):Prop where
 u:H lu=some (.lst (List.map V.ref cu))
 au:aP H cu us
 d:H ld=some (.lst (List.map V.ref cd))
 ad:aP H cd ds
 nu:lu∉rs
 nd:ld∉rs
 qu:lu≠tq
 qd:ld≠tq
theorem aP.byW{H H':Hp}{q:Addr}{rs:List Addr}{n:Nat}{M M':Nat->Nat->Bool}(r:Rows H q rs n M)(t:TW H H' q rs n M'){bs:List Addr}{ws:List Way}(h:aP H bs ws):aP H' bs ws:=⟨h.1,fun j b w e1 e2=>by
 have hb:=h.2 j b w e1 e2
 refine t.keep b _ (fun z=>?_) hb
 obtain⟨j,hj⟩:=List.getElem?_of_mem z
 rw[r.2 j b hj]at hb
 cases hb⟩
theorem aP.byB{H H':Hp}{q:Addr}{rs rs':List Addr}{n:Nat}{M M':Nat->Nat->Bool}(r:Rows H q rs n M)(t:TB H H' q rs rs' n M'){bs:List Addr}{ws:List Way}(h:aP H bs ws):aP H' bs ws:=⟨h.1,fun j b w e1 e2=>by
 have hb:=h.2 j b w e1 e2
 refine t.keep b _ (fun z=>?_) hb
 rw[z,r.1]at hb
 cases hb⟩
theorem UD.byW{H H':Hp}{tq:Addr}{rs:List Addr}{lu ld:Addr}{cu cd:List Addr}{us ds:List Way}{n:Nat}{M M':Nat->Nat->Bool}(r:Rows H tq rs n M)(t:TW H H' tq rs n M')(h:UD H tq rs lu ld cu cd us ds):UD H' tq rs lu ld cu cd us ds:=
 ⟨t.keep _ _ h.nu h.u,h.au.byW r t,t.keep _ _ h.nd h.d,h.ad.byW r t,h.nu,h.nd,h.qu,h.qd⟩
theorem UD.byB{H H':Hp}{tq:Addr}{rs rs':List Addr}{lu ld:Addr}{cu cd:List Addr}{us ds:List Way}{n:Nat}{M M':Nat->Nat->Bool}(r:Rows H tq rs n M)(t:TB H H' tq rs rs' n M')(h:UD H tq rs lu ld cu cd us ds):UD H' tq rs' lu ld cu cd us ds:=by
 have no:∀l o,H l=some o->l∉rs->l∉rs':=fun l o hl hn z=>by
  rcases t.old l z with y | y
  ·exact hn y
  ·rw[hl]at y;cases y
 exact⟨t.keep _ _ h.qu h.u,h.au.byB r t,t.keep _ _ h.qd h.d,h.ad.byB r t,no _ _ h.u h.nu,no _ _ h.d h.nd,h.qu,h.qd⟩
def nN(ws:List Way)(n:Nat)(M:Nat->Nat->Bool):Prop:=∀i j,i<n->j<n->(M i j=true↔Kpt ws n i j)
structure KJ(ws:List Way)(n:Nat)(M:Nat->Nat->Bool):Prop where
 beg:∀i j,(i=j\/∃w∈ws,w.deed = "stay"/\w.room.toNat=i/\w.other.toNat=j)->M i j=true
 snd:∀i j,M i j=true->i=j\/Kpt ws n i j
theorem CQ{m:Int}{ws:List Way}{M:Nat->Nat->Bool}(ok:∀w∈ws,w.Ok m)(h:KJ ws m.toNat M)(tr:∀i a j,a<m.toNat->M i a=true->M a j=true->M i j=true)(ar:∀u∈ws.filter (fun w=>decide (w.deed=Str.ofString "up")),∀d∈ws.filter (fun w=>decide (w.deed=Str.ofString "down")),M u.other.toNat d.room.toNat=true->M u.room.toNat d.other.toNat=true):nN ws m.toNat M:=by
 intro i j hi hj
 constructor
 ·intro hm
  rcases h.snd i j hm with rfl | h
  ·exact .refl hi
  ·exact h
 ·intro hk
  clear hi hj
  induction hk with
  | refl _=>exact h.beg _ _ (.inl rfl)
  | stay h1 h2=>exact h.beg _ _ (.inr ⟨_,h1,h2,rfl,rfl⟩)
  | trans h1 h2 i1 i2=>exact tr _ _ _ (Kpt.lt ok h1).2 i1 i2
  | arch h1 h2 h3 h4 h5 ih=>exact ar _ (List.mem_filter.mpr ⟨h1,decide_eq_true h2⟩) _ (List.mem_filter.mpr ⟨h3,decide_eq_true h4⟩) ih
theorem KJ.join{m:Int}{ws:List Way}{M M':Nat->Nat->Bool}(h:KJ ws m.toNat M)(j:Joined m.toNat M M'):KJ ws m.toNat M':=by
 refine⟨fun a b hb=>j.le _ _ (h.beg a b hb),fun a b hm=>j.least (fun a b=>a=b\/Kpt ws m.toNat a b) (fun i a j h1 h2=>?_) h.snd a b hm⟩
 rcases h1 with rfl | h1
 ·exact h2
 ·rcases h2 with rfl | h2
  ·exact .inr h1
  ·exact .inr (.trans h1 h2)
theorem KJ.arch{m:Int}{ws:List Way}{M M':Nat->Nat->Bool}{ad:Bool}(ok:∀w∈ws,w.Ok m)(h:KJ ws m.toNat M)(a:ArchR m.toNat (ws.filter fun w=>decide (w.deed=Str.ofString "up")) (ws.filter fun w=>decide (w.deed=Str.ofString "down")) M M' ad):KJ ws m.toNat M':=by
 refine⟨fun i j hb=>a.le _ _ (h.beg i j hb),fun i j hm=>a.least (fun a b=>a=b\/Kpt ws m.toNat a b) (fun u hu d hd hs=>?_) h.snd i j hm⟩
 obtain⟨u1,u2⟩:=List.mem_filter.mp hu
 obtain⟨d1,d2⟩:=List.mem_filter.mp hd
 have u2:=of_decide_eq_true u2
 have d2:=of_decide_eq_true d2
 right
 refine .arch u1 u2 d1 d2 ?_
 rcases hs with hs | hs
 ·rw[hs]
  exact .refl (iu ok d1).1
 ·exact hs
def pw(K:Eo):Sp:=fun vs H Q _=>∃vh m ws,vs=[vh]/\bf H vh m ws/\HOuse m ws/\∀q rs M H',KT H H' q rs m.toNat M->nN ws m.toNat M->Q (.ref q) H'
abbrev lS:Stmt:=stq 33
theorem wH:FnScope ["house","table","ups","downs"] ["house"] (aK lS):=⟨rfl,rfl,rfl,by decide +kernel,rfl,by decide +kernel,by decide +kernel⟩
theorem zm{P:Program}{w:World}{K:Eo}{mg:Str->Option Value}{base:Heap}(D:Dfn K mg "kept_table" lS ["house"])(T:Blt mg)(C_add_arches:Cal P w K mg base "add_arches" 1 ["table","ups","downs"] (vM K))(C_join_walks:Cal P w K mg base "join_walks" 1 ["table"] (sQ K))(C_ways_of_deed:Cal P w K mg base "ways_of_deed" 1 ["house","deed"] (lO K))(C_beginning_table:Cal P w K mg base "beginning_table" 2 ["house"] (vW K)):Cal P w K mg base "kept_table" 3 ["house"] (pw K):=by
 have nd:=(wH).nd
 refine D.ok wH (fun vs H Q E h=>?_) (fun X hX H vs Q E h=>?_)
 ·obtain⟨vh,m,ws,rfl,_⟩:=h;rfl
 ·obtain⟨f,cdv,A,outer,s,H0,E0,rfl,hr⟩:=hX
  obtain⟨vh,m,ws,rfl,hv,ok,q⟩:=h
  have m1:=ok.m1
  have m12:=ok.m12
  refine⟨_,(aj (aG (i:=1) nd rfl (Or.inl rfl) (aD C_beginning_table hr (aa (pv 0) ae)))
    (aj (aG (i:=2) nd rfl (Or.inl rfl) (aD C_ways_of_deed hr (aa (pv 0) (aa aS ae))))
    (aj (aG (i:=3) nd rfl (Or.inl rfl) (aD C_ways_of_deed hr (aa (pv 0) (aa aS ae))))
    (aj (bo (aD C_join_walks hr (aa (pv 1) ae)))
    (aj (gH PassesOwn.never (bw (aD C_add_arches hr (aa (pv 1) (aa (pv 2) (aa (pv 3) ae))))) (ao (bo (aD C_join_walks hr (aa (pv 1) ae)))))
    (ao (aF (pv 1)))))))),?_⟩
  walk_at "rd"
  refine⟨vh,m,ws,rfl,hv,ok,fun tq rs M H1 kt bg=>?_⟩
  walk_at "rd"
  refine⟨vh,m,ws,_,rfl,hv.ext kt.ext,ok,fun lu cu us H2 e2 hlu hlu2 hau hus=>?_⟩
  walk_at "rd"
  refine⟨vh,m,ws,_,rfl,hv.ext (kt.ext.trans e2),ok,fun ld cd ds H3 e3 hld hld2 had hds=>?_⟩
  have kt3:=kt.more (e2.trans e3)
  have kj:KJ ws m.toNat M:=⟨fun i j h=>(bg i j).mpr h,fun i j h=>by
   rcases(bg i j).mp h with h | ⟨w,hw,hd,rfl,rfl⟩
   ·exact .inl h
   ·exact .inr (.stay hw hd)⟩
  have nin:∀l,H1 l=none->l∉rs/\l≠tq:=fun l hl=>by
   refine⟨fun z=>?_,fun z=>?_⟩
   ·obtain⟨j,hj⟩:=List.getElem?_of_mem z
    rw[kt.rows.2 j l hj]at hl
    cases hl
   ·rw[z,kt.rows.1]at hl
    cases hl
  have hld1:H1 ld=none:=by
   cases z:H1 ld with
   | none=>rfl
   | some o=>rw[e2 _ _ z]at hld;cases hld
  have ud:UD H3 tq rs lu ld cu cd us ds:=⟨e3 _ _ hlu2,hau.ext e3,hld2,had,(nin lu hlu).1,(nin ld hld1).1,(nin lu hlu).2,(nin ld hld1).2⟩
  have hin:∀w∈us++ds,0<=w.room/\w.room<(m.toNat:Int)/\0<=w.other/\w.other<(m.toNat:Int):=fun w hw=>by
   have hw':w∈ws:=by
    rcases EU.mp hw with h | h
    ·rw[hus]at h;exact(List.mem_filter.mp h).1
    ·rw[hds]at h;exact(List.mem_filter.mp h).1
   have h:=ok.ok w hw'
   have h1:=h.r0
   have h2:=h.r1
   have h3:=h.o0
   have h4:=h.o1
   omega
  clear hlu2 hau hld2 had nin hld1
  walk_at "rd"
  refine⟨tq,rs,m.toNat,M,rfl,kt3.tb,by omega,fun rs1 M1 H4 tb jd=>?_⟩
  have kt4:=kt3.byB tb
  have ud4:=ud.byB kt3.rows tb
  have kj4:=kj.join jd
  walk_at "rd"
  refine gh (fun mm σ H'=>∃rs M,KT H H' tq rs m.toNat M/\UD H' tq rs lu ld cu cd us ds/\KJ ws m.toNat M/\(∀i a j,a<m.toNat->M i a=true->M a j=true->M i j=true)/\mm=hV m.toNat M/\σ=[some vh,some (.ref tq),some (.ref lu),some (.ref ld)]) (fun σ H'=>∃rs M,KT H H' tq rs m.toNat M/\nN ws m.toNat M/\σ=[some vh,some (.ref tq),some (.ref lu),some (.ref ld)]) (hV m.toNat M1) ⟨rs1,M1,kt4,ud4,kj4,jd.tr,rfl,rfl⟩ ?_ ?_
  ·rintro mm σ H5 ⟨rs5,M5,kt5,ud5,kj5,tr5,rfl,rfl⟩
   walk_at "rd"
   refine⟨tq,rs5,m.toNat,M5,lu,cu,us,ld,cd,ds,rfl,kt5.tw,ud5.u,ud5.au,ud5.d,ud5.ad,ud5.nu,ud5.nd,hin,fun M6 ad H6 tw ar cl=>?_⟩
   have kt6:=kt5.byW tw
   have ud6:=ud5.byW kt5.rows tw
   rw[hus,hds]at ar
   have kj6:=kj5.arch ok.ok ar
   walk_at "rd"
   cases ad with
   | false=>
    refine aq ⟨rs5,M6,kt6,CQ ok.ok kj6 (fun i a j ha h1 h2=>?_) (fun u hu d hd hm=>?_),rfl⟩
    ·rw[ar.same rfl]at h1 h2 ⊢
     exact tr5 i a j ha h1 h2
    ·rw[ar.same rfl]at hm ⊢
     exact cl rfl u (by rw[hus];exact hu) d (by rw[hds];exact hd) hm
   | true=>
    refine aC ⟨fun σ' H'=>∃rs M,KT H H' tq rs m.toNat M/\UD H' tq rs lu ld cu cd us ds/\KJ ws m.toNat M/\(∀i a j,a<m.toNat->M i a=true->M a j=true->M i j=true)/\hV m.toNat M<hV m.toNat M5/\σ'=[some vh,some (.ref tq),some (.ref lu),some (.ref ld)],fun σ' H' ⟨rs,M,a1,a2,a3,a4,a5,a6⟩=>⟨_,a5,rs,M,a1,a2,a3,a4,rfl,a6⟩,?_⟩
    walk_at "rd"
    refine⟨tq,rs5,m.toNat,M6,rfl,kt6.tb,by omega,fun rs7 M7 H7 tb7 jd7=>?_⟩
    walk_at "rd"
    obtain⟨i,j,hi,hj,hf,ht⟩:=ar.more rfl
    exact⟨rs7,M7,kt6.byB tb7,ud6.byB kt6.rows tb7,kj6.join jd7,jd7.tr,DI hi hj (fun a b h=>jd7.le _ _ (ar.le _ _ h)) hf (jd7.le _ _ ht),rfl⟩
  ·rintro σ H5 ⟨rs5,M5,kt5,hk5,rfl⟩
   walk_at "rd"
   exact q tq rs5 M5 H5 kt5 hk5
theorem nQ{sp:Sp}{js:List Nat}{cells:List (Str×Addr)}{N:List Str}{ta:TA}{σ:St}{H:Hp}{Q:VK} (h:ta σ H fun vs H1=>(∀j∈js,∃v,σ[j]?=some (some v)) ∧
 ∀cp:List Cap,cp.length=js.length->(∀(i j:Nat) (e:Cap),js[i]?=some j->cp[i]?=some e->N[j]?=some e.n/\cells.lookup e.n=some e.c/\σ[j]?=some (some e.v)/\H1 e.c=none/\∃u,e.o.data=.cell (some u)/\RelV e.v u) →
  sp vs (bF (cellsOf cp) H1) (fun v H'=>(∀b o,(cellsOf cp).lookup b=some o->H' b=some (cV b o))/\Q v (aY (cellsOf cp) H')) E0):iZ sp js cells N ta σ H Q:=h
theorem sY{P:Program}{w:World}{K:Eo}{mg:Str->Option Value}{base:Heap}{k:Nat}{tf:TE}{ta:TA}{σ:St}{H:Hp}{Q:VK}(h:tf σ H fun fv H1=>∃f pre R,fv=.ref f/\FunR P w K mg base k f pre R/\pre H1/\ta σ H1 fun vs H2=>pre H2/\R vs H2 Q):pL P w K mg base k tf ta σ H Q:=h
theorem lB{cs:List (Addr×Obj)}{H:Hp}(hn:∀b o,cs.lookup b=some o->H b=none):Ext H (bF cs H):=fun b o e=>mz hn e
theorem fN{cs:List (Addr×Obj)}{H:Hp}(hc:∀b o,cs.lookup b=some o->H b=some (cV b o)){b:Addr}{x:HO}(hb:H b=some x)(nx:∀f,x≠.ext f):aY cs H b=some x:=by
 cases q:cs.lookup b with
 | none=>rw[cy q];exact hb
 | some o=>rw[hc b o q]at hb;cases hb;exact absurd rfl (nx _)
theorem DP{cs:List (Addr×Obj)}{H:Hp}(hc:∀b o,cs.lookup b=some o->H b=some (cV b o)):Ext H (bF cs (aY cs H)):=fun b x e=>by
 cases q:cs.lookup b with
 | none=>rw[cN q,cy q];exact e
 | some o=>rw[eD q,←hc b o q];exact e
theorem Dv{cs:List (Addr×Obj)}{H H':Hp}(hn:∀b o,cs.lookup b=some o->H b=none)(e:Ext (bF cs H) H'):Ext H (aY cs H'):=fun b x hb=>by
 cases q:cs.lookup b with
 | none=>rw[cy q];exact e b x (by rw[cN q];exact hb)
 | some o=>rw[hn b o q]at hb;cases hb
def cP(n:Nat)(g:Nat->Nat->Bool):Nat->List Bfs.Pl
 | 0=>[]
 | p+1=>cP n g p++((List.range n).filter (g p)).map fun q:Nat=>(((p:Nat):Int),((q:Nat):Int))
theorem gN{n:Nat}{g:Nat->Nat->Bool}{x:Bfs.Pl}:∀{k:Nat},x∈cP n g k↔∃p q:Nat,p<k/\q<n/\g p q=true/\x=(((p:Nat):Int),((q:Nat):Int))
 | 0=>⟨fun h=>(nomatch h),fun⟨p,_,h,_⟩=>absurd h (Nat.not_lt_zero _)⟩
 | k+1=>by
  show x∈cP n g k++_↔_
  rw[EU,gN (k:=k)]
  constructor
  ·rintro(⟨p,q,h1,h2⟩ | h)
   ·exact⟨p,q,by omega,h2⟩
   ·obtain⟨q,hq,rfl⟩:=List.mem_map.mp h
    obtain⟨h1,h2⟩:=List.mem_filter.mp hq
    exact⟨k,q,by omega,List.mem_range.mp h1,h2,rfl⟩
  ·rintro⟨p,q,h1,h2,h3,rfl⟩
   by_cases hp:p<k
   ·exact .inl ⟨p,q,hp,h2,h3,rfl⟩
   ·have:p=k:=by omega
    subst this
    exact .inr (List.mem_map.mpr ⟨q,List.mem_filter.mpr ⟨List.mem_range.mpr h2,h3⟩,rfl⟩)
theorem m3(n:Nat)(g:Nat->Bool):((List.range n).filter g).length<=n:=E4 (List.length_filter_le _ _) (by rw[List.length_range];exact ER _)
theorem mh{n:Nat}{g:Nat->Nat->Bool}:∀k:Nat,(cP n g k).length<=k*n
 | 0=>by simp[cP]
 | k+1=>by
  show(cP n g k++_).length<=_
  rw[EN,Ew,Nat.succ_mul]
  have:=mh (n:=n) (g:=g) k
  have:=m3 n (g k)
  omega
theorem bY{H H':Hp}(f:∀a x,ax H a x->ax H' a x){as:List Addr}{xs:List Bfs.Pl}(h:Paired (ax H) as xs):Paired (ax H') as xs:=by
 induction h with
 | nil=>exact .nil
 | cons h t ih=>exact .cons (f _ _ h) ih
theorem iO{H:Hp}{as:List Addr}{xs:List Bfs.Pl}{a:Addr}{x:Bfs.Pl}(h:Paired (ax H) as xs)(ht:ax H a x):Paired (ax H) (as++[a]) (xs++[x]):=by
 induction h with
 | nil=>exact .cons ht .nil
 | cons h _ ih=>exact .cons h ih
theorem qN{H:Hp}{as bs:List Addr}{xs ys:List Bfs.Pl}(h:Paired (ax H) as xs)(h':Paired (ax H) bs ys):Paired (ax H) (as++bs) (xs++ys):=by
 induction h with
 | nil=>exact h'
 | cons h _ ih=>exact .cons h ih
theorem di{H:Hp}{as:List Addr}{xs:List Bfs.Pl}(h:Paired (ax H) as xs):as.length=xs.length:=by
 induction h with
 | nil=>rfl
 | cons _ _ ih=>rw[EY,EY,ih]
def nU(P:Program)(w:World)(K:Eo)(mg:Str->Option Value)(base:Heap):Sp:=fun vs H Q _=>∃vh m ws f pre g,vs=[vh,.ref f]/\bf H vh m ws/\HOuse m ws/\FunR P w K mg base 1 f pre (fun vs H Q=>∃p q:Nat,vs=[.int (p:Nat),.int (q:Nat)]/\(p:Int)<m/\(q:Int)<m/\∀H',Ext H H'->Q (.bl (g p q)) H')/\pre H/\(∀H H',Ext H H'->pre H->pre H') ∧
 ∀l ps H',Ext H H'->H l=none->H' l=some (.lst (List.map V.ref ps))->Paired (ax H') ps (cP m.toNat g m.toNat)->Q (.ref l) H'
abbrev jx:Stmt:=stq 29
theorem uY:FnScope ["house","choice","pairs","p"] ["house","choice"] (aK jx):=⟨rfl,rfl,rfl,by decide +kernel,rfl,by decide +kernel,by decide +kernel⟩
theorem CN{P:Program}{w:World}{K:Eo}{mg:Str->Option Value}{base:Heap}(D:Dfn K mg "told_pairs" jx ["house","choice"])(T:Blt mg):Cal P w K mg base "told_pairs" 2 ["house","choice"] (nU P w K mg base):=by
 have nd:=(uY).nd
 refine D.ok uY (fun vs H Q E h=>?_) (fun X hX H vs Q E h=>?_)
 ·obtain⟨vh,m,ws,f,pre,g,rfl,_⟩:=h;rfl
 ·obtain⟨f,cdv,A,outer,s,H0,E0,rfl,hr⟩:=hX
  obtain⟨vh,m,ws,ff,pre,g,rfl,hv,ok,hF,hpre,hmono,q⟩:=h
  have m1:=ok.m1
  have m12:=ok.m12
  obtain⟨hp0,hq0,rfl,hh,_⟩:=id hv
  refine⟨_,(@aj _ _ _ _ _ (@aG _ _ 2 _ _ _ _ nd rfl (Or.inl rfl) (@bz _ _ _ _ ae) rfl (Or.inl rfl))
    (@aj _ _ _ _ _ (bL PassesOwn.never rfl (cI rfl T.range_ (@aa _ _ _ _ _ (@ai _ _ _ _ _ _ _ (aA K) (pv 0) af (fun _ _=>rfl)) ae rfl)) (aJ (i:=3) nd rfl (Or.inr rfl)) (@ao _ _ _ (bo (bG K ED PySem.F.slot_list_extend PySem.F.type_list_extend Aw (pv 2) (@aa _ _ _ _ _ (cO ["q"] [3,1] (cI rfl T.range_ (@aa _ _ _ _ _ (@ai _ _ _ _ _ _ _ (aA K) (pv 0) af (fun _ _=>rfl)) ae rfl)) (fun _=>(aJ (i:=0) (show(["q","p","choice"]:List Str).Nodup from by decide +kernel) rfl (Or.inl rfl) (Or.inr rfl))) (fun _=>(fj (bw (pX (P:=P) (w:=w) (K:=K) (mg:=mg) (base:=base) hr (pv 2) (@aa _ _ _ _ _ (pv 1) (@aa _ _ _ _ _ (pv 0) ae rfl) rfl))))) (fun _=>(@bA _ _ _ _ _ (@aa _ _ _ _ _ (pv 1) (@aa _ _ _ _ _ (pv 0) ae rfl) rfl)))) ae rfl)))))
    (@ao _ _ _ (@aF _ _ _ _ (pv 2))))),?_⟩
  walk_at "rd"
  refine⟨aB (by simp),aE fun l H1 e1 hl hfl=>?_⟩
  walk_at "rd"
  refine ay (ah.of (e1 _ _ hh)) (v:=.int m) rfl ?_
  walk_at "rd"
  refine cG (by omega) ?_
  refine forR (fun p σ H'=>∃ps k1,Ext H H'/\H' l=some (.lst (List.map V.ref ps))/\Paired (ax H') ps (cP m.toNat g p)/\σ=[some (.ref hp0),some (.ref ff),some (.ref l),k1]) ⟨[],_,e1,hl,.nil,rfl⟩ ?_ ?_
  ·rintro p σ H2 hp ⟨ps,k1,e2,hl2,hps,rfl⟩
   rw[show (0:Int)+(p:Int)=((p:Nat):Int) by omega]
   have hpl:=di hps
   have hpn:=mh (n:=m.toNat) (g:=g) p
   have hpm:p*m.toNat<=12*12:=Nat.mul_le_mul (by omega) (by omega)
   walk_at "rd"
   refine⟨cS (ag.of hl2),?_⟩
   walk_at "rd"
   refine ay (ah.of (e2 _ _ hh)) (v:=.int m) rfl ?_
   walk_at "rd"
   refine cG (by omega) ?_
   refine fm (fun i ys H'=>Ext H2 H'/\∃cs,ys=List.map V.ref cs/\Paired (ax H') cs (((List.range i).filter (g p)).map fun q:Nat=>(((p:Nat):Int),((q:Nat):Int)))) (aB (by omega)) ⟨Ext.rfl' _,[],rfl,.nil⟩ ?_ ?_ ?_
   ·rintro i ys H' _ ⟨_,cs,rfl,hcs⟩
    rw[Ew,di hcs,Ew]
    exact m3 i (g p)
   ·rintro i ys H3 hi ⟨e3,cs,rfl,hcs⟩
    rw[show (0:Int)+(i:Int)=((i:Nat):Int) by omega]
    have e23:=e2.trans e3
    walk_at "rd"
    refine sY ?_
    walk_at "rd"
    refine⟨ff,pre,_,rfl,hF,hmono _ _ e23 hpre,?_⟩
    walk_at "rd"
    refine⟨hmono _ _ e23 hpre,p,i,rfl,by omega,by omega,fun H4 e4=>?_⟩
    have e24:=e3.trans e4
    cases hg:g p i with
    | false=>
     refine rd_exb (aq ⟨e24,cs,rfl,?_⟩)
     rw[List.range_succ,List.filter_append]
     have:List.filter (g p) [i]=[]:=by
      rw[List.filter_cons,if_neg (by rw[hg];exact EL)]
      rfl
     rw[this,List.append_nil]
     exact bY (fun a x h=>e4 _ _ h) hcs
    | true=>
     refine rd_exb (aC ?_)
     walk_at "rd"
     refine⟨aB (by simp),aE fun t H5 e5 ht _=>?_⟩
     refine⟨e24.trans e5,cs++[t],?_,?_⟩
     ·rw[EM];rfl
     ·rw[List.range_succ,List.filter_append,EM]
      have:List.filter (g p) [i]=[i]:=by
       rw[List.filter_cons,if_pos hg]
       rfl
      rw[this]
      exact iO (bY (fun a x h=>(e4.trans e5) _ _ h) hcs) ht
   ·rintro ys H3 p9 ⟨e3,cs,rfl,hcs⟩ hp9
    have e4:=bx (o:=.lst (List.map V.ref cs)) hp9
    have h9:(upd H3 p9 (.lst (List.map V.ref cs))) p9=_:=aL
    have hcs4:=bY (fun a x h=>e4 _ _ h) hcs
    have e24:=e3.trans e4
    have hl4:=e24 _ _ hl2
    have hps4:=bY (fun a x h=>e24 _ _ h) hps
    generalize upd H3 p9 (.lst (List.map V.ref cs))=H4 at e4 h9 hcs4 e24 hl4 hps4 ⊢
    have hcl:=di hcs
    rw[Ew]at hcl
    have hfl2:=m3 m.toNat (g p)
    walk_at "rd"
    refine⟨l,p9,_,_,rfl,rfl,hl4,h9,aB (by rw[Ew,Ew];omega),?_⟩
    walk_at "rd"
    refine⟨ps++cs,_,cx (e2.trans e24) hfl,?_,?_,rfl⟩
    ·rw[aL,EM]
    ·exact qN (bY (fun a x h=>ax.put hl4 (fun xs z=>by cases z) h) hps4) (bY (fun a x h=>ax.put hl4 (fun xs z=>by cases z) h) hcs4)
  ·rintro σ H2 ⟨ps,k1,e2,hl2,hps,rfl⟩
   walk_at "rd"
   exact q l ps H2 e2 hfl hl2 hps
def fD(K:Eo):Prop:=∀x∈(["kept","low_levels","risen"]:List Str),∀y∈(["kept","low_levels","risen"]:List Str),x≠y->∀c T c' T',PySem.W.tabIn K x=some (c,T)->PySem.W.tabIn K y=some (c',T')->T'≠T
def BX(K:Eo):Bool:=(["kept","low_levels","risen"]:List Str).all fun x=>(["kept","low_levels","risen"]:List Str).all fun y=>x == y || (match PySem.W.tabIn K x,PySem.W.tabIn K y with | some a,some b=>b.2 != a.2 | _,_=>true)
theorem yE{K:Eo}(h:BX K=true):fD K:=fun x hx y hy hn c T c' T' e1 e2=>by
 have h1:=E6.mp (E6.mp h x hx) y hy
 rw[e1,e2,Bool.or_eq_true]at h1
 rcases h1 with h1 | h1
 ·exact absurd (eq_of_beq h1) hn
 ·exact bne_iff_ne.mp h1
structure Tbs(K:Eo)(H:Hp):Prop where
 kept:dz K "kept" ("kept" ++ ".<locals>." ++ "<lambda>") 115 29 H
 low:dz K "low_levels" ("low_levels" ++ ".<locals>." ++ "<lambda>") 148 39 H
 risen:dz K "risen" ("risen" ++ ".<locals>." ++ "<lambda>") 120 29 H
theorem Tbs.ext{K:Eo}{H H':Hp}(e:Ext H H')(h:Tbs K H):Tbs K H':=⟨h.kept.ext e,h.low.ext e,h.risen.ext e⟩
theorem cn.et{H H':Hp}{p:Addr}{kk:List (List Key)}(e:Et H H')(h:cn H p kk):cn H' p kk:=by
 obtain⟨bs,h1,h2,h3⟩:=h
 exact⟨bs,e _ _ h1 (fun ps z=>by cases z),h2,fun j b k e1 e2=>e _ _ (h3 j b k e1 e2) (fun ps z=>by cases z)⟩
theorem bf.et{H H':Hp}{v:V}{m:Int}{ws:List Way}(e:Et H H')(h:bf H v m ws):bf H' v m ws:=by
 obtain⟨p,q,rfl,h1,h2⟩:=h
 exact⟨p,q,rfl,e _ _ h1 (fun ps z=>by cases z),h2.et e⟩
theorem Rows.et{H H':Hp}(e:Et H H'){q:Addr}{rs:List Addr}{n:Nat}{M:Nat->Nat->Bool}(h:Rows H q rs n M):Rows H' q rs n M:=⟨e _ _ h.1 (fun ps z=>by cases z),fun i r hi=>e _ _ (h.2 i r hi) (fun ps z=>by cases z)⟩
theorem aP.et{H H':Hp}{bs:List Addr}{ws:List Way}(e:Et H H')(h:aP H bs ws):aP H' bs ws:=⟨h.1,fun j b w e1 e2=>e _ _ (h.2 j b w e1 e2) (fun ps z=>by cases z)⟩
theorem ax.et{H H':Hp}(e:Et H H'){p:Addr}{x:Bfs.Pl}(h:ax H p x):ax H' p x:=e _ _ h (fun ps z=>by cases z)
def eh(H:Hp)(l:Addr)(n:Nat)(R:Nat->Nat->Prop):Prop:=∃ps g,H l=some (.lst (List.map V.ref ps))/\Paired (ax H) ps (cP n g n)/\∀i j,i<n->j<n->(g i j=true↔R i j)
theorem eh.et{H H':Hp}(e:Et H H'){l:Addr}{n:Nat}{R:Nat->Nat->Prop}(h:eh H l n R):eh H' l n R:=by
 obtain⟨ps,g,h1,h2,h3⟩:=h
 exact⟨ps,g,e _ _ h1 (fun ps z=>by cases z),bY (fun a x h=>h.et e) h2,h3⟩
theorem held{cs:List (Addr×Obj)}{H3 H4:Hp}(hn:∀b o,cs.lookup b=some o->H3 b=none)(e4:Ext (bF cs H3) H4):(∀b o,cs.lookup b=some o->H4 b=some (cV b o))/\Ext H3 (aY cs H4)/\(∀l,bF cs H3 l=none->aY cs H4 l=H4 l)/\∀b x,H4 b=some x->(∀f,x≠.ext f)->aY cs H4 b=some x:=by
 have hc:∀b o,cs.lookup b=some o->H4 b=some (cV b o):=fun b o q=>e4 _ _ (eD q)
 refine⟨hc,Dv hn e4,fun l hl=>?_,fun b x hb nx=>fN hc hb nx⟩
 cases q:cs.lookup l with
 | none=>exact cy q
 | some o=>rw[eD q]at hl;cases hl
theorem oJ{α:Type}{cp:List α}(h:cp.length=1):∃e,cp=[e]:=by
 cases cp with
 | nil=>exact absurd h (by simp)
 | cons e r=>
  cases r with
  | nil=>exact⟨e,rfl⟩
  | cons _ _=>exact absurd h (by simp)
theorem lb{α:Type}{cp:List α}(h:cp.length=2):∃e e',cp=[e,e']:=by
 cases cp with
 | nil=>exact absurd h (by simp)
 | cons e r=>
  obtain⟨e',rfl⟩:=oJ (cp:=r) (by simpa using h)
  exact⟨e,e',rfl⟩
theorem Al{α:Type}{cp:List α}(h:cp.length=3):∃e e' e'',cp=[e,e',e'']:=by
 cases cp with
 | nil=>exact absurd h (by simp)
 | cons e r=>
  obtain⟨e',e'',rfl⟩:=lb (cp:=r) (by simpa using h)
  exact⟨e,e',e'',rfl⟩
theorem n5{P:Program}{w:World}{K:Eo}{mg:Str->Option Value}{base:Heap}{k:Nat}{f c:Addr}{q:Str}{params:Arguments}{body:Expr}{scope:Scope}{cl cells:List (Str×Addr)}{H0:Hp}(hf:H0 f=some (dW f c q params body scope cl))(C:ClOk scope cells cl)(ps:List Str)(cp:List Cap)(R:List V->Hp->VK->Prop)(I:Hp->Prop)
  (S:LamSc ps scope) (bind:∀(pm cv ctv:Value) (us:List Value),us.length=ps.length->bindArgs (PySem.W.kla_fn "<lambda>" q params body scope cl pm cv ctv) ⟨us,[]⟩=pure (ps.zip us))
  (hR:∀vs H Q,R vs H Q->vs.length=ps.length)
  (hbody:∀(A:Around) (outer:List Env) (s:Shared) (H:Hp) (vs:List V) (Q:VK),Room k (A.deeper (ef q scope s.heap.objs.size f (.ref c) cl))->gm f c q params body scope cl cp H->I H->R vs H Q →
   ∃te,PE (jh P w K mg base (ps++cp.map (·.n)) q scope f (.ref c) cl A outer s (aY (cellsOf cp) H)) body te/\te (vs.map some++cp.map fun e=>some e.v) (aY (cellsOf cp) H) fun v H'=>(∀b o,(cellsOf cp).lookup b=some o->H' b=none)->Q v (bF (cellsOf cp) H')) :
  FunR P w K mg base (k+1) f (fun H=>gm f c q params body scope cl cp H/\I H) R:=Eh I S C bind hR hbody
def nK(K:Eo):Sp:=fun vs H Q _=>∃vh m ws,vs=[vh]/\bf H vh m ws/\HOuse m ws/\fD K/\Tbs K H/\∀l H',Et H H'->Tbs K H'->eh H' l m.toNat (Kpt ws m.toNat)->Q (.ref l) H'
abbrev lY:Stmt:=stq 34
theorem rN:FnScope ["house","table"] ["house"] (aK lY):=⟨rfl,rfl,rfl,by decide +kernel,rfl,by decide +kernel,by decide +kernel⟩
theorem Dj{P:Program}{w:World}{K:Eo}{mg:Str->Option Value}{base:Heap}(D:Dfn K mg "kept" lY ["house"])(T:Blt mg){c9 T9:Addr}(B:Tab K mg base "kept" c9 T9)(C_told_pairs:Cal P w K mg base "told_pairs" 2 ["house","choice"] (nU P w K mg base))(C_kept_table:Cal P w K mg base "kept_table" 3 ["house"] (pw K))(C_refuse_no_house:Cal P w K mg base "refuse_no_house" 6 ["thing"] (iM K)):Cal P w K mg base "kept" 7 ["house"] (nK K):=by
 have nd:=(rN).nd
 refine D.okL B rN (fun vs H Q E h=>?_) (fun X hX H vs Q E h=>?_)
 ·obtain⟨vh,m,ws,rfl,_⟩:=h;rfl
 ·obtain⟨f,A,outer,s,H0,E0,rfl,hr⟩:=hX
  obtain⟨vh,m,ws,rfl,hv,ok,dis,htb,q⟩:=h
  have m1:=ok.m1
  have m12:=ok.m12
  refine⟨_,(aj (bo (aD C_refuse_no_house hr (aa (pv 0) ae)))
    (aj (aG (i:=1) nd rfl (Or.inr rfl) (aD C_kept_table hr (aa (pv 0) ae)))
    (ao (aF (oF [1] C_told_pairs hr (aa (pv 0) (aa (nv rfl rfl B.hd B.blt B.gl (by decide +kernel) rfl rfl rfl) ae))))))),?_⟩
  walk_at "rd"
  refine⟨vh,m,ws,rfl,hv,ok,fun H1 e1=>?_⟩
  walk_at "rd"
  refine⟨vh,m,ws,rfl,hv.ext e1,ok,fun tq rs M H2 kt km=>?_⟩
  have e02:=e1.trans kt.ext
  have hrows:=kt.rows
  have hrl:=kt.len
  walk_at "rd"
  show iZ _ [1] _ (["house","table"]:List Str) _ _ _ _
  generalize PySem.Env.cells _=cells0
  refine nQ ?_
  walk_at "rd"
  refine oa ?_
  refine oZ (x:="kept") (htb.ext e02).kept B.tin fun fl c' cl H3 hcl e3 ht3 ot hf hc'=>?_
  have t3:Tbs K H3:=⟨ht3,ot "low_levels" _ _ _ (fun c2 T2 e2=>dis "kept" (by simp) "low_levels" (by simp) (by decide +kernel) _ _ _ _ B.tin e2) (htb.ext e02).low,ot "risen" _ _ _ (fun c2 T2 e2=>dis "kept" (by simp) "risen" (by simp) (by decide +kernel) _ _ _ _ B.tin e2) (htb.ext e02).risen⟩
  walk_at "rd"
  refine⟨fun j hj=>?_,fun cp hlen hcp=>?_⟩
  ·rw[EG.mp hj]
   exact⟨_,rfl⟩
  obtain⟨⟨n,c,o,v⟩,rfl⟩:=oJ hlen
  obtain⟨hN,hcc,hσ,hnone,u,hdat,hrel⟩:=hcp 0 1 _ rfl rfl
  clear hcp hlen
  dsimp only at hN hcc hσ hnone hdat hrel
  have hN':(Str.ofString "table")=n:=Option.some.inj hN
  have hσ':(V.ref tq)=v:=Option.some.inj (Option.some.inj hσ)
  clear hN hσ
  subst hN'
  subst hσ'
  have hn3:∀b o',(cellsOf [⟨Str.ofString "table",c,o,V.ref tq⟩]).lookup b=some o'->H3 b=none:=fun b o' hb=>by
   obtain⟨e,he,rfl,rfl⟩:=fP hb
   rw[EG.mp he]
   exact hnone
  have ex:=lB hn3
  have hrows3:=(hrows.et e3).ext ex
  have hv3:=((hv.ext e02).et e3).ext ex
  have hcaps:Caps (bF (cellsOf [⟨Str.ofString "table",c,o,V.ref tq⟩]) H3) cl [⟨Str.ofString "table",c,o,V.ref tq⟩]:=by
   obtain⟨c2,hc2⟩:=hcl.has (Str.ofString "table") rfl
   have hc3:=(hcl.fr _ _ hc2).2
   rw[hcc]at hc3
   cases hc3
   refine⟨fun e he=>?_,fun x d hx=>?_⟩
   ·rw[EG.mp he]
    exact⟨hc2,eD (by simp[cellsOf]),u,hdat,hrel⟩
   ·have hm:=iq (hcl.fr x d hx).1
    simp at hm
    subst hm
    rw[hc2]at hx
    cases hx
    exact⟨_,EG.mpr rfl,rfl,rfl⟩
  have hF:=n5 (P:=P) (w:=w) (K:=K) (mg:=mg) (base:=base) (k:=0) hf hcl (["p","q"]:List Str) [⟨Str.ofString "table",c,o,V.ref tq⟩] (fun vs H Q=>∃p q:Nat,vs=[.int (p:Nat),.int (q:Nat)]/\(p:Int)<m/\(q:Int)<m/\∀H',Ext H H'->Q (.bl (M p q)) H') (fun H=>Rows H tq rs m.toNat M) ⟨rfl,rfl,rfl,by decide +kernel,by decide +kernel⟩ (fun _ _ _ us hl=>by obtain⟨u1,u2,rfl⟩:=lb hl;rfl) (fun vs H Q h=>by obtain⟨p,q,rfl,_⟩:=h;rfl) (fun A outer s H vs Q hrL hpre hI hR=>by
   obtain⟨p,q,rfl,hp,hq,hQ⟩:=hR
   have hlk:=hpre.2.2.look
   have hI':Rows (aY (cellsOf [⟨Str.ofString "table",c,o,V.ref tq⟩]) H) tq rs m.toNat M:=⟨fN hlk hI.1 (fun f z=>by cases z),fun i r hi=>fN hlk (hI.2 i r hi) (fun f z=>by cases z)⟩
   refine⟨_,(ai (aI K) (ai (aI K) (pv 2) (pv 0) (fun _ _=>rfl)) (pv 1) (fun _ _=>rfl)),?_⟩
   have hb:=DP hlk
   generalize aY (cellsOf [⟨Str.ofString "table",c,o,V.ref tq⟩]) H=HU at hI' hb ⊢
   have hp2:p<rs.length:=by omega
   have gp:rs[p]?=some rs[p]:=Ex hp2
   have rp:=hI'.2 p _ gp
   generalize rs[p]=ap at gp rp
   show hG _ _ _ [some (.int (p:Nat)),some (.int (q:Nat)),some (.ref tq)] _ _
   walk_at "rd"
   refine aH (ag.of hI'.1) (v:=.ref ap) (dJ (by rw[Ey,gp];rfl)) ?_
   walk_at "rd"
   refine aH (ag.of rp) (dG (by omega) (by omega)) ?_
   rw[EI]
   exact fun _=>hQ _ hb)
  refine⟨vh,m,ws,fl,_,M,rfl,hv3,ok,hF,⟨⟨ex _ _ hf,ex _ _ hc',hcaps⟩,hrows3⟩,fun H H' e h=>⟨h.1.ext e,h.2.ext e⟩,fun l ps H4 e4 hl hl4 hps=>?_⟩
  obtain⟨a1,a2,a3,a4⟩:=held hn3 e4
  exact⟨a1,q l _ ((e02.et.trans e3).trans a2.et) (t3.ext a2) ⟨ps,M,a4 _ _ hl4 (fun f z=>by cases z),bY (fun a x h=>a4 _ _ h (fun f z=>by cases z)) hps,km⟩⟩
def bj(ws:List Way)(n:Nat)(i j:Nat):Prop:=∃u∈ws,u.deed = "up"/\u.room.toNat=i/\Kpt ws n u.other.toNat j
theorem qp{cs:List (Addr×Obj)}{H H':Hp}(hc:∀b o,cs.lookup b=some o->H b=some (cV b o))(e:Ext (aY cs H) H'):Ext H (bF cs H'):=fun b x hb=>by
 cases q:cs.lookup b with
 | none=>rw[cN q];exact e b x (by rw[cy q];exact hb)
 | some o=>rw[eD q,←hc b o q];exact hb
def jX(us:List Way)(M:Nat->Nat->Bool)(p q:Nat):Bool:=((us.filter fun u=>decide (u.room=(p:Int))).map fun u=>M u.other.toNat q).any id
def mM(K:Eo):Sp:=fun vs H Q _=>∃vh m ws,vs=[vh]/\bf H vh m ws/\HOuse m ws/\fD K/\Tbs K H/\∀l H',Et H H'->Tbs K H'->eh H' l m.toNat (bj ws m.toNat)->Q (.ref l) H'
abbrev kM:Stmt:=stq 35
theorem pK:FnScope ["house","table","ups"] ["house"] (aK kM):=⟨rfl,rfl,rfl,by decide +kernel,rfl,by decide +kernel,by decide +kernel⟩
theorem yI{P:Program}{w:World}{K:Eo}{mg:Str->Option Value}{base:Heap}(D:Dfn K mg "risen" kM ["house"])(T:Blt mg){c9 T9:Addr}(B:Tab K mg base "risen" c9 T9)(C_told_pairs:Cal P w K mg base "told_pairs" 2 ["house","choice"] (nU P w K mg base))(C_ways_of_deed:Cal P w K mg base "ways_of_deed" 1 ["house","deed"] (lO K))(C_kept_table:Cal P w K mg base "kept_table" 3 ["house"] (pw K))(C_refuse_no_house:Cal P w K mg base "refuse_no_house" 6 ["thing"] (iM K)):Cal P w K mg base "risen" 7 ["house"] (mM K):=by
 have nd:=(pK).nd
 refine D.okL B pK (fun vs H Q E h=>?_) (fun X hX H vs Q E h=>?_)
 ·obtain⟨vh,m,ws,rfl,_⟩:=h;rfl
 ·obtain⟨f,A,outer,s,H0,E0,rfl,hr⟩:=hX
  obtain⟨vh,m,ws,rfl,hv,ok,dis,htb,q⟩:=h
  have m1:=ok.m1
  have m12:=ok.m12
  have few:=ok.few
  refine⟨_,(aj (bo (aD C_refuse_no_house hr (aa (pv 0) ae)))
    (aj (aG (i:=1) nd rfl (Or.inr rfl) (aD C_kept_table hr (aa (pv 0) ae)))
    (aj (aG (i:=2) nd rfl (Or.inr rfl) (aD C_ways_of_deed hr (aa (pv 0) (aa aS ae))))
    (ao (aF (oF [2,1] C_told_pairs hr (aa (pv 0) (aa (nv rfl rfl B.hd B.blt B.gl (by decide +kernel) rfl rfl rfl) ae)))))))),?_⟩
  walk_at "rd"
  refine⟨vh,m,ws,rfl,hv,ok,fun H1 e1=>?_⟩
  walk_at "rd"
  refine⟨vh,m,ws,rfl,hv.ext e1,ok,fun tq rs M H1b kt km=>?_⟩
  walk_at "rd"
  refine⟨vh,m,ws,_,rfl,hv.ext (e1.trans kt.ext),ok,fun lu cu us H2 e2 hlu hlu2 hau hus=>?_⟩
  have e02:=(e1.trans kt.ext).trans e2
  have hrows:=kt.rows.ext e2
  have hrl:=kt.len
  have hcu:=hau.1
  have hul:us.length<=100:=by rw[hus];exact E4 (List.length_filter_le _ _) few
  have hin:∀u∈us,u∈ws/\u.deed=Str.ofString "up":=fun u hu=>by
   rw[hus]at hu
   obtain⟨h1,h2⟩:=List.mem_filter.mp hu
   exact⟨h1,of_decide_eq_true h2⟩
  walk_at "rd"
  show iZ _ [2,1] _ (["house","table","ups"]:List Str) _ _ _ _
  generalize PySem.Env.cells _=cells0
  refine nQ ?_
  walk_at "rd"
  refine oa ?_
  refine oZ (x:="risen") (htb.ext e02).risen B.tin fun fl c' cl H3 hcl e3 ht3 ot hf hc'=>?_
  have t3:Tbs K H3:=⟨ot "kept" _ _ _ (fun c2 T2 e2=>dis "risen" (by simp) "kept" (by simp) (by decide +kernel) _ _ _ _ B.tin e2) (htb.ext e02).kept,ot "low_levels" _ _ _ (fun c2 T2 e2=>dis "risen" (by simp) "low_levels" (by simp) (by decide +kernel) _ _ _ _ B.tin e2) (htb.ext e02).low,ht3⟩
  walk_at "rd"
  refine⟨fun j hj=>?_,fun cp hlen hcp=>?_⟩
  ·rcases EK.mp hj with rfl | hj
   ·exact⟨_,rfl⟩
   ·rw[EG.mp hj]
    exact⟨_,rfl⟩
  obtain⟨⟨n,c,o,v⟩,⟨n',d,o',v'⟩,rfl⟩:=lb hlen
  obtain⟨hN,hcc,hσ,hnone,u,hdat,hrel⟩:=hcp 0 2 _ rfl rfl
  obtain⟨hN2,hcc2,hσ2,hnone2,u2,hdat2,hrel2⟩:=hcp 1 1 _ rfl rfl
  clear hcp hlen
  dsimp only at hN hcc hσ hnone hdat hrel hN2 hcc2 hσ2 hnone2 hdat2 hrel2
  have hN':(Str.ofString "ups")=n:=Option.some.inj hN
  have hσ':(V.ref lu)=v:=Option.some.inj (Option.some.inj hσ)
  have hN2':(Str.ofString "table")=n':=Option.some.inj hN2
  have hσ2':(V.ref tq)=v':=Option.some.inj (Option.some.inj hσ2)
  clear hN hσ hN2 hσ2
  subst hN'
  subst hσ'
  subst hN2'
  subst hσ2'
  obtain⟨c2,hc2⟩:=hcl.has (Str.ofString "ups") rfl
  obtain⟨d2,hd2⟩:=hcl.has (Str.ofString "table") rfl
  have hc3:=(hcl.fr _ _ hc2).2
  have hd3:=(hcl.fr _ _ hd2).2
  rw[hcc]at hc3
  rw[hcc2]at hd3
  cases hc3
  cases hd3
  have ncd:c≠d:=fun z=>by
   have:=hcl.inj _ _ _ hc2 (z ▸ hd2)
   exact absurd this (by decide +kernel)
  have hn3:∀b o9,(cellsOf [⟨Str.ofString "ups",c,o,V.ref lu⟩,⟨Str.ofString "table",d,o',V.ref tq⟩]).lookup b=some o9->H3 b=none:=fun b o9 hb=>by
   obtain⟨e,he,rfl,rfl⟩:=fP hb
   rcases EK.mp he with rfl | he
   ·exact hnone
   ·rw[EG.mp he]
    exact hnone2
  have ex:=lB hn3
  have hrows3:=(hrows.et e3).ext ex
  have hlu3:=ex _ _ (e3 _ _ hlu2 (fun ps z=>by cases z))
  have hau3:=(hau.et e3).ext ex
  have hv3:=((hv.ext e02).et e3).ext ex
  have hcaps:Caps (bF (cellsOf [⟨Str.ofString "ups",c,o,V.ref lu⟩,⟨Str.ofString "table",d,o',V.ref tq⟩]) H3) cl [⟨Str.ofString "ups",c,o,V.ref lu⟩,⟨Str.ofString "table",d,o',V.ref tq⟩]:=by
   refine⟨fun e he=>?_,fun x g hx=>?_⟩
   ·rcases EK.mp he with rfl | he
    ·exact⟨hc2,eD (by simp[cellsOf]),u,hdat,hrel⟩
    ·rw[EG.mp he]
     refine⟨hd2,eD ?_,u2,hdat2,hrel2⟩
     show List.lookup d ((c,o)::[(d,o')])=some o'
     rw[List.lookup_cons,show (d == c)=false from beq_eq_false_iff_ne.mpr (Ne.symm ncd),List.lookup_cons,beq_self_eq_true]
   ·have hm:=iq (hcl.fr x g hx).1
    simp at hm
    rcases hm with rfl | rfl
    ·first | (rw[hc2]at hx;cases hx;exact⟨_,EC,rfl,rfl⟩) | (rw[hd2]at hx;cases hx;exact⟨_,Ez _ (EG.mpr rfl),rfl,rfl⟩)
    ·first | (rw[hc2]at hx;cases hx;exact⟨_,EC,rfl,rfl⟩) | (rw[hd2]at hx;cases hx;exact⟨_,Ez _ (EG.mpr rfl),rfl,rfl⟩)
  have hF:=n5 (P:=P) (w:=w) (K:=K) (mg:=mg) (base:=base) (k:=0) hf hcl (["p","q"]:List Str) [⟨Str.ofString "ups",c,o,V.ref lu⟩,⟨Str.ofString "table",d,o',V.ref tq⟩] (fun vs H Q=>∃p q:Nat,vs=[.int (p:Nat),.int (q:Nat)]/\(p:Int)<m/\(q:Int)<m/\∀H',Ext H H'->Q (.bl (jX us M p q)) H') (fun H=>Rows H tq rs m.toNat M/\H lu=some (.lst (List.map V.ref cu))/\aP H cu us) ⟨rfl,rfl,rfl,by decide +kernel,by decide +kernel⟩ (fun _ _ _ us hl=>by obtain⟨u1,u2,rfl⟩:=lb hl;rfl) (fun vs H Q h=>by obtain⟨p,q,rfl,_⟩:=h;rfl) (fun A outer s H vs Q hrL hpre hI hR=>by
   obtain⟨p,q,rfl,hp,hq,hQ⟩:=hR
   have hlk:=hpre.2.2.look
   obtain⟨hI1,hI2,hI3⟩:=hI
   have hI1':Rows (aY (cellsOf [⟨Str.ofString "ups",c,o,V.ref lu⟩,⟨Str.ofString "table",d,o',V.ref tq⟩]) H) tq rs m.toNat M:=⟨fN hlk hI1.1 (fun f z=>by cases z),fun i r hi=>fN hlk (hI1.2 i r hi) (fun f z=>by cases z)⟩
   have hI2':=fN hlk hI2 (fun f z=>by cases z)
   have hI3':aP (aY (cellsOf [⟨Str.ofString "ups",c,o,V.ref lu⟩,⟨Str.ofString "table",d,o',V.ref tq⟩]) H) cu us:=⟨hI3.1,fun j b w e1 e2=>fN hlk (hI3.2 j b w e1 e2) (fun f z=>by cases z)⟩
   refine⟨_,(aX (zd K rfl) rfl T.any_ PyProof.Rows.boot_any (aa (cO ["way"] [1,3,0] (cw K (pv 2)) (fun _=>(aJ (i:=0) (show(["way","q","table","p"]:List Str).Nodup from by decide +kernel) rfl (Or.inl rfl) (Or.inr rfl))) (fun _=>(fj (aT bM (ai (aA K) (pv 0) af (fun _ _=>rfl)) (pv 3) (aQ _)))) (fun _=>(ai (aI K) (ai (aI K) (pv 2) (ai (aA K) (pv 0) af (fun _ _=>rfl)) (fun _ _=>rfl)) (pv 1) (fun _ _=>rfl)))) ae)),?_⟩
   have hb:∀H',Ext (aY (cellsOf [⟨Str.ofString "ups",c,o,V.ref lu⟩,⟨Str.ofString "table",d,o',V.ref tq⟩]) H) H'->Ext H (bF (cellsOf [⟨Str.ofString "ups",c,o,V.ref lu⟩,⟨Str.ofString "table",d,o',V.ref tq⟩]) H'):=fun H' e=>qp hlk e
   generalize aY (cellsOf [⟨Str.ofString "ups",c,o,V.ref lu⟩,⟨Str.ofString "table",d,o',V.ref tq⟩]) H=HU at hI1' hI2' hI3' hb ⊢
   show kQ _ _ [some (.int (p:Nat)),some (.int (q:Nat)),some (.ref lu),some (.ref tq)] _ _
   walk_at "rd"
   refine cj (ag.of hI2') ?_
   refine eZ (xs:=List.map V.ref cu) (fun i ys H'=>H'=HU/\ys=(((us.take i).filter fun u=>decide (u.room=(p:Int))).map fun u=>M u.other.toNat q).map V.bl) (aB (by rw[Ew];omega)) ⟨rfl,rfl⟩ (fun i ys H' _ h=>⟨by rw[h.1];exact ag.of hI2',by rw[h.2,Ew,Ew];exact E4 (List.length_filter_le _ _) (by rw[List.length_take];omega)⟩) ?_ ?_
   ·rintro i v ys H4 hx ⟨rfl,rfl⟩
    rw[Ey]at hx
    obtain⟨b,hb',rfl⟩:=EH.mp hx
    have hi:i<us.length:=by rw[←hcu];exact(EE.mp hb').1
    have gu:us[i]?=some us[i]:=Ex hi
    have hb0:=hI3'.2 i b _ hb' gu
    generalize us[i]=uu at gu hb0
    have oku:=ok.ok uu (hin uu (EF gu)).1
    have v0:=oku.r0
    have v1:=oku.r1
    have v2:=oku.o0
    have v3:=oku.o1
    have x2:uu.other.toNat<rs.length:=by omega
    have r2:rs[uu.other.toNat]?=some rs[uu.other.toNat]:=Ex x2
    have w2:=hI1'.2 _ _ r2
    generalize rs[uu.other.toNat]=a2 at r2 w2
    have at2:bq (rs.map V.ref) uu.other=some (.ref a2):=ee v2 (by rw[Ey,r2];rfl)
    walk_at "rd"
    refine ay (ah.of hb0) (v:=.int uu.room) rfl ?_
    walk_at "rd"
    cases hc:decide (uu.room=(p:Int))with
    | true=>
     refine aC ?_
     walk_at "rd"
     refine ay (ah.of hb0) (v:=.int uu.other) rfl ?_
     walk_at "rd"
     refine aH (ag.of hI1'.1) at2 ?_
     walk_at "rd"
     refine aH (ag.of w2) (dG (by omega) (by omega)) ?_
     rw[EI]
     refine⟨rfl,?_⟩
     rw[List.take_add_one,gu,List.filter_append,EM,EM]
     congr 1
     show[V.bl _]=List.map V.bl (List.map _ (List.filter _ [uu]))
     rw[List.filter_cons,if_pos hc]
     rfl
    | false=>
     refine aq ⟨rfl,?_⟩
     have hno:List.filter (fun u:Way=>decide (u.room=(p:Int))) [uu]=[]:=by
      rw[List.filter_cons,if_neg (by rw[hc];exact EL)]
      rfl
     rw[List.take_add_one,gu,List.filter_append]
     show _=List.map V.bl (List.map _ (_++List.filter _ [uu]))
     rw[hno,List.append_nil]
   ·rintro ys H4 p9 ⟨hH,rfl⟩ hp9
    subst hH
    rw[Ew,hcu,EZ]
    have e9:=bx (o:=.lst (((us.filter fun u=>decide (u.room=(p:Int))).map fun u=>M u.other.toNat q).map V.bl)) hp9
    walk_at "rd"
    refine⟨p9,_,rfl,ag.of aL,?_⟩
    exact fun _=>hQ _ (hb _ e9))
  refine⟨vh,m,ws,fl,_,jX us M,rfl,hv3,ok,hF,⟨⟨ex _ _ hf,ex _ _ hc',hcaps⟩,hrows3,hlu3,hau3⟩,fun H H' e h=>⟨h.1.ext e,h.2.1.ext e,e _ _ h.2.2.1,h.2.2.2.ext e⟩,fun l ps H4 e4 hl hl4 hps=>?_⟩
  obtain⟨a1,a2,a3,a4⟩:=held hn3 e4
  refine⟨a1,q l _ ((e02.et.trans e3).trans a2.et) (t3.ext a2) ⟨ps,jX us M,a4 _ _ hl4 (fun f z=>by cases z),bY (fun a x h=>a4 _ _ h (fun f z=>by cases z)) hps,fun i j hi hj=>?_⟩⟩
  unfold jX bj
  rw[List.any_map,E7]
  constructor
  ·rintro⟨x,hx,hm⟩
   obtain⟨x1,x2⟩:=List.mem_filter.mp hx
   have x2:=of_decide_eq_true x2
   obtain⟨y1,y2⟩:=hin x x1
   exact⟨x,y1,y2,by omega,(km _ _ (iu ok.ok y1).2 hj).mp hm⟩
  ·rintro⟨x,h1,h2,h3,h4⟩
   have r0:=(ok.ok x h1).r0
   refine⟨x,List.mem_filter.mpr ⟨by rw[hus];exact List.mem_filter.mpr ⟨h1,decide_eq_true h2⟩,decide_eq_true (by omega)⟩,?_⟩
   exact(km _ _ (iu ok.ok h1).2 hj).mpr h4
def cW(us:List Way)(x:Bfs.Pl):List Bfs.Pl:=(us.filter fun w=>bW w x.1 x.2).map fun w=>(w.other,x.2+rz w.deed)
def uF(K:Eo):Sp:=fun vs H Q _=>∃l bs us p x,vs=[.ref l,.ref p]/\H l=some (.lst (List.map V.ref bs))/\aP H bs us/\(∀w∈us,bR w.deed)/\us.length<=100/\ax H p x/\∀l' ps H',Ext H H'->H l'=none->H' l'=some (.lst (List.map V.ref ps))->Paired (ax H') ps (cW us x)->Q (.ref l') H'
abbrev jz:Stmt:=stq 26
theorem sV:FnScope ["ways","place"] ["ways","place"] (aK jz):=⟨rfl,rfl,rfl,by decide +kernel,rfl,by decide +kernel,by decide +kernel⟩
theorem Dk{P:Program}{w:World}{K:Eo}{mg:Str->Option Value}{base:Heap}(D:Dfn K mg "led_to_from" jz ["ways","place"])(T:Blt mg)(C_is_open:Cal P w K mg base "is_open" 1 ["way","place"] (oK K))(C_led_to:Cal P w K mg base "led_to" 2 ["way","place"] (oj K)):Cal P w K mg base "led_to_from" 3 ["ways","place"] (uF K):=by
 have nd:=(sV).nd
 refine D.ok sV (fun vs H Q E h=>?_) (fun X hX H vs Q E h=>?_)
 ·obtain⟨l,bs,us,p,x,rfl,_⟩:=h;rfl
 ·obtain⟨f,cdv,A,outer,s,H0,E0,rfl,hr⟩:=hX
  obtain⟨l,bs,us,p,x,rfl,hl,hal,hdd,hul,hpx,q⟩:=h
  have hbl:=hal.1
  refine⟨_,(@ao _ _ _ (@aF _ _ _ _ (cO ["way"] [1] (cw K (pv 0)) (fun _=>(aJ (i:=0) (show(["way","place"]:List Str).Nodup from by decide +kernel) rfl (Or.inl rfl) (Or.inr rfl))) (fun _=>(fj (bw (aD C_is_open hr (@aa _ _ _ _ _ (pv 0) (@aa _ _ _ _ _ (pv 1) ae rfl) rfl))))) (fun _=>(aD C_led_to hr (@aa _ _ _ _ _ (pv 0) (@aa _ _ _ _ _ (pv 1) ae rfl) rfl)))))),?_⟩
  walk_at "rd"
  refine cj (ag.of hl) ?_
  refine eZ (xs:=List.map V.ref bs) (fun i ys H'=>Ext H H'/\∃ps,ys=List.map V.ref ps/\Paired (ax H') ps (cW (us.take i) x)) (aB (by rw[Ew];omega)) ⟨Ext.rfl' _,[],rfl,.nil⟩ (fun i ys H' _ h=>by
   obtain⟨e,ps,rfl,hps⟩:=h
   refine⟨ag.of (e _ _ hl),?_⟩
   rw[Ew,di hps]
   unfold cW
   rw[Ew]
   exact E4 (List.length_filter_le _ _) (by rw[List.length_take];omega)) ?_ ?_
  ·rintro i v ys H1 hx ⟨e1,ps,rfl,hps⟩
   rw[Ey]at hx
   obtain⟨b,hb,rfl⟩:=EH.mp hx
   have hi:i<us.length:=by rw[←hbl];exact(EE.mp hb).1
   have gu:us[i]?=some us[i]:=Ex hi
   have hb0:=e1 _ _ (hal.2 i b _ hb gu)
   generalize us[i]=u at gu hb0
   have hpx1:ax H1 p x:=e1 _ _ hpx
   walk_at "rd"
   refine⟨b,u,p,x,rfl,hb0,hpx1,?_⟩
   have step:cW (us.take (i+1)) x=cW (us.take i) x++cW [u] x:=by
    unfold cW
    rw[List.take_add_one,gu,List.filter_append,EM]
    rfl
   cases ho:bW u x.1 x.2 with
   | false=>
    refine rd_exb (aq ⟨e1,ps,rfl,?_⟩)
    rw[step]
    have:cW [u] x=[]:=by
     unfold cW
     rw[List.filter_cons,if_neg (by rw[ho];exact EL)]
     rfl
    rw[this,List.append_nil]
    exact hps
   | true=>
    refine rd_exb (aC ?_)
    walk_at "rd"
    refine⟨b,u,p,x,rfl,hb0,hdd u (EF gu),hpx1,fun t H2 e2 ht _=>?_⟩
    refine⟨e1.trans e2,ps++[t],?_,?_⟩
    ·rw[EM];rfl
    ·rw[step]
     have:cW [u] x=[(u.other,x.2+rz u.deed)]:=by
      unfold cW
      rw[List.filter_cons,if_pos ho]
      rfl
     rw[this]
     exact iO (bY (fun a x h=>e2 _ _ h) hps) ht
  ·rintro ys H1 p9 ⟨e1,ps,rfl,hps⟩ hp9
   rw[Ew,hbl,EZ]at hps
   have e2:=bx (o:=.lst (List.map V.ref ps)) hp9
   have h9:H p9=none:=by
    cases z:H p9 with
    | none=>rfl
    | some o=>rw[e1 _ _ z]at hp9;cases hp9
   exact q p9 ps _ (e1.trans e2) h9 aL (bY (fun a x h=>e2 _ _ h) hps)
structure WT(H:Hp)(c:Addr)(n:Nat)(ls:List Addr)(ws:List Way):Prop where
 at_:H c=some (.lst (List.map V.ref ls))
 len:ls.length=n
 it:∀(r:Nat) (l:Addr),ls[r]?=some l->∃bs,H l=some (.lst (List.map V.ref bs))/\aP H bs (ws.filter fun w=>decide (w.room=(r:Int)))
theorem WT.ext{H H':Hp}{c:Addr}{n:Nat}{ls:List Addr}{ws:List Way}(e:Ext H H')(h:WT H c n ls ws):WT H' c n ls ws:=
 ⟨e _ _ h.at_,h.len,fun r l hl=>by obtain⟨bs,h1,h2⟩:=h.it r l hl;exact⟨bs,e _ _ h1,h2.ext e⟩⟩
theorem WT.et{H H':Hp}{c:Addr}{n:Nat}{ls:List Addr}{ws:List Way}(e:Et H H')(h:WT H c n ls ws):WT H' c n ls ws:=
 ⟨e _ _ h.at_ (fun ps z=>by cases z),h.len,fun r l hl=>by obtain⟨bs,h1,h2⟩:=h.it r l hl;exact⟨bs,e _ _ h1 (fun ps z=>by cases z),h2.et e⟩⟩
theorem zo{ws:List Way}{i:Nat}{w:Way}(h:ws[i]?=some w)(p:Way->Bool):(ws.take (i+1)).filter p=(ws.take i).filter p++if p w then[w]else[]:=by
 rw[List.take_add_one,h,List.filter_append]
 congr 1
 show List.filter p [w]=_
 rw[List.filter_cons]
 rfl
def sG(K:Eo):Sp:=fun vs H Q _=>∃v m ws,vs=[v]/\bf H v m ws/\HOuse m ws/\∀c ls H',Ext H H'->WT H' c m.toNat ls ws->Q (.ref c) H'
abbrev lJ:Stmt:=stq 37
theorem vN:FnScope ["house","ways","way"] ["house"] (aK lJ):=⟨rfl,rfl,rfl,by decide +kernel,rfl,by decide +kernel,by decide +kernel⟩
theorem yH{P:Program}{w:World}{K:Eo}{mg:Str->Option Value}{base:Heap}(D:Dfn K mg "ways_by_room" lJ ["house"])(T:Blt mg):Cal P w K mg base "ways_by_room" 1 ["house"] (sG K):=by
 have nd:=(vN).nd
 refine D.ok vN (fun vs H Q E h=>?_) (fun X hX H vs Q E h=>?_)
 ·obtain⟨v,m,ws,rfl,_⟩:=h;rfl
 ·obtain⟨f,cdv,A,outer,s,H0,E0,rfl,hr⟩:=hX
  obtain⟨v,m,ws,rfl,hv,ok,q⟩:=h
  obtain⟨hp0,hq0,rfl,hh,hw⟩:=id hv
  obtain⟨bs,hq,hal⟩:=cn.al hw
  have hbl:=hal.1
  have few:=ok.few
  have m1:=ok.m1
  have m12:=ok.m12
  refine⟨_,(@aj _ _ _ _ _ (f7 (i:=1) ["room"] [] nd rfl (Or.inl rfl) (cI rfl T.range_ (@aa _ _ _ _ _ (@ai _ _ _ _ _ _ _ (aA K) (pv 0) af (fun _ _=>rfl)) ae rfl)) (fun _=>(aJ (i:=0) (show(["room"]:List Str).Nodup from by decide +kernel) rfl (Or.inl rfl) (Or.inr rfl))) (fun _=>dm) (fun _=>(@bz _ _ _ _ ae)))
    (@aj _ _ _ _ _ (bL PassesOwn.never rfl (ib K (@ai _ _ _ _ _ _ _ (aA K) (pv 0) af (fun _ _=>rfl))) (aJ (i:=2) nd rfl (Or.inl rfl)) (@ao _ _ _ (bo (bG K ED ES ET bO (@ai _ _ _ _ _ _ _ (aI K) (pv 1) (@ai _ _ _ _ _ _ _ (aA K) (pv 2) af (fun _ _=>rfl)) (fun _ _=>rfl)) (@aa _ _ _ _ _ (pv 2) ae rfl)))))
    (@ao _ _ _ (@aF _ _ _ _ (pv 1))))),?_⟩
  walk_at "rd"
  refine ay (ah.of hh) (v:=.int m) rfl ?_
  walk_at "rd"
  refine cG (by omega) ?_
  refine fm (fun i ys H'=>Ext H H'/\∃ls:List Addr,ys=List.map V.ref ls/\ls.length=i/\ls.Nodup/\∀l∈ls,H' l=some (.lst [])/\H l=none) (aB (by omega)) ⟨Ext.rfl' _,[],rfl,rfl,List.nodup_nil,fun l h=>(nomatch h)⟩ (fun i ys H' _ h=>by obtain⟨_,ls,rfl,h,_⟩:=h;rw[Ew,h];exact ER _) ?_ ?_
  ·rintro i ys H' hi ⟨e,ls,rfl,hl,hnd,hls⟩
   walk_at "rd"
   refine aC ?_
   walk_at "rd"
   refine⟨aB (by simp),aE fun l H1 e1 hl1 hln=>?_⟩
   refine⟨e.trans e1,ls++[l],by rw[EM];rfl,by rw[EN,hl];rfl,?_,?_⟩
   ·rw[List.nodup_append]
    refine⟨hnd,by simp,fun a ha b hb z=>?_⟩
    have hbl:b=l:=by simpa using hb
    subst hbl
    subst z
    rw[(hls a ha).1]at hln
    cases hln
   ·intro a ha
    rcases EU.mp ha with z | z
    ·exact⟨e1 _ _ (hls a z).1,(hls a z).2⟩
    ·have hal:a=l:=by simpa using z
     subst hal
     refine⟨hl1,?_⟩
     cases y:H a with
     | none=>rfl
     | some o=>rw[e _ _ y]at hln;cases hln
  ·rintro ys H1 c ⟨e,ls,rfl,hl,hnd,hls⟩ hc
   have eN:Ext H (upd H1 c (.lst (List.map V.ref ls))):=e.trans (bx hc)
   have hcH:H c=none:=by
    cases y:H c with
    | none=>rfl
    | some o=>rw[e _ _ y]at hc;cases hc
   have ncl:c∉ls:=fun z=>by rw[(hls c z).1]at hc;cases hc
   have hcl:∀l∈ls,H l=none:=fun l h=>(hls l h).2
   have hit:∀(r:Nat) (l:Addr),ls[r]?=some l->∃bs,(upd H1 c (.lst (List.map V.ref ls))) l=some (.lst (List.map V.ref bs))/\aP (upd H1 c (.lst (List.map V.ref ls))) bs ((ws.take 0).filter fun w=>decide (w.room=(r:Int))):=fun r l hr=>⟨[],(bx hc) _ _ (hls l (EF hr)).1,aP.nil _⟩
   have hcc:(upd H1 c (.lst (List.map V.ref ls))) c=_:=aL
   generalize upd H1 c (.lst (List.map V.ref ls))=H2 at eN hit hcc ⊢
   clear hls hc e H1
   walk_at "rd"
   refine ay (ah.of (eN _ _ hh)) (v:=.ref hq0) rfl ?_
   walk_at "rd"
   refine gR (ah.of (eN _ _ hq)) ?_
   refine vT (xs:=bs.map V.ref) (fun i σ H'=>∃k1,σ=[some (.ref hp0),some (.ref c),k1]/\Ext H H'/\H' c=some (.lst (List.map V.ref ls))/\∀(r:Nat) (l:Addr),ls[r]?=some l->∃bs,H' l=some (.lst (List.map V.ref bs))/\aP H' bs ((ws.take i).filter fun w=>decide (w.room=(r:Int)))) ⟨none,rfl,eN,hcc,hit⟩ (fun i σ H' _ h=>by obtain⟨_,_,e,_⟩:=h;exact ah.of (e _ _ hq)) ?_ ?_
   ·rintro i u σ H3 hu ⟨k1,rfl,e3,hc3,hit3⟩
    rw[Ey]at hu
    obtain⟨b,hb,rfl⟩:=EH.mp hu
    have hi:i<ws.length:=by rw[←hbl];exact(EE.mp hb).1
    have hwi:ws[i]?=some ws[i]:=Ex hi
    have hbw:=e3 _ _ (hal.2 i b _ hb hwi)
    generalize ws[i]=w0 at hwi hbw
    have okw:=ok.ok w0 (EF hwi)
    have r0:=okw.r0
    have r1:=okw.r1
    have hlr:w0.room.toNat<ls.length:=by rw[hl];omega
    have hlg:ls[w0.room.toNat]?=some ls[w0.room.toNat]:=Ex hlr
    generalize ls[w0.room.toNat]=l at hlg
    have hlm:=EF hlg
    obtain⟨cs,hl3,hcs⟩:=hit3 _ _ hlg
    have hcsl:cs.length<=100:=by
     rw[hcs.1]
     exact E4 (List.length_filter_le _ _) (by rw[List.length_take];omega)
    have ncl':c≠l:=fun z=>ncl (z ▸ hlm)
    walk_at "rd"
    refine ay (ah.of hbw) (v:=.int w0.room) rfl ?_
    walk_at "rd"
    refine aH (ag.of hc3) (v:=.ref l) (ee r0 (by rw[Ey,hlg];rfl)) ?_
    refine⟨cS (ag.of hl3),?_⟩
    walk_at "rd"
    refine bN hl3 (by rw[Ew];exact Nat.lt_of_le_of_lt hcsl (by decide)) ?_
    walk_at "rd"
    refine⟨_,rfl,cx e3 (hcl l hlm),by rw[az ncl'];exact hc3,fun r l' hr=>?_⟩
    rw[zo hwi]
    by_cases hll:l'=l
    ·subst hll
     have hrr:r=w0.room.toNat:=(List.getElem?_inj (EE.mp hr).1 hnd).mp (by rw[hr,hlg])
     subst hrr
     refine⟨cs++[b],?_,?_⟩
     ·rw[aL,EM];rfl
     ·rw[if_pos (decide_eq_true (by omega))]
      have put:aP (upd H3 l' (.lst (List.map V.ref cs++[.ref b]))) cs ((ws.take i).filter fun w=>decide (w.room=((w0.room.toNat:Nat):Int))):=hcs.put hl3
      exact put.snoc (by rw[az (cK hbw hl3 (fun z=>by cases z))];exact hbw)
    ·obtain⟨ds,h1,h2⟩:=hit3 r l' hr
     have hrr:¬(w0.room=(r:Int)):=fun z=>hll (by
      have:w0.room.toNat=r:=by omega
      rw[this,hr]at hlg
      exact Option.some.inj hlg)
     rw[if_neg (by simpa using hrr),List.append_nil]
     exact⟨ds,by rw[az hll];exact h1,h2.put hl3⟩
   ·rintro σ H3 ⟨k1,rfl,e3,hc3,hit3⟩
    rw[Ew,hbl,EZ]at hit3
    walk_at "rd"
    exact q c ls H3 e3 ⟨hc3,hl,hit3⟩
def LB(ws:List Way)(n:Nat)(top:Int)(x y:Bfs.Pl):Prop:=(∃w∈ws,bW w x.1 x.2=true/\y=(w.other,x.2+rz w.deed)/\y.2<=top)\/(top<=x.2/\∃i j:Nat,Kpt ws n i j/\x.1=(i:Int)/\y=((j:Int),top))
theorem fK{w:Way}{r n:Int}(h:bW w r n=true):w.room=r:=by
 unfold bW at h
 rw[E9]at h
 exact of_decide_eq_true h.1
def tY(K:Eo):Sp:=fun vs H Q _=>∃c kl top p m ws ls x,vs=[.ref c,.ref kl,.int top,.ref p]/\WT H c m.toNat ls ws/\eh H kl m.toNat (Kpt ws m.toNat)/\HOuse m ws/\ax H p x/\0<=x.1/\x.1<m ∧
 ∀l ps ys H',Ext H H'->H l=none->H' l=some (.lst (List.map V.ref ps))->Paired (ax H') ps ys->(∀y,y∈ys↔LB ws m.toNat top x y)->ys.length<=300->Q (.ref l) H'
abbrev kP:Stmt:=stq 39
theorem qB:FnScope ["ways","keeps","top","here","low"] ["ways","keeps","top","here"] (aK kP):=⟨rfl,rfl,rfl,by decide +kernel,rfl,by decide +kernel,by decide +kernel⟩
theorem xX{P:Program}{w:World}{K:Eo}{mg:Str->Option Value}{base:Heap}(D:Dfn K mg "low_beside" kP ["ways","keeps","top","here"])(T:Blt mg)(C_led_to_from:Cal P w K mg base "led_to_from" 3 ["ways","place"] (uF K)):Cal P w K mg base "low_beside" 4 ["ways","keeps","top","here"] (tY K):=by
 have nd:=(qB).nd
 refine D.ok qB (fun vs H Q E h=>?_) (fun X hX H vs Q E h=>?_)
 ·obtain⟨c,kl,top,p,m,ws,ls,x,rfl,_⟩:=h;rfl
 ·obtain⟨f,cdv,A,outer,s,H0,E0,rfl,hr⟩:=hX
  obtain⟨c,kl,top,p,m,ws,ls,x,rfl,wt,prs,ok,hpx,x0,x1,q⟩:=h
  have m1:=ok.m1
  have m12:=ok.m12
  have few:=ok.few
  have hlr:x.1.toNat<ls.length:=by rw[wt.len];omega
  have hlg:ls[x.1.toNat]?=some ls[x.1.toNat]:=Ex hlr
  generalize ls[x.1.toNat]=l0 at hlg
  obtain⟨bs,hl0,hal⟩:=wt.it _ _ hlg
  have hx1:((x.1.toNat:Nat):Int)=x.1:=by omega
  rw[hx1]at hal
  have husl:(ws.filter fun w=>decide (w.room=x.1)).length<=100:=E4 (List.length_filter_le _ _) few
  obtain⟨kps,g,hkl,hkp,hkg⟩:=prs
  have hkpl:=di hkp
  have hkpn:=mh (n:=m.toNat) (g:=g) m.toNat
  have hkpm:m.toNat*m.toNat<=12*12:=Nat.mul_le_mul (by omega) (by omega)
  refine⟨_,(@aj _ _ _ _ _ (f7 (i:=4) ["there"] [2] nd rfl (Or.inl rfl) (cw K (aD C_led_to_from hr (@aa _ _ _ _ _ (@ai _ _ _ _ _ _ _ (aI K) (pv 0) (@ai _ _ _ _ _ _ _ (aA K) (pv 3) af (fun _ _=>rfl)) (fun _ _=>rfl)) (@aa _ _ _ _ _ (pv 3) ae rfl) rfl))) (fun _=>(aJ (i:=0) (show(["there","top"]:List Str).Nodup from by decide +kernel) rfl (Or.inl rfl) (Or.inr rfl))) (fun _=>(fj (aT gZ (@ai _ _ _ _ _ _ _ (aA K) (pv 0) af (fun _ _=>rfl)) (pv 1) (aQ _)))) (fun _=>(pv 0)))
    (@aj _ _ _ _ _ (@bC _ _ _ _ _ _ _ _ (aT eB (@ai _ _ _ _ _ _ _ (aA K) (pv 3) af (fun _ _=>rfl)) (pv 2) (aQ _)) (@ao _ _ _ (@aF _ _ _ _ (pv 4))) aV)
    (@ao _ _ _ (@aF _ _ _ _ (av mG (pv 4) (cO ["p","q"] [2,3] (cw K (pv 1)) (fun _=>(eP (n:=2) K rfl (bE (aJ (i:=0) (show(["p","q","top","here"]:List Str).Nodup from by decide +kernel) rfl (Or.inl rfl) (Or.inr rfl)) (bE (aJ (i:=1) (show(["p","q","top","here"]:List Str).Nodup from by decide +kernel) rfl (Or.inl rfl) (Or.inr rfl)) eA)))) (fun _=>(fj (aT bM (pv 0) (@ai _ _ _ _ _ _ _ (aA K) (pv 3) af (fun _ _=>rfl)) (aQ _)))) (fun _=>(@bA _ _ _ _ _ (@aa _ _ _ _ _ (pv 1) (@aa _ _ _ _ _ (pv 2) ae rfl) rfl))))))))),?_⟩
  walk_at "rd"
  refine ay (ah.of hpx) (v:=.int x.1) rfl ?_
  walk_at "rd"
  refine aH (ag.of wt.at_) (v:=.ref l0) (ee x0 (by rw[Ey,hlg];rfl)) ?_
  walk_at "rd"
  refine⟨l0,bs,_,p,x,rfl,hl0,hal,fun w hw=>(ok.ok w (List.mem_filter.mp hw).1).dd,husl,hpx,fun l1 ps1 H1 e1 hn1 hl1 hps1=>?_⟩
  have hp1l:=di hps1
  have hledl:(cW (ws.filter fun w=>decide (w.room=x.1)) x).length<=100:=by
   unfold cW
   rw[Ew]
   exact E4 (List.length_filter_le _ _) husl
  have hled:∀y,y∈cW (ws.filter fun w=>decide (w.room=x.1)) x↔∃w∈ws,bW w x.1 x.2=true/\y=(w.other,x.2+rz w.deed):=fun y=>by
   unfold cW
   constructor
   ·intro h
    obtain⟨w,hw,rfl⟩:=List.mem_map.mp h
    obtain⟨h1,h2⟩:=List.mem_filter.mp hw
    exact⟨w,(List.mem_filter.mp h1).1,h2,rfl⟩
   ·rintro⟨w,hw,ho,rfl⟩
    exact List.mem_map.mpr ⟨w,List.mem_filter.mpr ⟨List.mem_filter.mpr ⟨hw,decide_eq_true (fK ho)⟩,ho⟩,rfl⟩
  generalize cW (ws.filter fun w=>decide (w.room=x.1)) x=zs at hps1 hp1l hledl hled
  walk_at "rd"
  refine cj (ag.of hl1) ?_
  refine eZ (xs:=List.map V.ref ps1) (fun i ys H'=>H'=H1/\∃cs,ys=List.map V.ref cs/\Paired (ax H1) cs ((zs.take i).filter fun y=>decide (y.2<=top))) (aB (by rw[Ew];omega)) ⟨rfl,[],rfl,.nil⟩ (fun i ys H' _ h=>by
   obtain⟨rfl,cs,rfl,hcs⟩:=h
   refine⟨ag.of hl1,?_⟩
   rw[Ew,di hcs]
   exact E4 (List.length_filter_le _ _) (by rw[List.length_take];omega)) ?_ ?_
  ·rintro i v ys H2 hx ⟨rfl,cs,rfl,hcs⟩
   rw[Ey]at hx
   obtain⟨b,hb,rfl⟩:=EH.mp hx
   obtain⟨y,hy,hby⟩:=fH hps1 hb
   walk_at "rd"
   refine ay (ah.of hby) (v:=.int y.2) rfl ?_
   walk_at "rd"
   have step:(zs.take (i+1)).filter (fun y=>decide (y.2<=top))=(zs.take i).filter (fun y=>decide (y.2<=top))++if decide (y.2<=top)then[y]else[]:=by
    rw[List.take_add_one,hy,List.filter_append]
    congr 1
    show List.filter _ [y]=_
    rw[List.filter_cons]
    rfl
   cases hc:decide (y.2<=top)with
   | true=>
    refine aC ?_
    walk_at "rd"
    refine⟨rfl,cs++[b],?_,?_⟩
    ·rw[EM];rfl
    ·rw[step,hc]
     exact iO hcs hby
   | false=>
    refine aq ⟨rfl,cs,rfl,?_⟩
    rw[step,hc]
    simpa using hcs
  ·rintro ys H2 p9 ⟨hH,cs,rfl,hcs⟩ hp9
   subst hH
   rw[Ew,hp1l,EZ]at hcs
   have e2:=bx (o:=.lst (List.map V.ref cs)) hp9
   have h9:(upd H2 p9 (.lst (List.map V.ref cs))) p9=_:=aL
   have hcs2:=bY (fun a x h=>e2 _ _ h) hcs
   have hfn:H p9=none:=by
    cases z:H p9 with
    | none=>rfl
    | some o=>rw[e1 _ _ z]at hp9;cases hp9
   have e02:=e1.trans e2
   generalize upd H2 p9 (.lst (List.map V.ref cs))=H3 at e2 h9 hcs2 e02 ⊢
   have hcl:=di hcs
   have hfl:=List.length_filter_le (fun y:Bfs.Pl=>decide (y.2<=top)) zs
   have first:∀y,y∈zs.filter (fun y=>decide (y.2<=top))↔∃w∈ws,bW w x.1 x.2=true/\y=(w.other,x.2+rz w.deed)/\y.2<=top:=fun y=>by
    rw[List.mem_filter,hled]
    constructor
    ·rintro⟨⟨w,h1,h2,h3⟩,h4⟩
     exact⟨w,h1,h2,h3,of_decide_eq_true h4⟩
    ·rintro⟨w,h1,h2,h3,h4⟩
     exact⟨⟨w,h1,h2,h3⟩,decide_eq_true h4⟩
   walk_at "rd"
   refine ay (ah.of (e02 _ _ hpx)) (v:=.int x.2) rfl ?_
   walk_at "rd"
   cases hc:decide (x.2<top)with
   | true=>
    have hc':=of_decide_eq_true hc
    refine aC ?_
    walk_at "rd"
    refine q p9 cs _ H3 e02 hfn h9 hcs2 (fun y=>?_) (by omega)
    rw[first]
    constructor
    ·exact fun h=>.inl h
    ·rintro(h | ⟨h,_⟩)
     ·exact h
     ·omega
   | false=>
    have hc':=of_decide_eq_false hc
    refine aq ?_
    walk_at "rd"
    have hkl3:=e02 _ _ hkl
    have hkp3:=bY (fun a x h=>e02 _ _ h) hkp
    refine cj (ag.of hkl3) ?_
    refine eZ (xs:=List.map V.ref kps) (fun i ys H'=>Ext H3 H'/\∃ds,ys=List.map V.ref ds/\Paired (ax H') ds ((((cP m.toNat g m.toNat).take i).filter fun z=>decide (z.1=x.1)).map fun z=>(z.2,top))) (aB (by rw[Ew];omega)) ⟨Ext.rfl' _,[],rfl,.nil⟩ (fun i ys H' _ h=>by
     obtain⟨e,ds,rfl,hds⟩:=h
     refine⟨ag.of (e _ _ hkl3),?_⟩
     rw[Ew,di hds,Ew]
     exact E4 (List.length_filter_le _ _) (by rw[List.length_take];omega)) ?_ ?_
    ·rintro i v ys H4 hx ⟨e4,ds,rfl,hds⟩
     rw[Ey]at hx
     obtain⟨b,hb,rfl⟩:=EH.mp hx
     obtain⟨z,hz,hbz⟩:=fH hkp3 hb
     have hbz4:ax H4 b z:=e4 _ _ hbz
     refine eG (ah.of hbz4) rfl ?_
     walk_at "rd"
     refine ay (ah.of ((e02.trans e4) _ _ hpx)) (v:=.int x.1) rfl ?_
     walk_at "rd"
     have step:(((cP m.toNat g m.toNat).take (i+1)).filter (fun z=>decide (z.1=x.1))).map (fun z=>(z.2,top))=(((cP m.toNat g m.toNat).take i).filter (fun z=>decide (z.1=x.1))).map (fun z=>(z.2,top))++if decide (z.1=x.1)then[(z.2,top)]else[]:=by
      rw[List.take_add_one,hz,List.filter_append,EM]
      congr 1
      show List.map _ (List.filter _ [z])=_
      rw[List.filter_cons]
      split<;>rfl
     cases hc2:decide (z.1=x.1)with
     | true=>
      refine aC ?_
      walk_at "rd"
      refine⟨aB (by simp),aE fun t H5 e5 ht _=>?_⟩
      refine⟨e4.trans e5,ds++[t],?_,?_⟩
      ·rw[EM];rfl
      ·rw[step,hc2]
       exact iO (bY (fun a x h=>e5 _ _ h) hds) ht
     | false=>
      refine aq ⟨e4,ds,rfl,?_⟩
      rw[step,hc2]
      simpa using hds
    ·rintro ys H4 p8 ⟨e4,ds,rfl,hds⟩ hp8
     rw[Ew,hkpl,EZ]at hds
     have e5:=bx (o:=.lst (List.map V.ref ds)) hp8
     have h8:(upd H4 p8 (.lst (List.map V.ref ds))) p8=_:=aL
     have hds5:=bY (fun a x h=>e5 _ _ h) hds
     have e35:=e4.trans e5
     generalize upd H4 p8 (.lst (List.map V.ref ds))=H5 at e5 h8 hds5 e35 ⊢
     have hdl:=di hds
     rw[Ew]at hdl
     have hfl2:=List.length_filter_le (fun z:Bfs.Pl=>decide (z.1=x.1)) (cP m.toNat g m.toNat)
     walk_at "rd"
     refine nL (e35 _ _ h9) h8 (aB (by rw[Ew,Ew];omega)) (aE fun l' H6 e6 hl' hn'=>?_)
     rw[←EM]at hl'
     have e06:=(e02.trans e35).trans e6
     have hn0:H l'=none:=by
      cases z:H l' with
      | none=>rfl
      | some o=>rw[(e02.trans e35) _ _ z]at hn';cases hn'
     refine q l' (cs++ds) _ H6 e06 hn0 hl' (qN (bY (fun a x h=>(e35.trans e6) _ _ h) hcs2) (bY (fun a x h=>e6 _ _ h) hds5)) (fun y=>?_) (by rw[EN,Ew];omega)
     rw[EU,first]
     constructor
     ·rintro(h | h)
      ·exact .inl h
      ·obtain⟨z,hz,rfl⟩:=List.mem_map.mp h
       obtain⟨z1,z2⟩:=List.mem_filter.mp hz
       obtain⟨i,j,hi,hj,hg,rfl⟩:=gN.mp z1
       exact .inr ⟨by omega,i,j,(hkg i j hi hj).mp hg,(of_decide_eq_true z2).symm,rfl⟩
     ·rintro(h | ⟨_,i,j,hk,hxi,rfl⟩)
      ·exact .inl h
      ·right
       have hlt:=Kpt.lt ok.ok hk
       exact List.mem_map.mpr ⟨((i:Int),(j:Int)),List.mem_filter.mpr ⟨gN.mpr ⟨i,j,hlt.1,hlt.2,(hkg i j hlt.1 hlt.2).mpr hk,rfl⟩,decide_eq_true hxi.symm⟩,rfl⟩
structure RR(H0 H:Hp)(f rw:Addr)(qs:List Bfs.Pl):Prop where
 ext:Ext H0 H
 fn:H0 f=none
 rn:H0 rw=none
 d:∃kvs,H f=some (.dT kvs)/\Paired (fun(kv:List Key×V) z=>kv.1=bh z) kvs qs
 r:∃as,H rw=some (.lst (List.map V.ref as))/\Paired (ax H) as qs
theorem RR.step{H0 H H1:Hp}{f rw:Addr}{qs:List Bfs.Pl}(h:RR H0 H f rw qs)(e:Ext H H1):RR H0 H1 f rw qs:=by
 obtain⟨h1,h2,h3,⟨kvs,h4,h5⟩,as,h6,h7⟩:=h
 exact⟨h1.trans e,h2,h3,⟨kvs,e _ _ h4,h5⟩,as,e _ _ h6,bY (fun a x h=>e _ _ h) h7⟩
theorem ur{kvs:List (List Key×V)}{qs:List Bfs.Pl}(h:Paired (fun(kv:List Key×V) z=>kv.1=bh z) kvs qs){x:Bfs.Pl}(hx:x∉qs):bJ kvs (bh x)=none:=
 iP (key:=fun z=>z) (fun _ _ z=>z) h (by simpa using hx)
theorem zj{kvs:List (List Key×V)}{qs:List Bfs.Pl}(h:Paired (fun(kv:List Key×V) z=>kv.1=bh z) kvs qs)(nd:qs.Nodup){x:Bfs.Pl}(hx:x∈qs):∃v,bJ kvs (bh x)=some v:=by
 obtain⟨v,hv,_⟩:=iw (key:=fun z=>z) (fun _ _ z=>z) h (by simpa using nd) hx
 exact⟨v,hv⟩
theorem RR.push{H0 H:Hp}{f rw th:Addr}{qs:List Bfs.Pl}{y:Bfs.Pl}{v:V}(h:RR H0 H f rw qs)(hy:y∉qs)(hth:ax H th y):
  ∃kvs,H f=some (.dT kvs)/\kvs.length=qs.length/\∃as,upd H f (.dT (putK kvs (bh y) v)) rw=some (.lst (List.map V.ref as))/\as.length=qs.length ∧
   RR H0 (upd (upd H f (.dT (putK kvs (bh y) v))) rw (.lst (List.map V.ref as++[.ref th]))) f rw (qs++[y]):=by
 obtain⟨h1,h2,h3,⟨kvs,h4,h5⟩,as,h6,h7⟩:=h
 have nf:∀xs,(HO.dT kvs)≠.tup xs:=fun xs z=>by cases z
 have nr:∀xs,(HO.lst (List.map V.ref as))≠.tup xs:=fun xs z=>by cases z
 have ne:rw≠f:=cK h6 h4 (by intro z;cases z)
 have h6':upd H f (.dT (putK kvs (bh y) v)) rw=some (.lst (List.map V.ref as)):=by rw[az ne];exact h6
 refine⟨kvs,h4,Paired.length h5,as,h6',Paired.length h7,cx (cx h1 h2) h3,h2,h3,⟨kvs++[(bh y,v)],?_,?_⟩,as++[th],?_,?_⟩
 ·rw[az ne.symm,aL,uE _ (ur h5 hy)]
 ·exact Paired.snoc h5 rfl
 ·rw[aL,EM];rfl
 ·exact iO (bY (fun a x z=>ax.put h6' nr (ax.put h4 nf z)) h7) (ax.put h6' nr (ax.put h4 nf hth))
structure RQ(S:Bfs.Pl->Bfs.Pl->Prop)(m T:Int)(x:Bfs.Pl)(qs:List Bfs.Pl)(i:Nat):Prop where
 nd:qs.Nodup
 has:x∈qs
 wk:∀z∈qs,∃n,Bfs.Rw S n x z
 ins:∀z∈qs,bP m T z
 cl:∀j,j<i->∀y,qs[j]?=some y->∀z,S y z->z∈qs
theorem RQ.done{S:Bfs.Pl->Bfs.Pl->Prop}{m T:Int}{x:Bfs.Pl}{qs:List Bfs.Pl}{i:Nat}(h:RQ S m T x qs i)(hi:qs.length<=i):∀z,z∈qs↔∃n,Bfs.Rw S n x z:=fun z=>by
 refine⟨h.wk z,fun⟨n,hn⟩=>?_⟩
 have go:∀(n:Nat) (a b:Bfs.Pl),Bfs.Rw S n a b->a∈qs->b∈qs:=by
  intro n a b hr
  induction hr with
  | nil=>exact fun h=>h
  | snoc _ hs ih=>
   intro ha
   obtain⟨j,hj⟩:=List.getElem?_of_mem (ih ha)
   have:=(EE.mp hj).1
   exact h.cl j (by omega) _ hj _ hs
 exact go n x z hn h.has
def qx(m T:Int)(S:Bfs.Pl->Bfs.Pl->Prop):List V->Hp->VK->Prop:=fun vs H Q=>∃p y,vs=[.ref p]/\ax H p y/\bP m T y/\∀l ps ys H',Ext H H'->H l=none->H' l=some (.lst (List.map V.ref ps))->Paired (ax H') ps ys->(∀z,z∈ys↔S y z)->ys.length<=300->Q (.ref l) H'
def vS(P:Program)(w:World)(K:Eo)(mg:Str->Option Value)(base:Heap):Sp:=fun vs H Q _=>∃pa f pre x m T S,vs=[.ref pa,.ref f]/\ax H pa x/\bP m T x/\m<=12/\T<=2000/\FunR P w K mg base 5 f pre (qx m T S)/\pre H/\(∀H H',Ext H H'->pre H->pre H')/\(∀y z,bP m T y->S y z->bP m T z) ∧
 ∀l as qs H',Ext H H'->H' l=some (.lst (List.map V.ref as))->Paired (ax H') as qs->(∀z∈qs,bP m T z)->qs.length<=24012->(∀z,z∈qs↔∃n,Bfs.Rw S n x z)->Q (.ref l) H'
abbrev lZ:Stmt:=stq 38
theorem vK:FnScope ["place","beside","found","row","looked","here","there"] ["place","beside"] (aK lZ):=⟨rfl,rfl,rfl,by decide +kernel,rfl,by decide +kernel,by decide +kernel⟩
theorem Ec{P:Program}{w:World}{K:Eo}{mg:Str->Option Value}{base:Heap}(D:Dfn K mg "reached" lZ ["place","beside"])(T:Blt mg):Cal P w K mg base "reached" 6 ["place","beside"] (vS P w K mg base):=by
 have nd:=(vK).nd
 refine D.ok vK (fun vs H Q E h=>?_) (fun X hX H vs Q E h=>?_)
 ·obtain⟨pa,f,pre,x,m,T,S,rfl,_⟩:=h;rfl
 ·obtain⟨f,cdv,A,outer,s,H0,E0,rfl,hr⟩:=hX
  obtain⟨pa,ff,pre,x,m,TT,S,rfl,hx,ix,hm12,hT,hF,hpre,hmono,hSin,q⟩:=h
  refine⟨_,(@aj _ _ _ _ _ (@aG _ _ 2 _ _ _ _ nd rfl (Or.inl rfl) (p0 (eE hr) (pv 0) bI) rfl (Or.inl rfl))
    (@aj _ _ _ _ _ (@aG _ _ 3 _ _ _ _ nd rfl (Or.inl rfl) (@bz _ _ _ _ (@aa _ _ _ _ _ (pv 0) ae rfl)) rfl (Or.inl rfl))
    (@aj _ _ _ _ _ (@aG _ _ 4 _ _ _ _ nd rfl (Or.inl rfl) af rfl (Or.inl rfl))
    (@aj _ _ _ _ _ (gH PassesOwn.never (aT eB (pv 4) (aX (cD K) rfl T.len_ PySem.boot_len (@aa _ _ _ _ _ (pv 3) ae rfl)) (aQ _)) (@aj _ _ _ _ _ (@aG _ _ 5 _ _ _ _ nd rfl (Or.inl rfl) (@ai _ _ _ _ _ _ _ (aI K) (pv 3) (pv 4) (fun _ _=>rfl)) rfl (Or.inl rfl))
    (@aj _ _ _ _ _ (lX (i:=4) nd rfl (Or.inl rfl) af mT)
    (@ao _ _ _ (bL PassesOwn.never rfl (cw K (pX (P:=P) (w:=w) (K:=K) (mg:=mg) (base:=base) hr (pv 1) (@aa _ _ _ _ _ (pv 5) ae rfl))) (aJ (i:=6) nd rfl (Or.inl rfl)) (@ao _ _ _ (cL (jP (kN (eE hr) (pv 6) (pv 2)) (by with_unfolding_all rfl)) (@aj _ _ _ _ _ (wD (eE hr) (pv 2) (pv 6) bI rfl)
    (@ao _ _ _ (bo (bG K ED ES ET bO (pv 3) (@aa _ _ _ _ _ (pv 6) ae rfl))))) aV)))))))
    (@ao _ _ _ (@aF _ _ _ _ (pv 3))))))),?_⟩
  walk_at "rd"
  refine fun f hfn=>?_
  walk_at "rd"
  refine⟨pa,bh x,rfl,(bx hfn) _ _ hx,aL,?_⟩
  walk_at "rd"
  refine⟨aB (by simp),aE fun rw H3 e3 hrw hrn=>?_⟩
  walk_at "rd"
  have e13:Ext H (upd (upd H f (.dT [])) f (.dT [(bh x,.bl true)])):=fun b o hb=>by
   rw[az (bX hb hfn),az (bX hb hfn)];exact hb
  have hrn1:H rw=none:=by
   cases z:H rw with
   | none=>rfl
   | some o=>rw[e13 _ _ z]at hrn;cases hrn
  have hf3:H3 f=some (.dT [(bh x,.bl true)]):=e3 _ _ aL
  have rr0:RR H H3 f rw [x]:=⟨e13.trans e3,hfn,hrn1,⟨_,hf3,.cons rfl .nil⟩,[pa],hrw,.cons (e3 _ _ (e13 _ _ hx)) .nil⟩
  have rq0:RQ S m TT x [x] 0:=⟨by simp,by simp,fun z hz=>by rw[EG.mp hz];exact⟨0,.nil⟩,fun z hz=>by rw[EG.mp hz];exact ix,fun j hj=>absurd hj (Nat.not_lt_zero _)⟩
  clear hf3 hrn1 e13 hrw hrn e3
  refine gh (fun M σ H'=>∃qs i k1 k2,RR H H' f rw qs/\RQ S m TT x qs i/\i<=qs.length/\M=24013-i/\σ=[some (.ref pa),some (.ref ff),some (.ref f),some (.ref rw),some (.int (i:Nat)),k1,k2]) (fun σ H'=>∃qs i k0 k1 k2,RR H H' f rw qs/\RQ S m TT x qs i/\qs.length<=i/\qs.length<=24012/\σ=[some (.ref pa),some (.ref ff),some (.ref f),some (.ref rw),k0,k1,k2]) 24013 ⟨[x],0,_,_,rr0,rq0,by simp,by simp,rfl⟩ ?_ ?_
  ·rintro M σ H4 ⟨qs,i,k1,k2,rr,rq,hi,rfl,rfl⟩
   have hqn:qs.length<=24012:=bP.few hm12 hT rq.nd rq.ins
   obtain⟨as,hr4,pr⟩:=rr.r
   have hal:=di pr
   walk_at "rd"
   refine dn (ag.of hr4) ?_
   walk_at "rd"
   by_cases hlt:i<qs.length
   rotate_left
   ·rw[decide_eq_false (show ¬((i:Nat):Int)<((List.map V.ref as).length:Nat) by rw[Ew,hal];omega)]
    refine aq ?_
    exact⟨qs,i,_,_,_,rr,rq,by omega,hqn,rfl⟩
   ·rw[decide_eq_true (show((i:Nat):Int)<((List.map V.ref as).length:Nat) by rw[Ew,hal];omega)]
    refine aC ?_
    refine⟨fun σ' H'=>∃qs' k1 k2,RR H H' f rw qs'/\RQ S m TT x qs' (i+1)/\i+1<=qs'.length/\qs'.length<=24012/\σ'=[some (.ref pa),some (.ref ff),some (.ref f),some (.ref rw),some (.int ((i+1:Nat):Int)),k1,k2],fun σ' H' ⟨qs',k1,k2,a1,a2,a3,a4,a5⟩=>⟨24013-(i+1),by omega,qs',i+1,k1,k2,a1,a2,a3,rfl,a5⟩,?_⟩
    have hqi:qs[i]?=some qs[i]:=Ex hlt
    generalize qs[i]=y at hqi
    obtain⟨b,hb,hby⟩:=wx pr hqi
    have iy:=rq.ins y (EF hqi)
    walk_at "rd"
    refine aH (ag.of hr4) (dJ (v:=.ref b) (by rw[Ey,hb];rfl)) ?_
    walk_at "rd"
    refine sY ?_
    walk_at "rd"
    have hpre4:=hmono _ _ rr.ext hpre
    refine⟨ff,pre,_,rfl,hF,hpre4,?_⟩
    walk_at "rd"
    refine⟨hpre4,b,y,rfl,hby,iy,fun l ps ys H5 e5 hln hl5 hps hys hyl=>?_⟩
    have hpl:=di hps
    have rr5:=rr.step e5
    obtain⟨kvs5,hd5,_⟩:=rr5.d
    obtain⟨as5,hr5,_⟩:=rr5.r
    have nlf:l≠f:=fun z=>by
     obtain⟨kvs,hd,_⟩:=rr.d
     rw[z,hd]at hln
     cases hln
    have nlr:l≠rw:=fun z=>by rw[z,hr4]at hln;cases hln
    refine cj (ag.of hl5) ?_
    refine forL (xs:=List.map V.ref ps) (fun j σ H'=>∃qs' k2,RR H H' f rw qs'/\qs'.Nodup/\(∃new,qs'=qs++new)/\(∀z∈qs',(∃n,Bfs.Rw S n x z)/\bP m TT z)/\(∀a,a<j->∀z,ys[a]?=some z->z∈qs')/\(∀c o,c≠f->c≠rw->H5 c=some o->H' c=some o)/\σ=[some (.ref pa),some (.ref ff),some (.ref f),some (.ref rw),some (.int ((i+1:Nat):Int)),some (.ref b),k2]) ⟨qs,_,rr5,rq.nd,⟨[],by simp⟩,fun z hz=>⟨rq.wk z hz,rq.ins z hz⟩,fun a ha=>absurd ha (Nat.not_lt_zero _),fun c o _ _ h=>h,rfl⟩ (fun j σ H' _ h=>by obtain⟨_,_,_,_,_,_,_,kp,_⟩:=h;exact ag.of (kp _ _ nlf nlr hl5)) ?_ ?_
    ·rintro j v σ H6 hv ⟨qs6,k2,rr6,nd6,⟨new,hnew⟩,in6,cl6,kp6,rfl⟩
     rw[Ey]at hv
     obtain⟨th,hth,rfl⟩:=EH.mp hv
     obtain⟨z,hz,hthz5⟩:=fH hps hth
     have nth:∀{c:Addr} {o:HO},H5 c=some o->(∀xs,o≠.tup xs)->th≠c:=fun{c o} hc hn=>cK hthz5 hc (fun e=>hn _ e.symm)
     have hthz:ax H6 th z:=kp6 _ _ (nth hd5 (fun xs e=>by cases e)) (nth hr5 (fun xs e=>by cases e)) hthz5
     have hSz:S y z:=(hys z).mp (EF hz)
     have hq6:qs6.length<=24012:=bP.few hm12 hT nd6 fun z hz=>(in6 z hz).2
     obtain⟨kvs,hd,pk⟩:=rr6.d
     walk_at "rd"
     refine bZ ?_
     walk_at "rd"
     refine⟨f,_,rfl,cZ.t hd (k:=bh z) hthz,?_⟩
     by_cases hin:z∈qs6
     ·obtain⟨v1,hv1⟩:=zj pk nd6 hin
      rw[hv1]
      refine rd_exb (aq ?_)
      walk_at "rd"
      refine⟨qs6,_,rr6,nd6,⟨new,hnew⟩,in6,fun a ha z' hz'=>?_,kp6,rfl⟩
      by_cases haj:a<j
      ·exact cl6 a haj z' hz'
      ·have:a=j:=by omega
       subst this
       rw[hz]at hz'
       cases hz'
       exact hin
     ·rw[ur pk hin]
      refine rd_exb (aC ?_)
      obtain⟨kvs,hd',hkl,as7,hr7,hal7,rr8⟩:=rr6.push (v:=.bl true) hin hthz
      walk_at "rd"
      refine⟨f,_,rfl,f9.t hd' (k:=bh z) hthz (fU (by omega)),?_⟩
      walk_at "rd"
      refine⟨cS (ag.of hr7),?_⟩
      walk_at "rd"
      refine bN hr7 (fU (by rw[Ew];omega)) ?_
      walk_at "rd"
      obtain⟨n0,hn0⟩:=rq.wk y (EF hqi)
      refine⟨qs6++[z],_,rr8,?_,⟨new++[z],by rw[hnew,List.append_assoc]⟩,fun z' hz'=>?_,fun a ha z' hz'=>?_,fun c o nf nr hc=>?_,rfl⟩
      ·rw[List.nodup_append]
       refine⟨nd6,by simp,fun a ha c hc e=>?_⟩
       rw[EG.mp hc]at e
       exact hin (e ▸ ha)
      ·rcases EU.mp hz' with h | h
       ·exact in6 z' h
       ·rw[EG.mp h]
        exact⟨⟨n0+1,.snoc hn0 hSz⟩,hSin y z iy hSz⟩
      ·by_cases haj:a<j
       ·exact List.mem_append_left _ (cl6 a haj z' hz')
       ·have:a=j:=by omega
        subst this
        rw[hz]at hz'
        cases hz'
        exact List.mem_append_right _ (by simp)
      ·rw[az nr,az nf]
       exact kp6 c o nf nr hc
    ·rintro σ H6 ⟨qs6,k2,rr6,nd6,⟨new,hnew⟩,in6,cl6,kp6,rfl⟩
     rw[Ew,hpl]at cl6
     have hq6:qs6.length<=24012:=bP.few hm12 hT nd6 fun z hz=>(in6 z hz).2
     have hle:qs.length<=qs6.length:=by rw[hnew,EN];omega
     refine⟨qs6,_,_,rr6,⟨nd6,by rw[hnew];exact List.mem_append_left _ rq.has,fun z hz=>(in6 z hz).1,fun z hz=>(in6 z hz).2,fun j hj y' hy' z hz=>?_⟩,by omega,hq6,rfl⟩
     have hjq:j<qs.length:=by omega
     have hy2:qs[j]?=some y':=by
      rw[hnew,EW hjq]at hy'
      exact hy'
     by_cases hji:j<i
     ·rw[hnew]
      exact List.mem_append_left _ (rq.cl j hji y' hy2 z hz)
     ·have:j=i:=by omega
      subst this
      rw[hqi]at hy2
      cases hy2
      obtain⟨a,ha⟩:=List.getElem?_of_mem ((hys z).mpr hz)
      exact cl6 a (EE.mp ha).1 z ha
  ·rintro σ H4 ⟨qs,i,k0,k1,k2,rr,rq,hi,hqn,rfl⟩
   obtain⟨as,hr4,pr⟩:=rr.r
   walk_at "rd"
   exact q rw as qs H4 rr.ext hr4 pr rq.ins hqn (rq.done hi)
def Eu(H H':Hp):Prop:=∀b o,H b=some o->(∀f,o≠.ext f)->H' b=some o
theorem aP.eu{H H':Hp}{bs:List Addr}{ws:List Way}(e:Eu H H')(h:aP H bs ws):aP H' bs ws:=⟨h.1,fun j b w e1 e2=>e _ _ (h.2 j b w e1 e2) (fun f z=>by cases z)⟩
theorem ax.eu{H H':Hp}(e:Eu H H'){p:Addr}{x:Bfs.Pl}(h:ax H p x):ax H' p x:=e _ _ h (fun f z=>by cases z)
structure TL(H H':Hp)(q:Addr)(rs:List Addr)(n:Nat)(M:Nat->Nat->Bool):Prop where
 keep:∀b o,b∉rs->H b=some o->H' b=some o
 nd:rs.Nodup
 nq:q∉rs
 rows:Rows H' q rs n M
theorem TL.mark{H H1:Hp}{q r:Addr}{rs:List Addr}{n i j:Nat}{M:Nat->Nat->Bool}(h:TL H H1 q rs n M)(hi:rs[i]?=some r)(hj:j<n):TL H (upd H1 r (.lst ((aR n (M i)).set j (.bl true)))) q rs n (put2 M i j):=by
 have hm:=EF hi
 have nqr:q≠r:=fun z=>h.nq (z ▸ hm)
 refine⟨fun b o nb e=>?_,h.nd,h.nq,?_,fun a r' ha=>?_⟩
 ·have nbr:b≠r:=fun z=>nb (by rw[z];exact hm)
  rw[az nbr]
  exact h.keep b o nb e
 ·rw[az nqr]
  exact h.rows.1
 ·by_cases hai:a=i
  ·subst hai
   rw[hi]at ha
   cases ha
   rw[aL,mH _ _ hj]
   congr 2
   refine dY fun y _=>?_
   unfold put2
   by_cases hy:y=j
   ·rw[if_pos hy,if_pos ⟨rfl,hy⟩]
   ·rw[if_neg hy,if_neg fun z=>hy z.2]
  ·have nr:r'≠r:=fun z=>hai ((List.getElem?_inj (EE.mp ha).1 h.nd).mp (by rw[ha,hi,z]))
   rw[az nr,h.rows.2 a r' ha]
   congr 2
   exact dY fun y _=>by unfold put2;rw[if_neg fun z=>hai z.1]
theorem zf{m:Int}{ws:List Way}(ok:HOuse m ws){top:Int}{x y:Bfs.Pl}(h0:0<=top)(hx:bP m top x)(h:LB ws m.toNat top x y):bP m top y:=by
 have m1:=ok.m1
 rcases h with⟨w,hw,ho,rfl,hle⟩ | ⟨_,i,j,hk,_,rfl⟩
 ·have okw:=ok.ok w hw
  refine⟨okw.o0,okw.o1,?_,hle⟩
  have hs:=(nJ okw.dd x).mp ho
  exact vz okw.dd hx.2.2.1 hs.2
 ·have:=Kpt.lt ok.ok hk
  exact⟨by show(0:Int)<=(j:Int);omega,by show(j:Int)<m;omega,h0,Int.le_refl _⟩
theorem WT.eu{H H':Hp}{c:Addr}{n:Nat}{ls:List Addr}{ws:List Way}(e:Eu H H')(h:WT H c n ls ws):WT H' c n ls ws:=
 ⟨e _ _ h.at_ (fun f z=>by cases z),h.len,fun r l hl=>by obtain⟨bs,h1,h2⟩:=h.it r l hl;exact⟨bs,e _ _ h1 (fun f z=>by cases z),h2.eu e⟩⟩
theorem eh.eu{H H':Hp}(e:Eu H H'){l:Addr}{n:Nat}{R:Nat->Nat->Prop}(h:eh H l n R):eh H' l n R:=by
 obtain⟨ps,g,h1,h2,h3⟩:=h
 exact⟨ps,g,e _ _ h1 (fun f z=>by cases z),bY (fun a x h=>h.eu e) h2,h3⟩
theorem mr{K:Eo}{x q:Str}{line col:Nat}{H H':Hp}{rs:List Addr}(e:∀b o,b∉rs->H b=some o->H' b=some o)(hr:∀r∈rs,∃xs,H r=some (.lst xs))(h:dz K x q line col H):dz K x q line col H':=fun c T ht=>by
 have no:∀b o,H b=some o->(∀xs,o≠.lst xs)->H' b=some o:=fun b o hb nl=>e b o (fun z=>by obtain⟨xs,hx⟩:=hr b z;rw[hx]at hb;cases hb;exact nl _ rfl) hb
 rcases h c T ht with h | ⟨c',h1,h2⟩
 ·exact .inl (no _ _ h (fun xs z=>by cases z))
 ·exact .inr ⟨c',no _ _ h1 (fun xs z=>by cases z),no _ _ h2 (fun xs z=>by cases z)⟩
theorem Tbs.kp{K:Eo}{H H':Hp}{rs:List Addr}(e:∀b o,b∉rs->H b=some o->H' b=some o)(hr:∀r∈rs,∃xs,H r=some (.lst xs))(h:Tbs K H):Tbs K H':=⟨mr e hr h.kept,mr e hr h.low,mr e hr h.risen⟩
def nk(K:Eo):Sp:=fun vs H Q _=>∃vh m ws pa x,vs=[vh,.ref pa]/\bf H vh m ws/\HOuse m ws/\ax H pa x/\dA m x/\fD K/\Tbs K H/\∀q rs M H',Et H H'->Tbs K H'->Rows H' q rs m.toNat M->(rs.length:Int)=x.2+1->(∀i r:Nat,(i:Int)<=x.2->(r:Int)<m->(M i r=true↔∃n,Bfs.Rw (LB ws m.toNat x.2) n x ((r:Int),(i:Int))))->Q (.ref q) H'
abbrev kZ:Stmt:=stq 40
theorem tj:FnScope ["house","place","ways","keeps","levels","room","number"] ["house","place"] (aK kZ):=⟨rfl,rfl,rfl,by decide +kernel,rfl,by decide +kernel,by decide +kernel⟩
theorem xO{P:Program}{w:World}{K:Eo}{mg:Str->Option Value}{base:Heap}(D:Dfn K mg "low_levels" kZ ["house","place"])(T:Blt mg){c9 T9:Addr}(B:Tab K mg base "low_levels" c9 T9)(C_reached:Cal P w K mg base "reached" 6 ["place","beside"] (vS P w K mg base))(C_kept:Cal P w K mg base "kept" 7 ["house"] (nK K))(C_ways_by_room:Cal P w K mg base "ways_by_room" 1 ["house"] (sG K))(C_low_beside:Cal P w K mg base "low_beside" 4 ["ways","keeps","top","here"] (tY K)):Cal P w K mg base "low_levels" 8 ["house","place"] (nk K):=by
 have nd:=(tj).nd
 refine D.okL B tj (fun vs H Q E h=>?_) (fun X hX H vs Q E h=>?_)
 ·obtain⟨vh,m,ws,pa,x,rfl,_⟩:=h;rfl
 ·obtain⟨f,A,outer,s,H0,E0,rfl,hr⟩:=hX
  obtain⟨vh,m,ws,pa,x,rfl,hv,ok,hpx,ix,dis,htb,q⟩:=h
  have m1:=ok.m1
  have m12:=ok.m12
  obtain⟨i0,i1,i2,i3⟩:=id ix
  refine⟨_,(aj (aG (i:=2) nd rfl (Or.inr rfl) (aD C_ways_by_room hr (aa (pv 0) ae)))
    (aj (aG (i:=3) nd rfl (Or.inr rfl) (aD C_kept hr (aa (pv 0) ae)))
    (aj (f7 (i:=4) ["number"] [0] nd rfl (Or.inl rfl) (cI rfl T.range_ (aa (av aU (ai (aA K) (pv 1) af (fun _ _=>rfl)) af) ae)) (fun _=>(aJ (i:=0) (show(["number","house"]:List Str).Nodup from by decide +kernel) rfl (Or.inl rfl) (Or.inr rfl))) (fun _=>dm) (fun _=>(av om (bz (aa bI ae)) (ai (aA K) (pv 1) af (fun _ _=>rfl)))))
    (aj (bL PassesOwn.never rfl (cw K (oF [2,3,1] C_reached hr (aa (pv 1) (aa (nv rfl rfl B.hd B.blt B.gl (by decide +kernel) rfl rfl rfl) ae)))) (eP (n:=2) K rfl (bE (aJ (i:=5) nd rfl (Or.inl rfl)) (bE (aJ (i:=6) nd rfl (Or.inl rfl)) eA))) (ao (gD bI (jm (ai (aI K) (pv 4) (pv 6) (fun _ _=>rfl)) (pv 5) set_list))))
    (ao (aF (pv 4))))))),?_⟩
  walk_at "rd"
  refine⟨vh,m,ws,rfl,hv,ok,fun c ls H1 e1 wt=>?_⟩
  walk_at "rd"
  refine⟨vh,m,ws,rfl,hv.ext e1,ok,dis,htb.ext e1,fun kl H2 e2 tb2 prs=>?_⟩
  have e02:=e1.et.trans e2
  have wt2:=wt.et e2
  have hv2:=hv.et e02
  have hpx2:=hpx.et e02
  obtain⟨hp0,hq0,hvr,hh2,_⟩:=id hv2
  subst hvr
  walk_at "rd"
  refine ay (ah.of hpx2) (v:=.int x.2) rfl ?_
  walk_at "rd"
  refine cG (by omega) ?_
  refine fm (fun i ys H'=>Ext H2 H'/\∃rs:List Addr,ys=List.map V.ref rs/\rs.length=i/\rs.Nodup/\∀r∈rs,H' r=some (.lst (aR m.toNat fun _=>false))/\H2 r=none) (aB (by omega)) ⟨Ext.rfl' _,[],rfl,rfl,List.nodup_nil,fun l h=>(nomatch h)⟩ (fun i ys H' _ h=>by obtain⟨_,ls,rfl,h,_⟩:=h;rw[Ew,h];exact ER _) ?_ ?_
  ·rintro i ys H3 hi ⟨e3,rs,rfl,hl,hnd,hrs⟩
   walk_at "rd"
   refine aC ?_
   walk_at "rd"
   refine⟨aB (by simp),aE fun z1 H4 e4 hz1 _=>?_⟩
   walk_at "rd"
   refine ay (ah.of ((e3.trans e4) _ _ hh2)) (v:=.int m) rfl ?_
   refine oQ hz1 (by omega) (aB (by simp;omega)) (aE fun z2 H5 e5 hz2 hn5=>?_)
   rw[sF]at hz2
   refine⟨(e3.trans e4).trans e5,rs++[z2],by rw[EM];rfl,by rw[EN,hl];rfl,?_,fun r hr=>?_⟩
   ·rw[List.nodup_append]
    refine⟨hnd,by simp,fun a ha b hb z=>?_⟩
    rw[EG.mp hb]at z
    subst z
    rw[e4 _ _ (hrs a ha).1]at hn5
    cases hn5
   ·rcases EU.mp hr with h | h
    ·exact⟨(e4.trans e5) _ _ (hrs r h).1,(hrs r h).2⟩
    ·rw[EG.mp h]
     refine⟨hz2,?_⟩
     cases y:H2 z2 with
     | none=>rfl
     | some o=>rw[(e3.trans e4) _ _ y]at hn5;cases hn5
  ·rintro ys H3 lq ⟨e3,rs,rfl,hrl,hnd,hrs⟩ hlq
   have e34:=bx (o:=.lst (List.map V.ref rs)) hlq
   have hlq4:(upd H3 lq (.lst (List.map V.ref rs))) lq=_:=aL
   have nql:lq∉rs:=fun z=>by rw[(hrs lq z).1]at hlq;cases hlq
   have rows4:Rows (upd H3 lq (.lst (List.map V.ref rs))) lq rs m.toNat (fun _ _=>false):=⟨aL,fun i r h=>e34 _ _ (hrs r (EF h)).1⟩
   have e24:=e3.trans e34
   generalize upd H3 lq (.lst (List.map V.ref rs))=H4 at e34 hlq4 rows4 e24 ⊢
   have e04:=e02.trans e24.et
   have tb4:=tb2.ext e24
   have wt4:=wt2.ext e24
   have prs4:=prs.et e24.et
   have hpx4:ax H4 pa x:=e24 _ _ hpx2
   walk_at "rd"
   show iZ _ [2,3,1] _ (["house","place","ways","keeps","levels","room","number"]:List Str) _ _ _ _
   generalize PySem.Env.cells _=cells0
   refine nQ ?_
   walk_at "rd"
   refine oa ?_
   refine oZ (x:="low_levels") tb4.low B.tin fun fl c' cl H5 hcl e5 ht5 ot hf hc'=>?_
   have t5:Tbs K H5:=⟨ot "kept" _ _ _ (fun c2 T2 e2=>dis "low_levels" (by simp) "kept" (by simp) (by decide +kernel) _ _ _ _ B.tin e2) tb4.kept,ht5,ot "risen" _ _ _ (fun c2 T2 e2=>dis "low_levels" (by simp) "risen" (by simp) (by decide +kernel) _ _ _ _ B.tin e2) tb4.risen⟩
   walk_at "rd"
   refine⟨fun j hj=>?_,fun cp hlen hcp=>?_⟩
   ·simp only[EK,E5,or_false]at hj
    rcases hj with rfl | rfl | rfl
    ·exact⟨_,rfl⟩
    ·exact⟨_,rfl⟩
    ·exact⟨_,rfl⟩
   obtain⟨⟨n1,d1,o1,v1⟩,⟨n2,d2,o2,v2⟩,⟨n3,d3,o3,v3⟩,rfl⟩:=Al hlen
   obtain⟨hN1,hcc1,hσ1,hno1,u1,hdat1,hrel1⟩:=hcp 0 2 _ rfl rfl
   obtain⟨hN2,hcc2,hσ2,hno2,u2,hdat2,hrel2⟩:=hcp 1 3 _ rfl rfl
   obtain⟨hN3,hcc3,hσ3,hno3,u3,hdat3,hrel3⟩:=hcp 2 1 _ rfl rfl
   clear hcp hlen
   dsimp only at hN1 hcc1 hσ1 hno1 hdat1 hrel1 hN2 hcc2 hσ2 hno2 hdat2 hrel2 hN3 hcc3 hσ3 hno3 hdat3 hrel3
   have hN1':(Str.ofString "ways")=n1:=Option.some.inj hN1
   have hσ1':(V.ref c)=v1:=Option.some.inj (Option.some.inj hσ1)
   have hN2':(Str.ofString "keeps")=n2:=Option.some.inj hN2
   have hσ2':(V.ref kl)=v2:=Option.some.inj (Option.some.inj hσ2)
   have hN3':(Str.ofString "place")=n3:=Option.some.inj hN3
   have hσ3':(V.ref pa)=v3:=Option.some.inj (Option.some.inj hσ3)
   clear hN1 hσ1 hN2 hσ2 hN3 hσ3
   subst hN1'
   subst hσ1'
   subst hN2'
   subst hσ2'
   subst hN3'
   subst hσ3'
   obtain⟨a1,ha1⟩:=hcl.has (Str.ofString "ways") rfl
   obtain⟨a2,ha2⟩:=hcl.has (Str.ofString "keeps") rfl
   obtain⟨a3,ha3⟩:=hcl.has (Str.ofString "place") rfl
   have hb1:=(hcl.fr _ _ ha1).2
   have hb2:=(hcl.fr _ _ ha2).2
   have hb3:=(hcl.fr _ _ ha3).2
   rw[hcc1]at hb1
   rw[hcc2]at hb2
   rw[hcc3]at hb3
   cases hb1
   cases hb2
   cases hb3
   have n12:d1≠d2:=fun z=>absurd (hcl.inj _ _ _ ha1 (z ▸ ha2)) (by decide +kernel)
   have n13:d1≠d3:=fun z=>absurd (hcl.inj _ _ _ ha1 (z ▸ ha3)) (by decide +kernel)
   have n23:d2≠d3:=fun z=>absurd (hcl.inj _ _ _ ha2 (z ▸ ha3)) (by decide +kernel)
   obtain⟨cp,hcp⟩:∃cp:List Cap,cp=[⟨Str.ofString "ways",d1,o1,V.ref c⟩,⟨Str.ofString "keeps",d2,o2,V.ref kl⟩,⟨Str.ofString "place",d3,o3,V.ref pa⟩]:=⟨_,rfl⟩
   have hn5:∀b o9,(cellsOf cp).lookup b=some o9->H5 b=none:=fun b o9 hb=>by
    obtain⟨e,he,rfl,rfl⟩:=fP hb
    rw[hcp]at he
    simp only[EK,E5,or_false]at he
    rcases he with rfl | rfl | rfl
    ·exact hno1
    ·exact hno2
    ·exact hno3
   have ex:=lB hn5
   have hcaps:Caps (bF (cellsOf cp) H5) cl cp:=by
    refine⟨fun e he=>?_,fun y g hy=>?_⟩
    ·rw[hcp]at he ⊢
     simp only[EK,E5,or_false]at he
     rcases he with rfl | rfl | rfl
     ·exact⟨ha1,eD (by simp[cellsOf]),u1,hdat1,hrel1⟩
     ·refine⟨ha2,eD ?_,u2,hdat2,hrel2⟩
      show List.lookup d2 ((d1,o1)::(d2,o2)::[(d3,o3)])=some o2
      rw[List.lookup_cons,show (d2 == d1)=false from beq_eq_false_iff_ne.mpr (Ne.symm n12),List.lookup_cons,beq_self_eq_true]
     ·refine⟨ha3,eD ?_,u3,hdat3,hrel3⟩
      show List.lookup d3 ((d1,o1)::(d2,o2)::[(d3,o3)])=some o3
      rw[List.lookup_cons,show (d3 == d1)=false from beq_eq_false_iff_ne.mpr (Ne.symm n13),List.lookup_cons,show (d3 == d2)=false from beq_eq_false_iff_ne.mpr (Ne.symm n23),List.lookup_cons,beq_self_eq_true]
    ·have hm:=iq (hcl.fr y g hy).1
     rw[hcp]
     simp at hm
     rcases hm with rfl | rfl | rfl
     all_goals first | (rw[ha1]at hy;cases hy;exact⟨⟨Str.ofString "ways",d1,o1,V.ref c⟩,by simp,rfl,rfl⟩) | (rw[ha2]at hy;cases hy;exact⟨⟨Str.ofString "keeps",d2,o2,V.ref kl⟩,by simp,rfl,rfl⟩) | (rw[ha3]at hy;cases hy;exact⟨⟨Str.ofString "place",d3,o3,V.ref pa⟩,by simp,rfl,rfl⟩)
   have wt5:=(wt4.et e5).ext ex
   have prs5:=(prs4.et e5).et ex.et
   have hpx5:ax (bF (cellsOf cp) H5) pa x:=ex _ _ (hpx4.et e5)
   subst hcp
   have hF:=
    n5 (P:=P) (w:=w) (K:=K) (mg:=mg) (base:=base) (k:=4) hf hcl (["here"]:List Str) [⟨Str.ofString "ways",d1,o1,V.ref c⟩,⟨Str.ofString "keeps",d2,o2,V.ref kl⟩,⟨Str.ofString "place",d3,o3,V.ref pa⟩] (qx m x.2 (LB ws m.toNat x.2)) (fun H=>WT H c m.toNat ls ws/\eh H kl m.toNat (Kpt ws m.toNat)/\ax H pa x) ⟨rfl,rfl,rfl,by decide +kernel,by decide +kernel⟩ (fun _ _ _ us hl=>by obtain⟨u1,rfl⟩:=oJ hl;rfl) (fun vs H Q h=>by obtain⟨p,y,rfl,_⟩:=h;rfl) (fun A outer s H vs Q hrL hpre hI hR=>by
     obtain⟨p,y,rfl,hpy,iy,hQ⟩:=hR
     have hlk:=hpre.2.2.look
     obtain⟨hI1,hI2,hI3⟩:=hI
     have eu:Eu H (aY (cellsOf [⟨Str.ofString "ways",d1,o1,V.ref c⟩,⟨Str.ofString "keeps",d2,o2,V.ref kl⟩,⟨Str.ofString "place",d3,o3,V.ref pa⟩]) H):=fun b o hb nf=>fN hlk hb nf
     have k1:=hI1.eu eu
     have k2:=hI2.eu eu
     have k3:=hI3.eu eu
     have kp:=hpy.eu eu
     refine⟨_,(aD C_low_beside hrL (aa (pv 1) (aa (pv 2) (aa (ai (aA K) (pv 3) af (fun _ _=>rfl)) (aa (pv 0) ae))))),?_⟩
     have hb:∀H',Ext (aY (cellsOf [⟨Str.ofString "ways",d1,o1,V.ref c⟩,⟨Str.ofString "keeps",d2,o2,V.ref kl⟩,⟨Str.ofString "place",d3,o3,V.ref pa⟩]) H) H'->Ext H (bF (cellsOf [⟨Str.ofString "ways",d1,o1,V.ref c⟩,⟨Str.ofString "keeps",d2,o2,V.ref kl⟩,⟨Str.ofString "place",d3,o3,V.ref pa⟩]) H'):=fun H' e=>qp hlk e
     have hu:∀l,(cellsOf [⟨Str.ofString "ways",d1,o1,V.ref c⟩,⟨Str.ofString "keeps",d2,o2,V.ref kl⟩,⟨Str.ofString "place",d3,o3,V.ref pa⟩]).lookup l=none->aY (cellsOf [⟨Str.ofString "ways",d1,o1,V.ref c⟩,⟨Str.ofString "keeps",d2,o2,V.ref kl⟩,⟨Str.ofString "place",d3,o3,V.ref pa⟩]) H l=H l:=fun l hl=>cy hl
     generalize aY (cellsOf [⟨Str.ofString "ways",d1,o1,V.ref c⟩,⟨Str.ofString "keeps",d2,o2,V.ref kl⟩,⟨Str.ofString "place",d3,o3,V.ref pa⟩]) H=HU at k1 k2 k3 kp hb hu ⊢
     generalize cellsOf [⟨Str.ofString "ways",d1,o1,V.ref c⟩,⟨Str.ofString "keeps",d2,o2,V.ref kl⟩,⟨Str.ofString "place",d3,o3,V.ref pa⟩]=cs at hb hu ⊢
     show jL _ _ _ _ [some (.ref p),some (.ref c),some (.ref kl),some (.ref pa)] _ _
     walk_at "rd"
     refine ay (ah.of k3) (v:=.int x.2) rfl ?_
     walk_at "rd"
     refine⟨c,kl,x.2,p,m,ws,ls,y,rfl,k1,k2,ok,kp,iy.1,iy.2.1,fun l ps ys H' e hn hl hps hys hyl=>?_⟩
     intro hnc
     have nl:cs.lookup l=none:=by
      cases z:cs.lookup l with
      | none=>rfl
      | some o=>rw[hnc l o z]at hl;cases hl
     have et:=lB hnc
     exact hQ l ps ys _ (hb H' e) (by rw[←hu l nl];exact hn) (et _ _ hl) (bY (fun a x h=>et _ _ h) hps) hys hyl)
   refine⟨pa,fl,_,x,m,x.2,LB ws m.toNat x.2,rfl,hpx5,⟨i0,i1,i2,Int.le_refl _⟩,m12,by omega,hF,⟨⟨ex _ _ hf,ex _ _ hc',hcaps⟩,wt5,prs5,hpx5⟩,fun H H' e h=>⟨h.1.ext e,h.2.1.ext e,h.2.2.1.et e.et,e _ _ h.2.2.2⟩,fun y z hy hS=>zf ok i2 hy hS,fun l as qs H6 e6 hl6 hps hin hqn hqs=>?_⟩
   clear hF
   obtain⟨b1,b2,b3,b4⟩:=held hn5 e6
   refine⟨b1,?_⟩
   have hl7:=b4 _ _ hl6 (fun f z=>by cases z)
   have hps7:Paired (ax (aY _ H6)) as qs:=bY (fun a x h=>b4 _ _ h (fun f z=>by cases z)) hps
   have rows7:=(rows4.et e5).ext b2
   have e07:=(e04.trans e5).trans b2.et
   have t7:=t5.ext b2
   generalize aY _ H6=H7 at hl7 hps7 rows7 e07 t7 ⊢
   have hal:=di hps7
   have fr0:∀r∈rs,∀o,H r=some o->(∀ps,o≠.tbl ps)->False:=fun r hr o ho no=>by
    have:=e02 _ _ ho no
    rw[(hrs r hr).2]at this
    cases this
   clear hcaps hn5 ex wt5 prs5 hpx5 e6 hl6 hps b1 b2 b3 b4 hf hc' hcl ha1 ha2 ha3 hcc1 hcc2 hcc3 hno1 hno2 hno3 hrel1 hrel2 hrel3 hdat1 hdat2 hdat3 n12 n13 n23 ot
   have tup1:∀(b:Addr) (z:Bfs.Pl),ax H7 b z->b∉rs:=fun b z hb hr=>by
    obtain⟨j,hj⟩:=List.getElem?_of_mem hr
    have h1:=rows7.2 j b hj
    have h2:H7 b=some (.tup [.int z.1,.int z.2]):=hb
    rw[h1]at h2
    cases h2
   have nl:l∉rs:=fun hr=>by
    obtain⟨j,hj⟩:=List.getElem?_of_mem hr
    have h1:=rows7.2 j l hj
    rw[hl7]at h1
    have h2:List.map V.ref as=aR m.toNat fun _=>false:=by
     injection h1 with h1
     injection h1
    have h3:=congrArg (fun z:List V=>z[0]?) h2
    try dsimp only at h3
    rw[fg _ (by omega),Ey]at h3
    cases y:as[0]? with
    | none=>rw[y]at h3;cases h3
    | some a=>rw[y]at h3;cases h3
   refine cj (ag.of hl7) ?_
   refine forL (xs:=List.map V.ref as) (fun j σ H'=>∃M k1 k2,TL H7 H' lq rs m.toNat M/\(∀i r:Nat,M i r=true↔(((r:Nat):Int),((i:Nat):Int))∈qs.take j)/\σ=[some (.ref hp0),some (.ref pa),some (.ref c),some (.ref kl),some (.ref lq),k1,k2]) ⟨_,_,_,⟨fun _ _ _ e=>e,hnd,nql,rows7⟩,fun i r=>by simp,rfl⟩ (fun j σ H' _ h=>by obtain⟨M,k1,k2,tl,_⟩:=h;exact ag.of (tl.keep _ _ nl hl7)) ?_ ?_
   ·rintro j v σ H8 hx ⟨M,k1,k2,tl,hM,rfl⟩
    rw[Ey]at hx
    obtain⟨b,hb,rfl⟩:=EH.mp hx
    obtain⟨z,hz,hbz⟩:=fH hps7 hb
    obtain⟨z0,z1,z2,z3⟩:=hin z (EF hz)
    have hbz8:ax H8 b z:=tl.keep _ _ (tup1 b z hbz) hbz
    have hrx:z.2.toNat<rs.length:=by omega
    have hrg:rs[z.2.toNat]?=some rs[z.2.toNat]:=Ex hrx
    generalize rs[z.2.toNat]=ar at hrg
    have hrow:=tl.rows.2 _ _ hrg
    refine eG (ah.of hbz8) rfl ?_
    walk_at "rd"
    refine aH (ag.of tl.rows.1) (v:=.ref ar) (ee z2 (by rw[Ey,hrg];rfl)) ?_
    walk_at "rd"
    refine iV hrow (je z0 (by rw[cJ];omega)) ?_
    refine⟨_,_,_,tl.mark hrg (by omega),fun i r=>?_,rfl⟩
    rw[List.take_add_one,hz,EU]
    unfold put2
    split
    ·rename_i y
     simp only[true_iff]
     right
     simp
     refine Prod.ext ?_ ?_
     ·show((r:Nat):Int)=z.1
      omega
     ·show((i:Nat):Int)=z.2
      omega
    ·rename_i y
     rw[hM]
     constructor
     ·exact fun h=>.inl h
     ·rintro(h | h)
      ·exact h
      ·have h':(((r:Nat):Int),((i:Nat):Int))=z:=by simpa using h
       refine absurd ⟨?_,?_⟩ y
       ·rw[←h']
        show i=((i:Nat):Int).toNat
        omega
       ·rw[←h']
        show r=((r:Nat):Int).toNat
        omega
   ·rintro σ H8 ⟨M,k1,k2,tl,hM,rfl⟩
    rw[Ew,hal,EZ]at hM
    walk_at "rd"
    refine q lq rs M H8 (fun b o hb no=>?_) (t7.kp tl.keep fun r hr=>?_) tl.rows (by omega) fun i r hi hr=>?_
    ·have h7:=e07 _ _ hb no
     exact tl.keep b o (fun hr=>fr0 b hr o hb no) h7
    ·obtain⟨j,hj⟩:=List.getElem?_of_mem hr
     exact⟨_,rows7.2 j r hj⟩
    ·rw[hM]
     exact hqs _
def xq(K:Eo):Sp:=fun vs H Q _=>∃rl lv n f R,vs=[.ref rl,.ref lv]/\eh H rl n R/\H lv=some (.lst (aR n f))/\n<=12/\∀l g H',Ext H H'->H l=none->H' l=some (.lst (aR n g))->(∀j,j<n->(g j=true↔∃i,i<n/\f i=true/\R i j))->Q (.ref l) H'
abbrev j7:Stmt:=stq 41
theorem sj:FnScope ["rises","level","risen_to","p","q"] ["rises","level"] (aK j7):=⟨rfl,rfl,rfl,by decide +kernel,rfl,by decide +kernel,by decide +kernel⟩
theorem yJ{P:Program}{w:World}{K:Eo}{mg:Str->Option Value}{base:Heap}(D:Dfn K mg "next_level" j7 ["rises","level"])(T:Blt mg):Cal P w K mg base "next_level" 1 ["rises","level"] (xq K):=by
 have nd:=(sj).nd
 refine D.ok sj (fun vs H Q E h=>?_) (fun X hX H vs Q E h=>?_)
 ·obtain⟨rl,lv,n,f,R,rfl,_⟩:=h;rfl
 ·obtain⟨f,cdv,A,outer,s,H0,E0,rfl,hr⟩:=hX
  obtain⟨rl,lv,n,f',R,rfl,prs,hlv,hn,q⟩:=h
  obtain⟨ps,g,hrl,hps,hg⟩:=prs
  have hpl:=di hps
  refine⟨_,(@aj _ _ _ _ _ (@aG _ _ 2 _ _ _ _ nd rfl (Or.inl rfl) (av om (@bz _ _ _ _ (@aa _ _ _ _ _ bI ae rfl)) (aX (cD K) rfl T.len_ PySem.boot_len (@aa _ _ _ _ _ (pv 1) ae rfl))) rfl (Or.inl rfl))
    (@aj _ _ _ _ _ (bL PassesOwn.never rfl (cw K (pv 0)) (eP (n:=2) K rfl (bE (aJ (i:=3) nd rfl (Or.inl rfl)) (bE (aJ (i:=4) nd rfl (Or.inl rfl)) eA))) (@ao _ _ _ (cL (bw (@ai _ _ _ _ _ _ _ (aI K) (pv 1) (pv 3) (fun _ _=>rfl))) (@ao _ _ _ (@gD _ _ _ _ _ _ bI (jm (pv 2) (pv 4) set_list) rfl rfl rfl)) aV)))
    (@ao _ _ _ (@aF _ _ _ _ (pv 2))))),?_⟩
  walk_at "rd"
  refine⟨aB (by simp),aE fun z1 H1 e1 hz1 _=>?_⟩
  walk_at "rd"
  refine dn (ag.of (e1 _ _ hlv)) ?_
  rw[cJ]
  refine oQ hz1 (by omega) (aB (by simp;omega)) (aE fun rt H2 e2 hrt hrn=>?_)
  rw[sF,EI]at hrt
  have e02:=e1.trans e2
  have hrt0:H rt=none:=by
   cases y:H rt with
   | none=>rfl
   | some o=>rw[e1 _ _ y]at hrn;cases hrn
  walk_at "rd"
  refine cj (ag.of (e02 _ _ hrl)) ?_
  refine forL (xs:=List.map V.ref ps) (fun j σ H'=>∃h k1 k2,Ext H H'/\H' rt=some (.lst (aR n h))/\(∀b,h b=true↔∃z∈(cP n g n).take j,f' z.1.toNat=true/\z.2.toNat=b)/\σ=[some (.ref rl),some (.ref lv),some (.ref rt),k1,k2]) ⟨_,_,_,e02,hrt,fun b=>by simp,rfl⟩ (fun j σ H' _ h=>by obtain⟨_,_,_,e,_⟩:=h;exact ag.of (e _ _ hrl)) ?_ ?_
  ·rintro j v σ H3 hx ⟨h,k1,k2,e3,hr3,hh,rfl⟩
   rw[Ey]at hx
   obtain⟨b,hb,rfl⟩:=EH.mp hx
   obtain⟨z,hz,hbz⟩:=fH hps hb
   obtain⟨i,r,hi,hr,hgz,rfl⟩:=gN.mp (EF hz)
   have hbz3:ax H3 b (((i:Nat):Int),((r:Nat):Int)):=e3 _ _ hbz
   refine eG (ah.of hbz3) rfl ?_
   walk_at "rd"
   refine bZ ?_
   walk_at "rd"
   refine aH (ag.of (e3 _ _ hlv)) (dG (by omega) (by omega)) ?_
   rw[EI]
   walk_at "rd"
   have step:∀P:Bfs.Pl->Prop,(∃z∈(cP n g n).take (j+1),P z)↔(∃z∈(cP n g n).take j,P z)\/P (((i:Nat):Int),((r:Nat):Int)):=fun P=>by
    rw[List.take_add_one,hz]
    constructor
    ·rintro⟨z,hm,hp⟩
     rcases EU.mp hm with hm | hm
     ·exact .inl ⟨z,hm,hp⟩
     ·have:z=(((i:Nat):Int),((r:Nat):Int)):=by simpa using hm
      subst this
      exact .inr hp
    ·rintro(⟨z,hm,hp⟩ | hp)
     ·exact⟨z,List.mem_append_left _ hm,hp⟩
     ·exact⟨_,List.mem_append_right _ (by simp),hp⟩
   cases hf:f' i with
   | false=>
    refine aq ?_
    walk_at "rd"
    refine⟨h,_,_,e3,hr3,fun b=>?_,rfl⟩
    rw[hh,step]
    constructor
    ·exact fun y=>.inl y
    ·rintro(y | ⟨y,_⟩)
     ·exact y
     ·have y':f' ((i:Nat):Int).toNat=true:=y
      rw[EI,hf]at y'
      cases y'
   | true=>
    refine aC ?_
    walk_at "rd"
    refine iV hr3 (je (by omega) (by rw[cJ];omega)) ?_
    rw[EI,mH _ _ hr]
    refine⟨_,_,_,cx e3 hrt0,aL,fun b=>?_,rfl⟩
    rw[step]
    by_cases hbr:b=r
    ·rw[if_pos hbr]
     simp only[true_iff]
     refine .inr ⟨?_,?_⟩
     ·show f' ((i:Nat):Int).toNat=true
      rw[EI];exact hf
     ·show((r:Nat):Int).toNat=b
      rw[EI];exact hbr.symm
    ·rw[if_neg hbr,hh]
     constructor
     ·exact fun y=>.inl y
     ·rintro(y | ⟨_,y⟩)
      ·exact y
      ·have y':((r:Nat):Int).toNat=b:=y
       rw[EI]at y'
       exact absurd y'.symm hbr
  ·rintro σ H3 ⟨h,k1,k2,e3,hr3,hh,rfl⟩
   rw[Ew,hpl,EZ]at hh
   walk_at "rd"
   refine q rt h H3 e3 hrt0 hr3 fun b hb=>?_
   rw[hh]
   constructor
   ·rintro⟨z,hz,hf,rfl⟩
    obtain⟨i,r,hi,hr,hgz,rfl⟩:=gN.mp hz
    have hf':f' ((i:Nat):Int).toNat=true:=hf
    rw[EI]at hf'
    refine⟨i,hi,hf',?_⟩
    show R i ((r:Nat):Int).toNat
    rw[EI]
    exact(hg i r hi hr).mp hgz
   ·rintro⟨i,hi,hf,hR⟩
    refine⟨(((i:Nat):Int),((b:Nat):Int)),gN.mpr ⟨i,b,hi,hb,(hg i b hi hb).mpr hR,rfl⟩,?_,?_⟩
    ·show f' ((i:Nat):Int).toNat=true
     rw[EI];exact hf
    ·show((b:Nat):Int).toNat=b
     exact EI b
theorem sx{f:Nat->Bool}{lo i:Nat}{ys:List V}(h:ys=(row f lo i).map V.int)(hf:f (lo+i)=true):ys++[V.int ((lo+i:Nat):Int)]=(row f lo (i+1)).map V.int:=by
 rw[rD,if_pos hf,EM,h]
 rfl
theorem rA{f:Nat->Bool}{lo i:Nat}{ys:List V}(h:ys=(row f lo i).map V.int)(hf:f (lo+i)=false):ys=(row f lo (i+1)).map V.int:=by
 rw[rD,if_neg (by rw[hf];decide),List.append_nil,h]
def eR(H:Hp)(v:V)(b s:Int)(o a:List Int):Prop:=∃p q r,v=.ref p/\H p=some (.tup [.int b,.int s,.ref q,.ref r])/\H q=some (.tup (o.map V.int))/\H r=some (.tup (a.map V.int))
theorem eR.ext{H H':Hp}{v:V}{b s:Int}{o a:List Int}(e:Ext H H')(h:eR H v b s o a):eR H' v b s o a:=by
 obtain⟨p,q,r,rfl,h1,h2,h3⟩:=h
 exact⟨p,q,r,rfl,e _ _ h1,e _ _ h2,e _ _ h3⟩
theorem tN{n:Nat}{f:Nat->Bool}{i:Int}(h0:0<=i)(h:i<=n):cg (aR n f) (some i) none=aR (n-i.toNat) fun k=>f (i.toNat+k):=by
 unfold cg
 rw[cJ,HT.nZ]
 have e:HT.aN n 0 (some i)=i.toNat:=by
  show(if i<0 then(i+(n:Int)).toNat else min i.toNat n)=i.toNat
  rw[if_neg (by omega)]
  omega
 rw[e]
 apply List.ext_getElem?
 intro k
 rcases Nat.lt_or_ge k (n-i.toNat)with hk | hk
 ·rw[List.getElem?_take_of_lt hk,List.getElem?_drop,fg _ (by omega),fg _ hk]
 ·rw[List.getElem?_eq_none (by rw[List.length_take,List.length_drop,cJ];omega),List.getElem?_eq_none (by rw[cJ];omega)]
def dB(n:Nat)(f:Nat->Bool):List PyData:=(List.range n).map fun i=>PyData.bool (f i)
theorem w5{α:Type}{R:V->PyData->Prop}{g:α->V}{k:α->PyData}(h:∀x,R (g x) (k x)):∀l:List α,Paired R (l.map g) (l.map k)
 | []=>.nil
 | x::l=>.cons (h x) (w5 h l)
theorem iK{H:Hp}{p:Addr}{n:Nat}{f:Nat->Bool}(h:H p=some (.lst (aR n f))):aW H 1 (.ref p) (.list (dB n f)):=
 .inr ⟨p,aR n f,dB n f,rfl,.inr ⟨h,rfl⟩,w5 (fun i=>(rfl:f i=f i)) _⟩
theorem vt{α:Type}(f g:α->Bool):∀l:List α,PyData.eqvAll (l.map fun i=>PyData.bool (f i)) (l.map fun i=>PyData.bool (g i))=l.all fun i=>f i == g i
 | []=>rfl
 | x::l=>by
  show(PyData.eqv (.bool (f x)) (.bool (g x)) && PyData.eqvAll (l.map fun i=>PyData.bool (f i)) (l.map fun i=>PyData.bool (g i)))=((f x == g x) && l.all fun i=>f i == g i)
  rw[vt f g l]
  rfl
theorem iC{n:Nat}{f g:Nat->Bool}:PyData.eqv (.list (dB n f)) (.list (dB n g))=true↔∀i,i<n->f i=g i:=by
 show PyData.eqvAll (dB n f) (dB n g)=true↔_
 unfold dB
 rw[vt,E6]
 simp only[List.mem_range,beq_iff_eq]
theorem BO{n d:Nat}{g:Nat->Bool}(hd:d<=n)(hz:n % d=0):PyData.eqv (.list (dB (n-d) fun k=>g (d+k))) (.list (dB (n-d) g))=true↔Alike g 0 n d:=by
 rw[iC]
 constructor
 ·intro h
  refine⟨hz,fun i hi=>?_⟩
  have:=h i (by omega)
  rw[show 0+i+d=d+i by omega,this,Nat.zero_add]
 ·intro h i hi
  have:=h.2 i (by omega)
  rw[show 0+i+d=d+i by omega,Nat.zero_add]at this
  exact this
def qe(K:Eo):Sp:=fun vs H Q _=>∃(p:Addr) (n:Nat) (g:Nat->Bool),vs=[.ref p]/\1<=n/\n<=20000/\H p=some (.lst (aR n g)) ∧
 ∀(d:Nat) H',Ext H H'->1<=d->d<=n->Alike g 0 n d->(∀e,1<=e->e<d->¬Alike g 0 n e)->Q (.int d) H'
abbrev ke:Stmt:=stq 7
theorem tm:FnScope ["turn","whole","step"] ["turn"] (aK ke):=⟨rfl,rfl,rfl,by decide +kernel,rfl,by decide +kernel,by decide +kernel⟩
theorem Cs{P:Program}{w:World}{K:Eo}{mg:Str->Option Value}{base:Heap}(D:Dfn K mg "least_step" ke ["turn"])(T:Blt mg):Cal P w K mg base "least_step" 1 ["turn"] (qe K):=by
 have nd:=(tm).nd
 refine D.ok tm (fun vs H Q E h=>?_) (fun X hX H vs Q E h=>?_)
 ·obtain⟨p,n,g,rfl,_⟩:=h;rfl
 ·obtain⟨f,cdv,A,outer,s,H0,E0,rfl,hr⟩:=hX
  obtain⟨p,n,g,rfl,hn1,hn2,hp,q⟩:=h
  refine⟨_,(aj (aG (i:=1) nd rfl (Or.inl rfl) (aX (cD K) rfl T.len_ PySem.boot_len (aa (pv 0) ae)))
    (aj (aG (i:=2) nd rfl (Or.inl rfl) af)
    (aj (gH PassesOwn.never (PW.pt (cM (aT fL (av cz (pv 1) (pv 2)) af (aQ _)) (dh (aT (v7 hr) (g7 (iI K) (pv 0) (fG (pv 2)) jo) (g7 (iI K) (pv 0) jo (fG (av cX (pv 1) (pv 2)))) (aQ _))))) (ao (lX (i:=2) nd rfl (Or.inl rfl) af mT)))
    (ao (aF (pv 2)))))),?_⟩
  walk_at "rd"
  refine dn (ag.of hp) ?_
  rw[cJ]
  walk_at "rd"
  refine gh (fun m σ H'=>Ext H H'/\∃d:Nat,σ=[some (.ref p),some (.int n),some (.int d)]/\1<=d/\d<=n/\m=n-d/\∀e,1<=e->e<d->¬Alike g 0 n e)
   (fun σ H'=>Ext H H'/\∃d:Nat,σ=[some (.ref p),some (.int n),some (.int d)]/\1<=d/\d<=n/\Alike g 0 n d/\∀e,1<=e->e<d->¬Alike g 0 n e) (n-1)
   ⟨Ext.rfl' H,1,rfl,ER _,hn1,rfl,fun e h1 h2=>by omega⟩ ?_ ?_
  rotate_left
  ·rintro σ H' ⟨e,d,rfl,h1,h2,ha,hf⟩
   walk_at "rd"
   exact q d H' e h1 h2 ha hf
  rintro m σ H' ⟨e,d,rfl,h1,h2,rfl,hf⟩
  have hp':=e _ _ hp
  have hmod:((n:Int) % (d:Int)=0)↔n % d=0:=by
   have:(n:Int) % (d:Int)=((n % d:Nat):Int):=rfl
   omega
  have next:∀H2,Ext H' H2->¬Alike g 0 n d->∃m',m'<n-d/\Ext H H2/\∃d':Nat,[some (V.ref p),some (V.int n),some (V.int ((d:Int)+1))]=[some (V.ref p),some (V.int n),some (V.int d')]/\1<=d'/\d'<=n/\m'=n-d'/\∀e,1<=e->e<d'->¬Alike g 0 n e:=by
   intro H2 e2 hna
   have hlt:d<n:=by
    rcases Nat.lt_or_ge d n with h | h
    ·exact h
    ·have:d=n:=by omega
     subst this
     exact absurd ⟨Nat.mod_self d,fun i hi=>by omega⟩ hna
   refine⟨n-(d+1),by omega,e.trans e2,d+1,rfl,by omega,by omega,rfl,fun e' h3 h4=>?_⟩
   rcases Nat.lt_or_ge e' d with h5 | h5
   ·exact hf e' h3 h5
   ·have:e'=d:=by omega
    subst this
    exact hna
  walk_at "rd"
  by_cases hz:(n:Int) % (d:Int)=0
  ·rw[decide_eq_true hz]
   refine aq ?_
   walk_at "rd"
   refine iY (ag.of hp') (aE fun p1 H1 e1 hp1 _=>?_)
   walk_at "rd"
   refine iY (ag.of (e1 _ _ hp')) (aE fun p2 H2 e2 hp2 _=>?_)
   rw[tN (by omega) (by omega),EI]at hp1
   rw[CZ (by omega) (by omega),show ((n:Int)-(d:Int)).toNat=n-d by omega]at hp2
   refine⟨1,1,_,_,iK (e2 _ _ hp1),iK hp2,by decide,?_⟩
   walk_at "rd"
   have hal:=BO (g:=g) h2 (hmod.mp hz)
   cases hc:PyData.eqv (.list (dB (n-d) fun k=>g (d+k))) (.list (dB (n-d) g))with
   | true=>
    exact aq ⟨e.trans (e1.trans e2),d,rfl,h1,h2,hal.mp hc,hf⟩
   | false=>
    refine aC ⟨_,fun _ _ h=>h,?_⟩
    walk_at "rd"
    exact next H2 (e1.trans e2) fun h=>by rw[hal.mpr h]at hc;cases hc
  ·rw[decide_eq_false hz]
   refine aC (aC ⟨_,fun _ _ h=>h,?_⟩)
   walk_at "rd"
   exact next H' (Ext.rfl' H') fun h=>hz (hmod.mpr h.1)
theorem rM{f:Nat->Bool}{b n d:Nat}:Alike (fun k=>f (b+k)) 0 n d↔Alike f b n d:=by
 unfold Alike
 simp only[Nat.zero_add,Nat.add_assoc]
def xC(K:Eo):Sp:=fun vs H Q _=>∃(p:Addr) (b n:Nat) (f:Nat->Bool),vs=[.ref p,.int b]/\1<=n/\b+n<=20000/\H p=some (.lst (aR (b+n) f))/\bD f b n ∧
 ∀v (l d:Nat) H',Ext H H'->Least f d l->l<=b->d<=n->eR H' v l d (row f 0 l) (row f l d)->Q v H'
abbrev lK:Stmt:=stq 8
theorem sU:FnScope ["marks","base","step","low","once","again"] ["marks","base"] (aK lK):=⟨rfl,rfl,rfl,by decide +kernel,rfl,by decide +kernel,by decide +kernel⟩
theorem Bd{P:Program}{w:World}{K:Eo}{mg:Str->Option Value}{base:Heap}(D:Dfn K mg "stair_of_marks" lK ["marks","base"])(T:Blt mg)(C_least_step:Cal P w K mg base "least_step" 1 ["turn"] (qe K)):Cal P w K mg base "stair_of_marks" 2 ["marks","base"] (xC K):=by
 have nd:=(sU).nd
 refine D.ok sU (fun vs H Q E h=>?_) (fun X hX H vs Q E h=>?_)
 ·obtain⟨p,b,n,f,rfl,_⟩:=h;rfl
 ·obtain⟨f,cdv,A,outer,s,H0,E0,rfl,hr⟩:=hX
  obtain⟨p,b,n,g,rfl,hn1,hbn,hp,hper,q⟩:=h
  refine⟨_,(aj (aG (i:=2) nd rfl (Or.inl rfl) (aD C_least_step hr (aa (g7 (iI K) (pv 0) (fG (pv 1)) jo) ae)))
    (aj (aG (i:=3) nd rfl (Or.inl rfl) (pv 1))
    (aj (gH PassesOwn.never (PW.pt (fI (aT gn (pv 3) af (aQ _)) (fZ (aT bM (ai (aI K) (pv 0) (av cX (pv 3) af) (fun _ _=>rfl)) (ai (aI K) (pv 0) (av aU (av cX (pv 3) af) (pv 2)) (fun _ _=>rfl)) (aQ _))))) (ao (lX (i:=3) nd rfl (Or.inl rfl) af xQ)))
    (aj (f7 (i:=4) ["number"] [0] nd rfl (Or.inl rfl) (cI rfl T.range_ (aa (pv 3) ae)) (fun _=>(aJ (i:=0) (show(["number","marks"]:List Str).Nodup from by decide +kernel) rfl (Or.inl rfl) (Or.inr rfl))) (fun _=>(fj (bw (ai (aI K) (pv 1) (pv 0) (fun _ _=>rfl))))) (fun _=>(pv 0)))
    (aj (f7 (i:=5) ["number"] [0] nd rfl (Or.inl rfl) (o5 rfl T.range_ (aa (pv 3) (aa (av aU (pv 3) (pv 2)) ae))) (fun _=>(aJ (i:=0) (show(["number","marks"]:List Str).Nodup from by decide +kernel) rfl (Or.inl rfl) (Or.inr rfl))) (fun _=>(fj (bw (ai (aI K) (pv 1) (pv 0) (fun _ _=>rfl))))) (fun _=>(pv 0)))
    (ao (aF (bA (aa (pv 3) (aa (pv 2) (aa (fu (kx K) rfl T.tuple_ PyProof.Rows.boot_tuple (aa (pv 4) ae)) (aa (fu (kx K) rfl T.tuple_ PyProof.Rows.boot_tuple (aa (pv 5) ae)) ae)))))))))))),?_⟩
  walk_at "rd"
  refine iY (ag.of hp) (aE fun p1 H1 e1 hp1 _=>?_)
  rw[tN (by omega) (by omega),EI,show b+n-b=n by omega]at hp1
  walk_at "rd"
  refine⟨p1,n,_,rfl,hn1,by omega,hp1,fun d H2 e2 hd1 hd2 hal hfirst=>?_⟩
  have hal':=rM.mp hal
  have hfirst':∀e,1<=e->e<d->¬Alike g b n e:=fun e h3 h4 h5=>hfirst e h3 h4 (rM.mpr h5)
  have e02:Ext H H2:=e1.trans e2
  have hp2:=e02 _ _ hp
  walk_at "rd"
  refine gh (fun m σ H'=>H'=H2/\∃l:Nat,σ=[some (.ref p),some (.int b),some (.int d),some (.int l),none,none]/\l<=b/\m=l/\∀x,l<=x->x<b->g x=g (x+d))
   (fun σ H'=>H'=H2/\∃l:Nat,σ=[some (.ref p),some (.int b),some (.int d),some (.int l),none,none]/\l<=b/\(∀x,l<=x->x<b->g x=g (x+d))/\(l=0\/g (l-1)≠g (l-1+d))) b
   ⟨rfl,b,rfl,ER _,rfl,fun x h1 h2=>by omega⟩ ?_ ?_
  ·rintro m σ H' ⟨rfl,l,rfl,hl,rfl,hdown⟩
   walk_at "rd"
   by_cases h0:(0:Int)<(m:Int)
   ·rw[decide_eq_true h0]
    refine aC ?_
    walk_at "rd"
    refine aH (ag.of hp2) (dG (by omega) (by omega)) ?_
    walk_at "rd"
    refine aH (ag.of hp2) (dG (by omega) (by omega)) ?_
    walk_at "rd"
    rw[show ((m:Int)-1).toNat=m-1 by omega,show ((m:Int)-1+(d:Int)).toNat=m-1+d by omega]
    cases hc:g (m-1) == g (m-1+d)with
    | true=>
     refine aC ⟨_,fun _ _ h=>h,?_⟩
     walk_at "rd"
     refine⟨m-1,by omega,rfl,m-1,by rw[show ((m-1:Nat):Int)=(m:Int)-1 by omega];rfl,by omega,rfl,fun x h1 h2=>?_⟩
     rcases Nat.lt_or_ge x m with h3 | h3
     ·have:x=m-1:=by omega
      rw[this]
      exact eq_of_beq hc
     ·exact hdown x h3 h2
    | false=>exact aq ⟨rfl,m,rfl,hl,hdown,.inr fun h=>by rw[h]at hc;simp at hc⟩
   ·rw[decide_eq_false h0]
    exact aq (aq ⟨rfl,m,rfl,hl,hdown,.inl (by omega)⟩)
  rintro σ H' ⟨rfl,l,rfl,hl,hdown,hstop⟩
  have hleast:Least g d l:=De hper hn1 hd1 hal' hfirst' hl hdown hstop
  walk_at "rd"
  refine cG (by omega) ?_
  rw[EI]
  refine fm (fun i ys H3=>H3=H'/\ys=(row g 0 i).map V.int) (aB (by omega)) ⟨rfl,rfl⟩ ?_ ?_ ?_
  ·rintro i ys H3 _ ⟨rfl,rfl⟩
   rw[Ew];exact uJ g 0 i
  ·rintro i ys H3 hi ⟨rfl,hy⟩
   walk_at "rd"
   refine aH (ag.of hp2) (dG (by omega) (by omega)) ?_
   walk_at "rd"
   rw[show ((0:Int)+(i:Int)).toNat=i by omega]
   have e0:g (0+i)=g i:=by rw[Nat.zero_add]
   cases hg:g i with
   | true=>
    refine aC ?_
    walk_at "rd"
    refine⟨rfl,?_⟩
    rw[←sx hy (e0.trans hg)]
    congr 3
    all_goals omega
   | false=>exact aq ⟨rfl,rA hy (e0.trans hg)⟩
  rintro ys H3 p3 ⟨rfl,rfl⟩ hp3
  have e4:Ext H3 (upd H3 p3 (.lst ((row g 0 l).map V.int))):=bx hp3
  have h4:(upd H3 p3 (.lst ((row g 0 l).map V.int))) p3=_:=aL
  generalize upd H3 p3 (.lst ((row g 0 l).map V.int))=H4 at e4 h4
  have hp4:=e4 _ _ hp2
  walk_at "rd"
  refine nI (by omega) ?_
  rw[show ((l:Int)+(d:Int)-(l:Int)).toNat=d by omega]
  refine fm (fun i ys H5=>H5=H4/\ys=(row g l i).map V.int) (aB (by omega)) ⟨rfl,rfl⟩ ?_ ?_ ?_
  ·rintro i ys H5 _ ⟨rfl,rfl⟩
   rw[Ew];exact uJ g _ i
  ·rintro i ys H5 hi ⟨rfl,hy⟩
   walk_at "rd"
   refine aH (ag.of hp4) (dG (by omega) (by omega)) ?_
   walk_at "rd"
   rw[show ((l:Int)+(i:Int)).toNat=l+i by omega]
   cases hg:g (l+i)with
   | true=>
    refine aC ?_
    walk_at "rd"
    refine⟨rfl,?_⟩
    rw[←sx hy hg]
    congr 3
    all_goals omega
   | false=>exact aq ⟨rfl,rA hy hg⟩
  rintro ys H5 p5 ⟨rfl,rfl⟩ hp5
  have e6:Ext H5 (upd H5 p5 (.lst ((row g l d).map V.int))):=bx hp5
  have h6:(upd H5 p5 (.lst ((row g l d).map V.int))) p5=_:=aL
  generalize upd H5 p5 (.lst ((row g l d).map V.int))=H6 at e6 h6
  walk_at "rd"
  refine kH (ag.of (e6 _ _ h4)) (aE fun t1 H7 e7 ht1 _=>?_)
  walk_at "rd"
  refine kH (ag.of (e7 _ _ h6)) (aE fun t2 H8 e8 ht2 _=>?_)
  walk_at "rd"
  refine⟨aB (by simp),aE fun t H9 e9 ht _=>?_⟩
  exact q _ l d H9 (e02.trans (e4.trans (e6.trans (e7.trans (e8.trans e9))))) hleast hl hd2 ⟨t,t1,t2,rfl,ht,e9 _ _ (e8 _ _ ht1),e9 _ _ ht2⟩
open Classical in
def gU(n:Nat)(R:Nat->Nat->Prop)(f:Nat->Bool):Nat->Bool:=fun j=>decide (∃i,i<n/\f i=true/\R i j)
theorem iX{n:Nat}{R:Nat->Nat->Prop}{f:Nat->Bool}{j:Nat}:gU n R f j=true↔∃i,i<n/\f i=true/\R i j:=by
 unfold gU
 simp
def bp(n:Nat)(R:Nat->Nat->Prop)(f:Nat->Bool):Nat->Nat->Bool
 | 0=>f
 | k+1=>gU n R (bp n R f k)
def dN(n:Nat)(f g:Nat->Bool):Prop:=∀j,j<n->f j=g j
theorem yp{n:Nat}{R:Nat->Nat->Prop}{f g:Nat->Bool}(h:dN n f g):dN n (gU n R f) (gU n R g):=fun j _=>by
 rw[E8,iX,iX]
 constructor
 ·rintro⟨i,hi,h1,h2⟩
  exact⟨i,hi,by rw[←h i hi];exact h1,h2⟩
 ·rintro⟨i,hi,h1,h2⟩
  exact⟨i,hi,by rw[h i hi];exact h1,h2⟩
theorem tD{n:Nat}{R:Nat->Nat->Prop}{f:Nat->Bool}{a k:Nat}(h:dN n (bp n R f a) (bp n R f k)):∀t,dN n (bp n R f (a+t)) (bp n R f (k+t))
 | 0=>h
 | t+1=>yp (tD h t)
def dU(f:Nat->Bool):Nat->Nat
 | 0=>0
 | n+1=>dU f n+if f n then 2 ^ n else 0
theorem kE(f:Nat->Bool):∀n,dU f n<2 ^ n
 | 0=>by simp[dU]
 | n+1=>by
  have:=kE f n
  have h2:2 ^ (n+1)=2 ^ n+2 ^ n:=by rw[Nat.pow_succ];omega
  show dU f n+(if f n then 2 ^ n else 0)<_
  split<;>omega
theorem rj{f g:Nat->Bool}:∀n,dU f n=dU g n->dN n f g
 | 0,_=>fun j hj=>absurd hj (Nat.not_lt_zero _)
 | n+1,h=>by
  have h1:=kE f n
  have h2:=kE g n
  have h':dU f n+(if f n then 2 ^ n else 0)=dU g n+(if g n then 2 ^ n else 0):=h
  have key:f n=g n/\dU f n=dU g n:=by
   cases hf:f n<;>cases hg:g n<;>simp[hf,hg]at h' ⊢<;>omega
  intro j hj
  by_cases hjn:j<n
  ·exact rj n key.2 j hjn
  ·have:j=n:=by omega
   subst this
   exact key.1
theorem se{n k:Nat}{F:Nat->Nat->Bool}(hn:n<=12)(h:∀a b,a<b->b<k->¬dN n (F a) (F b)):k<=4096:=by
 have h1:=Bfs.j5 4096 ((List.range k).map fun a=>dU (F a) n) (by
  rw[List.nodup_iff_pairwise_ne,List.pairwise_map,List.pairwise_iff_getElem]
  intro i j hi hj hij e
  simp at hi hj e
  exact h i j hij hj (rj n e)) (fun x hx=>by
  obtain⟨a,_,rfl⟩:=List.mem_map.mp hx
  exact E3 (kE (F a) n) (E4 (Nat.pow_le_pow_right (by omega) hn) (by decide)))
 simpa using h1
def fh(n:Nat)(R:Nat->Nat->Prop)(top:Nat)(M:Nat->Nat->Bool):Nat->Nat->Bool:=fun i=>if i<top then M i else bp n R (M top) (i-top)
theorem AG{α:Type}{xs:List α}{k:Nat}(h:xs.length=k+1){v:α}(hv:xs[k]?=some v):bq xs (-1)=some v:=by
 unfold bq dD
 rw[h,if_neg (by omega),if_pos (by omega)]
 show xs[(-1+((k+1:Nat):Int)).toNat]?=some v
 rw[show (-1+((k+1:Nat):Int)).toNat=k by omega]
 exact hv
theorem DA{xs:List V}{k:Nat}(h:xs.length=k+1):cg xs none (some (-1))=xs.take k:=by
 unfold cg
 have e1:HT.aN xs.length xs.length (some (-1))=k:=by
  show(if(-1:Int)<0 then(-1+(xs.length:Int)).toNat else min (-1:Int).toNat xs.length)=_
  rw[if_pos (by decide)]
  omega
 have e2:HT.aN xs.length 0 none=0:=rfl
 rw[e1,e2]
 simp
theorem o6{H:Hp}{n:Nat}:∀{hs:List Addr} {F:Nat->Nat->Bool},(∀(a:Nat) (r:Addr),hs[a]?=some r->H r=some (.lst (aR n (F a))))->Paired (aW H 1) (List.map V.ref hs) ((List.range hs.length).map fun a=>PyData.list (dB n (F a)))
 | [],_,_=>.nil
 | r::hs,F,h=>by
  rw[EY,List.range_succ_eq_map,List.map_cons,List.map_cons,List.map_map]
  exact .cons (iK (h 0 r rfl)) (o6 (F:=fun a=>F (a+1)) fun a r' hr=>h (a+1) r' (by simpa using hr))
def sf(K:Eo):Sp:=fun vs H Q _=>∃vh m ws pa x,vs=[vh,.ref pa]/\bf H vh m ws/\HOuse m ws/\ax H pa x/\dA m x/\fD K/\Tbs K H/\∀p lq rs (b N:Nat) M H',Et H H'->Tbs K H'->H' p=some (.tup [.ref lq,.int (b:Nat)])->Rows H' lq rs m.toNat (fh m.toNat (bj ws m.toNat) x.2.toNat M)->rs.length=b+N->1<=N->b+N<=5200->(∀r,r<m.toNat->bD (fun i=>fh m.toNat (bj ws m.toNat) x.2.toNat M i r) b N) →
 (∀i r:Nat,(i:Int)<=x.2->(r:Int)<m->(M i r=true↔∃n,Bfs.Rw (LB ws m.toNat x.2) n x ((r:Int),(i:Int))))->Q (.ref p) H'
abbrev jE:Stmt:=stq 42
theorem tH:FnScope ["house","place","rises","low","high","level"] ["house","place"] (aK jE):=⟨rfl,rfl,rfl,by decide +kernel,rfl,by decide +kernel,by decide +kernel⟩
theorem zW{P:Program}{w:World}{K:Eo}{mg:Str->Option Value}{base:Heap}(D:Dfn K mg "all_levels" jE ["house","place"])(T:Blt mg)(C_next_level:Cal P w K mg base "next_level" 1 ["rises","level"] (xq K))(C_low_levels:Cal P w K mg base "low_levels" 8 ["house","place"] (nk K))(C_risen:Cal P w K mg base "risen" 7 ["house"] (mM K)):Cal P w K mg base "all_levels" 9 ["house","place"] (sf K):=by
 have nd:=(tH).nd
 refine D.ok tH (fun vs H Q E h=>?_) (fun X hX H vs Q E h=>?_)
 ·obtain⟨vh,m,ws,pa,x,rfl,_⟩:=h;rfl
 ·obtain⟨f,cdv,A,outer,s,H0,E0,rfl,hr⟩:=hX
  obtain⟨vh,m,ws,pa,x,rfl,hv,ok,hpx,ix,dis,htb,q⟩:=h
  have m1:=ok.m1
  have m12:=ok.m12
  obtain⟨i0,i1,i2,i3⟩:=id ix
  refine⟨_,(aj (aG (i:=2) nd rfl (Or.inl rfl) (aD C_risen hr (aa (pv 0) ae)))
    (aj (aG (i:=3) nd rfl (Or.inl rfl) (aD C_low_levels hr (aa (pv 0) (aa (pv 1) ae))))
    (aj (aG (i:=4) nd rfl (Or.inl rfl) (bz (aa (ai (aI K) (pv 3) (gW gY af) (fun _ _=>rfl)) ae)))
    (aj (aG (i:=5) nd rfl (Or.inl rfl) (aD C_next_level hr (aa (pv 2) (aa (ai (aI K) (pv 3) (gW gY af) (fun _ _=>rfl)) ae))))
    (aj (gH PassesOwn.never (aT (uj hr) (pv 5) (pv 4) (by with_unfolding_all rfl)) (aj (bo (bG K ED ES ET bO (pv 4) (aa (pv 5) ae)))
    (ao (aG (i:=5) nd rfl (Or.inl rfl) (aD C_next_level hr (aa (pv 2) (aa (pv 5) ae)))))))
    (ao (aF (bA (aa (av mG (g7 (iI K) (pv 3) jo (fG (gW gY af))) (pv 4)) (aa (av aU (ai (aA K) (pv 1) af (fun _ _=>rfl)) (bG K ED PySem.F.slot_list_index PySem.F.type_list_index (B5 hr) (pv 4) (aa (pv 5) ae))) ae)))))))))),?_⟩
  walk_at "rd"
  refine⟨vh,m,ws,rfl,hv,ok,dis,htb,fun rl H1 e1 tb1 prs=>?_⟩
  walk_at "rd"
  refine⟨vh,m,ws,pa,x,rfl,hv.et e1,ok,hpx.et e1,ix,dis,tb1,fun lq rs M H2 e2 tb2 rows hrl hM=>?_⟩
  have prs2:=prs.et e2
  have hpx2:=(hpx.et e1).et e2
  have hrl':rs.length=x.2.toNat+1:=by omega
  have hlast:rs[x.2.toNat]?=some rs[x.2.toNat]:=Ex (by omega)
  generalize rs[x.2.toNat]=r0 at hlast
  have hr0:=rows.2 _ _ hlast
  have hat:bq (List.map V.ref rs) (-1)=some (.ref r0):=AG (k:=x.2.toNat) (by rw[Ew];exact hrl') (by rw[Ey,hlast];rfl)
  walk_at "rd"
  refine aH (ag.of rows.1) hat ?_
  walk_at "rd"
  refine⟨aB (by simp),aE fun hq H3 e3 hhq hhn=>?_⟩
  walk_at "rd"
  refine aH (ag.of (e3 _ _ rows.1)) hat ?_
  walk_at "rd"
  refine⟨rl,r0,m.toNat,_,_,rfl,prs2.et e3.et,e3 _ _ hr0,by omega,fun lv g H4 e4 hln hl4 hg=>?_⟩
  have e24:=e3.trans e4
  have hl4':H4 lv=some (.lst (aR m.toNat (bp m.toNat (bj ws m.toNat) (M x.2.toNat) 1))):=by
   rw[hl4]
   congr 2
   exact dY fun j hj=>by
    rw[E8]
    exact(hg j hj).trans iX.symm
  clear hl4 hg
  walk_at "rd"
  refine gh (fun mm σ H'=>∃hs lv k,Ext H2 H'/\H' hq=some (.lst (List.map V.ref hs))/\hs.length=k+1/\(∀(a:Nat) (r:Addr),hs[a]?=some r->H' r=some (.lst (aR m.toNat (bp m.toNat (bj ws m.toNat) (M x.2.toNat) a))))/\(∀a b,a<b->b<k+1->¬dN m.toNat (bp m.toNat (bj ws m.toNat) (M x.2.toNat) a) (bp m.toNat (bj ws m.toNat) (M x.2.toNat) b))/\H' lv=some (.lst (aR m.toNat (bp m.toNat (bj ws m.toNat) (M x.2.toNat) (k+1))))/\mm=4097-k/\σ=[some vh,some (.ref pa),some (.ref rl),some (.ref lq),some (.ref hq),some (.ref lv)])
   (fun σ H'=>∃hs lv k a,Ext H2 H'/\H' hq=some (.lst (List.map V.ref hs))/\hs.length=k+1/\(∀(a:Nat) (r:Addr),hs[a]?=some r->H' r=some (.lst (aR m.toNat (bp m.toNat (bj ws m.toNat) (M x.2.toNat) a))))/\(∀a b,a<b->b<k+1->¬dN m.toNat (bp m.toNat (bj ws m.toNat) (M x.2.toNat) a) (bp m.toNat (bj ws m.toNat) (M x.2.toNat) b))/\H' lv=some (.lst (aR m.toNat (bp m.toNat (bj ws m.toNat) (M x.2.toNat) (k+1))))/\a<k+1/\dN m.toNat (bp m.toNat (bj ws m.toNat) (M x.2.toNat) a) (bp m.toNat (bj ws m.toNat) (M x.2.toNat) (k+1))/\k+1<=4096/\σ=[some vh,some (.ref pa),some (.ref rl),some (.ref lq),some (.ref hq),some (.ref lv)])
   4097 ⟨[r0],lv,0,e24,e4 _ _ hhq,rfl,fun a r ha=>by
    cases a with
    | zero=>cases ha;exact e24 _ _ hr0
    | succ a=>simp at ha,fun a b h1 h2=>by omega,hl4',rfl,rfl⟩ ?_ ?_
  ·rintro mm σ H5 ⟨hs,lv,k,e5,hq5,hsl,hrow,hun,hlv,rfl,rfl⟩
   have hk:=se (F:=bp m.toNat (bj ws m.toNat) (M x.2.toNat)) (show m.toNat<=12 by omega) hun
   have hrep:=o6 hrow
   walk_at "rd"
   refine rf (iK hlv) hq5 hrep (by omega) ?_
   have hany:((List.range hs.length).map fun a=>PyData.list (dB m.toNat (bp m.toNat (bj ws m.toNat) (M x.2.toNat) a))).any (fun e=>PyData.eqv e (.list (dB m.toNat (bp m.toNat (bj ws m.toNat) (M x.2.toNat) (k+1)))))=true↔∃a,a<k+1/\dN m.toNat (bp m.toNat (bj ws m.toNat) (M x.2.toNat) a) (bp m.toNat (bj ws m.toNat) (M x.2.toNat) (k+1)):=by
    rw[List.any_map,E7,hsl]
    constructor
    ·rintro⟨a,ha,he⟩
     exact⟨a,List.mem_range.mp ha,iC.mp he⟩
    ·rintro⟨a,ha,he⟩
     exact⟨a,List.mem_range.mpr ha,iC.mpr he⟩
   generalize ((List.range hs.length).map fun a=>PyData.list (dB m.toNat (bp m.toNat (bj ws m.toNat) (M x.2.toNat) a))).any (fun e=>PyData.eqv e (.list (dB m.toNat (bp m.toNat (bj ws m.toNat) (M x.2.toNat) (k+1)))))=bb at hany ⊢
   cases bb with
   | true=>
    obtain⟨a,ha,hsame⟩:=hany.mp rfl
    refine⟨_,rfl,aq ?_⟩
    exact⟨hs,lv,k,a,e5,hq5,hsl,hrow,hun,hlv,ha,hsame,hk,rfl⟩
   | false=>
    have hno:∀a,a<k+1->¬dN m.toNat (bp m.toNat (bj ws m.toNat) (M x.2.toNat) a) (bp m.toNat (bj ws m.toNat) (M x.2.toNat) (k+1)):=fun a ha hs=>by
     have:=hany.mpr ⟨a,ha,hs⟩
     cases this
    have hun2:∀a b,a<b->b<k+1+1->¬dN m.toNat (bp m.toNat (bj ws m.toNat) (M x.2.toNat) a) (bp m.toNat (bj ws m.toNat) (M x.2.toNat) b):=fun a b hab hb=>by
     by_cases hbk:b<k+1
     ·exact hun a b hab hbk
     ·have:b=k+1:=by omega
      subst this
      exact hno a hab
    have hk2:=se (F:=bp m.toNat (bj ws m.toNat) (M x.2.toNat)) (show m.toNat<=12 by omega) hun2
    refine⟨_,rfl,aC ⟨fun σ' H'=>∃hs lv,Ext H2 H'/\H' hq=some (.lst (List.map V.ref hs))/\hs.length=k+1+1/\(∀(a:Nat) (r:Addr),hs[a]?=some r->H' r=some (.lst (aR m.toNat (bp m.toNat (bj ws m.toNat) (M x.2.toNat) a))))/\H' lv=some (.lst (aR m.toNat (bp m.toNat (bj ws m.toNat) (M x.2.toNat) (k+1+1))))/\σ'=[some vh,some (.ref pa),some (.ref rl),some (.ref lq),some (.ref hq),some (.ref lv)],fun σ' H' ⟨hs,lv,a1,a2,a3,a4,a5,a6⟩=>⟨4097-(k+1),by omega,hs,lv,k+1,a1,a2,a3,a4,hun2,a5,rfl,a6⟩,?_⟩⟩
    have nqr:∀r∈hs++[lv],r≠hq:=fun r hr z=>by
     have hb:∃f,H5 r=some (.lst (aR m.toNat f)):=by
      rcases EU.mp hr with h | h
      ·obtain⟨j,hj⟩:=List.getElem?_of_mem h
       exact⟨_,hrow j r hj⟩
      ·rw[EG.mp h]
       exact⟨_,hlv⟩
     obtain⟨f,hb⟩:=hb
     rw[z,hq5]at hb
     have h2:List.map V.ref hs=aR m.toNat f:=by
      injection hb with hb
      injection hb
     have h3:=congrArg (fun z:List V=>z[0]?) h2
     try dsimp only at h3
     rw[fg _ (by omega),Ey]at h3
     cases y:hs[0]? with
     | none=>rw[y]at h3;cases h3
     | some a=>rw[y]at h3;cases h3
    walk_at "rd"
    refine⟨cS (ag.of hq5),?_⟩
    walk_at "rd"
    refine bN hq5 (fU (by rw[Ew];omega)) ?_
    have hn2:H2 hq=none:=hhn
    have e6:=cx (o:=.lst (List.map V.ref hs++[.ref lv])) e5 hn2
    have keep:∀b o,b≠hq->H5 b=some o->upd H5 hq (.lst (List.map V.ref hs++[.ref lv])) b=some o:=fun b o nb e=>by rw[az nb];exact e
    have hq6:upd H5 hq (.lst (List.map V.ref hs++[.ref lv])) hq=some (.lst (List.map V.ref (hs++[lv]))):=by rw[aL,EM];rfl
    have hlv6:=keep lv _ (nqr lv (by simp)) hlv
    have hrow6:∀(a:Nat) (r:Addr),(hs++[lv])[a]?=some r->upd H5 hq (.lst (List.map V.ref hs++[.ref lv])) r=some (.lst (aR m.toNat (bp m.toNat (bj ws m.toNat) (M x.2.toNat) a))):=fun a r ha=>by
     by_cases hal:a<hs.length
     ·rw[EW hal]at ha
      exact keep r _ (nqr r (List.mem_append_left _ (EF ha))) (hrow a r ha)
     ·rw[EV (by omega)]at ha
      have hz:a-hs.length=0:=by
       have:=(EE.mp ha).1
       simp at this
       omega
      rw[hz]at ha
      cases ha
      have:a=k+1:=by omega
      subst this
      exact hlv6
    generalize upd H5 hq (.lst (List.map V.ref hs++[.ref lv]))=H6 at e6 hq6 hlv6 hrow6 ⊢
    walk_at "rd"
    refine⟨rl,lv,m.toNat,_,_,rfl,prs2.et e6.et,hlv6,by omega,fun lv2 g2 H7 e7 _ hl7 hg2=>?_⟩
    walk_at "rd"
    refine⟨hs++[lv],lv2,e6.trans e7,e7 _ _ hq6,by rw[EN,hsl];rfl,fun a r ha=>e7 _ _ (hrow6 a r ha),?_,rfl⟩
    rw[hl7]
    congr 2
    exact dY fun j hj=>by
     rw[E8]
     exact(hg2 j hj).trans iX.symm
  ·rintro σ H5 ⟨hs,lv,k,a,e5,hq5,hsl,hrow,hun,hlv,ha,hsame,hk,rfl⟩
   have rows5:=rows.ext e5
   walk_at "rd"
   refine iY (ag.of rows5.1) (aE fun lo H6 e6 hlo _=>?_)
   rw[DA (k:=x.2.toNat) (by rw[Ew];exact hrl')]at hlo
   walk_at "rd"
   refine nL hlo (e6 _ _ hq5) (aB (by simp;omega)) (aE fun ll H7 e7 hll _=>?_)
   have e57:=e6.trans e7
   walk_at "rd"
   refine ay (ah.of (e57 _ _ (e5 _ _ hpx2))) (v:=.int x.2) rfl ?_
   walk_at "rd"
   have hrow7:∀(a:Nat) (r:Addr),hs[a]?=some r->H7 r=some (.lst (aR m.toNat (bp m.toNat (bj ws m.toNat) (M x.2.toNat) a))):=fun a r h=>e57 _ _ (hrow a r h)
   refine⟨cS (ag.of (e57 _ _ hq5)),?_⟩
   walk_at "rd"
   refine⟨1,hq,_,.ref lv,_,_,a,rfl,rfl,iK (e57 _ _ hlv),e57 _ _ hq5,o6 hrow7,by omega,⟨_,by rw[Ey,List.getElem?_range (by omega)];rfl,iC.mpr hsame⟩,fun b e hb he=>?_,by omega,?_⟩
   ·rw[Ey,List.getElem?_range (by omega)]at he
    cases he
    rw[Bool.eq_false_iff]
    intro hc
    have:=iC.mp hc
    exact hun b a hb ha fun j hj=>(this j hj).trans (hsame j hj).symm
   walk_at "rd"
   refine⟨aB (by simp),aE fun pp H8 e8 hpp _=>?_⟩
   have e28:=e5.trans (e57.trans e8)
   refine q pp ll (rs.take x.2.toNat++hs) (x.2.toNat+a) (k+1-a) M H8 ((e1.trans e2).trans e28.et) (tb2.ext e28) ?_ ⟨?_,fun i r hi=>?_⟩ ?_ (by omega) (by omega) (fun r hr=>?_) hM
   ·rw[hpp]
    congr 3
    congr 2
    omega
   ·rw[e8 _ _ hll,EM,List.map_take]
   ·unfold fh
    by_cases hix:i<x.2.toNat
    ·rw[if_pos hix]
     rw[EW (by rw[List.length_take];omega),List.getElem?_take_of_lt hix]at hi
     exact e28 _ _ (rows.2 i r hi)
    ·rw[if_neg hix]
     rw[EV (by rw[List.length_take];omega),List.length_take,show i-min x.2.toNat rs.length=i-x.2.toNat by omega]at hi
     exact e8 _ _ (hrow7 _ _ hi)
   ·rw[EN,List.length_take]
    omega
   ·intro i hi
    show fh _ _ _ _ (i+(k+1-a)) r=fh _ _ _ _ i r
    unfold fh
    rw[if_neg (by omega),if_neg (by omega)]
    have hp:=tD hsame (i-x.2.toNat-a) r hr
    rw[show a+(i-x.2.toNat-a)=i-x.2.toNat by omega,show k+1+(i-x.2.toNat-a)=i+(k+1-a)-x.2.toNat by omega]at hp
    exact hp.symm
def cY(ws:List Way)(a b:Bfs.Pl):Prop:=∃w∈ws,bW w a.1 a.2=true/\b=(w.other,a.2+rz w.deed)
def b6(ws:List Way)(x y:Bfs.Pl):Prop:=∃n,Bfs.Rw (cY ws) n x y
theorem fY{w:Way}{r n:Int}(hr:w.room=r)(h:w.deed = "up"\/w.deed = "stay"\/(w.deed = "down"/\0<n)\/(w.deed = "zero"/\n=0)):bW w r n=true:=by
 unfold bW
 rw[decide_eq_true hr,Bool.true_and]
 rcases h with h | h | ⟨h,hn⟩ | ⟨h,hn⟩
 ·rw[h,if_neg (by decide +kernel)]
  have:decide ((Str.ofString "up") = "zero")=false:=by decide +kernel
  rw[this]
  rfl
 ·rw[h,if_neg (by decide +kernel)]
  have:decide ((Str.ofString "stay") = "zero")=false:=by decide +kernel
  rw[this]
  rfl
 ·rw[h,if_pos (by decide +kernel)]
  exact decide_eq_true hn
 ·rw[h,if_neg (by decide +kernel),hn]
  simp
theorem fQ{w:Way}{r n:Int}(hd:bR w.deed)(h:bW w r n=true):(w.deed = "up"/\rz w.deed=1)\/(w.deed = "stay"/\rz w.deed=0)\/(w.deed = "down"/\0<n/\rz w.deed = -1)\/(w.deed = "zero"/\n=0/\rz w.deed=0):=by
 unfold bW at h
 rw[E9]at h
 rcases hd with hd | hd | hd | hd
 ·exact .inl ⟨hd,by rw[hd];exact ji⟩
 ·rw[hd,if_pos (by decide +kernel)]at h
  exact .inr (.inr (.inl ⟨hd,of_decide_eq_true h.2,by rw[hd];exact jT⟩))
 ·exact .inr (.inl ⟨hd,by rw[hd];exact jO⟩)
 ·rw[hd,if_neg (by decide +kernel)]at h
  have h2:decide ((Str.ofString "zero") = "zero")=true:=by decide +kernel
  rw[h2]at h
  refine .inr (.inr (.inr ⟨hd,?_,by rw[hd];exact n6⟩))
  simpa using h.2
theorem b6.refl{ws:List Way}{x:Bfs.Pl}:b6 ws x x:=⟨0,.nil⟩
theorem b6.trans{ws:List Way}{x y z:Bfs.Pl}(h:b6 ws x y)(g:b6 ws y z):b6 ws x z:=by
 obtain⟨n,h⟩:=h
 obtain⟨k,g⟩:=g
 exact⟨n+k,h.trans g⟩
theorem b6.one{ws:List Way}{x y:Bfs.Pl}(h:cY ws x y):b6 ws x y:=⟨1,.snoc .nil h⟩
section
variable {m:Int} {ws:List Way} (ok:∀w∈ws,w.Ok m)
include ok
theorem eM{a b:Bfs.Pl}(h:cY ws a b)(ha:0<=a.2):0<=b.1/\b.1<m/\0<=b.2/\b.2<=a.2+1/\a.2<=b.2+1:=by
 obtain⟨w,hw,ho,rfl⟩:=h
 have okw:=ok w hw
 refine⟨okw.o0,okw.o1,?_⟩
 rcases fQ okw.dd ho with⟨_,h⟩ | ⟨_,h⟩ | ⟨_,h1,h⟩ | ⟨_,h1,h⟩<;>(show 0<=a.2+rz w.deed/\a.2+rz w.deed<=a.2+1/\a.2<=a.2+rz w.deed+1;omega)
theorem wN{i j:Nat}(h:Kpt ws m.toNat i j):∀L:Int,0<=L->b6 ws ((i:Int),L) ((j:Int),L):=by
 induction h with
 | refl _=>exact fun _ _=>.refl
 | @stay w hw hd=>
  intro L _
  have okw:=ok w hw
  have r0:=okw.r0
  have o0:=okw.o0
  refine .one ⟨w,hw,fY (by show w.room=((w.room.toNat:Nat):Int);omega) (.inr (.inl hd)),?_⟩
  rw[hd,jO]
  exact Prod.ext (by show((w.other.toNat:Nat):Int)=w.other;omega) (by show L=L+0;omega)
 | trans _ _ h1 h2=>exact fun L hL=>(h1 L hL).trans (h2 L hL)
 | @arch u d hu hud hd hdd _ ih=>
  intro L hL
  have oku:=ok u hu
  have okd:=ok d hd
  have u0:=oku.r0
  have u1:=oku.o0
  have d0:=okd.r0
  have d1:=okd.o0
  have s1:cY ws (((u.room.toNat:Nat):Int),L) (((u.other.toNat:Nat):Int),L+1):=⟨u,hu,fY (by show u.room=((u.room.toNat:Nat):Int);omega) (.inl hud),by rw[hud,ji];exact Prod.ext (by show((u.other.toNat:Nat):Int)=u.other;omega) rfl⟩
  have s2:cY ws (((d.room.toNat:Nat):Int),L+1) (((d.other.toNat:Nat):Int),L):=⟨d,hd,fY (by show d.room=((d.room.toNat:Nat):Int);omega) (.inr (.inr (.inl ⟨hdd,by omega⟩))),by rw[hdd,jT];exact Prod.ext (by show((d.other.toNat:Nat):Int)=d.other;omega) (by show L=L+1 + -1;omega)⟩
  exact((b6.one s1).trans (ih (L+1) (by omega))).trans (.one s2)
theorem ug:∀(n:Nat) (w:Nat->Bfs.Pl) (i:Nat) (L:Int),1<=L->(∀k,i<=k->k<i+n->cY ws (w k) (w (k+1)))->(∀k,i<=k->k<=i+n->L<=(w k).2)->(w i).2=L->(w (i+n)).2=L->0<=(w i).1->(w i).1<m->Kpt ws m.toNat (w i).1.toNat (w (i+n)).1.toNat:=by
 intro n
 induction n using Nat.strongRecOn with
 | ind n ih=>
  intro w i L hL hS hh h0 h1 r0 r1
  cases n with
  | zero=>exact .refl (by show(w i).1.toNat<m.toNat;omega)
  | succ n=>
   have s0:=hS i (ER _) (by omega)
   have in1:=eM ok s0 (by omega)
   obtain⟨v,hv,ho,hw1⟩:=id s0
   have okv:=ok v hv
   have hroom:=fK ho
   have e1:(w (i+1)).1=v.other:=by rw[hw1]
   have e2:(w (i+1)).2=(w i).2+rz v.deed:=by rw[hw1]
   have hge:=hh (i+1) (by omega) (by omega)
   rcases fQ okv.dd ho with⟨hd,hz⟩ | ⟨hd,hz⟩ | ⟨hd,_,hz⟩ | ⟨hd,h00,hz⟩
   ·obtain⟨d,hd1,hd2,hd3,hd4⟩:=Bfs.sI (h:=fun k=>(w k).2) (l:=L) (P:=i+1) (n:=i+(n+1)) (by omega) (fun k hk1 hk2=>(eM ok (hS k (by omega) hk2) (by have:=hh k (by omega) (by omega);omega)).2.2.2.2) (by show(w (i+(n+1))).2<=L;omega) (by show L<=(w (i+1)).2;omega)
    try dsimp only at hd3 hd4
    have hdi:d≠i+1:=fun z=>by rw[z]at hd3;omega
    have sd:=hS (d-1) (by omega) (by omega)
    rw[show d-1+1=d by omega]at sd
    obtain⟨v2,hv2,ho2,hw2⟩:=id sd
    have okv2:=ok v2 hv2
    have hroom2:=fK ho2
    have f1:(w d).1=v2.other:=by rw[hw2]
    have f2:(w d).2=(w (d-1)).2+rz v2.deed:=by rw[hw2]
    have hgt:=hd4 (d-1) (by omega) (by omega)
    have hdown:v2.deed = "down"/\rz v2.deed = -1:=by
     rcases fQ okv2.dd ho2 with⟨_,hz⟩ | ⟨_,hz⟩ | ⟨hd,_,hz⟩ | ⟨_,_,hz⟩
     ·omega
     ·omega
     ·exact⟨hd,hz⟩
     ·omega
    have inner:=ih (d-1-(i+1)) (by omega) w (i+1) (L+1) (by omega) (fun k hk1 hk2=>hS k (by omega) (by omega)) (fun k hk1 hk2=>by have:=hd4 k hk1 (by omega);omega) (by omega) (by rw[show i+1+(d-1-(i+1))=d-1 by omega];omega) in1.1 in1.2.1
    rw[show i+1+(d-1-(i+1))=d-1 by omega,e1,←hroom2]at inner
    have ar:=Kpt.arch hv hd hv2 hdown.1 inner
    rw[hroom,←f1]at ar
    have ind:=eM ok sd (by omega)
    have rest:=ih (i+(n+1)-d) (by omega) w d L hL (fun k hk1 hk2=>hS k (by omega) (by omega)) (fun k hk1 hk2=>hh k (by omega) (by omega)) hd3 (by rw[show d+(i+(n+1)-d)=i+(n+1) by omega];exact h1) ind.1 ind.2.1
    rw[show d+(i+(n+1)-d)=i+(n+1) by omega]at rest
    exact .trans ar rest
   ·have rest:=ih n (by omega) w (i+1) L hL (fun k hk1 hk2=>hS k (by omega) (by omega)) (fun k hk1 hk2=>hh k (by omega) (by omega)) (by omega) (by rw[show i+1+n=i+(n+1) by omega];exact h1) in1.1 in1.2.1
    rw[show i+1+n=i+(n+1) by omega,e1]at rest
    have st:=Kpt.stay (n:=m.toNat) hv hd
    rw[hroom]at st
    exact .trans st rest
   ·omega
   ·omega
theorem mL{w:Nat->Bfs.Pl}{n:Nat}(h0:0<=(w 0).1/\(w 0).1<m/\0<=(w 0).2)(hS:∀k,k<n->cY ws (w k) (w (k+1))):∀k,k<=n->0<=(w k).1/\(w k).1<m/\0<=(w k).2
 | 0,_=>h0
 | k+1,hk=>by
  have ih:=mL h0 hS k (by omega)
  have:=eM ok (hS k (by omega)) ih.2.2
  exact⟨this.1,this.2.1,this.2.2.1⟩
theorem Ba{top:Int}{x:Bfs.Pl}(ht:0<=top)(hx:bP m top x){k:Nat}{y:Bfs.Pl}(h:Bfs.Rw (LB ws m.toNat top) k x y):b6 ws x y/\bP m top y:=by
 induction h with
 | nil=>exact⟨.refl,hx⟩
 | @snoc n x y z _ hs ih=>
  obtain⟨hr,hy⟩:=ih hx
  rcases hs with⟨w,hw,ho,rfl,hle⟩ | ⟨hty,i,j,hk,hyi,rfl⟩
  ·have st:cY ws y (w.other,y.2+rz w.deed):=⟨w,hw,ho,rfl⟩
   have:=eM ok st hy.2.2.1
   exact⟨hr.trans (.one st),this.1,this.2.1,this.2.2.1,hle⟩
  ·have hlt:=Kpt.lt ok hk
   have hy2:y.2=top:=by have:=hy.2.2.2;omega
   have hs:=wN ok hk top ht
   have hye:y=((i:Int),top):=Prod.ext hyi hy2
   rw[←hye]at hs
   exact⟨hr.trans hs,by show(0:Int)<=(j:Int);omega,by show(j:Int)<m;omega,ht,Int.le_refl _⟩
theorem yL{top:Int}(ht:0<=top):∀(n:Nat) (w:Nat->Bfs.Pl),0<=(w 0).1->(w 0).1<m->(w 0).2=top->(∀k,k<n->cY ws (w k) (w (k+1)))->(w n).2<=top->∃k,Bfs.Rw (LB ws m.toNat top) k (w 0) (w n):=by
 intro n
 induction n using Nat.strongRecOn with
 | ind n ih=>
  intro w h00 h01 h02 hS hle
  cases n with
  | zero=>exact⟨0,.nil⟩
  | succ n=>
   have hin:=mL ok (w:=w) (n:=n+1) ⟨h00,h01,by omega⟩ hS
   have sn:=hS n (by omega)
   have inn:=eM ok sn (hin n (by omega)).2.2
   by_cases hz:(w n).2<=top
   ·obtain⟨k,hk⟩:=ih n (by omega) w h00 h01 h02 (fun k hk=>hS k (by omega)) hz
    obtain⟨v,hv,ho,he⟩:=sn
    exact⟨k+1,.snoc hk (.inl ⟨v,hv,ho,he,hle⟩)⟩
   ·obtain⟨u,hu,hul,hui⟩:=Bfs.iU (h:=fun k=>(w k).2) (l:=top) n (fun k hk=>(eM ok (hS k (by omega)) (hin k (by omega)).2.2).2.2.2.1) (by show(w 0).2<=top;omega) (by show top<=(w n).2;omega)
    try dsimp only at hul hui
    have hun:u≠n:=fun z=>by rw[z]at hul;omega
    have su:=hS u (by omega)
    have inu:=eM ok su (hin u (by omega)).2.2
    have hu1:=hui (u+1) (by omega) (by omega)
    obtain⟨v,hv,ho,hw1⟩:=id su
    obtain⟨v2,hv2,ho2,hw2⟩:=id sn
    have e1:(w (u+1)).1=v.other:=by rw[hw1]
    have e2:(w (u+1)).2=(w u).2+rz v.deed:=by rw[hw1]
    have f1:(w (n+1)).1=v2.other:=by rw[hw2]
    have f2:(w (n+1)).2=(w n).2+rz v2.deed:=by rw[hw2]
    have hup:v.deed = "up":=by
     rcases fQ (ok v hv).dd ho with⟨hd,_⟩ | ⟨_,hz⟩ | ⟨_,_,hz⟩ | ⟨_,_,hz⟩
     ·exact hd
     ·omega
     ·omega
     ·omega
    have hdn:v2.deed = "down":=by
     rcases fQ (ok v2 hv2).dd ho2 with⟨_,hz⟩ | ⟨_,hz⟩ | ⟨hd,_,_⟩ | ⟨_,_,hz⟩
     ·omega
     ·omega
     ·exact hd
     ·omega
    have hin1:=hin (u+1) (by omega)
    have inner:=ug ok (n-(u+1)) w (u+1) (top+1) (by omega) (fun k hk1 hk2=>hS k (by omega)) (fun k hk1 hk2=>by have:=hui k (by omega) (by omega);omega) (by omega) (by rw[show u+1+(n-(u+1))=n by omega];omega) hin1.1 hin1.2.1
    rw[show u+1+(n-(u+1))=n by omega,e1,←fK ho2]at inner
    have ar:=Kpt.arch hv hup hv2 hdn inner
    rw[fK ho,←f1]at ar
    obtain⟨k,hk⟩:=ih u (by omega) w h00 h01 h02 (fun k hk=>hS k (by omega)) (by omega)
    have hinu:=hin u (by omega)
    have hinn:=hin (n+1) (by omega)
    refine⟨k+1,.snoc hk (.inr ⟨by omega,_,_,ar,by omega,?_⟩)⟩
    exact Prod.ext (by show(w (n+1)).1=(((w (n+1)).1.toNat:Nat):Int);omega) (by show(w (n+1)).2=top;omega)
theorem zK{top:Int}{x:Bfs.Pl}(ht:0<=top)(hx:bP m top x)(hx2:x.2=top){y:Bfs.Pl}(hy:y.2<=top):(∃n,Bfs.Rw (LB ws m.toNat top) n x y)↔b6 ws x y:=by
 constructor
 ·rintro⟨n,h⟩
  exact(Ba ok ht hx h).1
 ·rintro⟨n,h⟩
  obtain⟨w,w0,wn,hS⟩:=h.fn
  have:=yL ok ht n w (by rw[w0];exact hx.1) (by rw[w0];exact hx.2.1) (by rw[w0];exact hx2) hS (by rw[wn];exact hy)
  rw[w0,wn]at this
  exact this
theorem BS{x:Bfs.Pl}(hx:0<=x.1/\x.1<m/\0<=x.2){i r:Nat}(hi:x.2<=(i:Int)):b6 ws x ((r:Int),((i+1:Nat):Int))↔∃p,p<m.toNat/\b6 ws x ((p:Int),(i:Int))/\bj ws m.toNat p r:=by
 constructor
 ·rintro⟨n,h⟩
  obtain⟨w,w0,wn,hS⟩:=h.fn
  have hin:=mL ok (w:=w) (n:=n) (by rw[w0];exact hx) hS
  have wn2:(w n).2=(i:Int)+1:=by rw[wn];show((i+1:Nat):Int)=_;omega
  obtain⟨u,hu,hul,hui⟩:=Bfs.iU (h:=fun k=>(w k).2) (l:=(i:Int)) n (fun k hk=>(eM ok (hS k hk) (hin k (by omega)).2.2).2.2.2.1) (by show(w 0).2<=(i:Int);rw[w0];exact hi) (by show(i:Int)<=(w n).2;omega)
  try dsimp only at hul hui
  have hun:u≠n:=fun z=>by rw[z]at hul;omega
  have su:=hS u (by omega)
  have hu1:=hui (u+1) (by omega) (by omega)
  obtain⟨v,hv,ho,hw1⟩:=id su
  have e1:(w (u+1)).1=v.other:=by rw[hw1]
  have e2:(w (u+1)).2=(w u).2+rz v.deed:=by rw[hw1]
  have hup:v.deed = "up"/\rz v.deed=1:=by
   rcases fQ (ok v hv).dd ho with⟨hd,hz⟩ | ⟨_,hz⟩ | ⟨_,_,hz⟩ | ⟨_,_,hz⟩
   ·exact⟨hd,hz⟩
   ·omega
   ·omega
   ·omega
  have hin1:=hin (u+1) (by omega)
  have hinu:=hin u (by omega)
  have inner:=ug ok (n-(u+1)) w (u+1) ((i:Int)+1) (by omega) (fun k hk1 hk2=>hS k (by omega)) (fun k hk1 hk2=>by have:=hui k (by omega) (by omega);omega) (by omega) (by rw[show u+1+(n-(u+1))=n by omega];exact wn2) hin1.1 hin1.2.1
  rw[show u+1+(n-(u+1))=n by omega,e1,show (w n).1.toNat=r by rw[wn];exact EI r]at inner
  refine⟨(w u).1.toNat,by omega,⟨u,?_⟩,v,hv,hup.1,by rw[fK ho],inner⟩
  have seg:=Bfs.iW (S:=cY ws) (w:=w) (i:=0) (j:=u) (by omega) (fun k _ hk=>hS k (by omega))
  rw[w0,Nat.sub_zero]at seg
  have hwu:w u=((((w u).1.toNat:Nat):Int),(i:Int)):=Prod.ext (by show(w u).1=(((w u).1.toNat:Nat):Int);omega) hul
  rw[hwu]at seg
  exact seg
 ·rintro⟨p,hp,hr,v,hv,hd,hroom,hk⟩
  have okv:=ok v hv
  have r0:=okv.r0
  have o0:=okv.o0
  have st:cY ws ((p:Int),(i:Int)) (((v.other.toNat:Nat):Int),(i:Int)+1):=⟨v,hv,fY (by show v.room=((p:Nat):Int);omega) (.inl hd),by rw[hd,ji];exact Prod.ext (by show((v.other.toNat:Nat):Int)=v.other;omega) rfl⟩
  have hs:=wN ok hk ((i:Int)+1) (by omega)
  have:=(hr.trans (.one st)).trans hs
  rw[show ((i+1:Nat):Int)=(i:Int)+1 by omega]
  exact this
theorem Ce{x:Bfs.Pl}(hx:0<=x.1/\x.1<m/\0<=x.2){M:Nat->Nat->Bool}(hM:∀i r:Nat,(i:Int)<=x.2->(r:Int)<m->(M i r=true↔∃n,Bfs.Rw (LB ws m.toNat x.2) n x ((r:Int),(i:Int)))):∀i r:Nat,r<m.toNat->(fh m.toNat (bj ws m.toNat) x.2.toNat M i r=true↔b6 ws x ((r:Int),(i:Int))):=by
 have hxT:bP m x.2 x:=⟨hx.1,hx.2.1,hx.2.2,Int.le_refl _⟩
 have low:∀i r:Nat,(i:Int)<=x.2->r<m.toNat->(M i r=true↔b6 ws x ((r:Int),(i:Int))):=fun i r hi hr=>(hM i r hi (by omega)).trans (zK ok hx.2.2 hxT rfl hi)
 have high:∀k r:Nat,r<m.toNat->(bp m.toNat (bj ws m.toNat) (M x.2.toNat) k r=true↔b6 ws x ((r:Int),((x.2.toNat+k:Nat):Int))):=by
  intro k
  induction k with
  | zero=>exact fun r hr=>low x.2.toNat r (by omega) hr
  | succ k ih=>
   intro r hr
   show gU _ _ _ r=true↔_
   rw[iX,show x.2.toNat+(k+1)=x.2.toNat+k+1 by omega,BS ok hx (by omega)]
   constructor
   ·rintro⟨i,hi,h1,h2⟩
    exact⟨i,hi,(ih i hi).mp h1,h2⟩
   ·rintro⟨i,hi,h1,h2⟩
    exact⟨i,hi,(ih i hi).mpr h1,h2⟩
 intro i r hr
 unfold fh
 by_cases hi:i<x.2.toNat
 ·rw[if_pos hi]
  exact low i r (by omega) hr
 ·rw[if_neg hi,high (i-x.2.toNat) r hr,show x.2.toNat+(i-x.2.toNat)=i by omega]
end
def sL(K:Eo):Sp:=fun vs H Q _=>∃lq rs m F b N r,vs=[.ref lq,.int (b:Nat),.int (r:Nat)]/\Rows H lq rs m F/\rs.length=b+N/\1<=N/\b+N<=20000/\r<m/\bD (fun i=>F i r) b N/\∀v (l d:Nat) H',Ext H H'->Least (fun i=>F i r) d l->l<=b->d<=N->eR H' v l d (row (fun i=>F i r) 0 l) (row (fun i=>F i r) l d)->Q v H'
abbrev jV:Stmt:=stq 43
theorem pH:FnScope ["levels","base","room"] ["levels","base","room"] (aK jV):=⟨rfl,rfl,rfl,by decide +kernel,rfl,by decide +kernel,by decide +kernel⟩
theorem zb{P:Program}{w:World}{K:Eo}{mg:Str->Option Value}{base:Heap}(D:Dfn K mg "stair_of_room" jV ["levels","base","room"])(T:Blt mg)(C_stair_of_marks:Cal P w K mg base "stair_of_marks" 2 ["marks","base"] (xC K)):Cal P w K mg base "stair_of_room" 3 ["levels","base","room"] (sL K):=by
 have nd:=(pH).nd
 refine D.ok pH (fun vs H Q E h=>?_) (fun X hX H vs Q E h=>?_)
 ·obtain⟨lq,rs,m,F,b,N,r,rfl,_⟩:=h;rfl
 ·obtain⟨f,cdv,A,outer,s,H0,E0,rfl,hr⟩:=hX
  obtain⟨lq,rs,m,F,b,N,r,rfl,rows,hrl,hN,hbN,hr',hper,q⟩:=h
  refine⟨_,(ao (aF (aD C_stair_of_marks hr (aa (cO ["level"] [2] (cw K (pv 0)) (fun _=>(aJ (i:=0) (show(["level","room"]:List Str).Nodup from by decide +kernel) rfl (Or.inl rfl) (Or.inr rfl))) (fun _=>dm) (fun _=>(ai (aI K) (pv 0) (pv 1) (fun _ _=>rfl)))) (aa (pv 1) ae))))),?_⟩
  walk_at "rd"
  refine cj (ag.of rows.1) ?_
  refine eZ (xs:=List.map V.ref rs) (fun i ys H'=>H'=H/\ys=aR i (fun i=>F i r)) (E4 (show(List.map V.ref rs).length<=20000 by rw[Ew];omega) (by decide)) ⟨rfl,rfl⟩ (fun i ys H' _ h=>⟨by rw[h.1];exact ag.of rows.1,by rw[h.2,cJ];exact ER _⟩) ?_ ?_
  ·rintro i v ys H1 hx ⟨rfl,rfl⟩
   rw[Ey]at hx
   obtain⟨a,ha,rfl⟩:=EH.mp hx
   have hrow:=rows.2 i a ha
   walk_at "rd"
   refine aC ?_
   walk_at "rd"
   refine aH (ag.of hrow) (dG (by omega) (by omega)) ?_
   rw[EI]
   refine⟨rfl,?_⟩
   rw[iH]
  ·rintro ys H1 p9 ⟨hH,rfl⟩ hp9
   subst hH
   rw[Ew,hrl]
   have e1:=bx (o:=.lst (aR (b+N) fun i=>F i r)) hp9
   have h9:(upd H1 p9 (.lst (aR (b+N) fun i=>F i r))) p9=_:=aL
   generalize upd H1 p9 (.lst (aR (b+N) fun i=>F i r))=H2 at e1 h9 ⊢
   walk_at "rd"
   exact⟨p9,b,N,_,rfl,hN,hbN,h9,hper,fun v l d H3 e3 hL hl hd hst=>q v l d H3 (e1.trans e3) hL hl hd hst⟩
def gy(H:Hp)(vs:List V)(m:Int)(ws:List Way)(x:Bfs.Pl):Prop:=(vs.length:Int)=m/\∀(r:Nat) (v:V),vs[r]?=some v->∃(F:Nat->Bool) (l d:Nat),eR H v l d (row F 0 l) (row F l d)/\Least F d l/\1<=d/\l+d<=5200/\∀i:Nat,F i=true↔b6 ws x ((r:Int),(i:Int))
theorem gy.ext{H H':Hp}(e:Ext H H'){vs:List V}{m:Int}{ws:List Way}{x:Bfs.Pl}(h:gy H vs m ws x):gy H' vs m ws x:=⟨h.1,fun r v hv=>by
 obtain⟨F,l,d,h1,h2⟩:=h.2 r v hv
 exact⟨F,l,d,h1.ext e,h2⟩⟩
def vn(K:Eo):Sp:=fun vs H Q _=>∃vh m ws pa x,vs=[vh,.ref pa]/\bf H vh m ws/\HOuse m ws/\ax H pa x/\dA m x/\fD K/\Tbs K H/\∀l xs H',Et H H'->Tbs K H'->H' l=some (.lst xs)->gy H' xs m ws x->Q (.ref l) H'
abbrev jG:Stmt:=stq 44
theorem rg:FnScope ["house","place","told"] ["house","place"] (aK jG):=⟨rfl,rfl,rfl,by decide +kernel,rfl,by decide +kernel,by decide +kernel⟩
theorem Bq{P:Program}{w:World}{K:Eo}{mg:Str->Option Value}{base:Heap}(D:Dfn K mg "forward" jG ["house","place"])(T:Blt mg)(C_stair_of_room:Cal P w K mg base "stair_of_room" 3 ["levels","base","room"] (sL K))(C_all_levels:Cal P w K mg base "all_levels" 9 ["house","place"] (sf K))(C_refuse_bad_places:Cal P w K mg base "refuse_bad_places" 3 ["house","places"] (m8 K))(C_refuse_no_house:Cal P w K mg base "refuse_no_house" 6 ["thing"] (iM K)):Cal P w K mg base "forward" 10 ["house","place"] (vn K):=by
 have nd:=(rg).nd
 refine D.ok rg (fun vs H Q E h=>?_) (fun X hX H vs Q E h=>?_)
 ·obtain⟨vh,m,ws,pa,x,rfl,_⟩:=h;rfl
 ·obtain⟨f,cdv,A,outer,s,H0,E0,rfl,hr⟩:=hX
  obtain⟨vh,m,ws,pa,x,rfl,hv,ok,hpx,ix,dis,htb,q⟩:=h
  have m1:=ok.m1
  have m12:=ok.m12
  refine⟨_,(aj (bo (aD C_refuse_no_house hr (aa (pv 0) ae)))
    (aj (bo (aD C_refuse_bad_places hr (aa (pv 0) (aa (bz (aa (pv 1) ae)) ae))))
    (aj (aG (i:=2) nd rfl (Or.inr rfl) (aD C_all_levels hr (aa (pv 0) (aa (pv 1) ae))))
    (ao (aF (cO ["room"] [2] (cI rfl T.range_ (aa (ai (aA K) (pv 0) af (fun _ _=>rfl)) ae)) (fun _=>(aJ (i:=0) (show(["room","told"]:List Str).Nodup from by decide +kernel) rfl (Or.inl rfl) (Or.inr rfl))) (fun _=>dm) (fun _=>(aD C_stair_of_room hr (aa (ai (aA K) (pv 1) af (fun _ _=>rfl)) (aa (ai (aA K) (pv 1) af (fun _ _=>rfl)) (aa (pv 0) ae))))))))))),?_⟩
  walk_at "rd"
  refine⟨vh,m,ws,rfl,hv,ok,fun H1 e1=>?_⟩
  obtain⟨hp0,hq0,hvr,hh,_⟩:=id (hv.ext e1)
  subst hvr
  walk_at "rd"
  refine⟨aB (by simp),aE fun pl H2 e2 hpl _=>?_⟩
  have e02:=e1.trans e2
  walk_at "rd"
  refine⟨hp0,.ref hq0,m,pl,[pa],[x],rfl,e2 _ _ hh,hpl,.cons (e02 _ _ hpx) .nil,fun y hy=>by rw[EG.mp hy];exact ix,?_⟩
  walk_at "rd"
  refine⟨.ref hp0,m,ws,pa,x,rfl,hv.ext e02,ok,e02 _ _ hpx,ix,dis,htb.ext e02,fun p lq rs b N M H3 e3 tb3 hp rows hrl hN hbN hper hM=>?_⟩
  have hiff:=Ce ok.ok ⟨ix.1,ix.2.1,ix.2.2.1⟩ hM
  generalize fh m.toNat (bj ws m.toNat) x.2.toNat M=F at rows hper hiff
  have hh3:H3 hp0=some (.tup [.int m,.ref hq0]):=e3 _ _ (e2 _ _ hh) (fun ps z=>by cases z)
  walk_at "rd"
  refine ay (ah.of hh3) (v:=.int m) rfl ?_
  walk_at "rd"
  refine cG (by omega) ?_
  refine fm (fun i ys H'=>Ext H3 H'/\ys.length=i/\∀(r:Nat) (v:V),ys[r]?=some v->∃(F:Nat->Bool) (l d:Nat),eR H' v l d (row F 0 l) (row F l d)/\Least F d l/\1<=d/\l+d<=5200/\∀i:Nat,F i=true↔b6 ws x ((r:Int),(i:Int))) (aB (by omega)) ⟨Ext.rfl' _,rfl,fun r v h=>by simp at h⟩ (fun i ys H' _ h=>Nat.le_of_eq h.2.1) ?_ ?_
  ·rintro i ys H4 hi ⟨e4,hyl,hys⟩
   rw[show (0:Int)+(i:Int)=((i:Nat):Int) by omega]
   have hp4:=e4 _ _ hp
   walk_at "rd"
   refine aC ?_
   walk_at "rd"
   refine ay (ah.of hp4) (v:=.ref lq) rfl ?_
   walk_at "rd"
   refine ay (ah.of hp4) (v:=.int (b:Nat)) rfl ?_
   walk_at "rd"
   refine⟨lq,rs,m.toNat,F,b,N,i,rfl,rows.ext e4,hrl,hN,by omega,hi,hper i hi,fun v l d H5 e5 hL hl hd hst=>?_⟩
   refine⟨e4.trans e5,by rw[EN,hyl];rfl,fun r v' hv'=>?_⟩
   by_cases hrl2:r<ys.length
   ·rw[EW hrl2]at hv'
    obtain⟨F',l',d',a1,a2⟩:=hys r v' hv'
    exact⟨F',l',d',a1.ext e5,a2⟩
   ·rw[EV (by omega)]at hv'
    have hz:r-ys.length=0:=by
     have:=(EE.mp hv').1
     simp at this
     omega
    rw[hz]at hv'
    cases hv'
    have hri:r=i:=by omega
    subst hri
    exact⟨fun j=>F j r,l,d,hst,hL,hL.pos,by omega,fun j=>hiff j r hi⟩
  ·rintro ys H4 p9 ⟨e4,hyl,hys⟩ hp9
   have e5:=bx (o:=.lst ys) hp9
   have e35:=e4.trans e5
   walk_at "rd"
   refine q p9 ys _ ((e02.et.trans e3).trans e35.et) (tb3.ext e35) aL ⟨by omega,fun r v hv=>?_⟩
   obtain⟨F',l',d',a1,a2⟩:=hys r v hv
   exact⟨F',l',d',a1.ext e5,a2⟩
def uk(K:Eo):Sp:=fun vs H Q _=>∃v m ws c p,vs=[v,.int c,.int p]/\bf H v m ws/\1<=m/\0<p/\∀a x H',Ext H H'->ax H' a x->0<=x.1->x.1<m->0<=x.2->x.2<=12->Q (.ref a) H'
abbrev jt:Stmt:=stq 63
theorem rW:FnScope ["_law_house_here","_law_cell_here","_law_prime","_law_draws_here"] ["_law_house_here","_law_cell_here","_law_prime"] (aK jt):=⟨rfl,rfl,rfl,by decide +kernel,rfl,by decide +kernel,by decide +kernel⟩
theorem BV{P:Program}{w:World}{K:Eo}{mg:Str->Option Value}{base:Heap}(D:Dfn K mg "_law_place" jt ["_law_house_here","_law_cell_here","_law_prime"])(T:Blt mg)(C__law_draws:Cal P w K mg base "_law_draws" 2 ["_law_cell_here","_law_widths","_law_prime"] (fM K)):Cal P w K mg base "_law_place" 3 ["_law_house_here","_law_cell_here","_law_prime"] (uk K):=by
 have nd:=(rW).nd
 refine D.ok rW (fun vs H Q E h=>?_) (fun X hX H vs Q E h=>?_)
 ·obtain⟨v,m,ws,c,p,rfl,_⟩:=h;rfl
 ·obtain⟨f,cdv,A,outer,s,H0,E0,rfl,hr⟩:=hX
  obtain⟨v,m,ws,c,p,rfl,hv,m1,hp,q⟩:=h
  refine⟨_,(aj (aG (i:=3) nd rfl (Or.inl rfl) (aD C__law_draws hr (aa (pv 1) (aa (bz (aa af (aa af ae))) (aa (pv 2) ae)))))
    (ao (aF (bA (aa (av cz (ai (aI K) (pv 3) af (fun _ _=>rfl)) (ai (aA K) (pv 0) af (fun _ _=>rfl))) (aa (ai (aI K) (pv 3) af (fun _ _=>rfl)) ae)))))),?_⟩
  walk_at "rd"
  refine⟨aB (by simp),aE fun w0 G1 f1 hw0 _=>?_⟩
  walk_at "rd"
  refine⟨c,w0,[12,13],p,rfl,hw0,by decide,by decide,hp,fun dq ds H1 e1 hd hdn hl hb=>?_⟩
  have eH:Ext H H1:=f1.trans e1
  obtain⟨d0,g0,_⟩:=cC hl hb 0 rfl
  obtain⟨d1,g1,b10,b11⟩:=cC hl hb 1 rfl
  obtain⟨hh,t,rfl,k1,k2⟩:=hv.ext eH
  walk_at "rd"
  refine aH (ag.of hd) g0 ?_
  walk_at "rd"
  refine ay (ah.of k1) (v:=.int m) rfl ?_
  try refine rd_I (show(0:Int)<m by omega) ?_
  walk_at "rd"
  refine aH (ag.of hd) g1 ?_
  walk_at "rd"
  refine⟨aB (by simp),aE fun a H2 e2 ha _=>?_⟩
  exact q a (d0 % m,d1) H2 (eH.trans e2) ha (Int.emod_nonneg _ (by omega)) (Int.emod_lt_of_pos _ (by omega)) b10 (by show d1<=12;omega)
def kG(K:Eo):Sp:=fun vs H Q _=>∃i:Int,vs=[.int i]/\Q (.bl true) H
abbrev lI:Stmt:=stq 64
theorem uB:FnScope ["_law_found"] ["_law_found"] (aK lI):=⟨rfl,rfl,rfl,by decide +kernel,rfl,by decide +kernel,by decide +kernel⟩
theorem CL{P:Program}{w:World}{K:Eo}{mg:Str->Option Value}{base:Heap}(D:Dfn K mg "_law_whole" lI ["_law_found"])(T:Blt mg):Cal P w K mg base "_law_whole" 1 ["_law_found"] (kG K):=by
 have nd:=(uB).nd
 refine D.ok uB (fun vs H Q E h=>?_) (fun X hX H vs Q E h=>?_)
 ·obtain⟨i,rfl,_⟩:=h;rfl
 ·obtain⟨f,cdv,A,outer,s,H0,E0,rfl,hr⟩:=hX
  obtain⟨i,rfl,q⟩:=h
  refine⟨_,(ao (aF (eo (aX dv rfl T.isinstance_ PyProof.Rows.boot_isinstance (aa (pv 0) (aa (dC (v:=.ty "int") rfl T.int_ PyProof.Rows.boot_int rfl) ae))) (dX (wA (aX dv rfl T.isinstance_ PyProof.Rows.boot_isinstance (aa (pv 0) (aa (dC (v:=.ty "bool") rfl T.bool_ PyProof.Rows.boot_bool rfl) ae)))))))),?_⟩
  walk_at "rd"
  refine dw (n:="int") rfl (b:=true) rfl ?_
  walk_at "rd"
  refine aC ?_
  walk_at "rd"
  refine dw (n:="int") rfl (b:=false) rfl ?_
  walk_at "rd"
  exact q
theorem qF{H:Hp}{p:Addr}{xs:List V}(h:H p=some (.lst xs)):dg H (.ref p) "list":=.inl ⟨rfl,xs,h⟩
def tU(K:Eo):Sp:=fun vs H Q _=>∃l n ks,vs=[.ref l,.int n]/\H l=some (.lst (b9 ks))/\(ks.length:Int)<=n/\ks.length<=24012/\∀H',Ext H H'->Q (.bl true) H'
abbrev lQ:Stmt:=stq 67
theorem sZ:FnScope ["_law_found","_law_most"] ["_law_found","_law_most"] (aK lQ):=⟨rfl,rfl,rfl,by decide +kernel,rfl,by decide +kernel,by decide +kernel⟩
theorem Ci{P:Program}{w:World}{K:Eo}{mg:Str->Option Value}{base:Heap}(D:Dfn K mg "_law_walk" lQ ["_law_found","_law_most"])(T:Blt mg)(C__law_whole:Cal P w K mg base "_law_whole" 1 ["_law_found"] (kG K)):Cal P w K mg base "_law_walk" 2 ["_law_found","_law_most"] (tU K):=by
 have nd:=(sZ).nd
 refine D.ok sZ (fun vs H Q E h=>?_) (fun X hX H vs Q E h=>?_)
 ·obtain⟨l,n,ks,rfl,_⟩:=h;rfl
 ·obtain⟨f,cdv,A,outer,s,H0,E0,rfl,hr⟩:=hX
  obtain⟨l,n,ks,rfl,hl,hn,hs,q⟩:=h
  refine⟨_,(aj (bC (PW.pt (cM (bT (bw (aX dv rfl T.isinstance_ PyProof.Rows.boot_isinstance (aa (pv 0) (aa (dC (v:=.ty "list") rfl T.list_ PyProof.Rows.boot_list rfl) ae))))) (dh (aT gn (aX (cD K) rfl T.len_ PySem.boot_len (aa (pv 0) ae)) (pv 1) (aQ _))))) (ao (aF bI)) aV)
    (ao (aF (aX (hJ K rfl) rfl T.all_ PyProof.Rows.boot_all (aa (cO ["_law_part"] [] (cw K (pv 0)) (fun _=>(aJ (i:=0) (show(["_law_part"]:List Str).Nodup from by decide +kernel) rfl (Or.inl rfl) (Or.inr rfl))) (fun _=>dm) (fun _=>(aD C__law_whole hr (aa (pv 0) ae)))) ae))))),?_⟩
  walk_at "rd"
  refine dw (qF hl) (b:=true) rfl ?_
  walk_at "rd"
  refine aq ?_
  walk_at "rd"
  refine dn (ag.of hl) ?_
  walk_at "rd"
  rw[decide_eq_false (show ¬n<((b9 ks).length:Nat) by rw[Ew];omega)]
  refine aq ?_
  walk_at "rd"
  refine cj (ag.of hl) ?_
  refine eZ (xs:=b9 ks) (fun i ys H'=>Ext H H'/\ys=(List.replicate i true).map V.bl) (Nat.le_of_lt (fU (by rw[Ew];omega))) ⟨Ext.rfl' _,rfl⟩ (fun i ys H' hi h=>⟨ag.of (h.1 _ _ hl),by rw[h.2];simp⟩) ?_ ?_
  ·rintro i x ys H' hx ⟨e,rfl⟩
   rw[Ey]at hx
   obtain⟨k,hk,rfl⟩:=EH.mp hx
   walk_at "rd"
   refine aC ?_
   walk_at "rd"
   refine⟨_,rfl,e,?_⟩
   rw[List.replicate_succ',EM]
   rfl
  ·rintro ys H' p ⟨e,rfl⟩ hp
   walk_at "rd"
   refine⟨p,List.replicate (b9 ks).length true,rfl,ag.of aL,?_⟩
   rw[show (List.replicate (b9 ks).length true).all id=true by simp]
   exact q _ (e.trans (bx hp))
theorem sN{ws:List Way}{r n:Int}{t:Int×Int×Int}:∀{k:Nat},t∈df ws r n k->∃j w,j<k/\ws[j]?=some w/\w.room=r/\cq w.deed n=some t.2.2/\t.1=((j:Nat):Int)/\t.2.1=w.other
 | 0,h=>by cases h
 | k+1,h=>by
  rcases EU.mp h with z | z
  ·obtain⟨j,w,h1,h2⟩:=sN z
   exact⟨j,w,by omega,h2⟩
  ·cases hw:ws[k]? with
   | none=>rw[hw]at z;cases z
   | some w=>
    rw[hw]at z
    have z':t∈dO w r n k:=z
    by_cases hr:w.room=r
    ·cases hs:cq w.deed n with
     | none=>rw[fB hr hs]at z';cases z'
     | some n'=>
      rw[fB hr hs]at z'
      have:t=((k:Int),w.other,n'):=by simpa using z'
      subst this
      exact⟨k,w,Nat.lt_succ_self _,hw,hr,hs,rfl,rfl⟩
    ·rw[uL hr]at z';cases z'
theorem qX{ws:List Way}{r n n':Int}{w:Way}{j:Nat}(hw:ws[j]?=some w)(hr:w.room=r)(hs:cq w.deed n=some n'):∀{k:Nat},j<k->((j:Int),w.other,n')∈df ws r n k
 | 0,h=>absurd h (Nat.not_lt_zero _)
 | k+1,h=>by
  rcases Nat.lt_or_ge j k with l | l
  ·exact List.mem_append_left _ (qX hw hr hs l)
  ·have:j=k:=by omega
   subst this
   refine List.mem_append_right _ ?_
   rw[hw]
   show _∈dO w r n j
   rw[fB hr hs]
   simp
theorem Cf{ws:List Way}{T:Int}{x y:Bfs.Pl}{k:Nat}(h:bH ws T x k=some y):((k:Int),y.1,y.2)∈df ws x.1 x.2 ws.length/\y.2<=T:=by
 obtain⟨w,hw,hr,hs,ho,ht⟩:=gJ h
 rw[ho]
 exact⟨qX hw hr hs (EE.mp hw).1,ht⟩
theorem By{ws:List Way}{T:Int}{x y:Bfs.Pl}{k:Nat}(h:bH ws T x k=some y){t:Int×Int×Int}(ht:t∈df ws x.1 x.2 ws.length)(hk:t.1=(k:Int)):t.2.1=y.1/\t.2.2=y.2:=by
 obtain⟨w,hw,hr,hs,ho,_⟩:=gJ h
 obtain⟨j,w',_,hw',hr',hs',h1,h2⟩:=sN ht
 have:j=k:=by omega
 subst this
 rw[hw]at hw'
 cases hw'
 exact⟨h2.trans ho.symm,Option.some.inj (hs'.symm.trans hs)⟩
def uA(K:Eo):Sp:=fun vs H Q _=>∃v m ws pa l U x g ks,vs=[v,.ref pa,.ref l]/\bf H v m ws/\HOuse m ws/\ax H pa x/\H l=some (.lst (b9 ks))/\ks.length<=24012/\Bfs.gone (nx:=bH ws U) x ks=some g ∧
 ∀r H' zs a,Ext H H'->H' r=some (.lst (zs++[.ref a]))->ax H' a g->Q (.ref r) H'
abbrev kX:Stmt:=stq 69
theorem tP:FnScope ["_law_house_here","_law_place_here","_law_walk_here","_law_found","_law_k","_law_there"] ["_law_house_here","_law_place_here","_law_walk_here"] (aK kX):=⟨rfl,rfl,rfl,by decide +kernel,rfl,by decide +kernel,by decide +kernel⟩
theorem ze{P:Program}{w:World}{K:Eo}{mg:Str->Option Value}{base:Heap}(D:Dfn K mg "_law_gone" kX ["_law_house_here","_law_place_here","_law_walk_here"])(T:Blt mg)(C__law_behind:Cal P w K mg base "_law_behind" 1 ["_law_house_here","_law_place_here"] (sq K)):Cal P w K mg base "_law_gone" 2 ["_law_house_here","_law_place_here","_law_walk_here"] (uA K):=by
 have nd:=(tP).nd
 refine D.ok tP (fun vs H Q E h=>?_) (fun X hX H vs Q E h=>?_)
 ·obtain⟨v,m,ws,pa,l,U,x,g,ks,rfl,_⟩:=h;rfl
 ·obtain⟨f,cdv,A,outer,s,H0,E0,rfl,hr⟩:=hX
  obtain⟨v,m,ws,pa,l,U,x,g,ks,rfl,hv,ok,hx,hl,hks,hgo,q⟩:=h
  refine⟨_,(aj (aG (i:=3) nd rfl (Or.inl rfl) (bz (aa (pv 1) ae)))
    (aj (bL PassesOwn.never rfl (cw K (pv 2)) (aJ (i:=4) nd rfl (Or.inr rfl)) (aj (f7 (i:=5) ["_law_way","_law_far"] [4] nd rfl (Or.inl rfl) (cw K (aD C__law_behind hr (aa (pv 0) (aa (ai (aI K) (pv 3) (gW gY af) (fun _ _=>rfl)) ae)))) (fun _=>(eP (n:=2) K rfl (bE (aJ (i:=0) (show(["_law_way","_law_far","_law_k"]:List Str).Nodup from by decide +kernel) rfl (Or.inl rfl) (Or.inr rfl)) (bE (aJ (i:=1) (show(["_law_way","_law_far","_law_k"]:List Str).Nodup from by decide +kernel) rfl (Or.inl rfl) (Or.inr rfl)) eA)))) (fun _=>(fj (aT bM (pv 0) (pv 2) (aQ _)))) (fun _=>(pv 1)))
    (aj (bC (aT bM (aX (cD K) rfl T.len_ PySem.boot_len (aa (pv 5) ae)) af (aQ _)) (ao (aF iA)) aV)
    (ao (bo (bG K ED ES ET bO (pv 3) (aa (ai (aI K) (pv 5) af (fun _ _=>rfl)) ae)))))))
    (ao (aF (pv 3))))),?_⟩
  walk_at "rd"
  refine⟨aB (by simp),aE fun f H1 e1 hf hfn=>?_⟩
  walk_at "rd"
  refine cj (ag.of (e1 _ _ hl)) ?_
  refine forL (xs:=b9 ks) (fun j σ H'=>∃k1 k2 y zs a,σ=[some v,some (.ref pa),some (.ref l),some (.ref f),k1,k2]/\Ext H H'/\H' f=some (.lst (zs++[.ref a]))/\zs.length=j/\ax H' a y/\Bfs.gone (nx:=bH ws U) y (ks.drop j)=some g) ⟨none,none,x,[],pa,rfl,e1,hf,rfl,e1 _ _ hx,hgo⟩ (fun j σ H' _ h=>by obtain⟨_,_,_,_,_,_,e,_⟩:=h;exact ag.of (e _ _ hl)) ?_ ?_
  ·rintro j u σ H2 hu ⟨k1,k2,y,zs,a,rfl,e2,hf2,hzs,ha,hg⟩
   rw[Ey]at hu
   obtain⟨k,hk,rfl⟩:=EH.mp hu
   have hjl:=(EE.mp hk).1
   have hdr:ks.drop j=k::ks.drop (j+1):=by
    rw[List.drop_eq_getElem_cons hjl]
    rw[Ex hjl]at hk
    cases hk
    rfl
   rw[hdr]at hg
   obtain⟨z,hz,hg⟩:=Option.bind_eq_some_iff.mp (show(bH ws U y k).bind _=some g from hg)
   have hzm:=Cf hz
   walk_at "rd"
   refine aH (ag.of hf2) (qo _ _) ?_
   walk_at "rd"
   refine⟨v,m,ws,a,y.1,y.2,rfl,hv.ext e2,ok,ha,fun bl H3 cs e3 hbn hbl hpd=>?_⟩
   have hcl:=Paired.length hpd
   have hb100:=ow ws y.1 y.2 ws.length
   have hfew:=ok.few
   refine cj (ag.of hbl) ?_
   refine eZ (xs:=cs.map V.ref) (fun i ys H'=>Ext H3 H'/\(∀u∈ys,∃d,u=.ref d/\ax H' d z)/\((∃t∈(df ws y.1 y.2 ws.length).take i,t.1=(k:Int))->ys≠[])/\ys.length<=i) (g8 (by rw[Ew,hcl];omega)) ⟨Ext.rfl' _,fun u h=>(by cases h),fun h=>(by obtain⟨t,ht,_⟩:=h;simp at ht),ER _⟩ (fun i ys H' _ h=>⟨ag.of (h.1 _ _ hbl),h.2.2.2⟩) ?_ ?_
   ·rintro i u ys H4 hu ⟨e4,hall,hne,hyl⟩
    rw[Ey]at hu
    obtain⟨cc,hc,rfl⟩:=EH.mp hu
    obtain⟨t,ht,hb⟩:=fH hpd hc
    have htm:=EF ht
    have htk:(df ws y.1 y.2 ws.length).take (i+1)=(df ws y.1 y.2 ws.length).take i++[t]:=by rw[List.take_succ,ht];rfl
    obtain⟨d,hc1,hd1⟩:=hb.ext e4
    refine eG (ah.of hc1) rfl ?_
    walk_at "rd"
    rw[htk]
    by_cases hek:t.1=(k:Int)
    ·rw[decide_eq_true hek]
     refine aC ?_
     walk_at "rd"
     have:=By hz htm hek
     refine⟨e4,fun u hu=>?_,fun _ z=>by simp at z,by rw[EN];simp;omega⟩
     rcases EU.mp hu with w1 | w1
     ·exact hall u w1
     ·refine⟨d,by simpa using w1,?_⟩
      show _=some (HO.tup [.int z.1,.int z.2])
      rw[←this.1,←this.2]
      exact hd1
    ·rw[decide_eq_false hek]
     refine aq ?_
     refine⟨e4,hall,fun h=>hne ?_,by omega⟩
     obtain⟨t',ht',hk'⟩:=h
     rcases EU.mp ht' with z | z
     ·exact⟨t',z,hk'⟩
     ·have:t'=t:=by simpa using z
      subst this
      exact absurd hk' hek
   ·rintro ys H4 p ⟨e4,hall,hne,hyl⟩ hp
    walk_at "rd"
    have hys:ys≠[]:=hne ⟨((k:Int),z.1,z.2),by rw[List.take_of_length_le (by rw[Ew,hcl];exact ER _)];exact hzm.1,rfl⟩
    obtain⟨u,us,rfl⟩:=List.exists_cons_of_ne_nil hys
    obtain⟨d,rfl,hd⟩:=hall u EC
    have e25:Ext H2 (upd H4 p (.lst (.ref d::us))):=(e3.trans e4).trans (bx hp)
    have hd5:ax (upd H4 p (.lst (.ref d::us))) d z:=(bx hp) _ _ hd
    have hp5:upd H4 p (.lst (.ref d::us)) p=some (.lst (.ref d::us)):=aL
    generalize upd H4 p (.lst (.ref d::us))=H5 at e25 hd5 hp5 ⊢
    refine dn (ag.of hp5) ?_
    walk_at "rd"
    rw[decide_eq_false (show ¬(((V.ref d::us).length:Nat):Int)=0 by rw[EY];omega)]
    refine aq ?_
    walk_at "rd"
    have hf5:=e25 _ _ hf2
    refine⟨cS (ag.of hf5),?_⟩
    walk_at "rd"
    refine aH (ag.of hp5) (dJ (j:=0) rfl) ?_
    walk_at "rd"
    refine bN hf5 (fU (by rw[EN];simp;omega)) ?_
    walk_at "rd"
    have hdf:d≠f:=cK hd5 hf5 (by intro z;cases z)
    refine⟨_,_,z,zs++[.ref a],d,rfl,cx (e2.trans e25) hfn,by rw[aL],by rw[EN,hzs];rfl,?_,hg⟩
    show upd _ _ _ _=_
    rw[az hdf]
    exact hd5
  ·rintro σ H2 ⟨k1,k2,y,zs,a,rfl,e2,hf2,hzs,ha,hg⟩
   rw[Ew,List.drop_length]at hg
   cases hg
   walk_at "rd"
   exact q f H2 zs a e2 hf2 ha
theorem qA(x:Int)(xs:List Int):gK (.int x) (xs.map V.int)=xs.contains x:=by
 unfold gK
 rw[List.any_map,E8,E7,List.contains_iff_mem]
 constructor
 ·rintro⟨y,hy,e⟩
  have e':(y == x)=true:=e
  rw[←(by simpa using e':y=x)]
  exact hy
 ·intro hx
  exact⟨x,hx,by show(x == x)=true;simp⟩
theorem ua(l:List Int):(l.map V.int).all eC=true:=by
 rw[List.all_map]
 exact E6.mpr fun _ _=>rfl
theorem Dh{lo hi x:Int}{r:List Int}:gC lo hi (x::r)↔lo<=x/\x<hi/\gC (x+1) hi r:=by
 constructor
 ·rintro⟨h1,h2⟩
  obtain⟨p1,p2⟩:=List.pairwise_cons.mp h1
  have hx:=h2 x EC
  exact⟨hx.1,hx.2,p2,fun z hz=>⟨by have:=p1 z hz;omega,(h2 z (Ez _ hz)).2⟩⟩
 ·rintro⟨h1,h2,h3,h4⟩
  refine⟨List.pairwise_cons.mpr ⟨fun z hz=>by have:=h4 z hz;omega,h3⟩,fun z hz=>?_⟩
  rcases EK.mp hz with rfl | hz
  ·exact⟨h1,h2⟩
  ·have:=h4 z hz
   exact⟨by omega,this.2⟩
theorem mP{lo hi:Int}:∀{xs:List Int},gC lo hi xs->(xs.length:Int)<=max 0 (hi-lo)
 | [],_=>by simp;omega
 | x::r,h=>by
  obtain⟨h1,h2,h3⟩:=Dh.mp h
  have:=mP h3
  rw[EY]
  omega
theorem AO(xs:List V):cg xs (some 1) none=xs.drop 1:=by
 unfold cg
 rw[HT.nZ]
 have e:HT.aN xs.length 0 (some 1)=min 1 xs.length:=rfl
 rw[e]
 rcases Nat.lt_or_ge xs.length 1 with h | h
 ·have:xs=[]:=List.eq_nil_of_length_eq_zero (by omega)
  subst this
  rfl
 ·rw[Nat.min_eq_left h]
  exact List.take_of_length_le (by rw[List.length_drop];exact ER _)
def rF(K:Eo):Sp:=fun vs H Q _=>∃(p:Addr) (lo hi:Int) (xs:List Int),vs=[.ref p,.int lo,.int hi]/\H p=some (.tup (xs.map V.int))/\xs.length<=10000/\gC lo hi xs/\∀H',Ext H H'->Q (.bl true) H'
abbrev ju:Stmt:=stq 65
theorem qv:FnScope ["_law_row","_law_low","_law_high"] ["_law_row","_law_low","_law_high"] (aK ju):=⟨rfl,rfl,rfl,by decide +kernel,rfl,by decide +kernel,by decide +kernel⟩
theorem y8{P:Program}{w:World}{K:Eo}{mg:Str->Option Value}{base:Heap}(D:Dfn K mg "_law_rises" ju ["_law_row","_law_low","_law_high"])(T:Blt mg)(C__law_whole:Cal P w K mg base "_law_whole" 1 ["_law_found"] (kG K)):Cal P w K mg base "_law_rises" 2 ["_law_row","_law_low","_law_high"] (rF K):=by
 have nd:=(qv).nd
 refine D.ok qv (fun vs H Q E h=>?_) (fun X hX H vs Q E h=>?_)
 ·obtain⟨p,lo,hi,xs,rfl,_⟩:=h;rfl
 ·obtain⟨f,cdv,A,outer,s,H0,E0,rfl,hr⟩:=hX
  obtain⟨p,lo,hi,xs,rfl,hp,hl,hr',q⟩:=h
  have hk:dg H (.ref p) "tuple":=.inr ⟨rfl,_,hp⟩
  refine⟨_,(aj (bC (PW.pt (cM (bT (bw (aX dv rfl T.isinstance_ PyProof.Rows.boot_isinstance (aa (pv 0) (aa (dC (v:=.ty "tuple") rfl T.tuple_ PyProof.Rows.boot_tuple rfl) ae))))) (dh (bT (bw (aX (hJ K rfl) rfl T.all_ PyProof.Rows.boot_all (aa (cO ["_law_part"] [] (ib K (pv 0)) (fun _=>(aJ (i:=0) (show(["_law_part"]:List Str).Nodup from by decide +kernel) rfl (Or.inl rfl) (Or.inr rfl))) (fun _=>dm) (fun _=>(aD C__law_whole hr (aa (pv 0) ae)))) ae))))))) (ao (aF bI)) aV)
    (ao (aF (eo (aX (hJ K rfl) rfl T.all_ PyProof.Rows.boot_all (aa (cO ["_law_part"] [1,2] (ib K (pv 0)) (fun _=>(aJ (i:=0) (show(["_law_part","_law_low","_law_high"]:List Str).Nodup from by decide +kernel) rfl (Or.inl rfl) (Or.inr rfl))) (fun _=>dm) (fun _=>(lh gZ eB (pv 1) (pv 0) (pv 2)))) ae)) (dX (aX (hJ K rfl) rfl T.all_ PyProof.Rows.boot_all (aa (cO ["_law_one","_law_two"] [] (A9 K rfl T.zip_ (aa (pv 0) (aa (g7 BY (pv 0) (fG af) jo) ae))) (fun _=>(eP (n:=2) K rfl (bE (aJ (i:=0) (show(["_law_one","_law_two"]:List Str).Nodup from by decide +kernel) rfl (Or.inl rfl) (Or.inr rfl)) (bE (aJ (i:=1) (show(["_law_one","_law_two"]:List Str).Nodup from by decide +kernel) rfl (Or.inl rfl) (Or.inr rfl)) eA)))) (fun _=>dm) (fun _=>(dF eB (pv 0) (pv 1) (aQ _)))) ae))))))),?_⟩
  walk_at "rd"
  refine dw hk (b:=true) rfl ?_
  walk_at "rd"
  refine aq ?_
  walk_at "rd"
  refine gR (ah.of hp) ?_
  refine kY (xs:=xs.map V.int) (fun i ys H'=>H'=H/\ys=(List.replicate i true).map V.bl) (aB (by rw[Ew];omega)) ⟨rfl,rfl⟩ ?_ ?_ ?_
  ·rintro i ys H' _ ⟨rfl,rfl⟩
   exact⟨ah.of hp,by simp⟩
  ·rintro i v ys H' hi' ⟨rfl,rfl⟩
   obtain⟨x,rfl,hx⟩:=jH hi'
   walk_at "rd"
   refine aC ?_
   walk_at "rd"
   refine⟨_,rfl,rfl,?_⟩
   rw[List.replicate_succ',EM]
   rfl
  rintro ys H' p1 ⟨rfl,rfl⟩ hp1
  have e1:Ext H' (upd H' p1 (.lst ((List.replicate (xs.map V.int).length true).map V.bl))):=bx hp1
  have h1:(upd H' p1 (.lst ((List.replicate (xs.map V.int).length true).map V.bl))) p1=_:=aL
  generalize upd H' p1 (.lst ((List.replicate (xs.map V.int).length true).map V.bl))=H1 at e1 h1
  walk_at "rd"
  refine⟨p1,_,rfl,ag.of h1,?_⟩
  rw[show (List.replicate (xs.map V.int).length true).all id=true by rw[E6];intro b hb;rw[List.eq_of_mem_replicate hb];rfl]
  walk_at "rd"
  refine aq ?_
  walk_at "rd"
  have hp':=e1 _ _ hp
  refine gR (ah.of hp') ?_
  refine kY (xs:=xs.map V.int) (fun i ys H'=>H'=H1/\ys=(List.replicate i true).map V.bl) (aB (by rw[Ew];omega)) ⟨rfl,rfl⟩ ?_ ?_ ?_
  ·rintro i ys H' _ ⟨rfl,rfl⟩
   exact⟨ah.of hp',by simp⟩
  ·rintro i v ys H' hi' ⟨rfl,rfl⟩
   obtain⟨x,rfl,hx⟩:=jH hi'
   have hb:=hr'.2 x (EF hx)
   walk_at "rd"
   refine aC ?_
   walk_at "rd"
   rw[decide_eq_true hb.1]
   refine aC ?_
   walk_at "rd"
   rw[decide_eq_true hb.2]
   refine⟨rfl,?_⟩
   rw[List.replicate_succ',EM]
   rfl
  rintro ys H2' p2 ⟨rfl,rfl⟩ hp2
  have e2:Ext H2' (upd H2' p2 (.lst ((List.replicate (xs.map V.int).length true).map V.bl))):=bx hp2
  have h2:(upd H2' p2 (.lst ((List.replicate (xs.map V.int).length true).map V.bl))) p2=_:=aL
  generalize upd H2' p2 (.lst ((List.replicate (xs.map V.int).length true).map V.bl))=H2 at e2 h2
  walk_at "rd"
  refine⟨p2,_,rfl,ag.of h2,?_⟩
  rw[show (List.replicate (xs.map V.int).length true).all id=true by rw[E6];intro b hb;rw[List.eq_of_mem_replicate hb];rfl]
  walk_at "rd"
  refine aC ?_
  walk_at "rd"
  have hp2':=e2 _ _ hp'
  refine Cp hp2' fun p3 H3 e3 h3=>?_
  rw[AO]at h3
  walk_at "rd"
  refine zq (ah.of (e3 _ _ hp2')) (ah.of h3) ?_
  refine yC (xs:=xs.map V.int) (ys:=(xs.map V.int).drop 1) (fun i zs H'=>Ext H3 H'/\zs=(List.replicate i true).map V.bl) (aB (by rw[Ew];omega)) ⟨Ext.rfl' H3,rfl⟩ ?_ ?_ ?_
  ·rintro i zs H' ⟨e,rfl⟩
   exact⟨ah.of (e _ _ (e3 _ _ hp2')),ah.of (e _ _ h3),by simp⟩
  ·rintro i u v zs H' p4 H4 hu hv ⟨e,rfl⟩ e4 h4 hn4
   obtain⟨x,rfl,hx⟩:=jH hu
   rw[←List.map_drop]at hv
   obtain⟨y,rfl,hy⟩:=jH hv
   have hlt:x<y:=by
    rw[List.getElem?_drop]at hy
    obtain⟨g1,rfl⟩:=EE.mp hx
    obtain⟨g2,rfl⟩:=EE.mp hy
    exact List.pairwise_iff_getElem.mp hr'.1 i (1+i) g1 g2 (by omega)
   refine eG (ah.of h4) rfl ?_
   walk_at "rd"
   refine aC ?_
   walk_at "rd"
   rw[decide_eq_true hlt]
   refine⟨e.trans e4,?_⟩
   rw[List.replicate_succ',EM]
   rfl
  rintro zs H' p5 ⟨e,rfl⟩ hp5
  walk_at "rd"
  refine⟨p5,_,rfl,ag.of aL,?_⟩
  rw[show ∀n:Nat,(List.replicate n true).all id=true from fun n=>by rw[E6];intro b hb;rw[List.eq_of_mem_replicate hb];rfl]
  exact q _ (e1.trans (e2.trans (e3.trans (e.trans (bx hp5)))))
structure Gx(b s:Int)(o a:List Int):Prop where
 ok:Ok b s o a
 bs:b+s<=10000
theorem Gx.lo{b s:Int}{o a:List Int}(g:Gx b s o a):o.length<=10000:=by
 have:=mP g.ok.ho
 have:=g.bs;have:=g.ok.hb;have:=g.ok.hs
 omega
theorem Gx.la{b s:Int}{o a:List Int}(g:Gx b s o a):a.length<=10000:=by
 have:=mP g.ok.ha
 have:=g.bs;have:=g.ok.hs;have:=g.ok.hb
 omega
def pG(K:Eo):Sp:=fun vs H Q _=>∃v b s o a,vs=[v]/\eR H v b s o a/\Gx b s o a/\∀H',Ext H H'->Q (.bl true) H'
abbrev lL:Stmt:=stq 66
theorem w9:FnScope ["_law_found"] ["_law_found"] (aK lL):=⟨rfl,rfl,rfl,by decide +kernel,rfl,by decide +kernel,by decide +kernel⟩
theorem Dp{P:Program}{w:World}{K:Eo}{mg:Str->Option Value}{base:Heap}(D:Dfn K mg "_law_is_stair" lL ["_law_found"])(T:Blt mg)(C__law_rises:Cal P w K mg base "_law_rises" 2 ["_law_row","_law_low","_law_high"] (rF K))(C__law_whole:Cal P w K mg base "_law_whole" 1 ["_law_found"] (kG K)):Cal P w K mg base "_law_is_stair" 3 ["_law_found"] (pG K):=by
 have nd:=(w9).nd
 refine D.ok w9 (fun vs H Q E h=>?_) (fun X hX H vs Q E h=>?_)
 ·obtain⟨v,b,s,o,a,rfl,_⟩:=h;rfl
 ·obtain⟨f,cdv,A,outer,s,H0,E0,rfl,hr⟩:=hX
  obtain⟨v,b,s',o,a,rfl,⟨p,q',r,rfl,h1,h2,h3⟩,hg,q⟩:=h
  have hb0:=hg.ok.hb
  have hs0:=hg.ok.hs
  have lo:=hg.lo
  have la:=hg.la
  have hk:dg H (.ref p) "tuple":=.inr ⟨rfl,_,h1⟩
  refine⟨_,(aj (bC (PW.pt (cM (bT (bw (aX dv rfl T.isinstance_ PyProof.Rows.boot_isinstance (aa (pv 0) (aa (dC (v:=.ty "tuple") rfl T.tuple_ PyProof.Rows.boot_tuple rfl) ae))))) (dh (aT fL (aX (cD K) rfl T.len_ PySem.boot_len (aa (pv 0) ae)) af (aQ _))))) (ao (aF bI)) aV)
    (aj (bC (PW.pt (cM (bT (bw (aD C__law_whole hr (aa (ai (aA K) (pv 0) af (fun _ _=>rfl)) ae)))) (dh (bT (bw (aD C__law_whole hr (aa (ai (aA K) (pv 0) af (fun _ _=>rfl)) ae))))))) (ao (aF bI)) aV)
    (aj (bC (PW.pt (cM (aT eB (ai (aA K) (pv 0) af (fun _ _=>rfl)) af (aQ _)) (cM (aT eB (ai (aA K) (pv 0) af (fun _ _=>rfl)) af (aQ _)) (dh (bT (bw (aD C__law_rises hr (aa (ai (aA K) (pv 0) af (fun _ _=>rfl)) (aa af (aa (ai (aA K) (pv 0) af (fun _ _=>rfl)) ae)))))))))) (ao (aF bI)) aV)
    (ao (aF (aD C__law_rises hr (aa (ai (aA K) (pv 0) af (fun _ _=>rfl)) (aa (ai (aA K) (pv 0) af (fun _ _=>rfl)) (aa (av aU (ai (aA K) (pv 0) af (fun _ _=>rfl)) (ai (aA K) (pv 0) af (fun _ _=>rfl))) ae))))))))),?_⟩
  walk_at "rd"
  refine dw hk (b:=true) rfl ?_
  walk_at "rd"
  refine aq ?_
  walk_at "rd"
  refine iN (ah.of h1) ?_
  walk_at "rd"
  refine aq ?_
  walk_at "rd"
  refine ay (ah.of h1) rfl ?_
  walk_at "rd"
  refine⟨_,rfl,?_⟩
  walk_at "rd"
  refine aq ?_
  walk_at "rd"
  refine ay (ah.of h1) rfl ?_
  walk_at "rd"
  refine⟨_,rfl,?_⟩
  walk_at "rd"
  refine aq ?_
  walk_at "rd"
  refine ay (ah.of h1) rfl ?_
  walk_at "rd"
  rw[decide_eq_false (show ¬b<0 by omega)]
  refine aq ?_
  walk_at "rd"
  refine ay (ah.of h1) rfl ?_
  walk_at "rd"
  rw[decide_eq_false (show ¬s'<1 by omega)]
  refine aq ?_
  walk_at "rd"
  refine ay (ah.of h1) rfl ?_
  walk_at "rd"
  refine ay (ah.of h1) rfl ?_
  walk_at "rd"
  refine⟨q',0,b,o,rfl,h2,by omega,hg.ok.ho,fun H1 e1=>?_⟩
  walk_at "rd"
  refine aq ?_
  walk_at "rd"
  refine ay (ah.of (e1 _ _ h1)) rfl ?_
  walk_at "rd"
  refine ay (ah.of (e1 _ _ h1)) rfl ?_
  walk_at "rd"
  refine ay (ah.of (e1 _ _ h1)) rfl ?_
  walk_at "rd"
  refine ay (ah.of (e1 _ _ h1)) rfl ?_
  walk_at "rd"
  refine⟨r,b,b+s',a,rfl,e1 _ _ h3,by omega,hg.ok.ha,fun H2 e2=>?_⟩
  exact q H2 (e1.trans e2)
def mB(K:Eo):Sp:=fun vs H Q _=>∃v x b s o a,vs=[v,.int x]/\eR H v b s o a/\Ok b s o a/\Q (.bl (mem b s o a x)) H
abbrev lA:Stmt:=stq 53
theorem rB:FnScope ["_law_stair","_law_x","_law_base","_law_step","_law_once","_law_again"] ["_law_stair","_law_x"] (aK lA):=⟨rfl,rfl,rfl,by decide +kernel,rfl,by decide +kernel,by decide +kernel⟩
theorem zg{P:Program}{w:World}{K:Eo}{mg:Str->Option Value}{base:Heap}(D:Dfn K mg "_law_holds" lA ["_law_stair","_law_x"])(T:Blt mg):Cal P w K mg base "_law_holds" 1 ["_law_stair","_law_x"] (mB K):=by
 have nd:=(rB).nd
 refine D.ok rB (fun vs H Q E h=>?_) (fun X hX H vs Q E h=>?_)
 ·obtain⟨v,x,b,s,o,a,rfl,_⟩:=h;rfl
 ·obtain⟨f,cdv,A,outer,s,H0,E0,rfl,hr⟩:=hX
  obtain⟨v,x,b,s',o,a,rfl,hv,hg,q⟩:=h
  have hs:=hg.hs
  obtain⟨p,q',r,rfl,h1,h2,h3⟩:=hv
  refine⟨_,(aj (gD (pv 0) (eP (n:=4) K rfl (bE (aJ (i:=2) nd rfl (Or.inl rfl)) (bE (aJ (i:=3) nd rfl (Or.inl rfl)) (bE (aJ (i:=4) nd rfl (Or.inl rfl)) (bE (aJ (i:=5) nd rfl (Or.inl rfl)) eA))))))
    (aj (bC (aT eB (pv 1) (pv 2) (aQ _)) (ao (aF (dF (uv K) (pv 1) (pv 4) (by with_unfolding_all rfl)))) aV)
    (ao (aF (dF (uv K) (av aU (pv 2) (av cz (av cX (pv 1) (pv 2)) (pv 3))) (pv 5) (by with_unfolding_all rfl)))))),?_⟩
  walk_at "rd"
  refine eG (ah.of h1) rfl ?_
  walk_at "rd"
  by_cases hx:x<b
  ·rw[decide_eq_true hx]
   refine aC ?_
   walk_at "rd"
   refine xN (.inr (ah.of h2)) rfl (ua o) ?_
   rw[r6 _ hx]at q
   rw[qA]
   exact q
  ·rw[decide_eq_false hx]
   refine aq ?_
   walk_at "rd"
   refine xN (.inr (ah.of h3)) rfl (ua a) ?_
   rw[xJ _ (by omega)]at q
   rw[qA]
   exact q
theorem gy.hold{H:Hp}{xs:List V}{m:Int}{ws:List Way}{x:Bfs.Pl}(h:gy H xs m ws x){r:Int}(h0:0<=r)(h1:r<m):∃v b s o a,bq xs r=some v/\eR H v b s o a/\Gx b s o a/\∀n:Int,0<=n->(mem b s o a n=true↔b6 ws x (r,n)):=by
 have hl:=h.1
 have hlt:r.toNat<xs.length:=by omega
 have hv:xs[r.toNat]?=some xs[r.toNat]:=Ex hlt
 obtain⟨F,l,d,hst,hL,hd,hld,hF⟩:=h.2 r.toNat _ hv
 refine⟨_,_,_,_,_,?_,hst,⟨u7 F l d hd,by omega⟩,fun n hn=>?_⟩
 ·have:=dJ hv
  rw[EJ h0]at this
  exact this
 ·have e:=yU hd hL.per n.toNat
  rw[EJ hn]at e
  rw[e,hF n.toNat,EJ h0,EJ hn]
theorem Ca{w:Way}{n top:Int}(hd:bR w.deed)(h0:(if decide (w.deed = "down")=true then 1 else 0)<=n)(h1:n<top*(if(!decide (w.deed = "zero"))=true then 1 else 0)+1):bW w w.room n=true:=by
 refine fY rfl ?_
 rcases hd with e | e | e | e
 ·exact .inl e
 ·refine .inr (.inr (.inl ⟨e,?_⟩))
  rw[decide_eq_true e,if_pos rfl]at h0
  omega
 ·exact .inr (.inl e)
 ·refine .inr (.inr (.inr ⟨e,?_⟩))
  rw[decide_eq_true e]at h1
  rw[decide_eq_false (by rw[e];decide +kernel)]at h0
  simp at h0 h1
  omega
theorem Bb{z:Str}:(if decide (z = "up")=true then(1:Int)else 0)-(if decide (z = "down")=true then 1 else 0)=rz z:=by
 unfold rz
 by_cases h1:z = "up"
 ·rw[decide_eq_true h1,if_pos rfl,if_pos h1,decide_eq_false (by rw[h1];decide +kernel)]
  rfl
 ·rw[decide_eq_false h1,if_neg h1]
  by_cases h2:z = "down"
  ·rw[decide_eq_true h2,if_pos h2]
   rfl
  ·rw[decide_eq_false h2,if_neg h2]
   rfl
def sM(K:Eo):Sp:=fun vs H Q _=>∃vh m ws l xs x,vs=[vh,.ref l]/\bf H vh m ws/\HOuse m ws/\0<=x.2/\H l=some (.lst xs)/\gy H xs m ws x/\∀H',Ext H H'->Q (.bl true) H'
abbrev lU:Stmt:=stq 70
theorem vL:FnScope ["_law_house_here","_law_stairs","_law_top","_law_room","_law_deed","_law_other","_law_sign","_law_low","_law_high","_law_more","_law_x"] ["_law_house_here","_law_stairs"] (aK lU):=⟨rfl,rfl,rfl,by decide +kernel,rfl,by decide +kernel,by decide +kernel⟩
theorem zJ{P:Program}{w:World}{K:Eo}{mg:Str->Option Value}{base:Heap}(D:Dfn K mg "_law_shut" lU ["_law_house_here","_law_stairs"])(T:Blt mg)(C__law_holds:Cal P w K mg base "_law_holds" 1 ["_law_stair","_law_x"] (mB K)):Cal P w K mg base "_law_shut" 2 ["_law_house_here","_law_stairs"] (sM K):=by
 have nd:=(vL).nd
 refine D.ok vL (fun vs H Q E h=>?_) (fun X hX H vs Q E h=>?_)
 ·obtain⟨vh,m,ws,l,xs,x,rfl,_⟩:=h;rfl
 ·obtain⟨f,cdv,A,outer,s,H0,E0,rfl,hr⟩:=hX
  obtain⟨vh,m,ws,l,xs,x,rfl,hv,ok,hx0,hl,fw,q⟩:=h
  obtain⟨hp0,hq0,rfl,hh,hw⟩:=id hv
  obtain⟨bs,hq,hal⟩:=cn.al hw
  have hbl:=hal.1
  have few:=ok.few
  have m1:=ok.m1
  have m12:=ok.m12
  have hxl:=fw.1
  refine⟨_,(@aj _ _ _ _ _ (@aG _ _ 2 _ _ _ _ nd rfl (Or.inl rfl) (av aU (aX (yt K rfl) rfl T.max_ PyProof.Rows.boot_max (@aa _ _ _ _ _ (cO ["_law_stair"] [] (cw K (pv 1)) (fun _=>(aJ (i:=0) (show(["_law_stair"]:List Str).Nodup from by decide +kernel) rfl (Or.inl rfl) (Or.inr rfl))) (fun _=>dm) (fun _=>(@ai _ _ _ _ _ _ _ (aA K) (pv 0) af (fun _ _=>rfl)))) ae rfl)) af) rfl (Or.inl rfl))
    (@aj _ _ _ _ _ (bL PassesOwn.never rfl (ib K (@ai _ _ _ _ _ _ _ (aA K) (pv 0) af (fun _ _=>rfl))) (eP (n:=4) K rfl (bE (aJ (i:=3) nd rfl (Or.inl rfl)) (bE (aJ (i:=4) nd rfl (Or.inl rfl)) (bE (aJ (i:=5) nd rfl (Or.inl rfl)) (bE (aJ (i:=6) nd rfl (Or.inl rfl)) eA))))) (@aj _ _ _ _ _ (@aG _ _ 7 _ _ _ _ nd rfl (Or.inl rfl) (fu lC rfl T.int_ PyProof.Rows.boot_int (@aa _ _ _ _ _ (dF bM (pv 4) aS (aQ _)) ae rfl)) rfl (Or.inl rfl))
    (@aj _ _ _ _ _ (@aG _ _ 8 _ _ _ _ nd rfl (Or.inl rfl) (av aU (av dP (pv 2) (fu lC rfl T.int_ PyProof.Rows.boot_int (@aa _ _ _ _ _ (dF fL (pv 4) aS (aQ _)) ae rfl))) af) rfl (Or.inl rfl))
    (@aj _ _ _ _ _ (@aG _ _ 9 _ _ _ _ nd rfl (Or.inl rfl) (av cX (fu lC rfl T.int_ PyProof.Rows.boot_int (@aa _ _ _ _ _ (dF bM (pv 4) aS (aQ _)) ae rfl)) (fu lC rfl T.int_ PyProof.Rows.boot_int (@aa _ _ _ _ _ (dF bM (pv 4) aS (aQ _)) ae rfl))) rfl (Or.inl rfl))
    (@ao _ _ _ (bL PassesOwn.never rfl (o5 rfl T.range_ (@aa _ _ _ _ _ (pv 7) (@aa _ _ _ _ _ (pv 8) ae rfl) rfl)) (aJ (i:=10) nd rfl (Or.inl rfl)) (@ao _ _ _ (@bC _ _ _ _ _ _ _ _ (PW.pt (fI (bw (aD C__law_holds hr (@aa _ _ _ _ _ (@ai _ _ _ _ _ _ _ (aI K) (pv 1) (pv 3) (fun _ _=>rfl)) (@aa _ _ _ _ _ (pv 10) ae rfl) rfl))) (fZ (bT (bw (aD C__law_holds hr (@aa _ _ _ _ _ (@ai _ _ _ _ _ _ _ (aI K) (pv 1) (pv 5) (fun _ _=>rfl)) (@aa _ _ _ _ _ (av aU (pv 10) (pv 9)) ae rfl) rfl))))))) (@ao _ _ _ (@aF _ _ _ _ bI)) aV))))))))
    (@ao _ _ _ (@aF _ _ _ _ bI)))),?_⟩
  walk_at "rd"
  refine cj (ag.of hl) ?_
  refine eZ (xs:=xs) (fun i ys H'=>H'=H/\∃ns:List Int,ys=ns.map V.int/\ns.length=i/\∀n∈ns,0<=n/\n<=10000) (aB (by omega)) ⟨rfl,[],rfl,rfl,fun n h=>(nomatch h)⟩ (fun i ys H' _ h=>by obtain⟨rfl,ns,rfl,h,_⟩:=h;exact⟨ag.of hl,by rw[Ew,h];exact ER _⟩) ?_ ?_
  ·rintro i v ys H1 hv1 ⟨rfl,ns,rfl,hns,hb⟩
   obtain⟨F,b,d,⟨p1,p2,p3,rfl,h1,h2,h3⟩,_,_,hld,_⟩:=fw.2 i v hv1
   walk_at "rd"
   refine aC ?_
   walk_at "rd"
   refine ay (ah.of h1) (v:=.int (b:Nat)) rfl ?_
   refine⟨rfl,ns++[(b:Int)],by rw[EM];rfl,by rw[EN,hns];rfl,fun n hn=>?_⟩
   rcases EU.mp hn with z | z
   ·exact hb n z
   ·rw[EG.mp z]
    omega
  ·rintro ys H1 p9 ⟨hH,ns,rfl,hns,hb⟩ hp9
   subst hH
   have e1:=bx (o:=.lst (ns.map V.int)) hp9
   have h9:(upd H1 p9 (.lst (ns.map V.int))) p9=_:=aL
   generalize upd H1 p9 (.lst (ns.map V.int))=H2 at e1 h9 ⊢
   walk_at "rd"
   refine⟨p9,ns,rfl,ag.of h9,by omega,fun M hM _=>?_⟩
   have hM:=hb M hM
   walk_at "rd"
   refine ay (ah.of (e1 _ _ hh)) (v:=.ref hq0) rfl ?_
   walk_at "rd"
   refine gR (ah.of (e1 _ _ hq)) ?_
   generalize hT:M+120=T
   have hT0:0<=T/\T<=10120:=by omega
   clear hM hT h9 hb hns
   refine vT (xs:=bs.map V.ref) (fun i σ H'=>∃k1 k2 k3 k4 k5 k6 k7 k8,σ=[some (.ref hp0),some (.ref l),some (.int T),k1,k2,k3,k4,k5,k6,k7,k8]/\Ext H1 H') ⟨none,none,none,none,none,none,none,none,rfl,e1⟩ (fun i σ H' _ h=>by obtain⟨_,_,_,_,_,_,_,_,_,e⟩:=h;exact ah.of (e _ _ hq)) ?_ ?_
   ·rintro i u σ H3 hu ⟨k1,k2,k3,k4,k5,k6,k7,k8,rfl,e3⟩
    rw[Ey]at hu
    obtain⟨b,hb,rfl⟩:=EH.mp hu
    have hi:i<ws.length:=by rw[←hbl];exact(EE.mp hb).1
    have hwi:ws[i]?=some ws[i]:=Ex hi
    have hw3:=e3 _ _ (hal.2 i b _ hb hwi)
    have hmem:ws[i]∈ws:=EX hi
    clear hwi
    generalize ws[i]=w at hw3 hmem
    have okw:=ok.ok _ hmem
    have r0:=okw.r0
    have r1:=okw.r1
    have o0:=okw.o0
    have ot:=okw.o1
    refine eG (ah.of hw3) rfl ?_
    walk_at "rd"
    refine bU ?_
    walk_at "rd"
    refine qM ?_
    have hi01:T*(if(!decide (w.deed = "zero"))=true then 1 else 0)+1<=20000:=by split<;>omega
    have lo01:(0:Int)<=(if decide (w.deed = "down")=true then 1 else 0)/\(if decide (w.deed = "down")=true then(1:Int)else 0)<=1:=by split<;>decide
    have hn01:0<=T*(if(!decide (w.deed = "zero"))=true then 1 else 0)+1:=by split<;>omega
    walk_at "rd"
    try refine rd_I (.inl ⟨by omega,by omega⟩) ?_
    walk_at "rd"
    refine bU ?_
    walk_at "rd"
    refine bU ?_
    walk_at "rd"
    rw[Bb]
    refine nI (by omega) ?_
    have hso:∀n:Int,(if decide (w.deed = "down")=true then 1 else 0)<=n->n<T*(if(!decide (w.deed = "zero"))=true then 1 else 0)+1->bW w w.room n=true:=fun n h0 h1=>Ca okw.dd h0 h1
    generalize (if decide (w.deed = "down")=true then(1:Int)else 0)=lo at lo01 hso ⊢
    generalize T*(if(!decide (w.deed = "zero"))=true then 1 else 0)+1=hi at hi01 hn01 hso ⊢
    obtain⟨v1,b1,s1,o1,a1,hv1,st1,g1,f1⟩:=fw.hold r0 r1
    obtain⟨v2,b2,s2,o2,a2,hv2,st2,g2,f2⟩:=fw.hold o0 ot
    refine forR (fun i σ H'=>∃k8,σ=[some (.ref hp0),some (.ref l),some (.int T),some (.int w.room),some (.str w.deed),some (.int w.other),some (.str w.sign),some (.int lo),some (.int hi),some (.int (rz w.deed)),k8]/\Ext H1 H') ⟨_,rfl,e3⟩ ?_ ?_
    ·rintro j σ H4 hj ⟨k8,rfl,e4⟩
     have hn0:0<=lo+(j:Int):=by omega
     have hop:=hso (lo+(j:Int)) (by omega) (by omega)
     generalize lo+(j:Int)=n at hn0 hop ⊢
     walk_at "rd"
     refine aH (ag.of (e4 _ _ hl)) hv1 ?_
     walk_at "rd"
     refine⟨v1,n,b1,s1,o1,a1,rfl,st1.ext e4,g1.ok,_,rfl,?_⟩
     by_cases hm:mem b1 s1 o1 a1 n=true
     ·rw[hm]
      walk_at "rd"
      refine aC ?_
      walk_at "rd"
      refine aH (ag.of (e4 _ _ hl)) hv2 ?_
      walk_at "rd"
      have st:cY ws (w.room,n) (w.other,n+rz w.deed):=⟨w,hmem,hop,rfl⟩
      have hin:=eM ok.ok st hn0
      refine⟨v2,n+rz w.deed,b2,s2,o2,a2,rfl,st2.ext e4,g2.ok,_,rfl,?_⟩
      rw[(f2 _ hin.2.2.1).mpr (((f1 n hn0).mp hm).trans (.one st))]
      refine aq ?_
      walk_at "rd"
      exact⟨_,rfl,e4⟩
     ·rw[Bool.not_eq_true]at hm
      rw[hm]
      refine aq ?_
      walk_at "rd"
      exact⟨_,rfl,e4⟩
    ·rintro σ H4 ⟨k8,rfl,e4⟩
     exact⟨_,_,_,_,_,_,_,_,rfl,e4⟩
   ·rintro σ H3 ⟨k1,k2,k3,k4,k5,k6,k7,k8,rfl,e3⟩
    walk_at "rd"
    exact q _ e3
abbrev m6(x:Bfs.Pl):PyData:=.tuple [.int x.1,.int x.2]
theorem wF{H:Hp}{b:Addr}{x:Bfs.Pl}(h:ax H b x):aW H 1 (.ref b) (m6 x):=
 .inr ⟨b,_,_,rfl,.inl ⟨h,rfl⟩,.cons rfl (.cons rfl .nil)⟩
theorem zB(x:Bfs.Pl):PyData.eqv (m6 x) (m6 x)=true:=by
 simp[PyData.eqv,PyData.eqvAll]
theorem _root_.L2.ag.et{K:Eo}{H H':Hp}{p:Addr}{xs:List V}(e:Et H H')(h:ag K H p xs):ag K H' p xs:=by
 rcases h with(h | ⟨o,h⟩) | h
 ·exact .inl (.inl (e _ _ h (fun _ z=>by cases z)))
 ·exact .inl (.inr ⟨o,e _ _ h (fun _ z=>by cases z)⟩)
 ·exact .inr h
theorem rE{w:Way}(hd:bR w.deed){n n':Int}:cq w.deed n=some n'↔bW w w.room n=true/\n'=n+rz w.deed:=by
 constructor
 ·intro h
  refine⟨?_,qP hd h⟩
  refine fY rfl ?_
  rcases hd with e | e | e | e
  ·exact .inl e
  ·refine .inr (.inr (.inl ⟨e,?_⟩))
   rw[e,f6]at h
   by_cases hn:0<n
   ·exact hn
   ·rw[decide_eq_false hn]at h
    cases h
  ·exact .inr (.inl e)
  ·refine .inr (.inr (.inr ⟨e,?_⟩))
   rw[e,fW]at h
   by_cases hn:n=0
   ·exact hn
   ·rw[decide_eq_false hn]at h
    cases h
 ·rintro⟨h,rfl⟩
  rcases fQ hd h with⟨e,z⟩ | ⟨e,z⟩ | ⟨e,hn,z⟩ | ⟨e,hn,z⟩<;>rw[z,e]
  ·exact jf n
  ·rw[jr];congr 1;omega
  ·rw[f6,decide_eq_true hn,if_pos rfl];rfl
  ·rw[fW,decide_eq_true hn,if_pos rfl];congr 1;omega
theorem xZ{m:Int}{ws:List Way}(ok:∀w∈ws,w.Ok m){U:Int}{a b:Bfs.Pl}(h:cY ws a b)(hU:b.2<=U):∃k,bH ws U a k=some b:=by
 obtain⟨w,hw,ho,rfl⟩:=h
 obtain⟨k,hk⟩:=List.mem_iff_getElem?.mp hw
 have hr:=fK ho
 rw[←hr]at ho
 refine⟨k,?_⟩
 unfold bH
 rw[hk,E2,if_pos hr,(rE (ok w hw).dd).mpr ⟨ho,rfl⟩,E2,if_pos hU]
theorem yF{m:Int}{ws:List Way}(ok:∀w∈ws,w.Ok m){U:Int}{a b:Bfs.Pl}{k:Nat}(h:bH ws U a k=some b):cY ws a b:=by
 obtain⟨w,h1,h2,h3,h4,_⟩:=gJ h
 have hw:=EF h1
 have:=(rE (ok w hw).dd).mp h3
 rw[h2]at this
 exact⟨w,hw,this.1,Prod.ext h4 this.2⟩
theorem uM{m:Int}{ws:List Way}(ok:HOuse m ws){x g:Bfs.Pl}(ix:dA m x):b6 ws x g↔∃n,Bfs.cA (bH ws (cb m x g)) x n g:=by
 have m1:=ok.m1
 constructor
 ·rintro⟨n,h⟩
  have hb0:x.2<=(if g.2>x.2 then g.2 else x.2)/\g.2<=(if g.2>x.2 then g.2 else x.2):=by split<;>constructor<;>omega
  obtain⟨n',hn',r'⟩:=Bfs.cut (S:=cY ws) (m:=m) (by omega) (fun p q h=>by
    obtain⟨w,hw,ho,rfl⟩:=h
    have r1:=ya w.deed
    have r2:=yw w.deed
    show p.2+rz w.deed<=p.2+1/\p.2<=p.2+rz w.deed+1
    omega) (fun p q c h hc h1 h2=>by
    obtain⟨w,hw,ho,rfl⟩:=h
    refine⟨w,hw,fY (fK ho) ?_,Prod.ext rfl (by show p.2+rz w.deed-c=p.2-c+rz w.deed;omega)⟩
    rcases fQ (ok.ok w hw).dd ho with⟨e,z⟩ | ⟨e,z⟩ | ⟨e,hn,z⟩ | ⟨e,hn,z⟩
    ·exact .inl e
    ·exact .inr (.inl e)
    ·exact .inr (.inr (.inl ⟨e,by show 0<p.2-c;omega⟩))
    ·omega) (fun p q h=>by
    obtain⟨w,hw,ho,rfl⟩:=h
    exact⟨(ok.ok w hw).o0,(ok.ok w hw).o1⟩) (b:=if g.2>x.2 then g.2 else x.2) (Int.le_trans ix.2.2.1 hb0.1) n x g h ix.1 ix.2.1 hb0.1 hb0.2
  have wk:Bfs.Wk (bH ws (cb m x g)) x n' g:=r'.wk (fun a c h=>xZ ok.ok h.1 h.2)
  obtain⟨k,_,dk⟩:=Bfs.A4 n' wk
  exact⟨k,dk⟩
 ·rintro⟨n,d⟩
  exact⟨n,d.1.rw.imp fun a c h=>yF ok.ok h.choose_spec⟩
theorem AI{m U:Int}{ws:List Way}(ok:HOuse m ws){x:Bfs.Pl}(hx:bP m U x){n:Nat}{y:Bfs.Pl}(h:Bfs.Wk (bH ws U) x n y):bP m U y:=by
 induction h with
 | zero=>exact hx
 | succ _ hk ih=>exact qE ok ih.2.2.1 hk
def kC(K:Eo):Sp:=fun vs H Q _=>∃(a:Addr) (ns:List Int),vs=[.ref a]/\ag K H a (ns.map V.int)/\ns.length<=63/\(∀y∈(["kept","low_levels","risen"]:List Str),∀c T,PySem.W.tabIn K y=some (c,T)->H T=some (.tbl #[]))/\fD K/\∀H',Q (.bl true) H'
abbrev fo:Stmt:=stq 71
theorem qc:FnScope ["_law_script","_law_house_here","_law_place_here","_law_stairs","_law_k","_law_draws_here","_law_goal","_law_walk_here","_law_places"] ["_law_script"] (aK fo):=⟨rfl,rfl,rfl,by decide +kernel,rfl,by decide +kernel,by decide +kernel⟩
theorem za{P:Program}{w:World}{K:Eo}{mg:Str->Option Value}{base:Heap}{f:Addr}{fd:FuncData}(F:Fun K "law" "law" fo f fd)(T:Blt mg)(C__law_holds:Cal P w K mg base "_law_holds" 1 ["_law_stair","_law_x"] (mB K))(C__law_gone:Cal P w K mg base "_law_gone" 2 ["_law_house_here","_law_place_here","_law_walk_here"] (uA K))(C__law_walk:Cal P w K mg base "_law_walk" 2 ["_law_found","_law_most"] (tU K))(C_shortest:Cal P w K mg base "shortest" 7 ["house","place","goal"] (xj K))(C__law_draws:Cal P w K mg base "_law_draws" 2 ["_law_cell_here","_law_widths","_law_prime"] (fM K))(C__law_cell:Cal P w K mg base "_law_cell" 1 ["_law_script","_law_k"] (rV K))(C__law_shut:Cal P w K mg base "_law_shut" 2 ["_law_house_here","_law_stairs"] (sM K))(C__law_is_stair:Cal P w K mg base "_law_is_stair" 3 ["_law_found"] (pG K))(C_forward:Cal P w K mg base "forward" 10 ["house","place"] (vn K))(C__law_place:Cal P w K mg base "_law_place" 3 ["_law_house_here","_law_cell_here","_law_prime"] (uk K))(C__law_house:Cal P w K mg base "_law_house" 4 ["_law_cell_here","_law_prime"] (xA K)):FnOk P w K mg base dy 11 f fd ["_law_script"] (kC K):=by
 have nd:=(qc).nd
 refine F.ok qc (fun vs H Q E h=>?_) (fun cdv A outer s H vs Q E hr h=>?_)
 ·obtain⟨a,ns,rfl,_⟩:=h;rfl
 ·obtain⟨a,ns,rfl,ha,hl,hT,dis,q⟩:=h
  have tab0:Tbs K H:=⟨fun c T e=>.inl (hT _ (by simp) c T e),fun c T e=>.inl (hT _ (by simp) c T e),fun c T e=>.inl (hT _ (by simp) c T e)⟩
  clear hT
  refine⟨_,(@aj _ _ _ _ _ (@aG _ _ 1 _ _ _ _ nd rfl (Or.inl rfl) (aD C__law_house hr (@aa _ _ _ _ _ (aD C__law_cell hr (@aa _ _ _ _ _ (pv 0) (@aa _ _ _ _ _ af ae rfl) rfl)) (@aa _ _ _ _ _ af ae rfl) rfl)) rfl (Or.inl rfl))
    (@aj _ _ _ _ _ (@aG _ _ 2 _ _ _ _ nd rfl (Or.inl rfl) (aD C__law_place hr (@aa _ _ _ _ _ (pv 1) (@aa _ _ _ _ _ (aD C__law_cell hr (@aa _ _ _ _ _ (pv 0) (@aa _ _ _ _ _ af ae rfl) rfl)) (@aa _ _ _ _ _ af ae rfl) rfl) rfl)) rfl (Or.inl rfl))
    (@aj _ _ _ _ _ (@aG _ _ 3 _ _ _ _ nd rfl (Or.inl rfl) (aD C_forward hr (@aa _ _ _ _ _ (pv 1) (@aa _ _ _ _ _ (pv 2) ae rfl) rfl)) rfl (Or.inl rfl))
    (@aj _ _ _ _ _ (@bC _ _ _ _ _ _ _ _ (PW.pt (cM (bT (bw (aX dv rfl T.isinstance_ PyProof.Rows.boot_isinstance (@aa _ _ _ _ _ (pv 3) (@aa _ _ _ _ _ (dC (v:=.ty "list") rfl T.list_ PyProof.Rows.boot_list rfl) ae rfl) rfl)))) (cM (aT fL (aX (cD K) rfl T.len_ PySem.boot_len (@aa _ _ _ _ _ (pv 3) ae rfl)) (@ai _ _ _ _ _ _ _ (aA K) (pv 1) af (fun _ _=>rfl)) (aQ _)) (dh (bT (bw (aX (hJ K rfl) rfl T.all_ PyProof.Rows.boot_all (@aa _ _ _ _ _ (cO ["_law_one"] [] (cw K (pv 3)) (fun _=>(aJ (i:=0) (show(["_law_one"]:List Str).Nodup from by decide +kernel) rfl (Or.inl rfl) (Or.inr rfl))) (fun _=>dm) (fun _=>(aD C__law_is_stair hr (@aa _ _ _ _ _ (pv 0) ae rfl)))) ae rfl)))))))) (@ao _ _ _ (@aF _ _ _ _ bI)) aV)
    (@aj _ _ _ _ _ (@bC _ _ _ _ _ _ _ _ (PW.pt (cM (bT (bw (aD C__law_holds hr (@aa _ _ _ _ _ (@ai _ _ _ _ _ _ _ (aI K) (pv 3) (@ai _ _ _ _ _ _ _ (aA K) (pv 2) af (fun _ _=>rfl)) (fun _ _=>rfl)) (@aa _ _ _ _ _ (@ai _ _ _ _ _ _ _ (aA K) (pv 2) af (fun _ _=>rfl)) ae rfl) rfl)))) (dh (bT (bw (aD C__law_shut hr (@aa _ _ _ _ _ (pv 1) (@aa _ _ _ _ _ (pv 3) ae rfl) rfl))))))) (@ao _ _ _ (@aF _ _ _ _ bI)) aV)
    (@aj _ _ _ _ _ (bL PassesOwn.never rfl (o5 rfl T.range_ (@aa _ _ _ _ _ af (@aa _ _ _ _ _ (aX (pz rfl) rfl T.max_ PyProof.Rows.boot_max (@aa _ _ _ _ _ af (@aa _ _ _ _ _ (aX (AH rfl) rfl T.min_ PyProof.Rows.boot_min (@aa _ _ _ _ _ (aX (cD K) rfl T.len_ PySem.boot_len (@aa _ _ _ _ _ (pv 0) ae rfl)) (@aa _ _ _ _ _ af ae rfl) rfl)) ae rfl) rfl)) ae rfl) rfl)) (aJ (i:=4) nd rfl (Or.inl rfl)) (@aj _ _ _ _ _ (@aG _ _ 5 _ _ _ _ nd rfl (Or.inl rfl) (aD C__law_draws hr (@aa _ _ _ _ _ (aD C__law_cell hr (@aa _ _ _ _ _ (pv 0) (@aa _ _ _ _ _ (pv 4) ae rfl) rfl)) (@aa _ _ _ _ _ (@bz _ _ _ _ (@aa _ _ _ _ _ af (@aa _ _ _ _ _ af ae rfl) rfl)) (@aa _ _ _ _ _ af ae rfl) rfl) rfl)) rfl (Or.inl rfl))
    (@aj _ _ _ _ _ (@aG _ _ 6 _ _ _ _ nd rfl (Or.inl rfl) (@bA _ _ _ _ _ (@aa _ _ _ _ _ (av cz (@ai _ _ _ _ _ _ _ (aI K) (pv 5) af (fun _ _=>rfl)) (@ai _ _ _ _ _ _ _ (aA K) (pv 1) af (fun _ _=>rfl))) (@aa _ _ _ _ _ (@ai _ _ _ _ _ _ _ (aI K) (pv 5) af (fun _ _=>rfl)) ae rfl) rfl)) rfl (Or.inl rfl))
    (@aj _ _ _ _ _ (@aG _ _ 7 _ _ _ _ nd rfl (Or.inl rfl) (aD C_shortest hr (@aa _ _ _ _ _ (pv 1) (@aa _ _ _ _ _ (pv 2) (@aa _ _ _ _ _ (pv 6) ae rfl) rfl) rfl)) rfl (Or.inl rfl))
    (@ao _ _ _ (cL (bT (bw (aD C__law_holds hr (@aa _ _ _ _ _ (@ai _ _ _ _ _ _ _ (aI K) (pv 3) (@ai _ _ _ _ _ _ _ (aA K) (pv 6) af (fun _ _=>rfl)) (fun _ _=>rfl)) (@aa _ _ _ _ _ (@ai _ _ _ _ _ _ _ (aA K) (pv 6) af (fun _ _=>rfl)) ae rfl) rfl)))) (@ao _ _ _ (@bC _ _ _ _ _ _ _ _ (aT sH (pv 7) iA (aQ _)) (@ao _ _ _ (@aF _ _ _ _ bI)) aV)) (@aj _ _ _ _ _ (@bC _ _ _ _ _ _ _ _ (bT (bw (aD C__law_walk hr (@aa _ _ _ _ _ (pv 7) (@aa _ _ _ _ _ af ae rfl) rfl)))) (@ao _ _ _ (@aF _ _ _ _ bI)) aV)
    (@aj _ _ _ _ _ (@aG _ _ 8 _ _ _ _ nd rfl (Or.inl rfl) (aD C__law_gone hr (@aa _ _ _ _ _ (pv 1) (@aa _ _ _ _ _ (pv 2) (@aa _ _ _ _ _ (pv 7) ae rfl) rfl) rfl)) rfl (Or.inl rfl))
    (@ao _ _ _ (@bC _ _ _ _ _ _ _ _ (PW.pt (cM (aT yM (pv 8) iA (aQ _)) (dh (aT (v7 hr) (@ai _ _ _ _ _ _ _ (aI K) (pv 8) (gW gY af) (fun _ _=>rfl)) (pv 6) (aQ _))))) (@ao _ _ _ (@aF _ _ _ _ bI)) aV))))))))))
    (@ao _ _ _ (@aF _ _ _ _ bI)))))))),?_⟩
  walk_at "rd"
  refine⟨a,ns,0,rfl,ha,hl,by decide,fun z=>?_⟩
  walk_at "rd"
  refine⟨z,_,rfl,by decide,fun v m ws H1 e1 hv ok3=>?_⟩
  have ok:=ok3.house
  have m1:=ok.m1
  have m2:=ok.m12
  walk_at "rd"
  refine⟨a,ns,1,rfl,ha.ext e1,hl,by decide,fun z2=>?_⟩
  walk_at "rd"
  refine⟨v,m,ws,z2,_,rfl,hv,m1,by decide,fun pa x H2 e2 hx x0 x1 x2 x3=>?_⟩
  have ix:dA m x:=⟨x0,x1,x2,by omega⟩
  walk_at "rd"
  refine⟨v,m,ws,pa,x,rfl,hv.ext e2,ok,hx,ix,dis,tab0.ext (e1.trans e2),fun l xs H3 e3 tb3 hl3 fw=>?_⟩
  have hv3:=(hv.ext e2).et e3
  have hx3:=ax.et e3 hx
  have ha3:=(ha.ext (e1.trans e2)).et e3
  have hxl:=fw.1
  clear e3 tb3 hx hv e2 ha e1 tab0 dis
  obtain⟨hh,t,rfl,k1,k2⟩:=id hv3
  walk_at "rd"
  refine dw (qF hl3) (b:=true) rfl ?_
  walk_at "rd"
  refine aq ?_
  walk_at "rd"
  refine dn (ag.of hl3) ?_
  walk_at "rd"
  refine ay (ah.of k1) (v:=.int m) rfl ?_
  walk_at "rd"
  rw[decide_eq_true hxl]
  refine aq ?_
  walk_at "rd"
  refine cj (ag.of hl3) ?_
  refine eZ (xs:=xs) (fun i ys H'=>Ext H3 H'/\ys=(List.replicate i true).map V.bl) (aB (by omega)) ⟨Ext.rfl' _,rfl⟩ (fun i ys H' hi h=>⟨ag.of (h.1 _ _ hl3),by rw[h.2];simp⟩) ?_ ?_
  ·rintro i u ys H4 hu ⟨e4,rfl⟩
   obtain⟨F,b,d,hst,_,hd,hld,_⟩:=fw.2 i u hu
   walk_at "rd"
   refine aC ?_
   walk_at "rd"
   refine⟨u,_,_,_,_,rfl,hst.ext e4,⟨u7 F b d hd,by omega⟩,fun H5 e5=>?_⟩
   refine⟨e4.trans e5,?_⟩
   rw[List.replicate_succ',EM]
   rfl
  rintro ys H4 p9 ⟨e4,rfl⟩ hp9
  have e5:=e4.trans (bx (o:=.lst ((List.replicate xs.length true).map V.bl)) hp9)
  have h9:(upd H4 p9 (.lst ((List.replicate xs.length true).map V.bl))) p9=_:=aL
  generalize upd H4 p9 (.lst ((List.replicate xs.length true).map V.bl))=H5 at e5 h9 ⊢
  clear hp9 e4 H4
  walk_at "rd"
  refine⟨p9,_,rfl,ag.of h9,?_⟩
  rw[show (List.replicate xs.length true).all id=true by simp]
  walk_at "rd"
  refine aq ?_
  walk_at "rd"
  clear h9
  refine ay (ah.of (e5 _ _ hx3)) (v:=.int x.1) rfl ?_
  obtain⟨v1,b1,s1,o1,a1,hv1,st1,g1,f1⟩:=fw.hold x0 x1
  refine aH (ag.of (e5 _ _ hl3)) hv1 ?_
  walk_at "rd"
  refine ay (ah.of (e5 _ _ hx3)) (v:=.int x.2) rfl ?_
  walk_at "rd"
  refine⟨v1,x.2,b1,s1,o1,a1,rfl,st1.ext e5,g1.ok,_,rfl,?_⟩
  rw[(f1 x.2 x2).mpr .refl]
  refine aq ?_
  clear hv1 st1 g1 f1
  walk_at "rd"
  refine⟨_,m,ws,l,xs,x,rfl,hv3.ext e5,ok,x2,e5 _ _ hl3,fw.ext e5,fun H6 e6=>?_⟩
  have e36:=e5.trans e6
  refine rd_exb (aq ?_)
  walk_at "rd"
  refine dn (ha3.ext e36) ?_
  walk_at "rd"
  have hlen:((List.map V.int ns).length:Int)<=63:=by rw[Ew];omega
  refine nI ⟨by decide,by decide,by split<;>(try split)<;>omega,by split<;>(try split)<;>omega⟩ ?_
  clear hlen
  have hm:m*m<=12*12:=Int.mul_le_mul m2 m2 (by omega) (by decide)
  have hm0:0<=m*m:=E1 (by omega) (by omega)
  refine forR (fun i σ H'=>∃c1 c2 c3 c4 c5,σ=[some (.ref a),some (.ref hh),some (.ref pa),some (.ref l),c1,c2,c3,c4,c5]/\Ext H3 H') ⟨_,_,_,_,_,rfl,e36⟩ ?_ ?_
  ·clear e36 e6 e5 H6 H5
   rintro i σ H6 _ ⟨c1,c2,c3,c4,c5,rfl,e6⟩
   walk_at "rd"
   refine⟨a,ns,2+(i:Int),rfl,ha3.ext e6,hl,by omega,fun z3=>?_⟩
   walk_at "rd"
   refine⟨aB (by simp),aE fun w0 H7 e7 hw0 _=>?_⟩
   walk_at "rd"
   refine⟨z3,w0,[12,41],_,rfl,hw0,by decide,by decide,by decide,fun dq ds H8 e8 hd hdn hdl hb=>?_⟩
   have e38:=e6.trans (e7.trans e8)
   obtain⟨d0,g0,_⟩:=cC hdl hb 0 rfl
   obtain⟨d1,g1,b10,b11⟩:=cC hdl hb 1 rfl
   walk_at "rd"
   refine aH (ag.of hd) g0 ?_
   walk_at "rd"
   refine ay (ah.of (e38 _ _ k1)) (v:=.int m) rfl ?_
   try refine rd_I (show(0:Int)<m by omega) ?_
   walk_at "rd"
   refine aH (ag.of hd) g1 ?_
   walk_at "rd"
   refine⟨aB (by simp),aE fun ga H9 e9 hga _=>?_⟩
   have hg:ax H9 ga (d0 % m,d1):=hga
   have e39:=e38.trans e9
   have q0:=Int.emod_nonneg d0 (show m≠0 by omega)
   have q1:=Int.emod_lt_of_pos d0 (show 0<m by omega)
   have ig:dA m (d0 % m,d1):=⟨q0,q1,b10,by show d1<=1000;omega⟩
   clear hga e38 e9 hd hdn hdl hb g0 g1 hw0 e7 e8 e6
   have hg40:d1<=40:=by omega
   generalize d0 % m=r at hg q0 q1 ig
   clear b11
   walk_at "rd"
   obtain⟨v1,b1,s1,o1,a1,hv1,st1,g1,f1⟩:=fw.hold q0 q1
   refine⟨_,m,ws,pa,ga,x,(r,d1),rfl,hv3.ext e39,ok,e39 _ _ hx3,hg,ix,ig,fun hno H10 e10=>?_,fun n wl H10 ks hD hn e10 hln hwl hks hgo=>?_⟩
   ·have e310:=e39.trans e10
    have hg10:ax H10 ga (r,d1):=e10 _ _ hg
    walk_at "rd"
    refine gF (fun σ H'=>∃c1 c2 c3 c4 c5,σ=[some (.ref a),some (.ref hh),some (.ref pa),some (.ref l),c1,c2,c3,c4,c5]/\Ext H3 H') ?_ (fun _ _ h=>h)
    walk_at "rd"
    refine ay (ah.of hg10) (v:=.int r) rfl ?_
    walk_at "rd"
    refine aH (ag.of (e310 _ _ hl3)) hv1 ?_
    walk_at "rd"
    refine ay (ah.of hg10) (v:=.int d1) rfl ?_
    walk_at "rd"
    refine⟨v1,d1,b1,s1,o1,a1,rfl,st1.ext e310,g1.ok,_,rfl,?_⟩
    have hm1:mem b1 s1 o1 a1 d1=false:=by
     rw[Bool.eq_false_iff]
     intro hz
     obtain⟨n,hD⟩:=(uM ok ix).mp ((f1 d1 b10).mp hz)
     exact hno n hD
    rw[hm1]
    refine aC ?_
    walk_at "rd"
    refine⟨rfl,?_⟩
    refine rd_exb (aq ?_)
    walk_at "rd"
    exact⟨_,_,_,_,_,rfl,e310⟩
   ·have e310:=e39.trans e10
    have hg10:ax H10 ga (r,d1):=e10 _ _ hg
    have hT0:=vP (m:=m) (x:=x) (g:=(r,d1)) (by omega)
    have hT1:cb m x (r,d1)<=184:=by
     show(if d1>x.2 then d1 else x.2)+m*m<=184
     split<;>omega
    have hfew:(n:Int)<=m*(cb m x (r,d1)+1)-1:=Bfs.cA.few (by omega) (by omega) hD fun k z hz=>AI ok ⟨x0,x1,x2,hT0.1⟩ hz
    have hmul:m*(cb m x (r,d1)+1)<=12*185:=Int.mul_le_mul m2 (by omega) (by omega) (by decide)
    walk_at "rd"
    refine gF (fun σ H'=>∃c1 c2 c3 c4 c5,σ=[some (.ref a),some (.ref hh),some (.ref pa),some (.ref l),c1,c2,c3,c4,c5]/\Ext H3 H') ?_ (fun _ _ h=>h)
    walk_at "rd"
    refine ay (ah.of hg10) (v:=.int r) rfl ?_
    walk_at "rd"
    refine aH (ag.of (e310 _ _ hl3)) hv1 ?_
    walk_at "rd"
    refine ay (ah.of hg10) (v:=.int d1) rfl ?_
    walk_at "rd"
    refine⟨v1,d1,b1,s1,o1,a1,rfl,st1.ext e310,g1.ok,_,rfl,?_⟩
    have hm1:mem b1 s1 o1 a1 d1=true:=(f1 d1 b10).mpr ((uM ok ix).mpr ⟨n,hD⟩)
    rw[hm1]
    refine aq ?_
    walk_at "rd"
    refine⟨wl,_,ks,rfl,hwl,by omega,by omega,fun H11 e11=>?_⟩
    have e311:=e310.trans e11
    refine rd_exb (aq ?_)
    walk_at "rd"
    refine⟨_,m,ws,pa,wl,cb m x (r,d1),x,(r,d1),ks,rfl,hv3.ext e311,ok,e311 _ _ hx3,e11 _ _ hwl,by omega,hgo,fun rl H12 zs b e12 hr hb=>?_⟩
    walk_at "rd"
    refine⟨rfl,?_⟩
    refine rd_exb (aq ?_)
    walk_at "rd"
    refine aH (ag.of hr) (qo _ _) ?_
    walk_at "rd"
    refine⟨1,1,_,_,wF hb,wF ((e11.trans e12) _ _ hg10),by decide,?_⟩
    rw[zB]
    refine rd_exb (aq ?_)
    walk_at "rd"
    exact⟨_,_,_,_,_,rfl,e311.trans e12⟩
  ·rintro σ H7 ⟨c1,c2,c3,c4,c5,rfl,e7⟩
   walk_at "rd"
   exact q _
abbrev Dq(K:Eo)(mg:Str->Option Value)(x:Str)(st:Stmt):Prop:=∃(f:Addr) (fd:FuncData),mg x=some (.ref f)/\Fun K x x st f fd
theorem dq{K:Eo}{h:Heap}{mg:Str->Option Value}(X:K.In h)(G:h.Ns mainGlobals mg){x:Str}{st:Stmt}{f:Addr}{od an:Option Addr}{sl:Array (Option Value)}{oc kV dc pm cd ct:Value}(a:PySem.W.nsIn K mainGlobals x=some (some (.ref f)))(l:K.lookup f=some ⟨oc,od,.func (PySem.W.fnOf x x (gq st) (eI st) (aK st) .none kV dc pm an cd ct),sl⟩)(c:PySem.W.codeIn K cd x=true)(k:PySem.W.keepIn K (.ref f)=true):Dq K mg x st:=⟨f,_,PySem.W.mg_of X G a,sJ (st:=st) l c k⟩
theorem all_mk{l:PySem.W.OpenLaw}{w:World}{K:Eo}{h:Heap}{mg:Str->Option Value}{fa:Addr}(X:K.In h)(G:h.Ns mainGlobals mg)(hfa:mg "law" = some (.ref fa))
  (d0:Dq K mg "_law_holds" lA)
  (d1:Dq K mg "_law_behind" jN)
  (d2:Dq K mg "_law_gone" kX)
  (d3:Dq K mg "_law_whole" lI)
  (d4:Dq K mg "_law_walk" lQ)
  (d5:Dq K mg "walk_back" lr)
  (d6:Dq K mg "is_open" jQ)
  (d7:Dq K mg "raised_by" lM)
  (d8:Dq K mg "led_to" kg)
  (d9:Dq K mg "counts_by_room" kr)
  (d10:Dq K mg "greatest_met" lD)
  (d11:Dq K mg "found_from" jS)
  (d12:Dq K mg "sought_walk" kn)
  (d13:Dq K mg "is_whole" lR)
  (d14:Dq K mg "is_room" lx)
  (d15:Dq K mg "refuse_bad_places" kA)
  (d16:Dq K mg "is_sign" ky)
  (d17:Dq K mg "is_deed" me)
  (d18:Dq K mg "is_way" j9)
  (d19:Dq K mg "are_ways" kf)
  (d20:Dq K mg "is_house" jy)
  (d21:Dq K mg "refuse_no_house" kJ)
  (d22:Dq K mg "shortest" md)
  (d23:Dq K mg "_law_mixed" j3)
  (d24:Dq K mg "_law_draws" kq)
  (d25:Dq K mg "_law_cell" jv)
  (d26:Dq K mg "_law_shut" lU)
  (d27:Dq K mg "_law_rises" ju)
  (d28:Dq K mg "_law_is_stair" lL)
  (d29:Dq K mg "least_step" ke)
  (d30:Dq K mg "stair_of_marks" lK)
  (d31:Dq K mg "stair_of_room" jV)
  (d32:Dq K mg "next_level" j7)
  (d33:Dq K mg "reached" lZ)
  (d34:Dq K mg "told_pairs" jx)
  (d35:Dq K mg "add_arches" j4)
  (d36:Dq K mg "join_walks" kT)
  (d37:Dq K mg "ways_of_deed" jA)
  (d38:Dq K mg "beginning_table" jW)
  (d39:Dq K mg "kept_table" lS)
  (d40:Dq K mg "kept" lY)
  (d41:Dq K mg "ways_by_room" lJ)
  (d42:Dq K mg "led_to_from" jz)
  (d43:Dq K mg "low_beside" kP)
  (d44:Dq K mg "low_levels" kZ)
  (d45:Dq K mg "risen" kM)
  (d46:Dq K mg "all_levels" jE)
  (d47:Dq K mg "forward" jG)
  (d48:Dq K mg "_law_place" jt)
  (d49:Dq K mg "_law_unlike" ly)
  (d50:Dq K mg "_law_drawn_house" lH)
  (d51:Dq K mg "_law_gate_house" kh)
  (d52:Dq K mg "_law_ring_house" lN)
  (d53:Dq K mg "_law_spare" kz)
  (d54:Dq K mg "_law_house" lV)
  {f55:Addr} {od55 an55:Option Addr} {sl55:Array (Option Value)} {oc55 kV55 dc55 pm55 cd55 ct55:Value} (a55:PySem.W.nsIn K mainGlobals "law" = some (some (.ref f55))) (l55:K.lookup f55=some ⟨oc55,od55,.func (PySem.W.fnOf "law" "law" (gq fo) (eI fo) (aK fo) .none kV55 dc55 pm55 an55 cd55 ct55),sl55⟩) (c55:PySem.W.codeIn K cd55 "law" = true) (k55:PySem.W.keepIn K (.ref f55)=true)
  (z0:PySem.W.nsIn K mainGlobals "len" = some none)
  (z1:PySem.W.nsIn K mainGlobals "isinstance" = some none)
  (z2:PySem.W.nsIn K mainGlobals "tuple" = some none)
  (z3:PySem.W.nsIn K mainGlobals "list" = some none)
  (z4:PySem.W.nsIn K mainGlobals "int" = some none)
  (z5:PySem.W.nsIn K mainGlobals "bool" = some none)
  (z6:PySem.W.nsIn K mainGlobals "range" = some none)
  (z7:PySem.W.nsIn K mainGlobals "zip" = some none)
  (z8:PySem.W.nsIn K mainGlobals "max" = some none)
  (z9:PySem.W.nsIn K mainGlobals "min" = some none)
  (z10:PySem.W.nsIn K mainGlobals "abs" = some none)
  (z11:PySem.W.nsIn K mainGlobals "all" = some none)
  (z12:PySem.W.nsIn K mainGlobals "enumerate" = some none)
  (z13:PySem.W.nsIn K mainGlobals "set" = some none)
  (z14:PySem.W.nsIn K mainGlobals "str" = some none)
  (z15:PySem.W.nsIn K mainGlobals "reversed" = some none)
  (z16:PySem.W.nsIn K mainGlobals "any" = some none)
  {t0:Tok} (v0:PySem.W.nsIn K mainGlobals "GREATEST_NUMBER" = some (some (.int 1000 t0)))
  {t1:Tok} (v1:PySem.W.nsIn K mainGlobals "GREATEST_WAYS" = some (some (.int 100 t1)))
  {t2:Tok} (v2:PySem.W.nsIn K mainGlobals "GREATEST_MANY" = some (some (.int 12 t2)))
  {e0:Addr} {q0_0 u0_0 q0_1 u0_1 q0_2 u0_2 q0_3 u0_3:Tok} {ep0:Nat} (x0:PySem.W.nsIn K mainGlobals "RAISED" = some (some (.ref e0))) (y0:K.lookup e0=some (iB w [("up",q0_0,.int (1) u0_0),("down",q0_1,.int (-1) u0_1),("stay",q0_2,.int (0) u0_2),("zero",q0_3,.int (0) u0_3)] ep0)) (w0:(e0 == sysModules)=false)
  {e1:Addr} {q1_0 u1_0 q1_1 u1_1 q1_2 u1_2 q1_3 u1_3:Tok} {ep1:Nat} (x1:PySem.W.nsIn K mainGlobals "TURNED" = some (some (.ref e1))) (y1:K.lookup e1=some (iB w [("up",q1_0,.str "down" u1_0),("down",q1_1,.str "up" u1_1),("stay",q1_2,.str "stay" u1_2),("zero",q1_3,.str "zero" u1_3)] ep1)) (w1:(e1 == sysModules)=false)
  : ∃fd:FuncData,(∀(s:Shared) (v:Value),BindsTo s fd ⟨[v],[]⟩ [("_law_script",v)])/\∀base:Heap,K.In base->base.Ns mainGlobals mg->(∀y∈(["kept","low_levels","risen"]:List Str),∃c T,Tab K mg base y c T)->FnOk l.prog w K mg base dy 11 fa fd ["_law_script"] (kC K):=by
 have e:=hfa.symm.trans (PySem.W.mg_of X G a55)
 cases e
 have T:Blt mg:=⟨PySem.W.mg_none_of X G z0,PySem.W.mg_none_of X G z1,PySem.W.mg_none_of X G z2,PySem.W.mg_none_of X G z3,PySem.W.mg_none_of X G z4,PySem.W.mg_none_of X G z5,PySem.W.mg_none_of X G z6,PySem.W.mg_none_of X G z7,PySem.W.mg_none_of X G z8,PySem.W.mg_none_of X G z9,PySem.W.mg_none_of X G z10,PySem.W.mg_none_of X G z11,PySem.W.mg_none_of X G z12,PySem.W.mg_none_of X G z13,PySem.W.mg_none_of X G z14,PySem.W.mg_none_of X G z15,PySem.W.mg_none_of X G z16⟩
 have D0:Dfn K mg "_law_holds" lA ["_law_stair","_law_x"]:=let ⟨f,fd,a,F⟩:=d0;⟨f,fd,a,F,F.binds (ps:=["_law_stair","_law_x"]) fun _ _ _ _ _ _ us hl=>match us,hl with | [_,_],_=>rfl⟩
 have D1:Dfn K mg "_law_behind" jN ["_law_house_here","_law_place_here"]:=let ⟨f,fd,a,F⟩:=d1;⟨f,fd,a,F,F.binds (ps:=["_law_house_here","_law_place_here"]) fun _ _ _ _ _ _ us hl=>match us,hl with | [_,_],_=>rfl⟩
 have D2:Dfn K mg "_law_gone" kX ["_law_house_here","_law_place_here","_law_walk_here"]:=let ⟨f,fd,a,F⟩:=d2;⟨f,fd,a,F,F.binds (ps:=["_law_house_here","_law_place_here","_law_walk_here"]) fun _ _ _ _ _ _ us hl=>match us,hl with | [_,_,_],_=>rfl⟩
 have D3:Dfn K mg "_law_whole" lI ["_law_found"]:=let ⟨f,fd,a,F⟩:=d3;⟨f,fd,a,F,F.binds (ps:=["_law_found"]) fun _ _ _ _ _ _ us hl=>match us,hl with | [_],_=>rfl⟩
 have D4:Dfn K mg "_law_walk" lQ ["_law_found","_law_most"]:=let ⟨f,fd,a,F⟩:=d4;⟨f,fd,a,F,F.binds (ps:=["_law_found","_law_most"]) fun _ _ _ _ _ _ us hl=>match us,hl with | [_,_],_=>rfl⟩
 have D5:Dfn K mg "walk_back" lr ["found","goal"]:=let ⟨f,fd,a,F⟩:=d5;⟨f,fd,a,F,F.binds (ps:=["found","goal"]) fun _ _ _ _ _ _ us hl=>match us,hl with | [_,_],_=>rfl⟩
 have D6:Dfn K mg "is_open" jQ ["way","place"]:=let ⟨f,fd,a,F⟩:=d6;⟨f,fd,a,F,F.binds (ps:=["way","place"]) fun _ _ _ _ _ _ us hl=>match us,hl with | [_,_],_=>rfl⟩
 have D7:Dfn K mg "raised_by" lM ["way"]:=let ⟨f,fd,a,F⟩:=d7;⟨f,fd,a,F,F.binds (ps:=["way"]) fun _ _ _ _ _ _ us hl=>match us,hl with | [_],_=>rfl⟩
 have D8:Dfn K mg "led_to" kg ["way","place"]:=let ⟨f,fd,a,F⟩:=d8;⟨f,fd,a,F,F.binds (ps:=["way","place"]) fun _ _ _ _ _ _ us hl=>match us,hl with | [_,_],_=>rfl⟩
 have D9:Dfn K mg "counts_by_room" kr ["house"]:=let ⟨f,fd,a,F⟩:=d9;⟨f,fd,a,F,F.binds (ps:=["house"]) fun _ _ _ _ _ _ us hl=>match us,hl with | [_],_=>rfl⟩
 have D10:Dfn K mg "greatest_met" lD ["house","place","goal"]:=let ⟨f,fd,a,F⟩:=d10;⟨f,fd,a,F,F.binds (ps:=["house","place","goal"]) fun _ _ _ _ _ _ us hl=>match us,hl with | [_,_,_],_=>rfl⟩
 have D11:Dfn K mg "found_from" jS ["house","place","goal"]:=let ⟨f,fd,a,F⟩:=d11;⟨f,fd,a,F,F.binds (ps:=["house","place","goal"]) fun _ _ _ _ _ _ us hl=>match us,hl with | [_,_,_],_=>rfl⟩
 have D12:Dfn K mg "sought_walk" kn ["house","place","goal"]:=let ⟨f,fd,a,F⟩:=d12;⟨f,fd,a,F,F.binds (ps:=["house","place","goal"]) fun _ _ _ _ _ _ us hl=>match us,hl with | [_,_,_],_=>rfl⟩
 have D13:Dfn K mg "is_whole" lR ["thing"]:=let ⟨f,fd,a,F⟩:=d13;⟨f,fd,a,F,F.binds (ps:=["thing"]) fun _ _ _ _ _ _ us hl=>match us,hl with | [_],_=>rfl⟩
 have D14:Dfn K mg "is_room" lx ["thing","many"]:=let ⟨f,fd,a,F⟩:=d14;⟨f,fd,a,F,F.binds (ps:=["thing","many"]) fun _ _ _ _ _ _ us hl=>match us,hl with | [_,_],_=>rfl⟩
 have D15:Dfn K mg "refuse_bad_places" kA ["house","places"]:=let ⟨f,fd,a,F⟩:=d15;⟨f,fd,a,F,F.binds (ps:=["house","places"]) fun _ _ _ _ _ _ us hl=>match us,hl with | [_,_],_=>rfl⟩
 have D16:Dfn K mg "is_sign" ky ["thing"]:=let ⟨f,fd,a,F⟩:=d16;⟨f,fd,a,F,F.binds (ps:=["thing"]) fun _ _ _ _ _ _ us hl=>match us,hl with | [_],_=>rfl⟩
 have D17:Dfn K mg "is_deed" me ["thing"]:=let ⟨f,fd,a,F⟩:=d17;⟨f,fd,a,F,F.binds (ps:=["thing"]) fun _ _ _ _ _ _ us hl=>match us,hl with | [_],_=>rfl⟩
 have D18:Dfn K mg "is_way" j9 ["thing","many"]:=let ⟨f,fd,a,F⟩:=d18;⟨f,fd,a,F,F.binds (ps:=["thing","many"]) fun _ _ _ _ _ _ us hl=>match us,hl with | [_,_],_=>rfl⟩
 have D19:Dfn K mg "are_ways" kf ["thing","many"]:=let ⟨f,fd,a,F⟩:=d19;⟨f,fd,a,F,F.binds (ps:=["thing","many"]) fun _ _ _ _ _ _ us hl=>match us,hl with | [_,_],_=>rfl⟩
 have D20:Dfn K mg "is_house" jy ["thing"]:=let ⟨f,fd,a,F⟩:=d20;⟨f,fd,a,F,F.binds (ps:=["thing"]) fun _ _ _ _ _ _ us hl=>match us,hl with | [_],_=>rfl⟩
 have D21:Dfn K mg "refuse_no_house" kJ ["thing"]:=let ⟨f,fd,a,F⟩:=d21;⟨f,fd,a,F,F.binds (ps:=["thing"]) fun _ _ _ _ _ _ us hl=>match us,hl with | [_],_=>rfl⟩
 have D22:Dfn K mg "shortest" md ["house","place","goal"]:=let ⟨f,fd,a,F⟩:=d22;⟨f,fd,a,F,F.binds (ps:=["house","place","goal"]) fun _ _ _ _ _ _ us hl=>match us,hl with | [_,_,_],_=>rfl⟩
 have D23:Dfn K mg "_law_mixed" j3 ["_law_cell_here","_law_k","_law_prime"]:=let ⟨f,fd,a,F⟩:=d23;⟨f,fd,a,F,F.binds (ps:=["_law_cell_here","_law_k","_law_prime"]) fun _ _ _ _ _ _ us hl=>match us,hl with | [_,_,_],_=>rfl⟩
 have D24:Dfn K mg "_law_draws" kq ["_law_cell_here","_law_widths","_law_prime"]:=let ⟨f,fd,a,F⟩:=d24;⟨f,fd,a,F,F.binds (ps:=["_law_cell_here","_law_widths","_law_prime"]) fun _ _ _ _ _ _ us hl=>match us,hl with | [_,_,_],_=>rfl⟩
 have D25:Dfn K mg "_law_cell" jv ["_law_script","_law_k"]:=let ⟨f,fd,a,F⟩:=d25;⟨f,fd,a,F,F.binds (ps:=["_law_script","_law_k"]) fun _ _ _ _ _ _ us hl=>match us,hl with | [_,_],_=>rfl⟩
 have D26:Dfn K mg "_law_shut" lU ["_law_house_here","_law_stairs"]:=let ⟨f,fd,a,F⟩:=d26;⟨f,fd,a,F,F.binds (ps:=["_law_house_here","_law_stairs"]) fun _ _ _ _ _ _ us hl=>match us,hl with | [_,_],_=>rfl⟩
 have D27:Dfn K mg "_law_rises" ju ["_law_row","_law_low","_law_high"]:=let ⟨f,fd,a,F⟩:=d27;⟨f,fd,a,F,F.binds (ps:=["_law_row","_law_low","_law_high"]) fun _ _ _ _ _ _ us hl=>match us,hl with | [_,_,_],_=>rfl⟩
 have D28:Dfn K mg "_law_is_stair" lL ["_law_found"]:=let ⟨f,fd,a,F⟩:=d28;⟨f,fd,a,F,F.binds (ps:=["_law_found"]) fun _ _ _ _ _ _ us hl=>match us,hl with | [_],_=>rfl⟩
 have D29:Dfn K mg "least_step" ke ["turn"]:=let ⟨f,fd,a,F⟩:=d29;⟨f,fd,a,F,F.binds (ps:=["turn"]) fun _ _ _ _ _ _ us hl=>match us,hl with | [_],_=>rfl⟩
 have D30:Dfn K mg "stair_of_marks" lK ["marks","base"]:=let ⟨f,fd,a,F⟩:=d30;⟨f,fd,a,F,F.binds (ps:=["marks","base"]) fun _ _ _ _ _ _ us hl=>match us,hl with | [_,_],_=>rfl⟩
 have D31:Dfn K mg "stair_of_room" jV ["levels","base","room"]:=let ⟨f,fd,a,F⟩:=d31;⟨f,fd,a,F,F.binds (ps:=["levels","base","room"]) fun _ _ _ _ _ _ us hl=>match us,hl with | [_,_,_],_=>rfl⟩
 have D32:Dfn K mg "next_level" j7 ["rises","level"]:=let ⟨f,fd,a,F⟩:=d32;⟨f,fd,a,F,F.binds (ps:=["rises","level"]) fun _ _ _ _ _ _ us hl=>match us,hl with | [_,_],_=>rfl⟩
 have D33:Dfn K mg "reached" lZ ["place","beside"]:=let ⟨f,fd,a,F⟩:=d33;⟨f,fd,a,F,F.binds (ps:=["place","beside"]) fun _ _ _ _ _ _ us hl=>match us,hl with | [_,_],_=>rfl⟩
 have D34:Dfn K mg "told_pairs" jx ["house","choice"]:=let ⟨f,fd,a,F⟩:=d34;⟨f,fd,a,F,F.binds (ps:=["house","choice"]) fun _ _ _ _ _ _ us hl=>match us,hl with | [_,_],_=>rfl⟩
 have D35:Dfn K mg "add_arches" j4 ["table","ups","downs"]:=let ⟨f,fd,a,F⟩:=d35;⟨f,fd,a,F,F.binds (ps:=["table","ups","downs"]) fun _ _ _ _ _ _ us hl=>match us,hl with | [_,_,_],_=>rfl⟩
 have D36:Dfn K mg "join_walks" kT ["table"]:=let ⟨f,fd,a,F⟩:=d36;⟨f,fd,a,F,F.binds (ps:=["table"]) fun _ _ _ _ _ _ us hl=>match us,hl with | [_],_=>rfl⟩
 have D37:Dfn K mg "ways_of_deed" jA ["house","deed"]:=let ⟨f,fd,a,F⟩:=d37;⟨f,fd,a,F,F.binds (ps:=["house","deed"]) fun _ _ _ _ _ _ us hl=>match us,hl with | [_,_],_=>rfl⟩
 have D38:Dfn K mg "beginning_table" jW ["house"]:=let ⟨f,fd,a,F⟩:=d38;⟨f,fd,a,F,F.binds (ps:=["house"]) fun _ _ _ _ _ _ us hl=>match us,hl with | [_],_=>rfl⟩
 have D39:Dfn K mg "kept_table" lS ["house"]:=let ⟨f,fd,a,F⟩:=d39;⟨f,fd,a,F,F.binds (ps:=["house"]) fun _ _ _ _ _ _ us hl=>match us,hl with | [_],_=>rfl⟩
 have D40:Dfn K mg "kept" lY ["house"]:=let ⟨f,fd,a,F⟩:=d40;⟨f,fd,a,F,F.binds (ps:=["house"]) fun _ _ _ _ _ _ us hl=>match us,hl with | [_],_=>rfl⟩
 have D41:Dfn K mg "ways_by_room" lJ ["house"]:=let ⟨f,fd,a,F⟩:=d41;⟨f,fd,a,F,F.binds (ps:=["house"]) fun _ _ _ _ _ _ us hl=>match us,hl with | [_],_=>rfl⟩
 have D42:Dfn K mg "led_to_from" jz ["ways","place"]:=let ⟨f,fd,a,F⟩:=d42;⟨f,fd,a,F,F.binds (ps:=["ways","place"]) fun _ _ _ _ _ _ us hl=>match us,hl with | [_,_],_=>rfl⟩
 have D43:Dfn K mg "low_beside" kP ["ways","keeps","top","here"]:=let ⟨f,fd,a,F⟩:=d43;⟨f,fd,a,F,F.binds (ps:=["ways","keeps","top","here"]) fun _ _ _ _ _ _ us hl=>match us,hl with | [_,_,_,_],_=>rfl⟩
 have D44:Dfn K mg "low_levels" kZ ["house","place"]:=let ⟨f,fd,a,F⟩:=d44;⟨f,fd,a,F,F.binds (ps:=["house","place"]) fun _ _ _ _ _ _ us hl=>match us,hl with | [_,_],_=>rfl⟩
 have D45:Dfn K mg "risen" kM ["house"]:=let ⟨f,fd,a,F⟩:=d45;⟨f,fd,a,F,F.binds (ps:=["house"]) fun _ _ _ _ _ _ us hl=>match us,hl with | [_],_=>rfl⟩
 have D46:Dfn K mg "all_levels" jE ["house","place"]:=let ⟨f,fd,a,F⟩:=d46;⟨f,fd,a,F,F.binds (ps:=["house","place"]) fun _ _ _ _ _ _ us hl=>match us,hl with | [_,_],_=>rfl⟩
 have D47:Dfn K mg "forward" jG ["house","place"]:=let ⟨f,fd,a,F⟩:=d47;⟨f,fd,a,F,F.binds (ps:=["house","place"]) fun _ _ _ _ _ _ us hl=>match us,hl with | [_,_],_=>rfl⟩
 have D48:Dfn K mg "_law_place" jt ["_law_house_here","_law_cell_here","_law_prime"]:=let ⟨f,fd,a,F⟩:=d48;⟨f,fd,a,F,F.binds (ps:=["_law_house_here","_law_cell_here","_law_prime"]) fun _ _ _ _ _ _ us hl=>match us,hl with | [_,_,_],_=>rfl⟩
 have D49:Dfn K mg "_law_unlike" ly ["_law_ways"]:=let ⟨f,fd,a,F⟩:=d49;⟨f,fd,a,F,F.binds (ps:=["_law_ways"]) fun _ _ _ _ _ _ us hl=>match us,hl with | [_],_=>rfl⟩
 have D50:Dfn K mg "_law_drawn_house" lH ["_law_cell_here","_law_prime"]:=let ⟨f,fd,a,F⟩:=d50;⟨f,fd,a,F,F.binds (ps:=["_law_cell_here","_law_prime"]) fun _ _ _ _ _ _ us hl=>match us,hl with | [_,_],_=>rfl⟩
 have D51:Dfn K mg "_law_gate_house" kh ["_law_cell_here","_law_prime"]:=let ⟨f,fd,a,F⟩:=d51;⟨f,fd,a,F,F.binds (ps:=["_law_cell_here","_law_prime"]) fun _ _ _ _ _ _ us hl=>match us,hl with | [_,_],_=>rfl⟩
 have D52:Dfn K mg "_law_ring_house" lN ["_law_cell_here","_law_prime"]:=let ⟨f,fd,a,F⟩:=d52;⟨f,fd,a,F,F.binds (ps:=["_law_cell_here","_law_prime"]) fun _ _ _ _ _ _ us hl=>match us,hl with | [_,_],_=>rfl⟩
 have D53:Dfn K mg "_law_spare" kz ["_law_cell_here","_law_width"]:=let ⟨f,fd,a,F⟩:=d53;⟨f,fd,a,F,F.binds (ps:=["_law_cell_here","_law_width"]) fun _ _ _ _ _ _ us hl=>match us,hl with | [_,_],_=>rfl⟩
 have D54:Dfn K mg "_law_house" lV ["_law_cell_here","_law_prime"]:=let ⟨f,fd,a,F⟩:=d54;⟨f,fd,a,F,F.binds (ps:=["_law_cell_here","_law_prime"]) fun _ _ _ _ _ _ us hl=>match us,hl with | [_,_],_=>rfl⟩
 refine⟨PySem.W.fnOf "law" "law" (gq fo) (eI fo) (aK fo) .none kV55 dc55 pm55 an55 cd55 ct55,fun s v=>.of_eq rfl,fun base KB GB HB=>?_⟩
 have C0:=@zg l.prog w K mg base D0 T
 have C1:=@Cy l.prog w K mg base D1 T
 have C2:=@ze l.prog w K mg base D2 T C1
 have C3:=@CL l.prog w K mg base D3 T
 have C4:=@Ci l.prog w K mg base D4 T C3
 have C5:=@Ct l.prog w K mg base D5 T
 have C6:=@Cu l.prog w K mg base D6 T
 have C7:=@Bw l.prog w K mg base D7 T ⟨_,PySem.W.mg_of X G x0,Bt y0 w0⟩
 have C8:=@Bo l.prog w K mg base D8 T C7
 have C9:=@zr l.prog w K mg base D9 T
 have C10:=@yZ l.prog w K mg base D10 T
 have C11:=@B0 l.prog w K mg base D11 T C6 C8 C9 C10
 have C12:=@Ef l.prog w K mg base D12 T C5 C11
 have C13:=@yG l.prog w K mg base D13 T
 have C14:=@yf l.prog w K mg base D14 T C13
 have C15:=@zk l.prog w K mg base D15 T ⟨_,PySem.W.mg_of X G v0⟩ C14
 have C16:=@zA l.prog w K mg base D16 T
 have C17:=@CC l.prog w K mg base D17 T ⟨_,PySem.W.mg_of X G x1,Au y1 w1⟩
 have C18:=@yg l.prog w K mg base D18 T C16 C17 C14
 have C19:=@zZ l.prog w K mg base D19 T ⟨_,PySem.W.mg_of X G v1⟩ C18
 have C20:=@Dw l.prog w K mg base D20 T ⟨_,PySem.W.mg_of X G v2⟩ C19 C13
 have C21:=@AJ l.prog w K mg base D21 T C20
 have C22:=@AQ l.prog w K mg base D22 T C12 C15 C21
 have C23:=@Az l.prog w K mg base D23 T
 have C24:=@DQ l.prog w K mg base D24 T C23
 have C25:=@Bs l.prog w K mg base D25 T
 have C26:=@zJ l.prog w K mg base D26 T C0
 have C27:=@y8 l.prog w K mg base D27 T C3
 have C28:=@Dp l.prog w K mg base D28 T C27 C3
 have C29:=@Cs l.prog w K mg base D29 T
 have C30:=@Bd l.prog w K mg base D30 T C29
 have C31:=@zb l.prog w K mg base D31 T C30
 have C32:=@yJ l.prog w K mg base D32 T
 have C33:=@Ec l.prog w K mg base D33 T
 have C34:=@CN l.prog w K mg base D34 T
 have C35:=@AX l.prog w K mg base D35 T
 have C36:=@AM l.prog w K mg base D36 T
 have C37:=@xW l.prog w K mg base D37 T
 have C38:=@B1 l.prog w K mg base D38 T C37
 have C39:=@zm l.prog w K mg base D39 T C35 C36 C37 C38
 obtain⟨c409,T409,B40⟩:=HB "kept" (by simp)
 have C40:Cal l.prog w K mg base "kept" 7 ["house"] (nK K):=Dj D40 T B40 C34 C39 C21
 have C41:=@yH l.prog w K mg base D41 T
 have C42:=@Dk l.prog w K mg base D42 T C6 C8
 have C43:=@xX l.prog w K mg base D43 T C42
 obtain⟨c449,T449,B44⟩:=HB "low_levels" (by simp)
 have C44:Cal l.prog w K mg base "low_levels" 8 ["house","place"] (nk K):=xO D44 T B44 C33 C40 C41 C43
 obtain⟨c459,T459,B45⟩:=HB "risen" (by simp)
 have C45:Cal l.prog w K mg base "risen" 7 ["house"] (mM K):=yI D45 T B45 C34 C37 C39 C21
 have C46:=@zW l.prog w K mg base D46 T C32 C44 C45
 have C47:=@Bq l.prog w K mg base D47 T C31 C46 C15 C21
 have C48:=@BV l.prog w K mg base D48 T C24
 have C49:=@zc l.prog w K mg base D49 T
 have C50:=@Eb l.prog w K mg base D50 T C49 C24
 have C51:=@Bf l.prog w K mg base D51 T C49 C24
 have C52:=@Bn l.prog w K mg base D52 T C24
 have C53:=@DY l.prog w K mg base D53 T
 have C54:=@Be l.prog w K mg base D54 T C50 C51 C52 C53 C24
 exact za (sJ (st:=fo) l55 c55 k55) T C0 C2 C4 C22 C24 C25 C26 C28 C47 C48 C54
theorem walk{l:PySem.W.OpenLaw}{q:Program}{loose:List Str}{XP:(Str->Option Value)->Heap->Prop}{YP:World->Heap->Prop}{d:DefRec}{K:Params->Eo}(hn:l.most=some 63)(hdf:d.params.defaults=[])
  (hY:∀(w:World) (h:Heap),YP w h->(K w.params).In h) (hK:∀w:World,PySem.W.noTabs (K w.params)=true) (hrec:∀y∈(["kept","low_levels","risen"]:List Str),((PyProof.Rows.recsOf q).find? (fun e=>e.name == y)).isSome=true) (htab:∀(w:World),∀y∈(["kept","low_levels","risen"]:List Str),(PySem.W.tabIn (K w.params) y).isSome=true) (hdis:∀w:World,fD (K w.params))
  (F:∀(w:World) (mg:Str->Option Value) (fa:Addr) (h:Heap),(K w.params).In h->h.Ns mainGlobals mg->mg d.name=some (.ref fa) →
   ∃fd:FuncData,(∀(s:Shared) (u:Value),BindsTo s fd ⟨[u],[]⟩ [("_law_script",u)])/\∀base:Heap,(K w.params).In base->base.Ns mainGlobals mg->(∀y∈(["kept","low_levels","risen"]:List Str),∃c T,Tab (K w.params) mg base y c T)->FnOk l.prog w (K w.params) mg base dy 11 fa fd ["_law_script"] (kC (K w.params))) :
  PySem.W.WalkO q loose XP YP l.row.toRowW d [] (fun f vs=>PySem.call f vs):=
 L2.Aq (n:=63) (k:=11) (x:="_law_script") (sp:=fun w=>kC (K w.params)) ["kept","low_levels","risen"] hn (by decide) hdf ⟨rfl,by decide,by decide⟩ hY hK hrec htab F fun w H a ns hl hT hS=>⟨a,ns,rfl,hS,hl,hT,hdis w,fun _=>rfl⟩
end My
end
open PySem PySem.W PyProof.Rows
set_option maxRecDepth 100000 in
set_option maxHeartbeats 0 in
theorem PySem.Challenge.cw_stairrooms_k31_whole_least_closed_holds : PySem.Challenge.rw_stairrooms_k31_whole_least_closed.Holds := by
 refine My.top ?_
 k_fill
 refine My.walk (l := PySem.Challenge.rw_stairrooms_k31_whole_least_closed) rfl rfl (fun w h Y => PySem.W.km_in_of Y) (fun w => by kernel_rfl) ?R (fun w => ?Tb) (fun w => My.yE (by kernel_rfl)) ?F
 case R => intro y hy; simp only [List.mem_cons, List.not_mem_nil, or_false] at hy; rcases hy with rfl | rfl | rfl <;> kernel_rfl
 case Tb => intro y hy; simp only [List.mem_cons, List.not_mem_nil, or_false] at hy; rcases hy with rfl | rfl | rfl <;> kernel_rfl
 case F =>
  intro w mg fa h KX G hmg
  refine' My.all_mk KX G hmg (My.dq KX G ?a0 ?l0 ?c0 ?k0) (My.dq KX G ?a1 ?l1 ?c1 ?k1) (My.dq KX G ?a2 ?l2 ?c2 ?k2) (My.dq KX G ?a3 ?l3 ?c3 ?k3) (My.dq KX G ?a4 ?l4 ?c4 ?k4) (My.dq KX G ?a5 ?l5 ?c5 ?k5) (My.dq KX G ?a6 ?l6 ?c6 ?k6) (My.dq KX G ?a7 ?l7 ?c7 ?k7) (My.dq KX G ?a8 ?l8 ?c8 ?k8) (My.dq KX G ?a9 ?l9 ?c9 ?k9) (My.dq KX G ?a10 ?l10 ?c10 ?k10) (My.dq KX G ?a11 ?l11 ?c11 ?k11) (My.dq KX G ?a12 ?l12 ?c12 ?k12) (My.dq KX G ?a13 ?l13 ?c13 ?k13) (My.dq KX G ?a14 ?l14 ?c14 ?k14) (My.dq KX G ?a15 ?l15 ?c15 ?k15) (My.dq KX G ?a16 ?l16 ?c16 ?k16) (My.dq KX G ?a17 ?l17 ?c17 ?k17) (My.dq KX G ?a18 ?l18 ?c18 ?k18) (My.dq KX G ?a19 ?l19 ?c19 ?k19) (My.dq KX G ?a20 ?l20 ?c20 ?k20) (My.dq KX G ?a21 ?l21 ?c21 ?k21) (My.dq KX G ?a22 ?l22 ?c22 ?k22) (My.dq KX G ?a23 ?l23 ?c23 ?k23) (My.dq KX G ?a24 ?l24 ?c24 ?k24) (My.dq KX G ?a25 ?l25 ?c25 ?k25) (My.dq KX G ?a26 ?l26 ?c26 ?k26) (My.dq KX G ?a27 ?l27 ?c27 ?k27) (My.dq KX G ?a28 ?l28 ?c28 ?k28) (My.dq KX G ?a29 ?l29 ?c29 ?k29) (My.dq KX G ?a30 ?l30 ?c30 ?k30) (My.dq KX G ?a31 ?l31 ?c31 ?k31) (My.dq KX G ?a32 ?l32 ?c32 ?k32) (My.dq KX G ?a33 ?l33 ?c33 ?k33) (My.dq KX G ?a34 ?l34 ?c34 ?k34) (My.dq KX G ?a35 ?l35 ?c35 ?k35) (My.dq KX G ?a36 ?l36 ?c36 ?k36) (My.dq KX G ?a37 ?l37 ?c37 ?k37) (My.dq KX G ?a38 ?l38 ?c38 ?k38) (My.dq KX G ?a39 ?l39 ?c39 ?k39) (My.dq KX G ?a40 ?l40 ?c40 ?k40) (My.dq KX G ?a41 ?l41 ?c41 ?k41) (My.dq KX G ?a42 ?l42 ?c42 ?k42) (My.dq KX G ?a43 ?l43 ?c43 ?k43) (My.dq KX G ?a44 ?l44 ?c44 ?k44) (My.dq KX G ?a45 ?l45 ?c45 ?k45) (My.dq KX G ?a46 ?l46 ?c46 ?k46) (My.dq KX G ?a47 ?l47 ?c47 ?k47) (My.dq KX G ?a48 ?l48 ?c48 ?k48) (My.dq KX G ?a49 ?l49 ?c49 ?k49) (My.dq KX G ?a50 ?l50 ?c50 ?k50) (My.dq KX G ?a51 ?l51 ?c51 ?k51) (My.dq KX G ?a52 ?l52 ?c52 ?k52) (My.dq KX G ?a53 ?l53 ?c53 ?k53) (My.dq KX G ?a54 ?l54 ?c54 ?k54) ?a55 ?l55 ?c55 ?k55 ?z0 ?z1 ?z2 ?z3 ?z4 ?z5 ?z6 ?z7 ?z8 ?z9 ?z10 ?z11 ?z12 ?z13 ?z14 ?z15 ?z16 ?v0 ?v1 ?v2 ?x0 ?y0 ?w0 ?x1 ?y1 ?w1
  (case a0 => k_is); (case l0 => k_is); (case c0 => k_is); (case k0 => k_is)
  (case a1 => k_is); (case l1 => k_is); (case c1 => k_is); (case k1 => k_is)
  (case a2 => k_is); (case l2 => k_is); (case c2 => k_is); (case k2 => k_is)
  (case a3 => k_is); (case l3 => k_is); (case c3 => k_is); (case k3 => k_is)
  (case a4 => k_is); (case l4 => k_is); (case c4 => k_is); (case k4 => k_is)
  (case a5 => k_is); (case l5 => k_is); (case c5 => k_is); (case k5 => k_is)
  (case a6 => k_is); (case l6 => k_is); (case c6 => k_is); (case k6 => k_is)
  (case a7 => k_is); (case l7 => k_is); (case c7 => k_is); (case k7 => k_is)
  (case a8 => k_is); (case l8 => k_is); (case c8 => k_is); (case k8 => k_is)
  (case a9 => k_is); (case l9 => k_is); (case c9 => k_is); (case k9 => k_is)
  (case a10 => k_is); (case l10 => k_is); (case c10 => k_is); (case k10 => k_is)
  (case a11 => k_is); (case l11 => k_is); (case c11 => k_is); (case k11 => k_is)
  (case a12 => k_is); (case l12 => k_is); (case c12 => k_is); (case k12 => k_is)
  (case a13 => k_is); (case l13 => k_is); (case c13 => k_is); (case k13 => k_is)
  (case a14 => k_is); (case l14 => k_is); (case c14 => k_is); (case k14 => k_is)
  (case a15 => k_is); (case l15 => k_is); (case c15 => k_is); (case k15 => k_is)
  (case a16 => k_is); (case l16 => k_is); (case c16 => k_is); (case k16 => k_is)
  (case a17 => k_is); (case l17 => k_is); (case c17 => k_is); (case k17 => k_is)
  (case a18 => k_is); (case l18 => k_is); (case c18 => k_is); (case k18 => k_is)
  (case a19 => k_is); (case l19 => k_is); (case c19 => k_is); (case k19 => k_is)
  (case a20 => k_is); (case l20 => k_is); (case c20 => k_is); (case k20 => k_is)
  (case a21 => k_is); (case l21 => k_is); (case c21 => k_is); (case k21 => k_is)
  (case a22 => k_is); (case l22 => k_is); (case c22 => k_is); (case k22 => k_is)
  (case a23 => k_is); (case l23 => k_is); (case c23 => k_is); (case k23 => k_is)
  (case a24 => k_is); (case l24 => k_is); (case c24 => k_is); (case k24 => k_is)
  (case a25 => k_is); (case l25 => k_is); (case c25 => k_is); (case k25 => k_is)
  (case a26 => k_is); (case l26 => k_is); (case c26 => k_is); (case k26 => k_is)
  (case a27 => k_is); (case l27 => k_is); (case c27 => k_is); (case k27 => k_is)
  (case a28 => k_is); (case l28 => k_is); (case c28 => k_is); (case k28 => k_is)
  (case a29 => k_is); (case l29 => k_is); (case c29 => k_is); (case k29 => k_is)
  (case a30 => k_is); (case l30 => k_is); (case c30 => k_is); (case k30 => k_is)
  (case a31 => k_is); (case l31 => k_is); (case c31 => k_is); (case k31 => k_is)
  (case a32 => k_is); (case l32 => k_is); (case c32 => k_is); (case k32 => k_is)
  (case a33 => k_is); (case l33 => k_is); (case c33 => k_is); (case k33 => k_is)
  (case a34 => k_is); (case l34 => k_is); (case c34 => k_is); (case k34 => k_is)
  (case a35 => k_is); (case l35 => k_is); (case c35 => k_is); (case k35 => k_is)
  (case a36 => k_is); (case l36 => k_is); (case c36 => k_is); (case k36 => k_is)
  (case a37 => k_is); (case l37 => k_is); (case c37 => k_is); (case k37 => k_is)
  (case a38 => k_is); (case l38 => k_is); (case c38 => k_is); (case k38 => k_is)
  (case a39 => k_is); (case l39 => k_is); (case c39 => k_is); (case k39 => k_is)
  (case a40 => k_is); (case l40 => k_is); (case c40 => k_is); (case k40 => k_is)
  (case a41 => k_is); (case l41 => k_is); (case c41 => k_is); (case k41 => k_is)
  (case a42 => k_is); (case l42 => k_is); (case c42 => k_is); (case k42 => k_is)
  (case a43 => k_is); (case l43 => k_is); (case c43 => k_is); (case k43 => k_is)
  (case a44 => k_is); (case l44 => k_is); (case c44 => k_is); (case k44 => k_is)
  (case a45 => k_is); (case l45 => k_is); (case c45 => k_is); (case k45 => k_is)
  (case a46 => k_is); (case l46 => k_is); (case c46 => k_is); (case k46 => k_is)
  (case a47 => k_is); (case l47 => k_is); (case c47 => k_is); (case k47 => k_is)
  (case a48 => k_is); (case l48 => k_is); (case c48 => k_is); (case k48 => k_is)
  (case a49 => k_is); (case l49 => k_is); (case c49 => k_is); (case k49 => k_is)
  (case a50 => k_is); (case l50 => k_is); (case c50 => k_is); (case k50 => k_is)
  (case a51 => k_is); (case l51 => k_is); (case c51 => k_is); (case k51 => k_is)
  (case a52 => k_is); (case l52 => k_is); (case c52 => k_is); (case k52 => k_is)
  (case a53 => k_is); (case l53 => k_is); (case c53 => k_is); (case k53 => k_is)
  (case a54 => k_is); (case l54 => k_is); (case c54 => k_is); (case k54 => k_is)
  (case a55 => k_is); (case l55 => k_is); (case c55 => k_is); (case k55 => k_is)
  (case z0 => k_is)
  (case z1 => k_is)
  (case z2 => k_is)
  (case z3 => k_is)
  (case z4 => k_is)
  (case z5 => k_is)
  (case z6 => k_is)
  (case z7 => k_is)
  (case z8 => k_is)
  (case z9 => k_is)
  (case z10 => k_is)
  (case z11 => k_is)
  (case z12 => k_is)
  (case z13 => k_is)
  (case z14 => k_is)
  (case z15 => k_is)
  (case z16 => k_is)
  (case v0 => k_is)
  (case v1 => k_is)
  (case v2 => k_is)
  (case x0 => k_is); (case y0 => k_is); (case w0 => first | rfl | k_is)
  (case x1 => k_is); (case y1 => k_is); (case w1 => first | rfl | k_is)
