import PyProof.Rows.All
import Wide.All
import OpenK.AllK
import Wide.FinOn
import Lean
import PyProof.EqAt
import PyProof.EqKinds
import PyProof.TupleCall
import KE.KLam
import PySem.Challenge.RW_stairrooms_k17_written_and_read
set_option Elab.async false
namespace PySem.W.Fast
def tw191324086195115535:=0
def tw11252406126886135999:=0
def tw957392365608800824:=0
def tw9200245433244326099:=0
def tw9478813727029378433:=0
def tw14187021825717540454:=0
def tw11258306804293243132:=0
def tw3526483901737909810:=0
def tw17337809459421142232:=0
def tw1653573427490751900:=0
def tw7715558882363893770:=0
def tw11506949944486722818:=0
def tw9254883793231693245:=0
def tw11416828835321767082:=0
def tw4221310431163856405:=0
def tw1382559312744143635:=0
def tw10166892954511498249:=0
def tw1434709870638703423:=0
def tw6787905781562076304:=0
def tw10095913671755900038:=0
def tw4672492687276399408:=0
def tw4918694162171632466:=0
def tw9539095207651657643:=0
def tw3501889831259424984:=0
def tw621812022307901172:=0
def tw4256779784062091372:=0
def tw5350998768358884751:=0
def tw13573848267779960677:=0
def tw11985937269989024962:=0
def tw9930359092145622687:=0
def tw11860059332995364445:=0
def tw17644514534155135092:=0
def tw14324394720252608761:=0
def tw512557566824241540:=0
def tw13732165248360646341:=0
def tw12650994420537281789:=0
def tw5950158449063615346:=0
def tw10846541316933110243:=0
def tw8487562230406468105:=0
def tw17238752558760652402:=0
def tw12390782021942118942:=0
def tw4090099033456441411:=0
def tw11655376856063916228:=0
def tw447717403241242290:=0
def tw3760063030202703356:=0
def tw3096949930750721708:=0
def tw12664327836493813462:=0
def tw11364142691922409913:=0
def tw1921160878016633958:=0
def tw16221219022901355867:=0
def tw1057306937073154610:=0
def tw8338600121835276020:=0
def tw2904058922640873309:=0
def tw2313535712752964479:=0
def tw18038851775406917655:=0
def tw16835956152608702361:=0
def tw5581349078452510653:=0
def tw2355404199824840798:=0
def tw15438610589593914328:=0
def tw13679643304169797691:=0
def tw7875707854763748492:=0
def tw2187499721780371684:=0
def tw1897875410602398997:=0
def tw17990003072128590093:=0
def tw17690871460500525271:=0
def tw14292392306617517729:=0
def tw13501672401922333513:=0
def tw3104486758596841148:=0
def tw15003257448840769609:=0
def tw11030641428109492703:=0
def tw2780415966309772251:=0
def tw16840622159041910090:=0
def tw14429984225472846677:=0
def tw13809386149585982481:=0
def tw13021086612755893400:=0
def tw11040902395418374828:=0
def tw9591621326534694922:=0
def tw8377945894465552080:=0
def tw5190860397250508396:=0
def tw1980078614172103820:=0
def tw16408023001231065620:=0
def tw16291882091215157828:=0
def tw1488503510874697304:=0
def tw14025392896863203041:=0
def tw13140385074510843379:=0
def tw10424792985553544811:=0
def tw3941131271490555836:=0
def tw3797301031838899788:=0
def tw17076493798685594974:=0
def tw15142431143280010732:=0
def tw14650229311272632197:=0
def tw931510637493425866:=0
def tw9119751986894142981:=0
def tw8568187914498332850:=0
def tw8143298780573084396:=0
def tw8039774922555296384:=0
def tw7693350481814642131:=0
def tw7341270039093922885:=0
def tw7134983793405793177:=0
def tw7115244209674446852:=0
def tw5140171473248983199:=0
def tw5010354932100547165:=0
def tw4138905410403352593:=0
def tw3866599564448483793:=0
def tw3220723017206680370:=0
def tw18101583386606535240:=0
def tw18032779900021213040:=0
def tw17925923492730016652:=0
def tw17744632191838401134:=0
def tw16843462989757039891:=0
def tw1682181479755940848:=0
def tw16283258727396688951:=0
def tw16245695487900975421:=0
def tw15414259988211055499:=0
def tw14775263502782431712:=0
def tw14670137783204244808:=0
def tw14221475358252599964:=0
def tw12996499756298277263:=0
def tw12357872333080808881:=0
def tw12249993202121903794:=0
def tw11787554532782738252:=0
def tw11339562753883754242:=0
def tw1069010634818593453:=0
def tw10500720501580190231:=0
def tw8340926499216404060:=0
def tw800831887125934919:=0
def tw762384175361060421:=0
def tw6714801024506940561:=0
def tw6181847661251503008:=0
def tw5425565988235752197:=0
def tw2520694231678862498:=0
def tw18127141830633905074:=0
def tw17843839365795533554:=0
def tw16924412733494049589:=0
def tw16507177298177948937:=0
def tw11365700717142005424:=0
def tw11282886037220131173:=0
def tw10150324261921262226:=0
def tw8089249423132065445:=0
def tw8035931760809384120:=0
def tw5920227957080817638:=0
def tw5442971307982108685:=0
def tw17694846207451314135:=0
def tw17581992280946622230:=0
def tw15266785391687444539:=0
def tw1428814744893504695:=0
def tw13788262537284159298:=0
def tw12993445975515111361:=0
def tw11892039915525360660:=0
def tw11137535781475439334:=0
def tw10053539800044614232:=0
def tw976709547398631384:=0
def tw5956051100702781606:=0
def tw4307926830116509514:=0
def tw12261729195969336472:=0
def tw11801650391622900179:=0
def tw11198388801270196117:=0
def tw974001917477778970:=0
def tw9590536906216307355:=0
def tw902582806634263858:=0
def tw8783073200307453229:=0
def tw8184033042858750843:=0
def tw7897135418779063302:=0
def tw7863108119856694670:=0
def tw7750769465160294860:=0
def tw7539763571100840771:=0
def tw7175792842613744815:=0
def tw6704578965310311189:=0
def tw6393150591798677637:=0
def tw6252878086273825581:=0
def tw6178244272827954729:=0
def tw6093179522131556990:=0
def tw6008010531490865865:=0
def tw590611807225418770:=0
def tw4855646995411632120:=0
def tw4817981600543833687:=0
def tw4769826392853288355:=0
def tw4588638047610791769:=0
def tw439055297870408345:=0
def tw4169430970946328830:=0
def tw3711776433476670718:=0
def tw3415376743198261602:=0
def tw1901317781093569649:=0
def tw18207201711260066481:=0
def tw18066811921283522515:=0
def tw17994301212061070119:=0
def tw17843169823834903998:=0
def tw17729564300890611173:=0
def tw17571631200592639834:=0
def tw1735571389945239771:=0
def tw16964212798373946863:=0
def tw16821967185522334815:=0
def tw16743919102785911483:=0
def tw16661212229125270991:=0
def tw16632375998614247822:=0
def tw16575673167688372683:=0
def tw16477329177891185698:=0
def tw16288524480538194225:=0
def tw15968237232650601322:=0
def tw1584613233581267300:=0
def tw15732654264858244716:=0
def tw15729792075999087868:=0
def tw15660991250957307376:=0
def tw156604256827902990:=0
def tw15565656631415577005:=0
def tw15529604674929473973:=0
def tw15319796435752655959:=0
def tw15291515778787918541:=0
def tw14832175709080873599:=0
def tw14800109303040266240:=0
def tw14793259975867257014:=0
def tw14109453767193502313:=0
def tw13817142068744991791:=0
def tw13814131451427507189:=0
def tw13769731409856085057:=0
def tw13135487405686255751:=0
def tw12678953225602555564:=0
def tw12340981958623863397:=0
def tw11971130579796114034:=0
def tw11788803944947964044:=0
def tw11646202046503260017:=0
def tw10785498421680218836:=0
def tw1073818698688927204:=0
def tw10276969695076772373:=0
def tw10121643642846045468:=0
def tw9602979466950630956:=0
def tw9337504207740955038:=0
def tw8777541643666118068:=0
def tw8572175281459272771:=0
def tw8444893750286939596:=0
def tw8125407811402774585:=0
def tw7552210041123771490:=0
def tw684210181549580303:=0
def tw6744984778823417519:=0
def tw6340304130596135008:=0
def tw6158425238486604569:=0
def tw5096499008420852698:=0
def tw4337561567144917162:=0
def tw4074507585887532813:=0
def tw397431815971221653:=0
def tw3612554134655720397:=0
def tw3258786278723069861:=0
def tw2217001567337907910:=0
def tw2093290091728733057:=0
def tw18324572440802094995:=0
def tw17795394019121955329:=0
def tw17716863462265859512:=0
def tw17628590533929976792:=0
def tw17415715754555401154:=0
def tw16219145617115034907:=0
def tw16180315334032665911:=0
def tw15831574140416324556:=0
def tw15641575440650329080:=0
def tw14419318313112166178:=0
def tw14415884991196681418:=0
def tw13921919005729749812:=0
def tw13746588304753895505:=0
def tw10769681086646498438:=0
def tw9878173891806150429:=0
def tw9816307224394526710:=0
def tw9749810874003056045:=0
def tw9578026534446552097:=0
def tw9248597171148506525:=0
def tw912290570786946579:=0
def tw9002392303285804385:=0
def tw8755266905418455375:=0
def tw8722415481117505015:=0
def tw8604979696160575008:=0
def tw8186763794367992775:=0
def tw8037652997034423971:=0
def tw7904445426397662059:=0
def tw7848866751621661257:=0
def tw7627118995241731642:=0
def tw7393957277229836691:=0
def tw7240639191980452486:=0
def tw720755081136891062:=0
def tw705330452703051597:=0
def tw6942357351460751399:=0
def tw6429728187070590260:=0
def tw6169767553621521813:=0
def tw5994711959094706394:=0
def tw5861546300858528307:=0
def tw5821001088122574322:=0
def tw5819105399919881484:=0
def tw5717963241065829162:=0
def tw5430882940802126740:=0
def tw5295854211047901153:=0
def tw5019332986140449700:=0
def tw4977895861229493542:=0
def tw4933930183700603765:=0
def tw4869967250276580588:=0
def tw4797132809794432123:=0
def tw4566636315000093172:=0
def tw456031100195234908:=0
def tw4488003136180807592:=0
def tw4355615645706949100:=0
def tw3855077825024126993:=0
def tw343839832772155065:=0
def tw3268437569422444630:=0
def tw3182821167057557991:=0
def tw3121732170634265723:=0
def tw3017139974649574989:=0
def tw3015604971527890583:=0
def tw3008007984704827758:=0
def tw2801974123689400889:=0
def tw2248526150547823735:=0
def tw2122511160286549640:=0
def tw2045930578084102194:=0
def tw1818218476948158209:=0
def tw18027755133952139252:=0
def tw17831088686795452451:=0
def tw17645572048654386869:=0
def tw1754243070517289278:=0
def tw17438179399263098937:=0
def tw17405045028177135956:=0
def tw17218974888202052536:=0
def tw17065142239566038489:=0
def tw17002439396945247550:=0
def tw16980547499210933930:=0
def tw1691102865124860179:=0
def tw16826725409987885975:=0
def tw1637453852661378490:=0
def tw16176690743668362219:=0
def tw16164986634524919498:=0
def tw1612923964453859806:=0
def tw15186367229040268510:=0
def tw15104015179872336855:=0
def tw14931363111589739018:=0
def tw1492062709326496596:=0
def tw14905269560852764671:=0
def tw1488474676173749703:=0
def tw14867130098325134529:=0
def tw14849095896601040367:=0
def tw14774234679712429206:=0
def tw1460478622569836974:=0
def tw1456095747653818372:=0
def tw14322595565739780087:=0
def tw13841191037290658594:=0
def tw13820470126673855253:=0
def tw13587432420489492189:=0
def tw13385619842731796546:=0
def tw12679859039530741841:=0
def tw12632963454795662708:=0
def tw12323772569751236006:=0
def tw12296552071639831032:=0
def tw119775208399524090:=0
def tw119674054762100072:=0
def tw11950575282948044451:=0
def tw11858878876565515630:=0
def tw11701492411309977178:=0
def tw11687504721054253588:=0
def tw11665305186481523908:=0
def tw11612187849094769778:=0
def tw11605670760853518920:=0
def tw11383850339681254435:=0
def tw11362101791794971524:=0
def tw10698238366409207256:=0
def tw10263077061500514125:=0
def tw10154314827766144001:=0
def tw10035081181641441020:=0
end PySem.W.Fast
section
open PySem PySem.W PyProof.Rows
set_option maxRecDepth 100000 in
set_option maxHeartbeats 0 in
open_top My.top for PySem.Challenge.rw_stairrooms_k17_written_and_read
end
set_option linter.all false
set_option maxRecDepth 100000
set_option maxHeartbeats 4000000
open PySem renaming wpAny_bind→CH
open PySem renaming wpAny_pure→CI
open PySem.W renaming Frag→CJ
open PySem.Heap renaming get?_push_of_some→CK
open PySem.Heap renaming get?_push_size→CL
open PySem.Heap renaming lt_size→CM
open List renaming length_map→CN
open List renaming getElem?_eq_getElem→CO
open List renaming getElem?_map→CP
open List renaming mem_cons_of_mem→CQ
open Array renaming length_toList→CS
open List renaming size_toArray→CT
open List renaming mem_cons_self→CU
open PySem.F renaming plainAttrs_list→CV
open List renaming getElem?_eq_some_iff→CW
open List renaming mem_of_getElem?→CY
open List renaming mem_singleton→CZ
open Option renaming map_eq_some_iff→Dc
open Int renaming toNat_natCast→Dd
open List renaming mem_cons→De
open Bool renaming false_ne_true→Df
open List renaming map_append→Dg
open List renaming length_append→Dh
open Nat renaming ne_of_lt→Di
open Nat renaming le_refl→Dj
open PySem.F renaming slot_list_append→Dk
open PySem.F renaming type_list_append→Dl
open List renaming mem_append→Dm
open List renaming getElem?_append_right→Dn
open List renaming getElem?_append_left→Dp
open List renaming getElem_mem→Dr
open List renaming length_cons→Ds
open List renaming take_length→Dt
open Nat renaming lt_of_lt_of_le→Du
open Nat renaming le_trans→Dv
open List renaming not_mem_nil→Dw
open List renaming all_eq_true→Dy
open Bool renaming eq_iff_iff→Dz
open Bool renaming and_eq_true→DA
open PySem.Str renaming ofString→DB
open Option.some renaming inj→DC
open List renaming mem_append_right→DD
open List renaming mem_append_left→DE
open List renaming replicate→DF
open Bool renaming false_eq_true→DG
open Nat renaming lt_or_ge→DH
open List renaming lookup_cons→DI
open List renaming length_take→DJ
open PySem renaming wpAny_setState_of→DK
open PySem renaming wpAny_callSpecial?_slot→DL
open List renaming range→DM
abbrev DN:=@decide_eq_false
abbrev DO:=@decide_eq_true
abbrev DP:=@if_neg
abbrev DQ:=@if_pos
noncomputable section
namespace L2
open PySem PySem.Spec PyProof.Rows
abbrev Key:=Sum Int Str
def fo:Key->Value->Bool
 | .inl k,v=>Value.isInt k v
 | .inr x,v=>Value.isStrOf x v
def Aa(w:World):Key->Int
 | .inl k=>hashInt k
 | .inr x=>hashStr w x
theorem ed:∀{k:Key} {v:Value},fo k v=true->(∃i t,k=Sum.inl i/\v=Value.int i t)\/(∃x t,k=Sum.inr x/\v=Value.str x t)
 | .inl i,v,h=>by
  obtain⟨t,e⟩:=Value.isInt_shape (k:=i) (v:=v) h
  exact .inl ⟨i,t,rfl,e⟩
 | .inr x,v,h=>by
  obtain⟨t,e⟩:=Value.isStrOf_shape (x:=x) (v:=v) h
  exact .inr ⟨x,t,rfl,e⟩
theorem Ba(i:Int)(t:Tok):fo (.inl i) (.int i t)=true:=by simp[fo,Value.isInt]
theorem Bi(x:Str)(t:Tok):fo (.inr x) (.str x t)=true:=by simp[fo,Value.isStrOf]
theorem yl(a b:Int):decide ((Sum.inl a:Key)=Sum.inl b)=(a == b):=by
 by_cases e:a=b
 ·subst e;simp
 ·have h:¬(Sum.inl a:Key)=Sum.inl b:=fun q=>e (Sum.inl.inj q)
  rw[DN h]
  exact(beq_eq_false_iff_ne.mpr e).symm
theorem zu(a b:Str):decide ((Sum.inr a:Key)=Sum.inr b)=decide (a=b):=by
 by_cases e:a=b
 ·subst e;simp
 ·have h:¬(Sum.inr a:Key)=Sum.inr b:=fun q=>e (Sum.inr.inj q)
  rw[DN h,DN e]
theorem Bk(a:Int)(b:Str):decide ((Sum.inl a:Key)=Sum.inr b)=false:=DN (fun q=>nomatch q)
theorem BA(a:Str)(b:Int):decide ((Sum.inr a:Key)=Sum.inl b)=false:=DN (fun q=>nomatch q)
def aN(prog:Program)(w:World):PySem.KeyKind prog w Key where
 is:=fo
 hash:=Aa w
 inj:=fun v a b ha hb=>by
  rcases ed ha with⟨i,t,rfl,rfl⟩ | ⟨x,t,rfl,rfl⟩
  ·rcases ed hb with⟨j,u,rfl,e⟩ | ⟨y,u,rfl,e⟩
   ·injection e with e1 _;rw[e1]
   ·exact nomatch e
  ·rcases ed hb with⟨j,u,rfl,e⟩ | ⟨y,u,rfl,e⟩
   ·exact nomatch e
   ·injection e with e1 _;rw[e1]
 byValue:=fun k v h=>by
  rcases ed h with⟨i,t,rfl,rfl⟩ | ⟨x,t,rfl,rfl⟩<;>rfl
 pyHash:=fun hv h=>by
  rcases ed hv with⟨i,t,rfl,rfl⟩ | ⟨x,t,rfl,rfl⟩
  ·exact wpAny_pyHash_int h
  ·exact wpAny_pyHash_str h
 eqBool:=fun hu hv h=>by
  rcases ed hu with⟨i,t,rfl,rfl⟩ | ⟨x,t,rfl,rfl⟩
  ·rcases ed hv with⟨j,u,rfl,rfl⟩ | ⟨y,u,rfl,rfl⟩
   ·rw[yl]at h;exact wpAny_eqBool_int h
   ·rw[Bk]at h;exact SeqAt.EqAt.int_str i t y u _ _ _ _ h
  ·rcases ed hv with⟨j,u,rfl,rfl⟩ | ⟨y,u,rfl,rfl⟩
   ·rw[BA]at h;exact SeqAt.EqAt.str_int x t j u _ _ _ _ h
   ·rw[zu]at h;exact wpAny_eqBool_str h
 «strs»:=fun k x t v h=>by
  rcases ed h with⟨i,u,rfl,e⟩ | ⟨y,u,rfl,e⟩
  ·exact nomatch e
  ·injection e with e1 _
   subst e1
   cases v<;>rfl
theorem Bd(prog:Program)(w:World)(i:Int)(t:Tok):(aN prog w).is (.inl i) (.int i t)=true:=Ba i t
theorem la(prog:Program)(w:World)(x:Str)(t:Tok):(aN prog w).is (.inr x) (.str x t)=true:=Bi x t
end L2
namespace L2
open PySem PySem.Spec PyProof.Rows
inductive V where
 | non | bl (b:Bool) | int (i:Int) | str (x:Str) | byt (b:Array UInt8) | flt (b:UInt64) | ref (a:Addr) | ty (n:String)
 deriving DecidableEq
def RelV:V->Value->Prop
 | .non,u=>u=Value.none
 | .bl b,u=>u=Value.bool b
 | .int i,u=>∃t,u=Value.int i t
 | .str x,u=>∃t,u=Value.str x t
 | .byt b,u=>∃t,u=Value.bytes b t
 | .flt b,u=>∃t,u=Value.float b t
 | .ref a,u=>u=Value.ref a
 | .ty n,u=>u=Value.type n
abbrev Vals:List V->List Value->Prop:=Paired RelV
theorem Vals.length{xs:List V}{us:List Value}(r:Vals xs us):xs.length=us.length:=Paired.length r
theorem Vals.get:∀{xs:List V} {us:List Value} {i:Nat} {x:V},Vals xs us->xs[i]?=some x->∃u,us[i]?=some u/\RelV x u
 | _,_,_,_,.nil,e=>by simp at e
 | _,_,0,_,.cons r _,e=>by simp at e;subst e;exact⟨_,rfl,r⟩
 | _,_,i+1,x,.cons _ t,e=>by
  obtain⟨u,h1,h2⟩:=Vals.get (i:=i) (x:=x) t (by simpa using e)
  exact⟨u,by simpa using h1,h2⟩
theorem Vals.append:∀{xs ys:List V} {us ws:List Value},Vals xs us->Vals ys ws->Vals (xs++ys) (us++ws)
 | _,_,_,_,.nil,s=>s
 | _,_,_,_,.cons r t,s=>.cons r (Vals.append t s)
theorem Vals.take:∀{xs:List V} {us:List Value} (n:Nat),Vals xs us->Vals (xs.take n) (us.take n)
 | _,_,0,_=>.nil
 | _,_,_+1,.nil=>.nil
 | _,_,n+1,.cons r t=>.cons r (Vals.take n t)
theorem Vals.drop:∀{xs:List V} {us:List Value} (n:Nat),Vals xs us->Vals (xs.drop n) (us.drop n)
 | _,_,0,r=>r
 | _,_,_+1,.nil=>.nil
 | _,_,n+1,.cons _ t=>Vals.drop n t
def fV:Option V->Option Value->Prop
 | some v,some u=>RelV v u
 | none,none=>True
 | _,_=>False
def KV{κ:Type}:List (κ×V)->List (κ×Value)->Prop:=Paired fun(p:κ×V) (q:κ×Value)=>p.1=q.1/\RelV p.2 q.2
def kV:Key->V
 | .inl i=>.int i
 | .inr x=>.str x
inductive HO where
 /-- a list -/
 | lst (xs:List V)
 /-- a tuple (never changes) -/
 | tup (xs:List V)
 /-- a dict whose keys are ints and texts;one whose keys are tuples of ints and texts (the empty one is both) -/
 | dK (kvs:List (Key×V)) | dT (kvs:List (List Key×V))
 /-- a set of ints: its members,its size -/
 | set (S:Int->Bool) (n:Nat)
 /-- an instance of the class at C,its dict at dx,its attributes -/
 | ins (C dx:Addr) (fs:List (Str×V))
 /-- the dict of the instance at x -/
 | own (x:Addr)
 /-- the dict of an exception -/
 | xd (fs:List (Str×V))
 /-- a bound method,f of x -/
 | met (f x:Addr)
 /-- a range object lo,lo+1,.. below hi -/
 | rng (lo hi:Int)
 /-- a thing that is known to the object (the script;a dict while a loop walks it): read,never written while it is so -/
 | frz (o:Obj) (u:HO)
 /-- a code object's table -/
 | tbl (ps:Array Value)
 /-- any other thing,by what is true of its one object (a def of one's own: jH a S n:=HO.ext fun h=>..) -/
 | ext (φ:Heap->Prop)
abbrev Hp:=Addr->Option HO
def upd(H:Hp)(a:Addr)(o:HO):Hp:=fun b=>if b=a then some o else H b
theorem aY{H:Hp}{a:Addr}{o:HO}:upd H a o a=some o:=by unfold upd;rw[DQ rfl]
theorem aT{H:Hp}{a b:Addr}{o:HO}(h:b≠a):upd H a o b=H b:=by unfold upd;rw[DP h]
theorem gr{H:Hp}{a b:Addr}{o u:HO}(h:H a=some o)(h':H b=some u)(d:o≠u):a≠b:=by
 intro e;subst e;rw[h]at h';exact d (DC h')
theorem dg{H:Hp}{a b:Addr}{o:HO}(h:H a=some o)(h':H b=none):a≠b:=by
 intro e;subst e;rw[h]at h';cases h'
section
variable (P:Program) (w:World)
def bP(H:Hp)(h:Heap)(a:Addr):HO->Prop
 | .lst xs=>xs.length<=sizeLine/\∃(its:List Value) (n:Nat),Vals xs its/\h.get? a=some { cls:=.type "list",data:=.seq its.toArray n }
 | .tup xs=>xs.length<=sizeLine/\∃its:List Value,Vals xs its/\IsTup h a its.toArray
 | .dK kvs=>kvs.length<=sizeLine/\(a == sysModules)=false/\∃vs,KV kvs vs/\h.DictOf (aN P w) a vs
 | .dT kvs=>kvs.length<=sizeLine/\(a == sysModules)=false/\∃xs:List (List Key×Addr×Value),
   Paired (fun(p:List Key×V) (q:List Key×Addr×Value)=>p.1=q.1/\H q.2.1=some (.tup (p.1.map kV))/\RelV p.2 q.2.2) kvs xs ∧
   ∃o es ep,h.get? a=some o/\o.ExactDict/\o.data=.dict es ep/\es.toList=xs.map (entryOfKey (tupleKind (aN P w)))/\(xs.map (·.1)).Nodup
 | .set S n=>h.SetOf (intKind P w) a S n
 | .ins C dx fs=>H dx=some (.own a)/\fs.length<=1000/\dx≠a/\h.get? a=some (PySem.W.instObj C dx) ∧
   ∃mA,h.Ns1 dx mA/\(∀f,fV (fs.lookup f) (mA f))/\PySem.Within mA (fs.map (·.1))
 | .own _=>∃o,h.get? a=some o
 | .xd fs=>∃mA,h.Ns1 a mA/\∀f,fV (fs.lookup f) (mA f)
 | .rng lo hi=>∃t u v,h.get? a=some { cls:=.type "range",data:=.fields #[.int lo t,.int hi u,.int 1 v] }
 | .frz o u=>h.get? a=some o/\bP H h a u
 | .tbl ps=>h.get? a=some { cls:=.none,data:=.fields ps }
 | .met f x=>h.get? a=some (PySem.W.methodObj (.ref f) (.ref x))
 | .ext φ=>φ h/\(∃o,h.get? a=some o)/\∀h1 h2:Heap,φ h1->(∀o,h1.get? a=some o->h2.get? a=some o)->φ h2
def bD(H:Hp)(h:Heap):Prop:=∀a o,H a=some o->bP P w H h a o
end
section
variable {P:Program} {w:World} {H H':Hp} {h h':Heap} {a:Addr} {o:HO}
theorem bP.lt(x:bP P w H h a o):a<h.objs.size:=by
 cases o with
 | lst xs=>obtain⟨_,_,_,_,e⟩:=x;exact CM e
 | tup xs=>obtain⟨_,_,_,p⟩:=x;exact p.lt
 | dK kvs=>obtain⟨_,_,_,_,o,_,_,e,_⟩:=x;exact CM e
 | dT kvs=>obtain⟨_,_,_,_,o,_,_,e,_⟩:=x;exact CM e
 | set S n=>obtain⟨o,_,_,_,e,_⟩:=x;exact CM e
 | ins C dx fs=>obtain⟨_,_,_,e,_⟩:=x;exact CM e
 | own y=>obtain⟨_,e⟩:=x;exact CM e
 | xd fs=>obtain⟨_,⟨_,_,_,e,_⟩,_⟩:=x;exact CM e
 | rng lo hi=>obtain⟨_,_,_,e⟩:=x;exact CM e
 | frz ob u=>obtain⟨e,_⟩:=x;exact CM e
 | tbl ps=>exact CM (show h.get? a=some _ from x)
 | met f y=>exact CM (show h.get? a=some _ from x)
 | ext φ=>obtain⟨_,⟨_,e⟩,_⟩:=x;exact CM e
theorem Paired.mapP{α β:Type}{F G:α->β->Prop}:∀{l₁:List α} {l₂:List β},Paired F l₁ l₂->(∀a b,F a b->G a b)->Paired G l₁ l₂
 | _,_,.nil,_=>.nil
 | _,_,.cons r t,f=>.cons (f _ _ r) (Paired.mapP t f)
theorem bP.stay(x:bP P w H h a o)(k:∀b u,(b=a\/H b=some (.own a))->h.get? b=some u->h'.get? b=some u)
  (ho:∀b,H b=some (.own a)->H' b=some (.own a)) (ht:∀b xs,H b=some (.tup xs)->H' b=some (.tup xs)):bP P w H' h' a o:=by
 induction o with
 | lst xs=>obtain⟨z,its,n,r,e⟩:=x;exact⟨z,its,n,r,k _ _ (.inl rfl) e⟩
 | tup xs=>obtain⟨z,its,r,ob,e,c⟩:=x;exact⟨z,its,r,ob,k _ _ (.inl rfl) e,c⟩
 | dK kvs=>obtain⟨z,y,vs,r,ob,es,ep,e,c⟩:=x;exact⟨z,y,vs,r,ob,es,ep,k _ _ (.inl rfl) e,c⟩
 | dT kvs=>
  obtain⟨z,y,xs,r,ob,es,ep,e,c⟩:=x
  exact⟨z,y,xs,Paired.mapP r fun p q z=>⟨z.1,ht _ _ z.2.1,z.2.2⟩,ob,es,ep,k _ _ (.inl rfl) e,c⟩
 | set S n=>obtain⟨ob,es,ep,t,e,c⟩:=x;exact⟨ob,es,ep,t,k _ _ (.inl rfl) e,c⟩
 | ins C dx fs=>
  obtain⟨d,z,ne,e,mA,⟨od,es,ep,e2,c⟩,r⟩:=x
  exact⟨ho _ d,z,ne,k _ _ (.inl rfl) e,mA,⟨od,es,ep,k _ _ (.inr d) e2,c⟩,r⟩
 | own y=>obtain⟨ob,e⟩:=x;exact⟨ob,k _ _ (.inl rfl) e⟩
 | xd fs=>obtain⟨mA,⟨od,es,ep,e,c⟩,r⟩:=x;exact⟨mA,⟨od,es,ep,k _ _ (.inl rfl) e,c⟩,r⟩
 | rng lo hi=>obtain⟨t,u,v,e⟩:=x;exact⟨t,u,v,k _ _ (.inl rfl) e⟩
 | frz ob u ih=>obtain⟨e,q⟩:=x;exact⟨k _ _ (.inl rfl) e,ih q⟩
 | tbl ps=>
  have e:h.get? a=some { cls:=.none,data:=.fields ps }:=x
  show h'.get? a=some { cls:=.none,data:=.fields ps }
  exact k a _ (.inl rfl) e
 | met f y=>
  have e:h.get? a=some (PySem.W.methodObj (.ref f) (.ref y)):=x
  show h'.get? a=some (PySem.W.methodObj (.ref f) (.ref y))
  exact k a _ (.inl rfl) e
 | ext φ=>obtain⟨p,⟨o,e⟩,st⟩:=x;exact⟨st _ _ p fun o q=>k _ _ (.inl rfl) q,⟨o,k _ _ (.inl rfl) e⟩,st⟩
theorem bD.lt(x:bD P w H h)(e:H a=some o):a<h.objs.size:=(x a o e).lt
theorem bD.fresh(x:bD P w H h)(e:h.objs.size<=a):H a=none:=by
 cases q:H a with
 | none=>rfl
 | some u=>exact absurd (Du (x.lt q) e) (Nat.lt_irrefl _)
theorem bD.kept(x:bD P w H h)(k:∀b u,h.get? b=some u->h'.get? b=some u):bD P w H h':=fun a o e=>
 (x a o e).stay (fun b u _ q=>k b u q) (fun _ q=>q) fun _ _ q=>q
theorem bD.laid(x:bD P w H h)(k:∀b u,h.get? b=some u->h'.get? b=some u)(hp:h.objs.size<=a)(new:bP P w (upd H a o) h' a o):bD P w (upd H a o) h':=fun b u e=>by
 have hn:=x.fresh hp
 by_cases hb:b=a
 ·subst hb;rw[aY]at e;cases e;exact new
 ·rw[aT hb]at e
  exact(x b u e).stay (fun c v _ q=>k c v q) (fun c q=>by rw[aT (dg q hn)];exact q) fun c xs q=>by rw[aT (dg q hn)];exact q
end
def Rd(H:Hp)(a:Addr)(u:HO):Prop:=H a=some u\/∃o,H a=some (.frz o u)
theorem Rd.ok{P:Program}{w:World}{H:Hp}{h:Heap}{a:Addr}{u:HO}(r:Rd H a u)(x:bD P w H h):bP P w H h a u:=by
 rcases r with r | ⟨o,r⟩
 ·exact x a u r
 ·obtain⟨_,q⟩:=x a _ r
  exact q
def jb:Option HO->Prop
 | some (.lst _)=>True
 | some (.dK _)=>True
 | some (.dT _)=>True
 | some (.set _ _)=>True
 | some (.ins _ _ _)=>True
 | some (.ext _)=>True
 | _=>False
section
variable {P:Program} {w:World} {H:Hp} {h h':Heap} {x e:Addr} {o':HO}
theorem bD.write(ok:bD P w H h)(mu:jb (H x))(he:e=x\/H e=some (.own x))(k:∀b u,b≠e->h.get? b=some u->h'.get? b=some u)(heo:∃u,h'.get? e=some u)
  (new:bP P w (upd H x o') h' x o'):bD P w (upd H x o') h':=fun b u q=>by
 have nown:∀c y,H c=some (.own y)->c≠x:=fun c y r z=>by subst z;rw[r]at mu;exact mu
 have ntup:∀c xs,H c=some (.tup xs)->c≠x:=fun c xs r z=>by subst z;rw[r]at mu;exact mu
 by_cases hb:b=x
 ·subst hb;rw[aY]at q;cases q;exact new
 ·rw[aT hb]at q
  by_cases hbe:b=e
  ·have q':H b=some (.own x):=by
    rcases he with z | z
    ·exact absurd (hbe.trans z) hb
    ·rw[hbe];exact z
   rw[q]at q';cases q'
   obtain⟨v,hv⟩:=heo
   exact⟨v,by rw[hbe];exact hv⟩
  ·refine(ok b u q).stay (fun c v hc r=>k c v ?_ r) (fun c r=>by rw[aT (nown c b r)];exact r) fun c xs r=>by rw[aT (ntup c xs r)];exact r
   rcases hc with rfl | hc
   ·exact hbe
   ·rintro rfl
    rcases he with z | z
    ·exact nown c b hc z
    ·rw[hc]at z;cases z;exact hb rfl
end
structure Un(fs ex:List Addr)(H H':Hp)(h h':Heap):Prop where
 keep:∀b o,h.get? b=some o->H b=none->b∉fs->b∉ex->h'.get? b=some o
 slot:∀b o,h.get? b=some o->H b=none->b∈fs->b∉ex->∃sl,h'.get? b=some { o with slots:=sl }
 free:∀b o,h.get? b=some o->H b=none->b∉ex->H' b=none
 there:∀b o,h.get? b=some o->b∉ex->∃o',h'.get? b=some o'
 tups:∀b xs,H b=some (.tup xs)->H' b=some (.tup xs)
 frzs:∀b o u,H b=some (.frz o u)->H' b=some (.frz o u)
 tbls:∀b ps,H b=some (.tbl ps)->∃more,H' b=some (.tbl (ps++more))
section
variable {fs fs' ex ex':List Addr} {H H1 H2:Hp} {h h1 h2 h':Heap} {a x e:Addr} {o:HO}
theorem Un.any(u:Un fs ex H H1 h h1){b:Addr}{ob:Obj}(q:h.get? b=some ob)(n:H b=none)(hx:b∉ex):∃sl,h1.get? b=some { ob with slots:=sl }:=by
 by_cases hb:b∈fs
 ·exact u.slot b ob q n hb hx
 ·exact⟨ob.slots,u.keep b ob q n hb hx⟩
theorem Un.kept(k:∀b u,h.get? b=some u->h'.get? b=some u):Un fs ex H H h h':=
 ⟨fun b ob q _ _ _=>k b ob q,fun b ob q _ _ _=>⟨ob.slots,k b ob q⟩,fun _ _ _ n _=>n,fun b ob q _=>⟨ob,k b ob q⟩,fun _ _ q=>q,fun _ _ _ q=>q,fun _ ps q=>⟨#[],by rw[q];simp⟩⟩
theorem Un.refl:Un fs ex H H h h:=Un.kept fun _ _ q=>q
theorem Un.laid(k:∀b u,h.get? b=some u->h'.get? b=some u)(hp:h.objs.size<=a)(hn:H a=none):Un fs ex H (upd H a o) h h' where
 keep:=fun b u q _ _ _=>k b u q
 slot:=fun b u q _ _ _=>⟨u.slots,k b u q⟩
 free:=fun b u q n _=>by rw[aT (Di (Du (CM q) hp))];exact n
 there:=fun b u q _=>⟨u,k b u q⟩
 tups:=fun b xs q=>by rw[aT (dg q hn)];exact q
 frzs:=fun b u xs q=>by rw[aT (dg q hn)];exact q
 tbls:=fun b ps q=>⟨#[],by rw[aT (dg q hn),q];simp⟩
theorem Un.write(mu:jb (H x))(he:e=x\/H e=some (.own x))(k:∀b u,b≠e->h.get? b=some u->h'.get? b=some u)(heo:∃u,h'.get? e=some u):Un fs ex H (upd H x o) h h':=by
 have hx:∀b,H b=none->b≠x:=fun b n z=>by subst z;rw[n]at mu;exact mu
 have hb:∀b,H b=none->b≠e:=fun b n z=>by
  subst z
  rcases he with r | r
  ·exact hx b n r
  ·rw[n]at r;cases r
 have hm:∀b u,H b=some u->¬jb (some u)->b≠x:=fun b u q nm z=>by subst z;rw[q]at mu;exact nm mu
 refine⟨fun b u q n _ _=>k b u (hb b n) q,fun b u q n _ _=>⟨u.slots,k b u (hb b n) q⟩,fun b u q n _=>by rw[aT (hx b n)];exact n,fun b u q _=>?_,
  fun b xs q=>by rw[aT (hm b _ q fun z=>z)];exact q,fun b u xs q=>by rw[aT (hm b _ q fun z=>z)];exact q,fun b ps q=>⟨#[],by rw[aT (hm b _ q fun z=>z),q];simp⟩⟩
 by_cases hbe:b=e
 ·subst hbe;exact heo
 ·exact⟨u,k b u hbe q⟩
end
def eS(h:Heap)(H:Hp):List Addr:=(DM h.objs.size).filter fun a=>(H a).isSome
def eo(h:Heap)(H:Hp):Heap:=PySem.W.hideAll h (eS h H)
theorem zM(h:Heap)(H:Hp):(eo h H).objs.size=h.objs.size:=PySem.W.hideAll_size _ _
theorem Cr{h:Heap}{H:Hp}{b:Addr}{o:Obj}(e:h.get? b=some o)(n:H b=none):(eo h H).get? b=some o:=
 PySem.W.hideAll_get _ e fun hm=>by
  have q:(H b).isSome=true:=(List.mem_filter.mp hm).2
  rw[n]at q;simp at q
theorem vX{h:Heap}{H:Hp}{b:Addr}{o:Obj}(e:(eo h H).get? b=some o):h.get? b=some o/\H b=none:=by
 have e':h.get? b=some o:=PySem.W.of_hideAll (eS h H) e
 refine⟨e',?_⟩
 cases q:H b with
 | none=>rfl
 | some x=>
  have hm:b∈eS h H:=List.mem_filter.mpr ⟨List.mem_range.mpr (CM e'),by simp[q]⟩
  have z:(eo h H).get? b=none:=PySem.W.hideAll_none (eS h H) hm
  rw[z]at e;cases e
end L2
namespace L2
open PySem PySem.Spec PyProof.Rows
structure Mod(K:CJ)(mg:Str->Option Value)(base:Heap):Prop where
 kin:K.In base
 glob:base.Ns mainGlobals mg
 blt:∃mb,base.Ns builtinsNs mb/\∀x:Str,x≠"__name__"->mb x=bootBuiltins x
 nolimit:base.NoLimit
structure Cx where
 prog:Program
 w:World
 K:CJ
 mg:Str->Option Value
 base:Heap
 A:Around
 N:List Str
 s₀:Shared
 H₀:Hp
 env:Env
 outer:List Env
 stack:List Env
 ex:List Addr
 fn:Str->Bool
 calm:Bool
 pn:List (Addr×Obj)
 xe:Value->Shared->Prop
def aS(l:List Env):List Addr:=l.filterMap (·.frame)
abbrev Cx.fs(X:Cx):List Addr:=aS X.outer
def mi(sc:Scope)(x:Str):Prop:=sc.names.lookup x=some .local\/sc.names.lookup x=some .cell\/sc.names.lookup x=some .free
def Loc(sc:Scope)(x:Str):Prop:=sc.names.lookup x=some .local\/sc.names.lookup x=some .cell
def Look(env:Env)(h:Heap)(m:Str->Option Value)(x:Str)(u:Value):Prop:=
 (env.kindOf x=some .local/\m x=some u)\/((env.kindOf x=some .cell\/env.kindOf x=some .free)/\∃c,env.cells.lookup x=some c/\h.IsCell c (some u))
structure Cx.Ok(X:Cx):Prop where
 mod:Mod X.K X.mg X.base
 kind:X.env.scope.kind=.function
 glob:X.env.globals=mainGlobals
 blt:X.env.builtins=builtinsNs
 above:X.s₀.heap.objs.size<=X.env.locals
 inj:∀x y c,X.env.cells.lookup x=some c->X.env.cells.lookup y=some c->x=y
 has:∀x,(X.env.kindOf x=some .cell\/X.env.kindOf x=some .free)->∃c,X.env.cells.lookup x=some c
 cab:∀x c,X.fn x=true->X.env.cells.lookup x=some c->X.s₀.heap.objs.size<=c
 hd:X.calm=true->X.A.handled=none
 frames:X.A.frames=some X.stack
 stk:X.stack=X.outer\/(X.stack=X.env::X.outer/\X.env.frame=some X.env.locals)
 exf:∀b∈X.ex,b≠X.env.locals/\∀x c,X.env.cells.lookup x=some c->c≠b
 bs:∀b o,X.base.get? b=some o->X.s₀.heap.get? b=some o/\X.H₀ b=none
 bsz:X.base.objs.size<=X.s₀.heap.objs.size
 noex:∀b o,X.base.get? b=some o->b∉X.ex
 exfs:∀b∈X.ex,b∉X.fs
 funs:X.s₀.heap.FunFrames X.base X.outer
 frf:∀b∈X.fs,X.H₀ b=none
structure Inv(X:Cx)(pins:List (Addr×Obj))(σ:List (Option V))(H:Hp)(s:Shared):Prop where
 ok:X.Ok
 os:s.os=X.s₀.os
 bare:AllBare s.gens
 base:Un X.fs X.ex X.H₀ H X.s₀.heap s.heap
 loc:∃m,s.heap.Ns X.env.locals m/\∀(i:Nat) (x:Str) (v:V),X.N[i]?=some x->σ[i]?=some (some v)->mi X.env.scope x->∃u,RelV v u/\Look X.env s.heap m x u
 cell:∀x c,X.env.cells.lookup x=some c->∃v,s.heap.IsCell c v
 free:H X.env.locals=none
 freeC:∀x c,X.env.cells.lookup x=some c->H c=none
 pin:∀p∈X.pn++pins,s.heap.get? p.1=some p.2/\H p.1=none/\p.1≠X.env.locals/\p.1∉X.fs/\∀v,p.2.data≠.cell v
 hok:bD X.prog X.w H s.heap
 len:σ.length=X.N.length
section
variable {X:Cx} {pins:List (Addr×Obj)} {σ:List (Option V)} {H H':Hp} {s:Shared} {h':Heap}
theorem Cx.Ok.nofr(ok:X.Ok){b:Addr}{o:Obj}(e:X.base.get? b=some o):b∉X.fs:=fun hb=>by
 have:=(ok.funs.mem hb).1
 rw[e]at this;cases this
theorem Inv.bs(I:Inv X pins σ H s):∀b o,X.base.get? b=some o->s.heap.get? b=some o/\H b=none:=fun b o e=>
 ⟨I.base.keep b o (I.ok.bs b o e).1 (I.ok.bs b o e).2 (I.ok.nofr e) (I.ok.noex b o e),I.base.free b o (I.ok.bs b o e).1 (I.ok.bs b o e).2 (I.ok.noex b o e)⟩
theorem Inv.bk(I:Inv X pins σ H s):∀b o,X.base.get? b=some o->s.heap.get? b=some o:=fun b o e=>(I.bs b o e).1
theorem Inv.mod(I:Inv X pins σ H s):Mod X.K X.mg X.base:=I.ok.mod
theorem Inv.kIn(I:Inv X pins σ H s):X.K.In s.heap:=I.ok.mod.kin.keeps I.bk
theorem Inv.lt(I:Inv X pins σ H s):X.env.locals<s.heap.objs.size:=let ⟨_,hn,_⟩:=I.loc;hn.lt
theorem Inv.sz(I:Inv X pins σ H s):X.s₀.heap.objs.size<=s.heap.objs.size:=Dv I.ok.above (Nat.le_of_lt I.lt)
theorem Inv.nofs(I:Inv X pins σ H s){a:Addr}(h:s.heap.objs.size<=a):a∉X.fs:=fun hb=>by
 obtain⟨_,o,ho,_⟩:=I.ok.funs.mem hb
 exact absurd (Du (CM ho) (Dv I.sz h)) (Nat.lt_irrefl _)
theorem Inv.cne(I:Inv X pins σ H s):∀x c,X.env.cells.lookup x=some c->c≠X.env.locals:=fun x c e z=>by
 obtain⟨v,o,ho,hd⟩:=I.cell x c e
 obtain⟨m,⟨o',es,ep,ho',hd',_⟩,_⟩:=I.loc
 rw[z,ho']at ho;cases ho;rw[hd']at hd;cases hd
theorem Inv.funs(I:Inv X pins σ H s):s.heap.FunFrames X.base X.outer:=by
 have all:∀(l:List Env),(∀b∈aS l,b∈X.fs)->X.s₀.heap.FunFrames X.base l->s.heap.FunFrames X.base l:=by
  intro l
  induction l with
  | nil=>intro _ _;trivial
  | cons env r ih=>
   intro hs hl
   obtain⟨hk,⟨L,o,hf,hn,ho,hd⟩,hr⟩:=hl
   have hL:L∈X.fs:=hs L (by unfold aS;rw[List.filterMap_cons,hf];exact CU)
   obtain⟨sl,e⟩:=I.base.slot L o ho (I.ok.frf L hL) hL fun z=>I.ok.exfs L z hL
   exact⟨hk,⟨L,_,hf,hn,e,hd⟩,ih (fun b hb=>hs b (by unfold aS;rw[List.filterMap_cons,hf];exact CQ _ hb)) hr⟩
 exact all X.outer (fun _ hb=>hb) I.ok.funs
theorem Inv.stack(I:Inv X pins σ H s):s.heap.FunFrames X.base X.stack:=by
 rcases I.ok.stk with e | ⟨e,hf⟩
 ·rw[e];exact I.funs
 ·rw[e]
  obtain⟨m,hn,_⟩:=I.loc
  refine .cons (by rw[I.ok.kind];decide) hf hn ?_ I.funs
  exact Heap.get?_none_of_le (Dv I.ok.bsz I.ok.above)
theorem Inv.stkSub(I:Inv X pins σ H s):∀b∈aS X.stack,b∈X.env.locals::X.fs:=fun b hb=>by
 rcases I.ok.stk with e | ⟨e,hf⟩
 ·rw[e]at hb;exact CQ _ hb
 ·rw[e]at hb
  unfold aS at hb
  rw[List.filterMap_cons,hf]at hb
  exact hb
theorem Inv.stkFree(I:Inv X pins σ H s):∀b∈aS X.stack,H b=none:=fun b hb=>by
 rcases De.mp (I.stkSub b hb)with e | hb
 ·rw[e];exact I.free
 ·obtain⟨_,o,ho,_⟩:=I.ok.funs.mem hb
  exact I.base.free b o ho (I.ok.frf b hb) fun z=>I.ok.exfs b z hb
theorem Inv.step{g':Array GenState}{t':Nat}{d':Drawn}{ch:List Addr}(I:Inv X pins σ H s)
  (hch:∀b∈ch,(b∈X.ex\/X.s₀.heap.objs.size<=b)/\b≠X.env.locals/\(∀x c,X.env.cells.lookup x=some c->c≠b)/\∀p∈X.pn++pins,p.1≠b)
  (keep:∀b o,b≠X.env.locals->b∉X.fs->b∉ch->s.heap.get? b=some o->H b=none->h'.get? b=some o)
  (slot:∀b o,b≠X.env.locals->b∈X.fs->b∉ch->s.heap.get? b=some o->H b=none->∃sl,h'.get? b=some { o with slots:=sl }) (free:∀b o,b∉ch->s.heap.get? b=some o->H b=none->H' b=none)
  (there:∀b o,b∉ch->s.heap.get? b=some o->∃o',h'.get? b=some o')
  (tups:∀b xs,H b=some (.tup xs)->H' b=some (.tup xs)) (frzs:∀b o u,H b=some (.frz o u)->H' b=some (.frz o u)) (tbls:∀b ps,H b=some (.tbl ps)->∃more,H' b=some (.tbl (ps++more)))
  (ns:∀m,s.heap.Ns X.env.locals m->h'.Ns X.env.locals m) (hok:bD X.prog X.w H' h') (hg:AllBare g') :
  Inv X pins σ H' { s with heap:=h',gens:=g',drawn:=d',toks:=t' }:=by
 have neL:∀b o,X.s₀.heap.get? b=some o->b≠X.env.locals:=fun b o e=>Di (Du (CM e) I.ok.above)
 have neC:∀b o,X.s₀.heap.get? b=some o->b∉X.ex->b∉ch:=fun b o e hx hb=>by
  rcases(hch b hb).1 with z | z
  ·exact hx z
  ·exact absurd (Du (CM e) z) (Nat.lt_irrefl _)
 have cellK:∀x c,X.env.cells.lookup x=some c->∀v,s.heap.IsCell c v->h'.IsCell c v:=fun x c e v ⟨o,ho,hd⟩=>by
  have nch:c∉ch:=fun z=>(hch c z).2.2.1 x c e rfl
  by_cases hc:c∈X.fs
  ·obtain⟨sl,q⟩:=slot c o (I.cne x c e) hc nch ho (I.freeC x c e)
   exact⟨_,q,hd⟩
  ·exact⟨o,keep c o (I.cne x c e) hc nch ho (I.freeC x c e),hd⟩
 refine⟨I.ok,I.os,hg,⟨fun b o e n hb hx=>?_,fun b o e n hb hx=>?_,fun b o e n hx=>?_,fun b o e hx=>?_,fun b xs e=>tups b xs (I.base.tups b xs e),fun b o xs e=>frzs b o xs (I.base.frzs b o xs e),fun b ps e=>?_⟩,?_,fun x c e=>?_,?_,fun x c e=>?_,fun p hp=>?_,hok,I.len⟩
 ·exact keep b o (neL b o e) hb (neC b o e hx) (I.base.keep b o e n hb hx) (I.base.free b o e n hx)
 ·obtain⟨sl,e1⟩:=I.base.slot b o e n hb hx
  obtain⟨sl',e2⟩:=slot b _ (neL b o e) hb (neC b o e hx) e1 (I.base.free b o e n hx)
  exact⟨sl',e2⟩
 ·obtain⟨o',e1⟩:=I.base.there b o e hx
  exact free b o' (neC b o e hx) e1 (I.base.free b o e n hx)
 ·obtain⟨o',e1⟩:=I.base.there b o e hx
  exact there b o' (neC b o e hx) e1
 ·obtain⟨m1,e1⟩:=I.base.tbls b ps e
  obtain⟨m2,e2⟩:=tbls b _ e1
  exact⟨m1++m2,by rw[e2,Array.append_assoc]⟩
 ·obtain⟨m,hn,hl⟩:=I.loc
  refine⟨m,ns m hn,fun i x v e1 e2 e3=>?_⟩
  obtain⟨u,r,l⟩:=hl i x v e1 e2 e3
  refine⟨u,r,?_⟩
  rcases l with l | ⟨k,c,e,z⟩
  ·exact .inl l
  ·exact .inr ⟨k,c,e,cellK x c e _ z⟩
 ·obtain⟨v,z⟩:=I.cell x c e
  exact⟨v,cellK x c e v z⟩
 ·obtain⟨m,⟨o,_,_,ho,_⟩,_⟩:=I.loc
  exact free _ o (fun z=>(hch _ z).2.1 rfl) ho I.free
 ·obtain⟨v,o,ho,hd⟩:=I.cell x c e
  exact free c o (fun z=>(hch c z).2.2.1 x c e rfl) ho (I.freeC x c e)
 ·obtain⟨e,n,ne,nf,d⟩:=I.pin p hp
  have nch:p.1∉ch:=fun z=>(hch p.1 z).2.2.2 p hp rfl
  exact⟨keep p.1 p.2 ne nf nch e n,free p.1 p.2 nch e n,ne,nf,d⟩
theorem Inv.un{t':Nat}(I:Inv X pins σ H s)(u:Un X.fs [] H H' s.heap h')(hok:bD X.prog X.w H' h'):Inv X pins σ H' { s with heap:=h',toks:=t' }:=by
 obtain⟨m,⟨o,es,ep,ho,r⟩,_⟩:=id I.loc
 obtain⟨sl,hL⟩:=u.any ho I.free (by simp)
 exact I.step (g':=s.gens) (d':=s.drawn) (ch:=[]) (fun _ z=>nomatch z) (fun b o _ hb _ e n=>u.keep b o e n hb (by simp)) (fun b o _ hb _ e n=>u.slot b o e n hb (by simp)) (fun b o _ e n=>u.free b o e n (by simp)) (fun b o _ e=>u.there b o e (by simp)) u.tups u.frzs u.tbls (fun m' hm=>by
  obtain⟨o',es',ep',ho',r'⟩:=hm
  rw[ho]at ho';cases ho'
  exact⟨_,es',ep',hL,r'⟩) hok I.bare
theorem Inv.call{g':Array GenState}{t':Nat}{d':Drawn}{ch:List Addr}(I:Inv X pins σ H s)(u:Un (aS X.stack) ch H H' s.heap h')(hok:bD X.prog X.w H' h')(hg:AllBare g')
  (hch:∀b∈ch,(b∈X.ex\/X.s₀.heap.objs.size<=b)/\b≠X.env.locals/\(∀x c,X.env.cells.lookup x=some c->c≠b)/\∀p∈X.pn++pins,p.1≠b) :
  Inv X pins σ H' { s with heap:=h',gens:=g',drawn:=d',toks:=t' }:=by
 obtain⟨m,⟨o,es,ep,ho,r⟩,_⟩:=id I.loc
 obtain⟨sl,hL⟩:=u.any ho I.free fun z=>(hch _ z).2.1 rfl
 exact I.step (ch:=ch) hch (fun b o hL hb hc e n=>u.keep b o e n (fun z=>(De.mp (I.stkSub b z)).elim hL hb) hc) (fun b o _ _ hc e n=>u.any e n hc) (fun b o hc e n=>u.free b o e n hc) (fun b o hc e=>u.there b o e hc) u.tups u.frzs u.tbls (fun m' hm=>by
  obtain⟨o',es',ep',ho',r'⟩:=hm
  rw[ho]at ho';cases ho'
  exact⟨_,es',ep',hL,r'⟩) hok hg
theorem Inv.turned{t':Nat}{it:Addr}(I:Inv X pins σ H s)(k:∀b o,b≠it->s.heap.get? b=some o->h'.get? b=some o)(hn:H it=none)(hL:it≠X.env.locals)
  (h1:it∈X.ex\/X.s₀.heap.objs.size<=it) (h2:∀x c,X.env.cells.lookup x=some c->c≠it) (h3:∀p∈X.pn++pins,p.1≠it):Inv X pins σ H { s with heap:=h',toks:=t' }:=by
 have nit:∀b u,H b=some u->b≠it:=fun b u e z=>by rw[z,hn]at e;cases e
 refine I.step (g':=s.gens) (d':=s.drawn) (ch:=[it]) (fun b hb=>?_) (fun b o _ _ hc e _=>k b o (fun z=>hc (by simp[z])) e) (fun b o _ _ hc e _=>⟨o.slots,k b o (fun z=>hc (by simp[z])) e⟩) (fun _ _ _ _ n=>n)
  (fun b o hc e=>⟨o,k b o (fun z=>hc (by simp[z])) e⟩) (fun _ _ e=>e) (fun _ _ _ e=>e) (fun b ps e=>⟨#[],by rw[e];simp⟩) (fun m hm=>?_) (fun b u e=>?_) I.bare
 ·have e:b=it:=by simpa using hb
  subst e
  exact⟨h1,hL,h2,h3⟩
 ·obtain⟨o,es,ep,ho,r⟩:=hm
  exact⟨o,es,ep,k _ o (Ne.symm hL) ho,r⟩
 ·refine(I.hok b u e).stay (fun c v hc q=>k c v ?_ q) (fun _ q=>q) fun _ _ q=>q
  rcases hc with z | z
  ·rw[z];exact nit b u e
  ·exact nit c _ z
theorem Inv.tok(I:Inv X pins σ H s)(t:Nat):Inv X pins σ H { s with toks:=t }:=I.un (h':=s.heap) (t':=t) Un.refl I.hok
theorem Inv.kept{t':Nat}(I:Inv X pins σ H s)(k:∀b u,s.heap.get? b=some u->h'.get? b=some u):Inv X pins σ H { s with heap:=h',toks:=t' }:=I.un (Un.kept k) (I.hok.kept k)
theorem Inv.laid{a:Addr}{o:HO}{t':Nat}(I:Inv X pins σ H s)(k:∀b u,s.heap.get? b=some u->h'.get? b=some u)(hp:s.heap.objs.size<=a)(new:bP X.prog X.w (upd H a o) h' a o):
  Inv X pins σ (upd H a o) { s with heap:=h',toks:=t' }:=I.un (Un.laid k hp (I.hok.fresh hp)) (I.hok.laid k hp new)
theorem Inv.write{x e:Addr}{o:HO}{t':Nat}(I:Inv X pins σ H s)(mu:jb (H x))(he:e=x\/H e=some (.own x))(k:∀b u,b≠e->s.heap.get? b=some u->h'.get? b=some u)(heo:∃u,h'.get? e=some u)
  (new:bP X.prog X.w (upd H x o) h' x o):Inv X pins σ (upd H x o) { s with heap:=h',toks:=t' }:=I.un (Un.write mu he k heo) (I.hok.write mu he k heo new)
theorem Inv.pins_of{pins':List (Addr×Obj)}(I:Inv X pins σ H s)(h:∀p∈pins',s.heap.get? p.1=some p.2/\H p.1=none/\p.1≠X.env.locals/\p.1∉X.fs/\∀v,p.2.data≠.cell v):Inv X pins' σ H s:=
 ⟨I.ok,I.os,I.bare,I.base,I.loc,I.cell,I.free,I.freeC,fun p hp=>(Dm.mp hp).elim (fun z=>I.pin p (DE _ z)) (h p),I.hok,I.len⟩
theorem nS{N:List Str}(hN:N.Nodup){i j:Nat}{x:Str}(a:N[i]?=some x)(b:N[j]?=some x):i=j:=by
 obtain⟨h1,e1⟩:=CW.mp a
 obtain⟨h2,e2⟩:=CW.mp b
 exact(List.getElem_inj hN).mp (e1.trans e2.symm)
theorem tU{M:Model}{A:Around}{E:Value->Shared->Prop}{i:Nat}{x:Str}{v:V}{u:Value}{Q:Unit->Shared->Prop}(I:Inv X pins σ H s)(hN:X.N.Nodup)(hi:X.N[i]?=some x)(hx:Loc X.env.scope x)(r:RelV v u)
  (h:∀s',Inv X pins (σ.set i (some v)) H s'->(∃a,Heap.SameBut a s.heap s'.heap/\(a=X.env.locals\/X.env.cells.lookup x=some a))->Q () s') (hf:X.fn x=true\/X.env.scope.names.lookup x=some .local:=by first | exact .inl rfl | exact .inr rfl | assumption):wpAny M A (storeName X.env x u) Q E s:=by
 obtain⟨m,hn,hl⟩:=id I.loc
 have hcls:(X.env.scope.kind == .class || (X.env.scope.kind == .module && X.env.locals != X.env.globals))=false:=by rw[I.ok.kind];rfl
 have hiσ:i<σ.length:=by rw[I.len];exact(CW.mp hi).1
 have cne:=I.cne
 have tracked:∀{a:Addr} {h':Heap},(∃o,s.heap.get? a=some o/\H a=none)->Heap.SameBut a s.heap h'->bD X.prog X.w H h':=fun{a h'} ha hs b ob e=>by
  obtain⟨_,_,hfree⟩:=ha
  refine(I.hok b ob e).stay (fun c w' hc q=>(hs.2 c ?_).trans q) (fun _ q=>q) fun _ _ q=>q
  rintro rfl
  rcases hc with rfl | hc
  ·rw[hfree]at e;cases e
  ·rw[hfree]at hc;cases hc
 rcases hx with hk | hk
 ·refine wpAny_storeName_local hk hn (fun h' hn' hs=>?_) hcls
  obtain⟨oL,_,_,hoL,_⟩:=id hn
  refine h _ ⟨I.ok,I.os,I.bare,⟨fun b o e n hb hx=>?_,fun b o e n hb hx=>?_,I.base.free,fun b o e hx=>?_,I.base.tups,I.base.frzs,I.base.tbls⟩,⟨_,hn',fun j y v' e1 e2 e3=>?_⟩,fun y c e=>?_,I.free,I.freeC,fun p hp=>?_,tracked ⟨oL,hoL,I.free⟩ hs,by simpa using I.len⟩ ⟨_,hs,.inl rfl⟩
  ·exact(hs.2 b (Di (Du (CM e) I.ok.above))).trans (I.base.keep b o e n hb hx)
  ·obtain⟨sl,e1⟩:=I.base.slot b o e n hb hx
   exact⟨sl,(hs.2 b (Di (Du (CM e) I.ok.above))).trans e1⟩
  ·obtain⟨o',e1⟩:=I.base.there b o e hx
   exact⟨o',(hs.2 b (Di (Du (CM e) I.ok.above))).trans e1⟩
  ·by_cases hj:j=i
   ·subst hj
    rw[hi]at e1;cases e1
    rw[List.getElem?_set_self hiσ]at e2
    cases e2
    exact⟨u,r,.inl ⟨hk,by simp⟩⟩
   ·rw[List.getElem?_set_ne (Ne.symm hj)]at e2
    obtain⟨u',r',q⟩:=hl j y v' e1 e2 e3
    refine⟨u',r',?_⟩
    rcases q with⟨k,e⟩ | ⟨k,c,e,z⟩
    ·refine .inl ⟨k,?_⟩
     have:y≠x:=fun e=>hj (nS hN e1 (e ▸ hi))
     simp[this,e]
    ·exact .inr ⟨k,c,e,z.sameBut hs (cne y c e)⟩
  ·obtain⟨w',z⟩:=I.cell y c e
   exact⟨w',z.sameBut hs (cne y c e)⟩
  ·obtain⟨e,n,ne,nf,d⟩:=I.pin p hp
   exact⟨(hs.2 p.1 ne).trans e,n,ne,nf,d⟩
 ·have hfn:X.fn x=true:=by
   rcases hf with z | z
   ·exact z
   ·rw[z]at hk;cases hk
  obtain⟨c,hc⟩:=I.ok.has x (.inl hk)
  obtain⟨w',z⟩:=I.cell x c hc
  refine wpAny_storeName_cell I.ok.kind hk hc z (fun h' hc' hs=>?_)
  obtain⟨oc,hoc,hocd⟩:=id z
  refine h { s with heap:=h' } ⟨I.ok,I.os,I.bare,⟨fun b o e n hb hx=>?_,fun b o e n hb hx=>?_,I.base.free,fun b o e hx=>?_,I.base.tups,I.base.frzs,I.base.tbls⟩,⟨m,hn.sameBut hs (Ne.symm (cne x c hc)),fun j y v' e1 e2 e3=>?_⟩,fun y c' e=>?_,I.free,I.freeC,fun p hp=>?_,tracked ⟨oc,hoc,I.freeC x c hc⟩ hs,by simpa using I.len⟩ ⟨c,hs,.inr hc⟩
  ·exact(hs.2 b (Di (Du (CM e) (I.ok.cab x c hfn hc)))).trans (I.base.keep b o e n hb hx)
  ·obtain⟨sl,e1⟩:=I.base.slot b o e n hb hx
   exact⟨sl,(hs.2 b (Di (Du (CM e) (I.ok.cab x c hfn hc)))).trans e1⟩
  ·obtain⟨o',e1⟩:=I.base.there b o e hx
   exact⟨o',(hs.2 b (Di (Du (CM e) (I.ok.cab x c hfn hc)))).trans e1⟩
  ·by_cases hj:j=i
   ·subst hj
    rw[hi]at e1;cases e1
    rw[List.getElem?_set_self hiσ]at e2
    cases e2
    exact⟨u,r,.inr ⟨.inl hk,c,hc,hc'⟩⟩
   ·rw[List.getElem?_set_ne (Ne.symm hj)]at e2
    obtain⟨u',r',q⟩:=hl j y v' e1 e2 e3
    refine⟨u',r',?_⟩
    rcases q with q | ⟨k,c',e,z'⟩
    ·exact .inl q
    ·refine .inr ⟨k,c',e,z'.sameBut hs ?_⟩
     rintro rfl
     exact hj (nS hN e1 (I.ok.inj _ _ _ e hc ▸ hi))
  ·by_cases hcc:c'=c
   ·subst hcc;exact⟨_,hc'⟩
   ·obtain⟨w2,z2⟩:=I.cell y c' e
    exact⟨w2,z2.sameBut hs hcc⟩
  ·obtain⟨e,n,ne,nf,d⟩:=I.pin p hp
   refine⟨(hs.2 p.1 ?_).trans e,n,ne,nf,d⟩
   intro q
   rw[q,hoc]at e
   have q':oc=p.2:=DC e
   exact d w' (by rw[←q'];exact hocd)
theorem iE{M:Model}{A:Around}{E:Value->Shared->Prop}{i:Nat}{x:Str}{v:V}{u:Value}{Q:Unit->Shared->Prop}(I:Inv X pins σ H s)(hN:X.N.Nodup)(hi:X.N[i]?=some x)(hx:Loc X.env.scope x)(r:RelV v u)
  (h:∀s',Inv X pins (σ.set i (some v)) H s'->Q () s') (hf:X.fn x=true\/X.env.scope.names.lookup x=some .local:=by first | exact .inl rfl | exact .inr rfl | assumption):wpAny M A (storeName X.env x u) Q E s:=
 tU I hN hi hx r (fun s' I' _=>h s' I') hf
theorem Inv.call'{s':Shared}{ch:List Addr}(I:Inv X pins σ H s)(ho:s'.os=s.os)(u:Un (aS X.stack) ch H H' s.heap s'.heap)(hok:bD X.prog X.w H' s'.heap)(hg:AllBare s'.gens)
  (hch:∀b∈ch,(b∈X.ex\/X.s₀.heap.objs.size<=b)/\b≠X.env.locals/\(∀x c,X.env.cells.lookup x=some c->c≠b)/\∀p∈X.pn++pins,p.1≠b):Inv X pins σ H' s':=by
 obtain⟨h',g',d',t',o'⟩:=s'
 have e:o'=s.os:=ho
 subst e
 exact I.call (g':=g') (t':=t') (d':=d') u hok hg hch
end
abbrev XK:=Value->Option Addr->Hp->Prop
abbrev St:=List (Option V)
abbrev VK:=V->Hp->Prop
abbrev TE:=St->Hp->VK->Prop
abbrev TT:=St->Hp->(Bool->Hp->Prop)->Prop
abbrev TA:=St->Hp->(List V->Hp->Prop)->Prop
structure Ends where
 nx:St->Hp->Prop
 rt:VK
 bk:St->Hp->Prop:=fun _ _=>False
 ct:St->Hp->Prop:=fun _ _=>False
abbrev TS:=Ends->St->Hp->Prop
def EP(X:Cx)(pins:List (Addr×Obj))(σ:St)(Q:VK)(u:Value)(s':Shared):Prop:=∃v H',Inv X pins σ H' s'/\RelV v u/\Q v H'
def TP(X:Cx)(pins:List (Addr×Obj))(σ:St)(Q:Bool->Hp->Prop)(b:Bool)(s':Shared):Prop:=∃H',Inv X pins σ H' s'/\Q b H'
def AP(X:Cx)(pins:List (Addr×Obj))(σ:St)(Q:List V->Hp->Prop)(us:List Value)(s':Shared):Prop:=∃vs H',Inv X pins σ H' s'/\Vals vs us/\Q vs H'
def SP(X:Cx)(pins:List (Addr×Obj))(D:Ends)(f:Flow)(s':Shared):Prop:=
 match f with
 | .next=>∃σ' H',Inv X pins σ' H' s'/\D.nx σ' H'
 | .brk=>∃σ' H',Inv X pins σ' H' s'/\D.bk σ' H'
 | .cont=>∃σ' H',Inv X pins σ' H' s'/\D.ct σ' H'
 | .ret u=>∃v σ' H',Inv X pins σ' H' s'/\RelV v u/\D.rt v H'
def PE(X:Cx)(e:Expr)(t:TE):Prop:=
 ∀(pins:List (Addr×Obj)) (s:Shared) (σ:St) (H:Hp) (Q:VK),Inv X pins σ H s->t σ H Q->wpAny (model X.prog X.w) X.A (eval e X.env) (EP X pins σ Q) X.xe s
def PT(X:Cx)(e:Expr)(t:TT):Prop:=
 ∀(pins:List (Addr×Obj)) (s:Shared) (σ:St) (H:Hp) (Q:Bool->Hp->Prop),Inv X pins σ H s->t σ H Q->wpAny (model X.prog X.w) X.A (isTrue e X.env (eval e X.env)) (TP X pins σ Q) X.xe s
def PW(X:Cx)(e:Expr)(t:TT):Prop:=
 ∀(whole:Sem Value) (pins:List (Addr×Obj)) (s:Shared) (σ:St) (H:Hp) (Q:Bool->Hp->Prop),Inv X pins σ H s->t σ H Q->wpAny (model X.prog X.w) X.A (isTrue e X.env whole) (TP X pins σ Q) X.xe s
theorem PW.pt{X:Cx}{e:Expr}{t:TT}(h:PW X e t):PT X e t:=h _
def PA(X:Cx)(es:List Expr)(t:TA):Prop:=
 ∀(pos:Pos) (pins:List (Addr×Obj)) (s:Shared) (σ:St) (H:Hp) (Q:List V->Hp->Prop),Inv X pins σ H s->t σ H Q->wpAny (model X.prog X.w) X.A (spliced (backTo pos (starEach es X.env))) (AP X pins σ Q) X.xe s
def PS(X:Cx)(st:Stmt)(t:TS):Prop:=
 ∀(pins:List (Addr×Obj)) (s:Shared) (σ:St) (H:Hp) (D:Ends),Inv X pins σ H s->t D σ H->wpAny (model X.prog X.w) X.A (exec st X.env) (SP X pins D) X.xe s
def cx(X:Cx)(st:List Stmt)(t:TS):Prop:=
 ∀(pins:List (Addr×Obj)) (s:Shared) (σ:St) (H:Hp) (D:Ends),Inv X pins σ H s->t D σ H->wpAny (model X.prog X.w) X.A (execs st X.env) (SP X pins D) X.xe s
theorem ax{α:Type}{t:Sem α}{Q Q':α->Shared->Prop}{M:Model}{A:Around}{E:Value->Shared->Prop}{s:Shared}(h:wpAny M A t Q E s)(hQ:∀a s,Q a s->Q' a s):wpAny M A t Q' E s:=wpAny_mono h hQ fun _ _ x=>x
end L2
namespace L2
open PySem PySem.Spec PyProof.Rows
section
variable {X:Cx}
theorem bin{a b:Expr}{ta tb:TE}(ha:PE X a ta)(hb:PE X b tb){pins:List (Addr×Obj)}{s:Shared}{σ:St}{H:Hp}{R:V->V->Hp->Prop}(I:Inv X pins σ H s)(h:ta σ H fun x H1=>tb σ H1 fun y H2=>R x y H2)
  {α:Type} {Q:α->Shared->Prop} {f:Value->Value->Sem α}
  (hf:∀v u s2 x y H2,Inv X pins σ H2 s2->RelV x v->RelV y u->R x y H2->wpAny (model X.prog X.w) X.A (f v u) Q X.xe s2) :
  wpAny (model X.prog X.w) X.A (eval a X.env) (fun v s₁=>wpAny (model X.prog X.w) X.A (eval b X.env) (fun u s₂=>wpAny (model X.prog X.w) X.A (f v u) Q X.xe s₂) X.xe s₁) X.xe s:=by
 refine ax (ha pins s σ H _ I h) fun v s1 ⟨x,H1,I1,r1,q1⟩=>?_
 refine ax (hb pins s1 σ H1 _ I1 q1) fun u s2 ⟨y,H2,I2,r2,q2⟩=>?_
 exact hf v u s2 x y H2 I2 r1 r2 q2
def mR(i:Nat):TE:=fun σ H Q=>∃v,σ[i]?=some (some v)/\Q v H
def tC(v:V):TE:=fun _ H Q=>Q v H
theorem xQ{i:Nat}{x:Str}{pos:Pos}(hN:X.N[i]?=some x)(hv:mi X.env.scope x)(hd:(x == ("__debug__":Str))=false:=by decide)(hcd:(x == ("__classdict__":Str))=false:=by decide):PE X (.Name x pos) (mR i):=by
 intro pins s σ H Q I h
 obtain⟨v,e,h⟩:=h
 obtain⟨m,hn,hl⟩:=I.loc
 obtain⟨u,r,l⟩:=hl i x v hN e hv
 have fin:EP X pins σ Q u s:=⟨v,H,I,r,h⟩
 rcases l with⟨hk,hm⟩ | ⟨hk,c,hc,hcell⟩
 ·exact wpAny_Name (wpAny_loadName_local I.ok.kind hk hn hm fin) hd
 ·rcases hk with hk | hk
  ·exact wpAny_Name (wpAny_loadName_cell I.ok.kind hk hc hcell fin) hd
  ·exact wpAny_Name (wpAny_loadName_free I.ok.kind hk hc hcell fin hcd) hd
theorem af{i j pos}:PE X (.Constant (.int i) j pos) (tC (.int i)):=fun _ _ _ H _ I h=>wpAny_Constant_int ⟨.int i,H,I.tok _,⟨_,rfl⟩,h⟩
theorem bA{b j pos}:PE X (.Constant (.bool b) j pos) (tC (.bl b)):=fun _ _ _ H _ I h=>Constant_bool ⟨.bl b,H,I,rfl,h⟩
theorem i4{j pos}:PE X (.Constant .none j pos) (tC .non):=fun _ _ _ H _ I h=>Constant_none ⟨.non,H,I,rfl,h⟩
theorem aw{x j pos}:PE X (.Constant (.str x) j pos) (tC (.str x)):=fun _ _ _ H _ I h=>Calls.Constant_str ⟨.str x,H,I.tok _,⟨_,rfl⟩,h⟩
def Gl(X:Cx)(x:Str):Prop:=X.env.kindOf x=some .globalImplicit
theorem gL{E:Value->Shared->Prop}{pins:List (Addr×Obj)}{s:Shared}{σ:St}{H:Hp}{x:Str}{u:Value}{pos:Pos}{Q:Value->Shared->Prop}(I:Inv X pins σ H s)(hg:Gl X x)(hm:X.mg x=some u)(h:Q u s)
  (hd:(x == ("__debug__":Str))=false:=by decide):wpAny (model X.prog X.w) X.A (eval (.Name x pos) X.env) Q E s:=
 Calls.Name_function_global I.ok.kind hg (Calls.loadGlobal_global (by rw[I.ok.glob];exact I.mod.glob.keeps I.bk) hm h) hd
theorem fM{E:Value->Shared->Prop}{pins:List (Addr×Obj)}{s:Shared}{σ:St}{H:Hp}{x:Str}{u:Value}{pos:Pos}{Q:Value->Shared->Prop}(I:Inv X pins σ H s)(hg:Gl X x)(hm:X.mg x=none)(hv:bootBuiltins x=some u)(h:Q u s)
  (hn:x≠"__name__":=by decide) (hd:(x == ("__debug__":Str))=false:=by decide):wpAny (model X.prog X.w) X.A (eval (.Name x pos) X.env) Q E s:=by
 obtain⟨mb,h1,h2⟩:=I.mod.blt
 exact Calls.Name_function_global I.ok.kind hg (Calls.loadGlobal_builtin (by rw[I.ok.glob];exact I.mod.glob.keeps I.bk) hm (by rw[I.ok.blt];exact h1.keeps I.bk) ((h2 x hn).trans hv) h) hd
theorem df{x:Str}{v:V}{u:Value}{pos:Pos}(hg:Gl X x)(hm:X.mg x=some u)(r:RelV v u)(hd:(x == ("__debug__":Str))=false:=by decide):PE X (.Name x pos) (tC v):=
 fun _ _ _ H _ I h=>gL I hg hm ⟨v,H,I,r,h⟩ hd
theorem cp{x:Str}{v:V}{u:Value}{pos:Pos}(hg:Gl X x)(hm:X.mg x=none)(hv:bootBuiltins x=some u)(r:RelV v u)(hn:x≠"__name__":=by decide)(hd:(x == ("__debug__":Str))=false:=by decide):PE X (.Name x pos) (tC v):=
 fun _ _ _ H _ I h=>fM I hg hm hv ⟨v,H,I,r,h⟩ hn hd
variable {a b:Expr} {ta tb:TE} {pos:Pos}
def PC(X:Cx)(op:CmpOp)(a b:Expr)(t:TE):Prop:=
 ∀(pins:List (Addr×Obj)) (s:Shared) (σ:St) (H:Hp) (Q:VK),Inv X pins σ H s->t σ H Q →
  wpAny (model X.prog X.w) X.A (eval a X.env) (fun v s₁=>wpAny (model X.prog X.w) X.A (eval b X.env) (fun u s₂=>wpAny (model X.prog X.w) X.A (compareOp op v u) (EP X pins σ Q) X.xe s₂) X.xe s₁) X.xe s
def tB(t:TE):TT:=fun σ H Q=>t σ H fun x H1=>∃c,x=.bl c/\Q c H1
theorem vN{op:CmpOp}{t:TE}(h:PC X op a b t)(h1:behindInMarks op b=false:=by first | exact nobehind _ (by decide) (by decide) | rfl):PE X (.Compare a [op] [b] pos) t:=fun pins s σ H Q I hw=>wpAny_Compare1 (h pins s σ H Q I hw) h1
theorem CD{op:CmpOp}{t:TE}(h:PC X op a b t)(h1:behindInMarks op b=false:=by first | exact nobehind _ (by decide) (by decide) | rfl):PT X (.Compare a [op] [b] pos) (tB t):=by
 intro pins s σ H Q I hw
 refine wpAny_isTrue_Compare1 (ax (h pins s σ H _ I hw) fun v s1 h1=>ax h1 fun u s2 h2=>ax h2 fun c s3 ⟨x,H1,I1,r1,q1⟩=>?_) h1
 obtain⟨d,rfl,q⟩:=q1
 cases r1
 exact wpAny_truthy_bool ⟨H1,I1,q⟩
theorem bp{e:Expr}{t:TE}(h:PE X e t)(he:∀whole,isTrue e X.env whole=(do let v ←whole;standAt e.pos;holding [v] (truthy v)):=by intro _;rfl):PT X e (tB t):=by
 intro pins s σ H Q I hw
 refine isTrue_plain (ax (h pins s σ H _ I hw) fun v s1 ⟨x,H1,I1,r1,q1⟩=>?_) (he _)
 obtain⟨d,rfl,q⟩:=q1
 cases r1
 exact wpAny_truthy_bool ⟨H1,I1,q⟩
variable {tA tB':TT} {rest:List Expr}
def oB(t u:TT):TT:=fun σ H Q=>t σ H fun c H1=>if c=true then Q true H1 else u σ H1 Q
def pj(t:TT):TT:=fun σ H Q=>t σ H fun c H1=>Q (!c) H1
theorem bR(ha:PT X a tA):PW X (.BoolOp .Or [a] pos) tA:=by
 intro wh pins s σ H Q I h
 refine isTrue_or (ax (ha pins s σ H Q I h) fun c s1 e=>?_)
 cases c with
 | false=>exact isTrue_or_nil e
 | true=>exact e
theorem bh(ha:PT X a tA)(hb:PW X (.BoolOp .Or (b::rest) pos) tB'):PW X (.BoolOp .Or (a::b::rest) pos) (oB tA tB'):=by
 intro wh pins s σ H Q I h
 refine isTrue_or (ax (ha pins s σ H _ I h) fun c s1 ⟨H1,I1,q1⟩=>?_)
 cases c with
 | true=>exact⟨H1,I1,q1⟩
 | false=>exact hb wh pins s1 σ H1 Q I1 q1
theorem br(ha:PT X a tA):PT X (.UnaryOp .Not a pos) (pj tA):=by
 intro pins s σ H Q I h
 exact isTrue_not (ha pins s σ H (fun c H1=>Q (!c) H1) I h)
def rE(ta tb:TE):TE:=fun σ H Q=>ta σ H fun x H1=>∃c,x=.bl c/\if c=true then tb σ H1 Q else Q (.bl false) H1
def ot(ta tb:TE):TE:=fun σ H Q=>ta σ H fun x H1=>∃c,x=.bl c/\if c=true then Q (.bl true) H1 else tb σ H1 Q
def qp(ta:TE):TE:=fun σ H Q=>ta σ H fun x H1=>∃c,x=.bl c/\Q (.bl (!c)) H1
theorem dv{op}{t:TE}(h:PE X a t):PE X (.BoolOp op [a] pos) t:=fun pins s σ H Q I hw=>BoolOp_one (h pins s σ H Q I hw)
theorem cZ(ha:PE X a ta)(hb:PE X (.BoolOp .And (b::rest) pos) tb):PE X (.BoolOp .And (a::b::rest) pos) (rE ta tb):=by
 intro pins s σ H Q I h
 refine BoolOp_and (ax (ha pins s σ H _ I h) fun v s1 ⟨x,H1,I1,r1,q1⟩=>?_)
 obtain⟨c,rfl,q1⟩:=q1
 cases r1
 refine wpAny_truthy_bool ?_
 cases c with
 | true=>exact hb pins s1 σ H1 Q I1 q1
 | false=>exact⟨.bl false,H1,I1,rfl,q1⟩
theorem xr(ha:PE X a ta)(hb:PE X (.BoolOp .Or (b::rest) pos) tb):PE X (.BoolOp .Or (a::b::rest) pos) (ot ta tb):=by
 intro pins s σ H Q I h
 refine BoolOp_or (ax (ha pins s σ H _ I h) fun v s1 ⟨x,H1,I1,r1,q1⟩=>?_)
 obtain⟨c,rfl,q1⟩:=q1
 cases r1
 refine wpAny_truthy_bool ?_
 cases c with
 | false=>exact hb pins s1 σ H1 Q I1 q1
 | true=>exact⟨.bl true,H1,I1,rfl,q1⟩
theorem rJ(ha:PE X a ta):PE X (.UnaryOp .Not a pos) (qp ta):=by
 intro pins s σ H Q I h
 refine UnaryOp_ (ax (ha pins s σ H _ I h) fun v s1 ⟨x,H1,I1,r1,q1⟩=>?_)
 obtain⟨c,rfl,q1⟩:=q1
 cases r1
 exact not_of (wpAny_truthy_bool ⟨.bl (!c),H1,I1,rfl,q1⟩)
end
end L2
namespace L2
open PySem PySem.Spec PyProof.Rows
def ai(K:CJ)(H:Hp)(a:Addr)(xs:List V):Prop:=
 Rd H a (.lst xs) ∨
  ∃(o:Obj) (its:Array Value) (n:Nat),K.lookup a=some o/\o.cls=.type "list"/\o.dict=none/\o.data=.seq its n/\its.size<=sizeLine/\Vals xs its.toList
def aj(K:CJ)(H:Hp)(a:Addr)(xs:List V):Prop:=
 Rd H a (.tup xs) ∨
  ∃(o:Obj) (its:Array Value) (n:Nat),K.lookup a=some o/\o.cls=.type "tuple"/\o.data=.seq its n/\its.size<=sizeLine/\Vals xs its.toList
def yA:Value->Option V
 | .none=>some .non
 | .bool b=>some (.bl b)
 | .int i _=>some (.int i)
 | .str x _=>some (.str x)
 | .bytes b _=>some (.byt b)
 | .float b _=>some (.flt b)
 | .ref a=>some (.ref a)
 | .type n=>some (.ty n)
 | _=>none
theorem RelV.abs{x:V}{u:Value}(r:RelV x u):yA u=some x:=by
 cases x with
 | non=>cases r;rfl
 | bl _=>cases r;rfl
 | int _=>obtain⟨t,rfl⟩:=r;rfl
 | str _=>obtain⟨t,rfl⟩:=r;rfl
 | byt _=>obtain⟨t,rfl⟩:=r;rfl
 | flt _=>obtain⟨t,rfl⟩:=r;rfl
 | ref _=>cases r;rfl
 | ty _=>cases r;rfl
theorem RelV.inj{x y:V}{u:Value}(r:RelV x u)(q:RelV y u):x=y:=DC (r.abs.symm.trans q.abs)
theorem Vals.inj:∀{xs ys:List V} {us:List Value},Vals xs us->Vals ys us->xs=ys
 | _,_,_,.nil,.nil=>rfl
 | _,_,_,.cons r t,.cons r' t'=>by rw[r.inj r',Vals.inj t t']
section
variable {X:Cx} {pins:List (Addr×Obj)} {σ:St} {H:Hp} {s:Shared} {a:Addr} {xs ys:List V}
theorem ai.of{K:CJ}(h:H a=some (.lst xs)):ai K H a xs:=.inl (.inl h)
theorem aj.of{K:CJ}(h:H a=some (.tup xs)):aj K H a xs:=.inl (.inl h)
theorem Inv.list(I:Inv X pins σ H s)(h:ai X.K H a xs):∃its:List Value,Vals xs its/\PlainL s.heap a its.toArray/\xs.length<=sizeLine:=by
 rcases h with h | ⟨o,its,n,hk,hc,hd,hs,hz,r⟩
 ·obtain⟨z,its,n,r,e⟩:=h.ok I.hok
  exact⟨its,r,⟨_,n,e,rfl,rfl,rfl⟩,z⟩
 ·refine⟨its.toList,r,⟨o,n,I.kIn a o hk,hc,hd,by simpa using hs⟩,?_⟩
  have e:=r.length
  simp only[CS]at e
  omega
theorem Inv.tuple(I:Inv X pins σ H s)(h:aj X.K H a xs):∃its:List Value,Vals xs its/\IsTup s.heap a its.toArray/\xs.length<=sizeLine:=by
 rcases h with h | ⟨o,its,n,hk,hc,hs,hz,r⟩
 ·obtain⟨z,its,r,p⟩:=h.ok I.hok
  exact⟨its,r,p,z⟩
 ·refine⟨its.toList,r,⟨o,I.kIn a o hk,hc,n,by simpa using hs⟩,?_⟩
  have e:=r.length
  simp only[CS]at e
  omega
theorem Inv.list_inj(I:Inv X pins σ H s)(h:ai X.K H a xs)(h':ai X.K H a ys):xs=ys:=by
 obtain⟨its,r,⟨o,n,e,_,_,d⟩,_⟩:=I.list h
 obtain⟨its',r',⟨o',n',e',_,_,d'⟩,_⟩:=I.list h'
 rw[e]at e';cases e'
 rw[d]at d'
 injection d' with d1 _
 have:its=its':=by simpa using congrArg Array.toList d1
 subst this
 exact r.inj r'
theorem Inv.tuple_inj(I:Inv X pins σ H s)(h:aj X.K H a xs)(h':aj X.K H a ys):xs=ys:=by
 obtain⟨its,r,⟨o,e,_,n,d⟩,_⟩:=I.tuple h
 obtain⟨its',r',⟨o',e',_,n',d'⟩,_⟩:=I.tuple h'
 rw[e]at e';cases e'
 rw[d]at d'
 injection d' with d1 _
 have:its=its':=by simpa using congrArg Array.toList d1
 subst this
 exact r.inj r'
end
abbrev Cx.wish(X:Cx)(E:Value->Shared->Prop):Cx:={ X with xe:=E }
abbrev Cx.nox(X:Cx):Cx:=X.wish fun _ _=>False
theorem Cx.Ok.wish{X:Cx}(ok:X.Ok)(E:Value->Shared->Prop):(X.wish E).Ok:=
 ⟨ok.mod,ok.kind,ok.glob,ok.blt,ok.above,ok.inj,ok.has,ok.cab,ok.hd,ok.frames,ok.stk,ok.exf,ok.bs,ok.bsz,ok.noex,ok.exfs,ok.funs,ok.frf⟩
theorem Cx.Ok.unwish{X:Cx}{E:Value->Shared->Prop}(ok:(X.wish E).Ok):X.Ok:=
 ⟨ok.mod,ok.kind,ok.glob,ok.blt,ok.above,ok.inj,ok.has,ok.cab,ok.hd,ok.frames,ok.stk,ok.exf,ok.bs,ok.bsz,ok.noex,ok.exfs,ok.funs,ok.frf⟩
section
variable {X:Cx} {pins:List (Addr×Obj)} {σ:St} {H:Hp} {s:Shared} {E:Value->Shared->Prop}
theorem Inv.wish(I:Inv X pins σ H s)(E:Value->Shared->Prop):Inv (X.wish E) pins σ H s:=⟨I.ok.wish E,I.os,I.bare,I.base,I.loc,I.cell,I.free,I.freeC,I.pin,I.hok,I.len⟩
theorem Inv.unwish(I:Inv (X.wish E) pins σ H s):Inv X pins σ H s:=⟨I.ok.unwish,I.os,I.bare,I.base,I.loc,I.cell,I.free,I.freeC,I.pin,I.hok,I.len⟩
theorem SP.unwish{D:Ends}{f:Flow}{s':Shared}(h:SP (X.wish E) pins D f s'):SP X pins D f s':=by
 cases f with
 | next=>obtain⟨σ',H',I,q⟩:=h;exact⟨σ',H',I.unwish,q⟩
 | brk=>obtain⟨σ',H',I,q⟩:=h;exact⟨σ',H',I.unwish,q⟩
 | cont=>obtain⟨σ',H',I,q⟩:=h;exact⟨σ',H',I.unwish,q⟩
 | ret u=>obtain⟨v,σ',H',I,r,q⟩:=h;exact⟨v,σ',H',I.unwish,r,q⟩
theorem cx.nox{st:List Stmt}{t:TS}(h:cx X.nox st t):cx X st t:=fun pins s σ H D I hw=>
 wpAny_mono (h pins s σ H D (I.wish _) hw) (fun _ _ q=>q.unwish) fun _ _ z=>False.elim z
end
section
variable {X:Cx} {st:Stmt} {rest:List Stmt} {t u:TS} {e:Expr} {te:TE} {pos:Pos}
def rQ:TS:=fun D σ H=>D.nx σ H
def pS(t u:TS):TS:=fun D σ H=>t { D with nx:=u D } σ H
theorem aQ:cx X [] rQ:=fun _ _ σ H _ I h=>wpAny_execs_nil ⟨σ,H,I,h⟩
theorem ak(h1:PS X st t)(h2:cx X rest u):cx X (st::rest) (pS t u):=by
 intro pins s σ H D I h
 refine wpAny_execs_cons (ax (h1 pins s σ H { D with nx:=u D } I h) fun f s1 q=>?_)
 cases f with
 | next=>
  obtain⟨σ',H',I',q⟩:=q
  exact h2 pins s1 σ' H' D I' q
 | ret v=>exact q
 | brk=>exact q
 | cont=>exact q
theorem aq(h1:PS X st t):cx X [st] t:=by
 intro pins s σ H D I h
 refine wpAny_execs_cons (ax (h1 pins s σ H D I h) fun f s1 q=>?_)
 cases f with
 | next=>exact wpAny_execs_nil q
 | ret v=>exact q
 | brk=>exact q
 | cont=>exact q
theorem Inv.quiet{pins:List (Addr×Obj)}{σ:St}{H:Hp}{s:Shared}(I:Inv X pins σ H s):interactive X.env=false:=by simp[interactive,I.ok.kind]
def pw(te:TE):TS:=fun D σ H=>te σ H fun _ H1=>D.nx σ H1
theorem bZ(he:PE X e te)(hs:swapsWith e none pos.line X.env=pure false:=by rfl):PS X (.Expr e pos) (pw te):=by
 intro pins s σ H D I h
 exact wpAny_Expr_any (ax (he pins s σ H _ I h) fun v s1 ⟨x,H1,I1,r1,q1⟩=>⟨σ,H1,I1,q1⟩) I.quiet hs
def o4(te:TE):TS:=fun D σ H=>te σ H D.rt
theorem az(he:PE X e te):PS X (.Return (some e) pos) (o4 te):=by
 intro pins s σ H D I h
 exact wpAny_Return_some (ax (he pins s σ H _ I h) fun v s1 ⟨x,H1,I1,r1,q1⟩=>⟨x,σ,H1,I1,r1,q1⟩)
def pE(c:TT)(t u:TS):TS:=fun D σ H=>c σ H fun b H1=>if b=true then t D σ H1 else u D σ H1
theorem aU{c:Expr}{a b:List Stmt}{tc:TT}(hc:PT X c tc)(ha:cx X a t)(hb:cx X b u):PS X (.If c a b pos) (pE tc t u):=by
 intro pins s σ H D I h
 refine wpAny_If (ax (hc pins s σ H _ I h) fun d s1 ⟨H1,I1,q1⟩=>?_)
 cases d with
 | true=>exact ha pins s1 σ H1 D I1 q1
 | false=>exact hb pins s1 σ H1 D I1 q1
def wx:TS:=fun _ _ _=>False
theorem fj:PS X st wx:=fun _ _ _ _ _ _ h=>h.elim
end
abbrev TG:=V->St->Hp->(St->Hp->Prop)->Prop
abbrev cL:=List V->St->Hp->(St->Hp->Prop)->Prop
def PG(X:Cx)(target:Expr)(t:TG):Prop:=
 ∀(pins:List (Addr×Obj)) (s:Shared) (σ:St) (H:Hp) (v:V) (u:Value) (Q:St->Hp->Prop),Inv X pins σ H s->RelV v u->t v σ H Q →
  wpAny (model X.prog X.w) X.A (assign target X.env u) (fun _ s'=>∃σ' H',Inv X pins σ' H' s'/\Q σ' H') X.xe s
def fh(X:Cx)(ts:List Expr)(t:cL):Prop:=
 ∀(pins:List (Addr×Obj)) (s:Shared) (σ:St) (H:Hp) (vs:List V) (us:List Value) (Q:St->Hp->Prop),Inv X pins σ H s->Vals vs us->t vs σ H Q →
  wpAny (model X.prog X.w) X.A (assignInOrder ((assignEach ts X.env).map (·.2)) us) (fun _ s'=>∃σ' H',Inv X pins σ' H' s'/\Q σ' H') X.xe s
section
variable {X:Cx} {pos:Pos}
def iG(i:Nat):TG:=fun v σ H Q=>Q (σ.set i (some v)) H
theorem aP{i:Nat}{x:Str}(hN:X.N.Nodup)(hi:X.N[i]?=some x)(hx:Loc X.env.scope x)(hf:X.fn x=true\/X.env.scope.names.lookup x=some .local:=by first | exact .inl rfl | exact .inr rfl | assumption):PG X (.Name x pos) (iG i):=by
 intro pins s σ H v u Q I r h
 exact wpAny_assign_Name (iE I hN hi hx r (fun s' I'=>⟨_,H,I',h⟩) hf)
def uz:cL:=fun vs σ H Q=>vs=[]/\Q σ H
def uA(t:TG)(u:cL):cL:=fun vs σ H Q=>∃v r,vs=v::r/\t v σ H fun σ' H'=>u r σ' H' Q
theorem ft:fh X [] uz:=by
 intro pins s σ H vs us Q I r h
 obtain⟨e,h⟩:=h
 subst e
 cases r
 exact assignInOrder_nil ⟨σ,H,I,h⟩
theorem bX{e:Expr}{es:List Expr}{t:TG}{u:cL}(h1:PG X e t)(h2:fh X es u)
  (hs:(assignEach (e::es) X.env).map (·.2)=assign e X.env::(assignEach es X.env).map (·.2):=by rfl):fh X (e::es) (uA t u):=by
 intro pins s σ H vs us Q I r h
 obtain⟨v,vr,e1,h⟩:=h
 subst e1
 cases r with
 | cons r rr=>
  rw[hs]
  refine assignInOrder_cons (ax (h1 pins s σ H _ _ _ I r h) fun _ s1 ⟨σ1,H1,I1,q1⟩=>?_)
  exact h2 pins s1 σ1 H1 _ _ Q I1 rr q1
def ji(K:CJ)(n:Nat)(t:cL):TG:=fun v σ H Q=>∃a xs,v=.ref a/\aj K H a xs/\xs.length=n/\t xs σ H Q
theorem yT{es:List Expr}{k:Nat}{t:cL}{n:Nat}(hc:X.calm=true)(h:fh X es t)
  (hn:(assignEach es X.env).length=n:=by rfl) (hst:(assignEach es X.env).findIdx? (·.1)=none:=by rfl):PG X (.Tuple es k pos) (ji X.K n t):=by
 intro pins s σ H v u Q I r hw
 obtain⟨a,xs,e1,hq,hl,hw⟩:=hw
 subst e1
 cases r
 obtain⟨its,rv,ht,hz⟩:=I.tuple hq
 refine assign_Tuple_tuple (I.ok.hd hc) ht (by simp[hn,←hl,rv.length]) hst fun h' hx=>?_
 have I1:Inv X pins σ H { s with heap:=h' }:=I.kept (t':=s.toks) fun b o e=>hx b o (Di (CM e)) e
 exact h pins _ σ H xs _ Q I1 (by simpa using rv) hw
def j2(te:TE)(g:TG):TS:=fun D σ H=>te σ H fun x H1=>g x σ H1 D.nx
theorem jq{tg e:Expr}{te:TE}{g:TG}(he:PE X e te)(hg:PG X tg g)(hs:swapsWithSole [tg] e pos.line X.env=pure false:=by rfl)(hw:swappedStores [tg] e X.env=pure none:=by rfl)
  (h1:(assignEach [tg] X.env).map (·.2)=[assign tg X.env]:=by rfl):PS X (.Assign [tg] e pos) (j2 te g):=by
 intro pins s σ H D I h
 refine wpAny_Assign_stores (ax (he pins s σ H _ I h) fun v s1 ⟨x,H1,I1,r1,q1⟩=>?_) hs hw
 rw[h1]
 exact ax (hg pins s1 σ H1 x v _ I1 r1 q1) fun _ s2 q=>q
theorem aF{i:Nat}{x:Str}{e:Expr}{te:TE}{pos':Pos}(hN:X.N.Nodup)(hi:X.N[i]?=some x)(hx:Loc X.env.scope x)(he:PE X e te)(hs:swapsWith e (some (.Name x pos')) pos.line X.env=pure false:=by rfl)(hf:X.fn x=true\/X.env.scope.names.lookup x=some .local:=by first | exact .inl rfl | exact .inr rfl | assumption):
  PS X (.Assign [.Name x pos'] e pos) (j2 te (iG i)):=by
 intro pins s σ H D I h
 refine wpAny_Assign_Name (ax (he pins s σ H _ I h) fun v s1 ⟨y,H1,I1,r1,q1⟩=>?_) hs
 exact iE I1 hN hi hx r1 (fun s2 I2=>⟨_,H1,I2,q1⟩) hf
def sU(i j:Nat)(ta:TA):TS:=fun D σ H=>ta σ H fun vs H1=>∃v w,vs=[v,w]/\D.nx ((σ.set i (some v)).set j (some w)) H1
theorem nu{i j:Nat}{x y:Str}{a b:Expr}{ta:TA}{px py pt:Pos}{kt k2 pt2}(hc:X.calm=true)(hN:X.N.Nodup)(hi:X.N[i]?=some x)(hj:X.N[j]?=some y)(hij:i≠j)
  (hx:X.env.scope.names.lookup x=some .local) (hy:X.env.scope.names.lookup y=some .local) (ha:PA X [a,b] ta)
  (hw:swappedStores [.Tuple [.Name x px,.Name y py] kt pt] (.Tuple [a,b] k2 pt2) X.env=pure (some [x,y]))
  (hs:swapsWithSole [.Tuple [.Name x px,.Name y py] kt pt] (.Tuple [a,b] k2 pt2) pos.line X.env=pure false:=by rfl) :
  PS X (.Assign [.Tuple [.Name x px,.Name y py] kt pt] (.Tuple [a,b] k2 pt2) pos) (sU i j ta):=by
 intro pins s σ H D I h
 rw[exec_Assign_arm]
 refine CH (wpAny_standAt ?_)
 rw[hs]
 refine CH (CI ?_)
 rw[DP (by decide)]
 refine CH (Tuple_ (ax (ha _ pins s σ H _ I h) fun us s1 ⟨vs,H1,I1,r1,q1⟩=>?_))
 obtain⟨v,w,e1,q1⟩:=q1
 subst e1
 obtain⟨u1,u2,rfl,rv,rw'⟩:∃u1 u2,us=[u1,u2]/\RelV v u1/\RelV w u2:=by
  cases r1 with
  | cons p q=>
   cases q with
   | cons p' q'=>
    cases q'
    exact⟨_,_,rfl,p,p'⟩
 refine wpAny_newObj_type ?_ (by show 2<=sizeLine;decide)
 have I2:Inv X pins σ H1 { s1 with heap:=s1.heap.push { cls:=.type "tuple",data:=.seq [u1,u2].toArray } }:=I1.kept (t':=s1.toks) fun b o e=>CK _ e
 rw[hw]
 refine CH (CI ?_)
 show wpAny (model X.prog X.w) X.A (do rule "assign.swapped-stores";let items ←unpackItems (.ref s1.heap.objs.size) 2 none;assignInOrder [fun v=>bindName X.env y v,fun v=>bindName X.env x v] items.reverse;pure Flow.next) _ _ _
 refine CH (wpAny_rule (CH (unpackItems_tuple (items:=#[u1,u2]) (I.ok.hd hc) (IsTup.new s1.heap _) fun h' hx'=>?_)))
 have I3:=I2.kept (h':=h') (t':=s1.toks) fun b o e=>hx' b o (Di (CM e)) e
 show wpAny _ _ (assignInOrder [fun v=>bindName X.env y v,fun v=>bindName X.env x v] [u2,u1] >>= fun _=>pure Flow.next) _ _ _
 refine CH (assignInOrder_cons (wpAny_bindName (iE I3 hN hj (.inl hy) rw' (fun s2 I4=>?_) (.inr hy))))
 refine assignInOrder_cons (wpAny_bindName (iE I4 hN hi (.inl hx) rv (fun s3 I5=>assignInOrder_nil (CI ?_)) (.inr hx)))
 rw[List.set_comm _ _ (Ne.symm hij)]at I5
 exact⟨_,H1,I5,q1⟩
end
section
variable {X:Cx} {pos:Pos}
end
structure It where
 go:Nat->Hp->Prop
 yld:Nat->Hp->V->Hp->Prop
 stop:Nat->Hp->Prop
def bO(X:Cx)(pins:List (Addr×Obj))(H:Hp)(b:Addr):Prop:=
 H b=none/\b≠X.env.locals/\b∉X.fs/\(b∈X.ex\/X.s₀.heap.objs.size<=b)/\(∀x c,X.env.cells.lookup x=some c->c≠b)/\∀p∈X.pn++pins,p.1≠b
theorem Inv.fpOk{X:Cx}{pins:List (Addr×Obj)}{σ:St}{H H':Hp}{s:Shared}{b:Addr}(I:Inv X pins σ H s)(hb:s.heap.objs.size<=b)(hn:H' b=none):bO X pins H' b:=by
 refine⟨hn,Nat.ne_of_gt (Du I.lt hb),I.nofs hb,.inr (Dv I.sz hb),fun x c e z=>?_,fun p hp z=>?_⟩
 ·obtain⟨v,q⟩:=I.cell x c e
  exact absurd (Du q.lt (by rw[z];exact hb)) (Nat.lt_irrefl _)
 ·exact absurd (Du (CM (I.pin p hp).1) (by rw[z];exact hb)) (Nat.lt_irrefl _)
structure Turn(P:Program)(w:World)(K:CJ)(tg:Expr)(J:It)(fp:List Addr)(it:Addr)(tn:Nat->Heap->Prop):Prop where
 mem:it∈fp
 obj:∀i h,tn i h->∀b∈fp,∃o,h.get? b=some o/\∀v,o.data≠.cell v
 keep:∀i h h',tn i h->(∀b∈fp,∀o,h.get? b=some o->h'.get? b=some o)->tn i h'
 item:∀(X:Cx),X.prog=P->X.w=w->X.K=K->X.calm=true->∀(i:Nat) (pins:List (Addr×Obj)) (s:Shared) (σ:St) (H:Hp) (E:Value->Shared->Prop),Inv X pins σ H s->(∀b∈fp,bO X pins H b)->tn i s.heap->J.go i H →
  wpAny (model P w) X.A (pyNext (.ref it)) (fun r s1=>∃u,r=some u ∧
   wpAny (model P w) X.A (letOwnedTupleGo tg (.ref it) u) (fun _ s2=>∃x H',Inv X pins σ H' s2/\RelV x u/\J.yld i H x H'/\tn (i+1) s2.heap/\∀b∈fp,H' b=none) E s1) E s
 done:∀(X:Cx),X.prog=P->X.w=w->X.K=K->X.calm=true->∀(i:Nat) (pins:List (Addr×Obj)) (s:Shared) (σ:St) (H:Hp) (E:Value->Shared->Prop),Inv X pins σ H s->(∀b∈fp,bO X pins H b)->tn i s.heap->J.stop i H →
  wpAny (model P w) X.A (pyNext (.ref it)) (fun r s1=>r=none/\Inv X pins σ H s1) E s
 self:∀(A:Around) (i:Nat) (s:Shared) (Q:Value->Shared->Prop) (E:Value->Shared->Prop),tn i s.heap->Q (.ref it) s->wpAny (model P w) A (pyIter (.ref it)) Q E s
abbrev TI:=St->Hp->(It->Hp->Prop)->Prop
def ng(X:Cx)(pins:List (Addr×Obj))(σ:St)(tg:Expr)(R:It->Hp->Prop)(itv:Value)(s2:Shared):Prop:=
 ∃(it:Addr) (fp:List Addr) (tn:Nat->Heap->Prop) (J:It) (H':Hp),itv=.ref it/\Inv X pins σ H' s2/\Turn X.prog X.w X.K tg J fp it tn/\tn 0 s2.heap/\(∀b∈fp,bO X pins H' b)/\R J H'
def PI(X:Cx)(tg iter:Expr)(wi:TI):Prop:=
 ∀(pins:List (Addr×Obj)) (s:Shared) (σ:St) (H:Hp) (R:It->Hp->Prop),Inv X pins σ H s->wi σ H R →
  wpAny (model X.prog X.w) X.A (eval iter X.env) (fun v s1=>wpAny (model X.prog X.w) X.A (pyIter v) (ng X pins σ tg R) X.xe s1) X.xe s
theorem hZ {M : Model} {A : Around} {E : Value → Shared → Prop} {s : Shared} {tg : Expr} {it : Addr} {u : Value} {o : Obj} {n : String} {vs : Array Value} {Q : Unit → Shared → Prop} (ho : s.heap.get? it = some o) (hc : o.cls = .type n) (hd : o.data = .fields vs)
    (hn : ["enumerate", "zip", "dict_itemiterator", "dict_reverseitemiterator", "odict_iterator", "itertools.zip_longest", "itertools.pairwise"].contains n = false) (hQ : Q () s) : wpAny M A (letOwnedTupleGo tg (.ref it) u) Q E s := by
  unfold letOwnedTupleGo
  cases tg <;> first
    | exact CI hQ
    | (cases u <;> first
        | exact CI hQ
        | (refine CH (wpAny_load ho ?_)
           rw [hc, hd]
           show wpAny M A (if (["enumerate", "zip", "dict_itemiterator", "dict_reverseitemiterator", "odict_iterator", "itertools.zip_longest", "itertools.pairwise"].contains n && vs[0]? == some (rawInt _)) = true then _ else _) Q E s
           rw [DP (by intro h; rw [hn, Bool.false_and] at h; cases h)]
           exact CI hQ))
def cS(K:CJ)(a:Addr):It:=
 ⟨fun i H=>∃xs x,ai K H a xs/\xs[i]?=some x,fun i H x H'=>H'=H/\∀xs,ai K H a xs->xs[i]?=some x,fun i H=>∃xs,ai K H a xs/\xs.length<=i⟩
def cF(K:CJ)(a:Addr):It:=
 ⟨fun i H=>∃xs x,aj K H a xs/\xs[i]?=some x,fun i H x H'=>H'=H/\∀xs,aj K H a xs->xs[i]?=some x,fun i H=>∃xs,aj K H a xs/\xs.length<=i⟩
def ec(lo:Int)(n:Nat):It:=⟨fun i _=>i<n,fun i H x H'=>H'=H/\x=.int (lo+i),fun i _=>n<=i⟩
theorem jJ{P:Program}{w:World}{K:CJ}{tg:Expr}(a it:Addr):Turn P w K tg (cS K a) [it] it (fun i h=>h.IsListIter it a i) where
 mem:=by simp
 obj:=fun i h st b hb=>by
  have e:b=it:=by simpa using hb
  subst e
  obtain⟨o,e,c,d⟩:=st
  exact⟨o,e,fun v z=>by rw[d]at z;cases z⟩
 keep:=fun i h h' st k=>st.at fun o e=>k it (by simp) o e
 item:=by
  intro X hP hw hK hc i pins s σ H E I hf st hg
  subst hP hw hK
  obtain⟨xs,x,hq,hx⟩:=hg
  obtain⟨its,rv,p,hz⟩:=I.list hq
  obtain⟨u,hu,ru⟩:=rv.get hx
  obtain⟨f0,f1,f2,f3,f4,f5⟩:=hf it (by simp)
  refine wpAny_pyNext_list_item st p.isList (x:=u) (by simpa using hu) fun h' st' sb=>?_
  have I1:Inv X pins σ H { s with heap:=h' }:=I.turned (t':=s.toks) (fun b o hb e=>(sb.2 b hb).trans e) f0 f1 f3 f4 f5
  obtain⟨o,e,c,d⟩:=id st'
  exact⟨u,rfl,hZ (s:={ s with heap:=h' }) e c d (by decide) ⟨x,H,I1,ru,⟨rfl,fun ys hy=>by rw[I.list_inj hy hq];exact hx⟩,st',fun b hb=>(hf b hb).1⟩⟩
 done:=by
  intro X hP hw hK hc i pins s σ H E I hf st hg
  subst hP hw hK
  obtain⟨xs,hq,hx⟩:=hg
  obtain⟨its,rv,p,hz⟩:=I.list hq
  obtain⟨f0,f1,f2,f3,f4,f5⟩:=hf it (by simp)
  have hl:=rv.length
  exact wpAny_pyNext_list_end (I.ok.hd hc) st p.isList (by simp;omega) fun h' eb=>⟨rfl,I.turned (t':=s.toks) (fun b o hb e=>eb b o hb e) f0 f1 f3 f4 f5⟩
 self:=fun _ _ _ _ _ st h=>wpAny_pyIter_listiter st h
theorem vQ{P:Program}{w:World}{K:CJ}{tg:Expr}(a it:Addr):Turn P w K tg (cF K a) [it] it (fun i h=>h.IsTupleIter it a i) where
 mem:=by simp
 obj:=fun i h st b hb=>by
  have e:b=it:=by simpa using hb
  subst e
  obtain⟨o,e,c,d⟩:=st
  exact⟨o,e,fun v z=>by rw[d]at z;cases z⟩
 keep:=fun i h h' st k=>st.at fun o e=>k it (by simp) o e
 item:=by
  intro X hP hw hK hc i pins s σ H E I hf st hg
  subst hP hw hK
  obtain⟨xs,x,hq,hx⟩:=hg
  obtain⟨its,rv,p,hz⟩:=I.tuple hq
  obtain⟨u,hu,ru⟩:=rv.get hx
  obtain⟨f0,f1,f2,f3,f4,f5⟩:=hf it (by simp)
  refine wpAny_pyNext_tuple_item st (show s.heap.IsTuple a its.toArray from p) (x:=u) (by simpa using hu) fun h' st' sb=>?_
  have I1:Inv X pins σ H { s with heap:=h' }:=I.turned (t':=s.toks) (fun b o hb e=>(sb.2 b hb).trans e) f0 f1 f3 f4 f5
  obtain⟨o,e,c,d⟩:=id st'
  exact⟨u,rfl,hZ (s:={ s with heap:=h' }) e c d (by decide) ⟨x,H,I1,ru,⟨rfl,fun ys hy=>by rw[I.tuple_inj hy hq];exact hx⟩,st',fun b hb=>(hf b hb).1⟩⟩
 done:=by
  intro X hP hw hK hc i pins s σ H E I hf st hg
  subst hP hw hK
  obtain⟨xs,hq,hx⟩:=hg
  obtain⟨its,rv,p,hz⟩:=I.tuple hq
  obtain⟨f0,f1,f2,f3,f4,f5⟩:=hf it (by simp)
  have hl:=rv.length
  exact wpAny_pyNext_tuple_end (I.ok.hd hc) st (show s.heap.IsTuple a its.toArray from p) (by simp;omega) fun h' eb=>⟨rfl,I.turned (t':=s.toks) (fun b o hb e=>eb b o hb e) f0 f1 f3 f4 f5⟩
 self:=fun _ _ _ _ _ st h=>wpAny_pyIter_tupleiter st h
theorem Bw{P:Program}{w:World}{K:CJ}{tg:Expr}(it:Addr)(lo:Int)(n:Nat):Turn P w K tg (ec lo n) [it] it (fun i h=>IsRangeIter h it (lo+(i:Nat)*1) ((n:Int)-(i:Nat)) 1) where
 mem:=by simp
 obj:=fun i h st b hb=>by
  have e:b=it:=by simpa using hb
  subst e
  exact⟨_,st,fun v z=>by
   have z':Data.fields _=Data.cell v:=z
   cases z'⟩
 keep:=fun i h h' st k=>k it (by simp) _ st
 item:=by
  intro X hP hw hK hc i pins s σ H E I hf st hg
  subst hP hw hK
  obtain⟨f0,f1,f2,f3,f4,f5⟩:=hf it (by simp)
  have W:=Walks.range (prog:=X.prog) (w:=X.w) (I.ok.hd hc) it lo 1 n
  refine W.item i s _ _ hg st fun v h' tk hv st' kk=>?_
  obtain⟨t,rfl⟩:=hv
  have I1:Inv X pins σ H { s with heap:=h',toks:=tk }:=I.turned (fun b o hb e=>kk b o (by simpa using hb) e) f0 f1 f3 f4 f5
  refine⟨_,rfl,hZ (s:={ s with heap:=h',toks:=tk }) (n:="range_iterator") st' rfl rfl (by decide) ⟨.int (lo+i),H,I1,⟨t,?_⟩,⟨rfl,rfl⟩,st',fun b hb=>(hf b hb).1⟩⟩
  rw[Int.mul_one]
 done:=by
  intro X hP hw hK hc i pins s σ H E I hf st hg
  subst hP hw hK
  obtain⟨f0,f1,f2,f3,f4,f5⟩:=hf it (by simp)
  exact wpAny_pyNext_range_end (I.ok.hd hc) st (by have:n<=i:=hg;omega) fun h' eb=>⟨rfl,I.turned (t':=s.toks) (fun b o hb e=>eb b o hb e) f0 f1 f3 f4 f5⟩
 self:=fun _ _ _ _ _ st h=>wpAny_pyIter_rangeiter st h
end L2
namespace L2
open PySem PySem.Spec PyProof.Rows
section
variable {X:Cx} {tg:Expr}
def jK(K:CJ)(tl:TE):TI:=fun σ H R=>tl σ H fun x H1=>∃a,x=.ref a/\(∃xs,ai K H1 a xs)/\R (cS K a) H1
def lr(K:CJ)(tl:TE):TI:=fun σ H R=>tl σ H fun x H1=>∃a,x=.ref a/\(∃xs,aj K H1 a xs)/\R (cF K a) H1
theorem wQ{l:Expr}{tl:TE}(hl:PE X l tl):PI X tg l (jK X.K tl):=by
 intro pins s σ H R I h
 refine ax (hl pins s σ H _ I h) fun v s1 ⟨x,H1,I1,r1,q1⟩=>?_
 obtain⟨a,e,⟨xs,hq⟩,q⟩:=q1
 subst e
 cases r1
 obtain⟨its,rv,p,hz⟩:=I1.list hq
 refine wpAny_pyIter_list p.isList ?_
 refine⟨s1.heap.objs.size,[s1.heap.objs.size],_,_,H1,rfl,I1.kept (t':=s1.toks) fun b o e=>CK _ e,jJ a _,⟨_,CL _ rfl,rfl,rfl⟩,fun b hb=>?_,q⟩
 have e:b=s1.heap.objs.size:=by simpa using hb
 subst e
 exact I1.fpOk (Dj _) (I1.hok.fresh (Dj _))
theorem yS{l:Expr}{tl:TE}(hl:PE X l tl):PI X tg l (lr X.K tl):=by
 intro pins s σ H R I h
 refine ax (hl pins s σ H _ I h) fun v s1 ⟨x,H1,I1,r1,q1⟩=>?_
 obtain⟨a,e,⟨xs,hq⟩,q⟩:=q1
 subst e
 cases r1
 obtain⟨its,rv,p,hz⟩:=I1.tuple hq
 refine wpAny_pyIter_tuple (show s1.heap.IsTuple a its.toArray from p) ?_
 refine⟨s1.heap.objs.size,[s1.heap.objs.size],_,_,H1,rfl,I1.kept (t':=s1.toks) fun b o e=>CK _ e,vQ a _,⟨_,CL _ rfl,rfl,rfl⟩,fun b hb=>?_,q⟩
 have e:b=s1.heap.objs.size:=by simpa using hb
 subst e
 exact I1.fpOk (Dj _) (I1.hok.fresh (Dj _))
theorem Br{pins:List (Addr×Obj)}{σ:St}{H:Hp}{s:Shared}{R:It->Hp->Prop}{E:Value->Shared->Prop}{lo hi:Int}{t u v:Tok}{tk:Nat}(I:Inv X pins σ H s)(h1:-(2 ^ 62)<=lo)(h2:lo<2 ^ 62)(h3:-(2 ^ 62)<=hi)(h4:hi<2 ^ 62)
  (q:R (ec lo (hi-lo).toNat) H):wpAny (model X.prog X.w) X.A (pyIter (.ref s.heap.objs.size)) (ng X pins σ tg R) E { s with heap:=s.heap.push { cls:=.type "range",data:=.fields #[.int lo t,.int hi u,.int 1 v] },toks:=tk }:=by
 refine wpAny_pyIter_range (IsRange.new ..) (small_one h1 h2 h3 h4) ?_
 have I1:Inv X pins σ H { s with heap:=s.heap.push { cls:=.type "range",data:=.fields #[.int lo t,.int hi u,.int 1 v] },toks:=tk }:=I.kept fun b o e=>CK _ e
 refine⟨(s.heap.push { cls:=.type "range",data:=.fields #[.int lo t,.int hi u,.int 1 v] }).objs.size,[(s.heap.push { cls:=.type "range",data:=.fields #[.int lo t,.int hi u,.int 1 v] }).objs.size],_,_,H,rfl,
  I1.kept (t':=tk) fun b o e=>CK _ e,Bw _ lo (hi-lo).toNat,?_,fun b hb=>?_,q⟩
 ·have e1:lo+((0:Nat):Int)*1=lo:=by simp
  have e2:(((hi-lo).toNat:Nat):Int)-((0:Nat):Int)=Builtin.Range.rangeSize lo hi 1:=by rw[rangeSize_one];split<;>omega
  show IsRangeIter _ _ (lo+((0:Nat):Int)*1) ((((hi-lo).toNat:Nat):Int)-((0:Nat):Int)) 1
  rw[e1,e2]
  exact CL _ rfl
 ·have e:b=(s.heap.push { cls:=.type "range",data:=.fields #[.int lo t,.int hi u,.int 1 v] }).objs.size:=by simpa using hb
  subst e
  exact I1.fpOk (Dj _) (I1.hok.fresh (Dj _))
def rz(ta:TA):TI:=fun σ H R=>ta σ H fun vs H1=>∃j:Int,vs=[.int j]/\-(2 ^ 62)<=j/\j<2 ^ 62/\R (ec 0 j.toNat) H1
theorem eA{a:Expr}{ta:TA}{p pos:Pos}(hg:Gl X "range")(hm:X.mg "range" = none)(ha:PA X [a] ta)(hs:starEach [a] X.env=[(false,eval a X.env)]:=by rfl):PI X tg (.Call (.Name "range" p) [a] [] pos) (rz ta):=by
 intro pins s σ H R I h
 refine Call_ (fM I hg hm boot_range (PyProof.Rows.callWith_type1 (ax (ha pos pins s σ H _ I h) fun us s1 ⟨vs,H1,I1,r1,q1⟩=>?_) hs rfl))
 obtain⟨j,e,q1,q2,q⟩:=q1
 subst e
 cases r1 with
 | cons r rr=>
  cases rr
  obtain⟨t,rfl⟩:=r
  exact call_range_1 (Br I1 (by omega) (by omega) q1 q2 (by simpa using q))
def tJ(wi:TI)(g:TG)(tb:TS):TS:=fun D σ H=>wi σ H fun J H1=>∃W:Nat->Nat->St->Hp->Prop,(∃m,W 0 m σ H1)/\∀i m σ H,W i m σ H →
 (J.stop i H/\D.nx σ H)\/(J.go i H/\∃N:St->Hp->Prop,(∀σ' H',N σ' H'->∃m',m'<m/\W (i+1) m' σ' H')/\∀x H',J.yld i H x H'->g x σ H' fun σ2 H2=>tb { D with nx:=N,ct:=N,bk:=D.nx } σ2 H2)
def dC(fp:List Addr)(h:Heap):List (Addr×Obj):=fp.filterMap fun b=>(h.get? b).map fun o=>(b,o)
theorem jh{fp:List Addr}{h:Heap}{b:Addr}{o:Obj}(hb:b∈fp)(e:h.get? b=some o):(b,o)∈dC fp h:=List.mem_filterMap.mpr ⟨b,hb,by rw[e];rfl⟩
theorem kH{fp:List Addr}{h:Heap}{p:Addr×Obj}(hp:p∈dC fp h):p.1∈fp/\h.get? p.1=some p.2:=by
 obtain⟨b,hb,e⟩:=List.mem_filterMap.mp hp
 cases q:h.get? b with
 | none=>rw[q]at e;cases e
 | some o=>
  rw[q]at e
  have e':(b,o)=p:=DC e
  subst e'
  exact⟨hb,q⟩
theorem Inv.pinned{pins:List (Addr×Obj)}{σ:St}{H:Hp}{s:Shared}{fp:List Addr}(I:Inv X pins σ H s)(hf:∀b∈fp,bO X pins H b)(ho:∀b∈fp,∃o,s.heap.get? b=some o/\∀v,o.data≠.cell v):Inv X (pins++dC fp s.heap) σ H s:=
 I.pins_of fun p hp=>(Dm.mp hp).elim (fun z=>I.pin p (DD _ z)) fun z=>by
  obtain⟨hb,e⟩:=kH z
  obtain⟨f0,f1,f2,_⟩:=hf p.1 hb
  obtain⟨o,e',d⟩:=ho p.1 hb
  rw[e]at e';cases e'
  exact⟨e,f0,f1,f2,d⟩
theorem Inv.unpinned{pins pl:List (Addr×Obj)}{σ:St}{H:Hp}{s:Shared}(I:Inv X (pins++pl) σ H s):Inv X pins σ H s:=I.pins_of fun p hp=>I.pin p (DD _ (DE _ hp))
theorem cR{iter:Expr}{body:List Stmt}{wi:TI}{g:TG}{tb:TS}{pos:Pos}(hp:PassesOwn (model X.prog X.w) X.A X.env X.xe)(hc:X.calm=true)(hi:PI X tg iter wi)(hg:PG X tg g)(hb:cx X body tb)
  (hs:∀x,foldedSetIterable iter X.env x=pure x:=by intro _;rfl):PS X (.For tg iter body [] pos) (tJ wi g tb):=by
 intro pins s σ H D I h
 refine wpAny_For (ax (hi pins s σ H _ I h) fun v s1 h1=>ax h1 fun itv s2 h2=>?_) hs
 obtain⟨it,fp,tn,J,H2,e,I2,T,st2,f2,W,⟨m0,w0⟩,turn⟩:=h2
 subst e
 -- what stays true of the iterator's objects through the loop
 have stat:∀{H':Hp},(∀b∈fp,H' b=none)->∀b∈fp,bO X pins H' b:=fun hn b hb=>⟨hn b hb,(f2 b hb).2⟩
 refine codeAny_forLoop_any (fun n s'=>∃i σ' H',Inv X pins σ' H' s'/\tn i s'.heap/\(∀b∈fp,H' b=none)/\W i n σ' H') ?_ m0 ⟨0,σ,H2,I2,st2,fun b hb=>(f2 b hb).1,w0⟩
 rintro n s3 ⟨i,σ3,H3,I3,st3,fr3,w3⟩
 rcases turn i n σ3 H3 w3 with⟨stop,qn⟩ | ⟨go,N,hN,step⟩
 ·refine wpAny_passesOwn hp (ax (T.done X rfl rfl rfl hc i pins s3 σ3 H3 X.xe I3 (stat fr3) st3 stop) fun r s4 ⟨hr,I4⟩=>?_)
  subst hr
  exact wpAny_execs_nil ⟨σ3,H3,I4,qn⟩
 ·refine wpAny_passesOwn hp (ax (T.item X rfl rfl rfl hc i pins s3 σ3 H3 X.xe I3 (stat fr3) st3 go) fun r s4 ⟨u,hr,h4⟩=>?_)
  subst hr
  refine wpAny_passesOwn hp (ax h4 fun _ s5 ⟨x,H5,I5,r5,y5,st5,fr5⟩=>?_)
  have I5':=I5.pinned (stat fr5) (T.obj _ _ st5)
  refine wpAny_passesOwn hp (ax (hg _ s5 σ3 H5 x u _ I5' r5 (step x H5 y5)) fun _ s6 ⟨σ6,H6,I6,q6⟩=>?_)
  refine wpAny_passesOwn hp (ax (hb _ s6 σ6 H6 _ I6 q6) fun f s7 q7=>?_)
  have again:∀{σ7:St} {H7:Hp},Inv X (pins++dC fp s5.heap) σ7 H7 s7->N σ7 H7->∃m,m<n/\∃i σ' H',Inv X pins σ' H' s7/\tn i s7.heap/\(∀b∈fp,H' b=none)/\W i m σ' H':=fun{σ7 H7} I7 n7=>by
   obtain⟨m',hm,w7⟩:=hN σ7 H7 n7
   refine⟨m',hm,i+1,σ7,H7,I7.unpinned,T.keep _ _ _ st5 fun b hb o e=>(I7.pin (b,o) (DD _ (DD _ (jh hb e)))).1,fun b hb=>?_,w7⟩
   obtain⟨o,e,d⟩:=T.obj _ _ st5 b hb
   exact(I7.pin (b,o) (DD _ (DD _ (jh hb e)))).2.1
  cases f with
  | next=>obtain⟨σ7,H7,I7,n7⟩:=q7;exact again I7 n7
  | cont=>obtain⟨σ7,H7,I7,n7⟩:=q7;exact again I7 n7
  | brk=>obtain⟨σ7,H7,I7,q7⟩:=q7;exact⟨σ7,H7,I7.unpinned,q7⟩
  | ret v=>obtain⟨x7,σ7,H7,I7,r7,q7⟩:=q7;exact⟨x7,σ7,H7,I7.unpinned,r7,q7⟩
end
theorem xM{K:CJ}{a:Addr}{xs:List V}{g:TG}{tb:TS}{D:Ends}{σ:St}{H:Hp}(Pv:Nat->St->Hp->Prop)(h0:Pv 0 σ H)(hl:∀i σ H,i<=xs.length->Pv i σ H->ai K H a xs)
  (hs:∀i x σ H,xs[i]?=some x->Pv i σ H->g x σ H fun σ2 H2=>tb { D with nx:=Pv (i+1),ct:=Pv (i+1),bk:=D.nx } σ2 H2) (hd:∀σ H,Pv xs.length σ H->D.nx σ H) :
  ∃W:Nat->Nat->St->Hp->Prop,(∃m,W 0 m σ H)/\∀i m σ H,W i m σ H →
   ((cS K a).stop i H/\D.nx σ H)\/((cS K a).go i H/\∃N:St->Hp->Prop,(∀σ' H',N σ' H'->∃m',m'<m/\W (i+1) m' σ' H')/\∀x H',(cS K a).yld i H x H'->g x σ H' fun σ2 H2=>tb { D with nx:=N,ct:=N,bk:=D.nx } σ2 H2):=by
 refine⟨fun i m σ H=>m=xs.length-i/\i<=xs.length/\Pv i σ H,⟨xs.length,by simp,Nat.zero_le _,h0⟩,?_⟩
 rintro i m σ H ⟨rfl,hi,p⟩
 have q:=hl i σ H hi p
 by_cases hlt:i<xs.length
 ·refine .inr ⟨⟨xs,xs[i],q,by simp[hlt]⟩,Pv (i+1),fun σ' H' p'=>⟨xs.length-(i+1),by omega,rfl,hlt,p'⟩,fun x H' y=>?_⟩
  obtain⟨e,y⟩:=y
  subst e
  exact hs i x σ _ (y xs q) p
 ·have e:i=xs.length:=by omega
  subst e
  exact .inl ⟨⟨xs,q,Dj _⟩,hd σ H p⟩
theorem x9{K:CJ}{a:Addr}{xs:List V}{g:TG}{tb:TS}{D:Ends}{σ:St}{H:Hp}(Pv:Nat->St->Hp->Prop)(h0:Pv 0 σ H)(hl:∀i σ H,i<=xs.length->Pv i σ H->aj K H a xs)
  (hs:∀i x σ H,xs[i]?=some x->Pv i σ H->g x σ H fun σ2 H2=>tb { D with nx:=Pv (i+1),ct:=Pv (i+1),bk:=D.nx } σ2 H2) (hd:∀σ H,Pv xs.length σ H->D.nx σ H) :
  ∃W:Nat->Nat->St->Hp->Prop,(∃m,W 0 m σ H)/\∀i m σ H,W i m σ H →
   ((cF K a).stop i H/\D.nx σ H)\/((cF K a).go i H/\∃N:St->Hp->Prop,(∀σ' H',N σ' H'->∃m',m'<m/\W (i+1) m' σ' H')/\∀x H',(cF K a).yld i H x H'->g x σ H' fun σ2 H2=>tb { D with nx:=N,ct:=N,bk:=D.nx } σ2 H2):=by
 refine⟨fun i m σ H=>m=xs.length-i/\i<=xs.length/\Pv i σ H,⟨xs.length,by simp,Nat.zero_le _,h0⟩,?_⟩
 rintro i m σ H ⟨rfl,hi,p⟩
 have q:=hl i σ H hi p
 by_cases hlt:i<xs.length
 ·refine .inr ⟨⟨xs,xs[i],q,by simp[hlt]⟩,Pv (i+1),fun σ' H' p'=>⟨xs.length-(i+1),by omega,rfl,hlt,p'⟩,fun x H' y=>?_⟩
  obtain⟨e,y⟩:=y
  subst e
  exact hs i x σ _ (y xs q) p
 ·have e:i=xs.length:=by omega
  subst e
  exact .inl ⟨⟨xs,q,Dj _⟩,hd σ H p⟩
theorem wH{lo:Int}{n:Nat}{g:TG}{tb:TS}{D:Ends}{σ:St}{H:Hp}(Pv:Nat->St->Hp->Prop)(h0:Pv 0 σ H)
  (hs:∀i σ H,i<n->Pv i σ H->g (.int (lo+i)) σ H fun σ2 H2=>tb { D with nx:=Pv (i+1),ct:=Pv (i+1),bk:=D.nx } σ2 H2) (hd:∀σ H,Pv n σ H->D.nx σ H) :
  ∃W:Nat->Nat->St->Hp->Prop,(∃m,W 0 m σ H)/\∀i m σ H,W i m σ H →
   ((ec lo n).stop i H/\D.nx σ H)\/((ec lo n).go i H/\∃N:St->Hp->Prop,(∀σ' H',N σ' H'->∃m',m'<m/\W (i+1) m' σ' H')/\∀x H',(ec lo n).yld i H x H'->g x σ H' fun σ2 H2=>tb { D with nx:=N,ct:=N,bk:=D.nx } σ2 H2):=by
 refine⟨fun i m σ H=>m=n-i/\i<=n/\Pv i σ H,⟨n,by simp,Nat.zero_le _,h0⟩,?_⟩
 rintro i m σ H ⟨rfl,hi,p⟩
 by_cases hlt:i<n
 ·refine .inr ⟨hlt,Pv (i+1),fun σ' H' p'=>⟨n-(i+1),by omega,rfl,hlt,p'⟩,fun x H' y=>?_⟩
  obtain⟨e,y⟩:=y
  subst e y
  exact hs i σ _ hlt p
 ·have e:i=n:=by omega
  subst e
  exact .inl ⟨Dj _,hd σ H p⟩
end L2
namespace L2
open PySem PySem.Spec PyProof.Rows
abbrev R2:=V->V->Hp->VK->Prop
def bo(X:Cx)(f:Value->Value->Sem Value)(r:R2):Prop:=
 ∀(pins:List (Addr×Obj)) (s:Shared) (σ:St) (H:Hp) (x y:V) (v u:Value) (Q:VK),Inv X pins σ H s->RelV x v->RelV y u->r x y H Q →
  wpAny (model X.prog X.w) X.A (f v u) (EP X pins σ Q) X.xe s
def kL(X:Cx)(f:Value->Sem Value)(r:V->Hp->VK->Prop):Prop:=
 ∀(pins:List (Addr×Obj)) (s:Shared) (σ:St) (H:Hp) (x:V) (v:Value) (Q:VK),Inv X pins σ H s->RelV x v->r x H Q →
  wpAny (model X.prog X.w) X.A (f v) (EP X pins σ Q) X.xe s
def bH(X:Cx)(f:Value)(r:List V->Hp->VK->Prop):Prop:=
 ∀(pins:List (Addr×Obj)) (s:Shared) (σ:St) (H:Hp) (xs:List V) (us:List Value) (Q:VK),Inv X pins σ H s->Vals xs us->r xs H Q →
  wpAny (model X.prog X.w) X.A (call f us) (EP X pins σ Q) X.xe s
def h8(r:R2)(ta tb:TE):TE:=fun σ H Q=>ta σ H fun x H1=>tb σ H1 fun y H2=>r x y H2 Q
def pf(r:V->Hp->VK->Prop)(ta:TE):TE:=fun σ H Q=>ta σ H fun x H1=>r x H1 Q
def rI(C:Int->Int->Prop)(g:Int->Int->V):R2:=fun x y H Q=>∃i j,x=.int i/\y=.int j/\C i j/\Q (g i j) H
def er(g:Int->Int->V):R2:=fun x y H Q=>∃i j,x=.int i/\y=.int j/\Q (g i j) H
def rU(g:Int->V):V->Hp->VK->Prop:=fun x H Q=>∃i,x=.int i/\Q (g i) H
section
variable {X:Cx} {a b c:Expr} {ta tb tc:TE} {pos:Pos}
theorem lJ(ha:PE X a ta)(hb:PE X b tb){pins:List (Addr×Obj)}{s:Shared}{σ:St}{H:Hp}{R:V->V->Hp->Prop}(I:Inv X pins σ H s)
  (h:ta σ H fun x H1=>tb σ H1 fun y H2=>R x y H2) {Q:Value->Shared->Prop} {f:Value->Value->Sem Value}
  (hf:∀v u s2 x y H2,Inv X pins σ H2 s2->RelV x v->RelV y u->R x y H2->wpAny (model X.prog X.w) X.A (f v u) Q X.xe s2) :
  wpAny (model X.prog X.w) X.A (eval a X.env) (fun v s₁=>wpAny (model X.prog X.w) X.A (eval b X.env) (fun u s₂=>wpAny (model X.prog X.w) X.A (f v u) Q X.xe s₂) X.xe s₁) X.xe s:=by
 refine ax (ha pins s σ H _ I h) fun v s1 ⟨x,H1,I1,r1,q1⟩=>?_
 refine ax (hb pins s1 σ H1 _ I1 q1) fun u s2 ⟨y,H2,I2,r2,q2⟩=>?_
 exact hf v u s2 x y H2 I2 r1 r2 q2
theorem ah{op:Operator}{r:R2}(ho:bo X (binaryOp op) r)(ha:PE X a ta)(hb:PE X b tb):PE X (.BinOp a op b pos) (h8 r ta tb):=by
 intro pins s σ H Q I h
 exact wpAny_BinOp (lJ ha hb I h fun v u s2 x y H2 I2 rx ry q=>ho pins s2 σ H2 x y v u Q I2 rx ry q)
theorem jF{op:UnaryOp}{r:V->Hp->VK->Prop}(ho:kL X (unaryOp op) r)(ha:PE X a ta):PE X (.UnaryOp op a pos) (pf r ta):=by
 intro pins s σ H Q I h
 exact UnaryOp_ (ax (ha pins s σ H _ I h) fun v s1 ⟨x,H1,I1,r1,q1⟩=>ho pins s1 σ H1 x v Q I1 r1 q1)
theorem jD{f:Value->Value->Sem Value}{C:Int->Int->Prop}{g:Int->Int->Int}
  (rule:∀(i j:Int) (t u:Tok) (s:Shared) (Q:Value->Shared->Prop) (E:Value->Shared->Prop),C i j->Q (.int (g i j) s.toks) { s with toks:=s.toks+1 }->wpAny (model X.prog X.w) X.A (f (.int i t) (.int j u)) Q E s) :
  bo X f (rI C fun i j=>.int (g i j)):=by
 intro pins s σ H x y v u Q I rx ry h
 obtain⟨i,j,rfl,rfl,hc,q⟩:=h
 obtain⟨t,rfl⟩:=rx
 obtain⟨t',rfl⟩:=ry
 exact rule i j t t' s _ _ hc ⟨.int (g i j),H,I.tok _,⟨_,rfl⟩,q⟩
theorem uj{f:Value->Value->Sem Value}{g:Int->Int->Int}
  (rule:∀(i j:Int) (t u:Tok) (s:Shared) (Q:Value->Shared->Prop) (E:Value->Shared->Prop),Q (.int (g i j) s.toks) { s with toks:=s.toks+1 }->wpAny (model X.prog X.w) X.A (f (.int i t) (.int j u)) Q E s) :
  bo X f (er fun i j=>.int (g i j)):=by
 intro pins s σ H x y v u Q I rx ry h
 obtain⟨i,j,rfl,rfl,q⟩:=h
 obtain⟨t,rfl⟩:=rx
 obtain⟨t',rfl⟩:=ry
 exact rule i j t t' s _ _ ⟨.int (g i j),H,I.tok _,⟨_,rfl⟩,q⟩
theorem jT{f:Value->Value->Sem Value}{g:Int->Int->Bool}
  (rule:∀(i j:Int) (t u:Tok) (s:Shared) (Q:Value->Shared->Prop) (E:Value->Shared->Prop),Q (.bool (g i j)) s->wpAny (model X.prog X.w) X.A (f (.int i t) (.int j u)) Q E s) :
  bo X f (er fun i j=>.bl (g i j)):=by
 intro pins s σ H x y v u Q I rx ry h
 obtain⟨i,j,rfl,rfl,q⟩:=h
 obtain⟨t,rfl⟩:=rx
 obtain⟨t',rfl⟩:=ry
 exact rule i j t t' s _ _ ⟨.bl (g i j),H,I,rfl,q⟩
def p6(i j:Int):Prop:=0<=j/\j<=1000000/\i.natAbs<2 ^ 64
def jx(i j:Int):Prop:=(-(2 ^ 64)<i/\i<2 ^ 64)\/(-(2 ^ 64)<j/\j<2 ^ 64)
theorem jx.ok{i j:Int}(h:jx i j):IntMulOk i j:=by
 rcases h with⟨h1,h2⟩ | ⟨h1,h2⟩
 ·exact .of_left (intBits_le_64 h1 h2)
 ·exact .of_right (intBits_le_64 h1 h2)
theorem aG:bo X (binaryOp .Add) (er fun i j=>.int (i+j)):=uj fun _ _ _ _ _ _ _ q=>add_int q
theorem cO:bo X (binaryOp .Sub) (er fun i j=>.int (i-j)):=uj fun _ _ _ _ _ _ _ q=>sub_int q
theorem dW:bo X (binaryOp .Mult) (rI jx fun i j=>.int (i*j)):=jD fun _ _ _ _ _ _ _ hc q=>mul_int q hc.ok
theorem bz:bo X (binaryOp .Mod) (rI (fun _ j=>0<j) fun i j=>.int (i % j)):=jD fun i j _ _ _ _ _ hc q=>by
 have h1:(0:Int)<j:=hc
 exact mod_int' (by omega) (by rw[Int.fmod_eq_emod_of_nonneg i (by omega)];exact q)
theorem fZ:bo X (binaryOp .Pow) (rI p6 fun i j=>.int (i ^ j.toNat)):=jD fun _ _ _ _ _ _ _ hc q=>pow_int_small hc.1 hc.2.1 hc.2.2 q
theorem vT{f:Value->Sem Value}{g:Int->Int}
  (rule:∀(i:Int) (t:Tok) (s:Shared) (Q:Value->Shared->Prop) (E:Value->Shared->Prop),Q (.int (g i) s.toks) { s with toks:=s.toks+1 }->wpAny (model X.prog X.w) X.A (f (.int i t)) Q E s) :
  kL X f (rU fun i=>.int (g i)):=by
 intro pins s σ H x v Q I rx h
 obtain⟨i,rfl,q⟩:=h
 obtain⟨t,rfl⟩:=rx
 exact rule i t s _ _ ⟨.int (g i),H,I.tok _,⟨_,rfl⟩,q⟩
theorem jP:kL X (unaryOp .USub) (rU fun i=>.int (-i)):=vT fun _ _ _ _ _ q=>neg_int q
end
def oh:V->V->Bool
 | .non,.non=>true | .non,.int _=>true | .int _,.non=>true | .non,.bl _=>true | .bl _,.non=>true | .non,.str _=>true | .str _,.non=>true
 | .int _,.int _=>true | .bl _,.bl _=>true | .str _,.str _=>true | .byt _,.byt _=>true
 | .int _,.str _=>true | .str _,.int _=>true | .bl _,.str _=>true | .str _,.bl _=>true
 | _,_=>false
def i6:R2:=fun x y H Q=>oh x y=true/\Q (.bl (decide (x=y))) H
def kX:R2:=fun x y H Q=>oh x y=true/\Q (.bl (!decide (x=y))) H
theorem pH{i j:Int}:decide (V.int i=V.int j)=(i == j):=by
 rw[Dz]
 simp
theorem nL{i j:Bool}:decide (V.bl i=V.bl j)=(i == j):=by
 rw[Dz]
 simp
theorem ie{i j:Str}:decide (V.str i=V.str j)=(i == j):=by
 rw[Dz]
 simp
theorem oQ{i j:Array UInt8}:decide (V.byt i=V.byt j)=(i.toList == j.toList):=by
 rw[Dz]
 cases i
 cases j
 simp
section
variable {X:Cx} {a b c:Expr} {ta tb tc:TE} {pos:Pos}
theorem bt{pins:List (Addr×Obj)}{σ:St}{H:Hp}{s:Shared}{Q:VK}{k k':Bool}(I:Inv X pins σ H s)(q:Q (.bl k) H)(e:k=k'):EP X pins σ Q (.bool k') s:=by
 subst e
 exact⟨.bl k,H,I,rfl,q⟩
theorem ck:bo X (compareOp .Eq) i6:=by
 intro pins s σ H x y v u Q I rx ry h
 obtain⟨hs,q⟩:=h
 cases x with
 | non=>
  cases rx
  cases y with
  | non=>cases ry;exact PySem.EqNone.eq_none_none (bt I q (by simp))
  | bl j=>cases ry;exact PySem.EqNone.eq_none_bool (bt I q (by simp))
  | int j=>obtain⟨t',rfl⟩:=ry;exact PySem.EqNone.eq_none_int (bt I q (by simp))
  | str j=>obtain⟨t',rfl⟩:=ry;exact PySem.EqNone.eq_none_str (bt I q (by simp))
  | _=>exact absurd (show false=true from hs) Df
 | bl i=>
  cases rx
  cases y with
  | non=>cases ry;exact PySem.EqNone.eq_bool_none (bt I q (by simp))
  | bl j=>cases ry;exact eq_bool (bt I q nL)
  | str j=>obtain⟨t',rfl⟩:=ry;exact PySem.EqMixed.eq_bool_str (bt I q (by simp))
  | _=>exact absurd (show false=true from hs) Df
 | int i=>
  obtain⟨t,rfl⟩:=rx
  cases y with
  | non=>cases ry;exact PySem.EqNone.eq_int_none (bt I q (by simp))
  | int j=>obtain⟨t',rfl⟩:=ry;exact eq_int (bt I q pH)
  | str j=>obtain⟨t',rfl⟩:=ry;exact PySem.EqMixed.eq_int_str (bt I q (by simp))
  | _=>exact absurd (show false=true from hs) Df
 | str i=>
  obtain⟨t,rfl⟩:=rx
  cases y with
  | non=>cases ry;exact PySem.EqNone.eq_str_none (bt I q (by simp))
  | bl j=>cases ry;exact PySem.EqMixed.eq_str_bool (bt I q (by simp))
  | int j=>obtain⟨t',rfl⟩:=ry;exact PySem.EqMixed.eq_str_int (bt I q (by simp))
  | str j=>obtain⟨t',rfl⟩:=ry;exact eq_str (bt I q ie)
  | _=>exact absurd (show false=true from hs) Df
 | byt i=>
  obtain⟨t,rfl⟩:=rx
  cases y with
  | byt j=>obtain⟨t',rfl⟩:=ry;exact PySem.W.eq_bytes (bt I q oQ)
  | _=>exact absurd (show false=true from hs) Df
 | _=>cases y<;>exact absurd (show false=true from hs) Df
theorem cw:bo X (compareOp .NotEq) kX:=by
 intro pins s σ H x y v u Q I rx ry h
 obtain⟨hs,q⟩:=h
 cases x with
 | non=>
  cases rx
  cases y with
  | non=>cases ry;exact PySem.EqNone.ne_none_none (bt I q (by simp))
  | bl j=>cases ry;exact PySem.EqNone.ne_none_bool (bt I q (by simp))
  | int j=>obtain⟨t',rfl⟩:=ry;exact PySem.EqNone.ne_none_int (bt I q (by simp))
  | str j=>obtain⟨t',rfl⟩:=ry;exact PySem.EqNone.ne_none_str (bt I q (by simp))
  | _=>exact absurd (show false=true from hs) Df
 | bl i=>
  cases rx
  cases y with
  | non=>cases ry;exact PySem.EqNone.ne_bool_none (bt I q (by simp))
  | bl j=>cases ry;exact ne_bool (bt I q (congrArg not nL))
  | str j=>obtain⟨t',rfl⟩:=ry;exact PySem.EqMixed.ne_bool_str (bt I q (by simp))
  | _=>exact absurd (show false=true from hs) Df
 | int i=>
  obtain⟨t,rfl⟩:=rx
  cases y with
  | non=>cases ry;exact PySem.EqNone.ne_int_none (bt I q (by simp))
  | int j=>obtain⟨t',rfl⟩:=ry;exact ne_int (bt I q (congrArg not pH))
  | str j=>obtain⟨t',rfl⟩:=ry;exact PySem.EqMixed.ne_int_str (bt I q (by simp))
  | _=>exact absurd (show false=true from hs) Df
 | str i=>
  obtain⟨t,rfl⟩:=rx
  cases y with
  | non=>cases ry;exact PySem.EqNone.ne_str_none (bt I q (by simp))
  | bl j=>cases ry;exact PySem.EqMixed.ne_str_bool (bt I q (by simp))
  | int j=>obtain⟨t',rfl⟩:=ry;exact PySem.EqMixed.ne_str_int (bt I q (by simp))
  | str j=>obtain⟨t',rfl⟩:=ry;exact ne_str (bt I q (congrArg not ie))
  | _=>exact absurd (show false=true from hs) Df
 | byt i=>
  obtain⟨t,rfl⟩:=rx
  cases y with
  | byt j=>obtain⟨t',rfl⟩:=ry;exact PySem.W.ne_bytes (bt I q (congrArg not oQ))
  | _=>exact absurd (show false=true from hs) Df
 | _=>cases y<;>exact absurd (show false=true from hs) Df
theorem dD:bo X (compareOp .Lt) (er fun i j=>.bl (decide (i<j))):=jT fun _ _ _ _ _ _ _ q=>lt_int q
theorem jn:bo X (compareOp .LtE) (er fun i j=>.bl (decide (i<=j))):=jT fun _ _ _ _ _ _ _ q=>le_int q
theorem dU:bo X (compareOp .Gt) (er fun i j=>.bl (decide (j<i))):=jT fun _ _ _ _ _ _ _ q=>gt_int q
theorem jo:bo X (compareOp .GtE) (er fun i j=>.bl (decide (j<=i))):=jT fun _ _ _ _ _ _ _ q=>ge_int q
theorem Ca:bo X (compareOp .In) (fun x y H Q=>∃i j,x=.str i/\y=.str j/\Q (.bl (!(Builtin.Str.occurrences j i 0 j.length 1).isEmpty)) H):=by
 intro pins s σ H x y v u Q I rx ry h
 obtain⟨i,j,rfl,rfl,q⟩:=h
 obtain⟨t,rfl⟩:=rx
 obtain⟨t',rfl⟩:=ry
 exact in_str (bt I q rfl)
theorem aC(b:Expr){op:CmpOp}(h:op≠.In:=by decide)(h2:op≠.NotIn:=by decide):behindInMarks op b=false:=by
 have e1:(op == CmpOp.In)=false:=by cases op<;>first | rfl | exact absurd rfl h
 have e2:(op == CmpOp.NotIn)=false:=by cases op<;>first | rfl | exact absurd rfl h2
 cases b<;>simp[behindInMarks,e1,e2]
theorem dA{op:CmpOp}{r:R2}(ho:bo X (compareOp op) r)(ha:PE X a ta)(hb:PE X b tb)(hm:behindInMarks op b=false):PE X (.Compare a [op] [b] pos) (h8 r ta tb):=by
 intro pins s σ H Q I h
 exact wpAny_Compare1 (lJ ha hb I h fun v u s2 x y H2 I2 rx ry q=>ho pins s2 σ H2 x y v u Q I2 rx ry q) hm
def oU(t:TE):TT:=fun σ H Q=>t σ H fun x H'=>∃k,x=.bl k/\Q k H'
theorem aJ{op:CmpOp}{r:R2}(ho:bo X (compareOp op) r)(ha:PE X a ta)(hb:PE X b tb)(hm:behindInMarks op b=false):PT X (.Compare a [op] [b] pos) (oU (h8 r ta tb)):=by
 intro pins s σ H Q I h
 refine wpAny_isTrue_Compare1 (ax (ha pins s σ H _ I h) fun v s1 ⟨x,H1,I1,r1,q1⟩=>ax (hb pins s1 σ H1 _ I1 q1) fun u s2 ⟨y,H2,I2,r2,q2⟩=>
  ax (ho pins s2 σ H2 x y v u _ I2 r1 r2 q2) fun c s3 ⟨z,H3,I3,r3,k,e,q3⟩=>?_) hm
 subst e
 cases r3
 exact wpAny_truthy_bool ⟨H3,I3,q3⟩
def n9(r r':R2)(ta tb tc:TE):TE:=fun σ H Q=>ta σ H fun x H1=>tb σ H1 fun y H2=>r x y H2 fun z H3=>∃k,z=.bl k ∧
 (if k=true then tc σ H3 fun w' H4=>r' y w' H4 Q else Q (.bl false) H3)
theorem jS{op op':CmpOp}{r r':R2}(ho:bo X (compareOp op) r)(ho':bo X (compareOp op') r')(ha:PE X a ta)(hb:PE X b tb)(hc:PE X c tc)
  (hm:lastMarks [op,op'] [b,c]=false:=by with_unfolding_all rfl):PE X (.Compare a [op,op'] [b,c] pos) (n9 r r' ta tb tc):=by
 intro pins s σ H Q I h
 refine Compare_chain (ax (ha pins s σ H _ I h) fun v s1 ⟨x,H1,I1,r1,q1⟩=>chain_link (ax (hb pins s1 σ H1 _ I1 q1) fun u s2 ⟨y,H2,I2,r2,q2⟩=>
  ax (ho pins s2 σ H2 x y v u _ I2 r1 r2 q2) fun d s3 ⟨z,H3,I3,r3,k,e,q3⟩=>?_)) hm
 subst e
 cases r3
 refine wpAny_truthy_bool ?_
 cases k with
 | false=>exact ite_ff ⟨.bl false,H3,I3,rfl,q3⟩
 | true=>exact ite_tt (chain_last (ax (hc pins s3 σ H3 _ I3 q3) fun w' s4 ⟨z',H4,I4,r4,q4⟩=>ho' pins s4 σ H4 y z' u w' Q I4 r2 r4 q4))
theorem iM:(sizeLine:Nat)<2 ^ 63:=by rw[sizeLine_eq];decide
theorem du:bo X (binaryOp .Add) (fun x y H Q=>∃i j,x=.str i/\y=.str j/\i.length+j.length<=sizeLine/\Q (.str (i++j)) H):=by
 intro pins s σ H x y v u Q I rx ry h
 obtain⟨i,j,rfl,rfl,hz,q⟩:=h
 obtain⟨t,rfl⟩:=rx
 obtain⟨t',rfl⟩:=ry
 exact add_str (fun t' tk=>⟨.str (i++j),H,I.tok _,⟨_,rfl⟩,q⟩) hz
theorem vals1{x:V}{us:List Value}(r:Vals [x] us):∃u,us=[u]/\RelV x u:=by
 cases r with
 | cons r1 r2=>cases r2;exact⟨_,rfl,r1⟩
theorem vals2{x y:V}{us:List Value}(r:Vals [x,y] us):∃u w',us=[u,w']/\RelV x u/\RelV y w':=by
 cases r with
 | cons r1 r2=>
  cases r2 with
  | cons r3 r4=>cases r4;exact⟨_,_,rfl,r1,r3⟩
theorem yw(hc:X.calm=true):bH X (.builtin "max") (fun xs H Q=>∃i j,xs=[.int i,.int j]/\Q (.int (if j>i then j else i)) H):=by
 intro pins s σ H xs us Q I r h
 obtain⟨i,j,rfl,q⟩:=h
 obtain⟨u,w',rfl,⟨t,rfl⟩,⟨t',rfl⟩⟩:=vals2 r
 refine max_two_ints (I.ok.hd hc) fun h' tk k=>⟨_,H,I.kept k,?_,q⟩
 by_cases hj:j>i
 ·rw[DQ hj,DQ hj];exact⟨_,rfl⟩
 ·rw[DP hj,DP hj];exact⟨_,rfl⟩
theorem Bs(hc:X.calm=true):bH X (.builtin "min") (fun xs H Q=>∃i j,xs=[.int i,.int j]/\Q (.int (if j<i then j else i)) H):=by
 intro pins s σ H xs us Q I r h
 obtain⟨i,j,rfl,q⟩:=h
 obtain⟨u,w',rfl,⟨t,rfl⟩,⟨t',rfl⟩⟩:=vals2 r
 refine min_two_ints (I.ok.hd hc) fun h' tk k=>⟨_,H,I.kept k,?_,q⟩
 by_cases hj:j<i
 ·rw[DQ hj,DQ hj];exact⟨_,rfl⟩
 ·rw[DP hj,DP hj];exact⟨_,rfl⟩
theorem y7:bH X (.type "int") (fun xs H Q=>(∃i,xs=[.int i]/\Q (.int i) H)\/∃k,xs=[.bl k]/\Q (.int (if k then 1 else 0)) H):=by
 intro pins s σ H xs us Q I r h
 rcases h with⟨i,rfl,q⟩ | ⟨k,rfl,q⟩
 ·obtain⟨u,rfl,t,rfl⟩:=vals1 r
  exact call_int_int ⟨.int i,H,I,⟨_,rfl⟩,q⟩
 ·obtain⟨u,rfl,r1⟩:=vals1 r
  cases r1
  exact call_int_bool ⟨.int (if k then 1 else 0),H,I.tok _,⟨_,rfl⟩,q⟩
theorem dN:bH X (.type "str") (fun xs H Q=>∃i,xs=[.int i]/\i.natAbs.log2<1920/\Q (.str (toString i)) H):=by
 intro pins s σ H xs us Q I r h
 obtain⟨i,rfl,hz,q⟩:=h
 obtain⟨u,rfl,t,rfl⟩:=vals1 r
 exact PySem.P.str_of_int hz ⟨.str _,H,I.tok _,⟨_,rfl⟩,q⟩
end
end L2
namespace L2
open PySem PySem.Spec PyProof.Rows
structure ObjM(h:Heap)(x dx C:Addr)(mA:Str->Option Value):Prop where
 obj:h.get? x=some (PySem.W.instObj C dx)
 ns:h.Ns1 dx mA
 ne:dx≠x
theorem zU{h:Heap}{dx:Addr}{mA:Str->Option Value}(n:h.Ns1 dx mA):∃od,h.get? dx=some od/\∀name,PySem.W.lookIn name od=some (mA name):=by
 obtain⟨o,es,ep,ho,hd,hk,_,hm⟩:=n
 refine⟨o,ho,fun name=>?_⟩
 have e:=hm name
 unfold nsFind findBy at e
 rw[←Array.find?_toList]at e
 unfold PySem.W.lookIn
 rw[hd]
 dsimp only
 split
 ·rename_i y q
  rw[q]at e
  exact congrArg some e
 ·rename_i q
  rw[q]at e
  have a:es.toList.any (·.refKey)=false:=by
   rw[List.any_eq_false]
   intro y hy
   obtain⟨z,t,hkey⟩:=hk y (Array.mem_toList_iff.mp hy)
   simp[DictEntry.refKey,hkey]
  have a':¬es.toList.any (·.refKey)=true:=by rw[a];exact Df
  rw[DP a']
  exact congrArg some e
theorem ObjM.look{h:Heap}{x dx C:Addr}{mA:Str->Option Value}(I:ObjM h x dx C mA):∃od,PySem.W.InstAt h x (PySem.W.instObj C dx) C (some od)/\∀name,PySem.W.lookIn name od=some (mA name):=
 let ⟨od,ho,hl⟩:=zU I.ns
 ⟨od,⟨I.obj,rfl,rfl,ho⟩,hl⟩
section
variable {prog:Program} {w:World} {A:Around} {E:Value->Shared->Prop} {s:Shared} {K:CJ} {x dx C f:Addr} {mA:Str->Option Value} {name:Str} {v:Value}
end
section
variable {P:Program} {w:World} {H H':Hp} {h h':Heap} {a C dx:Addr} {fs fs':List (Str×V)}
theorem xK(hok:bD P w H h)(e:H a=some (.ins C dx fs)):∃mA,ObjM h a dx C mA/\(∀f,fV (fs.lookup f) (mA f))/\PySem.Within mA (fs.map (·.1))/\fs.length<=1000/\H dx=some (.own a):=by
 obtain⟨d,z,ne,ob,mA,n,r,q⟩:=(show bP P w H h a (.ins C dx fs)from hok a _ e)
 exact⟨mA,⟨ob,n,ne⟩,r,q,z,d⟩
end
structure Cls(K:CJ)(C:Addr):Prop where
 pg:PySem.W.plainGet K C Str.empty=true
 hd:PySem.W.hasDictIn K C=true
 po:PySem.W.plainOver K C=true
 sa:PySem.W.findIn K (.ref C) "__setattr__" = some (some (.builtin "object.__setattr__"))
theorem Cls.get{K:CJ}{C:Addr}(c:Cls K C)(f:Str):PySem.W.plainGet K C f=true:=c.pg
section
variable {X:Cx} {pins:List (Addr×Obj)} {σ:St} {H:Hp} {s:Shared} {a C dx:Addr} {fs:List (Str×V)} {f:Str} {v:V} {A:Around} {E:Value->Shared->Prop}
end
section
variable {X:Cx} {o e value:Expr} {f:Str} {pos pos' tpos:Pos} {ta tv:TE}
end
section
variable {X:Cx} {pins:List (Addr×Obj)} {σ:St} {H:Hp} {s:Shared} {A:Around} {E:Value->Shared->Prop} {Q:Value->Shared->Prop} {c:Value} {b:Bool}
inductive TyOf(K:CJ)(H:Hp):V->Value->Prop where
 | non:TyOf K H .non (.type "NoneType")
 | bl (x:Bool):TyOf K H (.bl x) (.type "bool")
 | int (i:Int):TyOf K H (.int i) (.type "int")
 | str (x:Str):TyOf K H (.str x) (.type "str")
 | flt (x:UInt64):TyOf K H (.flt x) (.type "float")
 | lst {a:Addr} {xs:List V} (e:H a=some (.lst xs)):TyOf K H (.ref a) (.type "list")
 | frz {a:Addr} {o:Obj} {xs:List V} (e:H a=some (.frz o (.lst xs))):TyOf K H (.ref a) (.type "list")
 | tup {a:Addr} {xs:List V} (e:H a=some (.tup xs)):TyOf K H (.ref a) (.type "tuple")
 | dK {a:Addr} {kvs:List (Key×V)} (e:H a=some (.dK kvs)):TyOf K H (.ref a) (.type "dict")
 | dT {a:Addr} {kvs:List (List Key×V)} (e:H a=some (.dT kvs)):TyOf K H (.ref a) (.type "dict")
 | ins {a C dx:Addr} {fs:List (Str×V)} (e:H a=some (.ins C dx fs)) (cl:Cls K C) (ha:PySem.W.findIn K (.ref C) "__class__" = some (some (.builtin "object.__class__")))
   (hn:PySem.W.specialIn K (.builtin "object.__class__") "__get__" = some (some (.builtin "getset_descriptor.__get__"))) (htk:PySem.W.takesIn K (.builtin "object.__class__")=some true)
   (hm:PySem.W.mroIn K C (.type "object")=some true):TyOf K H (.ref a) (.ref C)
theorem yU{x:V}{u t:Value}(I:Inv X pins σ H s)(rx:RelV x u)(ty:TyOf X.K H x t)(e:PySem.W.kitOne X.K t c=some b)(h:∀tk,Q (.bool b) { s with toks:=tk }):
  wpAny (model X.prog X.w) A (call (.builtin "isinstance") [u,c]) Q E s:=by
 cases ty with
 | non=>cases(show u=Value.none from rx);exact PySem.W.kia_one PySem.W.kitx_none I.kIn True.intro e (fun z=>nomatch z) h
 | bl y=>cases(show u=Value.bool y from rx);exact PySem.W.kia_one PySem.W.kitx_bool I.kIn True.intro e (fun z=>nomatch z) h
 | int i=>obtain⟨t,q⟩:=(show ∃t,u=Value.int i t from rx);cases q;exact PySem.W.kia_one PySem.W.kitx_int I.kIn True.intro e (fun z=>nomatch z) h
 | str y=>obtain⟨t,q⟩:=(show ∃t,u=Value.str y t from rx);cases q;exact PySem.W.kia_one PySem.W.kitx_str I.kIn True.intro e (fun z=>nomatch z) h
 | flt y=>obtain⟨t,q⟩:=(show ∃t,u=Value.float y t from rx);cases q;exact PySem.W.kia_one PySem.W.kitx_float I.kIn True.intro e (fun z=>nomatch z) h
 | @lst a xs ea=>
  cases(show u=Value.ref a from rx)
  obtain⟨_,_,n,_,h1⟩:=(show bP X.prog X.w H s.heap a (.lst xs)from I.hok a _ ea)
  exact PySem.W.kia_one PySem.W.kitx_list I.kIn ⟨_,h1,rfl⟩ e (fun z=>nomatch z) h
 | @frz a ob xs ea=>
  cases(show u=Value.ref a from rx)
  obtain⟨_,_,_,n,_,h1⟩:=(show bP X.prog X.w H s.heap a (.frz ob (.lst xs))from I.hok a _ ea)
  exact PySem.W.kia_one PySem.W.kitx_list I.kIn ⟨_,h1,rfl⟩ e (fun z=>nomatch z) h
 | @tup a xs ea=>
  cases(show u=Value.ref a from rx)
  obtain⟨_,_,_,p⟩:=(show bP X.prog X.w H s.heap a (.tup xs)from I.hok a _ ea)
  obtain⟨o,h1,h2,_⟩:=p
  exact PySem.W.kia_one PySem.W.kitx_tuple I.kIn ⟨o,h1,h2⟩ e (fun z=>nomatch z) h
 | @dK a kvs ea=>
  cases(show u=Value.ref a from rx)
  obtain⟨_,_,vs,_,p⟩:=(show bP X.prog X.w H s.heap a (.dK kvs)from I.hok a _ ea)
  obtain⟨o,es,ep,h1,h2,_⟩:=p
  exact PySem.W.kia_one PySem.W.kitx_dict I.kIn ⟨o,h1,h2.1⟩ e (fun z=>nomatch z) h
 | @dT a kvs ea=>
  cases(show u=Value.ref a from rx)
  obtain⟨_,_,xs,_,o,es,ep,h1,h2,_⟩:=(show bP X.prog X.w H s.heap a (.dT kvs)from I.hok a _ ea)
  exact PySem.W.kia_one PySem.W.kitx_dict I.kIn ⟨o,h1,h2.1⟩ e (fun z=>nomatch z) h
 | @ins a C dx fs ea cl ha hn htk hm=>
  cases(show u=Value.ref a from rx)
  obtain⟨mA,O,_⟩:=xK I.hok ea
  obtain⟨od,J,_⟩:=O.look
  exact PySem.W.kia_one (PySem.W.kitx_own (cl.get _) cl.hd ha hn htk hm) I.kIn J e (fun z=>nomatch z) h
end
end L2
namespace L2
open PySem PySem.Spec PyProof.Rows
structure Room(k:Nat)(A:Around):Prop where
 hd:A.handled=none
 dp:A.depth+3*k+5<recursionLimit
 un:A.units+16*k+200<cLine
theorem Room.mono{j k:Nat}{A:Around}(r:Room k A)(h:j<=k):Room j A:=⟨r.hd,by have:=r.dp;omega,by have:=r.un;omega⟩
theorem Room.deeper{k:Nat}{A:Around}(r:Room (k+1) A)(env:Env):Room k (A.deeper env):=
 ⟨r.hd,by have:=r.dp;show A.depth+1+3*k+5<_;omega,by have:=r.un;show A.units+3+16*k+200<_;omega⟩
theorem Room.depth{k:Nat}{A:Around}(r:Room k A):A.depth<recursionLimit:=by have:=r.dp;omega
theorem Room.units{k:Nat}{A:Around}(r:Room k A):A.units+64<cLine:=by have:=r.un;omega
def lh:TA:=fun _ H Q=>Q [] H
def iW(ta:TE)(tr:TA):TA:=fun σ H Q=>ta σ H fun x H1=>tr σ H1 fun xs H2=>Q (x::xs) H2
section
variable {X:Cx} {e:Expr} {es:List Expr} {te:TE} {t:TA} {pos:Pos}
theorem ae:PA X [] lh:=fun _ _ _ _ H Q I h=>Calls.spliced_nil ⟨[],H,I,.nil,h⟩
theorem aa(ha:PE X e te)(hr:PA X es t)(hs:starEach (e::es) X.env=(false,eval e X.env)::starEach es X.env:=by rfl):PA X (e::es) (iW te t):=by
 intro pos pins s σ H Q I h
 rw[hs]
 show wpAny _ _ (spliced ((false,eval e X.env)::backTo pos (starEach es X.env))) _ _ s
 refine Calls.spliced_cons (ax (ha pins s σ H _ I h) fun u s1 ⟨x,H1,I1,r1,q1⟩=>?_)
 exact ax (hr pos pins s1 σ H1 _ I1 q1) fun us s2 ⟨xs,H2,I2,r2,q2⟩=>⟨x::xs,H2,I2,.cons r1 r2,q2⟩
def lF(t:TA):TE:=fun σ H Q=>t σ H fun xs H1=>xs.length<=sizeLine/\∀p,H1 p=none->Q (.ref p) (upd H1 p (.tup xs))
def uc(t:TA):TE:=fun σ H Q=>t σ H fun xs H1=>xs.length<=sizeLine/\∀p,H1 p=none->Q (.ref p) (upd H1 p (.lst xs))
theorem aA{x1}(h:PA X es t):PE X (.Tuple es x1 pos) (lF t):=by
 intro pins s σ H Q I hq
 refine wpAny_Tuple_spliced (ax (h pos pins s σ H _ I hq) fun us s1 ⟨xs,H1,I1,r,z,q⟩=>⟨by rw[←r.length];exact z,?_⟩)
 have hf:H1 s1.heap.objs.size=none:=I1.hok.fresh (Dj _)
 refine⟨.ref s1.heap.objs.size,upd H1 s1.heap.objs.size (.tup xs),I1.laid (t':=s1.toks) (fun b u e=>CK _ e) (Dj _) ?_,rfl,q _ hf⟩
 exact⟨z,us,r,⟨_,CL _ rfl,rfl,_,rfl⟩⟩
theorem aZ(h:PA X es t):PE X (.List es pos) (uc t):=by
 intro pins s σ H Q I hq
 refine wpAny_List_spliced (ax (h pos pins s σ H _ I hq) fun us s1 ⟨xs,H1,I1,r,z,q⟩=>⟨by rw[←r.length];exact z,?_⟩)
 have hf:H1 s1.heap.objs.size=none:=I1.hok.fresh (Dj _)
 refine⟨.ref s1.heap.objs.size,upd H1 s1.heap.objs.size (.lst xs),I1.laid (t':=s1.toks) (fun b u e=>CK _ e) (Dj _) ?_,rfl,q _ hf⟩
 exact⟨z,us,0,r,CL _ rfl⟩
end
abbrev Sp:=List V->Hp->VK->XK->Prop
abbrev dk:=List Env->Hp->Shared->XK->Value->Shared->Prop
structure Env0(P:Program)(w:World)(K:CJ)(mg:Str->Option Value)(base:Heap)(A:Around)(outer:List Env)(s:Shared)(H:Hp):Prop where
 frames:A.frames=some outer
 mod:Mod K mg base
 bs:∀b o,base.get? b=some o->s.heap.get? b=some o/\H b=none
 bsz:base.objs.size<=s.heap.objs.size
 funs:s.heap.FunFrames base outer
 frf:∀b∈aS outer,H b=none
 hok:bD P w H s.heap
 bare:AllBare s.gens
def CE(outer:List Env)(P:Program)(w:World)(H:Hp)(s:Shared)(Q:VK)(u:Value)(s':Shared):Prop:=
 ∃v H',s'.os=s.os/\AllBare s'.gens/\Un (aS outer) [] H H' s.heap s'.heap/\bD P w H' s'.heap/\RelV v u/\Q v H'
def CR(CX:dk)(outer:List Env)(P:Program)(w:World)(H:Hp)(s:Shared)(Q:VK)(E:XK)(r:Result)(s':Shared):Prop:=
 match r with
 | .ok (.ret u)=>CE outer P w H s Q u s'
 | .ok _=>False
 | .error e=>CX outer H s E e s'
structure FnOk(P:Program)(w:World)(K:CJ)(mg:Str->Option Value)(base:Heap)(CX:dk)(k:Nat)(f:Addr)(fd:FuncData)(ps:List Str)(sp:Sp):Prop where
 len:∀vs H Q E,sp vs H Q E->vs.length=ps.length
 run:∀(A:Around) (outer:List Env) (s:Shared) (H:Hp) (args:Args) (us:List Value) (vs:List V) (Q:VK) (E:XK),Room k A->Env0 P w K mg base A outer s H->BindsTo s fd args (ps.zip us)->Vals vs us->sp vs H Q E →
  codeAny (model P w) A (.call (.ref f) args) (CR CX outer P w H s Q E) s
section
variable {X:Cx} {pins:List (Addr×Obj)} {σ:St} {H:Hp} {s s':Shared}
theorem Inv.env0(I:Inv X pins σ H s):Env0 X.prog X.w X.K X.mg X.base X.A X.stack s H:=
 ⟨I.ok.frames,I.ok.mod,I.bs,Dv I.ok.bsz I.sz,I.stack,I.stkFree,I.hok,I.bare⟩
theorem Inv.after{Q:VK}{u:Value}(I:Inv X pins σ H s)(h:CE X.stack X.prog X.w H s Q u s'):EP X pins σ Q u s':=by
 obtain⟨v,H',os,bare,un,hok,r,q⟩:=h
 obtain⟨hh,g,d,t,os'⟩:=s'
 obtain rfl:os'=s.os:=os
 exact⟨v,H',I.call (h':=hh) (g':=g) (d':=d) (t':=t) (ch:=[]) un hok bare (fun b z=>absurd z (by simp)),r,q⟩
end
def jR(sp:Sp)(dvs:List V)(E:XK)(t:TA):TE:=fun σ H Q=>t σ H fun vs H1=>sp (vs++dvs) H1 Q E
def Binds(K:CJ)(fd:FuncData)(ps:List Str)(ds:List Value):Prop:=
 ∀(s:Shared) (us:List Value),K.In s.heap->(us++ds).length=ps.length->BindsTo s fd ⟨us,[]⟩ (ps.zip (us++ds))
theorem Binds.all{K:CJ}{fd:FuncData}{ps:List Str}(h:∀us:List Value,us.length=ps.length->bindArgs fd ⟨us,[]⟩=pure (ps.zip us)):Binds K fd ps []:=fun s us _ hl=>by
 rw[List.append_nil]at hl ⊢
 exact .of_eq (h us hl)
def Passes(CX:dk)(X:Cx)(E:XK):Prop:=∀(pins:List (Addr×Obj)) (σ:St) (H:Hp) (s:Shared) (e:Value) (s':Shared),Inv X pins σ H s->CX X.stack H s E e s'->X.xe e s'
section
variable {X:Cx} {CX:dk} {k:Nat} {f C:Addr} {fd:FuncData} {ps:List Str} {sp:Sp} {dvs:List V} {ds:List Value} {E:XK} {x m:Str} {p pos apos:Pos} {e o:Expr} {es:List Expr} {ta:TE} {t:TA}
theorem wz{pins:List (Addr×Obj)}{σ:St}{H:Hp}{s:Shared}{Q:VK}{us:List Value}{vs:List V}(F:FnOk X.prog X.w X.K X.mg X.base CX k f fd ps sp)(hr:Room k X.A)(hb:Binds X.K fd ps ds)(hd:Vals dvs ds)(hx:Passes CX X E)
  (I:Inv X pins σ H s) (r:Vals vs us) (h:sp (vs++dvs) H Q E):wpAny (model X.prog X.w) X.A (call (.ref f) us) (EP X pins σ Q) X.xe s:=by
 have r2:Vals (vs++dvs) (us++ds):=r.append hd
 have hl:(us++ds).length=ps.length:=by rw[←r2.length];exact F.len _ _ _ _ h
 refine wpAny_call (codeAny_mono (F.run X.A X.stack s H ⟨us,[]⟩ (us++ds) (vs++dvs) Q E hr I.env0 (hb s us I.kIn hl) r2 h) fun r s' hq=>?_)
 cases r with
 | error e=>exact hx pins σ H s e s' I hq
 | ok fl=>
  cases fl with
  | ret u=>exact I.after hq
  | next=>exact False.elim hq
  | brk=>exact False.elim hq
  | cont=>exact False.elim hq
theorem ur(F:FnOk X.prog X.w X.K X.mg X.base CX k f fd ps sp)(hr:Room k X.A)(hg:Gl X x)(hm:X.mg x=some (.ref f))(hk:PySem.W.keepIn X.K (.ref f)=true)(hb:Binds X.K fd ps ds)(hd:Vals dvs ds)(hx:Passes CX X E)
  (ha:PA X (e::es) t) (hdb:(x == ("__debug__":Str))=false:=by decide) (he:starEach (e::es) X.env=(false,eval e X.env)::starEach es X.env:=by rfl) (hpl:(backTo pos (starEach es X.env)).any (·.1)=false:=by rfl) :
  PE X (.Call (.Name x p) (e::es) [] pos) (jR sp dvs E t):=by
 intro pins s σ H Q I h
 refine wpAny_Call_Name_kw (gL I hg hm ?_ hdb)
 refine PySem.W.callWith_K (h₀:=X.base) I.ok.mod.kin hk (ax (ha pos pins s σ H _ I h) fun us s1 ⟨vs,H1,I1,r,q⟩=>⟨I1.kIn,?_⟩) he hpl
 exact wz F hr hb hd hx I1 r q
end
section
variable {X:Cx} {CX:dk} {k:Nat} {f C:Addr} {fd:FuncData} {ps ks:List Str} {sp:Sp} {E:XK} {x m:Str} {p pos apos kpos:Pos} {e o:Expr} {es:List Expr} {kws:List Keyword} {te ta:TE} {t tk:TA} {nm:Option Str}
variable {g:List Value->List Value->List Value} {gV:List V->List V->List V}
end
structure FnScope(N P:List Str)(sc:Scope):Prop where
 kind:sc.kind=.function
 co:sc.isCoroutine=false
 gen:sc.isGenerator=false
 nd:N.Nodup
 pre:N.take P.length=P
 par:∀x∈P,sc.names.lookup x=some .local\/sc.names.lookup x=some .cell
 nofree:∀y∈sc.names,y.2≠.free
theorem rp{kindOf:Str->Option NameKind}{x:Str}:∀{binds:List (Str×Value)} {m:Str->Option Value},(∀v,(x,v)∉binds)->bindL kindOf binds m x=m x
 | [],_,_=>rfl
 | (n,v)::r,m,h=>by
  unfold bindL
  rw[rp fun w hw=>h w (CQ _ hw)]
  split
  ·have:x≠n:=by rintro rfl;exact h v CU
   simp[this]
  ·rfl
theorem sI{kindOf:Str->Option NameKind}{x:Str}:∀{binds:List (Str×Value)} {m:Str->Option Value},(∀v,(x,v)∉binds)->bindC kindOf binds m x=m x
 | [],_,_=>rfl
 | (n,v)::r,m,h=>by
  unfold bindC
  rw[sI fun w hw=>h w (CQ _ hw)]
  split
  ·rfl
  ·have:x≠n:=by rintro rfl;exact h v CU
   simp[this]
theorem sX{kindOf:Str->Option NameKind}{x:Str}{v:Value}:∀{P:List Str} {vs:List Value} {i:Nat} {m:Str->Option Value},P.Nodup->P[i]?=some x->vs[i]?=some v->kindOf x=some .local →
  bindL kindOf (P.zip vs) m x=some v
 | [],_,_,_,_,h,_,_=>by simp at h
 | _::_,[],_,_,_,_,h,_=>by simp at h
 | p::P,w::vs,0,m,nd,h1,h2,hk=>by
  simp at h1 h2;subst h1;subst h2
  show bindL kindOf ((p,w)::P.zip vs) m p=_
  unfold bindL
  rw[rp fun v hv=>(List.nodup_cons.mp nd).1 (List.of_mem_zip hv).1,DQ hk]
  simp
 | p::P,w::vs,i+1,m,nd,h1,h2,hk=>by
  show bindL kindOf ((p,w)::P.zip vs) m x=_
  unfold bindL
  exact sX (i:=i) (List.nodup_cons.mp nd).2 (by simpa using h1) (by simpa using h2) hk
theorem qu{kindOf:Str->Option NameKind}{x:Str}{v:Value}:∀{P:List Str} {vs:List Value} {i:Nat} {m:Str->Option Value},P.Nodup->P[i]?=some x->vs[i]?=some v->kindOf x≠some .local →
  bindC kindOf (P.zip vs) m x=some v
 | [],_,_,_,_,h,_,_=>by simp at h
 | _::_,[],_,_,_,_,h,_=>by simp at h
 | p::P,w::vs,0,m,nd,h1,h2,hk=>by
  simp at h1 h2;subst h1;subst h2
  show bindC kindOf ((p,w)::P.zip vs) m p=_
  unfold bindC
  rw[sI fun v hv=>(List.nodup_cons.mp nd).1 (List.of_mem_zip hv).1,DP hk]
  simp
 | p::P,w::vs,i+1,m,nd,h1,h2,hk=>by
  show bindC kindOf ((p,w)::P.zip vs) m x=_
  unfold bindC
  exact qu (i:=i) (List.nodup_cons.mp nd).2 (by simpa using h1) (by simpa using h2) hk
def start(N:List Str)(vs:List V):St:=vs.map some++DF (N.length-vs.length) none
def bI(CX:dk)(P:Program)(w:World)(K:CJ)(mg:Str->Option Value)(base:Heap)(N:List Str)(qual:Str)(scope:Scope)(f:Addr)(cd:Value)(A:Around)(outer:List Env)(s:Shared)(H:Hp)(E:XK):Cx where
 prog:=P
 w:=w
 K:=K
 mg:=mg
 base:=base
 A:=A.deeper (envOfC qual scope s.heap.objs.size f cd)
 N:=N
 s₀:=s
 H₀:=H
 env:=envOfC qual scope s.heap.objs.size f cd
 outer:=outer
 stack:=envOfC qual scope s.heap.objs.size f cd::outer
 ex:=[]
 calm:=true
 fn:=fun _=>true
 pn:=[]
 xe:=fun e s'=>wpAny (model P w) (A.deeper (envOfC qual scope s.heap.objs.size f cd)) (leaving (envOfC qual scope s.heap.objs.size f cd) e) (fun _ s''=>CX outer H s E e s'') (fun e' s''=>CX outer H s E e' s'') s'
theorem sG{sc:Scope}{n:Nat}{x:Str}(h:sc.names.lookup x=some .cell):∃c,(cellsFrom n sc.names []).lookup x=some c:=by
 have q:=PySem.W.cellsFrom_some sc.names n [] (.inl h)
 exact Option.isSome_iff_exists.mp q
theorem BV{CX:dk}{P:Program}{w:World}{K:CJ}{mg:Str->Option Value}{base:Heap}{N ps:List Str}{qual:Str}{scope:Scope}{f:Addr}{cd:Value}{A:Around}{outer:List Env}{s s1:Shared}{H:Hp}{E:XK}{us:List Value}{vs:List V}
  (S:FnScope N ps scope) (hd:A.handled=none) (e0:Env0 P w K mg base A outer s H) (hl:vs.length=ps.length) (r:Vals vs us)
  (x:InCallC s s.heap.objs.size (bindL (envOfC qual scope s.heap.objs.size f cd).kindOf (ps.zip us) fun _=>none) (cellsFrom (s.heap.objs.size+1) scope.names []) (bindC (envOfC qual scope s.heap.objs.size f cd).kindOf (ps.zip us) fun _=>none) s1) :
  Inv (bI CX P w K mg base N qual scope f cd A outer s H E) [] (start N vs) H s1:=by
 have hpl:ps.length<=N.length:=by have:=congrArg List.length S.pre;rw[DJ]at this;omega
 obtain⟨h1,tk,rfl,hk⟩:=x.done
 have noA:∀b:Addr,b∉(bI CX P w K mg base N qual scope f cd A outer s H E).ex:=fun b z=>absurd (show b∈([]:List Addr)from z) (by simp)
 refine⟨⟨e0.mod,S.kind,rfl,rfl,Dj _,fun y z c h1 h2=>?_,fun y hy=>?_,fun y c _ h=>?_,fun _=>hd,Around.frames_deeper e0.frames,.inr ⟨rfl,rfl⟩,fun b z=>absurd z (noA b),e0.bs,e0.bsz,fun b _ _=>noA b,fun b z=>absurd z (noA b),e0.funs,e0.frf⟩,
  rfl,e0.bare,Un.kept hk,⟨_,x.toInCall.ns,fun i y v h1 h2 h3=>?_⟩,fun y c h=>⟨_,x.cell y c h⟩,e0.hok.fresh (Dj _),fun y c h=>?_,fun p hp=>absurd (show p∈([]:List (Addr×Obj))from hp) (by simp),e0.hok.kept hk,?_⟩
 ·exact name_of_addr x.apart (PySem.mem_of_lookup h1) (PySem.mem_of_lookup h2)
 ·have hy:scope.names.lookup y=some .cell\/scope.names.lookup y=some .free:=hy
  rcases hy with hy | hy
  ·exact sG hy
  ·exact absurd rfl (S.nofree _ (PySem.mem_of_lookup hy))
 ·exact Nat.le_of_lt (x.above y c (PySem.mem_of_lookup h))
 ·have hi:i<vs.length:=by
   unfold start at h2
   by_cases hi:i<vs.length
   ·exact hi
   ·rw[Dn (by simpa using hi)]at h2
    rw[List.getElem?_replicate]at h2
    split at h2<;>cases h2
  have ha:vs[i]?=some v:=by
   unfold start at h2
   rw[Dp (by simpa using hi),CP]at h2
   cases e:vs[i]? with
   | none=>rw[e]at h2;cases h2
   | some a=>rw[e]at h2;cases h2;rfl
  obtain⟨u,hu,rv⟩:=r.get ha
  have hp:ps[i]?=some y:=by
   rw[←S.pre,List.getElem?_take_of_lt (by omega)];exact h1
  have ndP:ps.Nodup:=by rw[←S.pre];exact S.nd.sublist (List.take_sublist _ _)
  refine⟨u,rv,?_⟩
  rcases S.par y (CY hp)with k | k
  ·exact .inl ⟨k,sX ndP hp hu k⟩
  ·obtain⟨c,e⟩:=sG (n:=s.heap.objs.size+1) k
   refine .inr ⟨.inl k,c,e,?_⟩
   have q:=x.cell y c e
   rw[qu ndP hp hu (by show scope.names.lookup y≠_;rw[k];decide)]at q
   exact q
 ·exact e0.hok.fresh (Nat.le_of_lt (x.above y c (PySem.mem_of_lookup h)))
 ·unfold start
  show _=N.length
  rw[Dh,CN,List.length_replicate]
  omega
theorem tI{CX:dk}{P:Program}{w:World}{K:CJ}{mg:Str->Option Value}{base:Heap}{k:Nat}{f:Addr}{name qual:Str}{params:Arguments}{body:List Stmt}{scope:Scope}{dV kV doc pm cdv ct oc:Value}{an od:Option Addr}
  {osl:Array (Option Value)} {N ps:List Str} {sp:Sp} (lk:K.lookup f=some ⟨oc,od,.func (PySem.W.fnOf name qual params body scope dV kV doc pm an cdv ct),osl⟩) (hcd:PySem.W.codeIn K cdv qual=true) (S:FnScope N ps scope)
  (len:∀vs H Q E,sp vs H Q E->vs.length=ps.length)
  (hbody:∀(A:Around) (outer:List Env) (s:Shared) (H:Hp) (vs:List V) (Q:VK) (E:XK),Room k (A.deeper (envOfC qual scope s.heap.objs.size f cdv))->sp vs H Q E →
   ∃t,cx (bI CX P w K mg base N qual scope f cdv A outer s H E) body t/\t { nx:=fun _ H'=>Q .non H',rt:=Q } (start N vs) H) :
  FnOk P w K mg base CX (k+1) f (PySem.W.fnOf name qual params body scope dV kV doc pm an cdv ct) ps sp:=by
 refine⟨len,fun A outer s H args us vs Q E hr e0 hb r hsp=>?_⟩
 have hl:=len _ _ _ _ hsp
 have KX:K.In s.heap:=e0.mod.kin.keeps fun b o e=>(e0.bs b o e).1
 have lim:s.heap.NoLimit:=e0.mod.nolimit.keeps fun b o e=>(e0.bs b o e).1
 have hkind:∀y∈ps.zip us,scope.names.lookup y.1=some .local\/(scope.names.lookup y.1=some .cell/\((cellsFrom (s.heap.objs.size+1) scope.names []).lookup y.1).isSome=true):=fun⟨n,v⟩ hy=>by
  rcases S.par n (List.of_mem_zip hy).1 with q | q
  ·exact .inl q
  ·exact .inr ⟨q,PySem.W.cellsFrom_some _ _ _ (.inl q)⟩
 refine codeAny_call_function hr.depth (KX _ _ lk) rfl S.co S.gen rfl (PySem.W.codeRec_of KX hcd) (hb _ _ _ _ ?_)
 refine wpAny_newFunctionEnv_cells S.kind hkind fun env he s1 x=>?_
 subst he
 refine⟨lim.keeps x.toInCall.keep,codeAny_func ?_⟩
 obtain⟨t,ht,hq⟩:=hbody A outer s H vs Q E (hr.deeper _) hsp
 have I:Inv (bI CX P w K mg base N qual scope f cdv A outer s H E) [] (start N vs) H s1:=BV S hr.hd e0 hl r x
 refine wpAny_mono (ht [] s1 (start N vs) H _ I hq) (fun fl s' hs=>?_) fun e s' hs=>hs
 have fin:∀{σ':St} {H':Hp} {v:V} {u:Value},Inv (bI CX P w K mg base N qual scope f cdv A outer s H E) [] σ' H' s'->RelV v u->Q v H'->CE outer P w H s Q u s':=
  fun{σ' H' v u} J rv q=>⟨v,H',J.os,J.bare,J.base,J.hok,rv,q⟩
 cases fl with
 | ret u=>
  obtain⟨v,σ',H',J,rv,q⟩:=hs
  exact fin J rv q
 | next=>
  obtain⟨σ',H',J,q⟩:=hs
  exact fin (v:=V.non) (u:=Value.none) J rfl q
 | brk=>
  obtain⟨_,_,_,q⟩:=hs
  exact False.elim q
 | cont=>
  obtain⟨_,_,_,q⟩:=hs
  exact False.elim q
end L2
namespace L2
open PySem PySem.Spec PyProof.Rows
section
variable {X:Cx} {x:Str} {p pos:Pos} {e:Expr} {es:List Expr} {t:TA} {id T:String} {r:List V->Hp->VK->Prop}
def kz(r:List V->Hp->VK->Prop)(t:TA):TE:=fun σ H Q=>t σ H fun vs H1=>r vs H1 Q
theorem aI(hc:bH X (.builtin id) r)(hg:Gl X x)(hm:X.mg x=none)(hv:bootBuiltins x=some (.builtin id))(ha:PA X (e::es) t)(hn:x≠"__name__":=by decide)(hdb:(x == ("__debug__":Str))=false:=by decide)
  (he:starEach (e::es) X.env=(false,eval e X.env)::starEach es X.env:=by rfl) (hpl:(backTo pos (starEach es X.env)).any (·.1)=false:=by rfl):PE X (.Call (.Name x p) (e::es) [] pos) (kz r t):=by
 intro pins s σ H Q I h
 refine wpAny_Call_Name_kw (fM I hg hm hv ?_ hn hdb)
 exact PyProof.Rows.callWith_builtin1 (ax (ha pos pins s σ H _ I h) fun us s1 ⟨vs,H1,I1,r1,q1⟩=>hc pins s1 σ H1 vs us Q I1 r1 q1) he hpl
theorem bK(hc:bH X (.type T) r)(hg:Gl X x)(hm:X.mg x=none)(hv:bootBuiltins x=some (.type T))(ha:PA X (e::es) t)(hn:x≠"__name__":=by decide)(hdb:(x == ("__debug__":Str))=false:=by decide)
  (he:starEach (e::es) X.env=(false,eval e X.env)::starEach es X.env:=by rfl) (hpl:(backTo pos (starEach es X.env)).any (·.1)=false:=by rfl):PE X (.Call (.Name x p) (e::es) [] pos) (kz r t):=by
 intro pins s σ H Q I h
 refine wpAny_Call_Name_kw (fM I hg hm hv ?_ hn hdb)
 exact PyProof.Rows.callWith_type1 (ax (ha pos pins s σ H _ I h) fun us s1 ⟨vs,H1,I1,r1,q1⟩=>hc pins s1 σ H1 vs us Q I1 r1 q1) he hpl
end
end L2
namespace HT
open PySem PyProof.Rows
section
open PySem.SeqAt
open PySem.AutoSeq1 (wpAny_loadPart')
open PySem.MeetsSeq PySem.MeetsSeq2 PySem.MeetsSeq3
end
section
variable {prog:Program} {w:World} {A:Around} {E:Value->Shared->Prop} {s:Shared}
theorem vj{t b:Addr}{vs ws:List Value}{Q:Value->Shared->Prop}(ht:IsTup s.heap t vs.toArray)(hb:IsTup s.heap b ws.toArray)(hv:vs≠[])
  (h1:ws=[]->Q (.ref t) s) (h2:ws≠[]->Q (.ref s.heap.objs.size) { s with heap:=s.heap.push { cls:=.type "tuple",data:=.seq (vs++ws).toArray } })
  (hsz:vs.length+ws.length<=sizeLine):wpAny (model prog w) A (binaryOp .Add (.ref t) (.ref b)) Q E s:=by
 obtain⟨⟨cls,dd,data,sl⟩,ho,hc,n,hd⟩:=id ht
 obtain⟨⟨cls2,dd2,data2,sl2⟩,ho2,hc2,n2,hd2⟩:=id hb
 simp only at hc hd hc2 hd2
 subst hc hd hc2 hd2
 have e:vs.toArray++ws.toArray=(vs++ws).toArray:=by simp
 by_cases hw:ws=[]
 ·exact concat_meets ⟨_,ho,rfl⟩ ⟨_,ho2,rfl⟩ noFill_tuple_add seq_tuple_add PySem.F.slot_tuple_add PySem.F.entry_tuple_add (PySem.F.args_tuple_add_2 _ _)
   (tuple_addW1 t b vs.toArray ws.toArray n n2 dd dd2 sl sl2 (by simpa using hv) (by simp[hw])) ⟨ho,ho2,h1 hw⟩
 ·refine concat_meets ⟨_,ho,rfl⟩ ⟨_,ho2,rfl⟩ noFill_tuple_add seq_tuple_add PySem.F.slot_tuple_add PySem.F.entry_tuple_add (PySem.F.args_tuple_add_2 _ _)
   (tuple_addW2 t b vs.toArray ws.toArray n n2 dd dd2 sl sl2 (by simpa using hv) (by simpa using hw) (by rw[CT,CT];exact hsz)) ⟨ho,ho2,?_⟩
  rw[e]
  exact h2 hw
def aD(n d:Nat):Option Int->Nat
 | none=>d
 | some v=>if v<0 then(v+(n:Int)).toNat else min v.toNat n
theorem rW(n d:Nat):aD n d none=d:=rfl
theorem mL(n d k:Nat):aD n d (some (k:Int))=min k n:=by
 show(if(k:Int)<0 then((k:Int)+(n:Int)).toNat else min (k:Int).toNat n)=min k n
 rw[DP (by omega),Dd]
theorem yt(n d:Nat)(hd:d<=n)(o:Option Int):aD n d o<=n:=by
 cases o with
 | none=>exact hd
 | some v=>
  show(if v<0 then(v+(n:Int)).toNat else min v.toNat n)<=n
  by_cases hv:v<0
  ·rw[DQ hv];omega
  ·rw[DP hv];exact Nat.min_le_right _ _
theorem oW(v:Int)(n d:Nat):(if v<0 then max (v+(n:Int)) 0 else min v (n:Int))=((aD n d (some v):Nat):Int):=by
 show(if v<0 then max (v+(n:Int)) 0 else min v (n:Int))=(((if v<0 then(v+(n:Int)).toNat else min v.toNat n):Nat):Int)
 by_cases hv:v<0
 ·simp only[DQ hv];omega
 ·simp only[DP hv];omega
theorem zj(lo hi:Option Int)(n:Nat):Builtin.Slice.sliceAdjust lo hi 1 (n:Int)=(((aD n 0 lo:Nat):Int),((aD n n hi:Nat):Int)):=by
 have h1:¬((1:Int)<0):=by omega
 unfold Builtin.Slice.sliceAdjust
 simp only[h1,if_false]
 refine Prod.ext ?_ ?_
 ·cases lo with
  | none=>rfl
  | some v=>exact oW v n 0
 ·cases hi with
  | none=>rfl
  | some v=>exact oW v n n
theorem xE(i j:Nat):Builtin.Slice.slicePlaces (i:Int) (j:Int) 1=j-i:=by
 unfold Builtin.Slice.slicePlaces
 have h1:(1:Int)>0:=by omega
 simp only[h1,if_true,Int.ediv_one]
 split<;>omega
theorem p8{v:Value}{o:Option Int}{Q:Option Int->Shared->Prop}(p:IsPart v o)(h:Q o s):wpAny (model prog w) A (Builtin.Slice.slicePartIndex v) Q E s:=by
 cases p with
 | none=>exact slicePart_none h
 | int i t=>exact slicePart_int h
theorem sN{sl:Addr}{vl vu:Value}{lo hi:Option Int}{n:Nat}{Q:Int×Int×Nat->Shared->Prop}(hs:s.heap.IsSliceOf sl vl vu .none)(pl:IsPart vl lo)(pu:IsPart vu hi)
  (h:Q (((aD n 0 lo:Nat):Int),1,aD n n hi-aD n 0 lo) s):wpAny (model prog w) A (Builtin.Slice.sliceApplied (.ref sl) (pure (n:Int))) Q E s:=by
 obtain⟨os,hos,hcs,hds⟩:=id hs
 unfold Builtin.Slice.sliceApplied Builtin.Slice.sliceFields
 refine CH (CH (wpAny_field hos hds (x:=vl) rfl (CH (wpAny_field hos hds (x:=vu) rfl (CH (wpAny_field hos hds (x:=.none) rfl (CI ?_)))))))
 refine CH (slicePart_none ?_)
 show wpAny _ _ (if((1:Int) == 0)=true then _ else _) _ _ s
 rw[DP (by decide)]
 refine CH (p8 pl (CH (p8 pu (CH (CI ?_)))))
 show wpAny _ _ (match Builtin.Slice.sliceAdjust lo hi 1 (n:Int)with | (lo,hi)=>pure (lo,(1:Int),Builtin.Slice.slicePlaces lo hi 1)) _ _ s
 rw[zj lo hi n]
 show wpAny _ _ (pure (((aD n 0 lo:Nat):Int),(1:Int),Builtin.Slice.slicePlaces ((aD n 0 lo:Nat):Int) ((aD n n hi:Nat):Int) 1)) _ _ s
 rw[xE]
 exact CI h
theorem CB(xs:Array Value)(i k:Nat):((DM k).filterMap fun(m:Nat)=>xs[((i:Int)+(m:Int)*1).toNat]?).toArray=((xs.toList.drop i).take k).toArray:=by
 have e:(fun(m:Nat)=>xs[((i:Int)+(m:Int)*1).toNat]?)=fun m=>xs[i+m]?:=by
  funext m
  have:((i:Int)+(m:Int)*1).toNat=i+m:=by omega
  rw[this]
 rw[e]
 have:=pick_run xs i k
 rw[List.filterMap_map]at this
 have e2:((fun x=>xs[x]?)∘fun x=>i+x)=fun m=>xs[i+m]?:=rfl
 rw[e2]at this
 rw[this]
theorem xH{t sl:Addr}{items:Array Value}{vl vu:Value}{lo hi:Option Int}{Q:Value->Shared->Prop}(ht:IsTup s.heap t items)(hs:s.heap.IsSliceOf sl vl vu .none)(pl:IsPart vl lo)(pu:IsPart vu hi)
  (hw:¬(aD items.size 0 lo=0/\aD items.size items.size hi=items.size))
  (h:Q (.ref s.heap.objs.size) { s with heap:=s.heap.push { cls:=.type "tuple",data:=.seq ((items.toList.drop (aD items.size 0 lo)).take (aD items.size items.size hi-aD items.size 0 lo)).toArray } })
  (hsz:items.size<=sizeLine):wpAny (model prog w) A (getItem (.ref t) (.ref sl)) Q E s:=by
 have htake:sizeOk (.seq ((items.toList.drop (aD items.size 0 lo)).take (aD items.size items.size hi-aD items.size 0 lo)).toArray):=by
  show((items.toList.drop (aD items.size 0 lo)).take (aD items.size items.size hi-aD items.size 0 lo)).toArray.size<=sizeLine
  rw[CT,DJ,List.length_drop,CS]
  omega
 have hj:aD items.size items.size hi<=items.size:=yt _ _ (Dj _) hi
 obtain⟨os,hos,hcs,hds⟩:=id hs
 have hTs:s.TypeIs (.ref sl) "slice":=⟨os,hos,hcs⟩
 unfold getItem
 try with_reducible refine wpAny_holding ?_
 first | refine CH (CI ?_) | skip
 refine CH (wpAny_sequenceKey ht.typeIs (by decide) ?_)
 refine CH (DL (name:=DB "__getitem__") ht.typeIs PyProof.Rows.slot_tuple_getitem
  (wpAny_call_entry PyProof.Rows.slot_tuple_getitem ht.typeIs entry_tuple_getitem ?_ (args_tuple_getitem _ _)))
 show wpAny _ _ (Builtin.Tuple.tupleItemsOf (.ref t) >>= _) _ _ s
 refine CH (tupleItemsOf_ ht ?_)
 refine CH (wpAny_typeOf hTs ?_)
 rw[DQ (by decide)]
 refine CH (sN hs pl pu ?_)
 have hno:¬((((aD items.size 0 lo:Nat):Int) == 0 && (1:Int) == 1 && (aD items.size items.size hi-aD items.size 0 lo) == items.size)=true):=by
  intro q
  rw[DA,DA]at q
  have q1:((aD items.size 0 lo:Nat):Int)=0:=eq_of_beq q.1.1
  have q2:aD items.size items.size hi-aD items.size 0 lo=items.size:=eq_of_beq q.2
  exact hw ⟨by omega,by omega⟩
 show wpAny _ _ (if(((aD items.size 0 lo:Nat):Int) == 0 && (1:Int) == 1 && (aD items.size items.size hi-aD items.size 0 lo) == items.size)=true then _ else _) _ _ s
 rw[DP hno,CB]
 first
  | exact CH (m:=Builtin.Tuple.tupleExact _) (wpAny_newObj_type (CI ⟨_,rfl,CI h⟩) htake)
  | exact CH (m:=Builtin.Tuple.tupleExact _) (wpAny_newObj_type (CH (CI (CI ⟨_,rfl,CI h⟩))) htake)
  | exact CH (CH (m:=Builtin.Tuple.tupleExact _) (wpAny_newObj_type (CI (CI ⟨_,rfl,CI h⟩)) htake))
  | exact CH (CH (m:=Builtin.Tuple.tupleExact _) (wpAny_newObj_type (CI ⟨_,rfl,CI h⟩) htake))
end
end HT
namespace L2
open PySem PySem.Spec PyProof.Rows
abbrev TO:=St->Hp->(Option Int->Hp->Prop)->Prop
def PO(X:Cx)(e:Option Expr)(t:TO):Prop:=
 ∀(pins:List (Addr×Obj)) (s:Shared) (σ:St) (H:Hp) (Q:Option Int->Hp->Prop),Inv X pins σ H s->t σ H Q →
  wpAny (model X.prog X.w) X.A (evalPart e X.env) (fun u s'=>∃o H',Inv X pins σ H' s'/\IsPart u o/\Q o H') X.xe s
def sj:TO:=fun _ H Q=>Q none H
def rC(t:TE):TO:=fun σ H Q=>t σ H fun x H1=>∃i,x=.int i/\Q (some i) H1
theorem intsAre_of{ns:List Int}:∀{us:List Value},Vals (ns.map V.int) us->IntsAre us ns:=by
 induction ns with
 | nil=>intro us r;rw[List.map_nil]at r;cases r;exact .nil
 | cons n ns ih=>
  intro us r
  rw[List.map_cons]at r
  cases r with
  | cons r1 r2=>
   obtain⟨t,e⟩:=r1
   subst e
   exact .cons n t (ih r2)
section
variable {X:Cx} {e:Expr} {te:TE} {lo hi:Option Expr} {tl th:TO} {pos p2:Pos}
theorem fi:PO X none sj:=by
 intro pins s σ H Q I h
 rw[evalPart_none]
 exact CI ⟨none,H,I,.none,h⟩
theorem cE(h:PE X e te):PO X (some e) (rC te):=by
 intro pins s σ H Q I hw
 rw[evalPart_some]
 refine ax (h pins s σ H _ I hw) fun u s1 ⟨x,H1,I1,r1,q1⟩=>?_
 obtain⟨i,rfl,q⟩:=q1
 obtain⟨t,rfl⟩:=r1
 exact⟨some i,H1,I1,.int i t,q⟩
def iP(X:Cx)(r:V->Option Int->Option Int->Hp->VK->Prop):Prop:=
 ∀(pins:List (Addr×Obj)) (s:Shared) (σ:St) (H:Hp) (x:V) (v vl vu:Value) (lo hi:Option Int) (sl:Addr) (Q:VK),Inv X pins σ H s->RelV x v->s.heap.IsSliceOf sl vl vu .none->IsPart vl lo->IsPart vu hi->r x lo hi H Q →
  ∃T id,typeLookup (.type T) "__getitem__" = pure (some (.builtin id))/\s.TypeIs v T/\wpAny (model X.prog X.w) X.A (getItem v (.ref sl)) (EP X pins σ Q) X.xe s
def ph(r:V->Option Int->Option Int->Hp->VK->Prop)(te:TE)(tl th:TO):TE:=fun σ H Q=>te σ H fun x H1=>tl σ H1 fun l H2=>th σ H2 fun u H3=>r x l u H3 Q
theorem dP{r:V->Option Int->Option Int->Hp->VK->Prop}(hr:iP X r)(he:PE X e te)(hl:PO X lo tl)(hu:PO X hi th):PE X (.Subscript e (.Slice lo hi none p2) pos) (ph r te tl th):=by
 intro pins s σ H Q I h
 refine Subscript_ (ax (he pins s σ H _ I h) fun v s1 ⟨x,H1,I1,r1,q1⟩=>?_)
 refine wpAny_Slice (ax (hl pins s1 σ H1 _ I1 q1) fun vl s2 ⟨l,H2,I2,pl,q2⟩=>ax (hu pins s2 σ H2 _ I2 q2) fun vu s3 ⟨u,H3,I3,pu,q3⟩=>?_)
 rw[evalPart_none]
 refine CI ?_
 have I4:Inv X pins σ H3 { s3 with heap:=s3.heap.push { cls:=.type "slice",data:=.fields #[vl,vu,.none] } }:=I3.kept (t':=s3.toks) fun b ob q=>CK _ q
 obtain⟨T,id,hT,ht,hg⟩:=hr pins { s3 with heap:=s3.heap.push { cls:=.type "slice",data:=.fields #[vl,vu,.none] } } σ H3 x v vl vu l u s3.heap.objs.size Q I4 r1 (Heap.IsSliceOf.new ..) pl pu q3
 show wpAny (model X.prog X.w) X.A (subscriptTail e (.Slice lo hi none p2) v (.ref s3.heap.objs.size)) (EP X pins σ Q) X.xe { s3 with heap:=s3.heap.push { cls:=.type "slice",data:=.fields #[vl,vu,.none] } }
 exact tail_any (ops:=[.ref s3.heap.objs.size,v]) ht hT hg (by with_unfolding_all rfl)
def bL(xs:List V)(lo hi:Option Int):List V:=(xs.drop (HT.aD xs.length 0 lo)).take (HT.aD xs.length xs.length hi-HT.aD xs.length 0 lo)
theorem iB(xs:List V)(lo hi:Option Int):(bL xs lo hi).length<=xs.length:=by
 unfold bL
 rw[DJ,List.length_drop]
 omega
def vP(K:CJ):V->Option Int->Option Int->Hp->VK->Prop:=fun x lo hi H Q=>∃a xs,x=.ref a/\aj K H a xs ∧
 ¬(HT.aD xs.length 0 lo=0/\HT.aD xs.length xs.length hi=xs.length)/\∀p,H p=none->Q (.ref p) (upd H p (.tup (bL xs lo hi)))
theorem vV:iP X (vP X.K):=by
 intro pins s σ H x v vl vu lo hi sl Q I rx hs pl pu h
 obtain⟨a,xs,rfl,hx,hw,q⟩:=h
 cases rx
 obtain⟨its,r,ht,hz⟩:=I.tuple hx
 have hlen:its.toArray.size=xs.length:=by rw[CT];exact r.length.symm
 refine⟨"tuple",_,PyProof.Rows.slot_tuple_getitem.lookup,ht.typeIs,?_⟩
 refine HT.xH ht hs pl pu (by rw[hlen];exact hw) ?_ (by rw[hlen];exact hz)
 rw[hlen]
 refine⟨.ref s.heap.objs.size,_,I.laid (t':=s.toks) (o:=.tup (bL xs lo hi)) (fun b ob q=>CK _ q) (Dj _) ?_,rfl,q _ (I.hok.fresh (Dj _))⟩
 exact⟨Dv (iB xs lo hi) hz,_,(r.drop (HT.aD xs.length 0 lo)).take (HT.aD xs.length xs.length hi-HT.aD xs.length 0 lo),IsTup.new _ _⟩
def zf(K:CJ):R2:=fun x y H Q=>∃a b xs ys,x=.ref a/\y=.ref b/\aj K H a xs/\aj K H b ys/\xs≠[]/\xs.length+ys.length<=sizeLine ∧
 (ys=[]->Q (.ref a) H)/\(ys≠[]->∀p,H p=none->Q (.ref p) (upd H p (.tup (xs++ys))))
theorem Vals.nil_iff{xs:List V}{us:List Value}(r:Vals xs us):us=[]↔xs=[]:=by
 cases r with
 | nil=>simp
 | cons _ _=>simp
theorem zV:bo X (binaryOp .Add) (zf X.K):=by
 intro pins s σ H x y v u Q I rx ry h
 obtain⟨a,b,xs,ys,rfl,rfl,ha,hb,hx,hz,q1,q2⟩:=h
 cases rx
 cases ry
 obtain⟨its,r1,p1,_⟩:=I.tuple ha
 obtain⟨its2,r2,p2,_⟩:=I.tuple hb
 refine HT.vj p1 p2 (fun z=>hx (r1.nil_iff.mp z)) (fun z=>⟨.ref a,H,I,rfl,q1 (r2.nil_iff.mp z)⟩) (fun z=>?_) (by rw[←r1.length,←r2.length];exact hz)
 refine⟨.ref s.heap.objs.size,_,I.laid (t':=s.toks) (o:=.tup (xs++ys)) (fun b ob q=>CK _ q) (Dj _) ?_,rfl,q2 (fun w=>z (r2.nil_iff.mpr w)) _ (I.hok.fresh (Dj _))⟩
 exact⟨by rw[Dh];exact hz,_,r1.append r2,IsTup.new _ _⟩
end
end L2
namespace L2
open PySem PySem.Spec PyProof.Rows
def fW(n:Nat)(i:Int):Option Nat:=if 0<=i then(if i<n then some i.toNat else none)else if -(n:Int)<=i then some (i+n).toNat else none
def bQ{α:Type}(xs:List α)(i:Int):Option α:=(fW xs.length i).bind fun j=>xs[j]?
theorem wy{n:Nat}{i:Int}{j:Nat}(h:fW n i=some j):seqIndex? i n=some j/\j<n/\-(n:Int)<=i/\i<n:=by
 unfold fW at h
 by_cases h0:0<=i
 ·rw[DQ h0]at h
  by_cases h1:i<n
  ·rw[DQ h1]at h
   have e:i.toNat=j:=DC h
   exact⟨by rw[seqIndex_of h0 h1,e],by omega,by omega,h1⟩
  ·rw[DP h1]at h;cases h
 ·rw[DP h0]at h
  by_cases h1:-(n:Int)<=i
  ·rw[DQ h1]at h
   have e:(i+n).toNat=j:=DC h
   exact⟨by rw[seqIndex_neg (by omega) h1,e],by omega,h1,by omega⟩
  ·rw[DP h1]at h;cases h
theorem lY{α:Type}{xs:List α}{i:Int}{v:α}(h:bQ xs i=some v):∃j,seqIndex? i xs.length=some j/\xs[j]?=some v/\j<xs.length/\-(xs.length:Int)<=i/\i<xs.length:=by
 unfold bQ at h
 cases e:fW xs.length i with
 | none=>rw[e]at h;cases h
 | some j=>
  rw[e]at h
  obtain⟨h1,h2,h3,h4⟩:=wy e
  exact⟨j,h1,h,h2,h3,h4⟩
theorem dF{α:Type}{xs:List α}{j:Nat}{v:α}(h:xs[j]?=some v):bQ xs (j:Int)=some v:=by
 have hj:j<xs.length:=(CW.mp h).1
 have e:fW xs.length (j:Int)=some j:=by
  unfold fW
  rw[DQ (by omega),DQ (by omega)];simp
 unfold bQ;rw[e];exact h
def BU(b:Expr):Prop:=∀o i,subscripted b false o i=operate [o,i] (getItem o i)
def gg(X:Cx)(r:R2):Prop:=
 ∀(value slice:Expr) (pins:List (Addr×Obj)) (s:Shared) (σ:St) (H:Hp) (x y:V) (v u:Value) (Q:VK),Inv X pins σ H s->RelV x v->RelV y u->r x y H Q →
  subscripted slice false v u=operate [v,u] (getItem v u)->wpAny (model X.prog X.w) X.A (subscriptTail value slice v u) (EP X pins σ Q) X.xe s
def gE(X:Cx)(id:String)(r:V->List V->Hp->VK->Prop):Prop:=
 ∀(pins:List (Addr×Obj)) (s:Shared) (σ:St) (H:Hp) (x:V) (xs:List V) (v:Value) (us:List Value) (Q:VK),Inv X pins σ H s->RelV x v->Vals xs us->r x xs H Q →
  wpAny (model X.prog X.w) X.A (call (.builtin id) (v::us)) (EP X pins σ Q) X.xe s
section
variable {X:Cx} {a b:Expr} {ta tb:TE} {pos:Pos}
theorem ar{r:R2}(hr:gg X r)(ha:PE X a ta)(hb:PE X b tb)(hs:BU b):PE X (.Subscript a b pos) (h8 r ta tb):=by
 intro pins s σ H Q I h
 exact Subscript_ (lJ ha hb I h fun v u s2 x y H2 I2 rx ry q=>hr a b pins s2 σ H2 x y v u Q I2 rx ry q (hs _ _))
def jt(K:CJ):R2:=fun x y H Q=>∃p xs i v,x=.ref p/\y=.int i/\ai K H p xs/\bQ xs i=some v/\Q v H
def lu(K:CJ):R2:=fun x y H Q=>∃p xs i v,x=.ref p/\y=.int i/\aj K H p xs/\bQ xs i=some v/\Q v H
def xG:R2:=fun x y H Q=>∃z i c,x=.str z/\y=.int i/\z.length<=sizeLine/\bQ z.cps.toList i=some c/\Q (.str ⟨#[c]⟩) H
theorem zy:gg X (jt X.K):=by
 intro value slice pins s σ H x y v u Q I rx ry h hs
 obtain⟨p,xs,i,z,rfl,rfl,hq,he,q⟩:=h
 cases rx
 obtain⟨t,rfl⟩:=ry
 obtain⟨its,r,pl,hz⟩:=I.list hq
 obtain⟨j,h1,h2,h3,h4,h5⟩:=lY he
 obtain⟨w,ew,rw'⟩:=r.get h2
 have hl:=r.length
 have hn:=iM
 have fin:EP X pins σ Q w s:=⟨z,H,I,rw',q⟩
 by_cases h0:0<=i
 ·have hj:i.toNat=j:=by
   rw[seqIndex_of h0 h5]at h1
   exact DC h1
  exact item_listR pl.isList h0 (by omega) (by rw[hj];simpa using ew) fin hs
 ·have hj:(i+(its.toArray.size:Int)).toNat=j:=by
   rw[seqIndex_neg (by omega) h4]at h1
   rw[CT,←hl]
   exact DC h1
  exact subscriptTail_builtinR (x:=w) pl.isList.typeIs slot_list_getitem.lookup
   (wpAny_getItem_list_neg (Q:=fun r s'=>r=w/\EP X pins σ Q r s') pl.isList (by omega) (by rw[CT]<;>omega) (by omega) (by rw[hj];simpa using ew) ⟨rfl,fin⟩) hs
theorem zH:gg X (lu X.K):=by
 intro value slice pins s σ H x y v u Q I rx ry h hs
 obtain⟨p,xs,i,z,rfl,rfl,hq,he,q⟩:=h
 cases rx
 obtain⟨t,rfl⟩:=ry
 obtain⟨its,r,pl,hz⟩:=I.tuple hq
 obtain⟨j,h1,h2,h3,h4,h5⟩:=lY he
 obtain⟨w,ew,rw'⟩:=r.get h2
 have hl:=r.length
 have hn:=iM
 have fin:EP X pins σ Q w s:=⟨z,H,I,rw',q⟩
 exact subscriptTail_builtinR (x:=w) pl.typeIs slot_tuple_getitem.lookup
  (getItem_tuple (j:=j) (Q:=fun r s'=>r=w/\EP X pins σ Q r s') pl (by omega) (by omega) (by rw[CT,←hl];exact h1) (by simpa using ew) ⟨rfl,fin⟩) hs
theorem kg:gg X xG:=by
 intro value slice pins s σ H x y v u Q I rx ry h hs
 obtain⟨z,i,c,rfl,rfl,hz,he,q⟩:=h
 obtain⟨t,rfl⟩:=rx
 obtain⟨t',rfl⟩:=ry
 obtain⟨j,h1,h2,h3,h4,h5⟩:=lY he
 have hl:z.cps.toList.length=z.length:=by simp[Str.length]
 rw[hl]at h1 h4 h5
 have hn:=iM
 exact tail_any (typeIs_str s z t) slot_str_getitem.lookup (getItem_str (c:=c) (by
  have e1:decide (i < -(2 ^ 63:Int))=false:=DN (by omega)
  have e2:decide (i ≥ 2 ^ 63)=false:=DN (by omega)
  rw[e1,e2,Bool.or_false]) (by rw[h1];simpa using h2) ⟨.str ⟨#[c]⟩,H,I.tok _,⟨_,rfl⟩,q⟩) hs
theorem Inv.lst{pins:List (Addr×Obj)}{σ:St}{H:Hp}{s:Shared}{p:Addr}{xs:List V}(I:Inv X pins σ H s)(h:H p=some (.lst xs)):
  ∃(its:List Value) (n:Nat),Vals xs its/\s.heap.get? p=some { cls:=.type "list",data:=.seq its.toArray n }/\xs.length<=sizeLine:=by
 obtain⟨z,its,n,r,e⟩:=I.hok p _ h
 exact⟨its,n,r,e,z⟩
theorem Bb(lo hi:Option Int)(n:Nat):(sliceBounds lo hi none n).1=((HT.aD n 0 lo:Nat):Int)/\(sliceBounds lo hi none n).2.1=((HT.aD n n hi:Nat):Int)/\(sliceBounds lo hi none n).2.2=1:=by
 refine⟨?_,?_,rfl⟩
 ·cases lo with
  | none=>simp[sliceBounds,HT.aD]
  | some i=>
   simp only[sliceBounds,HT.aD,Option.getD_none,show (1:Int)>0 by decide,if_true]
   by_cases h:i<0
   ·simp only[h,if_true]<;>omega
   ·simp only[h,if_false]<;>omega
 ·cases hi with
  | none=>simp[sliceBounds,HT.aD]
  | some i=>
   simp only[sliceBounds,HT.aD,Option.getD_none,show (1:Int)>0 by decide,if_true]
   by_cases h:i<0
   ·simp only[h,if_true]<;>omega
   ·simp only[h,if_false]<;>omega
theorem Af(its:List Value)(lo hi:Option Int):slicePick its.toArray lo hi none=((its.drop (HT.aD its.length 0 lo)).take (HT.aD its.length its.length hi-HT.aD its.length 0 lo)).toArray:=by
 obtain⟨h1,h2,h3⟩:=Bb lo hi its.toArray.size
 unfold slicePick
 rw[h1,h2,h3]
 simp only[sliceRange_one,pick_run,CT]<;>rfl
def lI(K:CJ):V->Option Int->Option Int->Hp->VK->Prop:=fun x lo hi H Q=>∃a xs,x=.ref a/\ai K H a xs/\∀p,H p=none->Q (.ref p) (upd H p (.lst (bL xs lo hi)))
theorem Ai:iP X (lI X.K):=by
 intro pins s σ H x v vl vu lo hi sl Q I rx hs pl pu h
 obtain⟨a,xs,rfl,hx,q⟩:=h
 cases rx
 obtain⟨its,r,ht,hz⟩:=I.list hx
 have hlen:=r.length
 refine⟨"list",_,slot_list_getitem.lookup,ht.isList.typeIs,?_⟩
 refine wpAny_getItem_list_slice ht.isList hs pl pu .none (by simp) ?_ (by rw[CT]<;>omega)
 rw[Af,←hlen]
 refine⟨.ref s.heap.objs.size,_,I.laid (t':=s.toks) (o:=.lst (bL xs lo hi)) (fun b ob q=>CK _ q) (Dj _) ?_,rfl,q _ (I.hok.fresh (Dj _))⟩
 exact⟨Dv (iB xs lo hi) hz,_,0,(r.drop (HT.aD xs.length 0 lo)).take (HT.aD xs.length xs.length hi-HT.aD xs.length 0 lo),CL _ rfl⟩
def eR:V->Bool
 | .non=>true
 | .bl _=>true
 | .int _=>true
 | .str _=>true
 | _=>false
def eJ:V->V->Bool
 | .non,.non=>true
 | .bl a,.bl b=>a == b
 | .bl a,.int b=>(if a then 1 else 0) == b
 | .int a,.bl b=>a == (if b then 1 else 0)
 | .int a,.int b=>a == b
 | .str a,.str b=>a == b
 | _,_=>false
theorem we{A:Around}{s:Shared}{y x:V}{u v:Value}(ry:RelV y u)(rx:RelV x v)(fy:eR y=true)(fx:eR x=true):SeqAt.EqAt A s u v (eJ y x):=by
 cases y with
 | non=>
  cases ry
  cases x with
  | non=>cases rx;exact SeqAt.EqAt.same _
  | bl b=>cases rx;exact SeqAt.EqAt.none_bool b
  | int b=>obtain⟨t,rfl⟩:=rx;exact SeqAt.EqAt.none_int b t
  | str b=>obtain⟨t,rfl⟩:=rx;exact SeqAt.EqAt.none_str b t
  | _=>exact absurd (show false=true from fx) Df
 | bl a=>
  cases ry
  cases x with
  | non=>cases rx;exact SeqAt.EqAt.bool_none a
  | bl b=>cases rx;exact SeqAt.EqAt.bool_bool a b
  | int b=>obtain⟨t,rfl⟩:=rx;exact SeqAt.EqAt.bool_int a b t
  | str b=>obtain⟨t,rfl⟩:=rx;exact SeqAt.EqAt.bool_str a b t
  | _=>exact absurd (show false=true from fx) Df
 | int a=>
  obtain⟨t',rfl⟩:=ry
  cases x with
  | non=>cases rx;exact SeqAt.EqAt.int_none a t'
  | bl b=>cases rx;exact SeqAt.EqAt.int_bool a t' b
  | int b=>obtain⟨t,rfl⟩:=rx;exact SeqAt.EqAt.int_int a t' b t
  | str b=>obtain⟨t,rfl⟩:=rx;exact SeqAt.EqAt.int_str a t' b t
  | _=>exact absurd (show false=true from fx) Df
 | str a=>
  obtain⟨t',rfl⟩:=ry
  cases x with
  | non=>cases rx;exact SeqAt.EqAt.str_none a t'
  | bl b=>cases rx;exact SeqAt.EqAt.str_bool a t' b
  | int b=>obtain⟨t,rfl⟩:=rx;exact SeqAt.EqAt.str_int a t' b t
  | str b=>obtain⟨t,rfl⟩:=rx;exact SeqAt.EqAt.str_str a t' b t
  | _=>exact absurd (show false=true from fx) Df
 | _=>exact absurd (show false=true from fy) Df
def eP(x:V)(u:Value):Bool:=match u with
 | .none=>eJ .non x
 | .bool b=>eJ (.bl b) x
 | .int i _=>eJ (.int i) x
 | .str z _=>eJ (.str z) x
 | _=>false
theorem rd{x y:V}{u:Value}(r:RelV y u)(f:eR y=true):eP x u=eJ y x:=by
 cases y with
 | non=>cases r;rfl
 | bl b=>cases r;rfl
 | int i=>obtain⟨t,rfl⟩:=r;rfl
 | str z=>obtain⟨t,rfl⟩:=r;rfl
 | _=>exact absurd (show false=true from f) Df
theorem nH{x:V}:∀{xs:List V} {us:List Value},Vals xs us->xs.all eR=true->us.any (eP x)=xs.any fun y=>eJ y x
 | _,_,.nil,_=>rfl
 | y::xs,u::us,.cons r t,f=>by
  rw[List.all_cons,DA]at f
  rw[List.any_cons,List.any_cons,rd r f.1,nH t f.2]
theorem mj{A:Around}{s:Shared}{x:V}{v:Value}(rx:RelV x v)(fx:eR x=true):∀{xs:List V} {us:List Value},Vals xs us->xs.all eR=true->∀u∈us,SeqAt.EqAt A s u v (eP x u)
 | _,_,.nil,_=>fun u hu=>by cases hu
 | y::xs,u::us,.cons r t,f=>fun u' hu=>by
  rw[List.all_cons,DA]at f
  rcases De.mp hu with rfl | hu
  ·rw[rd r f.1];exact we r rx f.1 fx
  ·exact mj rx fx t f.2 u' hu
def jW(x:V)(xs:List V):Bool:=xs.any fun y=>eJ y x
def tG(K:CJ)(neg:Bool):R2:=fun x y H Q=>∃p xs,y=.ref p/\(ai K H p xs\/aj K H p xs)/\eR x=true/\xs.all eR=true/\Q (.bl (if neg then !jW x xs else jW x xs)) H
theorem A7:bo X (compareOp .NotIn) (tG X.K true):=by
 intro pins s σ H x y v u Q I rx ry h
 obtain⟨p,xs,rfl,hq,fx,fs,q⟩:=h
 cases ry
 rcases hq with hq | hq
 ·obtain⟨its,r,pl,hz⟩:=I.list hq
  refine SeqAt.notIn_listAt (eP x) pl.isList (fun w hw=>mj rx fx r fs w (by simpa using hw)) ⟨.bl _,H,I,rfl,?_⟩
  rw[show its.toArray.any (eP x)=its.any (eP x) by simp,nH r fs]
  exact q
 ·obtain⟨its,r,pl,hz⟩:=I.tuple hq
  refine SeqAt.notIn_tupleAt (eP x) pl (fun w hw=>mj rx fx r fs w (by simpa using hw)) ⟨.bl _,H,I,rfl,?_⟩
  rw[show its.toArray.any (eP x)=its.any (eP x) by simp,nH r fs]
  exact q
theorem vx:bo X (compareOp .NotIn) (fun x y H Q=>∃i j,x=.str i/\y=.str j/\Q (.bl (!(!(Builtin.Str.occurrences j i 0 j.length 1).isEmpty))) H):=by
 intro pins s σ H x y v u Q I rx ry h
 obtain⟨i,j,rfl,rfl,q⟩:=h
 obtain⟨t,rfl⟩:=rx
 obtain⟨t',rfl⟩:=ry
 exact notIn_str ⟨.bl _,H,I,rfl,q⟩
theorem xD:bH X (.builtin "len") (fun xs H Q=>∃p ys,xs=[.ref p]/\(ai X.K H p ys\/aj X.K H p ys)/\Q (.int ys.length) H):=by
 intro pins s σ H xs us Q I r h
 obtain⟨p,ys,rfl,hq,q⟩:=h
 obtain⟨u,rfl,rx⟩:=vals1 r
 cases rx
 have hn:=iM
 rcases hq with hq | hq
 ·obtain⟨its,r',pl,hz⟩:=I.list hq
  have hlen:=r'.length
  exact Calls.call_len_list pl.isList (by simp only[CT]<;>omega) ⟨.int ys.length,H,I.tok _,⟨s.toks+1,by rw[CT,hlen]⟩,q⟩
 ·obtain⟨its,r',pl,hz⟩:=I.tuple hq
  have hlen:=r'.length
  exact len_tuple pl (by simp only[CT]<;>omega) ⟨.int ys.length,H,I.tok _,⟨s.toks+1,by rw[CT,hlen]⟩,q⟩
theorem iS:bH X (.builtin "len") (fun xs H Q=>∃z,xs=[.str z]/\z.length<=sizeLine/\Q (.int z.length) H):=by
 intro pins s σ H xs us Q I r h
 obtain⟨z,rfl,hz,q⟩:=h
 obtain⟨u,rfl,t,rfl⟩:=vals1 r
 have hn:=iM
 exact len_str (by omega) ⟨.int z.length,H,I.tok _,⟨_,rfl⟩,q⟩
theorem AN:bH X (.type "list") (fun xs H Q=>∃p ys,xs=[.ref p]/\(ai X.K H p ys\/aj X.K H p ys)/\∀l,H l=none->Q (.ref l) (upd H l (.lst ys))):=by
 intro pins s σ H xs us Q I r h
 obtain⟨p,ys,rfl,hq,q⟩:=h
 obtain⟨u,rfl,rx⟩:=vals1 r
 cases rx
 have fin:∀(its:List Value),Vals ys its->ys.length<=sizeLine->∀(h':Heap) (c':Nat),(∀b o',s.heap.get? b=some o'->h'.get? b=some o') →
   h'.get? s.heap.objs.size=some { cls:=.type "list",dict:=none,data:=.seq its.toArray c',slots:=#[] }->EP X pins σ Q (.ref s.heap.objs.size) { s with heap:=h' }:=fun its r' hz h' c' kp e=>
  ⟨.ref s.heap.objs.size,_,I.laid (t':=s.toks) kp (Dj _) (show bP X.prog X.w _ h' _ (.lst ys)from⟨hz,its,c',r',e⟩),rfl,q _ (I.hok.fresh (Dj _))⟩
 rcases hq with hq | hq
 ·obtain⟨its,r',pl,hz⟩:=I.list hq
  have hlen:=r'.length
  obtain⟨o,ho,hc,n,hd⟩:=pl.isList
  exact call_list_seq p (.inl rfl) ho hc hd (fun h' c' kp e=>fin its r' hz h' c' kp e) (by simp only[CT]<;>omega)
 ·obtain⟨its,r',pl,hz⟩:=I.tuple hq
  have hlen:=r'.length
  obtain⟨o,ho,hc,n,hd⟩:=pl
  exact call_list_seq p (.inr rfl) ho hc hd (fun h' c' kp e=>fin its r' hz h' c' kp e) (by simp only[CT]<;>omega)
theorem yr:bH X (.type "tuple") (fun xs H Q=>∃p ys,xs=[.ref p]/\((ai X.K H p ys/\∀l,H l=none->Q (.ref l) (upd H l (.tup ys)))\/(aj X.K H p ys/\Q (.ref p) H))):=by
 intro pins s σ H xs us Q I r h
 obtain⟨p,ys,rfl,h⟩:=h
 obtain⟨u,rfl,rx⟩:=vals1 r
 cases rx
 rcases h with⟨hq,q⟩ | ⟨hq,q⟩
 ·obtain⟨its,r',pl,hz⟩:=I.list hq
  have hlen:=r'.length
  refine call_tuple_list pl.isList (fun h' kp=>?_) (by simp only[CT]<;>omega)
  have I1:Inv X pins σ H { s with heap:=h' }:=I.kept (t':=s.toks) kp
  have I2:Inv X pins σ (upd H h'.objs.size (.tup ys)) { s with heap:=h'.push { cls:=.type "tuple",data:=.seq its.toArray } }:=
   I1.laid (t':=s.toks) (fun b o e=>CK _ e) (Dj _) (show bP X.prog X.w _ _ _ (.tup ys)from⟨hz,its,r',IsTup.new _ _⟩)
  exact⟨.ref h'.objs.size,_,I2,rfl,q _ (I1.hok.fresh (Dj _))⟩
 ·obtain⟨its,r',pl,hz⟩:=I.tuple hq
  exact call_tuple_same pl ⟨.ref p,H,I,rfl,q⟩
def iw(K:CJ)(T:String)(x:V)(H:Hp):Prop:=match x with
 | .str _=>T = "str"
 | .int _=>T = "int"
 | .ref p=>(T = "list"/\∃xs,ai K H p xs)\/(T = "tuple"/\∃o,K.lookup p=some o/\o.cls=.type "tuple"/\o.dict=none) ∨
   (T = "dict"/\((∃kvs,H p=some (.dK kvs))\/∃kvs,H p=some (.dT kvs)))\/(T = "set"/\∃S n,H p=some (.set S n))
 | _=>False
theorem yK{pins:List (Addr×Obj)}{σ:St}{H:Hp}{s:Shared}{T:String}{x:V}{v:Value}(I:Inv X pins σ H s)(r:RelV x v)(ty:iw X.K T x H):
  s.TypeIs v T/\∀a,v=.ref a->∃ob,s.heap.get? a=some ob/\ob.dict=none:=by
 cases x with
 | str z=>
  obtain⟨t,rfl⟩:=r
  cases(show T = "str" from ty)
  exact⟨typeIs_str s z t,fun _ e=>nomatch e⟩
 | int i=>
  obtain⟨t,rfl⟩:=r
  cases(show T = "int" from ty)
  exact⟨typeIs_int s i t,fun _ e=>nomatch e⟩
 | ref p=>
  cases r
  rcases ty with⟨rfl,xs,hq⟩ | ⟨rfl,o,hk,hc,hd⟩ | ⟨rfl,hk⟩ | ⟨rfl,S,n,hk⟩
  ·obtain⟨its,_,pl,_⟩:=I.list hq
   refine⟨pl.isList.typeIs,fun a e=>?_⟩
   cases e
   obtain⟨o,n,e,c,hd,_⟩:=pl
   exact⟨o,e,hd⟩
  ·refine⟨⟨o,I.kIn p o hk,hc⟩,fun a e=>?_⟩
   cases e
   exact⟨o,I.kIn _ o hk,hd⟩
  ·have z:∃o,s.heap.get? p=some o/\o.ExactDict:=by
    rcases hk with⟨kvs,hk⟩ | ⟨kvs,hk⟩
    ·obtain⟨_,_,_,_,o,_,_,e,ex,_⟩:=I.hok p _ hk
     exact⟨o,e,ex⟩
    ·obtain⟨_,_,_,_,o,_,_,e,ex,_⟩:=I.hok p _ hk
     exact⟨o,e,ex⟩
   obtain⟨o,e,ex⟩:=z
   refine⟨⟨o,e,ex.1⟩,fun a e2=>?_⟩
   cases e2
   exact⟨o,e,ex.2.1⟩
  ·obtain⟨o,_,_,_,e,ex,_⟩:=I.hok p _ hk
   refine⟨⟨o,e,ex.1⟩,fun a e2=>?_⟩
   cases e2
   exact⟨o,e,ex.2.1⟩
 | _=>exact False.elim ty
def mI(K:CJ)(T:String)(r:V->List V->Hp->VK->Prop)(to:TE)(t:TA):TE:=fun σ H Q=>to σ H fun x H1=>iw K T x H1/\t σ H1 fun xs H2=>r x xs H2 Q
variable {o e:Expr} {es:List Expr} {to:TE} {t:TA} {name:Str} {apos cpos:Pos} {T id:String} {r:V->List V->Hp->VK->Prop}
theorem vz(pa:PlainAttrs T)(slot:Slot T name id)(hty:typeOf (.builtin id)=pure (.type "method_descriptor"))(hm:gE X id r)(ho:PE X o to)(ha:PA X (e::es) t)
  (hbase:attributeBase o name X.env (eval o X.env)=eval o X.env:=by rfl)
  (hfew:((backTo cpos (starEach (e::es) X.env)).all (fun x=>!x.1) && (backToKw cpos (keywordEach [] X.env)).all (fun x=>x.1.isSome)
   && decide ((e::es).length+([]:List Keyword).length+(if([]:List Keyword).isEmpty then 0 else 1)<30))=true:=by rfl)
  (hline:(apos.endLine == cpos.line)=true:=by rfl) (hs:starEach (e::es) X.env=(false,eval e X.env)::starEach es X.env:=by rfl) (hplain:(backTo cpos (starEach es X.env)).any (·.1)=false:=by rfl) :
  PE X (.Call (.Attribute o name apos) (e::es) [] cpos) (mI X.K T r to t):=by
 intro pins s σ H Q I h
 refine wpAny_Call_method_late hbase hfew hline rfl (ax (ho pins s σ H _ I h) fun v s1 ⟨x,H1,I1,r1,ty,q1⟩=>?_)
 obtain⟨h1,h2⟩:=yK I1 r1 ty
 refine⟨T,id,pa,slot,hty,h1,h2,?_⟩
 have hA:=ha cpos pins s1 σ H1 _ I1 q1
 rw[hs]at hA ⊢
 refine Calls.callWith_builtin (by show(false || (backTo cpos (starEach es X.env)).any (·.1))=false;rw[hplain]<;>rfl) (Calls.evalArgs_plain ?_)
 exact ax hA fun us s2 ⟨vs,H2,I2,r2,q2⟩=>hm pins s2 σ H2 x vs v us Q I2 r1 r2 q2
end
end L2
namespace L2
open PySem PySem.Spec PyProof.Rows
def ug(X:Cx)(id:String)(r:V->List V->Hp->VK->Prop):Prop:=
 ∀(pins:List (Addr×Obj)) (s:Shared) (σ:St) (H:Hp) (x:V) (xs:List V) (v:Value) (us:List Value) (Q:VK),Inv X pins σ H s->RelV x v->Vals xs us->r x xs H Q →
  wpAny (model X.prog X.w) X.A (call (.builtin id) (v::us)) (EP X pins σ Q) X.xe s
theorem Vals.one:∀{x:V} {us:List Value},Vals [x] us->∃u,us=[u]/\RelV x u:=vals1
theorem Vals.rep{xs:List V}{us:List Value}(h:Vals xs us):∀k:Nat,Vals (DF k xs).flatten (DF k us).flatten
 | 0=>.nil
 | k+1=>by
  rw[List.replicate_succ,List.replicate_succ,List.flatten_cons,List.flatten_cons]
  exact Vals.append h (Vals.rep h k)
theorem foldl_rep(its:List Value):∀(k:Nat) (acc:List Value),
  List.foldl (fun x1 x2=>x1++x2) acc.toArray (DF k its.toArray)=(acc++(DF k its).flatten).toArray
 | 0,acc=>by simp
 | k+1,acc=>by
  have e:acc.toArray++its.toArray=(acc++its).toArray:=by simp
  have e2:(acc++its)++(DF k its).flatten=acc++(DF (k+1) its).flatten:=by
   rw[List.replicate_succ,List.flatten_cons,List.append_assoc]
  rw[←e2,←foldl_rep its k (acc++its),←e,List.replicate_succ,List.foldl_cons]
section
variable {X:Cx} {pins:List (Addr×Obj)} {σ:St} {H:Hp} {s:Shared} {l b:Addr} {xs ys zs:List V}
theorem Inv.lset{its its':List Value}{n:Nat}{f:Array Value->Array Value}{t':Nat}(I:Inv X pins σ H s)(hH:H l=some (.lst xs))
  (e:s.heap.get? l=some { cls:=.type "list",data:=.seq its.toArray n }) (hf:f its.toArray=its'.toArray) (hv:Vals ys its') (hz:ys.length<=sizeLine) :
  Inv X pins σ (upd H l (.lst ys)) { s with heap:=s.heap.update l (Obj.mapSeq f),toks:=t' }:=by
 have q:=PySem.IsL.update e f
 rw[hf]at q
 refine I.write (x:=l) (e:=l) (by rw[hH];exact trivial) (.inl rfl) (fun b' u hb hu=>(Heap.get?_update_other s.heap (Obj.mapSeq f) (Ne.symm hb)).trans hu) ⟨_,q⟩ ?_
 exact⟨hz,its',_,hv,q⟩
theorem Inv.lnew{its:List Value}{t':Nat}(I:Inv X pins σ H s)(hv:Vals ys its)(hz:ys.length<=sizeLine):
  Inv X pins σ (upd H s.heap.objs.size (.lst ys)) { s with heap:=s.heap.push { cls:=.type "list",data:=.seq its.toArray },toks:=t' }:=
 I.laid (fun _ _ q=>CK _ q) (Dj _) ⟨hz,its,0,hv,CL _ rfl⟩
theorem Inv.fresh(I:Inv X pins σ H s):H s.heap.objs.size=none:=I.hok.fresh (Dj _)
theorem Inv.lstM(I:Inv X pins σ H s)(hH:H l=some (.lst xs)):xs.length<=sizeLine/\∃(its:List Value) (n:Nat),Vals xs its/\xs.length=its.length/\s.heap.get? l=some { cls:=.type "list",data:=.seq its.toArray n }:=by
 obtain⟨z,its,n,r,e⟩:=I.hok l _ hH
 exact⟨z,its,n,r,r.length,e⟩
theorem uU{n:Nat}(h:n<=sizeLine):Builtin.List.listTooLong n=false:=by
 unfold Builtin.List.listTooLong
 exact DN (by omega)
end
section
variable {X:Cx}
def o8:V->List V->Hp->VK->Prop:=fun x vs H Q=>∃l xs y,x=.ref l/\vs=[y]/\H l=some (.lst xs)/\xs.length<sizeLine/\Q .non (upd H l (.lst (xs++[y])))
theorem cy:ug X "list.append" o8:=by
 intro pins s σ H x vs v us Q I rx rv h
 obtain⟨l,xs,y,rfl,rfl,hH,hz,q⟩:=h
 cases rx
 obtain⟨u,rfl,ru⟩:=rv.one
 obtain⟨z,its,n,r,hl,e⟩:=I.lstM hH
 refine call_meets F.slot_list_append ⟨_,e,rfl⟩ F.entry_list_append (F.args_list_append_2 _ _) (PySem.list_append l its.toArray n u (by rw[CT];omega)) ⟨e,?_⟩
 refine⟨.non,_,I.lset (its':=its++[u]) hH e (by simp) (r.append (.cons ru .nil)) ?_,rfl,q⟩
 rw[Dh,List.length_singleton]
 omega
def zJ:V->List V->Hp->VK->Prop:=fun x vs H Q=>∃l b xs zs,x=.ref l/\vs=[.ref b]/\H l=some (.lst xs)/\H b=some (.lst zs)/\xs.length+zs.length<=sizeLine/\Q .non (upd H l (.lst (xs++zs)))
theorem CF:ug X "list.extend" zJ:=by
 intro pins s σ H x vs v us Q I rx rv h
 obtain⟨l,b,xs,zs,rfl,rfl,hH,hB,hz,q⟩:=h
 cases rx
 obtain⟨u,rfl,ru⟩:=rv.one
 cases ru
 obtain⟨z,its,n,r,hl,e⟩:=I.lstM hH
 obtain⟨z2,its2,n2,r2,hl2,e2⟩:=I.lstM hB
 have hsz:its.toArray.size+its2.toArray.size<=sizeLine:=by rw[CT,CT];omega
 have hlong:¬(!its.toArray.isEmpty && Builtin.List.listTooLong (its.toArray.size+its2.toArray.size))=true:=by
  rw[uU hsz,Bool.and_false]
  exact Df
 refine call_meets F.slot_list_extend ⟨_,e,rfl⟩ F.entry_list_extend (F.args_list_extend_2 _ _)
  (AutoSeq1.list_extend_list_list_0 l its.toArray n b its2.toArray n2 hlong (by rw[CT];omega) (by omega)) ⟨e,e2,?_⟩
 refine⟨.non,_,I.lset (its':=its++its2) hH e (by simp) (r.append r2) ?_,rfl,q⟩
 rw[Dh]
 omega
def tW:R2:=fun x y H Q=>∃l b xs zs,x=.ref l/\y=.ref b/\H l=some (.lst xs)/\H b=some (.lst zs)/\xs.length+zs.length<=sizeLine/\∀p,H p=none->Q (.ref p) (upd H p (.lst (xs++zs)))
theorem cD:bo X (binaryOp .Add) tW:=by
 intro pins s σ H x y v u Q I rx ry h
 obtain⟨l,b,xs,zs,rfl,rfl,hH,hB,hz,q⟩:=h
 cases rx
 cases ry
 obtain⟨z,its,n,r,hl,e⟩:=I.lstM hH
 obtain⟨z2,its2,n2,r2,hl2,e2⟩:=I.lstM hB
 refine PySem.P.add_list e e2 ?_ (by rw[CT,CT];omega)
 have ea:its.toArray++its2.toArray=(its++its2).toArray:=by simp
 rw[ea]
 exact⟨.ref _,_,I.lnew (t':=s.toks) (r.append r2) (by rw[Dh];omega),rfl,q _ I.fresh⟩
def qT:R2:=fun x y H Q=>∃l k xs,x=.ref l/\y=.int k/\H l=some (.lst xs)/\-(2 ^ 63)<=k/\k<2 ^ 63/\xs.length*k.toNat<=sizeLine ∧
 ∀p,H p=none->Q (.ref p) (upd H p (.lst (DF k.toNat xs).flatten))
theorem len_rep{α:Type}(xs:List α)(k:Nat):(DF k xs).flatten.length=k*xs.length:=by
 induction k with
 | zero=>simp
 | succ k ih=>rw[List.replicate_succ,List.flatten_cons,Dh,ih,Nat.succ_mul,Nat.add_comm]
theorem lQ:bo X (binaryOp .Mult) qT:=by
 intro pins s σ H x y v u Q I rx ry h
 obtain⟨l,k,xs,rfl,rfl,hH,h1,h2,hz,q⟩:=h
 cases rx
 obtain⟨t,rfl⟩:=ry
 obtain⟨z,its,n,r,hl,e⟩:=I.lstM hH
 have hlen:its.toArray.size*k.toNat<=sizeLine:=by rw[CT,←hl];exact hz
 have hcap:¬its.toArray.size*k.toNat>(2 ^ 63-1) / 8:=by
  have:(sizeLine:Nat)<=(2 ^ 63-1) / 8:=by decide
  omega
 have hfit:¬(!Builtin.List.listFitsIndex k)=true:=by
  rw[fitsIndex_both h1 h2]
  exact Df
 have hlong:¬Builtin.List.listTooLong (its.toArray.size*k.toNat)=true:=by
  rw[uU hlen]
  exact Df
 have hnew:List.foldl (fun x1 x2=>x1++x2) #[] (DF (if its.toArray.isEmpty=true then 0 else k.toNat) its.toArray)=(DF k.toNat its).flatten.toArray:=by
  have f0:∀m:Nat,List.foldl (fun x1 x2=>x1++x2) #[] (DF m its.toArray)=(DF m its).flatten.toArray:=fun m=>by
   have:=foldl_rep its m []
   rw[List.nil_append]at this
   exact this
  rw[f0]
  cases its with
  | nil=>simp
  | cons a r'=>rw[DP (by simp)]
 refine wpAny_binaryOp_repeat_ref (T:="list") (U:="int") (by decide) ⟨_,e,rfl⟩ (fun s'=>typeIs_int s' k t) noFill_list_mul F.fills_int_mul F.slot_int_rmul repeat_list F.slot_int_index.lookup
  (call_meets F.slot_int_rmul (typeIs_int s k t) F.entry_int_rmul (F.args_int_rmul_2 _ _) (int___rmul___int_list k t l its.toArray n)
   ⟨e,rfl,⟨_,e,rfl⟩,call_meets F.slot_list_mul ⟨_,e,rfl⟩ F.entry_list_mul (F.args_list_mul_2 _ _) (AutoListH.list___mul___list_int_3 l its.toArray n k t hfit hcap hlong) ⟨e,?_⟩⟩)
 rw[hnew]
 exact⟨.ref _,_,I.lnew (t':=s.toks) (r.rep k.toNat) (by rw[len_rep,Nat.mul_comm];exact hz),rfl,q _ I.fresh⟩
end
section
variable {prog:Program} {w:World} {A:Around} {E:Value->Shared->Prop} {s:Shared}
end
section
variable {X:Cx}
end
end L2
namespace Att
open PySem PySem.W PySem.Calls PyProof.Rows
theorem xY{P:Params}{h:Heap}:∀(ns:List Int) (vs:List Value),WellAll P h vs (ns.map WData.int)->IntsAre vs ns:=by
 intro ns
 induction ns with
 | nil=>
  intro vs w
  rw[List.map_nil]at w
  cases w
  exact .nil
 | cons n ns ih=>
  intro vs w
  rw[List.map_cons]at w
  cases w with
  | cons a b=>
   cases a
   exact .cons _ _ (ih _ b)
theorem Bn{l:OpenLaw}{n:Nat}(hn:l.most=some n){P:Params}{h:Heap}{args:List WData}{vals:List Value}
  (hpre:l.row.toRowW.claim.pre args=true) (hwl:WellAll P h vals args) :
  ∃a vs ns,vals=[Value.ref a]/\args=[WData.list (ns.map WData.int)]/\h.get? a=some { cls:=.type "list",data:=.seq vs.toArray }/\IntsAre vs ns/\ns.length<=n:=by
 have hsh:WShape.hasAll [] args [.list .int]=true:=(pre_splitW hpre).1
 have hc:l.pre.holds [] { args:=args }=true:=(pre_splitW hpre).2
 obtain⟨d,r,rfl,h1,h2⟩:=hasAllW_cons hsh
 obtain rfl:=hasAllW_nil h2
 obtain⟨xs,rfl,h3⟩:=hasW_list h1
 obtain⟨ns,rfl⟩:=items_int h3
 have hlen:ns.length<=n:=by
  unfold OpenLaw.pre at hc
  have h4:(WTm.not (.lt (.lit (.int (n:Int))) (.len (.arg 0)))).holds [] { args:=[.list (ns.map .int)] }=true:=by
   have h4:=(holds_andW hc).1
   rw[hn]at h4
   exact h4
  have h5:=condW_of h4 (w_not (w_lt w_lit (w_len_list (w_arg rfl))))
  rw[CN]at h5
  refine Nat.le_of_not_lt fun q=>?_
  have q':(n:Int)<((ns.length:Nat):Int):=by omega
  first
   | (rw[DO q']at h5;exact absurd h5 (by decide))
   | (simp at h5;omega)
 cases hwl with
 | cons w1 w2=>
  cases w2
  cases w1 with
  | list ho hall=>exact⟨_,_,ns,rfl,rfl,ho,xY ns _ hall,hlen⟩
theorem zD(l:OpenLaw)(args:List WData):l.row.toRowW.claim.post args (.bool true) args=true:=
 postW_of (r:=l.row.toRowW) (X:=(true == true))
  (show WShape.has [] (.bool true) .bool=true by first | rfl | decide | simp [WShape.has,WShape.arms,WShape.armsAll])
  (show(WTm.eq .res (.lit (.bool true))).value [] { args:=args,res:=some (.bool true),after:=args }=some (.bool (true == true))from w_eq_bool (w_res rfl) w_lit) rfl
theorem Cy{l:OpenLaw}{n:Nat}{q:Program}{loose:List Str}{XP:(Str->Option Value)->Heap->Prop}{YP:World->Heap->Prop}{d:DefRec}
  (hn:l.most=some n) (hdf:d.params.defaults=[])
  (call:∀(w:World) (s₀ s₁:Shared) (mg mb:Str->Option Value) (fa:Addr) (o:Obj) (pm cd doc:Value) (a:Addr) (vs:List Value) (ns:List Int),
   Ground q loose [] XP w s₀ mg mb s₁.heap->YP w s₁.heap →
   s₁.heap.get? fa=some o->o.data=.func (docDef d.name d.params d.body d.scope pm cd doc)->s₁.heap.CodeRec cd d.name->mg d.name=some (.ref fa) →
   s₁.heap.get? a=some { cls:=.type "list",data:=.seq vs.toArray }->IntsAre vs ns->ns.length<=n->s₁.gens = #[] →
   codeAny (model l.prog w) callerA (.call (.ref fa) ⟨[.ref a],[]⟩) (fun r s'=>r=.ok (.ret (.bool true))/\OldK s₁.heap s'.heap/\s'.os=s₁.os/\AllBare s'.gens) s₁) :
  WalkO q loose XP YP l.row.toRowW d [] (fun f vs=>PySem.call f vs):=by
 intro w s₀ s₁ mg mb G Y fa o pm cd doc dV kV ho hd hcd hD hmg hg args vals as hpre hlay hrd hwl hlo
 obtain rfl:dV=.none:=Dflts.none hD hdf
 obtain rfl:kV=.none:=Dflts.noKw hD
 obtain⟨a,vs,ns,rfl,rfl,hobj,hints,hlen⟩:=Bn hn hpre hwl
 refine enter_call (codeAny_mono (call w s₀ s₁ mg mb fa o pm cd doc a vs ns G Y ho (fd_plain hd) hcd hmg hobj hints hlen hg) fun r s' hq=>?_)
 obtain⟨rfl,h2,h3,h4⟩:=hq
 exact⟨.inl ⟨.bool true,.bool true,[],rfl,fun _=>rfl,.bool true,zD l _,fun _=>⟨List.Pairwise.nil,fun _ hm=>(nomatch hm)⟩⟩,h2,h3,h4⟩
section
variable {prog:Program} {w:World} {A:Around} {E:Value->Shared->Prop} {s:Shared} {K:Frag}
end
end Att
namespace L2
open PySem PySem.Spec PyProof.Rows
theorem se:∀{vs:List Value} {ns:List Int},IntsAre vs ns->Vals (ns.map V.int) vs
 | _,_,.nil=>.nil
 | _,_,.cons n t h=>.cons ⟨t,rfl⟩ (se h)
def kI(H:Hp):Prop:=∀b,H b=none\/∃o xs,H b=some (.frz o (.lst xs))
theorem law_call{P:Program}{w:World}{K:CJ}{mg mb:Str->Option Value}{CX:dk}{k:Nat}{fa a:Addr}{fd:FuncData}{x:Str}{sp:Sp}{s₁:Shared}{vs:List Value}{ns:List Int}
  (KX:K.In s₁.heap) (hns:s₁.heap.Ns mainGlobals mg) (hb:s₁.heap.Ns builtinsNs mb) (hbb:∀x:Str,x≠"__name__"->mb x=bootBuiltins x) (hlim:s₁.heap.NoLimit) (hg:s₁.gens = #[])
  (ha:s₁.heap.get? a=some { cls:=.type "list",data:=.seq vs.toArray }) (hi:IntsAre vs ns) (hl:ns.length<=sizeLine) (hr:Room k callerA)
  (F:∀base:Heap,K.In base->base.Ns mainGlobals mg->FnOk P w K mg base CX k fa fd [x] sp) (hbind:∀(s:Shared) (u:Value),BindsTo s fd ⟨[u],[]⟩ [(x,u)])
  (hsp:∀H:Hp,kI H->ai K H a (ns.map V.int)->sp [.ref a] H (fun v _=>v=.bl true) fun _ _ _=>False)
  (hCX:∀H e s',CX [] H s₁ (fun _ _ _=>False) e s'->False) :
  codeAny (model P w) callerA (.call (.ref fa) ⟨[.ref a],[]⟩) (fun r s'=>r=.ok (.ret (.bool true))/\OldK s₁.heap s'.heap/\s'.os=s₁.os/\AllBare s'.gens) s₁:=by
 have rv:=se hi
 have lenV:=hi.length
 -- from an abstract heap in which nothing but the script may be tracked
 have core:∀H:Hp,kI H->ai K H a (ns.map V.int)->bD P w H s₁.heap->(∀b,H b≠none->b=a)->(H a≠none->K.lookup a=none) →
   codeAny (model P w) callerA (.call (.ref fa) ⟨[.ref a],[]⟩) (fun r s'=>r=.ok (.ret (.bool true))/\OldK s₁.heap s'.heap/\s'.os=s₁.os/\AllBare s'.gens) s₁:=by
  intro H hO hS hok hA hK
  have base_of:∀{b:Addr} {o:Obj},s₁.heap.get? b=some o->H b=none->(eo s₁.heap H).get? b=some o:=fun e n=>Cr e n
  have noA:∀{b:Addr} {o:Obj} {es:Array DictEntry} {ep:Nat},s₁.heap.get? b=some o->o.data=.dict es ep->H b=none:=fun{b o es ep} e d=>by
   cases q:H b with
   | none=>rfl
   | some u=>
    have e':b=a:=hA b (by rw[q];simp)
    subst e'
    rw[ha]at e;cases e
    have d':Data.seq vs.toArray _=Data.dict es ep:=d
    cases d'
  have nsK:∀{b:Addr} {m:Str->Option Value},s₁.heap.Ns b m->(eo s₁.heap H).Ns b m:=fun{b m} ⟨o,es,ep,e,d,r⟩=>⟨o,es,ep,base_of e (noA e d),d,r⟩
  have hKb:K.In (eo s₁.heap H):=fun b o e=>base_of (KX b o e) (by
   cases q:H b with
   | none=>rfl
   | some u=>
    have e':b=a:=hA b (by rw[q];simp)
    subst e'
    rw[hK (by rw[q];simp)]at e;cases e)
  have hM:Mod K mg (eo s₁.heap H):=⟨hKb,nsK hns,⟨mb,nsK hb,hbb⟩,let ⟨mc,h1,h2⟩:=hlim;⟨mc,nsK h1,h2⟩⟩
  have e0:Env0 P w K mg (eo s₁.heap H) callerA [] s₁ H:=⟨rfl,hM,fun b o e=>vX e,Nat.le_of_eq (zM _ _),trivial,fun b hb=>absurd (show b∈([]:List Addr)from hb) (by simp),hok,.of_eq hg⟩
  refine codeAny_mono ((F _ hKb (nsK hns)).run callerA [] s₁ H ⟨[.ref a],[]⟩ [.ref a] [.ref a] _ _ hr e0 (hbind s₁ (.ref a)) (.cons rfl .nil) (hsp H hO hS)) fun r s' h=>?_
  cases r with
  | error e=>exact(hCX H e s' h).elim
  | ok fl=>
   cases fl with
   | next=>exact False.elim h
   | brk=>exact False.elim h
   | cont=>exact False.elim h
   | ret u=>
    obtain⟨v,H',os,bare,un,hok',r',q⟩:=h
    have q':v=.bl true:=q
    subst q'
    obtain rfl:u=Value.bool true:=r'
    refine⟨rfl,OldK.of_keep fun b o e=>?_,os,bare⟩
    cases q:H b with
    | none=>exact un.keep b o e q (by intro z;exact absurd (show b∈([]:List Addr)from z) (by simp)) (by simp)
    | some u=>
     rcases hO b with z | ⟨ob,xs,z⟩
     ·rw[q]at z;cases z
     ·have z2:=un.frzs b ob _ z
      obtain⟨e1,_⟩:=hok b _ z
      obtain⟨e2,_⟩:=hok' b _ z2
      rw[e]at e1;cases e1
      exact e2
 cases hk:K.lookup a with
 | some o=>
  -- the script is one of the module's own objects
  have e:=KX a o hk
  rw[ha]at e
  cases e
  refine core (fun _=>none) (fun _=>.inl rfl) (.inr ⟨_,vs.toArray,_,hk,rfl,rfl,rfl,by rw[CT,lenV];exact hl,by simpa using rv⟩) (fun b u z=>by have z':(none:Option HO)=some u:=z;cases z') (fun b z=>absurd rfl z) fun z=>absurd rfl z
 | none=>
  refine core (fun b=>if b=a then some (.frz { cls:=.type "list",data:=.seq vs.toArray } (.lst (ns.map V.int)))else none) (fun b=>?_) (.inl (.inr ⟨{ cls:=.type "list",data:=.seq vs.toArray },DQ rfl⟩)) (fun b u z=>?_) (fun b z=>?_) fun _=>hk
  ·by_cases hb:b=a
   ·exact .inr ⟨_,_,DQ hb⟩
   ·exact .inl (DP hb)
  ·by_cases hb:b=a
   ·have z':=(DQ hb).symm.trans z
    cases z'
    subst hb
    exact⟨ha,by rw[CN];exact hl,vs,_,rv,ha⟩
   ·have z':=(DP hb).symm.trans z
    cases z'
  ·by_cases hb:b=a
   ·exact hb
   ·exact absurd (DP hb) z
end L2
namespace L2
open PySem PySem.Spec PyProof.Rows
theorem yM{l:PySem.W.OpenLaw}{n k:Nat}{q:Program}{loose:List Str}{XP:(Str->Option Value)->Heap->Prop}{YP:World->Heap->Prop}{d:DefRec}{K:Params->CJ}{CX:World->dk}{sp:World->Sp}{x:Str}
  (hn:l.most=some n) (hn2:n<=sizeLine) (hdf:d.params.defaults=[]) (hr:Room k callerA)
  (hY:∀(w:World) (h:Heap),YP w h->(K w.params).In h)
  (F:∀(w:World) (mg:Str->Option Value) (fa:Addr) (h:Heap),(K w.params).In h->h.Ns mainGlobals mg->mg d.name=some (.ref fa) →
   ∃fd:FuncData,(∀(s:Shared) (u:Value),BindsTo s fd ⟨[u],[]⟩ [(x,u)]) ∧
    ∀base:Heap,(K w.params).In base->base.Ns mainGlobals mg->FnOk l.prog w (K w.params) mg base (CX w) k fa fd [x] (sp w))
  (hsp:∀(w:World) (H:Hp) (a:Addr) (ns:List Int),ns.length<=n->kI H->ai (K w.params) H a (ns.map V.int)->sp w [.ref a] H (fun v _=>v=.bl true) fun _ _ _=>False)
  (hCX:∀(w:World) (H:Hp) (s:Shared) (e:Value) (s':Shared),CX w [] H s (fun _ _ _=>False) e s'->False) :
  PySem.W.WalkO q loose XP YP l.row.toRowW d [] (fun f vs=>PySem.call f vs):=by
 refine Att.Cy hn hdf fun w s₀ s₁ mg mb fa o pm cd doc a vs ns G Y ho hd hcd hmg hobj hints hlen hg=>?_
 have KX:=hY w _ Y
 obtain⟨fd,hb,hF⟩:=F w mg fa _ KX G.T.g hmg
 exact law_call KX G.T.g G.T.b G.T.builtins G.T.nolimit hg hobj hints (Dv hlen hn2) hr hF hb (fun H hO hS=>hsp w H a ns hlen hO hS) fun H e s'=>hCX w H s₁ e s'
end L2
namespace L2
open PySem PySem.Spec PyProof.Rows
def eV(s:Stmt):Arguments:=match s with
 | .FunctionDef _ a _ _ _ _ _ _ _ _=>a
 | _=>{ posonlyargs:=[],args:=[],vararg:=none,kwonlyargs:=[],kw_defaults:=[],kwarg:=none,defaults:=[] }
def dO(s:Stmt):List Stmt:=match s with
 | .FunctionDef _ _ b _ _ _ _ _ _ _=>b
 | _=>[]
def aE(s:Stmt):Scope:=match s with
 | .FunctionDef _ _ _ _ _ _ sc _ _ _=>sc
 | _=>{ kind:=.function,names:=[],isGenerator:=false,isCoroutine:=false }
abbrev eu:dk:=fun _ _ _ _ _ _=>False
abbrev E0:XK:=fun _ _ _=>False
theorem y8{X:Cx}:Passes eu X E0:=fun _ _ _ _ _ _ _ h=>h.elim
structure Fun(K:CJ)(x qual:Str)(st:Stmt)(f:Addr)(fd:FuncData):Prop where
 ex:∃(oc:Value) (od:Option Addr) (kV doc pm:Value) (an:Option Addr) (cdv ct:Value) (osl:Array (Option Value)),
  fd=PySem.W.fnOf x qual (eV st) (dO st) (aE st) .none kV doc pm an cdv ct/\K.lookup f=some ⟨oc,od,.func fd,osl⟩/\PySem.W.codeIn K cdv qual=true
 kp:PySem.W.keepIn K (.ref f)=true
section
variable {P:Program} {w:World} {K:CJ} {mg:Str->Option Value} {base:Heap}
theorem Fun.ok{x qual:Str}{st:Stmt}{f:Addr}{fd:FuncData}{N ps:List Str}{k:Nat}{sp:Sp}(F:Fun K x qual st f fd)(S:FnScope N ps (aE st))(len:∀vs H Q E,sp vs H Q E->vs.length=ps.length)
  (hbody:∀(cdv:Value) (A:Around) (outer:List Env) (s:Shared) (H:Hp) (vs:List V) (Q:VK) (E:XK),Room k (A.deeper (envOfC qual (aE st) s.heap.objs.size f cdv))->sp vs H Q E →
   ∃t,cx (bI eu P w K mg base N qual (aE st) f cdv A outer s H E).nox (dO st) t/\t { nx:=fun _ H'=>Q .non H',rt:=Q } (start N vs) H):FnOk P w K mg base eu (k+1) f fd ps sp:=by
 obtain⟨oc,od,kV,doc,pm,an,cdv,ct,osl,rfl,lk,hcd⟩:=F.ex
 refine tI lk hcd S len fun A outer s H vs Q E hr hsp=>?_
 obtain⟨t,h,q⟩:=hbody cdv A outer s H vs Q E hr hsp
 exact⟨t,h.nox,q⟩
theorem Fun.binds{x qual:Str}{st:Stmt}{f:Addr}{fd:FuncData}{ps:List Str}(F:Fun K x qual st f fd)
  (h:∀(kV doc pm:Value) (an:Option Addr) (cdv ct:Value) (us:List Value),us.length=ps.length->bindArgs (PySem.W.fnOf x qual (eV st) (dO st) (aE st) .none kV doc pm an cdv ct) ⟨us,[]⟩=pure (ps.zip us)):Binds K fd ps []:=by
 obtain⟨oc,od,kV,doc,pm,an,cdv,ct,osl,rfl,lk,hcd⟩:=F.ex
 exact .all (h kV doc pm an cdv ct)
theorem oF{x qual:Str}{st:Stmt}{f:Addr}{oc:Value}{od an:Option Addr}{osl:Array (Option Value)}{kV doc pm cdv ct:Value}(l:K.lookup f=some ⟨oc,od,.func (PySem.W.fnOf x qual (eV st) (dO st) (aE st) .none kV doc pm an cdv ct),osl⟩)
  (c:PySem.W.codeIn K cdv qual=true) (k:PySem.W.keepIn K (.ref f)=true):Fun K x qual st f (PySem.W.fnOf x qual (eV st) (dO st) (aE st) .none kV doc pm an cdv ct):=⟨⟨oc,od,kV,doc,pm,an,cdv,ct,osl,rfl,l,c⟩,k⟩
end
section
variable {X:Cx}
theorem pv(i:Nat){x:Str}{pos:Pos}(hN:X.N[i]?=some x:=by rfl)(hv:mi X.env.scope x:=by first | exact Or.inl rfl | exact Or.inr (Or.inl rfl) | exact Or.inr (Or.inr rfl))(hd:(x == ("__debug__":Str))=false:=by decide)
  (hcd:(x == ("__classdict__":Str))=false:=by decide):PE X (.Name x pos) (mR i):=xQ hN hv hd hcd
end
theorem av{A B:Prop}(h:B):if false=true then A else B:=by
 rw[DP Df]
 exact h
theorem au{A B:Prop}(h:A):if true=true then A else B:=by
 rw[DQ rfl]
 exact h
theorem cT{c A B:Prop}[Decidable c](h1:c->A)(h2:¬c->B):if c then A else B:=by
 by_cases h:c
 ·rw[DQ h]
  exact h1 h
 ·rw[DP h]
  exact h2 h
end L2
namespace L2
open PySem PySem.Spec PyProof.Rows
structure Blk where
 s:Shared
 H:Hp
 fp:List Addr
 C:Addr
def cV(names:List (Str×NameKind))(cells:List (Str×Addr)):List (Str×Addr):=
 names.foldl (fun acc p=>if p.2 == .free then(p.1,(cells.lookup p.1).getD 0)::acc else acc) []
def cK(X:Cx)(sc:Scope)(own:List Str)(js:List Nat)(z:Blk):Cx where
 prog:=X.prog
 w:=X.w
 K:=X.K
 mg:=X.mg
 base:=X.base
 A:=X.A
 N:=own++js.map fun j=>X.N.getD j ""
 s₀:=z.s
 H₀:=z.H
 env:=compEnvC sc (cV sc.names X.env.cells) z.C X.env
 outer:=X.stack
 stack:=X.stack
 ex:=z.fp
 fn:=fun _=>false
 calm:=X.calm
 pn:=[]
 xe:=fun _ _=>False
def eY(sc out:Scope):Bool:=sc.names.all fun p=>p.2 != .cell && (p.2 != .local || sc.names.lookup p.1 == some .local) && (p.2 != .free || out.names.lookup p.1 == some .cell || out.names.lookup p.1 == some .free)
def fE(sc:Scope)(N:List Str)(js:List Nat):Bool:=js.all fun j=>decide (j<N.length) && (sc.names.lookup (N.getD j "") == some .free)
def bT(n:Nat)(js:List Nat)(σ:St):St:=DF n none++js.map fun j=>(σ[j]?).join
theorem jC(cells:List (Str×Addr)):∀(names:List (Str×NameKind)) (acc:List (Str×Addr)) (x:Str) (c:Addr),
  (names.foldl (fun acc p=>if p.2 == .free then(p.1,(cells.lookup p.1).getD 0)::acc else acc) acc).lookup x=some c →
  ((x,NameKind.free)∈names/\c=(cells.lookup x).getD 0)\/acc.lookup x=some c
 | [],acc,x,c,h=>.inr h
 | (n,k)::r,acc,x,c,h=>by
  rw[List.foldl_cons]at h
  rcases jC cells r _ x c h with⟨h1,h2⟩ | h1
  ·exact .inl ⟨CQ _ h1,h2⟩
  ·cases hk:(k == NameKind.free)with
   | false=>
    simp only[hk]at h1
    exact .inr h1
   | true=>
    simp only[hk,if_true]at h1
    rw[DI]at h1
    cases hx:(x == n)with
    | false=>rw[hx]at h1;exact .inr h1
    | true=>
     rw[hx]at h1
     have e1:x=n:=by simpa using hx
     have e2:k=.free:=by simpa using hk
     subst e1 e2
     exact .inl ⟨CU,(DC h1).symm⟩
theorem sC(cells:List (Str×Addr)):∀(names:List (Str×NameKind)) (acc:List (Str×Addr)) (x:Str),
  ((x,NameKind.free)∈names\/(acc.lookup x).isSome=true)->((names.foldl (fun acc p=>if p.2 == .free then(p.1,(cells.lookup p.1).getD 0)::acc else acc) acc).lookup x).isSome=true
 | [],acc,x,h=>by
  rcases h with h | h
  ·simp at h
  ·exact h
 | (n,k)::r,acc,x,h=>by
  rw[List.foldl_cons]
  apply sC cells r
  rcases h with h | h
  ·rcases De.mp h with e | h
   ·right
    cases e
    simp[DI]
   ·exact .inl h
  ·right
   cases hk:(k == NameKind.free)with
   | false=>simpa[hk]using h
   | true=>
    simp only[hk,if_true,DI]
    cases hx:(x == n)with
    | true=>rfl
    | false=>exact h
theorem lx{env:Env}{sc:Scope}(h:∀p∈sc.names,p.2=.free->∃c,env.cells.lookup p.1=some c):closureFor sc env=pure (cV sc.names env.cells):=by
 have go:∀(names:List (Str×NameKind)) (acc:List (Str×Addr)),(∀p∈names,p.2=NameKind.free->∃c,env.cells.lookup p.1=some c) →
   (forIn names acc fun(p:Str×NameKind) (r:List (Str×Addr))=>(match p with | (name,kind)=>if(kind == NameKind.free)=true then do let c ←cellOf env name;pure (ForInStep.yield ((name,c)::r))else pure (ForInStep.yield r):Sem _)) =
   pure (names.foldl (fun acc p=>if p.2 == .free then(p.1,(env.cells.lookup p.1).getD 0)::acc else acc) acc):=by
  intro names
  induction names with
  | nil=>intro acc _;rfl
  | cons p r ih=>
   intro acc hp
   obtain⟨n,k⟩:=p
   rw[List.forIn_cons,List.foldl_cons]
   cases hk:(k == NameKind.free)with
   | false=>
    simp only[hk,DG,if_false]
    exact ih acc fun q hq=>hp q (CQ _ hq)
   | true=>
    obtain⟨c,hc⟩:=hp (n,k) CU (by simpa using hk)
    have e:cellOf env n=pure c:=by
     unfold cellOf
     rw[show env.cells.lookup n=some c from hc]
    simp only[hk,if_true,e]
    have hc':env.cells.lookup n=some c:=hc
    rw[hc']
    exact ih _ fun q hq=>hp q (CQ _ hq)
 unfold closureFor cV
 have:=go sc.names [] h
 simp only[this]
 rfl
def fg(X:Cx)(ifs:List Expr)(t:TT):Prop:=
 ∀(pins:List (Addr×Obj)) (s:Shared) (σ:St) (H:Hp) (Q:Bool->Hp->Prop),Inv X pins σ H s->t σ H Q →
  wpAny (model X.prog X.w) X.A (forIn ifs true fun c r=>if r=true then do let ok ←isTrue c X.env (eval c X.env);pure (ForInStep.yield ok)else pure (ForInStep.yield r)) (TP X pins σ Q) X.xe s
def uW:TT:=fun _ H Q=>Q true H
theorem cI{X:Cx}:fg X [] uW:=fun _ _ _ H _ I h=>wpAny_tests_nil ⟨H,I,h⟩
theorem lE{X:Cx}{c:Expr}{t:TT}(h:PT X c t):fg X [c] t:=fun pins s σ H Q I hq=>wpAny_tests_one (h pins s σ H Q I hq)
theorem sS{prog:Program}{w:World}{A:Around}{R:Result->Shared->Prop}{t0:Shared}{elt tgt iter:Expr}{ifs:List Expr}{sc:Scope}{ps:Pos}{itv acc:Value}{ce:Env}(Wd:Nat->Shared->Prop)
  (step:∀k t,Wd k t->wpAny (model prog w) A (pyNext itv) (fun got t1=>
   match got with
   | none=>R (.ok .next) t1
   | some u=>wpAny (model prog w) A (letOwnedTupleGo tgt itv u) (fun _ t2=>wpAny (model prog w) A (assign tgt ce u) (fun _ t3=>
     wpAny (model prog w) A (forIn ifs true fun c r=>if r=true then do let ok ←isTrue c ce (eval c ce);pure (ForInStep.yield ok)else pure (ForInStep.yield r)) (fun yes t4=>
      if yes=true then wpAny (model prog w) A (eval elt ce) (fun val t5=>wpAny (model prog w) A (call (.builtin "list.append") [acc,val]) (fun _ t6=>∃m,m<k/\Wd m t6) (fun _ _=>False) t5) (fun _ _=>False) t4
      else ∃m,m<k/\Wd m t4) (fun _ _=>False) t3) (fun _ _=>False) t2) (fun _ _=>False) t1) (fun _ _=>False) t)
  (k0:Nat) (start:Wd k0 t0):codeAny (model prog w) A (.compLoop (.ListComp elt [⟨tgt,iter,ifs,0⟩] sc ps) 0 itv acc ce) R t0:=by
 refine codeAny_loop rfl Wd (fun k t hW=>?turn) k0 start
 case turn=>
  have nox:∀{α:Type} {m:Sem α} {Q:α->Shared->Prop} {E:Value->Shared->Prop} {z:Shared},wpAny (model prog w) A m Q (fun _ _=>False) z->wpAny (model prog w) A m Q E z:=fun h=>wpAny_mono h (fun _ _ q=>q) fun _ _ f=>f.elim
  show wpAny _ A ((compTurn (.ListComp elt [⟨tgt,iter,ifs,0⟩] sc ps) 0 itv acc ce).onRaise (fun x=>do noteFrame x ce;theTreesLotGoes x)) _ _ t
  apply wpAny_noted
  rw[compTurn_list]
  refine CH (wpAny_standAt (CH (nox (wpAny_mono (step k t hW) (fun got t1 h1=>?_) fun _ _ f=>f))))
  cases got with
  | none=>exact CI h1
  | some u=>
   refine CH (nox (wpAny_mono h1 (fun _ t2 h2=>?_) fun _ _ f=>f))
   refine CH (nox (wpAny_mono h2 (fun _ t3 h3=>?_) fun _ _ f=>f))
   refine CH (nox (wpAny_mono h3 (fun yes t4 h4=>?_) fun _ _ f=>f))
   cases yes with
   | false=>
    rw[DP Df]at h4
    exact CI ⟨rfl,h4⟩
   | true=>
    rw[DQ rfl]at h4
    refine CH (CH (nox (wpAny_mono h4 (fun val t5 h5=>?_) fun _ _ f=>f)))
    exact CH (nox (wpAny_mono h5 (fun _ t6 h6=>CI (CI ⟨rfl,h6⟩)) fun _ _ f=>f))
section
variable {X:Cx} {pins:List (Addr×Obj)} {σ:St} {H:Hp} {s:Shared}
def bS(its:List Value)(n:Nat):Obj:={ cls:=.type "list",data:=.seq its.toArray n }
theorem nA{sc out:Scope}(h:eY sc out=true){p:Str×NameKind}(hp:p∈sc.names)(hf:p.2=.free):out.names.lookup p.1=some .cell\/out.names.lookup p.1=some .free:=by
 have:=Dy.mp h p hp
 simp only[hf,DA,Bool.or_eq_true,beq_iff_eq,bne_iff_ne,ne_eq,not_true,false_or]at this
 exact this.2
theorem ua{sc out:Scope}(h:eY sc out=true){p:Str×NameKind}(hp:p∈sc.names):p.2≠.cell:=by
 have:=Dy.mp h p hp
 simp only[DA,bne_iff_ne,ne_eq]at this
 exact this.1.1
theorem zk{sc out:Scope}(h:eY sc out=true){p:Str×NameKind}(hp:p∈sc.names)(hf:p.2=.local):sc.names.lookup p.1=some .local:=by
 have:=Dy.mp h p hp
 simp only[hf,DA,Bool.or_eq_true,beq_iff_eq,bne_iff_ne,ne_eq,not_true,false_or]at this
 exact this.1.2
theorem fP{sc:Scope}{env:Env}{x:Str}:∀{names:List (Str×NameKind)} {k:NameKind},(names.map fun(p:Str×NameKind)=>match p with | (n,k)=>if(k == NameKind.free && env.scope.kind == .function && env.kindOf n == some .cell)then(n,NameKind.cell)else(n,k)).lookup x=some k →
  ∃k',names.lookup x=some k'/\(k'=k\/(k'=.free/\k=.cell))
 | [],_,h=>by simp at h
 | (n,q)::r,k,h=>by
  rw[List.map_cons]at h
  rw[DI]
  cases hx:(x == n)with
  | true=>
   refine⟨q,rfl,?_⟩
   by_cases hc:(q == NameKind.free && env.scope.kind == .function && env.kindOf n == some .cell)=true
   ·simp only[hc,if_true,DI,hx]at h
    right
    simp only[DA,beq_iff_eq]at hc
    exact⟨hc.1.1,(DC h).symm⟩
   ·left
    have h2:List.lookup x ((n,q)::(r.map fun(p:Str×NameKind)=>match p with | (n,k)=>if(k == NameKind.free && env.scope.kind == .function && env.kindOf n == some .cell)then(n,NameKind.cell)else(n,k)))=some k:=by
     have h3:=h
     dsimp only at h3
     rw[DP hc]at h3
     exact h3
    rw[DI,hx]at h2
    exact DC h2
  | false=>
   have:List.lookup x (r.map fun(p:Str×NameKind)=>match p with | (n,k)=>if(k == NameKind.free && env.scope.kind == .function && env.kindOf n == some .cell)then(n,NameKind.cell)else(n,k))=some k:=by
    by_cases hc:(q == NameKind.free && env.scope.kind == .function && env.kindOf n == some .cell)=true
    ·simpa only[hc,if_true,DI,hx]using h
    ·dsimp only at h
     rw[DP hc,DI,hx]at h
     exact h
   exact fP (sc:=sc) this
theorem j1{names:List (Str×NameKind)}{x:Str}{k:NameKind}(h:names.lookup x=some k):(x,k)∈names:=PySem.mem_of_lookup h
theorem eO(ok:X.Ok){sc:Scope}(hb:eY sc X.env.scope=true){x:Str}{c:Addr}(h:(cV sc.names X.env.cells).lookup x=some c):X.env.cells.lookup x=some c:=by
 rcases jC X.env.cells sc.names [] x c h with⟨h1,h2⟩ | h1
 ·obtain⟨d,hd⟩:=ok.has x (nA hb h1 rfl)
  rw[hd]at h2 ⊢
  rw[h2]
  rfl
 ·simp at h1
theorem jz{sc:Scope}{x:Str}{cells:List (Str×Addr)}(h:(x,NameKind.free)∈sc.names):∃c,(cV sc.names cells).lookup x=some c:=
 Option.isSome_iff_exists.mp (sC cells sc.names [] x (.inl h))
theorem Inv.stk_lt(I:Inv X pins σ H s){b:Addr}(hb:b∈aS X.stack):b<s.heap.objs.size:=by
 rcases De.mp (I.stkSub b hb)with e | h
 ·rw[e];exact I.lt
 ·obtain⟨_,o,ho,_⟩:=I.ok.funs.mem h
  exact Du (CM ho) I.sz
theorem Inv.cell_lt(I:Inv X pins σ H s){x:Str}{c:Addr}(h:X.env.cells.lookup x=some c):c<s.heap.objs.size:=by
 obtain⟨v,q⟩:=I.cell x c h
 exact q.lt
theorem Inv.pin_lt(I:Inv X pins σ H s){p:Addr×Obj}(h:p∈X.pn++pins):p.1<s.heap.objs.size:=CM (I.pin p h).1
theorem xi(I:Inv X pins σ H s){sc:Scope}{own:List Str}{js:List Nat}{fp:List Addr}{C:Nat}(hk:sc.kind=.function)(hb:eY sc X.env.scope=true)
  (hfp:∀b∈fp,bO X pins H b) (hC:s.heap.objs.size<=C) (hlt:∀b∈fp,b<s.heap.objs.size):(cK X sc own js ⟨s,H,fp,C⟩).Ok where
 mod:=I.ok.mod
 kind:=hk
 glob:=I.ok.glob
 blt:=I.ok.blt
 above:=hC
 inj:=fun x y c h1 h2=>I.ok.inj x y c (eO I.ok hb h1) (eO I.ok hb h2)
 has:=fun x hx=>by
  have hx':(relabel sc X.env).names.lookup x=some .cell\/(relabel sc X.env).names.lookup x=some .free:=hx
  have go:∀k,(relabel sc X.env).names.lookup x=some k->(k=.cell\/k=.free)->∃c,(cV sc.names X.env.cells).lookup x=some c:=fun k h hkk=>by
   obtain⟨k',h1,h2⟩:=fP (sc:=sc) (env:=X.env) h
   have m:=j1 h1
   rcases h2 with h2 | ⟨h2,_⟩
   ·subst h2
    rcases hkk with e | e
    ·exact absurd e (ua hb m)
    ·rw[e]at m;exact jz m
   ·rw[h2]at m;exact jz m
  rcases hx' with h | h
  ·exact go _ h (.inl rfl)
  ·exact go _ h (.inr rfl)
 cab:=fun x c h _=>by cases h
 hd:=I.ok.hd
 frames:=I.ok.frames
 stk:=.inl rfl
 exf:=fun b hb'=>⟨Di (Du (hlt b hb') hC),fun x c e=>(hfp b hb').2.2.2.2.1 x c (eO I.ok hb e)⟩
 bs:=I.bs
 bsz:=Dv I.ok.bsz I.sz
 noex:=fun b o e hb'=>by
  rcases(hfp b hb').2.2.2.1 with z | z
  ·exact I.ok.noex b o e z
  ·exact absurd (Du (CM e) (Dv I.ok.bsz z)) (Nat.lt_irrefl _)
 exfs:=fun b hb' hm=>by
  rcases De.mp (I.stkSub b hm)with e | h
  ·exact(hfp b hb').2.1 e
  ·exact(hfp b hb').2.2.1 h
 funs:=I.stack
 frf:=I.stkFree
theorem jA{n:Nat}{js:List Nat}{i:Nat}{v:V}(h:(bT n js σ)[i]?=some (some v)):∃k j,i=n+k/\js[k]?=some j/\σ[j]?=some (some v):=by
 unfold bT at h
 by_cases hi:i<n
 ·rw[Dp (by simpa using hi),List.getElem?_replicate]at h
  split at h<;>cases h
 ·rw[Dn (by simpa using Nat.le_of_not_lt hi),List.length_replicate,CP]at h
  cases e:js[i-n]? with
  | none=>rw[e]at h;cases h
  | some j=>
   rw[e]at h
   refine⟨i-n,j,by omega,e,?_⟩
   have h':(σ[j]?).join=some v:=by simpa using h
   cases q:σ[j]? with
   | none=>rw[q]at h';cases h'
   | some o=>
    rw[q]at h'
    have:o=some v:=h'
    rw[this]
theorem AA(I:Inv X pins σ H s){sc:Scope}{own:List Str}{js:List Nat}{fp:List Addr}{C D:Nat}{h1:Heap}{tk:Nat}{o:Obj}{m:Str->Option Value}(hk:sc.kind=.function)(hb:eY sc X.env.scope=true)(hj:fE sc X.N js=true)
  (hfp:∀b∈fp,bO X pins H b) (hlt:∀b∈fp,b<s.heap.objs.size) (hD:D=s.heap.objs.size) (hC:C=s.heap.objs.size+1) (old:∀b o,s.heap.get? b=some o->h1.get? b=some o)
  (hDo:h1.get? D=some o) (hod:∀v,o.data≠.cell v) (hm:h1.Ns C m) :
  Inv (cK X sc own js ⟨s,H,fp,C⟩) [(D,o)] (bT own.length js σ) H { s with heap:=h1,toks:=tk } where
 ok:=xi I hk hb hfp (show @LE.le Nat _ s.heap.objs.size C by omega) hlt
 os:=rfl
 bare:=I.bare
 base:=Un.kept old
 loc:=by
  refine⟨m,hm,fun i x v e1 e2 e3=>?_⟩
  obtain⟨k,j,rfl,ej,es⟩:=jA e2
  have e1':(own++js.map fun j=>X.N.getD j "")[own.length+k]?=some x:=e1
  rw[Dn (by omega),Nat.add_sub_cancel_left,CP,ej]at e1'
  have ex:X.N.getD j "" = x:=by simpa using e1'
  have hjj:=Dy.mp hj j (CY ej)
  simp only[DA,decide_eq_true_eq,beq_iff_eq]at hjj
  have exN:X.N[j]?=some x:=by
   rw[←ex,List.getD_eq_getElem?_getD,CO hjj.1]
   rfl
  have hfree:sc.names.lookup x=some .free:=by rw[←ex];exact hjj.2
  have hmem:=j1 hfree
  have hout:=nA hb hmem rfl
  obtain⟨m0,hn0,hl0⟩:=I.loc
  obtain⟨u,r,l⟩:=hl0 j x v exN es (by rcases hout with z | z;exact .inr (.inl z);exact .inr (.inr z))
  refine⟨u,r,?_⟩
  obtain⟨c,hc⟩:=jz (cells:=X.env.cells) hmem
  have hc':=eO I.ok hb hc
  have hcell:s.heap.IsCell c (some u):=by
   rcases l with⟨z,_⟩ | ⟨_,c',e',q⟩
   ·have z':X.env.scope.names.lookup x=some .local:=z
    rcases hout with w | w<;>(rw[z']at w;cases w)
   ·rw[hc']at e';cases e';exact q
  have hcell1:h1.IsCell c (some u):=by
   obtain⟨oc,ho,hd⟩:=hcell
   exact⟨oc,old c oc ho,hd⟩
  right
  refine⟨?_,c,hc,hcell1⟩
  have e3':(relabel sc X.env).names.lookup x=some .local\/(relabel sc X.env).names.lookup x=some .cell\/(relabel sc X.env).names.lookup x=some .free:=e3
  rcases e3' with z | z
  ·obtain⟨k',z1,z2⟩:=fP (sc:=sc) (env:=X.env) z
   rw[hfree]at z1
   rcases z2 with z2 | ⟨_,z2⟩
   ·rw[z2]at z1;cases z1
   ·cases z2
  ·exact z
 cell:=fun x c e=>by
  obtain⟨v,oc,ho,hd⟩:=I.cell x c (eO I.ok hb e)
  exact⟨v,oc,old c oc ho,hd⟩
 free:=I.hok.fresh (show @LE.le Nat _ s.heap.objs.size C by omega)
 freeC:=fun x c e=>I.freeC x c (eO I.ok hb e)
 pin:=fun p hp=>by
  have e:p=(D,o):=by simpa[cK]using hp
  subst e
  refine⟨hDo,I.hok.fresh (show @LE.le Nat _ s.heap.objs.size D by omega),?_,fun z=>?_,hod⟩
  ·exact Di (show @LT.lt Nat _ D C by omega)
  ·have h9:@LT.lt Nat _ D s.heap.objs.size:=I.stk_lt (b:=D) z
   omega
 hok:=I.hok.kept old
 len:=by
  show(bT own.length js σ).length=(own++js.map fun j=>X.N.getD j "").length
  simp[bT]
def fD(J:It)(n:Nat)(js:List Nat)(g:TG)(tc:TT)(te:TE)(σ:St)(H:Hp)(Q:VK):Prop:=
 ∃W:Nat->Nat->List V->Hp->Prop,(∃m,W 0 m [] H)/\∀i m ys H',W i m ys H' →
  (J.stop i H'/\∀p,H' p=none->Q (.ref p) (upd H' p (.lst ys))) ∨
  (J.go i H'/\ys.length<sizeLine/\∃N:List V->Hp->Prop,(∀ys' H2,N ys' H2->∃m',m'<m/\W (i+1) m' ys' H2)/\∀x H2,J.yld i H' x H2->g x (bT n js σ) H2 fun σ2 H3=>tc σ2 H3 fun b H4=>
   if b=true then te σ2 H4 fun v H5=>N (ys++[v]) H5 else N ys H4)
def i5(n:Nat)(js:List Nat)(wi:TI)(g:TG)(tc:TT)(te:TE):TE:=fun σ H Q=>wi σ H fun J H1=>fD J n js g tc te σ H1 Q
structure TurnAt(X:Cx)(tg:Expr)(J:It)(fp:List Addr)(it:Addr)(tn:Nat->Heap->Prop):Prop where
 obj:∀i h,tn i h->∀b∈fp,∃o,h.get? b=some o/\∀v,o.data≠.cell v
 keep:∀i h h',tn i h->(∀b∈fp,∀o,h.get? b=some o->h'.get? b=some o)->tn i h'
 item:∀(i:Nat) (pins:List (Addr×Obj)) (s:Shared) (σ:St) (H:Hp) (E:Value->Shared->Prop),Inv X pins σ H s->(∀b∈fp,bO X pins H b)->tn i s.heap->J.go i H →
  wpAny (model X.prog X.w) X.A (pyNext (.ref it)) (fun r s1=>∃u,r=some u ∧
   wpAny (model X.prog X.w) X.A (letOwnedTupleGo tg (.ref it) u) (fun _ s2=>∃x H',Inv X pins σ H' s2/\RelV x u/\J.yld i H x H'/\tn (i+1) s2.heap/\∀b∈fp,H' b=none) E s1) E s
 done:∀(i:Nat) (pins:List (Addr×Obj)) (s:Shared) (σ:St) (H:Hp) (E:Value->Shared->Prop),Inv X pins σ H s->(∀b∈fp,bO X pins H b)->tn i s.heap->J.stop i H →
  wpAny (model X.prog X.w) X.A (pyNext (.ref it)) (fun r s1=>r=none/\Inv X pins σ H s1) E s
 self:∀(A:Around) (i:Nat) (s:Shared) (Q:Value->Shared->Prop) (E:Value->Shared->Prop),tn i s.heap->Q (.ref it) s->wpAny (model X.prog X.w) A (pyIter (.ref it)) Q E s
theorem Turn.at_{Y:Cx}{tg:Expr}{J:It}{fp:List Addr}{it:Addr}{tn:Nat->Heap->Prop}(T:Turn Y.prog Y.w Y.K tg J fp it tn)(hc:Y.calm=true):TurnAt Y tg J fp it tn:=⟨T.obj,T.keep,T.item Y rfl rfl rfl hc,T.done Y rfl rfl rfl hc,T.self⟩
theorem Bh{elt tg iter:Expr}{ifs:List Expr}{sc:Scope}{pos:Pos}{own:List Str}{js:List Nat}{g:TG}{tc:TT}{te:TE}{J:It}{it:Addr}{fp:List Addr}{tn:Nat->Heap->Prop}{RR:Value->Addr->Result->Shared->Prop}{E:Value->Shared->Prop}
  {Q:VK} {W:Nat->Nat->List V->Hp->Prop} (hk:sc.kind=.function) (hb:eY sc X.env.scope=true) (hj:fE sc X.N js=true)
  (hg:∀C,PG (cK X sc own js ⟨s,H,fp,C⟩) tg g) (ht:∀C,fg (cK X sc own js ⟨s,H,fp,C⟩) ifs tc) (he:∀C,PE (cK X sc own js ⟨s,H,fp,C⟩) elt te)
  (I:Inv X pins σ H s) (T:∀C,TurnAt (cK X sc own js ⟨s,H,fp,C⟩) tg J fp it tn) (st:tn 0 s.heap) (hfp:∀b∈fp,bO X pins H b) (w0:∃m,W 0 m [] H)
  (turn:∀i m ys H',W i m ys H'->(J.stop i H'/\∀p,H' p=none->Q (.ref p) (upd H' p (.lst ys))) ∨
   (J.go i H'/\ys.length<sizeLine/\∃N:List V->Hp->Prop,(∀ys' H2,N ys' H2->∃m',m'<m/\W (i+1) m' ys' H2)/\∀x H2,J.yld i H' x H2->g x (bT own.length js σ) H2 fun σ2 H3=>tc σ2 H3 fun b H4=>
    if b=true then te σ2 H4 fun v H5=>N (ys++[v]) H5 else N ys H4))
  (fin:∀D C s' ys H',H' D=none->Inv X pins σ (upd H' D (.lst ys)) s'->bO X pins (upd H' D (.lst ys)) C->(∃m,s'.heap.Ns C m)->s.heap.objs.size<=C->Q (.ref D) (upd H' D (.lst ys))->RR (.ref D) C (.ok .next) s') :
  wpAny (model X.prog X.w) X.A (newList []) (fun acc s₃=>wpAny (model X.prog X.w) X.A (newFunctionEnv sc X.env.globals (cV sc.names X.env.cells) [] X.env.qual none .none (some X.env)) (fun cenv s₄=>
   codeAny (model X.prog X.w) X.A (.compStart (.ListComp elt [⟨tg,iter,ifs,0⟩] sc pos) 0 (.ref it) acc { cenv with scope:=relabel sc X.env }) (RR acc cenv.locals) s₄) E s₃) E s:=by
 have hlt:∀b∈fp,b<s.heap.objs.size:=fun b hb'=>by
  obtain⟨o,e,_⟩:=(T 0).obj 0 s.heap st b hb'
  exact CM e
 refine wpAny_newObj_type (wpAny_newFunctionEnv (fun y hy=>ua hb hy) (by intro y hy;simp at hy) (fun h₁ hns₁ hsb₁=>?_) hk)
 dsimp only at hns₁ hsb₁ ⊢
 generalize hH2:s.heap.push { cls:=.type "list",dict:=none,data:=.seq ([]:List Value).toArray }=H2 at hns₁ hsb₁ ⊢
 have hCs:H2.objs.size=s.heap.objs.size+1:=by rw[←hH2,Heap.size_push]
 generalize hCe:H2.objs.size=C at *
 have below:∀b:Nat,b<s.heap.objs.size->b≠C:=fun b hb'=>by omega
 have old:∀b o,s.heap.get? b=some o->h₁.get? b=some o:=fun b o e=>hsb₁.extBut b o (below b (CM e)) (CK _ (hH2 ▸ CK _ e))
 have hDo:h₁.get? s.heap.objs.size=some (bS [] 0):=hsb₁.extBut _ _ (show @Ne Nat s.heap.objs.size C by omega) (CK _ (hH2 ▸ CL _ rfl))
 generalize hDe:s.heap.objs.size=D at *
 -- the loop's word
 let Y:Cx:=cK X sc own js ⟨s,H,fp,C⟩
 have J0:Inv Y [(D,bS [] 0)] (bT own.length js σ) H { s with heap:=h₁,toks:=s.toks+([]:List (Str×Value)).length }:=
  AA I hk hb hj hfp (by rw[hDe];exact hlt) hDe.symm (by rw[hDe];exact hCs) old hDo (fun v z=>by cases z) hns₁
 have ndC:@Ne Nat D C:=by omega
 have statF:∀{P':List (Addr×Obj)} {H':Hp},(∀b∈fp,H' b=none)->(∀p∈P',p.1∉fp)->∀b∈fp,bO Y P' H' b:=fun{P' H'} hn hp b hb'=>by
  obtain⟨f0,f1,f2,f3,f4,f5⟩:=hfp b hb'
  refine⟨hn b hb',fun z=>below b (hlt b hb') z,fun z=>?_,.inl hb',fun x c e=>f4 x c (eO I.ok hb e),fun p hp' z=>?_⟩
  ·rcases De.mp (I.stkSub b z)with e | h
   ·exact f1 e
   ·exact f2 h
  ·have:p∈P':=by simpa[Y,cK]using hp'
   exact hp p this (by rw[z];exact hb')
 have Dfp:D∉fp:=fun z=>by have h9:@LT.lt Nat _ D D:=hlt D z;omega
 have st1:tn 0 h₁:=(T 0).keep 0 s.heap h₁ st fun b _ o e=>old b o e
 have loop:∀s₃:Shared,s₃={ s with heap:=h₁,toks:=s.toks+([]:List (Str×Value)).length } →
   codeAny (model X.prog X.w) X.A (.compLoop (.ListComp elt [⟨tg,iter,ifs,0⟩] sc pos) 0 (.ref it) (.ref D) Y.env) (RR (.ref D) C) s₃:=by
  rintro s₃ rfl
  obtain⟨m0,w0⟩:=w0
  refine sS (fun n s'=>∃i ys its q H',Inv Y [(D,bS its q)] (bT own.length js σ) H' s'/\Vals ys its/\ys.length<=sizeLine/\tn i s'.heap/\(∀b∈fp,H' b=none)/\W i n ys H') ?_ m0
   ⟨0,[],[],0,H,J0,.nil,Nat.zero_le _,st1,fun b hb'=>(hfp b hb').1,w0⟩
  rintro n s3 ⟨i,ys,its,q,H3,I3,rv,hz,st3,fr3,w3⟩
  have pD:∀p∈[(D,bS its q)],p.1∉fp:=fun p hp=>by
   have e:p=(D,bS its q):=by simpa using hp
   rw[e];exact Dfp
  rcases turn i n ys H3 w3 with⟨stop,qn⟩ | ⟨go,hlen,N,hN,step⟩
  ·-- the end
   refine ax ((T C).done i _ s3 _ H3 _ I3 (statF fr3 pD) st3 stop) fun r s4 ⟨hr,I4⟩=>?_
   subst hr
   show RR (.ref D) C (.ok .next) s4
   have hDp:=I4.pin (D,bS its q) (DD _ (CZ.mpr rfl))
   have hD4:s4.heap.get? D=some (bS its q):=hDp.1
   have nD:H3 D=none:=hDp.2.1
   have U:Un (aS X.stack) fp H H3 s.heap s4.heap:=I4.base
   have neD:∀b o,s.heap.get? b=some o->b≠D:=fun b o e=>Di (by have h9:@LT.lt Nat _ b s.heap.objs.size:=CM e;omega)
   have neDH:∀b o,H b=some o->b≠D:=fun b o e=>Di (by have h9:@LT.lt Nat _ b s.heap.objs.size:=I.hok.lt e;omega)
   have U2:Un (aS X.stack) fp H (upd H3 D (.lst ys)) s.heap s4.heap:=
    ⟨U.keep,U.slot,fun b o e n hx=>by rw[aT (neD b o e)];exact U.free b o e n hx,U.there,fun b xs e=>by rw[aT (neDH b _ e)];exact U.tups b xs e,
     fun b o u e=>by rw[aT (neDH b _ e)];exact U.frzs b o u e,fun b ps e=>by rw[aT (neDH b _ e)];exact U.tbls b ps e⟩
   have hok2:bD X.prog X.w (upd H3 D (.lst ys)) s4.heap:=fun b o e=>by
    by_cases hb':b=D
    ·subst hb'
     rw[aY]at e
     cases e
     exact⟨hz,its,q,rv,hD4⟩
    ·rw[aT hb']at e
     exact(I4.hok b o e).stay (fun c u _ z=>z) (fun c z=>by rw[aT (dg z nD)];exact z) fun c xs z=>by rw[aT (dg z nD)];exact z
   have IX:Inv X pins σ (upd H3 D (.lst ys)) s4:=I.call' (ch:=fp) I4.os U2 hok2 I4.bare fun b hb'=>by
    obtain⟨f0,f1,f2,f3,f4,f5⟩:=hfp b hb'
    exact⟨f3,f1,f4,f5⟩
   obtain⟨m4,hn4,_⟩:=I4.loc
   have nC:H3 C=none:=I4.free
   refine fin D C s4 ys H3 nD IX ?_ ⟨m4,hn4⟩ (show @LE.le Nat _ D C by omega) (qn D nD)
   refine⟨by rw[aT (Ne.symm ndC)];exact nC,?_,?_,?_,?_,?_⟩
   ·have h9:@LT.lt Nat _ X.env.locals s.heap.objs.size:=I.lt
    exact Nat.ne_of_gt (show @LT.lt Nat _ X.env.locals C by omega)
   ·exact I.nofs (show @LE.le Nat _ s.heap.objs.size C by omega)
   ·right
    have h9:@LE.le Nat _ X.s₀.heap.objs.size s.heap.objs.size:=I.sz
    exact(show @LE.le Nat _ X.s₀.heap.objs.size C by omega)
   ·intro x c e
    have h9:@LT.lt Nat _ c s.heap.objs.size:=I.cell_lt e
    exact Di (show @LT.lt Nat _ c C by omega)
   ·intro p hp
    have h9:@LT.lt Nat _ p.1 s.heap.objs.size:=I.pin_lt hp
    exact Di (show @LT.lt Nat _ p.1 C by omega)
  ·-- a turn
   refine ax ((T C).item i _ s3 _ H3 _ I3 (statF fr3 pD) st3 go) fun r s4 ⟨u,hr,h4⟩=>?_
   subst hr
   refine ax h4 fun _ s5 ⟨x,H5,I5,r5,y5,st5,fr5⟩=>?_
   have I5':=I5.pinned (statF fr5 pD) ((T 0).obj _ _ st5)
   refine ax (hg _ _ s5 _ H5 x u _ I5' r5 (step x H5 y5)) fun _ s6 ⟨σ6,H6,I6,q6⟩=>?_
   refine ax (ht _ _ s6 σ6 H6 _ I6 q6) fun ok s7 ⟨H7,I7,q7⟩=>?_
   have back:∀{s':Shared} {σ':St} {H':Hp} {ys':List V} {its':List Value} {q':Nat},Inv Y ([(D,bS its' q')]++dC fp s5.heap) σ' H' s'->Vals ys' its'->ys'.length<=sizeLine->N ys' H' →
     ∃m,m<n/\∃i ys its q H',Inv Y [(D,bS its q)] (bT own.length js σ) H' s'/\Vals ys its/\ys.length<=sizeLine/\tn i s'.heap/\(∀b∈fp,H' b=none)/\W i m ys H':=by
    intro s' σ' H' ys' its' q' I' rv' hz' nn
    obtain⟨m',hm,w'⟩:=hN ys' H' nn
    have hpin:∀b∈fp,∀o,s5.heap.get? b=some o->s'.heap.get? b=some o/\H' b=none:=fun b hb' o e=>by
     have:=I'.pin (b,o) (DD _ (DD _ (jh hb' e)))
     exact⟨this.1,this.2.1⟩
    refine⟨m',hm,i+1,ys',its',q',H',?_,rv',hz',(T 0).keep _ _ _ st5 fun b hb' o e=>(hpin b hb' o e).1,fun b hb'=>?_,w'⟩
    ·have I'':=I'.unpinned
     obtain⟨mm,hmm,_⟩:=id I''.loc
     refine⟨I''.ok,I''.os,I''.bare,I''.base,⟨mm,hmm,fun k x v e1 e2 e3=>?_⟩,I''.cell,I''.free,I''.freeC,I''.pin,I''.hok,?_⟩
     ·-- the captured names: their cells are as they were at the block's beginning
      obtain⟨m1,hn1,hl1⟩:=J0.loc
      obtain⟨u1,r1,l1⟩:=hl1 k x v e1 e2 e3
      refine⟨u1,r1,?_⟩
      rcases l1 with⟨z,zz⟩ | ⟨z,c,e,zz⟩
      ·-- a captured name is no local one
       exfalso
       obtain⟨k',j,rfl,ej,es⟩:=jA e2
       have e1':(own++js.map fun j=>X.N.getD j "")[own.length+k']?=some x:=e1
       rw[Dn (by omega),Nat.add_sub_cancel_left,CP,ej]at e1'
       have ex:X.N.getD j "" = x:=by simpa using e1'
       have hjj:=Dy.mp hj j (CY ej)
       simp only[DA,decide_eq_true_eq,beq_iff_eq]at hjj
       have hfree:sc.names.lookup x=some .free:=by rw[←ex];exact hjj.2
       obtain⟨k2,z1,z2⟩:=fP (sc:=sc) (env:=X.env) (show(relabel sc X.env).names.lookup x=some .local from z)
       rw[hfree]at z1
       rcases z2 with z2 | ⟨_,z2⟩
       ·rw[z2]at z1;cases z1
       ·cases z2
      ·refine .inr ⟨z,c,e,?_⟩
       have hcs:X.env.cells.lookup x=some c:=eO I.ok hb e
       obtain⟨ov,oc,hoc,hdc⟩:=I.cell x c hcs
       have hoc1:=old c oc hoc
       obtain⟨oz,hoz,hdz⟩:=zz
       have hoz':h₁.get? c=some oz:=hoz
       rw[hoc1]at hoz'
       cases hoz'
       have cnf:c∉fp:=fun z'=>(hfp c z').2.2.2.2.1 x c hcs rfl
       obtain⟨sl,hh⟩:=I''.base.any hoc (I.freeC x c hcs) cnf
       exact⟨_,hh,hdz⟩
     ·show(bT own.length js σ).length=_
      exact J0.len
    ·obtain⟨o,e,d⟩:=(T 0).obj _ _ st5 b hb'
     exact(hpin b hb' o e).2
   cases ok with
   | false=>
    rw[DP Df]at q7 ⊢
    exact back I7 rv hz q7
   | true=>
    rw[DQ rfl]at q7 ⊢
    refine ax (he _ _ s7 σ6 H7 _ I7 q7) fun xv s8 ⟨v,H8,I8,r8,q8⟩=>?_
    have hDp:=I8.pin (D,bS its q) (DD _ (DE _ (CZ.mpr rfl)))
    have hD8:s8.heap.get? D=some { cls:=.type "list",data:=.seq its.toArray q }:=hDp.1
    have hl:=rv.length
    refine call_meets F.slot_list_append ⟨_,hD8,rfl⟩ F.entry_list_append (F.args_list_append_2 _ _) (PySem.list_append D its.toArray q xv (by rw[CT];omega)) ⟨hD8,?_⟩
    have qq:=PySem.IsL.update hD8 (fun a=>a.push xv)
    have eqs:its.toArray.push xv=(its++[xv]).toArray:=by simp
    rw[eqs]at qq
    obtain⟨q2,hq2⟩:∃q2,(s8.heap.update D (Obj.mapSeq fun a=>a.push xv)).get? D=some (bS (its++[xv]) q2):=⟨_,qq⟩
    -- without the pin of D,the record turns,then it is pinned again
    have I8a:Inv Y (dC fp s5.heap) σ6 H8 s8:=I8.pins_of fun p hp=>I8.pin p (DD _ (DD _ hp))
    have nD8:H8 D=none:=hDp.2.1
    have I9:Inv Y (dC fp s5.heap) σ6 H8 { s8 with heap:=s8.heap.update D (Obj.mapSeq fun a=>a.push xv),toks:=s8.toks }:=by
     refine I8a.turned (it:=D) (fun b o hb' e=>(Heap.get?_update_other s8.heap (Obj.mapSeq fun a=>a.push xv) (Ne.symm hb')).trans e) nD8 ndC (.inr (show @LE.le Nat _ s.heap.objs.size D by omega)) (fun x c e=>?_) fun p hp=>?_
     ·have h9:@LT.lt Nat _ c s.heap.objs.size:=I.cell_lt (eO I.ok hb e)
      exact Di (show @LT.lt Nat _ c D by omega)
     ·have hp':p∈dC fp s5.heap:=by simpa[Y,cK]using hp
      obtain⟨h1,_⟩:=kH hp'
      exact fun z=>Dfp (z ▸ h1)
    refine back (ys':=ys++[v]) (its':=its++[xv]) (q':=q2) (I9.pins_of fun p hp=>?_) (rv.append (.cons r8 .nil)) (by rw[Dh,List.length_singleton];omega) q8
    rcases Dm.mp hp with hp | hp
    ·have e:p=(D,bS (its++[xv]) q2):=by simpa using hp
     subst e
     refine⟨hq2,nD8,ndC,fun z=>?_,fun v z=>by cases z⟩
     have h9:@LT.lt Nat _ D s.heap.objs.size:=I.stk_lt (b:=D) z
     omega
    ·exact I9.pin p (DD _ hp)
 exact codeAny_compStart_list (loop _ rfl) ((T 0).self X.A 0 { s with heap:=h₁,toks:=s.toks+([]:List (Str×Value)).length } _ _ st1 (loop _ rfl))
end
theorem gm{K:CJ}{a:Addr}{xs:List V}{n:Nat}{js:List Nat}{g:TG}{tc:TT}{te:TE}{Q:VK}{σ:St}{H:Hp}(Pv:Nat->List V->Hp->Prop)(hz:xs.length<=sizeLine)(h0:Pv 0 [] H)(hl:∀i ys H,i<=xs.length->Pv i ys H->ai K H a xs/\ys.length<=i)
  (hs:∀i x ys H,xs[i]?=some x->Pv i ys H->g x (bT n js σ) H fun σ2 H3=>tc σ2 H3 fun b H4=>if b=true then te σ2 H4 fun v H5=>Pv (i+1) (ys++[v]) H5 else Pv (i+1) ys H4)
  (hd:∀ys H p,Pv xs.length ys H->H p=none->Q (.ref p) (upd H p (.lst ys))):fD (cS K a) n js g tc te σ H Q:=by
 refine⟨fun i m ys H=>m=xs.length-i/\i<=xs.length/\Pv i ys H,⟨xs.length,by simp,Nat.zero_le _,h0⟩,?_⟩
 rintro i m ys H ⟨rfl,hi,p⟩
 have q:=hl i ys H hi p
 by_cases hlt:i<xs.length
 ·refine .inr ⟨⟨xs,xs[i],q.1,by simp[hlt]⟩,by have:=q.2;omega,Pv (i+1),fun ys' H' p'=>⟨xs.length-(i+1),by omega,rfl,hlt,p'⟩,fun x H' y=>?_⟩
  obtain⟨e,y⟩:=y
  subst e
  exact hs i x ys _ (y xs q.1) p
 ·have e:i=xs.length:=by omega
  subst e
  exact .inl ⟨⟨xs,q.1,Dj _⟩,fun p' hp=>hd ys H p' p hp⟩
theorem eW{K:CJ}{a:Addr}{xs:List V}{n:Nat}{js:List Nat}{g:TG}{tc:TT}{te:TE}{Q:VK}{σ:St}{H:Hp}(Pv:Nat->List V->Hp->Prop)(hz:xs.length<=sizeLine)(h0:Pv 0 [] H)(hl:∀i ys H,i<=xs.length->Pv i ys H->aj K H a xs/\ys.length<=i)
  (hs:∀i x ys H,xs[i]?=some x->Pv i ys H->g x (bT n js σ) H fun σ2 H3=>tc σ2 H3 fun b H4=>if b=true then te σ2 H4 fun v H5=>Pv (i+1) (ys++[v]) H5 else Pv (i+1) ys H4)
  (hd:∀ys H p,Pv xs.length ys H->H p=none->Q (.ref p) (upd H p (.lst ys))):fD (cF K a) n js g tc te σ H Q:=by
 refine⟨fun i m ys H=>m=xs.length-i/\i<=xs.length/\Pv i ys H,⟨xs.length,by simp,Nat.zero_le _,h0⟩,?_⟩
 rintro i m ys H ⟨rfl,hi,p⟩
 have q:=hl i ys H hi p
 by_cases hlt:i<xs.length
 ·refine .inr ⟨⟨xs,xs[i],q.1,by simp[hlt]⟩,by have:=q.2;omega,Pv (i+1),fun ys' H' p'=>⟨xs.length-(i+1),by omega,rfl,hlt,p'⟩,fun x H' y=>?_⟩
  obtain⟨e,y⟩:=y
  subst e
  exact hs i x ys _ (y xs q.1) p
 ·have e:i=xs.length:=by omega
  subst e
  exact .inl ⟨⟨xs,q.1,Dj _⟩,fun p' hp=>hd ys H p' p hp⟩
theorem qU{lo:Int}{N n:Nat}{js:List Nat}{g:TG}{tc:TT}{te:TE}{Q:VK}{σ:St}{H:Hp}(Pv:Nat->List V->Hp->Prop)(hz:N<=sizeLine)(h0:Pv 0 [] H)(hl:∀i ys H,i<=N->Pv i ys H->ys.length<=i)
  (hs:∀i ys H,i<N->Pv i ys H->g (.int (lo+i)) (bT n js σ) H fun σ2 H3=>tc σ2 H3 fun b H4=>if b=true then te σ2 H4 fun v H5=>Pv (i+1) (ys++[v]) H5 else Pv (i+1) ys H4)
  (hd:∀ys H p,Pv N ys H->H p=none->Q (.ref p) (upd H p (.lst ys))):fD (ec lo N) n js g tc te σ H Q:=by
 refine⟨fun i m ys H=>m=N-i/\i<=N/\Pv i ys H,⟨N,by simp,Nat.zero_le _,h0⟩,?_⟩
 rintro i m ys H ⟨rfl,hi,p⟩
 have q:=hl i ys H hi p
 by_cases hlt:i<N
 ·refine .inr ⟨hlt,by omega,Pv (i+1),fun ys' H' p'=>⟨N-(i+1),by omega,rfl,hlt,p'⟩,fun x H' y=>?_⟩
  obtain⟨e,y⟩:=y
  subst e y
  exact hs i ys _ hlt p
 ·have e:i=N:=by omega
  subst e
  exact .inl ⟨Dj _,fun p' hp=>hd ys H p' p hp⟩
end L2
namespace L2
open PySem PySem.Spec PyProof.Rows
structure Cal(P:Program)(w:World)(K:CJ)(mg:Str->Option Value)(base:Heap)(x:Str)(k:Nat)(ps:List Str)(sp:Sp):Prop where
 ex:∃(f:Addr) (fd:FuncData),mg x=some (.ref f)/\PySem.W.keepIn K (.ref f)=true/\Binds K fd ps []/\FnOk P w K mg base eu k f fd ps sp
structure Dfn(K:CJ)(mg:Str->Option Value)(x:Str)(st:Stmt)(ps:List Str):Prop where
 ex:∃(f:Addr) (fd:FuncData),mg x=some (.ref f)/\Fun K x x st f fd/\Binds K fd ps []
section
variable {P:Program} {w:World} {K:CJ} {mg:Str->Option Value} {base:Heap}
theorem Dfn.ok{x:Str}{st:Stmt}{N ps:List Str}{k:Nat}{sp:Sp}(D:Dfn K mg x st ps)(S:FnScope N ps (aE st))(len:∀vs H Q E,sp vs H Q E->vs.length=ps.length)
  (hbody:∀(X:Cx) (hX:∃f cdv A outer s H E,X=(bI eu P w K mg base N x (aE st) f cdv A outer s H E).nox/\Room k X.A) (H:Hp) (vs:List V) (Q:VK) (E:XK),sp vs H Q E →
   ∃t,cx X (dO st) t/\t { nx:=fun _ H'=>Q .non H',rt:=Q } (start N vs) H):Cal P w K mg base x (k+1) ps sp:=by
 obtain⟨f,fd,hm,F,hb⟩:=D.ex
 exact⟨f,fd,hm,F.kp,hb,F.ok S len fun cdv A outer s H vs Q E hr h=>hbody _ ⟨f,cdv,A,outer,s,H,E,rfl,hr⟩ H vs Q E h⟩
end
section
variable {X:Cx}
theorem ay{x:Str}{k j:Nat}{ps:List Str}{sp:Sp}{e:Expr}{es:List Expr}{t:TA}{p pos:Pos}(C:Cal X.prog X.w X.K X.mg X.base x j ps sp)(hr:Room k X.A)(ha:PA X (e::es) t)(hjk:j<=k:=by decide)(hg:Gl X x:=by rfl)(hdb:(x == ("__debug__":Str))=false:=by decide)
  (he:starEach (e::es) X.env=(false,eval e X.env)::starEach es X.env:=by rfl) (hpl:(backTo pos (starEach es X.env)).any (·.1)=false:=by rfl) :
  PE X (.Call (.Name x p) (e::es) [] pos) (jR sp [] E0 t):=by
 obtain⟨f,fd,hm,hk,hb,F⟩:=C.ex
 exact ur F (hr.mono hjk) hg hm hk hb .nil y8 ha hdb he hpl
theorem fC:bo X (binaryOp .FloorDiv) (rI (fun _ j=>0<j/\j<2 ^ 64) fun i j=>.int (i / j)):=jD fun i j _ _ _ _ _ hc q=>by
 have h1:(0:Int)<j:=hc.1
 have h2:j<2 ^ 64:=hc.2
 refine floordiv_int (by omega) (by rw[Int.fdiv_eq_ediv_of_nonneg i (by omega)];exact q) (.inl (PyProof.noPylong_of_log2 ?_))
 have h0:j.natAbs≠0:=by omega
 have h64:j.natAbs<2 ^ 64:=by omega
 have:=(Nat.log2_lt h0).mpr h64
 omega
def bJ(H:Hp):V->String->Prop
 | .non,n=>n = "NoneType"
 | .bl _,n=>n = "bool"
 | .int _,n=>n = "int"
 | .str _,n=>n = "str"
 | .ref a,n=>(n = "list"/\∃xs,H a=some (.lst xs))\/(n = "tuple"/\∃xs,H a=some (.tup xs))
 | _,_=>False
theorem bJ.ty{K:CJ}{H:Hp}{x:V}{n:String}(h:bJ H x n):TyOf K H x (.type n):=by
 cases x with
 | non=>cases(show n = "NoneType" from h);exact .non
 | bl b=>cases(show n = "bool" from h);exact .bl b
 | int i=>cases(show n = "int" from h);exact .int i
 | str z=>cases(show n = "str" from h);exact .str z
 | ref a=>
  rcases h with⟨rfl,xs,e⟩ | ⟨rfl,xs,e⟩
  ·exact .lst e
  ·exact .tup e
 | _=>exact False.elim h
def fJ(a b c d e:Bool):String->Option Bool
 | "tuple"=>some a | "int"=>some b | "bool"=>some c | "list"=>some d | "str"=>some e | _=>none
def eE:String->String->Option Bool
 | "NoneType"=>fJ false false false false false
 | "bool"=>fJ false true true false false
 | "int"=>fJ false true false false false
 | "str"=>fJ false false false false true
 | "list"=>fJ false false false true false
 | "tuple"=>fJ true false false false false
 | _=>fun _=>none
theorem Cn{K:CJ}{n T:String}{b:Bool}(h:eE n T=some b):PySem.W.kitOne K (.type n) (.type T)=some b:=by
 unfold eE at h
 split at h<;>first
  | (unfold fJ at h;split at h<;>first | (cases h;kernel_rfl) | cases h)
  | cases h
def oN:List V->Hp->VK->Prop:=fun xs H Q=>∃x n T b,xs=[x,.ty T]/\bJ H x n/\eE n T=some b/\Q (.bl b) H
theorem cq:bH X (.builtin "isinstance") oN:=by
 intro pins s σ H xs us Q I r h
 obtain⟨x,n,T,b,rfl,hk,hb,q⟩:=h
 obtain⟨u,w',rfl,r1,r2⟩:=vals2 r
 cases(show w'=Value.type T from r2)
 exact yU I r1 hk.ty (Cn hb) fun tk=>⟨.bl b,H,I.tok tk,rfl,q⟩
def mf(i j c:Int):Prop:=(-(2 ^ 40)<=i/\i<2 ^ 40)/\(-(2 ^ 40)<=j/\j<2 ^ 40)/\(-(2 ^ 29)<c/\c<2 ^ 29)/\c≠0
def cP(i j c:Int):Nat:=if 0<c then(if i<j then((j-i-1) / c+1).toNat else 0)else(if j<i then((i-j-1) / (-c)+1).toNat else 0)
theorem wR(i j c:Int)(hc:c≠0):Builtin.Range.rangeSize i j c=(cP i j c:Nat):=by
 unfold Builtin.Range.rangeSize cP
 by_cases h:0<c
 ·rw[DQ h,DQ h]
  by_cases h2:i<j
  ·rw[DQ h2,DQ h2]
   have:0<=(j-i-1) / c:=Int.ediv_nonneg (by omega) (by omega)
   omega
  ·rw[DP h2,DP h2];rfl
 ·rw[DP h,DP h]
  by_cases h2:j<i
  ·rw[DQ (show i>j from h2),DQ h2]
   have:0<=(i-j-1) / (-c):=Int.ediv_nonneg (by omega) (by omega)
   omega
  ·rw[DP (show ¬i>j from h2),DP h2];rfl
theorem Ao{i j c:Int}(h:mf i j c):Builtin.Range.small i j c=true:=by
 obtain⟨⟨h1,h2⟩,⟨h3,h4⟩,⟨h5,h6⟩,h0⟩:=h
 have hb:Builtin.Range.rangeSize i j c<=2 ^ 42/\0<=Builtin.Range.rangeSize i j c:=by
  unfold Builtin.Range.rangeSize
  by_cases hc:c>0
  ·rw[DQ hc]
   by_cases h':i<j
   ·rw[DQ h']
    have e1:(j-i-1) / c<=j-i-1:=Int.ediv_le_self _ (by omega)
    have e2:0<=(j-i-1) / c:=Int.ediv_nonneg (by omega) (by omega)
    omega
   ·rw[DP h'];omega
  ·rw[DP hc]
   by_cases h':i>j
   ·rw[DQ h']
    have e1:(i-j-1) / (-c)<=i-j-1:=Int.ediv_le_self _ (by omega)
    have e2:0<=(i-j-1) / (-c):=Int.ediv_nonneg (by omega) (by omega)
    omega
   ·rw[DP h'];omega
 unfold Builtin.Range.small
 generalize Builtin.Range.rangeSize i j c=z at hb ⊢
 have f:∀x:Int,-(2 ^ 62)<=x->x<2 ^ 62->Builtin.Range.rangeFitsLong x=true:=fun x h1 h2=>by
  unfold Builtin.Range.rangeFitsLong
  rw[DO (show -(2 ^ 63)<=x by omega),DO (show x<2 ^ 63 by omega)]
  rfl
 rw[f i (by omega) (by omega),f j (by omega) (by omega),f c (by omega) (by omega),f z (by omega) (by omega)]
 by_cases hc:c>0
 ·rw[DQ hc,f (j+(c-1)) (by omega) (by omega),Bool.or_true];rfl
 ·rw[DP hc,f (j+(c+1)) (by omega) (by omega),Bool.or_true];rfl
def j6(K:CJ):List V->Hp->VK->Prop:=fun xs H Q=>∃p ys,xs=[.ref p]/\(ai K H p ys\/aj K H p ys)/\Q (.int ys.length) H
theorem y9:bH X (.builtin "len") (j6 X.K):=xD
def mW(K:CJ):List V->Hp->VK->Prop:=fun xs H Q=>∃p ys,xs=[.ref p]/\((ai K H p ys/\∀l,H l=none->Q (.ref l) (upd H l (.tup ys)))\/(aj K H p ys/\Q (.ref p) H))
theorem BC:bH X (.type "tuple") (mW X.K):=yr
def m9(K:CJ):List V->Hp->VK->Prop:=fun xs H Q=>∃p ys,xs=[.ref p]/\(ai K H p ys\/aj K H p ys)/\∀l,H l=none->Q (.ref l) (upd H l (.lst ys))
theorem Ah:bH X (.type "list") (m9 X.K):=AN
def q9:List V->Hp->VK->Prop:=fun xs H Q=>(∃i,xs=[.int i]/\Q (.int i) H)\/∃k,xs=[.bl k]/\Q (.int (if k then 1 else 0)) H
theorem ud:bH X (.type "int") q9:=y7
def qX:List V->Hp->VK->Prop:=fun xs H Q=>∃i j,xs=[.int i,.int j]/\Q (.int (if j>i then j else i)) H
theorem zX(hc:X.calm=true):bH X (.builtin "max") qX:=yw hc
def sd:List V->Hp->VK->Prop:=fun xs H Q=>∃i j,xs=[.int i,.int j]/\Q (.int (if j<i then j else i)) H
theorem mz(hc:X.calm=true):bH X (.builtin "min") sd:=Bs hc
end
end L2
namespace L2
open PySem PySem.Spec PyProof.Rows
def Ext(H H':Hp):Prop:=∀b o,H b=some o->H' b=some o
theorem Ext.rfl'(H:Hp):Ext H H:=fun _ _ h=>h
theorem Ext.trans{H H1 H2:Hp}(a:Ext H H1)(b:Ext H1 H2):Ext H H2:=fun x o h=>b x o (a x o h)
theorem Ext.none{H H':Hp}(e:Ext H H'){l:Addr}(h:H' l=Option.none):H l=Option.none:=by
 cases q:H l with
 | none=>rfl
 | some o=>rw[e l o q]at h;cases h
section
variable {X:Cx} (K:CJ)
theorem aL(h:X.K=K:=by rfl):gg X (jt K):=by subst h;exact zy
theorem aO(h:X.K=K:=by rfl):gg X (lu K):=by subst h;exact zH
theorem iA(h:X.K=K:=by rfl):iP X (lI K):=by subst h;exact Ai
theorem zq(h:X.K=K:=by rfl):bo X (compareOp .NotIn) (tG K true):=by subst h;exact A7
theorem cu(h:X.K=K:=by rfl):bH X (.builtin "len") (j6 K):=by subst h;exact y9
theorem fw(h:X.K=K:=by rfl):bH X (.type "tuple") (mW K):=by subst h;exact BC
theorem AE(h:X.K=K:=by rfl):bH X (.type "list") (m9 K):=by subst h;exact Ah
theorem ef{tg l:Expr}{tl:TE}(hl:PE X l tl)(h:X.K=K:=by rfl):PI X tg l (jK K tl):=by subst h;exact wQ hl
theorem dM{tg l:Expr}{tl:TE}(hl:PE X l tl)(h:X.K=K:=by rfl):PI X tg l (lr K tl):=by subst h;exact yS hl
theorem iN{es:List Expr}{k:Nat}{t:cL}{n:Nat}{pos:Pos}(hc:X.calm=true)(hg:fh X es t)(h:X.K=K:=by rfl)
  (hn:(assignEach es X.env).length=n:=by rfl) (hst:(assignEach es X.env).findIdx? (·.1)=none:=by rfl):PG X (.Tuple es k pos) (ji K n t):=by subst h;exact yT hc hg hn hst
theorem bx{o e:Expr}{es:List Expr}{to:TE}{t:TA}{name:Str}{apos cpos:Pos}{T id:String}{r:V->List V->Hp->VK->Prop}(pa:PlainAttrs T)(slot:Slot T name id)(hty:typeOf (.builtin id)=pure (.type "method_descriptor"))(hm:gE X id r)(ho:PE X o to)(ha:PA X (e::es) t)(h:X.K=K:=by rfl)
  (hbase:attributeBase o name X.env (eval o X.env)=eval o X.env:=by rfl)
  (hfew:((backTo cpos (starEach (e::es) X.env)).all (fun x=>!x.1) && (backToKw cpos (keywordEach [] X.env)).all (fun x=>x.1.isSome)
   && decide ((e::es).length+([]:List Keyword).length+(if([]:List Keyword).isEmpty then 0 else 1)<30))=true:=by rfl)
  (hline:(apos.endLine == cpos.line)=true:=by rfl) (hs:starEach (e::es) X.env=(false,eval e X.env)::starEach es X.env:=by rfl) (hplain:(backTo cpos (starEach es X.env)).any (·.1)=false:=by rfl) :
  PE X (.Call (.Attribute o name apos) (e::es) [] cpos) (mI K T r to t):=by subst h;exact vz pa slot hty hm ho ha hbase hfew hline hs hplain
end
def sL(ns:List Int):TA:=fun _ H Q=>Q (ns.map V.int) H
inductive IntsE:List Expr->List Int->Prop
 | n:IntsE [] []
 | c {i j pos es ns}:IntsE es ns->IntsE (.Constant (.int i) j pos::es) (i::ns)
theorem gQ{X:Cx}{es:List Expr}{ns:List Int}(h:IntsE es ns):PA X es (sL ns):=by
 induction h with
 | n=>exact ae
 | @c i j pos es ns _ ih=>
  intro p pins s σ H Q I hq
  exact aa (e:=.Constant (.int i) j pos) af ih rfl p pins s σ H Q I hq
theorem rd_ints{σ:St}{H:Hp}{ns:List Int}{R:List V->Hp->Prop}(h:R (ns.map V.int) H):sL ns σ H R:=h
def kT(c:TT)(t u:TS):TS:=fun D σ H=>∃R:St->Hp->Prop,(c σ H fun b H1=>if b=true then t { D with nx:=R } σ H1 else u { D with nx:=R } σ H1)/\∀σ' H',R σ' H'->D.nx σ' H'
theorem eI{X:Cx}{c:Expr}{a b:List Stmt}{tc:TT}{t u:TS}{pos:Pos}(hc:PT X c tc)(ha:cx X a t)(hb:cx X b u):PS X (.If c a b pos) (kT tc t u):=by
 intro pins s σ H D I h
 obtain⟨R,h,hR⟩:=h
 refine ax (aU hc ha hb pins s σ H { D with nx:=R } I h) fun f s1 q=>?_
 cases f with
 | next=>
  obtain⟨σ',H',I',q⟩:=q
  exact⟨σ',H',I',hR σ' H' q⟩
 | ret v=>exact q
 | brk=>exact q
 | cont=>exact q
def rj(K:CJ):V->Hp->(It->Hp->Prop)->Prop:=fun x H R=>∃a,x=.ref a/\(∃xs,ai K H a xs)/\R (cS K a) H
def pR(K:CJ):V->Hp->(It->Hp->Prop)->Prop:=fun x H R=>∃a,x=.ref a/\(∃xs,aj K H a xs)/\R (cF K a) H
def qH:List V->Hp->(It->Hp->Prop)->Prop:=fun vs H R=>∃j:Int,vs=[.int j]/\-(2 ^ 62)<=j/\j<2 ^ 62/\R (ec 0 j.toNat) H
def iZ(J:It)(g:TG)(tb:TS)(D:Ends)(σ:St)(H:Hp):Prop:=∃W:Nat->Nat->St->Hp->Prop,(∃m,W 0 m σ H)/\∀i m σ H,W i m σ H →
 (J.stop i H/\D.nx σ H)\/(J.go i H/\∃N:St->Hp->Prop,(∀σ' H',N σ' H'->∃m',m'<m/\W (i+1) m' σ' H')/\∀x H',J.yld i H x H'->g x σ H' fun σ2 H2=>tb { D with nx:=N,ct:=N,bk:=D.nx } σ2 H2)
theorem forL{K:CJ}{a:Addr}{xs:List V}{g:TG}{tb:TS}{D:Ends}{σ:St}{H:Hp}(Pv:Nat->St->Hp->Prop)(h0:Pv 0 σ H)(hl:∀i σ H,i<=xs.length->Pv i σ H->ai K H a xs)
  (hs:∀i x σ H,xs[i]?=some x->Pv i σ H->g x σ H fun σ2 H2=>tb ⟨Pv (i+1),D.rt,D.nx,Pv (i+1)⟩ σ2 H2) (hd:∀σ H,Pv xs.length σ H->D.nx σ H):iZ (cS K a) g tb D σ H:=xM Pv h0 hl hs hd
theorem nX{K:CJ}{a:Addr}{xs:List V}{g:TG}{tb:TS}{D:Ends}{σ:St}{H:Hp}(Pv:Nat->St->Hp->Prop)(h0:Pv 0 σ H)(hl:∀i σ H,i<=xs.length->Pv i σ H->aj K H a xs)
  (hs:∀i x σ H,xs[i]?=some x->Pv i σ H->g x σ H fun σ2 H2=>tb ⟨Pv (i+1),D.rt,D.nx,Pv (i+1)⟩ σ2 H2) (hd:∀σ H,Pv xs.length σ H->D.nx σ H):iZ (cF K a) g tb D σ H:=x9 Pv h0 hl hs hd
theorem forR{lo:Int}{n:Nat}{g:TG}{tb:TS}{D:Ends}{σ:St}{H:Hp}(Pv:Nat->St->Hp->Prop)(h0:Pv 0 σ H)
  (hs:∀i σ H,i<n->Pv i σ H->g (.int (lo+i)) σ H fun σ2 H2=>tb ⟨Pv (i+1),D.rt,D.nx,Pv (i+1)⟩ σ2 H2) (hd:∀σ H,Pv n σ H->D.nx σ H):iZ (ec lo n) g tb D σ H:=wH Pv h0 hs hd
def cY(H:Hp)(o:HO)(R:VK):Prop:=∀p,H p=none->R (.ref p) (upd H p o)
section
variable {K:CJ} {D:Ends} {σ:St} {H:Hp} {Q:VK} {ta tb tc te:TE} {t u:TS} {c c':TT}
theorem rd_seq(h:t ⟨u D,D.rt,D.bk,D.ct⟩ σ H):pS t u D σ H:=h
theorem rd_next(h:D.nx σ H):rQ D σ H:=h
theorem rd_ret(h:te σ H D.rt):o4 te D σ H:=h
theorem rd_asg{g:TG}(h:te σ H fun x H1=>g x σ H1 D.nx):j2 te g D σ H:=h
theorem rd_drop(h:te σ H fun _ H1=>D.nx σ H1):pw te D σ H:=h
theorem rd_ifS(h:c σ H fun b H1=>if b=true then t D σ H1 else u D σ H1):pE c t u D σ H:=h
theorem fH(R:St->Hp->Prop)(h:c σ H fun b H1=>if b=true then t ⟨R,D.rt,D.bk,D.ct⟩ σ H1 else u ⟨R,D.rt,D.bk,D.ct⟩ σ H1)(k:∀σ' H',R σ' H'->D.nx σ' H'):kT c t u D σ H:=⟨R,h,k⟩
theorem qw(h:c σ H fun b H1=>if b=true then t D σ H1 else u D σ H1):kT c t u D σ H:=⟨D.nx,h,fun _ _ h=>h⟩
theorem rd_name{i:Nat}{v:V}{R:St->Hp->Prop}(h:R (σ.set i (some v)) H):iG i v σ H R:=h
theorem rd_var{i:Nat}{v:V}(e:σ[i]?=some (some v))(h:Q v H):mR i σ H Q:=⟨v,e,h⟩
theorem rd_c{v:V}(h:Q v H):tC v σ H Q:=h
theorem rd_op{r:R2}(h:ta σ H fun x H1=>tb σ H1 fun y H2=>r x y H2 Q):h8 r ta tb σ H Q:=h
theorem rd_un{r:V->Hp->VK->Prop}(h:ta σ H fun x H1=>r x H1 Q):pf r ta σ H Q:=h
theorem rd_CB{r:List V->Hp->VK->Prop}{a:TA}(h:a σ H fun vs H1=>r vs H1 Q):kz r a σ H Q:=h
theorem rd_cons{a:TA}{R:List V->Hp->Prop}(h:ta σ H fun x H1=>a σ H1 fun xs H2=>R (x::xs) H2):iW ta a σ H R:=h
theorem rd_nil{R:List V->Hp->Prop}(h:R [] H):lh σ H R:=h
theorem rd_test{R:Bool->Hp->Prop}(h:te σ H fun x H'=>∃k,x=.bl k/\R k H'):oU te σ H R:=h
theorem rd_B{R:Bool->Hp->Prop}(h:te σ H fun x H'=>∃k,x=.bl k/\R k H'):tB te σ H R:=h
theorem rd_exb{b:Bool}{R:Bool->Prop}(h:R b):∃k,V.bl b=V.bl k/\R k:=⟨b,rfl,h⟩
theorem rd_not{R:Bool->Hp->Prop}(h:c σ H fun b H1=>R (!b) H1):pj c σ H R:=h
theorem rd_or{R:Bool->Hp->Prop}(h:c σ H fun b H1=>if b=true then R true H1 else c' σ H1 R):oB c c' σ H R:=h
theorem rd_andV(h:ta σ H fun x H1=>∃k,x=.bl k/\if k=true then tb σ H1 Q else Q (.bl false) H1):rE ta tb σ H Q:=h
theorem rd_orV(h:ta σ H fun x H1=>∃k,x=.bl k/\if k=true then Q (.bl true) H1 else tb σ H1 Q):ot ta tb σ H Q:=h
theorem rd_notV(h:ta σ H fun x H1=>∃k,x=.bl k/\Q (.bl (!k)) H1):qp ta σ H Q:=h
theorem rd_yes{R:Bool->Hp->Prop}(h:R true H):uW σ H R:=h
theorem rd_I0{g:Int->Int->V}{i j:Int}(h:Q (g i j) H):er g (.int i) (.int j) H Q:=⟨i,j,rfl,rfl,h⟩
theorem rd_I{C:Int->Int->Prop}{g:Int->Int->V}{i j:Int}(hc:C i j)(h:Q (g i j) H):rI C g (.int i) (.int j) H Q:=⟨i,j,rfl,rfl,hc,h⟩
theorem rd_U{g:Int->V}{i:Int}(h:Q (g i) H):rU g (.int i) H Q:=⟨i,rfl,h⟩
theorem rd_EqI{i j:Int}(h:Q (.bl (decide (i=j))) H):i6 (.int i) (.int j) H Q:=⟨rfl,by
 have e:decide (V.int i=V.int j)=decide (i=j):=by rw[Dz];simp
 rw[e];exact h⟩
theorem rd_NeI{i j:Int}(h:Q (.bl (!decide (i=j))) H):kX (.int i) (.int j) H Q:=⟨rfl,by
 have e:decide (V.int i=V.int j)=decide (i=j):=by rw[Dz];simp
 rw[e];exact h⟩
theorem rd_EqB{i j:Bool}(h:Q (.bl (i == j)) H):i6 (.bl i) (.bl j) H Q:=⟨rfl,by rw[nL];exact h⟩
theorem aK{p:Addr}{xs:List V}{i:Int}{v:V}(e:ai K H p xs)(a:bQ xs i=some v)(h:Q v H):jt K (.ref p) (.int i) H Q:=⟨p,xs,i,v,rfl,rfl,e,a,h⟩
theorem aM{p:Addr}{xs:List V}{i:Int}{v:V}(e:aj K H p xs)(a:bQ xs i=some v)(h:Q v H):lu K (.ref p) (.int i) H Q:=⟨p,xs,i,v,rfl,rfl,e,a,h⟩
theorem gN{p:Addr}{xs:List V}(e:ai K H p xs)(h:Q (.int xs.length) H):j6 K [.ref p] H Q:=⟨p,xs,rfl,.inl e,h⟩
theorem dn{p:Addr}{xs:List V}(e:aj K H p xs)(h:Q (.int xs.length) H):j6 K [.ref p] H Q:=⟨p,xs,rfl,.inr e,h⟩
theorem fK{p:Addr}{xs:List V}(e:ai K H p xs)(h:cY H (.tup xs) Q):mW K [.ref p] H Q:=⟨p,xs,rfl,.inl ⟨e,h⟩⟩
theorem bW{x:V}{n T:String}{b:Bool}(hk:bJ H x n)(hb:eE n T=some b)(h:Q (.bl b) H):oN [x,.ty T] H Q:=⟨x,n,T,b,rfl,hk,hb,h⟩
theorem rd_intB{k:Bool}(h:Q (.int (if k then 1 else 0)) H):q9 [.bl k] H Q:=.inr ⟨k,rfl,h⟩
theorem rd_max2{i j:Int}(h:Q (.int (if j>i then j else i)) H):qX [.int i,.int j] H Q:=⟨i,j,rfl,h⟩
theorem rd_min2{i j:Int}(h:Q (.int (if j<i then j else i)) H):sd [.int i,.int j] H Q:=⟨i,j,rfl,h⟩
theorem rd_call{sp:Sp}{a:TA}{E:XK}(h:a σ H fun vs H1=>sp (vs++[]) H1 Q E):jR sp [] E a σ H Q:=h
theorem rd_BM{T:String}{r:V->List V->Hp->VK->Prop}{a:TA}(h:te σ H fun x H1=>iw K T x H1/\a σ H1 fun xs H2=>r x xs H2 Q):mI K T r te a σ H Q:=h
theorem rd_tup{a:TA}(h:a σ H fun xs H1=>xs.length<=sizeLine/\cY H1 (.tup xs) Q):lF a σ H Q:=h
theorem rd_lst{a:TA}(h:a σ H fun xs H1=>xs.length<=sizeLine/\cY H1 (.lst xs) Q):uc a σ H Q:=h
theorem rd_sl{r:V->Option Int->Option Int->Hp->VK->Prop}{tl th:TO}(h:te σ H fun x H1=>tl σ H1 fun l H2=>th σ H2 fun v H3=>r x l v H3 Q):ph r te tl th σ H Q:=h
theorem rd_noPart{R:Option Int->Hp->Prop}(h:R none H):sj σ H R:=h
theorem rd_part{R:Option Int->Hp->Prop}(h:te σ H fun x H1=>∃i,x=.int i/\R (some i) H1):rC te σ H R:=h
theorem rd_exi{i:Int}{R:Int->Prop}(h:R i):∃k,V.int i=V.int k/\R k:=⟨i,rfl,h⟩
theorem rd_chain{r r':R2}(h:ta σ H fun x H1=>tb σ H1 fun y H2=>r x y H2 fun z H3=>∃k,z=.bl k/\(if k=true then tc σ H3 fun w' H4=>r' y w' H4 Q else Q (.bl false) H3)):n9 r r' ta tb tc σ H Q:=h
theorem rd_comp{n:Nat}{js:List Nat}{wi:TI}{g:TG}(h:wi σ H fun J H1=>fD J n js g c te σ H1 Q):i5 n js wi g c te σ H Q:=h
theorem rd_iL{R:It->Hp->Prop}(h:te σ H fun x H1=>rj K x H1 R):jK K te σ H R:=h
theorem rd_iT{R:It->Hp->Prop}(h:te σ H fun x H1=>pR K x H1 R):lr K te σ H R:=h
theorem dX{p:Addr}{xs:List V}{R:It->Hp->Prop}(e:ai K H p xs)(h:R (cS K p) H):rj K (.ref p) H R:=⟨p,rfl,⟨xs,e⟩,h⟩
theorem dH{p:Addr}{xs:List V}{R:It->Hp->Prop}(e:aj K H p xs)(h:R (cF K p) H):pR K (.ref p) H R:=⟨p,rfl,⟨xs,e⟩,h⟩
theorem rd_i1{a:TA}{R:It->Hp->Prop}(h:a σ H fun vs H1=>qH vs H1 R):rz a σ H R:=h
theorem eG{j:Int}{R:It->Hp->Prop}(h1:-(2 ^ 62)<=j/\j<2 ^ 62)(h:R (ec 0 j.toNat) H):qH [.int j] H R:=⟨j,rfl,h1.1,h1.2,h⟩
theorem rd_for{wi:TI}{g:TG}(h:wi σ H fun J H1=>iZ J g t D σ H1):tJ wi g t D σ H:=h
theorem cv{l:Addr}{xs:List V}{y:V}(e:H l=some (.lst xs))(hz:xs.length<sizeLine)(h:Q .non (upd H l (.lst (xs++[y])))):o8 (.ref l) [y] H Q:=⟨l,xs,y,rfl,rfl,e,hz,h⟩
theorem iq{p:Addr}{xs:List V}(e:ai K H p xs):iw K "list" (.ref p) H:=.inl ⟨rfl,xs,e⟩
theorem gP{n:Nat}{g:cL}{a:Addr}{xs:List V}{R:St->Hp->Prop}(e:aj K H a xs)(hl:xs.length=n)(h:g xs σ H R):ji K n g (.ref a) σ H R:=⟨a,xs,rfl,e,hl,h⟩
theorem rd_gcons{g:TG}{gs:cL}{v:V}{r:List V}{R:St->Hp->Prop}(h:g v σ H fun σ' H'=>gs r σ' H' R):uA g gs (v::r) σ H R:=⟨v,r,rfl,h⟩
theorem rd_gnil{R:St->Hp->Prop}(h:R σ H):uz [] σ H R:=⟨rfl,h⟩
theorem cB{l b:Addr}{xs zs:List V}(e1:H l=some (.lst xs))(e2:H b=some (.lst zs))(hz:xs.length+zs.length<=sizeLine)(h:cY H (.lst (xs++zs)) Q):tW (.ref l) (.ref b) H Q:=⟨l,b,xs,zs,rfl,rfl,e1,e2,hz,h⟩
theorem lX{l:Addr}{k:Int}{xs:List V}(e:H l=some (.lst xs))(hk:0<=k/\k<10 ^ 6)(hz:xs.length*k.toNat<=sizeLine)(h:cY H (.lst (DF k.toNat xs).flatten) Q):qT (.ref l) (.int k) H Q:=
 ⟨l,k,xs,rfl,rfl,e,by omega,by omega,hz,h⟩
theorem iJ{a:Addr}{xs:List V}{lo hi:Option Int}(e:ai K H a xs)(h:cY H (.lst (bL xs lo hi)) Q):lI K (.ref a) lo hi H Q:=⟨a,xs,rfl,e,h⟩
theorem aW{o:HO}{R:VK}(h:∀p H',Ext H H'->H' p=some o->H p=none->R (.ref p) H'):cY H o R:=fun p hp=>
 h p _ (fun b u e=>by rw[aT (dg e hp)];exact e) aY hp
theorem bq{p:Addr}{o:HO}(hp:H p=none):Ext H (upd H p o):=fun b u e=>by rw[aT (dg e hp)];exact e
theorem ai.ext{H':Hp}{p:Addr}{xs:List V}(e:Ext H H')(h:ai K H p xs):ai K H' p xs:=by
 rcases h with(h | ⟨o,h⟩) | h
 ·exact .inl (.inl (e _ _ h))
 ·exact .inl (.inr ⟨o,e _ _ h⟩)
 ·exact .inr h
end
theorem yY{α:Type}{xs:List α}{i:Int}{v:α}(h0:0<=i)(h:xs[i.toNat]?=some v):bQ xs i=some v:=by
 have:=dF h
 rwa [Int.toNat_of_nonneg h0]at this
end L2
namespace L2
open PySem PySem.Spec PyProof.Rows
def dy:V->PyData->Prop
 | .non,.none=>True
 | .bl b,.bool c=>b=c
 | .int i,.int j=>i=j
 | .str x,.str y=>x=y/\(PyData.str y).canLay0=true
 | _,_=>False
def bf(H:Hp):Nat->V->PyData->Prop
 | 0,x,d=>dy x d
 | n+1,x,d=>dy x d\/∃a xs ds,x=.ref a/\((H a=some (.tup xs)/\d=.tuple ds)\/(H a=some (.lst xs)/\d=.list ds))/\Paired (bf H n) xs ds
section
variable {X:Cx} {pins:List (Addr×Obj)} {σ:St} {H:Hp} {s:Shared}
theorem dy.reads{x:V}{d:PyData}{u:Value}(h:dy x d)(r:RelV x u):∃as,Reads s.heap u d as:=by
 cases x with
 | non=>cases d<;>first | exact False.elim h | (cases r;exact⟨_,.none⟩)
 | bl b=>cases d<;>first | exact False.elim h | (cases(show b=_ from h);cases r;exact⟨_,.bool _⟩)
 | int i=>cases d<;>first | exact False.elim h | (cases(show i=_ from h);obtain⟨t,rfl⟩:=r;exact⟨_,.int _ t⟩)
 | str z=>cases d<;>first | exact False.elim h | (cases(show z=_/\_ from h).1;obtain⟨t,rfl⟩:=r;exact⟨_,.str _ t⟩)
 | _=>cases d<;>exact False.elim h
theorem dy.lay{x:V}{d:PyData}(h:dy x d):d.canLay0=true/\d.depth=0:=by
 cases x<;>cases d<;>first | exact False.elim h | exact ⟨rfl,rfl⟩ | exact ⟨h.2,rfl⟩
theorem nY{R:V->PyData->Prop}(ih:∀{x:V} {d:PyData} {u:Value},R x d->RelV x u->∃as,Reads s.heap u d as):∀{xs:List V} {ds:List PyData} {us:List Value},Paired R xs ds->Vals xs us->∃as,ReadsAll s.heap us ds as
 | _,_,_,.nil,.nil=>⟨_,.nil⟩
 | _,_,_,.cons h t,.cons r rt=>by
  obtain⟨as,ha⟩:=ih h r
  obtain⟨bs,hb⟩:=nY ih t rt
  exact⟨_,.cons ha hb⟩
theorem bf.reads(I:Inv X pins σ H s):∀(n:Nat) {x:V} {d:PyData} {u:Value},bf H n x d->RelV x u->∃as,Reads s.heap u d as
 | 0,_,_,_,h,r=>dy.reads h r
 | n+1,x,d,u,h,r=>by
  rcases h with h | ⟨a,xs,ds,rfl,hh,hp⟩
  ·exact dy.reads h r
  ·cases r
   rcases hh with⟨e,rfl⟩ | ⟨e,rfl⟩
   ·obtain⟨its,rv,⟨o,ho,hc,k,hd⟩,_⟩:=I.tuple (aj.of e)
    obtain⟨as,ha⟩:=nY (fun{x d u}=>bf.reads I n) hp rv
    exact⟨_,.tuple ho hc hd (by simpa using ha)⟩
   ·obtain⟨its,k,rv,ho,_⟩:=I.lst e
    obtain⟨as,ha⟩:=nY (fun{x d u}=>bf.reads I n) hp rv
    exact⟨_,.list ho rfl rfl (by simpa using ha)⟩
theorem jX{R:V->PyData->Prop}{m:Nat}(ih:∀{x:V} {d:PyData},R x d->d.canLay0=true/\d.depth<=m):∀{xs:List V} {ds:List PyData},Paired R xs ds->PyData.canLayAll0 ds=true/\PyData.depthAll ds<=m
 | _,_,.nil=>⟨rfl,Nat.zero_le _⟩
 | _,_,.cons h t=>by
  obtain⟨h1,h2⟩:=ih h
  obtain⟨h3,h4⟩:=jX ih t
  refine⟨?_,?_⟩
  ·simp only[PyData.canLayAll0,h1,h3,Bool.and_self]
  ·simp only[PyData.depthAll]
   exact Nat.max_le.mpr ⟨h2,h4⟩
theorem bf.lay:∀(n:Nat) {x:V} {d:PyData},bf H n x d->d.canLay0=true/\d.depth<=n
 | 0,_,_,h=>⟨(dy.lay h).1,Nat.le_of_eq (dy.lay h).2⟩
 | n+1,x,d,h=>by
  rcases h with h | ⟨a,xs,ds,rfl,hh,hp⟩
  ·exact⟨(dy.lay h).1,by rw[(dy.lay h).2];exact Nat.zero_le _⟩
  ·obtain⟨h1,h2⟩:=jX (fun{x d}=>bf.lay n) hp
   rcases hh with⟨e,rfl⟩ | ⟨e,rfl⟩
   ·exact⟨h1,Nat.succ_le_succ h2⟩
   ·exact⟨h1,Nat.succ_le_succ h2⟩
def sT(neg:Bool):R2:=fun x y H Q=>∃n m d e,bf H n x d/\bf H m y e/\n<=50/\Q (.bl (if neg then !PyData.eqv d e else PyData.eqv d e)) H
theorem CG{k:Nat}(hr:Room k X.A):bo X (compareOp .Eq) (sT false):=by
 intro pins s σ H x y v u Q I rx ry h
 obtain⟨n,m,d,e,h1,h2,hn,q⟩:=h
 obtain⟨as,ra⟩:=bf.reads I n h1 rx
 obtain⟨bs,rb⟩:=bf.reads I m h2 ry
 have l1:=bf.lay n h1
 have l2:=bf.lay m h2
 have hu:=hr.units
 have hm:min d.depth e.depth<=50:=Dv (Nat.min_le_left _ _) (Dv l1.2 hn)
 exact SeqAt.compareEq_reads ra rb l1.1 l2.1 (by omega) ⟨.bl _,H,I,rfl,q⟩
theorem jM{k:Nat}(hr:Room k X.A):bo X (compareOp .NotEq) (sT true):=by
 intro pins s σ H x y v u Q I rx ry h
 obtain⟨n,m,d,e,h1,h2,hn,q⟩:=h
 obtain⟨as,ra⟩:=bf.reads I n h1 rx
 obtain⟨bs,rb⟩:=bf.reads I m h2 ry
 have l1:=bf.lay n h1
 have l2:=bf.lay m h2
 have hu:=hr.units
 have hm:min d.depth e.depth<=50:=Dv (Nat.min_le_left _ _) (Dv l1.2 hn)
 exact SeqAt.compareNe_reads ra rb l1.1 l2.1 (by omega) ⟨.bl _,H,I,rfl,q⟩
end
end L2
namespace L2
open PySem PySem.Spec PyProof.Rows
def wI(K:CJ):List V->Hp->VK->Prop:=fun xs H Q=>∃(p:Addr) (bs:List Bool),xs=[.ref p]/\ai K H p (bs.map V.bl)/\Q (.bl (bs.all id)) H
theorem va:∀{bs:List Bool} {us:List Value},Vals (bs.map V.bl) us->us=bs.map Value.bool
 | [],_,r=>by cases r;rfl
 | b::bs,_,r=>by
  cases r with
  | cons r t=>cases r;rw[va t];rfl
theorem all_range(bs:List Bool):((DM bs.length).all fun i=>bs.getD i false)=bs.all id:=by
 rw[Dz,Dy,Dy]
 constructor
 ·intro h b hb
  obtain⟨i,hi,e⟩:=List.mem_iff_getElem.mp hb
  have:=h i (List.mem_range.mpr hi)
  rw[List.getD_eq_getElem?_getD,CO hi]at this
  rw[←e]
  exact this
 ·intro h i hi
  have hi':=List.mem_range.mp hi
  rw[List.getD_eq_getElem?_getD,CO hi']
  exact h _ (Dr hi')
theorem gp{X:Cx}(K:CJ)(hc:X.calm=true)(hK:X.K=K:=by rfl):bH X (.builtin "all") (wI K):=by
 subst hK
 intro pins s σ H xs us Q I r h
 obtain⟨p,bs,rfl,hq,q⟩:=h
 obtain⟨u,rfl,rx⟩:=vals1 r
 cases rx
 obtain⟨its,rv,pl,hz⟩:=I.list hq
 have eb:=va rv
 have hne:p≠s.heap.objs.size:=Di (by obtain⟨o,n,e,_⟩:=pl;exact CM e)
 refine call_all_walk (wpAny_pyIter_list pl.isList ?_)
 have I1:Inv X pins σ H { s with heap:=s.heap.push { cls:=.type "list_iterator",data:=.fields #[.ref p,.int 0 0] } }:=I.kept (t':=s.toks) fun b o e=>CK _ e
 have hf:=I.fpOk (H':=H) (Dj s.heap.objs.size) I.fresh
 refine⟨s.heap.objs.size,_,_,_,_,_,(fun i=>bs.getD i false),rfl,Walks.list (A:=X.A.in1) (I.ok.hd hc) _ p hne its.toArray,⟨⟨_,CL _ rfl,rfl,rfl⟩,?_⟩,?_,fun h' tk hk=>?_⟩
 ·exact pl.isList.push _
 ·intro i v s' Q' E' hv hQ
  rw[eb]at hv
  have hv':(bs.map Value.bool)[i]?=some v:=by simpa using hv
  rw[CP]at hv'
  cases eg:bs[i]? with
  | none=>rw[eg]at hv';cases hv'
  | some b=>
   rw[eg]at hv'
   cases hv'
   have eb':bs.getD i false=b:=by rw[List.getD_eq_getElem?_getD,eg];rfl
   have hQ':Q' (bs.getD i false) s':=hQ
   rw[eb']at hQ'
   exact wpAny_truthy_bool hQ'
 ·obtain⟨f0,f1,f2,f3,f4,f5⟩:=hf
  have hl:=rv.length
  rw[CN]at hl
  refine⟨.bl (bs.all id),H,I1.turned (it:=s.heap.objs.size) (fun b o hb e=>hk b o (by simpa using hb) e) f0 f1 f3 f4 f5,?_,q⟩
  show Value.bool _=Value.bool _
  rw[CT,←hl,all_range]
end L2
namespace L2
open PySem PySem.Spec PyProof.Rows
section
variable {D:Ends} {σ:St} {H:Hp} {Q:VK} {te:TE} {t:TS} {c:TT}
end
section
variable {prog:Program} {w:World} {A:Around} {E:Value->Shared->Prop} {s:Shared}
theorem xJ{it t:Addr}{i:Nat}{ys:Array Value}{x:Value}{Q:Value->Shared->Prop}(gi:s.heap.IsTupleIter it t i)(gt:s.heap.IsTuple t ys)(gx:ys[i]?=some x)
  (q:∀h',h'.IsTupleIter it t (i+1)->Heap.SameBut it s.heap h'->Q x { s with heap:=h' }):wpAny (model prog w) A (Builtin.SmallTypes.nextOf (.ref it)) Q E s:=by
 obtain⟨u,gu,gc,gd⟩:=id gi
 obtain⟨v,gv,_,k,gk⟩:=gt
 unfold Builtin.SmallTypes.nextOf
 refine CH (DL (name:=DB "__next__") gi.typeIs F.slot_tuple_iterator_next (wpAny_call_entry F.slot_tuple_iterator_next gi.typeIs F.entry_tuple_iterator_next ?_ (F.args_tuple_iterator_next_1 _)))
 show wpAny _ _ (field (Value.ref it) 0 >>= _) _ _ s
 refine CH (wpAny_field gu gd (x:=Value.ref t) rfl ?_)
 show wpAny _ _ (if(Value.ref t == Value.none)=true then _ else _) _ _ s
 rw[DP (show ¬(Value.ref t == Value.none)=true from Df)]
 show wpAny _ _ (field (Value.ref it) 1 >>= _) _ _ s
 refine CH (wpAny_field gu gd (x:=Value.int i 0) rfl ?_)
 show wpAny _ _ (seqItems? (Value.ref t) >>= _) _ _ s
 refine CH (wpAny_seqItems gv gk ?_)
 simp only[Dd,gx]
 refine CH (wpAny_setField gu gd (by simp) (CI ⟨x,rfl,CI (q _ ?_ (Heap.SameBut.update ..))⟩))
 exact⟨_,Heap.get?_update_self _ gu (Obj.isFreed_of_fields (Obj.data_mapFields gd _)),(Obj.cls_mapFields ..).trans gc,by rw[Obj.data_mapFields gd];simp[rawInt]⟩
theorem AD{it t:Addr}{i:Nat}{ys:Array Value}{Q:Value->Shared->Prop}(hA:A.handled=none)(gi:s.heap.IsTupleIter it t i)(gt:s.heap.IsTuple t ys)(gx:ys[i]?=none)
  (q:∀h' e,Heap.ExtBut it s.heap h'->(∃o,h'.get? e=some o/\o.cls=.type "StopIteration")->E (.ref e) { s with heap:=h' }):wpAny (model prog w) A (Builtin.SmallTypes.nextOf (.ref it)) Q E s:=by
 obtain⟨u,gu,gc,gd⟩:=id gi
 obtain⟨v,gv,_,k,gk⟩:=gt
 unfold Builtin.SmallTypes.nextOf
 refine CH (DL (name:=DB "__next__") gi.typeIs F.slot_tuple_iterator_next (wpAny_call_entry F.slot_tuple_iterator_next gi.typeIs F.entry_tuple_iterator_next ?_ (F.args_tuple_iterator_next_1 _)))
 show wpAny _ _ (field (Value.ref it) 0 >>= _) _ _ s
 refine CH (wpAny_field gu gd (x:=Value.ref t) rfl ?_)
 show wpAny _ _ (if(Value.ref t == Value.none)=true then _ else _) _ _ s
 rw[DP (show ¬(Value.ref t == Value.none)=true from Df)]
 show wpAny _ _ (field (Value.ref it) 1 >>= _) _ _ s
 refine CH (wpAny_field gu gd (x:=Value.int i 0) rfl ?_)
 show wpAny _ _ (seqItems? (Value.ref t) >>= _) _ _ s
 refine CH (wpAny_seqItems gv gk ?_)
 simp only[Dd,gx]
 refine CH (wpAny_rule (CH (wpAny_setField gu gd (by simp) ?_)))
 show wpAny _ _ (newExc (Value.type "StopIteration") [] >>= _) _ _ _
 refine CH ?_
 simp only[newExc,newTuple]
 refine CH (wpAny_newObj_type (hd:=by size_fits) ?_)
 refine CH (m:=firstArgMember _ _) (wpAny_of_eq (a:=Value.none) (by first | rfl | (unfold firstArgMember;rfl)) ?_)
 refine wpAny_newObj_type (hd:=by size_fits) ?_
 simp only[raiseNew]
 refine CH (wpAny_handled ?_)
 first | rw [show Around.handled A.in1=none from hA] | rw [hA]
 refine CH (CI (wpAny_throw ?_))
 exact q _ _ (((Heap.SameBut.update ..).extBut.push _).push _) ⟨_,CL _ rfl,rfl⟩
end
structure Sub(P:Program)(w:World)(K:CJ)(J:It)(it:Addr)(tn:Nat->Heap->Prop):Prop where
 obj:∀i h,tn i h->∃o,h.get? it=some o/\∀v,o.data≠.cell v
 keep:∀i h h',tn i h->(∀o,h.get? it=some o->h'.get? it=some o)->tn i h'
 item:∀(X:Cx),X.prog=P->X.w=w->X.K=K->∀(A:Around) (i:Nat) (pins:List (Addr×Obj)) (s:Shared) (σ:St) (H:Hp) (Q:Value->Shared->Prop) (E:Value->Shared->Prop),Inv X pins σ H s->bO X pins H it->tn i s.heap->J.go i H →
  (∀x u h',Inv X pins σ H { s with heap:=h' }->RelV x u->J.yld i H x H->tn (i+1) h'->Heap.SameBut it s.heap h'->Q u { s with heap:=h' })->wpAny (model P w) A (Builtin.SmallTypes.nextOf (.ref it)) Q E s
 done:∀(X:Cx),X.prog=P->X.w=w->X.K=K->∀(A:Around),A.handled=none->∀(i:Nat) (pins:List (Addr×Obj)) (s:Shared) (σ:St) (H:Hp) (Q:Value->Shared->Prop) (E:Value->Shared->Prop),Inv X pins σ H s->bO X pins H it->tn i s.heap->J.stop i H →
  (∀h' e,Heap.ExtBut it s.heap h'->(∃o,h'.get? e=some o/\o.cls=.type "StopIteration")->E (.ref e) { s with heap:=h' })->wpAny (model P w) A (Builtin.SmallTypes.nextOf (.ref it)) Q E s
theorem uR{P:Program}{w:World}{K:CJ}(a it:Addr):Sub P w K (cS K a) it (fun i h=>h.IsListIter it a i) where
 obj:=fun i h st=>by
  obtain⟨o,e,c,d⟩:=st
  exact⟨o,e,fun v z=>by rw[d]at z;cases z⟩
 keep:=fun i h h' st k=>st.at k
 item:=by
  intro X hP hw hK A i pins s σ H Q E I hf st hg hQ
  subst hP hw hK
  obtain⟨xs,x,hq,hx⟩:=hg
  obtain⟨its,rv,p,hz⟩:=I.list hq
  obtain⟨u,hu,ru⟩:=rv.get hx
  obtain⟨f0,f1,f2,f3,f4,f5⟩:=hf
  exact wpAny_nextOf_list_item st p.isList (x:=u) (by simpa using hu) fun h' st' sb=>hQ x u h' (I.turned (t':=s.toks) (it:=it) (fun b o hb e=>(sb.2 b hb).trans e) f0 f1 f3 f4 f5) ru ⟨rfl,fun ys hy=>by rw[I.list_inj hy hq];exact hx⟩ st' sb
 done:=by
  intro X hP hw hK A hA i pins s σ H Q E I hf st hg hE
  subst hP hw hK
  obtain⟨xs,hq,hx⟩:=hg
  obtain⟨its,rv,p,hz⟩:=I.list hq
  have hl:=rv.length
  exact wpAny_nextOf_list_end hA st p.isList (by simp;omega) hE
theorem uC{P:Program}{w:World}{K:CJ}(a it:Addr):Sub P w K (cF K a) it (fun i h=>h.IsTupleIter it a i) where
 obj:=fun i h st=>by
  obtain⟨o,e,c,d⟩:=st
  exact⟨o,e,fun v z=>by rw[d]at z;cases z⟩
 keep:=fun i h h' st k=>st.at k
 item:=by
  intro X hP hw hK A i pins s σ H Q E I hf st hg hQ
  subst hP hw hK
  obtain⟨xs,x,hq,hx⟩:=hg
  obtain⟨its,rv,p,hz⟩:=I.tuple hq
  obtain⟨u,hu,ru⟩:=rv.get hx
  obtain⟨f0,f1,f2,f3,f4,f5⟩:=hf
  exact xJ st (show s.heap.IsTuple a its.toArray from p) (x:=u) (by simpa using hu) fun h' st' sb=>hQ x u h' (I.turned (t':=s.toks) (it:=it) (fun b o hb e=>(sb.2 b hb).trans e) f0 f1 f3 f4 f5) ru ⟨rfl,fun ys hy=>by rw[I.tuple_inj hy hq];exact hx⟩ st' sb
 done:=by
  intro X hP hw hK A hA i pins s σ H Q E I hf st hg hE
  subst hP hw hK
  obtain⟨xs,hq,hx⟩:=hg
  obtain⟨its,rv,p,hz⟩:=I.tuple hq
  have hl:=rv.length
  exact AD hA st (show s.heap.IsTuple a its.toArray from p) (by simp;omega) hE
def gK(J1 J2:It):It:=⟨fun i H=>J1.go i H/\J2.go i H,fun i H x H'=>∃p u v,x=.ref p/\H p=none/\H'=upd H p (.tup [u,v])/\J1.yld i H u H/\J2.yld i H v H,fun i H=>J1.stop i H\/(J1.go i H/\J2.stop i H)⟩
structure Apart(z TI TO i1 i2:Addr):Prop where
 a:TI≠z
 b:TO≠z
 c:i1≠z
 d:i2≠z
 e:TI≠TO
 f:TI≠i1
 g:TI≠i2
 h:TO≠i1
 i:TO≠i2
 j:i1≠i2
section
variable {X:Cx} {pins:List (Addr×Obj)} {σ:St} {H:Hp} {s:Shared}
theorem Inv.same{it:Addr}{k h':Heap}(I:Inv X pins σ H { s with heap:=k })(f:bO X pins H it)(b:Heap.ExtBut it k h'):Inv X pins σ H { s with heap:=h' }:=by
 obtain⟨f0,f1,f2,f3,f4,f5⟩:=f
 exact Inv.turned (s:={ s with heap:=k }) (t':=s.toks) (it:=it) I (fun c o hb e=>b c o hb e) f0 f1 f3 f4 f5
theorem Cw{J1 J2:It}{z TI TO i1 i2:Addr}{t1 t2:Nat->Heap->Prop}{A:Around}{E:Value->Shared->Prop}{a b:Value}{i:Nat}{Q:Value->Shared->Prop}(S1:Sub X.prog X.w X.K J1 i1 t1)(S2:Sub X.prog X.w X.K J2 i2 t2)(N:Apart z TI TO i1 i2)
  (I:Inv X pins σ H s) (hf:∀b∈[z,TI,TO,i1,i2],bO X pins H b) (gz:IsZip s.heap z TI TO .none) (gI:IsPair s.heap TI (.ref i1) (.ref i2)) (gO:IsPair s.heap TO a b) (g1:t1 i s.heap) (g2:t2 i s.heap) (go1:J1.go i H) (go2:J2.go i H)
  (q:∀x y h',Inv X pins σ (upd H s.heap.objs.size (.tup [x,y])) { s with heap:=h' }->J1.yld i H x H->J2.yld i H y H->IsZip h' z TI TO (rawInt s.heap.objs.size)->IsPair h' TI (.ref i1) (.ref i2)->(∃a b,IsPair h' TO a b)->t1 (i+1) h'->t2 (i+1) h'->Q (.ref s.heap.objs.size) { s with heap:=h' }) :
  wpAny (model X.prog X.w) A (Builtin.«zip.__next__» ⟨[.ref z],[]⟩) (fun fin s'=>∃v,fin=.done (.ret v)/\Q v s') E s:=by
 have fz:=hf z (by simp)
 have fO:=hf TO (by simp)
 have f1:=hf i1 (by simp)
 have f2:=hf i2 (by simp)
 show wpAny _ _ (field (Value.ref z) 2 >>= _) _ _ _
 refine CH (wpAny_field gz rfl (x:=Value.bool false) rfl ?_)
 show wpAny _ _ (field (Value.ref z) 3 >>= _) _ _ _
 refine CH (wpAny_field gz rfl (x:=Value.ref TI) rfl ?_)
 refine CH (wpAny_seqItems gI rfl ?_)
 show wpAny _ _ (Builtin.SmallTypes.ownedTupleIsFree (Value.ref z) >>= _) _ _ _
 refine CH ?_
 unfold Builtin.SmallTypes.ownedTupleIsFree
 refine CH (wpAny_field gz rfl (x:=Value.none) rfl (CI ?_))
 simp only[if_true]
 refine CH (wpAny_rule ?_)
 refine CH (wpAny_field gz rfl (x:=Value.ref TO) rfl ?_)
 refine CH (wpAny_setField_rec gz (by simp) fun k1 gz1 b1=>?_)
 replace gz1:IsZip k1 z TI TO .ellipsis:=gz1
 have s1:=b1.1
 replace b1:=b1.extBut
 have I1:Inv X pins σ H { s with heap:=k1 }:=Inv.same (show Inv X pins σ H { s with heap:=s.heap }from I) fz b1
 refine CH ?_
 simp only[List.zipIdx_cons,List.zipIdx_nil,List.forIn_cons,List.forIn_nil]
 refine CH (CH (wpAny_onRaise ?_))
 show wpAny _ _ (Builtin.SmallTypes.nextOf (Value.ref i1) >>= _) _ _ _
 refine CH (S1.item X rfl rfl rfl _ i pins _ σ H _ _ I1 f1 (S1.keep i _ _ g1 fun o e=>b1 _ _ N.c e) go1 fun x ux k2 I2 rx yx t12 b2=>CI ?_)
 replace I2:Inv X pins σ H { s with heap:=k2 }:=I2
 have s2:=b2.1
 replace b2:=b2.extBut
 have gO2:IsPair k2 TO a b:=b2 _ _ N.h (b1 _ _ N.b gO)
 refine CH (wpAny_seqItems gO2 rfl ?_)
 refine CH (wpAny_updateSeq_pair gO2 fun k3 gO3 b3=>?_)
 replace gO3:IsPair k3 TO ux b:=gO3
 have s3:=b3.1
 replace b3:=b3.extBut
 have I3:Inv X pins σ H { s with heap:=k3 }:=Inv.same I2 fO b3
 refine CH (wpAny_letGo (CI ?_))
 refine CH (CH (wpAny_onRaise ?_))
 show wpAny _ _ (Builtin.SmallTypes.nextOf (Value.ref i2) >>= _) _ _ _
 refine CH (S2.item X rfl rfl rfl _ i pins _ σ H _ _ I3 f2 (S2.keep i _ _ g2 fun o e=>b3 _ _ (Ne.symm N.i) (b2 _ _ (Ne.symm N.j) (b1 _ _ N.d e))) go2 fun y uy k4 I4 ry yy t24 b4=>CI ?_)
 replace I4:Inv X pins σ H { s with heap:=k4 }:=I4
 have s4:=b4.1
 replace b4:=b4.extBut
 have gO4:IsPair k4 TO ux b:=b4 _ _ N.i gO3
 refine CH (wpAny_seqItems gO4 rfl ?_)
 refine CH (wpAny_updateSeq_pair gO4 fun k5 gO5 b5=>?_)
 replace gO5:IsPair k5 TO ux uy:=gO5
 have s5:=b5.1
 replace b5:=b5.extBut
 have I5:Inv X pins σ H { s with heap:=k5 }:=Inv.same I4 fO b5
 refine CH (wpAny_letGo (CI (CI ?_)))
 refine CH (wpAny_seqItems gO5 rfl ?_)
 refine CH (wpAny_newTuple ?_)
 have sz:k5.objs.size=s.heap.objs.size:=by rw[s5,s4,s3,s2,s1]
 have gz5:IsZip k5 z TI TO .ellipsis:=b5 _ _ (Ne.symm N.b) (b4 _ _ (Ne.symm N.d) (b3 _ _ (Ne.symm N.b) (b2 _ _ (Ne.symm N.c) gz1)))
 have gI5:IsPair k5 TI (.ref i1) (.ref i2):=b5 _ _ N.e (b4 _ _ N.g (b3 _ _ N.e (b2 _ _ N.f (b1 _ _ N.a gI))))
 have t15:t1 (i+1) k5:=S1.keep _ _ _ (S1.keep _ _ _ (S1.keep _ _ _ t12 fun o e=>b3 _ _ (Ne.symm N.h) e) fun o e=>b4 _ _ N.j e) fun o e=>b5 _ _ (Ne.symm N.h) e
 have t25:t2 (i+1) k5:=S2.keep _ _ _ t24 fun o e=>b5 _ _ (Ne.symm N.i) e
 have lz:z<k5.objs.size:=CM gz5
 have I6:Inv X pins σ (upd H k5.objs.size (.tup [x,y])) { s with heap:=k5.push { cls:=.type "tuple",data:=.seq #[ux,uy] } }:=
  I5.laid (t':=s.toks) (o:=.tup [x,y]) (fun b ob e=>CK _ e) (Dj _) ⟨by show 2<=sizeLine;decide,[ux,uy],.cons rx (.cons ry .nil),IsTup.new _ _⟩
 have fz6:bO X pins (upd H k5.objs.size (.tup [x,y])) z:=by
  obtain⟨c0,c1,c2,c3,c4,c5⟩:=fz
  exact⟨by rw[aT (Di lz)];exact c0,c1,c2,c3,c4,c5⟩
 show wpAny _ _ (Builtin.SmallTypes.ownedTupleHandOut (Value.ref z) (Value.ref k5.objs.size) >>= _) _ _ _
 refine CH ?_
 unfold Builtin.SmallTypes.ownedTupleHandOut
 have gz6:IsZip (k5.push { cls:=.type "tuple",data:=.seq #[ux,uy] }) z TI TO .ellipsis:=CK _ gz5
 refine CH (wpAny_setField_rec gz6 (by simp) fun k7 gz7 b7=>?_)
 replace gz7:IsZip k7 z TI TO (rawInt k5.objs.size):=gz7
 replace b7:=b7.extBut
 have I7:Inv X pins σ (upd H k5.objs.size (.tup [x,y])) { s with heap:=k7 }:=Inv.same I6 fz6 b7
 refine wpAny_setField_rec gz7 (by simp) fun k8 gz8 b8=>?_
 replace gz8:IsZip k8 z TI TO (rawInt k5.objs.size):=gz8
 replace b8:=b8.extBut
 have I8:Inv X pins σ (upd H k5.objs.size (.tup [x,y])) { s with heap:=k8 }:=Inv.same I7 fz6 b8
 have up:∀b o,b≠z->k5.get? b=some o->k8.get? b=some o:=fun b o ne e=>b8 _ _ ne (b7 _ _ ne (CK _ e))
 rw[sz]at I8 gz8
 refine CI ⟨_,rfl,?_⟩
 show Q (.ref k5.objs.size) _
 rw[sz]
 exact q x y k8 I8 yx yy gz8 (up _ _ N.a gI5) ⟨_,_,up _ _ N.b gO5⟩ (S1.keep _ _ _ t15 fun o e=>up _ o N.c e) (S2.keep _ _ _ t25 fun o e=>up _ o N.d e)
theorem zx{J1 J2:It}{z TI TO i1 i2:Addr}{t1 t2:Nat->Heap->Prop}{A:Around}{E:Value->Shared->Prop}{a b:Value}{i:Nat}{Q:Fin->Shared->Prop}(hA:A.handled=none)(S1:Sub X.prog X.w X.K J1 i1 t1)(S2:Sub X.prog X.w X.K J2 i2 t2)(N:Apart z TI TO i1 i2)
  (I:Inv X pins σ H s) (hf:∀b∈[z,TI,TO,i1,i2],bO X pins H b) (gz:IsZip s.heap z TI TO .none) (gI:IsPair s.heap TI (.ref i1) (.ref i2)) (gO:IsPair s.heap TO a b) (g1:t1 i s.heap) (g2:t2 i s.heap) (st:J1.stop i H\/(J1.go i H/\J2.stop i H))
  (q:∀h' e,Inv X pins σ H { s with heap:=h' }->(∃o,h'.get? e=some o/\o.cls=.type "StopIteration")->E (.ref e) { s with heap:=h' }) :
  wpAny (model X.prog X.w) A (Builtin.«zip.__next__» ⟨[.ref z],[]⟩) Q E s:=by
 have fz:=hf z (by simp)
 have fO:=hf TO (by simp)
 have f1:=hf i1 (by simp)
 have f2:=hf i2 (by simp)
 show wpAny _ _ (field (Value.ref z) 2 >>= _) _ _ _
 refine CH (wpAny_field gz rfl (x:=Value.bool false) rfl ?_)
 show wpAny _ _ (field (Value.ref z) 3 >>= _) _ _ _
 refine CH (wpAny_field gz rfl (x:=Value.ref TI) rfl ?_)
 refine CH (wpAny_seqItems gI rfl ?_)
 show wpAny _ _ (Builtin.SmallTypes.ownedTupleIsFree (Value.ref z) >>= _) _ _ _
 refine CH ?_
 unfold Builtin.SmallTypes.ownedTupleIsFree
 refine CH (wpAny_field gz rfl (x:=Value.none) rfl (CI ?_))
 simp only[if_true]
 refine CH (wpAny_rule ?_)
 refine CH (wpAny_field gz rfl (x:=Value.ref TO) rfl ?_)
 refine CH (wpAny_setField_rec gz (by simp) fun k1 gz1 b1=>?_)
 replace gz1:IsZip k1 z TI TO .ellipsis:=gz1
 replace b1:=b1.extBut
 have I1:Inv X pins σ H { s with heap:=k1 }:=Inv.same (show Inv X pins σ H { s with heap:=s.heap }from I) fz b1
 refine CH ?_
 simp only[List.zipIdx_cons,List.zipIdx_nil,List.forIn_cons,List.forIn_nil]
 refine CH (CH (wpAny_onRaise ?_))
 show wpAny _ _ (Builtin.SmallTypes.nextOf (Value.ref i1) >>= _) _ _ _
 have t11:t1 i k1:=S1.keep i _ _ g1 fun o e=>b1 _ _ N.c e
 rcases st with st | ⟨go,st⟩
 ·refine CH (S1.done X rfl rfl rfl _ hA i pins _ σ H _ _ I1 f1 t11 st fun k2 e b2 he=>?_)
  obtain⟨oe,hoe,hce⟩:=he
  have gz2:IsZip k2 z TI TO .ellipsis:=b2 _ _ (Ne.symm N.c) gz1
  have I2:Inv X pins σ H { s with heap:=k2 }:=Inv.same I1 f1 b2
  have ne:e≠z:=fun x=>by subst x;rw[gz2]at hoe;cases hoe;simp at hce
  exact wpAny_setField_rec gz2 (by simp) fun k3 _ b3=>q k3 e (Inv.same I2 fz b3.extBut) ⟨oe,b3.extBut _ _ ne hoe,hce⟩
 ·refine CH (S1.item X rfl rfl rfl _ i pins _ σ H _ _ I1 f1 t11 go fun x ux k2 I2 rx yx t12 b2=>CI ?_)
  replace I2:Inv X pins σ H { s with heap:=k2 }:=I2
  replace b2:=b2.extBut
  have gO2:IsPair k2 TO a b:=b2 _ _ N.h (b1 _ _ N.b gO)
  refine CH (wpAny_seqItems gO2 rfl ?_)
  refine CH (wpAny_updateSeq_pair gO2 fun k3 gO3 b3=>?_)
  replace b3:=b3.extBut
  have I3:Inv X pins σ H { s with heap:=k3 }:=Inv.same I2 fO b3
  refine CH (wpAny_letGo (CI ?_))
  refine CH (CH (wpAny_onRaise ?_))
  show wpAny _ _ (Builtin.SmallTypes.nextOf (Value.ref i2) >>= _) _ _ _
  refine CH (S2.done X rfl rfl rfl _ hA i pins _ σ H _ _ I3 f2 (S2.keep i _ _ g2 fun o e=>b3 _ _ (Ne.symm N.i) (b2 _ _ (Ne.symm N.j) (b1 _ _ N.d e))) st fun k4 e b4 he=>?_)
  obtain⟨oe,hoe,hce⟩:=he
  have gz4:IsZip k4 z TI TO .ellipsis:=b4 _ _ (Ne.symm N.d) (b3 _ _ (Ne.symm N.b) (b2 _ _ (Ne.symm N.c) gz1))
  have I4:Inv X pins σ H { s with heap:=k4 }:=Inv.same I3 f2 b4
  have ne:e≠z:=fun x=>by subst x;rw[gz4]at hoe;cases hoe;simp at hce
  exact wpAny_setField_rec gz4 (by simp) fun k5 _ b5=>q k5 e (Inv.same I4 fz b5.extBut) ⟨oe,b5.extBut _ _ ne hoe,hce⟩
end
theorem Ag{P:Program}{w:World}{K:CJ}{elts:List Expr}{kk:Nat}{ps:Pos}{J1 J2:It}{z TI TO i1 i2:Addr}{t1 t2:Nat->Heap->Prop}(S1:Sub P w K J1 i1 t1)(S2:Sub P w K J2 i2 t2)(N:Apart z TI TO i1 i2):
  Turn P w K (.Tuple elts kk ps) (gK J1 J2) [z,TI,TO,i1,i2] z (fun i h=>IsZip h z TI TO .none/\IsPair h TI (.ref i1) (.ref i2)/\(∃a b,IsPair h TO a b)/\t1 i h/\t2 i h) where
 mem:=by simp
 obj:=fun i h st b hb=>by
  obtain⟨gz,gI,⟨a,c,gO⟩,g1,g2⟩:=st
  simp only[De,Dw,or_false]at hb
  rcases hb with rfl | rfl | rfl | rfl | rfl
  ·exact⟨_,gz,fun v e=>by cases(show Data.fields _=Data.cell v from e)⟩
  ·exact⟨_,gI,fun v e=>by cases(show Data.seq _ _=Data.cell v from e)⟩
  ·exact⟨_,gO,fun v e=>by cases(show Data.seq _ _=Data.cell v from e)⟩
  ·exact S1.obj _ _ g1
  ·exact S2.obj _ _ g2
 keep:=fun i h h' st k=>by
  obtain⟨gz,gI,⟨a,c,gO⟩,g1,g2⟩:=st
  exact⟨k z (by simp) _ gz,k TI (by simp) _ gI,⟨a,c,k TO (by simp) _ gO⟩,S1.keep _ _ _ g1 fun o e=>k i1 (by simp) o e,S2.keep _ _ _ g2 fun o e=>k i2 (by simp) o e⟩
 item:=by
  intro X hP hw hK hc i pins s σ H E I hf st hg
  subst hP hw hK
  obtain⟨gz,gI,⟨a,c,gO⟩,g1,g2⟩:=st
  have gT:s.TypeIs (.ref z) "zip":=⟨_,gz,rfl⟩
  unfold pyNext
  refine CH (wpAny_attempt (DL (name:=DB "__next__") gT F.slot_zip_next (wpAny_call_entry F.slot_zip_next gT F.entry_zip_next
   (Cw S1 S2 N I hf gz gI gO g1 g2 hg.1 hg.2 fun x y h' I' yx yy gz' gI' gO' g1' g2'=>CI ⟨_,rfl,?_⟩) (F.args_zip_next_1 _))))
  have lt:∀b∈[z,TI,TO,i1,i2],b≠s.heap.objs.size:=fun b hb=>by
   obtain⟨f0,f1,f2,f3,f4,f5⟩:=hf b hb
   simp only[De,Dw,or_false]at hb
   rcases hb with rfl | rfl | rfl | rfl | rfl
   ·exact Di (CM gz)
   ·exact Di (CM gI)
   ·exact Di (CM gO)
   ·obtain⟨o,e,_⟩:=S1.obj _ _ g1;exact Di (CM e)
   ·obtain⟨o,e,_⟩:=S2.obj _ _ g2;exact Di (CM e)
  have fz:bO X pins (upd H s.heap.objs.size (.tup [x,y])) z:=by
   obtain⟨c0,c1,c2,c3,c4,c5⟩:=hf z (by simp)
   exact⟨by rw[aT (lt z (by simp))];exact c0,c1,c2,c3,c4,c5⟩
  obtain⟨a',c',gO'⟩:=gO'
  refine wpAny_letOwnedTupleGo_zip (s:={ s with heap:=h' }) gz' fun k gk bk=>?_
  refine⟨.ref s.heap.objs.size,upd H s.heap.objs.size (.tup [x,y]),Inv.same I' fz bk.extBut,rfl,⟨_,x,y,rfl,I.hok.fresh (Dj _),rfl,yx,yy⟩,
   ⟨gk,bk.extBut _ _ N.a gI',⟨_,_,bk.extBut _ _ N.b gO'⟩,S1.keep _ _ _ g1' fun o e=>bk.extBut _ _ N.c e,S2.keep _ _ _ g2' fun o e=>bk.extBut _ _ N.d e⟩,fun b hb=>?_⟩
  rw[aT (lt b hb)]
  exact(hf b hb).1
 done:=by
  intro X hP hw hK hc i pins s σ H E I hf st hg
  subst hP hw hK
  obtain⟨gz,gI,⟨a,c,gO⟩,g1,g2⟩:=st
  have gT:s.TypeIs (.ref z) "zip":=⟨_,gz,rfl⟩
  unfold pyNext
  refine CH (wpAny_attempt (DL (name:=DB "__next__") gT F.slot_zip_next (wpAny_call_entry F.slot_zip_next gT F.entry_zip_next
   (zx (I.ok.hd hc) S1 S2 N I hf gz gI gO g1 g2 hg fun h' e I' he=>?_) (F.args_zip_next_1 _))))
  obtain⟨o,ho,hc'⟩:=he
  refine CH (wpAny_isInstance (s:={ s with heap:=h' }) (T:="StopIteration") (b:=true) ⟨o,ho,hc'⟩ isSubtype_stop ?_)
  exact CI ⟨rfl,I'⟩
 self:=fun _ _ _ _ _ st h=>wpAny_pyIter_zip st.1 h
abbrev ju(h:Heap)(a:Addr):Heap:=h.push { cls:=.type "tuple_iterator",data:=.fields #[.ref a,.int 0 0] }
abbrev jf(h:Heap)(a b:Addr):Heap:=(ju h a).push { cls:=.type "tuple_iterator",data:=.fields #[.ref b,.int 0 0] }
abbrev jQ(h:Heap)(a b:Addr):Heap:=(jf h a b).push { cls:=.type "tuple",data:=.seq #[.ref h.objs.size,.ref (ju h a).objs.size] }
abbrev j5(h:Heap)(a b:Addr):Heap:=(jQ h a b).push { cls:=.type "tuple",data:=.seq #[.none,.none] }
abbrev gZ(h:Heap)(a b:Addr):Heap:=(j5 h a b).push { cls:=.type "zip",data:=.fields #[.none,.bool false,.bool false,.ref (jf h a b).objs.size,.ref (jQ h a b).objs.size] }
theorem wc(a b:Addr)(xs ys:Array Value):Meets (Builtin.«zip.__new__» ⟨[.type "zip",.ref a,.ref b],[]⟩) (fun _ R s=>s.heap.IsTuple a xs/\s.heap.IsTuple b ys/\R (.ok (.ret (.ref (j5 s.heap a b).objs.size))) { s with heap:=gZ s.heap a b }):=
 .of_wp fun prog w A R s q=>by
  obtain⟨hp,g,d,tk,os⟩:=s;obtain⟨ga,gb,q⟩:=q
  have hsub:=sub_zip
  have gA:Heap.IsTuple (Shared.heap ⟨hp,g,d,tk,os⟩) a xs:=ga
  have gB:Heap.IsTuple (Shared.heap ⟨hp.push { cls:=.type "tuple_iterator",data:=.fields #[.ref a,.int 0 0] },g,d,tk,os⟩) b ys:=Heap.IsTuple.push gb _
  wp_walk using wpAny_pyIter_tuple gA,wpAny_pyIter_tuple gB
  exact⟨_,rfl,q⟩
theorem Cf{prog:Program}{w:World}{A:Around}{E:Value->Shared->Prop}{s:Shared}{a b:Addr}{xs ys:Array Value}{Q:Value->Shared->Prop}(ga:s.heap.IsTuple a xs)(gb:s.heap.IsTuple b ys)
  (q:∀h',IsZip h' (s.heap.objs.size+4) (s.heap.objs.size+2) (s.heap.objs.size+3) .none->IsPair h' (s.heap.objs.size+2) (.ref s.heap.objs.size) (.ref (s.heap.objs.size+1))->IsPair h' (s.heap.objs.size+3) .none .none →
   h'.IsTupleIter s.heap.objs.size a 0->h'.IsTupleIter (s.heap.objs.size+1) b 0->(∀c o,s.heap.get? c=some o->h'.get? c=some o)->Q (.ref (s.heap.objs.size+4)) { s with heap:=h' }) :
  wpAny (model prog w) A (call (.type "zip") [.ref a,.ref b]) Q E s:=by
 refine callType_new F.called_zip (by decide) (F.typeCall_zip_2 _ _) (F.newCall_zip_2 _ _) (fun ob=>F.args_object_init_3 ob _ _) F.entry_zip_new (wc a b xs ys) ⟨ga,gb,?_⟩
 have n1:(ju s.heap a).objs.size=s.heap.objs.size+1:=Heap.size_push ..
 have n2:(jf s.heap a b).objs.size=s.heap.objs.size+2:=by rw[Heap.size_push,n1]
 have n3:(jQ s.heap a b).objs.size=s.heap.objs.size+3:=by rw[Heap.size_push,n2]
 have n4:(j5 s.heap a b).objs.size=s.heap.objs.size+4:=by rw[Heap.size_push,n3]
 have k5:(gZ s.heap a b).get? (j5 s.heap a b).objs.size=some _:=CL _ rfl
 have k4:(gZ s.heap a b).get? (jQ s.heap a b).objs.size=some _:=CK _ (CL _ rfl)
 have k3:(gZ s.heap a b).get? (jf s.heap a b).objs.size=some _:=CK _ (CK _ (CL _ rfl))
 have k2:(gZ s.heap a b).get? (ju s.heap a).objs.size=some _:=CK _ (CK _ (CK _ (CL _ rfl)))
 have k1:(gZ s.heap a b).get? s.heap.objs.size=some _:=CK _ (CK _ (CK _ (CK _ (CL _ rfl))))
 show _/\_
 rw[n2,n3,n4]at k5
 rw[n1,n2]at k3
 rw[n3]at k4
 rw[n1]at k2
 rw[n4]
 exact⟨⟨_,k5,rfl⟩,q _ k5 k3 k4 ⟨_,k1,rfl,rfl⟩ ⟨_,k2,rfl,rfl⟩ fun c o x=>CK _ (CK _ (CK _ (CK _ (CK _ x))))⟩
section
variable {K:CJ} {σ:St} {H:Hp} {Q:VK}
def lT(K:CJ):List V->Hp->(It->Hp->Prop)->Prop:=fun vs H R=>∃a b xs ys,vs=[.ref a,.ref b]/\((aj K H a xs/\aj K H b ys/\R (gK (cF K a) (cF K b)) H)\/(ai K H a xs/\ai K H b ys/\R (gK (cS K a) (cS K b)) H))
def sO(K:CJ)(ta:TA):TI:=fun σ H R=>ta σ H fun vs H1=>lT K vs H1 R
theorem Bg{X:Cx}{elts:List Expr}{kk:Nat}{ps:Pos}(K:CJ){a b:Expr}{ta:TA}{p pos:Pos}(hg:Gl X "zip")(hm:X.mg "zip" = none)(ha:PA X [a,b] ta)(hK:X.K=K:=by rfl)(hs:starEach [a,b] X.env=[(false,eval a X.env),(false,eval b X.env)]:=by rfl)(hs2:starEach [b] X.env=[(false,eval b X.env)]:=by rfl):
  PI X (.Tuple elts kk ps) (.Call (.Name "zip" p) [a,b] [] pos) (sO K ta):=by
 subst hK
 intro pins s σ H R I h
 refine Call_ (fM I hg hm PyProof.Rows.boot_zip (PyProof.Rows.callWith_type1 (ax (ha pos pins s σ H _ I h) fun us s1 ⟨vs,H1,I1,r1,q1⟩=>?_) (by rw[hs,hs2]) (by rw[hs2];rfl)))
 obtain⟨l,m,xs,ys,e,q1⟩:=q1
 subst e
 cases r1 with
 | cons r rr=>
  cases rr with
  | cons r' rr=>
   cases rr
   cases r
   cases r'
   have mk:∀{J1 J2:It} {t1 t2:Nat->Heap->Prop},Sub X.prog X.w X.K J1 s1.heap.objs.size t1->Sub X.prog X.w X.K J2 (s1.heap.objs.size+1) t2->∀h',IsZip h' (s1.heap.objs.size+4) (s1.heap.objs.size+2) (s1.heap.objs.size+3) .none->IsPair h' (s1.heap.objs.size+2) (.ref s1.heap.objs.size) (.ref (s1.heap.objs.size+1)) →
     IsPair h' (s1.heap.objs.size+3) .none .none->t1 0 h'->t2 0 h'->(∀c o,s1.heap.get? c=some o->h'.get? c=some o)->R (gK J1 J2) H1->wpAny (model X.prog X.w) X.A (pyIter (.ref (s1.heap.objs.size+4))) (ng X pins σ (.Tuple elts kk ps) R) X.xe { s1 with heap:=h' }:=by
    intro J1 J2 t1 t2 S1 S2 h' gz gI gO g1 g2 k q
    refine wpAny_pyIter_zip (s:={ s1 with heap:=h' }) gz ?_
    have N:Apart (s1.heap.objs.size+4) (s1.heap.objs.size+2) (s1.heap.objs.size+3) s1.heap.objs.size (s1.heap.objs.size+1):=by
     constructor<;>(intro h;have h':@Eq Nat _ _:=h;omega)
    refine⟨s1.heap.objs.size+4,[s1.heap.objs.size+4,s1.heap.objs.size+2,s1.heap.objs.size+3,s1.heap.objs.size,s1.heap.objs.size+1],_,_,H1,rfl,I1.kept (t':=s1.toks) k,Ag S1 S2 N,⟨gz,gI,⟨_,_,gO⟩,g1,g2⟩,fun b hb=>?_,q⟩
    have le:@LE.le Nat _ s1.heap.objs.size b:=by
     simp only[De,Dw,or_false]at hb
     rcases hb with rfl | rfl | rfl | rfl | rfl
     ·exact Nat.le_add_right _ _
     ·exact Nat.le_add_right _ _
     ·exact Nat.le_add_right _ _
     ·exact Dj _
     ·exact Nat.le_add_right _ _
    exact I1.fpOk le (I1.hok.fresh le)
   rcases q1 with⟨ga,gb,q⟩ | ⟨ga,gb,q⟩
   ·obtain⟨its,_,p1,_⟩:=I1.tuple ga
    obtain⟨its2,_,p2,_⟩:=I1.tuple gb
    exact Cf (show s1.heap.IsTuple l its.toArray from p1) (show s1.heap.IsTuple m its2.toArray from p2) fun h' gz gI gO g1 g2 k=>mk (uC l _) (uC m _) h' gz gI gO g1 g2 k q
   ·obtain⟨its,_,p1,_⟩:=I1.list ga
    obtain⟨its2,_,p2,_⟩:=I1.list gb
    exact call_zip_2 p1.isList p2.isList fun h' gz gI gO g1 g2 _ k=>mk (uR l _) (uR m _) h' gz gI gO g1 g2 k q
theorem rd_zip{a:TA}{R:It->Hp->Prop}(h:a σ H fun vs H1=>lT K vs H1 R):sO K a σ H R:=h
theorem Ab{a b:Addr}{xs ys:List V}{R:It->Hp->Prop}(ha:aj K H a xs)(hb:aj K H b ys)(h:R (gK (cF K a) (cF K b)) H):lT K [.ref a,.ref b] H R:=⟨a,b,xs,ys,rfl,.inl ⟨ha,hb,h⟩⟩
theorem Cv{a b:Addr}{xs ys:List V}{n:Nat}{js:List Nat}{g:TG}{tc:TT}{te:TE}(Pv:Nat->List V->Hp->Prop)(hz:xs.length<=sizeLine)(h0:Pv 0 [] H)(hl:∀i zs H,Pv i zs H->aj K H a xs/\aj K H b ys/\zs.length<=i)
  (hs:∀i u v zs H p H',xs[i]?=some u->ys[i]?=some v->Pv i zs H->Ext H H'->H' p=some (.tup [u,v])->H p=none->g (.ref p) (bT n js σ) H' fun σ2 H3=>tc σ2 H3 fun b H4=>if b=true then te σ2 H4 fun v H5=>Pv (i+1) (zs++[v]) H5 else Pv (i+1) zs H4)
  (hd:∀zs H p,Pv (min xs.length ys.length) zs H->H p=none->Q (.ref p) (upd H p (.lst zs))):fD (gK (cF K a) (cF K b)) n js g tc te σ H Q:=by
 refine⟨fun i m zs H=>m=min xs.length ys.length-i/\i<=min xs.length ys.length/\Pv i zs H,⟨min xs.length ys.length,by simp,Nat.zero_le _,h0⟩,?_⟩
 rintro i m zs H ⟨rfl,hi,p⟩
 obtain⟨qa,qb,ql⟩:=hl i zs H p
 by_cases hlt:i<min xs.length ys.length
 ·have hx:i<xs.length:=by omega
  have hy:i<ys.length:=by omega
  refine .inr ⟨⟨⟨xs,xs[i],qa,by simp[hx]⟩,⟨ys,ys[i],qb,by simp[hy]⟩⟩,by omega,Pv (i+1),fun zs' H' p'=>⟨min xs.length ys.length-(i+1),by omega,rfl,hlt,p'⟩,fun x H' y=>?_⟩
  obtain⟨pp,u,v,rfl,hn,rfl,yu,yv⟩:=y
  exact hs i u v zs H pp _ (yu.2 xs qa) (yv.2 ys qb) p (bq hn) aY hn
 ·have e:i=min xs.length ys.length:=by omega
  refine .inl ⟨?_,fun p' hp=>hd zs H p' (e ▸ p) hp⟩
  by_cases h:xs.length<=i
  ·exact .inl ⟨xs,qa,h⟩
  ·exact .inr ⟨⟨xs,xs[i]'(by omega),qa,CO (by omega)⟩,⟨ys,qb,by omega⟩⟩
end
theorem BG{prog:Program}{w:World}{A:Around}{E:Value->Shared->Prop}{s:Shared}{t sl:Addr}{ys:Array Value}{vl vu:Value}{lo hi:Option Int}{Q:Value->Shared->Prop}(gt:IsTup s.heap t ys)(gs:s.heap.IsSliceOf sl vl vu .none)(pl:IsPart vl lo)(pu:IsPart vu hi)
  (gw:HT.aD ys.size 0 lo=0/\HT.aD ys.size ys.size hi=ys.size) (q:Q (.ref t) s):wpAny (model prog w) A (getItem (.ref t) (.ref sl)) Q E s:=by
 obtain⟨u,gu,gc,gd⟩:=id gs
 have gT:s.TypeIs (.ref sl) "slice":=⟨u,gu,gc⟩
 unfold getItem
 try with_reducible refine wpAny_holding ?_
 first | refine CH (CI ?_) | skip
 refine CH (wpAny_sequenceKey gt.typeIs (by decide) ?_)
 refine CH (DL (name:=DB "__getitem__") gt.typeIs PyProof.Rows.slot_tuple_getitem (wpAny_call_entry PyProof.Rows.slot_tuple_getitem gt.typeIs entry_tuple_getitem ?_ (args_tuple_getitem _ _)))
 show wpAny _ _ (Builtin.Tuple.tupleItemsOf (Value.ref t) >>= _) _ _ s
 refine CH (tupleItemsOf_ gt ?_)
 refine CH (wpAny_typeOf gT ?_)
 rw[DQ (by decide)]
 refine CH (HT.sN gs pl pu ?_)
 show wpAny _ _ (if(((HT.aD ys.size 0 lo:Nat):Int) == 0 && (1:Int) == 1 && (HT.aD ys.size ys.size hi-HT.aD ys.size 0 lo) == ys.size)=true then _ else _) _ _ s
 rw[DQ (by rw[gw.1,gw.2];simp)]
 show wpAny _ _ (Builtin.Tuple.tupleIsExact (Value.ref t) >>= _) _ _ s
 unfold Builtin.Tuple.tupleIsExact
 refine CH (CH (wpAny_typeOf gt.typeIs (CI ?_)))
 rw[DQ (by decide)]
 refine CH (wpAny_rule ?_)
 exact CI ⟨_,rfl,CI q⟩
def qx:V->Option Int->Option Int->Hp->VK->Prop:=fun x lo hi H Q=>∃a xs,x=.ref a/\H a=some (.tup xs)/\∀p H',Ext H H'->H' p=some (.tup (bL xs lo hi))->Q (.ref p) H'
theorem gY{X:Cx}:iP X qx:=by
 intro pins s σ H x v vl vu lo hi sl Q I rx hs pl pu h
 obtain⟨a,xs,rfl,hx,q⟩:=h
 by_cases gw:HT.aD xs.length 0 lo=0/\HT.aD xs.length xs.length hi=xs.length
 ·cases rx
  obtain⟨its,r,ht,hz⟩:=I.tuple (aj.of hx)
  have hlen:its.toArray.size=xs.length:=by rw[CT];exact r.length.symm
  refine⟨"tuple",_,PyProof.Rows.slot_tuple_getitem.lookup,ht.typeIs,?_⟩
  refine BG ht hs pl pu (by rw[hlen];exact gw) ⟨.ref a,H,I,rfl,q a H (Ext.rfl' H) ?_⟩
  have:bL xs lo hi=xs:=by
   unfold bL
   rw[gw.1,gw.2,List.drop_zero,Nat.sub_zero,Dt]
  rw[this]
  exact hx
 ·exact vV pins s σ H (.ref a) v vl vu lo hi sl Q I rx hs pl pu ⟨a,xs,rfl,aj.of hx,gw,fun p hp=>q p _ (bq hp) aY⟩
theorem fY{H:Hp}{Q:VK}{a:Addr}{xs:List V}{lo hi:Option Int}(e:H a=some (.tup xs))(h:∀p H',Ext H H'->H' p=some (.tup (bL xs lo hi))->Q (.ref p) H'):qx (.ref a) lo hi H Q:=⟨a,xs,rfl,e,h⟩
def qt:R2:=fun x y H Q=>∃a b xs ys,x=.ref a/\y=.ref b/\H a=some (.tup xs)/\H b=some (.tup ys)/\xs.length+ys.length<=sizeLine/\∀p H',Ext H H'->H' p=some (.tup (xs++ys))->Q (.ref p) H'
theorem fL{X:Cx}:bo X (binaryOp .Add) qt:=by
 intro pins s σ H x y v u Q I rx ry h
 obtain⟨a,b,xs,ys,rfl,rfl,ha,hb,hz,q⟩:=h
 cases rx
 cases ry
 by_cases hx:xs=[]
 ·subst hx
  obtain⟨its,r1,p1,_⟩:=I.tuple (aj.of ha)
  obtain⟨its2,r2,p2,_⟩:=I.tuple (aj.of hb)
  have e:=r1.nil_iff.mpr rfl
  subst e
  obtain⟨⟨cls,dd,data,sl⟩,ho,hc,n,hd⟩:=id p1
  obtain⟨⟨cls2,dd2,data2,sl2⟩,ho2,hc2,n2,hd2⟩:=id p2
  simp only at hc hd hc2 hd2
  subst hc hd hc2 hd2
  refine concat_meets ⟨_,ho,rfl⟩ ⟨_,ho2,rfl⟩ noFill_tuple_add seq_tuple_add PySem.F.slot_tuple_add PySem.F.entry_tuple_add (PySem.F.args_tuple_add_2 _ _)
   (tuple_addW0 a b _ _ n n2 dd dd2 sl sl2 (by simp)) ⟨ho,ho2,⟨.ref b,H,I,rfl,q b H (fun _ _ h=>h) (by simpa using hb)⟩⟩
 ·refine zV pins s σ H (.ref a) (.ref b) _ _ Q I rfl rfl ⟨a,b,xs,ys,rfl,rfl,aj.of ha,aj.of hb,hx,hz,fun hy=>?_,fun hy p hp=>?_⟩
  ·subst hy
   exact q a H (fun _ _ h=>h) (by simpa using ha)
  ·exact q p _ (bq hp) aY
theorem fu{H:Hp}{Q:VK}{a b:Addr}{xs ys:List V}(ha:H a=some (.tup xs))(hb:H b=some (.tup ys))(hz:xs.length+ys.length<=sizeLine)(h:∀p H',Ext H H'->H' p=some (.tup (xs++ys))->Q (.ref p) H'):qt (.ref a) (.ref b) H Q:=⟨a,b,xs,ys,rfl,rfl,ha,hb,hz,h⟩
theorem wG{K:CJ}{H:Hp}{Q:VK}{p:Addr}{ys:List V}(e:aj K H p ys)(h:cY H (.lst ys) Q):m9 K [.ref p] H Q:=⟨p,ys,rfl,.inr e,h⟩
end L2
namespace L2
open PySem PySem.Spec PyProof.Rows
mutual
inductive LitE:Expr->TE->Prop
 | non {j pos}:LitE (.Constant .none j pos) (tC .non)
 | bl {b j pos}:LitE (.Constant (.bool b) j pos) (tC (.bl b))
 | int {i j pos}:LitE (.Constant (.int i) j pos) (tC (.int i))
 | str {x j pos}:LitE (.Constant (.str x) j pos) (tC (.str x))
 | tup {es ta k pos}:LitsE es ta->LitE (.Tuple es k pos) (lF ta)
inductive LitsE:List Expr->TA->Prop
 | nil:LitsE [] lh
 | cons {e te es ta}:LitE e te->LitsE es ta->LitsE (e::es) (iW te ta)
end
theorem LitE.star{e:Expr}{te:TE}(h:LitE e te)(es:List Expr)(env:Env):starEach (e::es) env=(false,eval e env)::starEach es env:=by
 cases h<;>rfl
end L2
namespace L2
open PySem PySem.Spec PyProof.Rows
section
variable {X:Cx} {pins:List (Addr×Obj)} {σ:St} {H:Hp} {s:Shared}
end
section
variable {X:Cx} {pins:List (Addr×Obj)} {σ:St} {H:Hp} {s:Shared}
end
end L2
namespace L2
open PySem PySem.Spec PyProof.Rows
section
variable {P:Program} {w:World} {K:CJ} {mg:Str->Option Value} {base:Heap}
end
end L2
namespace L2
open PySem PySem.Spec PyProof.Rows
section
variable {prog:Program} {w:World} {A:Around} {E:Value->Shared->Prop}
theorem sy{it l:Addr}{ys:Array Value}(ne:l≠it):∀(n i:Nat) (s:Shared) (Q:List Value->Shared->Prop),s.heap.IsListIter it l i->s.heap.IsList l ys->i+n<=ys.size →
  (∀h',h'.IsListIter it l (i+n)->Heap.SameBut it s.heap h'->Q ((ys.toList.drop i).take n) { s with heap:=h' })->wpAny (model prog w) A (draw (.ref it) n) Q E s
 | 0,i,s,Q,gi,_,_,q=>by
  show wpAny _ _ (pure []) Q E s
  exact CI (by simpa using q s.heap gi (Heap.SameBut.refl ..))
 | n+1,i,s,Q,gi,gl,le,q=>by
  have lt:i<ys.size:=by omega
  show wpAny _ _ (pyNext (Value.ref it) >>= _) Q E s
  refine CH (wpAny_pyNext_list_item gi gl (x:=ys[i]) (by simp[lt]) fun k1 g1 b1=>?_)
  refine CH (wpAny_holding (sy ne n (i+1) _ _ g1 (gl.extBut b1.extBut ne) (by omega) fun k2 g2 b2=>CI ?_))
  have e:ys.toList.drop i=ys[i]::ys.toList.drop (i+1):=by simp[List.drop_eq_getElem_cons,lt]
  have:=q k2 (by rw[show i+(n+1)=i+1+n by omega];exact g2) (b1.trans b2)
  rw[e,List.take_succ_cons]at this
  exact this
theorem yd{s:Shared}{l:Addr}{ys:Array Value}{Q:List Value->Shared->Prop}(hA:A.handled=none)(gl:s.heap.IsList l ys)
  (q:∀h',Heap.ExtBut s.heap.objs.size s.heap h'->Q ys.toList { s with heap:=h' }):wpAny (model prog w) A (unpackItems (.ref l) ys.size none) Q E s:=by
 have lt:l≠s.heap.objs.size:=by obtain⟨o,e,_⟩:=gl;exact Di (CM e)
 unfold unpackItems
 refine CH ?_
 unfold notIterableAtAll
 refine CH (wpAny_specialOf gl.typeIs slot_list_iter.lookup ?_)
 refine CI ?_
 simp only[DG,if_false]
 refine CH (wpAny_holding (wpAny_pyIter_list gl ?_))
 refine CH (wpAny_holding (sy lt ys.size 0 _ _ ⟨_,CL _ rfl,rfl,rfl⟩ (gl.push _) (by omega) fun k1 g1 b1=>?_))
 rw[show List.take ys.size (List.drop 0 ys.toList)=ys.toList by rw[List.drop_zero];exact List.take_of_length_le (by simp),DP (by simp)]
 refine CH (wpAny_holding (wpAny_pyNext_list_end hA g1 ((gl.push _).extBut b1.extBut lt) (by simp) fun k2 b2=>?_))
 simp only[Option.isSome_none,DG,if_false]
 exact CI (q k2 fun b o nb e=>b2 b o nb (b1.extBut b o nb (CK _ e)))
theorem yW{s:Shared}{env:Env}{es:List Expr}{k:Nat}{pos:Pos}{l:Addr}{ys:Array Value}{Q:Unit->Shared->Prop}(hA:A.handled=none)(gl:s.heap.IsList l ys)(hn:(assignEach es env).length=ys.size)(hst:(assignEach es env).findIdx? (·.1)=none)
  (h:∀h',Heap.ExtBut s.heap.objs.size s.heap h'->wpAny (model prog w) A (assignInOrder ((assignEach es env).map (·.2)) ys.toList) Q E { s with heap:=h' }):wpAny (model prog w) A (assign (.Tuple es k pos) env (.ref l)) Q E s:=by
 rw[arm_assign_Tuple]
 refine CH (wpAny_standAt ?_)
 unfold unpack
 rw[hn,hst]
 exact CH (wpAny_holding (yd hA gl h))
end
section
variable {X:Cx} {pos:Pos}
def sJ(K:CJ)(n:Nat)(t:cL):TG:=fun v σ H Q=>∃a xs,v=.ref a/\ai K H a xs/\xs.length=n/\t xs σ H Q
theorem AG{es:List Expr}{k:Nat}{t:cL}{n:Nat}(K:CJ)(hc:X.calm=true)(h:fh X es t)(hK:X.K=K:=by rfl)
  (hn:(assignEach es X.env).length=n:=by rfl) (hst:(assignEach es X.env).findIdx? (·.1)=none:=by rfl):PG X (.Tuple es k pos) (sJ K n t):=by
 subst hK
 intro pins s σ H v u Q I r hw
 obtain⟨a,xs,e1,hq,hl,hw⟩:=hw
 subst e1
 cases r
 obtain⟨its,rv,ht,hz⟩:=I.list hq
 refine yW (I.ok.hd hc) ht.isList (by simp[hn,←hl,rv.length]) hst fun h' hx=>?_
 have I1:Inv X pins σ H { s with heap:=h' }:=I.kept (t':=s.toks) fun b o e=>hx b o (Di (CM e)) e
 exact h pins _ σ H xs _ Q I1 (by simpa using rv) hw
end
theorem yO{K:CJ}{σ:St}{H:Hp}{n:Nat}{g:cL}{a:Addr}{xs:List V}{R:St->Hp->Prop}(e:ai K H a xs)(hl:xs.length=n)(h:g xs σ H R):sJ K n g (.ref a) σ H R:=⟨a,xs,rfl,e,hl,h⟩
theorem rd_par{i j:Nat}{ta:TA}{D:Ends}{σ:St}{H:Hp}(h:ta σ H fun vs H1=>∃v w,vs=[v,w]/\D.nx ((σ.set i (some v)).set j (some w)) H1):sU i j ta D σ H:=h
theorem rd_par2{v w:V}{R:V->V->Prop}(h:R v w):∃a b,[v,w]=[a,b]/\R a b:=⟨v,w,rfl,h⟩
def Et(H H':Hp):Prop:=∀b o,H b=some o->(∀ps,o≠.tbl ps)->H' b=some o
theorem Ext.et{H H':Hp}(e:Ext H H'):Et H H':=fun b o h _=>e b o h
end L2
namespace L2
open PySem PySem.Spec PyProof.Rows
section
variable {κ:Type} [DecidableEq κ]
def cX(kvs:List (κ×V))(k:κ):Option V:=(kvs.find? fun kv=>decide (kv.1=k)).map (·.2)
theorem AR{k:κ}:cX ([]:List (κ×V)) k=none:=rfl
theorem A5{p:κ×V}{r:List (κ×V)}{k:κ}(e:p.1=k):cX (p::r) k=some p.2:=by simp[cX,List.find?_cons,e]
theorem ig{p:κ×V}{r:List (κ×V)}{k:κ}(e:¬p.1=k):cX (p::r) k=cX r k:=by simp[cX,List.find?_cons,e]
theorem fV.isSome_eq{o:Option V}{u:Option Value}(r:fV o u):o.isSome=u.isSome:=by
 cases o with
 | none=>cases u with
  | none=>rfl
  | some _=>exact(show False from r).elim
 | some _=>cases u with
  | none=>exact(show False from r).elim
  | some _=>rfl
theorem KV.val{kvs:List (κ×V)}{vs:List (κ×Value)}(r:KV kvs vs)(k:κ):fV (cX kvs k) (valueAt vs k):=by
 unfold KV at r
 induction r with
 | nil=>exact True.intro
 | @cons p q ps qs h t ih=>
  obtain⟨h1,h2⟩:=h
  by_cases e:p.1=k
  ·have e':q.1=k:=h1.symm.trans e
   have b:valueAt (q::qs) k=some q.2:=by simp[valueAt,List.find?_cons,e']
   rw[A5 e,b];exact h2
  ·have e':¬q.1=k:=fun z=>e (h1.trans z)
   have b:valueAt (q::qs) k=valueAt qs k:=by simp[valueAt,List.find?_cons,e']
   rw[ig e,b];exact ih
theorem KV.keys{kvs:List (κ×V)}{vs:List (κ×Value)}(r:KV kvs vs):kvs.map (·.1)=vs.map (·.1):=by
 unfold KV at r
 induction r with
 | nil=>rfl
 | cons h t ih=>rw[List.map_cons,List.map_cons,ih,h.1]
end
theorem ou{P:Program}{w:World}{k:Key}{u:Value}(r:RelV (kV k) u):(aN P w).is k u=true:=by
 cases k with
 | inl i=>obtain⟨t,e⟩:=(show ∃t,u=Value.int i t from r);subst e;exact Bd P w i t
 | inr x=>obtain⟨t,e⟩:=(show ∃t,u=Value.str x t from r);subst e;exact la P w x t
theorem pG{P:Program}{w:World}:∀{ks:List Key} {us:List Value},Vals (ks.map kV) us->ItemsAre (aN P w) ks us
 | [],_,r=>by rw[List.map_nil]at r;cases r;exact .nil
 | k::ks,_,r=>by
  rw[List.map_cons]at r
  cases r with
  | cons h t=>exact .cons (ou h) (pG t)
section
variable {P:Program} {w:World} {H:Hp} {h:Heap} {a:Addr}
end
section
variable {X:Cx} {pins:List (Addr×Obj)} {σ:St} {H:Hp} {s:Shared} {a:Addr} {y v:V} {u r:Value} {o:Option V} {A:Around} {E:Value->Shared->Prop}
end
section
variable {X:Cx} {pins:List (Addr×Obj)} {σ:St} {H:Hp} {s:Shared} {a:Addr} {kvs:List (Key×V)} {k:Key} {u:Value} {A:Around} {E:Value->Shared->Prop}
end
section
variable {X:Cx} {o i e value:Expr} {pos pos' tpos:Pos} {td ty tv:TE}
end
section
variable {X:Cx} {pos:Pos}
end
section
variable {X:Cx} {pins:List (Addr×Obj)} {σ:St} {H:Hp} {s:Shared} {a:Addr} {y d:V} {u r:Value} {o:Option V} {A:Around} {E:Value->Shared->Prop}
end
section
variable {X:Cx} {o e f:Expr} {apos cpos:Pos} {td ty tx:TE}
end
section
variable {X:Cx} {pins:List (Addr×Obj)} {σ:St} {H:Hp} {s:Shared} {a:Addr} {kvs:List (Key×V)} {A:Around} {E:Value->Shared->Prop}
end
section
variable {X:Cx} {pins:List (Addr×Obj)} {σ:St} {H:Hp} {s:Shared} {a:Addr} {y:V} {u:Value} {A:Around} {E:Value->Shared->Prop}
end
end L2
namespace L2
open PySem PySem.Spec PyProof.Rows
section
variable {X:Cx}
end
section
variable {κ:Type} [DecidableEq κ]
end
end L2
namespace L2
open PySem PySem.Spec PyProof.Rows
theorem zm:entryFor table "proto.unchain" = some Builtin.«proto.unchain»:=entryFor_of_fast (by kernel_rfl)
theorem vG(o:Obj)(f:Array Value->Array Value):(o.mapFields f).dict=o.dict:=by
 unfold Obj.mapFields
 split<;>rfl
def bw(h:Heap)(x:Addr)(dd:Option Addr):Prop:=∃o vs,h.get? x=some o/\o.data=.fields vs/\vs[2]?=some .none/\∀d,dd=some d->o.dict=some d
section
variable {prog:Program} {w:World} {A:Around} {E:Value->Shared->Prop} {s:Shared} {dd:Option Addr}
theorem vS{e:Value}{x:Addr}{Q:Value->Shared->Prop}(hx:bw s.heap x dd)(q:Q .none s):
  wpAny (model prog w) A (runValue (.builtin "proto.unchain" ⟨[e,.ref x,.ref x,.bool false],[]⟩)) Q E s:=by
 obtain⟨o,vs,h1,h2,h3,_⟩:=hx
 refine wpAny_runValue (codeAny_builtin zm ?_)
 unfold Builtin.«proto.unchain»
 refine CH (wpAny_field h1 h2 h3 ?_)
 rw[DQ (show(Value.none == Value.none)=true from rfl)]
 exact CI q
theorem xU{α:Type}{a x:Addr}{o:Obj}{vs:Array Value}{Q:α->Shared->Prop}(hh:A.handled=some (.ref x))(hx:bw s.heap x dd)(hne:x≠a)(ho:s.heap.get? a=some o)(hd:o.data=.fields vs)(hz:2<vs.size)
  (q:∀h',Heap.SameBut a s.heap h'->(∃o',h'.get? a=some o'/\o'.cls=o.cls)->E (.ref a) { s with heap:=h' }):wpAny (model prog w) A (raiseNew (.ref a):Sem α) Q E s:=by
 unfold raiseNew
 refine CH (wpAny_handled ?_)
 rw[hh]
 have n1:(Value.ref x != Value.ref a)=true:=by simp[hne]
 dsimp only
 rw[DQ n1]
 refine CH (wpAny_holding (vS hx ?_))
 refine CH ?_
 show wpAny _ _ (setField (.ref a) 2 (.ref x)) _ _ s
 refine wpAny_setField (i:=2) (x:=.ref x) ho hd hz ?_
 refine wpAny_throw (q _ (Heap.SameBut.update ..) ⟨_,Heap.get?_update_self _ ho (Obj.isFreed_of_fields (Obj.data_mapFields hd _)),Obj.cls_mapFields ..⟩)
theorem bw.keeps{h h':Heap}{x:Addr}(a:bw h x dd)(k:∀b o,h.get? b=some o->h'.get? b=some o):bw h' x dd:=let ⟨o,vs,e,r⟩:=a;⟨o,vs,k _ _ e,r⟩
theorem rq{α:Type}{x:Addr}{Q:α->Shared->Prop}(hh:A.handled=some (.ref x))(hx:bw s.heap x dd)
  (q:∀h' e,(∀b o,s.heap.get? b=some o->h'.get? b=some o)->(∃o,h'.get? e=some o/\o.cls=.type "StopIteration")->E (.ref e) { s with heap:=h' }) :
  wpAny (model prog w) A (Builtin.SmallTypes.stopIteration:Sem α) Q E s:=by
 unfold Builtin.SmallTypes.stopIteration
 refine CH ?_
 unfold newExc newTuple
 refine CH (wpAny_newObj_type ?_ (by size_fits))
 refine CH (wpAny_of_eq (a:=Value.none) (t:=firstArgMember _ _) (by first | rfl | (unfold firstArgMember;rfl)) (wpAny_newObj_type ?_ (by size_fits)))
 have lt:=CM hx.choose_spec.choose_spec.1
 refine xU hh (hx.keeps fun b o e=>CK _ (CK _ e)) (Di ?_) (CL _ rfl) rfl (by simp[ownMembersOf]) fun h' k z=>?_
 ·rw[Heap.size_push];exact Nat.lt_succ_of_lt lt
 ·obtain⟨o',z1,z2⟩:=z
  refine q h' _ (fun b o e=>?_) ⟨o',z1,z2⟩
  have lb:=CM e
  rw[k.2 b (Di (by rw[Heap.size_push];exact Nat.lt_succ_of_lt lb))]
  exact CK _ (CK _ e)
theorem sh{it:Addr}{Q:Option Value->Shared->Prop}
  (h:wpAny (model prog w) A (callSpecial? (.ref it) "__next__") (fun _ _=>False) (fun e s'=>∃p o,e=.ref p/\s'.heap.get? p=some o/\o.cls=.type "StopIteration"/\Q none s') s) :
  wpAny (model prog w) A (pyNext (.ref it)) Q E s:=by
 unfold pyNext
 refine CH (wpAny_attempt (wpAny_mono h (fun _ _ z=>z.elim) fun e s' z=>?_))
 obtain⟨p,o,rfl,z1,z2,z3⟩:=z
 exact CH (wpAny_isInstance (T:="StopIteration") (b:=true) ⟨o,z1,z2⟩ isSubtype_stop (CI z3))
theorem Al{it l x:Addr}{i:Nat}{items:Array Value}{Q:Option Value->Shared->Prop}(hh:A.handled=some (.ref x))(hx:bw s.heap x dd)(hxi:x≠it)
  (hit:s.heap.IsListIter it l i) (hl:s.heap.IsList l items) (hi:items[i]?=none) (hQ:∀h',Heap.ExtBut it s.heap h'->Q none { s with heap:=h' }):wpAny (model prog w) A (pyNext (.ref it)) Q E s:=by
 obtain⟨o,ho,hc,hd⟩:=id hit
 obtain⟨ol,hol,_,nl,hdl⟩:=hl
 refine sh ?_
 refine DL (name:=DB "__next__") hit.typeIs slot_listiter_next (wpAny_call_entry slot_listiter_next hit.typeIs entry_listiter_next ?_ (args_listiter_next _))
 have n0:¬((Value.ref l == Value.none)=true):=Df
 show wpAny _ _ (field (.ref it) 0 >>= fun q=>_) _ _ s
 refine CH (wpAny_field (x:=.ref l) ho hd rfl ?_)
 show wpAny _ _ (ite ((Value.ref l == Value.none)=true) _ _) _ _ s
 rw[DP n0]
 show wpAny _ _ (field (.ref it) 1 >>= fun q=>_) _ _ s
 refine CH (wpAny_field (x:=.int i 0) ho hd rfl ?_)
 show wpAny _ _ (seqItems? (.ref l) >>= fun q=>_) _ _ s
 refine CH (wpAny_seqItems hol hdl ?_)
 simp only[Dd,hi]
 have S:=Heap.SameBut.update s.heap it (Obj.mapFields (·.setIfInBounds 0 Value.none))
 refine CH (wpAny_rule (CH (wpAny_setField (x:=.none) ho hd (by simp) ?_)))
 have al:bw (s.heap.update it (Obj.mapFields (·.setIfInBounds 0 Value.none))) x dd:=by
  obtain⟨ox,vs,e1,r⟩:=hx
  exact⟨ox,vs,(S.2 x hxi).trans e1,r⟩
 refine rq (A:=A.in1) hh al fun h' e k z=>?_
 obtain⟨oz,z1,z2⟩:=z
 exact⟨e,oz,rfl,z1,z2,hQ h' fun b o' hb eb=>k b o' ((S.2 b hb).trans eb)⟩
end
section
variable {M:Model} {A:Around} {E:Value->Shared->Prop} {s:Shared} {dd:Option Addr}
theorem bw.eq{h h':Heap}{x:Addr}(a:bw h x dd)(k:h'.get? x=h.get? x):bw h' x dd:=let ⟨o,vs,e,r⟩:=a;⟨o,vs,k.trans e,r⟩
theorem lj{B:Heap}{l:List Env}{e:Addr}{cls a0 fl:Value}{Q:Unit->Shared->Prop}(k:B.StaysIn s.heap)(hl:s.heap.FunFrames B l)(ht:s.heap.TracedAtW B e cls a0 fl)(al:bw s.heap e dd)
  (q:∀h',B.StaysIn h'->h'.FunFrames B l->h'.TracedW B e cls a0->s.heap.UpToSlots h'->bw h' e dd->Q () { s with heap:=h' }):wpAny M A (setFlight (.ref e) none) Q E s:=by
 obtain⟨oe,vs,T,oT,ts,g1,g2,g3,g4,g5,g6,g7,g8,g9⟩:=ht
 have z:3<ts.size:=(Array.getElem?_eq_some_iff.mp g9).1
 have S:=Heap.SameBut.update s.heap T (Obj.mapFields (·.setIfInBounds 3 ((none:Option Addr).elim Value.none fun f=>rawInt f)))
 have nT:∀b o,s.heap.get? b=some o->(∀us,o.data≠.fields us)->b≠T:=by
  rintro b o hb hn rfl
  rw[g7]at hb
  cases hb
  exact hn ts g8
 have n1:(Value.ref T != Value.none)=true:=by simp
 unfold setFlight
 refine CH (wpAny_field g1 g3 g4 ?_)
 rw[DQ n1]
 refine wpAny_setField g7 g8 z (q _ (fun b o hb=>(S.2 b ?_).trans (k b o hb)) (hl.of_keeps fun b o hb hn=>⟨o,(S.2 b (nT b o hb hn)).trans hb,rfl⟩) ?_ (fun b o hb hn=>⟨o.slots,(S.2 b (nT b o hb hn)).trans hb⟩) (al.eq (S.2 e (Ne.symm g6))))
 ·rintro rfl
  rw[g5]at hb
  cases hb
 ·exact⟨oe,vs,T,_,_,(S.2 e (Ne.symm g6)).trans g1,g2,g3,g4,g5,g6,Heap.get?_update_self _ g7 (Obj.isFreed_of_fields (Obj.data_mapFields g8 _)),Obj.data_mapFields g8 _,by simp[z]⟩
theorem oi{B:Heap}{env:Env}{outer:List Env}{L e:Addr}{oe:Obj}{vs:Array Value}{head a0:Value}{more:Bool}{Q:Unit->Shared->Prop}(hfr:A.frames=some (env::outer))(hl:s.heap.FunFrames B (env::outer))(hf:env.frame=some L)
  (g1:s.heap.get? e=some oe) (k:B.StaysIn s.heap) (hen:B.get? e=none) (g3:oe.data=.fields vs) (z:1<vs.size) (h0:vs[0]?=some a0) (h2:vs[2]?=some .none) (hdd:∀d,dd=some d->oe.dict=some d)
  (q:∀h',Heap.NotedW B (env::outer) e oe.cls a0 (rawInt L) s.heap h'->bw h' e dd->Q () { s with heap:=h' }) :
  wpAny M A (frameOf env >>= fun a=>entryPlaceOf L more >>= fun pl=>EntryCells.newEntry head a .none (rawInt L) .none pl >>= fun b=>setField (.ref e) 1 b) Q E s:=by
 have ne:e∉(env::outer).filterMap (·.frame):=fun hm=>by
  obtain⟨_,o,ho,hn⟩:=hl.mem hm
  rw[g1]at ho
  cases ho
  exact hn vs g3
 refine CH (wpAny_frameOf_fun hfr hl hf fun h1 S1=>CH (wpAny_entryPlaceOf fun pl hpl=>CH ?_))
 unfold EntryCells.newEntry newFields
 refine wpAny_newObj_type ?_ (hpl.sizeOk5 _ _ _ _ _)
 have t3:(([head,.ref L,.none,rawInt L,.none]++(if pl.isEmpty then DF 6 Value.none else pl)).toArray)[3]?=some (rawInt L):=by simp
 generalize ([head,.ref L,.none,rawInt L,.none]++(if pl.isEmpty then DF 6 Value.none else pl)).toArray=ts at t3 ⊢
 have e1:h1.get? e=some oe:=(S1.2.1 e ne).trans g1
 have k1:B.StaysIn h1:=fun b o hb=>(S1.2.1 b fun hm=>by rw[(hl.mem hm).1]at hb;cases hb).trans (k b o hb)
 have nT:h1.objs.size≠e:=Nat.ne_of_gt (CM e1)
 have e2:=CK (h:=h1) { cls:=.type "traceback",dict:=none,data:=.fields ts } e1
 have eT:=CL h1 (o:={ cls:=.type "traceback",dict:=none,data:=.fields ts }) rfl
 refine wpAny_setField e2 g3 z (q _ ?_ ?_)
 all_goals
  have S2:=Heap.SameBut.update (h1.push { cls:=.type "traceback",dict:=none,data:=.fields ts }) e (Obj.mapFields (·.setIfInBounds 1 (Value.ref h1.objs.size)))
  have e3:=Heap.get?_update_self (Obj.mapFields (·.setIfInBounds 1 (Value.ref h1.objs.size))) e2 (Obj.isFreed_of_fields (Obj.data_mapFields g3 _))
  have d3:=Obj.data_mapFields g3 (·.setIfInBounds 1 (Value.ref h1.objs.size))
 ·have up:∀b o,s.heap.get? b=some o->(∀us,o.data≠.fields us)->∃sl,((h1.push { cls:=.type "traceback",dict:=none,data:=.fields ts }).update e (Obj.mapFields (·.setIfInBounds 1 (Value.ref h1.objs.size)))).get? b=some { o with slots:=sl }:=fun b o hb hn=>by
   obtain⟨sl,hs⟩:=S1.2.2 b o hb
   have nb:b≠e:=by
    rintro rfl
    rw[g1]at hb
    cases hb
    exact hn vs g3
   exact⟨sl,(S2.2 b nb).trans (CK _ hs)⟩
  refine⟨fun b o hb=>?_,hl.of_keeps fun b o hb hn=>?_,⟨_,_,h1.objs.size,_,ts,e3,⟨Obj.cls_mapFields ..,?_⟩,d3,?_,k1.fresh,nT,(S2.2 _ nT).trans eT,rfl,t3⟩,up⟩
  ·have nb:b≠e:=by
    rintro rfl
    rw[hen]at hb
    cases hb
   exact(S2.2 b nb).trans (CK _ (k1 b o hb))
  ·obtain⟨sl,z⟩:=up b o hb hn
   exact⟨_,z,rfl⟩
  ·rw[Array.getElem?_setIfInBounds_ne (by decide)];exact h0
  ·simp[z]
 ·refine⟨_,_,e3,d3,by rw[Array.getElem?_setIfInBounds_ne (by decide)];exact h2,fun d z=>?_⟩
  rw[←hdd d z]
  exact vG ..
theorem pT{B:Heap}{env:Env}{outer:List Env}{L e:Addr}{cls a0:Value}{Q:Unit->Shared->Prop}(hfr:A.frames=some (env::outer))(hf:env.frame=some L)(fl:Heap.FlyingW B (env::outer) e cls a0 s.heap)(al:bw s.heap e dd)
  (q:∀h',Heap.HeldW B (env::outer) e cls a0 L h'->s.heap.UpToSlots h'->bw h' e dd->Q () { s with heap:=h' }):wpAny M A (noteFrame (.ref e) env) Q E s:=by
 obtain⟨k,hen,hl,oe,vs,T,oT,ts,g1,⟨rfl,h0⟩,g3,g4,g5,g6,g7,g8,g9⟩:=fl
 have h2:vs[2]?=some .none/\∀d,dd=some d->oe.dict=some d:=by
  obtain⟨o',vs',x1,x2,x3⟩:=al
  rw[g1]at x1
  cases x1
  rw[g3]at x2
  cases x2
  exact x3
 have z:3<ts.size:=(Array.getElem?_eq_some_iff.mp g9).1
 have S:=Heap.SameBut.update s.heap T (Obj.mapFields (·.setIfInBounds 3 Value.none))
 have nT:∀b o,s.heap.get? b=some o->(∀us,o.data≠.fields us)->b≠T:=by
  rintro b o hb hn rfl
  rw[g7]at hb
  cases hb
  exact hn ts g8
 have n1:(Value.ref T != Value.none)=true:=by simp
 have n2:¬((Value.none == rawInt L)=true):=by simp[rawInt]
 unfold noteFrame
 simp only[hf]
 refine CH (wpAny_field g1 g3 g4 ?_)
 rw[DQ n1]
 refine CH (wpAny_field g7 g8 g9 ?_)
 rw[DP n2]
 refine CH (wpAny_setField g7 g8 z ?_)
 refine oi hfr (hl.of_keeps fun b o hb hn=>⟨o,(S.2 b (nT b o hb hn)).trans hb,rfl⟩) hf ((S.2 e (Ne.symm g6)).trans g1) (fun b o hb=>(S.2 b ?_).trans (k b o hb)) hen g3 (Array.getElem?_eq_some_iff.mp g4).1 h0 h2.1 h2.2 fun h' N al'=>?_
 ·rintro rfl
  rw[g5]at hb
  cases hb
 ·obtain⟨x1,x2,x3,x4⟩:=N
  exact q h' ⟨x1,hen,x2,x3⟩ (fun b o hb hn=>x4 b o ((S.2 b (nT b o hb hn)).trans hb) hn) al'
theorem pW{B:Heap}{l:List Env}{e:Addr}{cls a0:Value}{Q:Unit->Shared->Prop}{L:Addr}(fl:Heap.HeldW B l e cls a0 L s.heap)(al:bw s.heap e dd)
  (q:∀h',Heap.FlyingW B l e cls a0 h'->s.heap.UpToSlots h'->bw h' e dd->Q () { s with heap:=h' }):wpAny M A (setFlight (.ref e) none) Q E s:=
 lj fl.1 fl.2.2.1 fl.2.2.2 al fun h' a b c d f=>q h' ⟨a,fl.2.1,b,c⟩ d f
theorem A2{B:Heap}{l:List Env}{e:Addr}{cls a0:Value}{Q:Unit->Shared->Prop}(fl:Heap.FlyingW B l e cls a0 s.heap)(al:bw s.heap e dd)
  (q:∀h',Heap.FlyingW B l e cls a0 h'->s.heap.UpToSlots h'->bw h' e dd->Q () { s with heap:=h' }):wpAny M A (setFlight (.ref e) none) Q E s:=
 lj fl.1 fl.2.2.1 fl.2.2.2.at al fun h' a b c d f=>q h' ⟨a,fl.2.1,b,c⟩ d f
theorem BO{B:Heap}{env:Env}{outer:List Env}{L e:Addr}{cls a0:Value}{Q:Unit->Shared->Prop}(hfr:A.frames=some (env::outer))(hf:env.frame=some L)(fl:Heap.FlyingW B (env::outer) e cls a0 s.heap)(al:bw s.heap e dd)
  (q:∀h',Heap.FlyingW B outer e cls a0 h'->s.heap.UpToSlots h'->bw h' e dd->Q () { s with heap:=h' }):wpAny M A (leaving env (.ref e)) Q E s:=by
 unfold leaving
 refine CH (pT hfr hf fl al fun h1 H1 u1 a1=>pW (s:={ s with heap:=h1 }) H1 a1 fun h2 F2 u2 a2=>?_)
 obtain⟨x1,x2,⟨_,_,x3⟩,x4⟩:=F2
 exact q h2 ⟨x1,x2,x3,x4⟩ (u1.trans u2) a2
structure MadeX(h h':Heap)(e:Addr)(cls:Value)(dd:Option Addr):Prop where
 keeps:∀b o,h.get? b=some o->h'.get? b=some o
 new:h.get? e=none
 there:∃oe vs t,h'.get? e=some oe/\oe.cls=cls/\oe.data=.fields vs/\vs[0]?=some (.ref t)/\vs[1]?=some .none/\vs[2]?=some .none/\1<vs.size/\∀d,dd=some d->oe.dict=some d
theorem MadeX.of{h h':Heap}{e:Addr}{cls:Value}{args:List Value}(hx:Heap.MadeExcOf h h' e cls args):MadeX h h' e cls none:=by
 obtain⟨t,he,_,_⟩:=hx.there
 exact⟨hx.keeps,hx.new,_,_,t,he,rfl,rfl,rfl,rfl,rfl,by simp,fun _ z=>by cases z⟩
theorem BD{B h:Heap}{env:Env}{outer:List Env}{L e:Addr}{cls:Value}{Q:Unit->Shared->Prop}(hfr:A.frames=some (env::outer))(hf:env.frame=some L)(k:B.StaysIn h)(hl:h.FunFrames B (env::outer))(hx:MadeX h s.heap e cls dd)
  (q:∀h' a0,Heap.FlyingW B outer e cls a0 h'->s.heap.UpToSlots h'->bw h' e dd->Q () { s with heap:=h' }):wpAny M A (leaving env (.ref e)) Q E s:=by
 obtain⟨oe,vs,t,he,rfl,hd,h0,h1,h2,hz,hdd⟩:=hx.there
 have fresh:∀b,h.get? b=none->B.get? b=none:=fun b hb=>by
  cases hq:B.get? b with
  | none=>rfl
  | some o'=>exact absurd (k b o' hq) (by rw[hb];intro z;cases z)
 unfold leaving noteFrame
 simp only[hf]
 refine CH (CH (wpAny_field (x:=.none) he hd h1 ?_))
 rw[DP (by decide)]
 refine oi (a0:=.ref t) hfr (hl.of_keeps fun b o hb _=>⟨o,hx.keeps b o hb,rfl⟩) hf he (fun b o hb=>hx.keeps b o (k b o hb)) (fresh e hx.new) hd hz h0 h2 hdd fun h1 N a1=>?_
 obtain⟨x1,x2,x3,x4⟩:=N
 refine lj (s:={ s with heap:=h1 }) x1 x2 x3 a1 fun h2 y1 y2 y3 y4 y5=>?_
 obtain⟨_,_,y2'⟩:=y2
 exact q h2 _ ⟨y1,fresh e hx.new,y2',y3⟩ (Heap.UpToSlots.trans x4 y4) y5
end
end L2
namespace L2
open PySem PySem.Spec PyProof.Rows
theorem bP.obj{P:Program}{w:World}{H:Hp}{h:Heap}{a:Addr}{o:HO}(x:bP P w H h a o):∃ob,h.get? a=some ob:=by
 cases o with
 | lst xs=>obtain⟨_,_,_,_,e⟩:=x;exact⟨_,e⟩
 | tup xs=>obtain⟨_,_,_,ob,e,_⟩:=x;exact⟨_,e⟩
 | dK kvs=>obtain⟨_,_,_,_,ob,es,ep,e,_⟩:=x;exact⟨_,e⟩
 | dT kvs=>obtain⟨_,_,_,_,ob,es,ep,e,_⟩:=x;exact⟨_,e⟩
 | set S n=>obtain⟨ob,es,ep,t,e,_⟩:=x;exact⟨_,e⟩
 | ins C dx fs=>obtain⟨_,_,_,e,_⟩:=x;exact⟨_,e⟩
 | own y=>exact x
 | xd fs=>obtain⟨mA,hn,_⟩:=x;obtain⟨ob,es,ep,e,_⟩:=hn;exact⟨_,e⟩
 | rng lo hi=>obtain⟨_,_,_,e⟩:=x;exact⟨_,e⟩
 | frz ob u=>exact⟨_,x.1⟩
 | tbl ps=>exact⟨_,x⟩
 | met f y=>exact⟨_,x⟩
 | ext φ=>exact x.2.1
structure Fly(P:Program)(w:World)(outer:List Env)(H:Hp)(s:Shared)(x:Addr)(cls:Value)(da:Option Addr)(H':Hp)(s':Shared):Prop where
 os:s'.os=s.os
 bare:AllBare s'.gens
 un:Un (aS outer) [] H H' s.heap s'.heap
 hok:bD P w H' s'.heap
 new:H' x=none
 alone:bw s'.heap x da
 fly:∃B a0,Heap.FlyingW B outer x cls a0 s'.heap/\(∀b o,s'.heap.get? b=some o->H' b≠none->B.get? b=some o) ∧
  ∀b o o',s.heap.get? b=some o->b∉aS outer->s'.heap.get? b=some o'->B.get? b=some o'
def bV(P:Program)(w:World):dk:=fun outer H s E e s'=>∃x cls da H',e=.ref x/\E cls da H'/\Fly P w outer H s x cls da H' s'
section
variable {P:Program} {w:World} {K:CJ} {mg:Str->Option Value} {base:Heap} {N:List Str} {qual:Str} {scope:Scope} {f:Addr} {cd:Value} {A:Around} {outer:List Env} {s₀:Shared} {H₀:Hp} {E:XK}
theorem sV{l:List Env}{env:Env}{a:Addr}(h:env∈l)(e:env.frame=some a):a∈aS l:=List.mem_filterMap.mpr ⟨env,h,e⟩
theorem wX{pins:List (Addr×Obj)}{σ:St}{H:Hp}{s:Shared}{h1:Heap}{tk:Nat}{e:Addr}{cls:Value}{da:Option Addr}(I:Inv (bI (bV P w) P w K mg base N qual scope f cd A outer s₀ H₀ E) pins σ H s)
  (hx:MadeX s.heap h1 e cls da) (hE:E cls da H):(bI (bV P w) P w K mg base N qual scope f cd A outer s₀ H₀ E).xe (.ref e) { s with heap:=h1,toks:=tk }:=by
 have stk:(bI (bV P w) P w K mg base N qual scope f cd A outer s₀ H₀ E).stack=envOfC qual scope s₀.heap.objs.size f cd::outer:=rfl
 have hL:∀b∈aS (envOfC qual scope s₀.heap.objs.size f cd::outer),b∈aS outer\/b=s₀.heap.objs.size:=fun b hb=>by
  have:=I.stkSub b hb
  rcases De.mp this with z | z
  ·exact .inr z
  ·exact .inl z
 have hfr:∀env∈(envOfC qual scope s₀.heap.objs.size f cd::outer),∀a,env.frame=some a->a∈aS (envOfC qual scope s₀.heap.objs.size f cd::outer):=fun env he a ha=>sV he ha
 have hff:=PySem.W.funFrames_hide I.stack hfr
 have low:∀b o,s₀.heap.get? b=some o->b∉aS outer->b∉aS (envOfC qual scope s₀.heap.objs.size f cd::outer):=fun b o hb hn hm=>by
  rcases hL b hm with z | z
  ·exact hn z
  ·exact absurd (CM hb) (by rw[z];exact Nat.lt_irrefl _)
 refine BD (B:=PySem.W.hideAll s.heap (aS (envOfC qual scope s₀.heap.objs.size f cd::outer))) (h:=s.heap) I.ok.frames rfl (fun b o q=>PySem.W.of_hideAll _ q) hff hx fun h' t x1 x4 x5=>?_
 have up:∀b∈aS (envOfC qual scope s₀.heap.objs.size f cd::outer),∀o,s.heap.get? b=some o->∃sl,h'.get? b=some { o with slots:=sl }:=fun b hb o ho=>by
  obtain⟨_,o',ho',hd⟩:=hff.mem hb
  rw[ho]at ho'
  cases ho'
  exact x4 b o (hx.keeps b o ho) hd
 have stay:∀b o,b∉aS (envOfC qual scope s₀.heap.objs.size f cd::outer)->s.heap.get? b=some o->h'.get? b=some o:=fun b o hn ho=>x1.1 b o (PySem.W.hideAll_get _ ho hn)
 have eS:∀b,H b≠none->b∉aS (envOfC qual scope s₀.heap.objs.size f cd::outer):=fun b hb hm=>hb (I.stkFree b hm)
 have U:=I.base
 have hnew:H e=none:=by
  cases hq:H e with
  | none=>rfl
  | some u=>
   obtain⟨ob,z⟩:=(I.hok e u hq).obj
   rw[hx.new]at z
   cases z
 refine⟨e,cls,da,H,rfl,hE,I.os,I.bare,⟨fun b o q n hb _=>stay b o (low b o q hb) (U.keep b o q n hb (by intro z;cases z)),fun b o q n hb _=>?_,fun b o q n _=>U.free b o q n (by intro z;cases z),fun b o q _=>?_,U.tups,U.frzs,U.tbls⟩,fun a o q=>?_,hnew,x5,_,_,x1,fun b o q hb=>?_,fun b o o' q hb q'=>?_⟩
 ·obtain⟨sl,e1⟩:=U.slot b o q n hb (by intro z;cases z)
  obtain⟨sl',e2⟩:=up b (by show b∈List.filterMap _ (_::_);exact CQ _ hb) _ e1
  exact⟨sl',e2⟩
 ·obtain⟨o1,e1⟩:=U.there b o q (by intro z;cases z)
  by_cases hb:b∈aS (envOfC qual scope s₀.heap.objs.size f cd::outer)
  ·obtain⟨sl,e2⟩:=up b hb _ e1
   exact⟨_,e2⟩
  ·exact⟨_,stay b _ hb e1⟩
 ·refine(I.hok a o q).stay (fun b u hb z=>stay b u (eS b ?_) z) (fun _ z=>z) fun _ _ z=>z
  rcases hb with rfl | hb
  ·rw[q];intro z;cases z
  ·rw[hb];intro z;cases z
 ·obtain⟨o1,e1⟩:∃o1,s.heap.get? b=some o1:=by
   cases hq:H b with
   | none=>exact absurd hq hb
   | some u=>exact(I.hok b u hq).obj
  have:=stay b o1 (eS b hb) e1
  rw[q]at this
  cases this
  exact PySem.W.hideAll_get _ e1 (eS b hb)
 ·obtain⟨o1,e1⟩:=U.there b o q (by intro z;cases z)
  have hn:=low b o q hb
  have:=stay b o1 hn e1
  rw[q']at this
  cases this
  exact PySem.W.hideAll_get _ e1 hn
theorem zc{E':XK}(hEE:∀cls da H,E' cls da H->E cls da H):Passes (bV P w) (bI (bV P w) P w K mg base N qual scope f cd A outer s₀ H₀ E) E':=by
 intro pins σ H s e s' I h
 obtain⟨x,cls,da,H',rfl,hE,F⟩:=h
 obtain⟨B,a0,fl,f1,f2⟩:=F.fly
 have hL:∀b∈aS (envOfC qual scope s₀.heap.objs.size f cd::outer),b∈aS outer\/b=s₀.heap.objs.size:=fun b hb=>by
  rcases De.mp (I.stkSub b hb)with z | z
  ·exact .inr z
  ·exact .inl z
 have low:∀b o,s₀.heap.get? b=some o->b∉aS outer->b∉aS (envOfC qual scope s₀.heap.objs.size f cd::outer):=fun b o hb hn hm=>by
  rcases hL b hm with z | z
  ·exact hn z
  ·exact absurd (CM hb) (by rw[z];exact Nat.lt_irrefl _)
 have U:=I.base
 have no:∀b:Addr,b∉([]:List Addr):=fun b z=>by cases z
 refine BO I.ok.frames rfl fl F.alone fun h' x1 x2 x3=>?_
 have two:∀b o,s₀.heap.get? b=some o->∃o1 o2,s.heap.get? b=some o1/\s'.heap.get? b=some o2:=fun b o q=>by
  obtain⟨o1,e1⟩:=U.there b o q (no b)
  obtain⟨o2,e2⟩:=F.un.there b o1 e1 (no b)
  exact⟨o1,o2,e1,e2⟩
 have stay:∀b o o2,s₀.heap.get? b=some o->b∉aS outer->s'.heap.get? b=some o2->B.get? b=some o2:=fun b o o2 q hb q2=>by
  obtain⟨o1,o2',e1,e2⟩:=two b o q
  exact f2 b o1 o2 e1 (low b o q hb) q2
 have hff:=fl.2.2.1
 refine⟨x,cls,da,H',rfl,hEE _ _ _ hE,F.os.trans I.os,F.bare,⟨fun b o q n hb _=>?_,fun b o q n hb _=>?_,fun b o q n _=>?_,fun b o q _=>?_,fun b xs q=>F.un.tups b xs (U.tups b xs q),fun b o u q=>F.un.frzs b o u (U.frzs b o u q),fun b ps q=>?_⟩,fun a o q=>?_,F.new,x3,B,a0,x1,fun b o q hb=>?_,fun b o o' q hb q'=>?_⟩
 ·have e1:=U.keep b o q n hb (no b)
  have e2:=F.un.keep b o e1 (U.free b o q n (no b)) (low b o q hb) (no b)
  exact x1.1 b o (stay b o o q hb e2)
 ·obtain⟨sl,e1⟩:=U.slot b o q n hb (no b)
  have hb':b∈aS (envOfC qual scope s₀.heap.objs.size f cd::outer):=by show b∈List.filterMap _ (_::_);exact CQ _ hb
  obtain⟨sl2,e2⟩:=F.un.slot b _ e1 (U.free b o q n (no b)) hb' (no b)
  obtain⟨_,o',ho',hd⟩:=hff.mem hb'
  rw[e2]at ho'
  cases ho'
  obtain⟨sl3,e3⟩:=x2 b _ e2 hd
  exact⟨sl3,e3⟩
 ·obtain⟨o1,e1⟩:=U.there b o q (no b)
  exact F.un.free b o1 e1 (U.free b o q n (no b)) (no b)
 ·obtain⟨o1,o2,e1,e2⟩:=two b o q
  by_cases hb:b∈aS outer
  ·have hb':b∈aS (envOfC qual scope s₀.heap.objs.size f cd::outer):=by show b∈List.filterMap _ (_::_);exact CQ _ hb
   obtain⟨_,o',ho',hd⟩:=hff.mem hb'
   obtain⟨sl3,e3⟩:=x2 b _ ho' hd
   exact⟨_,e3⟩
  ·exact⟨_,x1.1 b o2 (stay b o o2 q hb e2)⟩
 ·obtain⟨m1,e1⟩:=U.tbls b ps q
  obtain⟨m2,e2⟩:=F.un.tbls b _ e1
  exact⟨m1++m2,by rw[e2,Array.append_assoc]⟩
 ·refine(F.hok a o q).stay (fun b u hb z=>x1.1 b u (f1 b u z ?_)) (fun _ z=>z) fun _ _ z=>z
  rcases hb with rfl | hb
  ·rw[q];intro z;cases z
  ·rw[hb];intro z;cases z
 ·obtain⟨o1,e1⟩:∃o1,s'.heap.get? b=some o1:=by
   cases hq:H' b with
   | none=>exact absurd hq hb
   | some u=>exact(F.hok b u hq).obj
  have e2:=f1 b o1 e1 hb
  have:=x1.1 b o1 e2
  rw[q]at this
  cases this
  exact e2
 ·obtain⟨o1,o2,e1,e2⟩:=two b o q
  have e3:=stay b o o2 q hb e2
  have:=x1.1 b o2 e3
  rw[q']at this
  cases this
  exact e3
end
end L2
namespace L2
open PySem PySem.Spec PyProof.Rows
section
variable {prog:Program} {w:World} {A:Around} {E:Value->Shared->Prop} {K:CJ} {x D:Addr} {ox:Obj} {s:Shared}
structure InstC(h:Heap)(x:Addr)(ox:Obj)(D:Addr):Prop where
 at_:h.get? x=some ox
 cls:ox.cls=.ref D
theorem InstC.type{M:Model}{h:Heap}{y C:Addr}{oy:Obj}(I:InstC h y oy C):PySem.W.Looks M h (typeOf (.ref y)) (.ref C):=by
 have z:PySem.W.Looks M h (typeOf (.ref y)) oy.cls:=(PySem.W.Looks.ld I.at_).andThen .now
 rwa [I.cls]at z
theorem AF{M:Model}{h:Heap}(X:K.In h)(ha:PySem.W.findIn K (.ref D) "__class__" = some (some (.builtin "object.__class__")))(hg:PySem.W.specialIn K (.builtin "object.__class__") "__get__" = some (some (.builtin "getset_descriptor.__get__")))
  (ht:PySem.W.takesIn K (.builtin "object.__class__")=some true):PySem.W.Looks M h (Builtin.ObjectAttr.find (.ref x) (.ref D) "__class__") (.bind (.builtin "getset_descriptor.__get__") (.builtin "object.__class__")):=by
 have L1:=PySem.W.looks_findIn (M:=M) X ha
 have L2:PySem.W.Looks M h (Builtin.ObjectAttr.getOf (some (.builtin "object.__class__"))) (some (.builtin "getset_descriptor.__get__")):=PySem.W.looks_specialIn X hg
 have L3:=PySem.W.looks_takesIn (M:=M) X ht
 refine L1.andThen (L2.andThen ?_)
 refine PySem.W.Looks.andThen (a:=some (.builtin "getset_descriptor.__get__",.builtin "object.__class__")) (L3.andThen ?_) (PySem.W.Looks.tag .now)
 rw[DQ rfl]
 exact .now
theorem AH{tp:Value}{R:Result->Shared->Prop}(X:K.In s.heap)(I:InstC s.heap x ox D)(hm:PySem.W.mroIn K D (.type "object")=some true)(hq:R (.ok (.ret (.ref D))) s):
  codeAny (model prog w) A (.call (.builtin "getset_descriptor.__get__") ⟨[.builtin "object.__class__",.ref x,tp],[]⟩) R s:=by
 obtain⟨hh,g,d,t,os⟩:=s
 have T0:=I.type (M:=model prog w)
 have T1:=PySem.W.looks_mroIn (M:=model prog w) X hm
 refine codeAny_call_builtin PySem.W.KF.slot_gs.plain PySem.W.KF.entry_gs (PySem.W.KF.slot_gs.check _ _ _ _ _ _ _ _ PySem.W.KF.type_class (PySem.W.KF.args_gs _ _ _) ?_)
 unfold Builtin.«getset_descriptor.__get__» Builtin.Getset_descriptor.descrGet;rw[PySem.W.dga_obj]
 refine CH (CI ?_);unfold Builtin.Getset_descriptor.descrGetter Builtin.Getset_descriptor.descrCheckInstance Builtin.Getset_descriptor.descrNameAndClass isInstance
 simp only[PySem.W.KF.owner_class];repeat lk
 refine⟨Code.quiet_builtin _ (by decide +kernel),codeAny_builtin PySem.W.KF.entry_class ?_⟩
 unfold Builtin.«object.__class__» shownTypeOf;repeat lk
 exact hq
theorem xn{tk:Tok}{Q:Fin->Shared->Prop}(X:K.In s.heap)(I:InstC s.heap x ox D)(ha:PySem.W.findIn K (.ref D) "__class__" = some (some (.builtin "object.__class__")))(hg:PySem.W.specialIn K (.builtin "object.__class__") "__get__" = some (some (.builtin "getset_descriptor.__get__")))
  (ht:PySem.W.takesIn K (.builtin "object.__class__")=some true) (hm:PySem.W.mroIn K D (.type "object")=some true)
  (hq:Q (.done (.ret (.ref D))) s):wpAny (model prog w) A (Builtin.«object.__getattribute__» ⟨[.ref x,.str "__class__" tk],[]⟩) Q E s:=by
 obtain⟨hh,g,d,t,os⟩:=s
 have L0:=I.type (M:=model prog w)
 have L1:=AF (M:=model prog w) (x:=x) X ha hg ht
 unfold Builtin.«object.__getattribute__»
 refine CH (CI (CH (CI (CH (L0.at (CH (L1.at ?_)))))))
 show wpAny _ _ (holding [Value.builtin "object.__class__"] (call (Value.builtin "getset_descriptor.__get__") [.builtin "object.__class__",.ref x,.ref D]) >>= ret) _ _ _
 exact CH (wpAny_holding (wpAny_call (AH (s:=⟨hh,g,d,t,os⟩) X I hm (CI hq))))
theorem v9{nameV:Value}{M:Model}{Q:Unit->Shared->Prop}(X:K.In s.heap)(I:InstC s.heap x ox D)(hs:PySem.W.subIn K (.ref D) (.type "BaseException")=some true)(hq:Q () s):
  wpAny M A (checkBuiltinCall "BaseException.__getattribute__" ⟨[.ref x,nameV],[]⟩) Q E s:=by
 have k1:builtinKind "BaseException.__getattribute__" = some .slot:=by decide +kernel
 have k2:splitId "BaseException.__getattribute__" = some ("BaseException","__getattribute__"):=by decide +kernel
 have k3:=PySem.F.args_bexc_ga (.ref x) nameV
 have LI:PySem.W.Looks M s.heap (isInstance (.ref x) (.type "BaseException")) true:=(I.type (M:=M)).andThen (PySem.W.looks_subIn X hs)
 obtain⟨hh,g,d,t,os⟩:=s
 simp only[checkBuiltinCall,k1,k2]
 refine CH (LI.at ?_)
 repeat (any_goals (first | assumption | wp_step))
structure ExcK(K:CJ)(D:Addr):Prop where
 lk:∃c d cd sl,K.lookup D=some ⟨c,d,.cls cd,sl⟩
 ga:PySem.W.findIn K (.ref D) "__getattribute__" = some (some (.builtin "BaseException.__getattribute__"))
 gt:PySem.W.findIn K (.ref D) "__getattr__" = some none
 sb:PySem.W.subIn K (.ref D) (.type "BaseException")=some true
 cf:PySem.W.findIn K (.ref D) "__class__" = some (some (.builtin "object.__class__"))
 cg:PySem.W.specialIn K (.builtin "object.__class__") "__get__" = some (some (.builtin "getset_descriptor.__get__"))
 ct:PySem.W.takesIn K (.builtin "object.__class__")=some true
 mo:PySem.W.mroIn K D (.type "object")=some true
theorem AV{Q:Option Value->Shared->Prop}(X:K.In s.heap)(I:InstC s.heap x ox D)(F:ExcK K D)
  (h:Q (some (.ref D)) { s with toks:=s.toks+1 }):wpAny (model prog w) A (getAttr? (.ref x) "__class__") Q E s:=by
 obtain⟨hh,g,d,t,os⟩:=s
 have L0:=I.type (M:=model prog w)
 have L1:=PySem.W.looks_findIn (M:=model prog w) X F.ga
 have L2:=PySem.W.looks_findIn (M:=model prog w) X F.gt
 unfold getAttr? getAttrBy? getAttrBy
 refine CH (wpAny_mkText (CH (wpAny_attempt (wpAny_holding (CH (L0.at (CH (L1.at ?_))))))))
 repeat (any_goals (first | assumption | wp_step | lk))
 refine codeAny_call_builtin (PySem.F.excAttr_ValueError).ga.plain PySem.F.entry_bexc_ga (v9 (s:=⟨hh,g,d,t+1,os⟩) X I F.sb (xn (s:=⟨hh,g,d,t+1,os⟩) X I F.cf F.cg F.ct F.mo ?_))
 repeat (any_goals (first | assumption | wp_step | lk))
theorem mV(F:ExcK K D):PySem.W.KitX K (.ref x) (.ref D) (fun h=>InstC h x ox D) where
 ty:=fun _ _ _ I=>I.type
 it:=fun M h X _=>by
  obtain⟨c,d,cd,sl,ho⟩:=F.lk
  intro A' Q' E' s' k q
  unfold isType loadHead
  exact CH (wpAny_loadPart (k _ _ (X _ _ ho)) (CI q))
 ne:=fun h tp dd its n sl X htp=>by
  obtain⟨c,d,cd,sl',ho⟩:=F.lk
  rw[Bool.eq_false_iff]
  intro q
  cases(show D=tp from Value.ref.inj (eq_of_beq q))
  have z:=X _ _ ho
  rw[htp]at z
  cases z
 ca:=fun X I k=>AV X I F k
end
abbrev b6(X:Cx)(x:Addr)(oe:Obj):Cx:={ X with A:=X.A.mark (some (.ref x)),calm:=false,pn:=(x,oe)::X.pn,xe:=fun _ _=>False }
abbrev m8(X:Cx)(x:Addr):Cx:={ X with A:=X.A.mark (some (.ref x)),calm:=false,xe:=fun _ _=>False }
section
variable {X:Cx} {pins:List (Addr×Obj)} {σ:St} {H:Hp} {s:Shared} {x:Addr} {oe:Obj}
theorem Cx.Ok.marked(ok:X.Ok)(x:Addr):(m8 X x).Ok:=
 ⟨ok.mod,ok.kind,ok.glob,ok.blt,ok.above,ok.inj,ok.has,ok.cab,(fun z=>Bool.noConfusion z),ok.frames,ok.stk,ok.exf,ok.bs,ok.bsz,ok.noex,ok.exfs,ok.funs,ok.frf⟩
theorem Inv.marked(I:Inv X pins σ H s)(x:Addr):Inv (m8 X x) pins σ H s:=⟨I.ok.marked x,I.os,I.bare,I.base,I.loc,I.cell,I.free,I.freeC,I.pin,I.hok,I.len⟩
theorem Inv.pinH(I:Inv X pins σ H s)(h1:s.heap.get? x=some oe)(h2:H x=none)(h3:x≠X.env.locals)(h4:x∉X.fs)(h5:∀v,oe.data≠.cell v):Inv (b6 X x oe) pins σ H s:=
  ⟨⟨I.ok.mod,I.ok.kind,I.ok.glob,I.ok.blt,I.ok.above,I.ok.inj,I.ok.has,I.ok.cab,(fun z=>Bool.noConfusion z),I.ok.frames,I.ok.stk,I.ok.exf,I.ok.bs,I.ok.bsz,I.ok.noex,I.ok.exfs,I.ok.funs,I.ok.frf⟩,I.os,I.bare,I.base,I.loc,I.cell,I.free,I.freeC,
    fun p hp=>by
      rcases De.mp hp with rfl | hp
      · exact ⟨h1,h2,h3,h4,h5⟩
      · exact I.pin p hp,I.hok,I.len⟩
theorem Inv.unpinH(ok:X.Ok)(I:Inv (b6 X x oe) pins σ H s):Inv X pins σ H s:=⟨ok,I.os,I.bare,I.base,I.loc,I.cell,I.free,I.freeC,fun p hp=>I.pin p (CQ _ hp),I.hok,I.len⟩
def m5(K:CJ)(x D:Addr):List V->Hp->VK->Prop:=fun xs H Q=>∃b:Bool,((∃C,xs=[.ref x,.ref C]/\PySem.W.kitOne K (.ref D) (.ref C)=some b)\/(∃T,xs=[.ref x,.ty T]/\PySem.W.kitOne K (.ref D) (.type T)=some b) ∨
 ∃(p:Addr) (Cs:List Addr),xs=[.ref x,.ref p]/\H p=some (.tup (Cs.map V.ref))/\PySem.W.kitAny K (.ref D) (Cs.map Value.ref)=some b)/\Q (.bl b) H
theorem tK:∀{Cs:List Addr} {us:List Value},Vals (Cs.map V.ref) us->us=Cs.map Value.ref
 | [],_,r=>by cases r;rfl
 | _::_,_,r=>by
  cases r with
  | cons r t=>cases r;rw[tK t];rfl
theorem ki{D:Addr}(F:ExcK X.K D)(hc:oe.cls=.ref D):bH (b6 X x oe) (.builtin "isinstance") (m5 X.K x D):=by
 intro pins s σ H xs us Q I r h
 obtain⟨b,h,q⟩:=h
 have p:=(I.pin (x,oe) (DE _ CU)).1
 have J:InstC s.heap x oe D:=⟨p,hc⟩
 rcases h with⟨C,rfl,hk⟩ | ⟨T,rfl,hk⟩ | ⟨tp,Cs,rfl,ht,hk⟩
 ·obtain⟨u,w',rfl,r1,r2⟩:=vals2 r
  cases(show u=Value.ref x from r1)
  cases(show w'=Value.ref C from r2)
  exact PySem.W.kia_one (mV F) I.kIn J hk (fun z=>nomatch z) fun tk=>⟨.bl b,H,I.tok tk,rfl,q⟩
 ·obtain⟨u,w',rfl,r1,r2⟩:=vals2 r
  cases(show u=Value.ref x from r1)
  cases(show w'=Value.type T from r2)
  exact PySem.W.kia_one (mV F) I.kIn J hk (fun z=>nomatch z) fun tk=>⟨.bl b,H,I.tok tk,rfl,q⟩
 ·obtain⟨u,w',rfl,r1,r2⟩:=vals2 r
  cases(show u=Value.ref x from r1)
  cases(show w'=Value.ref tp from r2)
  obtain⟨its,rv,⟨⟨cls,dd,data,sl⟩,ho,hcl,n,hdt⟩,_⟩:=I.tuple (aj.of ht)
  simp only at hcl hdt
  subst hcl hdt
  rw[tK rv]at ho
  exact PySem.W.kia_tup (mV F) I.kIn J ho hk (fun z=>nomatch z) fun tk=>⟨.bl b,H,I.tok tk,rfl,q⟩
end
def p7(cls:Value)(E:XK)(t:TA):TS:=fun _ σ H=>t σ H fun vs H1=>vs.length<=sizeLine/\E cls none H1
theorem BW{K:CJ}{h:Heap}{mg:Str->Option Value}{x:Str}{C:Addr}{bm:List Value}{nid:String}(X:K.In h)(G:h.Ns mainGlobals mg)(e:PySem.W.nsIn K mainGlobals x=some (some (.ref C)))(q:PySem.W.excIn K C bm nid=true):OwnCls x C bm nid mg h:=by
 constructor
 ·exact PySem.W.mg_of X G e
 ·unfold PySem.W.excIn at q
  cases hl:K.lookup C with
  | none=>rw[hl]at q;cases q
  | some o=>
   rw[hl]at q
   obtain⟨cl,dd,data,sl⟩:=o
   split at q
   ·rename_i hh
    cases hh
    split at q
    ·rename_i _ cd _ _ C' bm' k0 k1 k2 k3 n k5 hm hs
     simp only[DA,beq_iff_eq,Bool.not_eq_true']at q
     obtain⟨⟨⟨⟨⟨rfl,rfl⟩,d0⟩,t0⟩,o0⟩,i0⟩:=q
     obtain⟨nm,bs,mro,ns,qn,hd,sn,sub,ab,col,del⟩:=cd
     try dsimp only at hm d0 o0 i0
     subst hm d0
     obtain⟨l⟩:=sl
     simp only at hs
     subst hs
     exact⟨_,_,_,_,_,_,_,_,_,_,_,_,_,_,_,_,_,X _ _ hl,.of_isNs (PySem.W.isNs_of_in X o0),PySem.W.nsMap_none_of_in X o0 i0,PySem.W.tail_of_in X t0⟩
    ·cases q
   ·cases q
section
variable {P:Program} {w:World} {K:CJ} {mg:Str->Option Value} {base:Heap} {N:List Str} {qual:Str} {scope:Scope} {f:Addr} {cd:Value} {A:Around} {outer:List Env} {s₀:Shared} {H₀:Hp} {E:XK}
theorem kE{x:Str}{C:Addr}{B nid iid:String}{bm:List Value}{np cpos pos:Pos}{e:Expr}{es:List Expr}{t:TA}(O:OwnCls x C bm nid mg base)(FB:ExcBaseFacts B nid iid bm)
  (ha:PA (bI (bV P w) P w K mg base N qual scope f cd A outer s₀ H₀ E) (e::es) t) (hg:Gl (bI (bV P w) P w K mg base N qual scope f cd A outer s₀ H₀ E) x:=by rfl) (hd:(x == ("__debug__":Str))=false:=by decide)
  (he:starEach (e::es) (bI (bV P w) P w K mg base N qual scope f cd A outer s₀ H₀ E).env=(false,eval e (bI (bV P w) P w K mg base N qual scope f cd A outer s₀ H₀ E).env)::starEach es (bI (bV P w) P w K mg base N qual scope f cd A outer s₀ H₀ E).env:=by rfl)
  (hpl:(backTo cpos (starEach es (bI (bV P w) P w K mg base N qual scope f cd A outer s₀ H₀ E).env)).any (·.1)=false:=by rfl) :
  PS (bI (bV P w) P w K mg base N qual scope f cd A outer s₀ H₀ E) (.Raise (some (.Call (.Name x np) (e::es) [] cpos)) none pos) (p7 (.ref C) E t):=by
 intro pins s σ H D I h
 obtain⟨tl,Nn,nm,q,bs,hdct,sn,sub,ab,col,dd,k0,k1,k2,k3,k5,mN,hC,hN,hni,T⟩:=O.obj
 refine wpAny_Raise_call_subT (newId:=nid) (k5:=k5) (k3:=k3) (k2:=k2) (k1:=k1) (k0:=k0) (dd:=dd) (col:=col) (ab:=ab) (sub:=sub) (sn:=sn) (hdct:=hdct) (bs:=bs) (q:=q) (nm:=nm) (C:=C) (N:=Nn) (bm:=tl) FB (mN:=mN) (T.hasType FB.hasBase) (I.ok.hd rfl) (by rw[he];show(false || (backTo cpos (starEach es _)).any (·.1))=false;rw[hpl];rfl) hni (gL I hg O.bound ⟨rfl,?_⟩ hd)
 rw[he]
 have ha':=ha cpos pins s σ H _ I h
 rw[he]at ha'
 exact Calls.evalArgs_plain (ax ha' fun us s1 ⟨vs,H1,I1,r,z,q⟩=>⟨rfl,by rw[←r.length];exact z,I1.bk _ _ hC,hN.keeps I1.bk,T.keeps I1.bk,fun h' e hx=>wX (tk:=s1.toks) I1 (MadeX.of hx) q⟩)
end
def tR(a:Str)(te:TE):TE:=fun σ H Q=>te σ H fun v H1=>∃i:Int,v=.int i/\i.natAbs.log2<1920/\(Str.empty++a++(toString i:Str)).length<=sizeLine/\∀z,Q (.str z) H1
theorem qG{X:Cx}{a:Str}{j:Nat}{e:Expr}{te:TE}{p1 p2 pos:Pos}(he:PE X e te)(hz:(Str.empty++a).length<=sizeLine:=by decide +kernel):PE X (.JoinedStr [.Constant (.str a) j p1,.FormattedValue e (-1) none p2] pos) (tR a te):=by
 intro pins s σ H Q I h
 refine JoinedStr_many (joinParts_cons (ax ((aw:PE X (.Constant (.str a) j p1) (tC (.str a))) pins s σ H (fun v H1=>v=V.str a/\H1=H) I ⟨rfl,rfl⟩) fun v s1 ⟨x,H1,I1,r1,q1,q2⟩=>?_))
 subst q1 q2
 obtain⟨t,rfl⟩:=r1
 refine⟨hz,joinParts_cons (FormattedValue_plain (ax (he pins s1 σ H1 _ I1 h) fun v s2 ⟨y,H2,I2,r2,i,e2,hl,hz2,q⟩=>?_))⟩
 subst e2
 obtain⟨t2,rfl⟩:=r2
 refine formatField_int_small hl ⟨hz2,joinParts_nil ⟨.str _,H2,I2.tok _,⟨_,rfl⟩,q _⟩ hz2⟩
theorem i7{X:Cx}{pins:List (Addr×Obj)}{σ:St}{H:Hp}{s:Shared}{M:Model}{A:Around}{E:Value->Shared->Prop}{i:Nat}{x:Str}{pos:Pos}{Q:Unit->Shared->Prop}(I:Inv X pins σ H s)(hN:X.N.Nodup)(hi:X.N[i]?=some x)(hk:X.env.kindOf x=some .local)
  (h:∀s',Inv X pins (σ.set i none) H s'->Q () s'):wpAny M A (do bindName X.env x .none;unbindBehindTheSuite X.env x pos) Q E s:=by
 obtain⟨m,hn,hl⟩:=id I.loc
 have hiσ:i<σ.length:=by rw[I.len];exact(CW.mp hi).1
 have cne:=I.cne
 refine wpAny_nameGoes_keeps hk hn (by rw[I.ok.kind];rfl) fun h' v hn' hs=>?_
 obtain⟨oL,_,_,hoL,_⟩:=id hn
 have low:∀{b:Addr} {o:Obj},X.s₀.heap.get? b=some o->b≠X.env.locals:=fun e=>Di (Du (CM e) I.ok.above)
 refine h _ ⟨I.ok,I.os,I.bare,⟨fun b o e n hb hx=>(hs.2 b (low e)).trans (I.base.keep b o e n hb hx),fun b o e n hb hx=>?_,I.base.free,fun b o e hx=>?_,I.base.tups,I.base.frzs,I.base.tbls⟩,⟨_,hn',fun j y v' e1 e2 e3=>?_⟩,fun y c e=>?_,I.free,I.freeC,fun p hp=>?_,fun b ob e=>?_,by simpa using I.len⟩
 ·obtain⟨sl,e1⟩:=I.base.slot b o e n hb hx
  exact⟨sl,(hs.2 b (low e)).trans e1⟩
 ·obtain⟨o',e1⟩:=I.base.there b o e hx
  exact⟨o',(hs.2 b (low e)).trans e1⟩
 ·by_cases hj:j=i
  ·subst hj
   rw[List.getElem?_set_self hiσ]at e2
   cases e2
  ·rw[List.getElem?_set_ne (Ne.symm hj)]at e2
   obtain⟨u',r',q⟩:=hl j y v' e1 e2 e3
   refine⟨u',r',?_⟩
   rcases q with⟨k,e⟩ | ⟨k,c,e,z⟩
   ·refine .inl ⟨k,?_⟩
    have:y≠x:=fun e=>hj (nS hN e1 (e ▸ hi))
    simp[this,e]
   ·exact .inr ⟨k,c,e,z.sameBut hs (cne y c e)⟩
 ·obtain⟨w',z⟩:=I.cell y c e
  exact⟨w',z.sameBut hs (cne y c e)⟩
 ·obtain⟨e,n,ne,nf,d⟩:=I.pin p hp
  exact⟨(hs.2 p.1 ne).trans e,n,ne,nf,d⟩
 ·refine(I.hok b ob e).stay (fun c w' hc q=>(hs.2 c ?_).trans q) (fun _ q=>q) fun _ _ q=>q
  rintro rfl
  rcases hc with rfl | hc
  ·rw[I.free]at e;cases e
  ·rw[I.free]at hc;cases hc
section
def PB(Y:Cx)(st:Stmt)(t:Ends->(St->XK)->St->Hp->Prop):Prop:=
 ∀(pins:List (Addr×Obj)) (s:Shared) (σ:St) (H:Hp) (D:Ends) (E:St->XK),Inv Y.nox pins σ H s->t D E σ H →
  wpAny (model Y.prog Y.w) Y.A (exec st Y.env) (SP Y.nox pins D) (fun e s'=>∃σ1 H1 s1,Inv Y.nox pins σ1 H1 s1/\bV Y.prog Y.w Y.stack H1 s1 (E σ1) e s') s
def jU(Y:Cx)(st:List Stmt)(t:Ends->(St->XK)->St->Hp->Prop):Prop:=
 ∀(pins:List (Addr×Obj)) (s:Shared) (σ:St) (H:Hp) (D:Ends) (E:St->XK),Inv Y.nox pins σ H s->t D E σ H →
  wpAny (model Y.prog Y.w) Y.A (execs st Y.env) (SP Y.nox pins D) (fun e s'=>∃σ1 H1 s1,Inv Y.nox pins σ1 H1 s1/\bV Y.prog Y.w Y.stack H1 s1 (E σ1) e s') s
def u9:Ends->(St->XK)->St->Hp->Prop:=fun D _ σ H=>D.nx σ H
theorem AX{Y:Cx}:jU Y [] u9:=fun _ _ σ H _ _ I h=>wpAny_execs_nil ⟨σ,H,I,h⟩
def qS(t u:Ends->(St->XK)->St->Hp->Prop):Ends->(St->XK)->St->Hp->Prop:=fun D E σ H=>t ⟨u D E,D.rt,D.bk,D.ct⟩ E σ H
theorem yP{Y:Cx}{st:Stmt}{rest:List Stmt}{t u:Ends->(St->XK)->St->Hp->Prop}(h1:PB Y st t)(h2:jU Y rest u):jU Y (st::rest) (qS t u):=by
 intro pins s σ H D E I h
 refine wpAny_execs_cons (ax (h1 pins s σ H ⟨u D E,D.rt,D.bk,D.ct⟩ E I h) fun f s1 q=>?_)
 cases f with
 | next=>
  obtain⟨σ',H',I',q⟩:=q
  exact h2 pins s1 σ' H' D E I' q
 | brk=>exact q
 | cont=>exact q
 | ret v=>exact q
def uf(sp:Sp)(t:TA):Ends->(St->XK)->St->Hp->Prop:=fun D E σ H=>t σ H fun vs H1=>sp vs H1 (fun _ H2=>D.nx σ H2) (E σ)
end
structure CalX(P:Program)(w:World)(K:CJ)(mg:Str->Option Value)(base:Heap)(x:Str)(k:Nat)(ps:List Str)(sp:Sp):Prop where
 ex:∃(f:Addr) (fd:FuncData),mg x=some (.ref f)/\PySem.W.keepIn K (.ref f)=true/\Binds K fd ps []/\FnOk P w K mg base (bV P w) k f fd ps sp
theorem zZ{Y:Cx}{x:Str}{k j:Nat}{ps:List Str}{sp:Sp}{e:Expr}{es:List Expr}{t:TA}{p pos pos2:Pos}(C:CalX Y.prog Y.w Y.K Y.mg Y.base x j ps sp)(hr:Room k Y.A)(ha:PA Y.nox (e::es) t)(hjk:j<=k:=by decide)(hg:Gl Y x:=by rfl)(hdb:(x == ("__debug__":Str))=false:=by decide)
  (he:starEach (e::es) Y.env=(false,eval e Y.env)::starEach es Y.env:=by rfl) (hpl:(backTo pos (starEach es Y.env)).any (·.1)=false:=by rfl) (hs:swapsWith (.Call (.Name x p) (e::es) [] pos) none pos2.line Y.env=pure false:=by rfl) :
  PB Y (.Expr (.Call (.Name x p) (e::es) [] pos) pos2) (uf sp t):=by
 intro pins s σ H D E I h
 obtain⟨f,fd,hm,hk,hb,F⟩:=C.ex
 refine wpAny_Expr_any (wpAny_Call_Name_kw (gL (X:=Y.nox) I hg hm ?_ hdb)) I.quiet hs
 refine PySem.W.callWith_K (h₀:=Y.base) I.ok.mod.kin hk (wpAny_mono (ha pos pins s σ H _ I h) (fun us s1 ⟨vs,H1,I1,r,q⟩=>⟨I1.kIn,?_⟩) fun _ _ z=>z.elim) he hpl
 have hl:us.length=ps.length:=by rw[←r.length];exact F.len _ _ _ _ q
 have hb':=hb s1 us I1.kIn (by rw[List.append_nil];exact hl)
 rw[List.append_nil]at hb'
 refine wpAny_call (codeAny_mono (F.run Y.A Y.stack s1 H1 ⟨us,[]⟩ us vs _ (E σ) (hr.mono hjk) I1.env0 hb' r q) fun r s' hq=>?_)
 cases r with
 | error e=>exact⟨σ,H1,s1,I1,hq⟩
 | ok fl=>
  cases fl with
  | ret u=>
   obtain⟨v,H2,I2,_,q2⟩:=I1.after hq
   exact⟨σ,H2,I2,q2⟩
  | next=>exact False.elim hq
  | brk=>exact False.elim hq
  | cont=>exact False.elim hq
theorem Fly.lands{P:Program}{w:World}{l:List Env}{H:Hp}{s:Shared}{x:Addr}{cls a0:Value}{H':Hp}{s':Shared}{B h5:Heap}{da:Option Addr}(F:Fly P w l H s x cls da H' s')(fl:Heap.FlyingW B l x cls a0 s'.heap)(f1:∀b o,s'.heap.get? b=some o->H' b≠none->B.get? b=some o)
  (f2:∀b o o',s.heap.get? b=some o->b∉aS l->s'.heap.get? b=some o'->B.get? b=some o') (fl5:Heap.FlyingW B l x cls a0 h5) (sm:s'.heap.UpToSlots h5):Un (aS l) [] H H' s.heap h5/\bD P w H' h5:=by
 have no:∀b:Addr,b∉([]:List Addr):=fun b z=>by cases z
 have hff:=fl.2.2.1
 have up:∀b∈aS l,∀o,s'.heap.get? b=some o->∃sl,h5.get? b=some { o with slots:=sl }:=fun b hb o ho=>by
  obtain⟨_,o',ho',hd⟩:=hff.mem hb
  rw[ho]at ho'
  cases ho'
  exact sm b o ho hd
 refine⟨⟨fun b o q n hb _=>fl5.1 b o (f2 b o o q hb (F.un.keep b o q n hb (no b))),fun b o q n hb _=>?_,F.un.free,fun b o q _=>?_,F.un.tups,F.un.frzs,F.un.tbls⟩,fun a o q=>?_⟩
 ·obtain⟨sl,e1⟩:=F.un.slot b o q n hb (no b)
  obtain⟨sl',e2⟩:=up b hb _ e1
  exact⟨sl',e2⟩
 ·obtain⟨o2,e2⟩:=F.un.there b o q (no b)
  by_cases hb:b∈aS l
  ·obtain⟨sl,e3⟩:=up b hb _ e2
   exact⟨_,e3⟩
  ·exact⟨_,fl5.1 b o2 (f2 b o o2 q hb e2)⟩
 ·refine(F.hok a o q).stay (fun b u hb z=>fl5.1 b u (f1 b u z ?_)) (fun _ z=>z) fun _ _ z=>z
  rcases hb with rfl | hb
  ·rw[q];intro z;cases z
  ·rw[hb];intro z;cases z
def oX(K:CJ)(C:Addr)(i:Nat)(tb:Ends->(St->XK)->St->Hp->Prop)(ts:Addr->Addr->Option Addr->TS):TS:=fun D σ H=>
 tb D (fun σ1 cls da H1=>∃Dx,cls=.ref Dx/\PySem.W.exmOne K (.ref Dx) (.ref C)=some true/\ExcK K Dx/\∀x,H1 x=none →
  ts x Dx da ⟨fun σ' H'=>D.nx (σ'.set i none) H',D.rt,fun σ' H'=>D.bk (σ'.set i none) H',fun σ' H'=>D.ct (σ'.set i none) H'⟩ (σ1.set i (some (.ref x))) H1) σ H
theorem zB{Y:Cx}{i:Nat}{c n:Str}{C:Addr}{body:List Stmt}{b0:Stmt}{suite:List Stmt}{np hpos pos:Pos}{tb:Ends->(St->XK)->St->Hp->Prop}{ts:Addr->Addr->Option Addr->TS}
  (hstk:Y.stack=Y.env::Y.outer) (hfrm:Y.env.frame=some Y.env.locals) (hN:Y.N.Nodup) (hi:Y.N[i]?=some n) (hk:Y.env.kindOf n=some .local) (hx:Y.env.scope.names.lookup n=some .local) (hm:Y.mg c=some (.ref C)) (hg:Gl Y c) (hd:(c == ("__debug__":Str))=false)
  (hb:jU Y body tb) (hs:∀(x:Addr) (oe:Obj) (Dx:Addr) (da:Option Addr),ExcK Y.K Dx->oe.cls=.ref Dx->(∃vs,oe.data=.fields vs/\vs[2]?=some .none)->(∀d,da=some d->oe.dict=some d)->cx (b6 Y x oe) (b0::suite) (ts x Dx da)) :
  PS Y.nox (.Try body [.ExceptHandler (some (.Name c np)) (some n) (b0::suite) hpos] [] [] pos) (oX Y.K C i tb ts):=by
 intro pins s σ H D I h
 refine wpAny_Try_except (wpAny_mono (hb pins s σ H _ _ I h) (fun f s1 q=>?_) fun e s1 q=>?_)
 ·cases f with
  | next=>exact wpAny_execs_nil q
  | brk=>exact q
  | cont=>exact q
  | ret v=>exact q
 obtain⟨σ1,H1,s2,I1,x,cls,da,H',rfl,⟨Dx,rfl,hex,hK,hts⟩,F⟩:=q
 obtain⟨B,a0,fl,f1,f2⟩:=F.fly
 have ok:Y.nox.Ok:=I1.ok
 have hfr:Y.A.frames=some (Y.env::Y.outer):=by rw[←hstk];exact ok.frames
 have fl':Heap.FlyingW B (Y.env::Y.outer) x (.ref Dx) a0 s1.heap:=by rw[←hstk];exact fl
 refine pT hfr hfrm fl' F.alone fun h4 hd4 sm4 al4=>pW (s:={ s1 with heap:=h4 }) hd4 al4 fun h5 fl5 sm5 al5=>?_
 have sm45:s1.heap.UpToSlots h5:=sm4.trans sm5
 have lnd:∀h6,Heap.FlyingW B (Y.env::Y.outer) x (.ref Dx) a0 h6->s1.heap.UpToSlots h6->∀g tk dr,g=s1.gens->Inv Y.nox pins σ1 H' ⟨h6,g,dr,tk,s1.os⟩:=fun h6 fl6 sm6 g tk dr eg=>by
  obtain⟨un,hok⟩:=F.lands fl f1 f2 (by rw[hstk];exact fl6) sm6
  exact I1.call' (s':=⟨h6,g,dr,tk,s1.os⟩) F.os un hok (by rw[eg];exact F.bare) (fun b z=>by cases z)
 have I5:=lnd h5 fl5 sm45 s1.gens s1.toks s1.drawn rfl
 have ty5:PySem.W.Looks (model Y.prog Y.w) h5 (typeOf (.ref x)) (.ref Dx):=by
  obtain⟨ob,hob,hc⟩:=fl5.there
  exact InstC.type ⟨hob,hc⟩
 refine wpAny_handleBy_cons (codeAny_handlers_test ?_) (by intro q;cases q)
 refine gL (X:=m8 Y.nox x) (I5.marked x) hg hm ?_ hd
 refine(PySem.W.exm_one (M:=model Y.prog Y.w) I5.kIn ty5 hex).here ?_
 dsimp only
 rw[DQ rfl]
 refine codeAny_handlers_suite_as (A2 (s:={ s1 with heap:=h5 }) fl5 al5 fun h6 fl6 sm6 al6=>?_)
 have I6:=lnd h6 fl6 (sm45.trans sm6) s1.gens s1.toks s1.drawn rfl
 obtain⟨oe,vs,he,hc,hdt,_⟩:=fl6.first
 have nfr:x∉aS (Y.env::Y.outer):=fun hm'=>by
  obtain⟨_,o,ho,hnf⟩:=fl6.2.2.1.mem hm'
  rw[he]at ho
  cases ho
  exact hnf vs hdt
 have I7:=I6.pinH (x:=x) he F.new (fun z=>nfr (sV (env:=Y.env) CU (by rw[hfrm,z]))) (fun z=>nfr (by show x∈List.filterMap _ _;rw[List.filterMap_cons,hfrm];exact CQ _ z)) (fun v z=>by rw[hdt]at z;cases z)
 refine iE (X:=b6 Y.nox x oe) (v:=.ref x) I7 hN hi (.inl hx) rfl (fun s8 I8=>?_) (.inr hx)
 refine wpAny_mono (hs x oe Dx da hK hc (by obtain⟨o',vs',x1,x2,x3,_⟩:=al6;rw[he]at x1;cases x1;exact⟨vs',x2,x3⟩) (by obtain⟨o',vs',x1,_,_,x4⟩:=al6;rw[he]at x1;cases x1;exact x4) pins s8 _ H' _ I8 (hts x F.new)) (fun f s9 q=>?_) fun _ _ z=>z.elim
 cases f with
 | next=>
  obtain⟨σ',H9,I9,q⟩:=q
  exact i7 (X:=Y.nox) (Inv.unpinH ok I9) hN hi hk fun s10 I10=>⟨_,H9,I10,q⟩
 | brk=>
  obtain⟨σ',H9,I9,q⟩:=q
  exact i7 (X:=Y.nox) (Inv.unpinH ok I9) hN hi hk fun s10 I10=>⟨_,H9,I10,q⟩
 | cont=>
  obtain⟨σ',H9,I9,q⟩:=q
  exact i7 (X:=Y.nox) (Inv.unpinH ok I9) hN hi hk fun s10 I10=>⟨_,H9,I10,q⟩
 | ret u=>
  obtain⟨v,σ',H9,I9,rv,q⟩:=q
  exact i7 (X:=Y.nox) (Inv.unpinH ok I9) hN hi hk fun s10 I10=>⟨v,_,H9,I10,rv,q⟩
theorem Dfn.okX{P:Program}{w:World}{K:CJ}{mg:Str->Option Value}{base:Heap}{x:Str}{st:Stmt}{N ps:List Str}{k:Nat}{sp:Sp}(D:Dfn K mg x st ps)(S:FnScope N ps (aE st))(len:∀vs H Q E,sp vs H Q E->vs.length=ps.length)
  (hbody:∀(f:Addr) (cdv:Value) (A:Around) (outer:List Env) (s:Shared) (H:Hp) (vs:List V) (Q:VK) (E:XK),Room k (A.deeper (envOfC x (aE st) s.heap.objs.size f cdv))->sp vs H Q E →
   ∃t,cx (bI (bV P w) P w K mg base N x (aE st) f cdv A outer s H E) (dO st) t/\t { nx:=fun _ H'=>Q .non H',rt:=Q } (start N vs) H):CalX P w K mg base x (k+1) ps sp:=by
 obtain⟨f,fd,hm,F,hb⟩:=D.ex
 obtain⟨oc,od,kV,doc,pm,an,cdv,ct,osl,rfl,lk,hcd⟩:=F.ex
 exact⟨f,_,hm,F.kp,hb,tI lk hcd S len fun A outer s H vs Q E hr h=>hbody f cdv A outer s H vs Q E hr h⟩
section
variable {P:Program} {w:World} {K:CJ} {mg:Str->Option Value} {base:Heap} {N:List Str} {qual:Str} {scope:Scope} {f:Addr} {cd:Value} {A:Around} {outer:List Env} {s₀:Shared} {H₀:Hp} {E:XK}
theorem lR{x:Str}{k j:Nat}{ps:List Str}{sp:Sp}{e:Expr}{es:List Expr}{t:TA}{p pos:Pos}(C:CalX P w K mg base x j ps sp)(hr:Room k (bI (bV P w) P w K mg base N qual scope f cd A outer s₀ H₀ E).A)
  (ha:PA (bI (bV P w) P w K mg base N qual scope f cd A outer s₀ H₀ E) (e::es) t) (hjk:j<=k:=by decide) (hg:Gl (bI (bV P w) P w K mg base N qual scope f cd A outer s₀ H₀ E) x:=by rfl) (hdb:(x == ("__debug__":Str))=false:=by decide)
  (he:starEach (e::es) (bI (bV P w) P w K mg base N qual scope f cd A outer s₀ H₀ E).env=(false,eval e (bI (bV P w) P w K mg base N qual scope f cd A outer s₀ H₀ E).env)::starEach es (bI (bV P w) P w K mg base N qual scope f cd A outer s₀ H₀ E).env:=by rfl)
  (hpl:(backTo pos (starEach es (bI (bV P w) P w K mg base N qual scope f cd A outer s₀ H₀ E).env)).any (·.1)=false:=by rfl) :
  PE (bI (bV P w) P w K mg base N qual scope f cd A outer s₀ H₀ E) (.Call (.Name x p) (e::es) [] pos) (jR sp [] E t):=by
 obtain⟨f',fd,hm,hk,hb,F⟩:=C.ex
 exact ur F (hr.mono hjk) hg hm hk hb .nil (zc fun _ _ _ h=>h) ha hdb he hpl
end
abbrev kR:List Value:=[.type "ValueError",.type "Exception",.type "BaseException",.type "object"]
def cA(K:CJ)(x:Str):Addr:=match PySem.W.nsIn K mainGlobals x with
 | some (some (.ref C))=>C
 | _=>0
def mn(K:CJ)(x:Str):Bool:=
 PySem.W.excIn K (cA K x) kR "ValueError.__new__" && (match K.lookup (cA K x)with | some ⟨_,_,.cls _,_⟩=>true | _=>false) && PySem.W.findIn K (.ref (cA K x)) "__getattribute__" == some (some (.builtin "BaseException.__getattribute__")) &&
 PySem.W.findIn K (.ref (cA K x)) "__getattr__" == some none && PySem.W.subIn K (.ref (cA K x)) (.type "BaseException") == some true && PySem.W.findIn K (.ref (cA K x)) "__class__" == some (some (.builtin "object.__class__")) &&
 PySem.W.specialIn K (.builtin "object.__class__") "__get__" == some (some (.builtin "getset_descriptor.__get__")) && PySem.W.takesIn K (.builtin "object.__class__") == some true && PySem.W.mroIn K (cA K x) (.type "object") == some true
structure Xf(K:CJ)(mg:Str->Option Value)(base:Heap)(all raised:List Str):Prop where
 cl:∀x∈all,mg x=some (.ref (cA K x))
 own:∀x∈raised,OwnCls x (cA K x) kR "ValueError.__new__" mg base
 exk:∀x∈raised,ExcK K (cA K x)
 up:∀x∈raised,PySem.W.exmOne K (.ref (cA K x)) (.ref (cA K "StairError"))=some true
 kv:∀x∈raised,PySem.W.kitOne K (.ref (cA K x)) (.type "ValueError")=some true
 kc:∀x∈raised,∀y∈all,PySem.W.kitOne K (.ref (cA K x)) (.ref (cA K y))=some (x == y || y == ("StairError":Str))
def lC(K:CJ)(all raised:List Str):Bool:=
 all.all (fun x=>PySem.W.nsIn K mainGlobals x == some (some (.ref (cA K x)))) && raised.all (fun x=>all.contains x && mn K x && PySem.W.exmOne K (.ref (cA K x)) (.ref (cA K "StairError")) == some true && PySem.W.kitOne K (.ref (cA K x)) (.type "ValueError") == some true &&
  all.all fun y=>PySem.W.kitOne K (.ref (cA K x)) (.ref (cA K y)) == some (x == y || y == ("StairError":Str)))
theorem vv{K:CJ}{mg:Str->Option Value}{base:Heap}{all raised:List Str}(X:K.In base)(G:base.Ns mainGlobals mg)(h:lC K all raised=true):Xf K mg base all raised:=by
 unfold lC at h
 rw[DA,Dy,Dy]at h
 obtain⟨h1,h2⟩:=h
 have n1:∀x∈all,PySem.W.nsIn K mainGlobals x=some (some (.ref (cA K x))):=fun x hx=>eq_of_beq (h1 x hx)
 have h3:∀x∈raised,((((x∈all/\mn K x=true)/\PySem.W.exmOne K (.ref (cA K x)) (.ref (cA K "StairError"))=some true)/\PySem.W.kitOne K (.ref (cA K x)) (.type "ValueError")=some true)/\∀y∈all,PySem.W.kitOne K (.ref (cA K x)) (.ref (cA K y))=some (x == y || y == ("StairError":Str))):=fun x hx=>by
  have:=h2 x hx
  simp only[DA,beq_iff_eq,List.contains_iff_mem,Dy]at this
  exact this
 have e1:∀x∈raised,PySem.W.excIn K (cA K x) kR "ValueError.__new__" = true/\ExcK K (cA K x):=fun x hx=>by
  have:=(h3 x hx).1.1.1.2
  unfold mn at this
  simp only[DA,beq_iff_eq]at this
  obtain⟨⟨⟨⟨⟨⟨⟨⟨a1,a2⟩,a3⟩,a4⟩,a5⟩,a6⟩,a7⟩,a8⟩,a9⟩:=this
  refine⟨a1,?_,a3,a4,a5,a6,a7,a8,a9⟩
  cases hl:K.lookup (cA K x)with
  | none=>rw[hl]at a2;cases a2
  | some o=>
   rw[hl]at a2
   obtain⟨c,d,data,sl⟩:=o
   cases data<;>first | exact ⟨_,_,_,_,rfl⟩ | cases a2
 exact⟨fun x hx=>PySem.W.mg_of X G (n1 x hx),fun x hx=>BW X G (n1 x (h3 x hx).1.1.1.1) (e1 x hx).1,fun x hx=>(e1 x hx).2,fun x hx=>(h3 x hx).1.1.2,fun x hx=>(h3 x hx).1.2,fun x hx=>(h3 x hx).2⟩
theorem qY{K:CJ}{t:Value}:∀{Cs:List Addr},(∀C∈Cs,PySem.W.kitOne K t (.ref C)=some false)->PySem.W.kitAny K t (Cs.map Value.ref)=some false
 | [],_=>rfl
 | C::Cs,h=>by
  show(match PySem.W.kitOne K t (.ref C)with | some true=>some true | some false=>PySem.W.kitAny K t (Cs.map Value.ref) | none=>none)=some false
  rw[h C CU]
  exact qY fun D hD=>h D (CQ _ hD)
section
variable {K:CJ} {D:Ends} {σ:St} {H:Hp} {Q:VK} {E:XK} {C x:Addr}
theorem rd_raise{t:TA}{cls:Value}(h:t σ H fun vs H1=>vs.length<=sizeLine/\E cls none H1):p7 cls E t D σ H:=h
theorem rd_fs{a:Str}{te:TE}(h:te σ H fun v H1=>∃i:Int,v=.int i/\i.natAbs.log2<1920/\(Str.empty++a++(toString i:Str)).length<=sizeLine/\∀z,Q (.str z) H1):tR a te σ H Q:=h
theorem qo{C':Addr}{b:Bool}(hk:PySem.W.kitOne K (.ref C) (.ref C')=some b)(h:Q (.bl b) H):m5 K x C [.ref x,.ref C'] H Q:=⟨b,.inl ⟨C',rfl,hk⟩,h⟩
theorem BP{p:Addr}{Cs:List Addr}{b:Bool}(ht:H p=some (.tup (Cs.map V.ref)))(hk:PySem.W.kitAny K (.ref C) (Cs.map Value.ref)=some b)(h:Q (.bl b) H):m5 K x C [.ref x,.ref p] H Q:=⟨b,.inr (.inr ⟨p,Cs,rfl,ht,hk⟩),h⟩
end
theorem CalX.cal{P:Program}{w:World}{K:CJ}{mg:Str->Option Value}{base:Heap}{x:Str}{k:Nat}{ps:List Str}{sp:Sp}(C:CalX P w K mg base x k ps sp):Cal P w K mg base x k ps (fun vs H Q _=>sp vs H Q E0):=by
 obtain⟨f,fd,hm,hk,hb,F⟩:=C.ex
 refine⟨f,fd,hm,hk,hb,fun vs H Q E h=>F.len vs H Q E0 h,fun A outer s H args us vs Q E hr he hbt hv hs=>codeAny_mono (F.run A outer s H args us vs Q E0 hr he hbt hv hs) fun r s' hq=>?_⟩
 cases r with
 | error e=>
  obtain⟨_,_,_,_,_,hE,_⟩:=hq
  exact hE.elim
 | ok fl=>cases fl<;>exact hq
section
variable {K:CJ} {D:Ends} {σ:St} {H:Hp} {E:St->XK} {C:Addr} {i:Nat} {t u tb:Ends->(St->XK)->St->Hp->Prop} {ts:Addr->Addr->Option Addr->TS} {c:TT}
theorem rd_bseq(h:t ⟨u D E,D.rt,D.bk,D.ct⟩ E σ H):qS t u D E σ H:=h
theorem rd_bnext(h:D.nx σ H):u9 D E σ H:=h
theorem rd_bcall{sp:Sp}{a:TA}(h:a σ H fun vs H1=>sp vs H1 (fun _ H2=>D.nx σ H2) (E σ)):uf sp a D E σ H:=h
end
end L2
namespace Tb
open PySem
def nx(m i:Nat):Nat:=(i*5+1) % (m+1)
def it(m:Nat):Nat->Nat->Nat
 | 0,i=>i
 | n+1,i=>it m n (nx m i)
theorem gj(m:Nat):∀a b i,it m (a+b) i=it m b (it m a i)
 | 0,b,i=>by rw[Nat.zero_add];rfl
 | a+1,b,i=>by rw[Nat.succ_add];exact gj m a b (nx m i)
theorem xW(m n i:Nat):it m (n+1) i=nx m (it m n i):=by rw[gj m n 1 i];rfl
def kj(m:Nat):Nat->Nat->List Nat
 | 0,_=>[]
 | n+1,i=>i::kj m n (nx m i)
theorem qm{m:Nat}:∀{n i j:Nat},j∈kj m n i->∃k,k<n/\it m k i=j
 | 0,_,_,h=>by cases h
 | n+1,i,j,h=>by
  rcases De.mp h with rfl | h
  ·exact⟨0,Nat.succ_pos _,rfl⟩
  ·obtain⟨k,hk,e⟩:=qm h
   exact⟨k+1,Nat.succ_lt_succ hk,e⟩
def good(m:Nat):Bool:=(DM (m+1)).all (fun j=>(kj m (m+1) 0).contains j) && it m (m+1) 0 == 0
theorem BY:good 7=true:=by decide +kernel
theorem yC:good 31=true:=by decide +kernel
theorem xS:good 127=true:=by decide +kernel
theorem vo:good 511=true:=by decide +kernel
def Full(N:Nat):Prop:=(∀j,j<N->∃k,k<N/\it (N-1) k 0=j)/\it (N-1) N 0=0
theorem jI{m:Nat}(h:good m=true):Full (m+1):=by
 unfold Tb.good at h
 rw[DA,Dy]at h
 refine⟨fun j hj=>?_,eq_of_beq h.2⟩
 have h1:=h.1 j (List.mem_range.mpr hj)
 rw[List.contains_iff_mem]at h1
 exact qm h1
def co:Nat->Nat
 | 0=>0
 | n+1=>5*co n+1
theorem pB(m:Nat):∀n i,it m n i % (m+1)=(5 ^ n*i+co n) % (m+1)
 | 0,i=>by simp[it,co]
 | n+1,i=>by
  rw[xW]
  unfold nx
  rw[Nat.mod_mod,Nat.add_mod,Nat.mul_mod,pB m n i,←Nat.mul_mod,←Nat.add_mod]
  congr 1
  show(5 ^ n*i+co n)*5+1=5 ^ (n+1)*i+(5*co n+1)
  rw[Nat.pow_succ,Nat.add_mul]
  have:5 ^ n*i*5=5 ^ n*5*i:=by rw[Nat.mul_assoc,Nat.mul_comm i 5,Nat.mul_assoc]
  omega
theorem lM(m:Nat):∀n i,i<=m->it m n i<=m
 | 0,i,h=>h
 | n+1,i,h=>by
  refine lM m n _ ?_
  unfold nx
  have:=Nat.mod_lt (i*5+1) (show 0<m+1 by omega)
  omega
theorem qA{m n i:Nat}(h:i<=m):it m n i=(5 ^ n*i+co n) % (m+1):=by
 rw[←pB,Nat.mod_eq_of_lt (Nat.lt_succ_of_le (lM m n i h))]
theorem Ak(n:Nat):5 ^ n % 2=1:=by
 induction n with
 | zero=>rfl
 | succ n ih=>rw[Nat.pow_succ,Nat.mul_mod,ih]
theorem tV:∀n,4*co n+1=5 ^ n
 | 0=>rfl
 | n+1=>by
  have:=tV n
  show 4*(5*co n+1)+1=5 ^ (n+1)
  rw[Nat.pow_succ]
  omega
theorem yH{a N:Nat}(h:a % 2=1)(r:Nat):(a*N+r) % (2*N)=(N+r) % (2*N):=by
 obtain⟨c,rfl⟩:∃c,a=2*c+1:=⟨a / 2,by omega⟩
 have:(2*c+1)*N+r=(N+r)+2*N*c:=by
  rw[Nat.add_mul,Nat.one_mul,Nat.mul_assoc,Nat.mul_comm c N,←Nat.mul_assoc]
  omega
 rw[this,Nat.add_mul_mod_self_left]
theorem two{x N:Nat}(h:x<2*N)(hN:0<N):x=x % N\/x=N+x % N:=by
 rcases DH x N with a | a
 ·exact .inl (Nat.mod_eq_of_lt a).symm
 ·refine .inr ?_
  rw[Nat.mod_eq_sub_mod a,Nat.mod_eq_of_lt (by omega)]
  omega
theorem Full.double{N:Nat}(hN:0<N)(h:Full N)(hc:co N % (2*N)=N):Full (2*N):=by
 obtain⟨h1,h2⟩:=h
 have hm:2*N-1+1=2*N:=by omega
 have hm1:N-1+1=N:=by omega
 have val:∀n i,i<=2*N-1->it (2*N-1) n i=(5 ^ n*i+co n) % (2*N):=fun n i hi=>by rw[qA hi,hm]
 have eN:it (2*N-1) N 0=N:=by rw[val N 0 (by omega),Nat.mul_zero,Nat.zero_add,hc]
 have up:∀k,it (2*N-1) (N+k) 0=(N+it (2*N-1) k 0) % (2*N):=fun k=>by
  rw[gj,eN,val k N (by omega),val k 0 (by omega),Nat.mul_zero,Nat.zero_add,yH (Ak k)]
  rw[Nat.add_mod_mod]
 refine⟨fun j hj=>?_,?_⟩
 ·obtain⟨k,hk,ek⟩:=h1 (j % N) (Nat.mod_lt _ hN)
  have e1:it (2*N-1) k 0 % N=j % N:=by
   rw[val k 0 (by omega),Nat.mul_zero,Nat.zero_add,Nat.mod_mul_left_mod,←ek,qA (Nat.zero_le _),hm1,Nat.mul_zero,Nat.zero_add]
  have e2:it (2*N-1) k 0<2*N:=by
   have:=lM (2*N-1) k 0 (Nat.zero_le _)
   omega
  by_cases e:it (2*N-1) k 0=j
  ·exact⟨k,by omega,e⟩
  ·refine⟨N+k,by omega,?_⟩
   rw[up k]
   have t1:=two hj hN
   have t2:=two e2 hN
   rw[e1]at t2
   generalize it (2*N-1) k 0=x at *
   generalize j % N=r at *
   rcases t1 with a | a<;>rcases t2 with b | b
   ·omega
   ·have:N+x=j+2*N:=by omega
    rw[this,Nat.add_mod_right,Nat.mod_eq_of_lt hj]
   ·have:N+x=j:=by omega
    rw[this,Nat.mod_eq_of_lt hj]
   ·omega
 ·rw[show 2*N=N+N by omega,show N+N-1=2*N-1 by omega,up N,eN,show N+N=2*N by omega,Nat.mod_self]
theorem jB{N c:Nat}(h:4*c+1=5 ^ N):co N=c:=by
 have:=tV N
 omega
theorem Ar:Full 8:=jI BY
theorem zF:Full 32:=jI yC
theorem yG:Full 128:=jI xS
theorem pP:Full 512:=jI vo
theorem AW:co 512 % (2*512)=512:=by rw[jB (c:=(5 ^ 512-1) / 4) (by decide +kernel)];decide +kernel
theorem xp:co 1024 % (2*1024)=1024:=by rw[jB (c:=(5 ^ 1024-1) / 4) (by decide +kernel)];decide +kernel
theorem zL:co 2048 % (2*2048)=2048:=by rw[jB (c:=(5 ^ 2048-1) / 4) (by decide +kernel)];decide +kernel
theorem vy:co 4096 % (2*4096)=4096:=by rw[jB (c:=(5 ^ 4096-1) / 4) (by decide +kernel)];decide +kernel
theorem rS:Full 2048:=Full.double (N:=1024) (by decide) (pP.double (by decide) AW) xp
theorem wC:Full 8192:=Full.double (N:=4096) (by decide) (rS.double (by decide) zL) vy
def Mask(m:Nat):Prop:=m=7\/m=31\/m=127\/m=511\/m=2047\/m=8191
theorem Mask.full{m:Nat}(h:Mask m):Full (m+1):=by
 rcases h with rfl | rfl | rfl | rfl | rfl | rfl
 ·exact Ar
 ·exact zF
 ·exact yG
 ·exact pP
 ·exact rS
 ·exact wC
theorem sE{m:Nat}(h:Mask m){j:Nat}(hj:j<=m):∃k,k<=m/\it m k 0=j:=by
 obtain⟨k,hk,e⟩:=h.full.1 j (by omega)
 exact⟨k,by omega,e⟩
theorem round0{m:Nat}(h:Mask m):it m (m+1) 0=0:=h.full.2
theorem reach{m:Nat}(h:Mask m){i j:Nat}(hi:i<=m)(hj:j<=m):∃k,k<=m/\it m k i=j:=by
 obtain⟨a,ha,ea⟩:=sE h hi
 obtain⟨b,hb,eb⟩:=sE h hj
 rcases DH b a with hlt | hge
 ·refine⟨m+1-a+b,by omega,?_⟩
  rw[←ea,←gj,show a+(m+1-a+b)=(m+1)+b by omega,gj,round0 h]
  exact eb
 ·refine⟨b-a,by omega,?_⟩
  rw[←ea,←gj,show a+(b-a)=b by omega]
  exact eb
def lp(m:Nat):Nat->Nat×Nat->Nat×Nat
 | 0,s=>s
 | n+1,s=>lp m n (SetTable.leap m s.1 s.2)
theorem nK(m:Nat):∀n s,lp m (n+1) s=SetTable.leap m (lp m n s).1 (lp m n s).2
 | 0,s=>rfl
 | n+1,s=>by
  show lp m (n+1) (SetTable.leap m s.1 s.2)=_
  rw[nK m n]
  rfl
theorem rO(m:Nat):∀n s,(lp m n s).2=s.2 / 32 ^ n
 | 0,s=>by simp[lp]
 | n+1,s=>by
  rw[nK m n s]
  show(lp m n s).2 / 32=_
  rw[rO m n s,Nat.div_div_eq_div_mul,Nat.pow_succ]
theorem rM(m:Nat):∀n s,s.1<=m->(lp m n s).1<=m
 | 0,s,h=>h
 | n+1,s,h=>by
  rw[nK m n s]
  show(_ % (m+1))<=m
  have:=Nat.mod_lt ((lp m n s).1*5+1+(lp m n s).2 / 32) (show 0<m+1 by omega)
  omega
theorem qh(m:Nat):∀n i,(lp m n (i,0)).1=it m n i
 | 0,i=>rfl
 | n+1,i=>by
  show(lp m n (SetTable.leap m i 0)).1=it m n (nx m i)
  have:SetTable.leap m i 0=(nx m i,0):=rfl
  rw[this]
  exact qh m n _
theorem oE(m:Nat):∀a b s,lp m (a+b) s=lp m b (lp m a s)
 | 0,b,s=>by rw[Nat.zero_add];rfl
 | a+1,b,s=>by rw[Nat.succ_add];exact oE m a b _
theorem tw{m:Nat}(h:Mask m){i p j:Nat}(hi:i<=m)(hp:p<2 ^ 64)(hj:j<=m):∃n,n<=m+13/\(lp m n (i,p)).1=j:=by
 have hz:(lp m 13 (i,p)).2=0:=by
  rw[rO]
  exact Nat.div_eq_of_lt (Du hp (by decide))
 obtain⟨k,hk,e⟩:=reach h (rM m 13 (i,p) hi) hj
 refine⟨13+k,by omega,?_⟩
 rw[oE]
 have:lp m 13 (i,p)=((lp m 13 (i,p)).1,0):=by rw[←hz]
 rw[this,qh]
 exact e
theorem pJ(h:Int):SetTable.bits h<2 ^ 64:=by
 unfold SetTable.bits
 have h1:=Int.emod_lt_of_pos h (show(0:Int)<2 ^ 64 by decide)
 have h2:=Int.emod_nonneg h (show(2:Int) ^ 64≠0 by decide)
 omega
def aB(t:SetTable):Nat->SetTable.Probe->SetTable.Probe
 | 0,p=>p
 | n+1,p=>aB t n (t.advance p)
theorem ff(t:SetTable):∀a b p,aB t (a+b) p=aB t b (aB t a p)
 | 0,b,p=>by rw[Nat.zero_add];rfl
 | a+1,b,p=>by rw[Nat.succ_add];exact ff t a b _
def at_(t:SetTable)(s:Nat×Nat):SetTable.Probe:={ j:=s.1,more:=SetTable.runEnd t.mask s.1-s.1,i:=s.1,perturb:=s.2,dummy:=none }
theorem lq(t:SetTable):∀(r:Nat) (p:SetTable.Probe),p.more=r->aB t (r+1) p={ p with j:=(SetTable.leap t.mask p.i p.perturb).1,more:=SetTable.runEnd t.mask (SetTable.leap t.mask p.i p.perturb).1-(SetTable.leap t.mask p.i p.perturb).1,i:=(SetTable.leap t.mask p.i p.perturb).1,perturb:=(SetTable.leap t.mask p.i p.perturb).2 }
 | 0,p,h=>by
  show t.advance p=_
  unfold SetTable.advance
  rw[DP (by omega)]
 | r+1,p,h=>by
  show aB t (r+1) (t.advance p)=_
  have e:t.advance p={ p with j:=p.j+1,more:=p.more-1 }:=by
   unfold SetTable.advance
   rw[DQ (by omega)]
  rw[e,lq t r _ (by show p.more-1=r;omega)]
theorem BF(t:SetTable)(s:Nat×Nat):∃k,k<=10/\aB t k (at_ t s)=at_ t (SetTable.leap t.mask s.1 s.2):=by
 refine⟨SetTable.runEnd t.mask s.1-s.1+1,?_,?_⟩
 ·unfold SetTable.runEnd
  split<;>omega
 ·exact(lq t (SetTable.runEnd t.mask s.1-s.1) (at_ t s) rfl).trans rfl
theorem vd(t:SetTable):∀(n:Nat) (s:Nat×Nat),∃k,k<=10*n/\aB t k (at_ t s)=at_ t (lp t.mask n s)
 | 0,s=>⟨0,Dj _,rfl⟩
 | n+1,s=>by
  obtain⟨k1,h1,e1⟩:=BF t s
  obtain⟨k2,h2,e2⟩:=vd t n (SetTable.leap t.mask s.1 s.2)
  refine⟨k1+k2,by omega,?_⟩
  rw[ff,e1,e2]
  rfl
theorem BZ(t:SetTable)(h:Int):t.probeStart h=at_ t (SetTable.bits h % (t.mask+1),SetTable.bits h):=rfl
theorem Bx{t:SetTable}(hm:Mask t.mask){j:Nat}(hj:j<=t.mask)(h:Int):∃K,K<10*SetTable.turns t.mask/\(aB t K (t.probeStart h)).j=j:=by
 have h1:SetTable.bits h % (t.mask+1)<=t.mask:=by
  have:=Nat.mod_lt (SetTable.bits h) (show 0<t.mask+1 by omega)
  omega
 obtain⟨n,hn,e⟩:=tw hm h1 (pJ h) hj
 obtain⟨K,hK,eK⟩:=vd t n (SetTable.bits h % (t.mask+1),SetTable.bits h)
 refine⟨K,by unfold SetTable.turns;omega,?_⟩
 rw[BZ,eK]
 exact e
theorem jG{t:SetTable}{j i:Nat}(h:t.slot j=.live i):t.place[i]?=some j:=by
 unfold SetTable.slot at h
 dsimp only at h
 split at h
 ·rename_i hq
  cases h
  exact eq_of_beq hq
 ·split at h<;>cases h
theorem qr(j:Nat):SetTable.has #[] j=false:=rfl
theorem lW{t:SetTable}(hd:t.dummies = #[])(j:Nat):t.slot j=.empty\/∃i,t.slot j=.live i:=by
 unfold SetTable.slot
 dsimp only
 split
 ·exact .inr ⟨_,rfl⟩
 ·rw[hd,qr]
  exact .inl rfl
theorem pX:∀(n:Nat) (l:List Nat),(∀j,j<n->j∈l)->n<=l.length
 | 0,l,_=>Nat.zero_le _
 | n+1,l,h=>by
  have hn:=h n (Nat.lt_succ_self n)
  have:=pX n (l.erase n) fun j hj=>(List.mem_erase_of_ne (by omega)).mpr (h j (by omega))
  rw[List.length_erase_of_mem hn]at this
  have:0<l.length:=List.length_pos_of_mem hn
  omega
theorem A4{t:SetTable}(hd:t.dummies = #[])(h:t.place.size<=t.mask):∃j,j<=t.mask/\t.slot j=.empty:=by
 rcases Classical.em (∃j,j<=t.mask/\t.slot j=.empty)with h1 | h1
 ·exact h1
 ·exfalso
  have:=pX (t.mask+1) t.place.toList fun j hj=>by
   rcases lW hd j with h2 | ⟨i,h2⟩
   ·exact absurd ⟨j,by omega,h2⟩ h1
   ·have:=jG h2
    rw[←Array.getElem?_toList]at this
    exact CY this
  rw[CS]at this
  omega
theorem iH(t:SetTable):∀n p,(aB t n p).dummy=p.dummy
 | 0,p=>rfl
 | n+1,p=>by
  show(aB t n (t.advance p)).dummy=_
  rw[iH t n]
  unfold SetTable.advance
  split<;>rfl
theorem sW{α:Type}:∀{l:List (Option α)} {j:Nat} {k:α},l[j]?=some none->((l.set j (some k)).filterMap id).Perm (k::l.filterMap id)
 | [],j,k,h=>by cases h
 | x::l,0,k,h=>by
  have:x=none:=by simpa using h
  subst this
  exact .refl _
 | x::l,j+1,k,h=>by
  have h':l[j]?=some none:=by simpa using h
  have ih:=sW (k:=k) h'
  cases x with
  | none=>exact ih
  | some y=>exact(List.Perm.cons y ih).trans (.swap _ _ _)
theorem BR{α:Type}(l:List (Option α)):(l.filterMap id).length+(l.filter (·.isNone)).length=l.length:=by
 induction l with
 | nil=>rfl
 | cons x l ih=>
  cases x<;>simp at ih ⊢<;>omega
theorem wD{m:Nat}(hm:Mask m)(owner:Array (Option Nat))(hz:owner.size=m+1){j:Nat}(hj:owner[j]?=some none):∀(fuel n i p:Nat),i<=m->n<fuel->(lp m n (i,p)).1=j →
  ∃j',SetTable.layClean.free m owner fuel i p=some j'/\owner[j']?=some none:=by
 intro fuel
 induction fuel with
 | zero=>intro n i p _ h;omega
 | succ fuel ih=>
  intro n i p hi hn he
  unfold SetTable.layClean.free
  split
  ·rename_i k hk
   have h1:=List.find?_some hk
   have h2:=List.mem_range.mp (List.mem_of_find?_eq_some hk)
   refine⟨i+k,rfl,?_⟩
   have hb:i+k<owner.size:=by
    rw[hz]
    unfold SetTable.runEnd at h2
    split at h2<;>omega
   rw[Array.getElem?_eq_getElem hb]
   have:owner.getD (i+k) (some 0)=owner[i+k]:=by
    rw[Array.getD_eq_getD_getElem?,Array.getElem?_eq_getElem hb]
    rfl
   rw[this]at h1
   congr 1
   cases hq:owner[i+k]with
   | none=>rfl
   | some y=>rw[hq]at h1;cases h1
  ·rename_i hk
   cases n with
   | zero=>
    exfalso
    have h0:i=j:=he
    have:=List.find?_eq_none.mp hk 0 (List.mem_range.mpr (by unfold SetTable.runEnd;split<;>omega))
    rw[Nat.add_zero,h0,Array.getD_eq_getD_getElem?,hj]at this
    simp at this
   | succ n=>
    have:=rM m 1 (i,p) hi
    exact ih n (SetTable.leap m i p).1 (SetTable.leap m i p).2 this (by omega) he
def jy(mask:Nat)(acc:Option (Array (Option Nat)×Nat))(h:Int):Option (Array (Option Nat)×Nat):=do
 let (owner,k) ←acc
 let j ←SetTable.layClean.free mask owner (SetTable.turns mask) (SetTable.bits h % (mask+1)) (SetTable.bits h)
 pure (owner.setIfInBounds j (some k),k+1)
theorem zh{l:List (Option Nat)}(h:(l.filterMap id).length<l.length):∃j:Nat,l[j]?=some none:=by
 have:=BR l
 have h1:0<(l.filter (·.isNone)).length:=by omega
 obtain⟨x,hx⟩:=List.exists_mem_of_length_pos h1
 obtain⟨hx1,hx2⟩:=List.mem_filter.mp hx
 have:x=none:=by cases x<;>simp_all
 subst this
 obtain⟨j,hj⟩:=List.getElem?_of_mem hx1
 exact⟨j,hj⟩
theorem ll{α:Type}(xs:Array α)(p:Nat)(x:α):(SetTable.insertAt xs p x).size=xs.size+1:=by
 unfold SetTable.insertAt
 simp
 omega
theorem zI{α:Type}{xs:Array α}{p:Nat}{x e:α}(h:e∈(SetTable.insertAt xs p x).toList):e=x\/e∈xs.toList:=by
 unfold SetTable.insertAt at h
 simp only[Array.toList_append,Array.toList_push,Array.toList_extract,Dm,CZ]at h
 rcases h with(h | h) | h
 ·exact .inr (List.mem_of_mem_take (by simpa using h))
 ·exact .inl h
 ·exact .inr (List.mem_of_mem_drop (List.mem_of_mem_take h))
theorem xN:SetTable.sizeAbove 20-1=31:=by decide +kernel
theorem wF:SetTable.sizeAbove 76-1=127:=by decide +kernel
theorem xA:SetTable.sizeAbove 308-1=511:=by decide +kernel
theorem zP:SetTable.sizeAbove 1228-1=2047:=by decide +kernel
theorem Bf:SetTable.sizeAbove 4916-1=8191:=by decide +kernel
end Tb
namespace Tb
open PySem
theorem least{P:Nat->Prop}:∀n,P n->∃m,m<=n/\P m/\∀k,k<m->¬P k:=by
 intro n
 induction n using Nat.strongRecOn with
 | ind n ih=>
  intro h
  rcases Classical.em (∃k,k<n/\P k)with⟨k,hk,pk⟩ | hn
  ·obtain⟨m,h1,h2,h3⟩:=ih k hk pk
   exact⟨m,by omega,h2,h3⟩
  ·exact⟨n,Dj _,h,fun k hk pk=>hn ⟨k,hk,pk⟩⟩
theorem iU{xs:Array Nat}(h:xs.toList.Pairwise (· < ·)){a b x y:Nat}(ha:xs[a]?=some x)(hb:xs[b]?=some y)(hab:a<b):x<y:=by
 obtain⟨h1,e1⟩:=Array.getElem?_eq_some_iff.mp ha
 obtain⟨h2,e2⟩:=Array.getElem?_eq_some_iff.mp hb
 have:=List.pairwise_iff_getElem.mp h a b (by simpa using h1) (by simpa using h2) hab
 simp only[Array.getElem_toList]at this
 rw[e1,e2]at this
 exact this
theorem nE(xs:Array Nat)(j:Nat)(hs:xs.toList.Pairwise (· < ·)):∀fuel lo hi,hi-lo<=fuel->lo<=hi->hi<=xs.size->(∀k x,k<lo->xs[k]?=some x->x<j)->(∀k x,hi<=k->xs[k]?=some x->j<=x) →
  SetTable.below.go xs j fuel lo hi<=xs.size/\(∀k x,k<SetTable.below.go xs j fuel lo hi->xs[k]?=some x->x<j)/\(∀k x,SetTable.below.go xs j fuel lo hi<=k->xs[k]?=some x->j<=x)
 | 0,lo,hi,h1,h2,h3,h4,h5=>by
  have:lo=hi:=by omega
  subst this
  exact⟨h3,h4,h5⟩
 | fuel+1,lo,hi,h1,h2,h3,h4,h5=>by
  unfold SetTable.below.go
  by_cases hlt:lo<hi
  ·rw[DQ hlt]
   dsimp only
   have hm:(lo+hi) / 2<xs.size:=by omega
   have em:xs[(lo+hi) / 2]?=some xs[(lo+hi) / 2]:=getElem?_pos xs _ hm
   have eg:xs.getD ((lo+hi) / 2) j=xs[(lo+hi) / 2]:=by
    rw[Array.getD_eq_getD_getElem?,em]
    rfl
   rw[eg]
   by_cases hc:xs[(lo+hi) / 2]<j
   ·rw[DQ hc]
    refine nE xs j hs fuel _ _ (by omega) (by omega) h3 (fun k x hk ek=>?_) h5
    rcases DH k ((lo+hi) / 2)with a | a
    ·have:=iU hs ek em a
     omega
    ·have:k=(lo+hi) / 2:=by omega
     subst this
     rw[em]at ek
     cases ek
     exact hc
   ·rw[DP hc]
    refine nE xs j hs fuel _ _ (by omega) (by omega) (by omega) h4 (fun k x hk ek=>?_)
    rcases DH ((lo+hi) / 2) k with a | a
    ·have:=iU hs em ek a
     omega
    ·have:k=(lo+hi) / 2:=by omega
     subst this
     rw[em]at ek
     cases ek
     omega
  ·rw[DP hlt]
   have:lo=hi:=by omega
   subst this
   exact⟨h3,h4,h5⟩
theorem iO{xs:Array Nat}(hs:xs.toList.Pairwise (· < ·))(j:Nat):SetTable.below xs j<=xs.size/\(∀k x,k<SetTable.below xs j->xs[k]?=some x->x<j)/\(∀k x,SetTable.below xs j<=k->xs[k]?=some x->j<=x):=
 nE xs j hs xs.size 0 xs.size (by omega) (Nat.zero_le _) (Dj _) (fun k x hk=>by omega) (fun k x hk e=>by
  have:=(Array.getElem?_eq_some_iff.mp e).1
  omega)
theorem slot_mem{t:SetTable}(hs:t.place.toList.Pairwise (· < ·)){j i:Nat}(h:t.place[i]?=some j):t.slot j=.live i:=by
 obtain⟨h1,h2,h3⟩:=iO hs j
 have e:SetTable.below t.place j=i:=by
  have hi:=(Array.getElem?_eq_some_iff.mp h).1
  rcases DH i (SetTable.below t.place j)with a | a
  ·have:=h2 i j a h
   omega
  ·rcases DH (SetTable.below t.place j) i with b | b
   ·have eb:t.place[SetTable.below t.place j]?=some t.place[SetTable.below t.place j]:=getElem?_pos t.place _ (by omega)
    have c1:=h3 _ _ (Dj _) eb
    have c2:=iU hs eb h b
    omega
   ·omega
 unfold SetTable.slot
 dsimp only
 rw[e,h,DQ (beq_self_eq_true _)]
theorem gR{α:Type}(xs:Array α)(p:Nat)(x:α):(SetTable.insertAt xs p x).toList=xs.toList.take p++(x::xs.toList.drop p):=by
 unfold SetTable.insertAt
 rw[Array.toList_append,Array.toList_push,Array.toList_extract,Array.toList_extract]
 show List.take (p-0) (xs.toList.drop 0)++[x]++List.take (xs.size-p) (xs.toList.drop p)=_
 rw[List.take_of_length_le (l:=xs.toList.drop p) (by rw[List.length_drop,CS];exact Dj _),List.append_assoc]
 rfl
theorem uk{α:Type}(xs:Array α){p:Nat}(hp:p<=xs.size)(x:α)(i:Nat):(SetTable.insertAt xs p x)[i]?=if i<p then xs[i]? else if i=p then some x else xs[i-1]?:=by
 rw[←Array.getElem?_toList,gR,List.getElem?_append,DJ,CS,show min p xs.size=p by omega]
 by_cases h:i<p
 ·rw[DQ h,DQ h,List.getElem?_take_of_lt h,Array.getElem?_toList]
 ·rw[DP h,DP h]
  by_cases e:i=p
  ·rw[DQ e,e,Nat.sub_self]
   rfl
  ·rw[DP e]
   obtain⟨k,rfl⟩:∃k,i=p+(k+1):=⟨i-p-1,by omega⟩
   rw[show p+(k+1)-p=k+1 by omega,List.getElem?_cons_succ,List.getElem?_drop,Array.getElem?_toList]
   congr 1
theorem qi{xs:Array Nat}(hs:xs.toList.Pairwise (· < ·)){j:Nat}(hn:j∉xs.toList):(SetTable.insertAt xs (SetTable.below xs j) j).toList.Pairwise (· < ·):=by
 obtain⟨h1,h2,h3⟩:=iO hs j
 rw[gR]
 have hs':=hs
 rw[←List.take_append_drop (SetTable.below xs j) xs.toList,List.pairwise_append]at hs'
 rw[List.pairwise_append,List.pairwise_cons]
 refine⟨hs'.1,⟨fun y hy=>?_,hs'.2.1⟩,fun x hx y hy=>?_⟩
 ·obtain⟨k,hk,e⟩:=List.mem_iff_getElem.mp hy
  rw[List.length_drop,CS]at hk
  rw[List.getElem_drop,Array.getElem_toList]at e
  have ex:xs[SetTable.below xs j+k]?=some y:=by
   rw[getElem?_pos xs _ (by omega),e]
  have:=h3 _ _ (by omega) ex
  have ne:y≠j:=fun z=>hn (by rw[←z];exact Array.mem_toList_iff.mpr (Array.mem_of_getElem? ex))
  omega
 ·have hxj:x<j:=by
   obtain⟨k,hk,e⟩:=List.mem_iff_getElem.mp hx
   rw[DJ,CS]at hk
   rw[List.getElem_take,Array.getElem_toList]at e
   exact h2 k x (by omega) (by rw[getElem?_pos xs _ (by omega),e])
  rcases De.mp hy with rfl | hy
  ·exact hxj
  ·exact hs'.2.2 x hx y hy
abbrev tM(m:Nat):SetTable:={ mask:=m,place:=#[],dummies:=#[],finger:=0,led:=false,moves:=0,plain:=false }
def pm(m:Nat)(h:Int)(k:Nat):Nat:=(aB (tM m) k ((tM m).probeStart h)).j
theorem rn(t:SetTable):∀k p,aB t k p=aB (tM t.mask) k p
 | 0,p=>rfl
 | k+1,p=>rn t k _
theorem vi(t:SetTable)(h:Int)(k:Nat):(aB t k (t.probeStart h)).j=pm t.mask h k:=by
 rw[rn]
 rfl
structure TOk(m:Nat)(pl:Array Nat)(hs:Array Int):Prop where
 len:pl.size=hs.size
 inc:pl.toList.Pairwise (· < ·)
 rch:∀(i j:Nat) (h:Int),pl[i]?=some j->hs[i]?=some h->∃K,K<10*SetTable.turns m/\pm m h K=j/\∀k,k<K->pm m h k∈pl.toList
theorem TOk.nil(m:Nat):TOk m #[] #[]:=⟨rfl,.nil,fun i j h e=>by simp at e⟩
theorem TOk.put{m:Nat}{pl:Array Nat}{hs:Array Int}(T:TOk m pl hs){h:Int}{K:Nat}(hK:K<10*SetTable.turns m)(hn:pm m h K∉pl.toList)(hb:∀k,k<K->pm m h k∈pl.toList):
  TOk m (SetTable.insertAt pl (SetTable.below pl (pm m h K)) (pm m h K)) (SetTable.insertAt hs (SetTable.below pl (pm m h K)) h):=by
 have hle:=(iO T.inc (pm m h K)).1
 have more:∀x,x∈pl.toList->x∈(SetTable.insertAt pl (SetTable.below pl (pm m h K)) (pm m h K)).toList:=fun x hx=>by
  rw[gR]
  rw[←List.take_append_drop (SetTable.below pl (pm m h K)) pl.toList]at hx
  rcases Dm.mp hx with a | a
  ·exact DE _ a
  ·exact DD _ (CQ _ a)
 have old:∀(i j:Nat) (h':Int),pl[i]?=some j->hs[i]?=some h'->∃K',K'<10*SetTable.turns m/\pm m h' K'=j/\∀k,k<K'->pm m h' k∈(SetTable.insertAt pl (SetTable.below pl (pm m h K)) (pm m h K)).toList:=fun i j h' e1 e2=>by
  obtain⟨K',h1,h2,h3⟩:=T.rch i j h' e1 e2
  exact⟨K',h1,h2,fun k hk=>more _ (h3 k hk)⟩
 refine⟨by rw[ll,ll,T.len],qi T.inc hn,fun i j h' e1 e2=>?_⟩
 rw[uk pl hle]at e1
 rw[uk hs (by rw[←T.len];exact hle)]at e2
 by_cases c1:i<SetTable.below pl (pm m h K)
 ·rw[DQ c1]at e1 e2
  exact old i j h' e1 e2
 ·rw[DP c1]at e1 e2
  by_cases c2:i=SetTable.below pl (pm m h K)
  ·rw[DQ c2]at e1 e2
   cases e1
   cases e2
   exact⟨K,hK,rfl,fun k hk=>more _ (hb k hk)⟩
  ·rw[DP c2]at e1 e2
   exact old _ j h' e1 e2
theorem zY{t:SetTable}(hd:t.dummies = #[]){j:Nat}(h:t.slot j≠.empty):j∈t.place.toList:=by
 rcases lW hd j with e | ⟨i,e⟩
 ·exact absurd e h
 ·exact Array.mem_toList_iff.mpr (Array.mem_of_getElem? (jG e))
theorem rP{t:SetTable}(hs:t.place.toList.Pairwise (· < ·)){j:Nat}(h:j∈t.place.toList):∃i,t.slot j=.live i/\t.place[i]?=some j:=by
 obtain⟨i,hi⟩:=List.getElem?_of_mem h
 rw[Array.getElem?_toList]at hi
 exact⟨i,slot_mem hs hi,hi⟩
theorem pK{t:SetTable}(hs:t.place.toList.Pairwise (· < ·)){j:Nat}(h:t.slot j=.empty):j∉t.place.toList:=fun hm=>by
 obtain⟨i,e,_⟩:=rP hs hm
 rw[h]at e
 cases e
theorem Cz{t:SetTable}(hd:t.dummies = #[])(hm:Mask t.mask)(hp:t.place.size<=t.mask)(h:Int):∃K,K<10*SetTable.turns t.mask/\t.slot (pm t.mask h K)=.empty/\∀k,k<K->t.slot (pm t.mask h k)≠.empty:=by
 obtain⟨j0,hj0,hs0⟩:=A4 hd hp
 obtain⟨N,hN,eN⟩:=Bx hm hj0 h
 rw[vi]at eN
 obtain⟨K,h1,h2,h3⟩:=least (P:=fun n=>t.slot (pm t.mask h n)=.empty) N (by show t.slot (pm t.mask h N)=_;rw[eN];exact hs0)
 exact⟨K,by omega,h2,h3⟩
theorem rN{t:SetTable}(hd:t.dummies = #[])(hash:Nat->Int)(h:Int):∀(K fuel:Nat) (p:SetTable.Probe),K<fuel->p.dummy=none->(∀k,k<K->t.slot (aB t k p).j≠.empty) →
  (∃k i,k<K/\SetTable.probe.go t hash h fuel p=some (.candidate (aB t k p).j i (aB t (k+1) p))/\t.slot (aB t k p).j=.live i)\/SetTable.probe.go t hash h fuel p=SetTable.probe.go t hash h (fuel-K) (aB t K p):=by
 intro K
 induction K with
 | zero=>intro fuel p _ _ _;exact .inr rfl
 | succ K ih=>
  intro fuel p hf hp hs
  obtain⟨f,rfl⟩:∃f,fuel=f+1:=⟨fuel-1,by omega⟩
  have h0:t.slot p.j≠.empty:=hs 0 (by omega)
  rcases lW hd p.j with h1 | ⟨i,h1⟩
  ·exact absurd h1 h0
  ·by_cases hq:(hash i == h)=true
   ·refine .inl ⟨0,i,by omega,?_,h1⟩
    conv=>lhs;unfold SetTable.probe.go
    rw[h1]
    dsimp only
    rw[DQ hq]
    rfl
   ·have e:SetTable.probe.go t hash h (f+1) p=SetTable.probe.go t hash h f (t.advance p):=by
     conv=>lhs;unfold SetTable.probe.go
     rw[h1]
     dsimp only
     rw[DP hq]
    rw[e]
    have hp':(t.advance p).dummy=none:=by
     have:=iH t 1 p
     rw[hp]at this
     exact this
    rcases ih f (t.advance p) (by omega) hp' (fun k hk=>hs (k+1) (by omega))with⟨k,i',hk,e',hl⟩ | e'
    ·exact .inl ⟨k+1,i',by omega,e',hl⟩
    ·refine .inr ?_
     rw[e',show f+1-(K+1)=f-K by omega]
     rfl
theorem Ad{t:SetTable}(hd:t.dummies = #[])(hash:Nat->Int)(h:Int){K fuel:Nat}{p:SetTable.Probe}(hf:K<fuel)(hp:p.dummy=none)(hs:∀k,k<K->t.slot (aB t k p).j≠.empty)(he:t.slot (aB t K p).j=.empty):
  (∃k i,k<K/\SetTable.probe.go t hash h fuel p=some (.candidate (aB t k p).j i (aB t (k+1) p))/\t.slot (aB t k p).j=.live i)\/SetTable.probe.go t hash h fuel p=some (.empty (aB t K p).j none):=by
 rcases rN hd hash h K fuel p hf hp hs with a | a
 ·exact .inl a
 ·refine .inr ?_
  rw[a]
  obtain⟨f,hf'⟩:∃f,fuel-K=f+1:=⟨fuel-K-1,by omega⟩
  rw[hf']
  unfold SetTable.probe.go
  rw[he]
  dsimp only
  rw[iH,hp]
theorem wm{t:SetTable}(hd:t.dummies = #[])(hash:Nat->Int)(h:Int){K fuel i0:Nat}{p:SetTable.Probe}(hf:K<fuel)(hp:p.dummy=none)(hs:∀k,k<K->t.slot (aB t k p).j≠.empty)(he:t.slot (aB t K p).j=.live i0)(hh:hash i0=h):
  ∃k i,k<=K/\SetTable.probe.go t hash h fuel p=some (.candidate (aB t k p).j i (aB t (k+1) p))/\t.slot (aB t k p).j=.live i:=by
 rcases rN hd hash h K fuel p hf hp hs with⟨k,i,hk,e,hl⟩ | a
 ·exact⟨k,i,by omega,e,hl⟩
 ·refine⟨K,i0,Dj _,?_,he⟩
  rw[a]
  obtain⟨f,hf'⟩:∃f,fuel-K=f+1:=⟨fuel-K-1,by omega⟩
  rw[hf']
  conv=>lhs;unfold SetTable.probe.go
  rw[he]
  dsimp only
  rw[DQ (by rw[hh];exact beq_self_eq_true _)]
  rw[ff]
  rfl
theorem tu(t:SetTable):∀(k:Nat) (p:SetTable.Probe),k<=p.more->aB t k p={ p with j:=p.j+k,more:=p.more-k }
 | 0,p,h=>rfl
 | k+1,p,h=>by
  show aB t k (t.advance p)=_
  have e:t.advance p={ p with j:=p.j+1,more:=p.more-1 }:=by
   unfold SetTable.advance
   rw[DQ (by omega)]
  rw[e,tu t k _ (by show k<=p.more-1;omega)]
  simp only[SetTable.Probe.mk.injEq,true_and,and_true]
  omega
theorem vO{m i:Nat}(h:i<=m):SetTable.runEnd m i<=m/\i<=SetTable.runEnd m i/\SetTable.runEnd m i<=i+9:=by
 unfold SetTable.runEnd
 split<;>omega
theorem mC{t:SetTable}{i p k:Nat}(h:k<=SetTable.runEnd t.mask i-i):(aB t k (at_ t (i,p))).j=i+k:=by
 rw[tu t k _ h]
 rfl
theorem u7{owner:Array (Option Nat)}{j:Nat}(hj:j<owner.size)(h:(owner.getD j (some 0)).isNone=false):∃x,owner[j]?=some (some x):=by
 rw[Array.getD_eq_getD_getElem?,getElem?_pos owner j hj]at h
 rw[getElem?_pos owner j hj]
 cases e:owner[j]with
 | none=>rw[e]at h;cases h
 | some x=>exact⟨x,rfl⟩
theorem uQ{t:SetTable}(owner:Array (Option Nat))(hz:owner.size=t.mask+1):∀(fuel i p j':Nat),i<=t.mask->SetTable.layClean.free t.mask owner fuel i p=some j' →
  ∃K,K<10*fuel/\(aB t K (at_ t (i,p))).j=j'/\∀k,k<K->∃x,owner[(aB t k (at_ t (i,p))).j]?=some (some x)
 | 0,i,p,j',hi,h=>by cases h
 | fuel+1,i,p,j',hi,h=>by
  obtain⟨r1,r2,r3⟩:=vO hi
  unfold SetTable.layClean.free at h
  split at h
  ·rename_i k0 hk
   cases h
   rw[List.find?_range_eq_some]at hk
   obtain⟨hk1,hk2,hk3⟩:=hk
   have hk2:=List.mem_range.mp hk2
   refine⟨k0,by omega,mC (by omega),fun k hk=>?_⟩
   rw[mC (by omega)]
   refine u7 (by omega) ?_
   have:=hk3 k hk
   simpa using this
  ·rename_i hk
   rw[List.find?_range_eq_none]at hk
   have hnx:(SetTable.leap t.mask i p).1<=t.mask:=by
    show(_ % (t.mask+1))<=t.mask
    have:=Nat.mod_lt (i*5+1+p / 32) (show 0<t.mask+1 by omega)
    omega
   obtain⟨K,h1,h2,h3⟩:=uQ owner hz fuel _ _ j' hnx h
   have hr:aB t (SetTable.runEnd t.mask i-i+1) (at_ t (i,p))=at_ t (SetTable.leap t.mask i p):=(lq t (SetTable.runEnd t.mask i-i) (at_ t (i,p)) rfl).trans rfl
   refine⟨SetTable.runEnd t.mask i-i+1+K,by omega,?_,fun k hk'=>?_⟩
   ·rw[ff,hr]
    exact h2
   ·rcases DH k (SetTable.runEnd t.mask i-i+1)with a | a
    ·rw[mC (by omega)]
     refine u7 (by omega) ?_
     have:=hk k (by omega)
     simpa using this
    ·obtain⟨k',rfl⟩:∃k',k=SetTable.runEnd t.mask i-i+1+k':=⟨k-(SetTable.runEnd t.mask i-i+1),by omega⟩
     rw[ff,hr]
     exact h3 k' (by omega)
def kN(m:Nat)(F:Nat->Int)(owner:Array (Option Nat)):Prop:=∀j x:Nat,owner[j]?=some (some x)->∃K,K<10*SetTable.turns m/\pm m (F x) K=j/\∀k,k<K->∃y,owner[pm m (F x) k]?=some (some y)
theorem uO{m:Nat}(hm:Mask m)(F:Nat->Int):∀(hs:List Int) (owner:Array (Option Nat)) (k:Nat),owner.size=m+1->(owner.toList.filterMap id).Perm (DM k)->k+hs.length<=m->(∀i h,hs[i]?=some h->F (k+i)=h)->kN m F owner →
  ∃owner',hs.foldl (jy m) (some (owner,k))=some (owner',k+hs.length)/\owner'.size=m+1/\(owner'.toList.filterMap id).Perm (DM (k+hs.length))/\kN m F owner'
 | [],owner,k,h1,h2,h3,h4,h5=>⟨owner,rfl,h1,h2,h5⟩
 | h::hs,owner,k,h1,h2,h3,h4,h5=>by
  rw[Ds]at h3 ⊢
  have hlt:(owner.toList.filterMap id).length<owner.toList.length:=by
   rw[h2.length_eq,List.length_range,CS,h1]
   omega
  obtain⟨j,hj⟩:=zh hlt
  rw[Array.getElem?_toList]at hj
  have hjm:j<=m:=by
   have:=(Array.getElem?_eq_some_iff.mp hj).1
   omega
  have hi:SetTable.bits h % (m+1)<=m:=by
   have:=Nat.mod_lt (SetTable.bits h) (show 0<m+1 by omega)
   omega
  obtain⟨n,hn,en⟩:=tw hm hi (pJ h) hjm
  obtain⟨j',e',hj'⟩:=wD hm owner h1 hj (SetTable.turns m) n _ _ hi (by unfold SetTable.turns;omega) en
  obtain⟨K,K1,K2,K3⟩:=uQ (t:=tM m) owner h1 (SetTable.turns m) _ _ j' hi e'
  have step:jy m (some (owner,k)) h=some (owner.setIfInBounds j' (some k),k+1):=by
   unfold jy
   simp[e']
  rw[List.foldl_cons,step]
  have hp:((owner.setIfInBounds j' (some k)).toList.filterMap id).Perm (DM (k+1)):=by
   rw[Array.toList_setIfInBounds]
   rw[←Array.getElem?_toList]at hj'
   refine(sW hj').trans ?_
   rw[List.range_succ]
   exact(List.Perm.cons k h2).trans (List.perm_append_comm (l₁:=[k]) (l₂:=DM k))
  have hj's:j'<owner.size:=(Array.getElem?_eq_some_iff.mp hj').1
  have keep:∀i x,owner[i]?=some (some x)->(owner.setIfInBounds j' (some k))[i]?=some (some x):=fun i x e=>by
   rw[Array.getElem?_setIfInBounds,DP]
   ·exact e
   ·rintro rfl
    rw[hj']at e
    cases e
  have hR:kN m F (owner.setIfInBounds j' (some k)):=fun i x e=>by
   rw[Array.getElem?_setIfInBounds]at e
   by_cases c:j'=i
   ·rw[DQ c,DQ hj's]at e
    cases e
    have eF:F k=h:=by
     have:=h4 0 h rfl
     rwa [Nat.add_zero]at this
    rw[eF]
    refine⟨K,K1,?_,fun k' hk'=>?_⟩
    ·rw[←c]
     exact K2
    ·obtain⟨y,hy⟩:=K3 k' hk'
     exact⟨y,keep _ _ hy⟩
   ·rw[DP c]at e
    obtain⟨K',q1,q2,q3⟩:=h5 i x e
    refine⟨K',q1,q2,fun k' hk'=>?_⟩
    obtain⟨y,hy⟩:=q3 k' hk'
    exact⟨y,keep _ _ hy⟩
  obtain⟨o',f1,f2,f3,f4⟩:=uO hm F hs (owner.setIfInBounds j' (some k)) (k+1) (by simpa using h1) hp (by omega) (fun i h' e=>by
   have:=h4 (i+1) h' e
   rwa [show k+(i+1)=k+1+i by omega]at this) hR
  exact⟨o',by rw[f1];congr 2;omega,f2,by rw[show k+(hs.length+1)=k+1+hs.length by omega];exact f3,f4⟩
theorem hJ{α:Type}(es:Array α):∀(l:List Nat),(∀i∈l,i<es.size)->∀n:Nat,(l.filterMap (es[·]?))[n]?=(l[n]?).bind (es[·]?)
 | [],_,n=>by simp
 | x::l,h,n=>by
  have hx:=h x CU
  have e:(x::l).filterMap (es[·]?)=es[x]::l.filterMap (es[·]?):=by
   rw[List.filterMap_cons]
   simp[hx]
  rw[e]
  cases n with
  | zero=>simp[hx]
  | succ n=>simpa using hJ es l (fun i hi=>h i (CQ _ hi)) n
theorem qP{f:Nat->Option (Nat×Nat)}(hf:∀j x,f j=some x->x.1=j):∀(l:List Nat),(∀x∈(l.filterMap f),f x.1=some x)/\((l.filterMap f).map (·.1))=l.filter (fun j=>(f j).isSome)
 | []=>⟨fun x hx=>(by cases hx),rfl⟩
 | a::l=>by
  obtain⟨i1,i2⟩:=qP hf l
  cases e:f a with
  | none=>
   rw[List.filterMap_cons_none e,List.filter_cons_of_neg (by rw[e];simp)]
   exact⟨i1,i2⟩
  | some x=>
   rw[List.filterMap_cons_some e,List.filter_cons_of_pos (by rw[e];rfl),List.map_cons,i2,hf a x e]
   refine⟨fun y hy=>?_,rfl⟩
   rcases De.mp hy with rfl | hy
   ·rw[hf a y e]
    exact e
   ·exact i1 y hy
theorem Ax(t:SetTable){es:Array (Int×Value)}{wanted m:Nat}(hm:Mask m)(hw:SetTable.sizeAbove wanted-1=m)(hn:es.size<=m):
  ∃t' order,t.relaid (es.map (·.1)) wanted=some (t',order)/\t'.place.size=es.size/\t'.dummies = #[]/\t'.mask=m/\order.toList.Perm (DM es.size)/\t'.led=t.led/\t'.plain=t.plain/\TOk m t'.place ((order.filterMap (es[·]?)).map (·.1)):=by
 obtain⟨o',f1,f2,f3,f4⟩:=uO hm (fun i=>((es[i]?).map (·.1)).getD 0) (es.map (·.1)).toList (Array.replicate (m+1) none) 0 (by simp) (by simp) (by rw[CS,Array.size_map];omega) (fun i h e=>by
   rw[Array.getElem?_toList,Array.getElem?_map]at e
   show((es[0+i]?).map (·.1)).getD 0=h
   rw[Nat.zero_add,e]
   rfl) (fun j x e=>by
   rw[Array.getElem?_replicate]at e
   split at e<;>cases e)
 rw[CS,Nat.zero_add,Array.size_map]at f1 f3
 have hlay:SetTable.layClean m (es.map (·.1))=some o':=by
  show((es.map (·.1)).foldl (jy m) (some (Array.replicate (m+1) none,0))).map (·.1)=some o'
  rw[←Array.foldl_toList,f1]
  rfl
 have hsnd:((DM (m+1)).filterMap fun j=>(o'.getD j none).map (j,·)).map (·.2)=o'.toList.filterMap id:=by
  rw[List.map_filterMap]
  have:o'.toList=(DM (m+1)).map fun j=>o'.getD j none:=by
   apply List.ext_getElem
   ·rw[CS,CN,List.length_range,f2]
   ·intro i h1 h2
    rw[CS]at h1
    simp[h1]
  rw[this,List.filterMap_map]
  congr 1
  funext j
  show((o'.getD j none).map (j,·)).map (·.2)=o'.getD j none
  cases o'.getD j none<;>rfl
 have hrel:t.relaid (es.map (·.1)) wanted=some (({ mask:=m,place:=(((DM (m+1)).filterMap fun j=>(o'.getD j none).map (j,·)).map (·.1)).toArray,dummies:=#[],finger:=t.finger,led:=t.led,moves:=t.movedTo m,plain:=t.plain }:SetTable),(((DM (m+1)).filterMap fun j=>(o'.getD j none).map (j,·)).map (·.2)).toArray):=by
  unfold SetTable.relaid
  rw[hw]
  unfold SetTable.laid
  rw[hlay]
  rfl
 obtain⟨lv1,lv2⟩:=qP (f:=fun j=>(o'.getD j none).map (j,·)) (fun j x e=>by
  obtain⟨y,_,rfl⟩:=Dc.mp e
  rfl) (DM (m+1))
 have hlen:((DM (m+1)).filterMap fun j=>(o'.getD j none).map (j,·)).length=es.size:=by
  have:=congrArg List.length hsnd
  rwa [CN,f3.length_eq,List.length_range]at this
 have hall:∀i∈((DM (m+1)).filterMap fun j=>(o'.getD j none).map (j,·)).map (·.2),i<es.size:=fun i hi=>by
  rw[hsnd]at hi
  exact List.mem_range.mp (f3.mem_iff.mp hi)
 refine⟨_,_,hrel,?_,rfl,rfl,?_,rfl,rfl,?_⟩
 ·show(((DM (m+1)).filterMap fun j=>(o'.getD j none).map (j,·)).map (·.1)).toArray.size=_
  rw[CT,CN,hlen]
 ·show(((DM (m+1)).filterMap fun j=>(o'.getD j none).map (j,·)).map (·.2)).toArray.toList.Perm _
  rw[List.toList_toArray,hsnd]
  exact f3
 ·generalize hlv:((DM (m+1)).filterMap fun j=>(o'.getD j none).map (j,·))=lv at lv1 lv2 hlen hall
  show TOk m (lv.map (·.1)).toArray (((lv.map (·.2)).toArray.filterMap (es[·]?)).map (·.1))
  have mem:∀j,(∃y,o'[j]?=some (some y))->j∈(lv.map (·.1)).toArray.toList:=fun j ⟨y,hy⟩=>by
   rw[List.toList_toArray,lv2,List.mem_filter]
   have hj:=(Array.getElem?_eq_some_iff.mp hy).1
   refine⟨List.mem_range.mpr (by omega),?_⟩
   rw[Array.getD_eq_getD_getElem?,hy]
   rfl
  have hes:∀n:Nat,((((lv.map (·.2)).toArray.filterMap (es[·]?)).map (·.1)))[n]?=(((lv.map (·.2))[n]?).bind (es[·]?)).map (·.1):=fun n=>by
   rw[Array.getElem?_map,←Array.getElem?_toList,Array.toList_filterMap,List.toList_toArray,hJ es _ hall]
  refine⟨?_,?_,fun i j h e1 e2=>?_⟩
  ·rw[Array.size_map,←CS,←CS,Array.toList_filterMap,List.toList_toArray,List.toList_toArray,CN]
   have key:∀l:List Nat,(∀i∈l,i<es.size)->(l.filterMap (es[·]?)).length=l.length:=by
    intro l
    induction l with
    | nil=>intro _;rfl
    | cons x l ih=>
     intro hl
     have hx:=hl x CU
     rw[List.filterMap_cons,getElem?_pos es x hx,Ds,Ds,ih fun i hi=>hl i (CQ _ hi)]
   rw[key _ hall,CN]
  ·rw[List.toList_toArray,lv2]
   exact List.Pairwise.filter _ List.pairwise_lt_range
  ·rw[hes]at e2
   rw[List.getElem?_toArray,CP]at e1
   rw[CP]at e2
   obtain⟨⟨j',x⟩,hx,rfl⟩:=Dc.mp e1
   rw[hx]at e2
   have hf:=lv1 _ (CY hx)
   have hx':o'.getD j' none=some x:=by
    obtain⟨y,hy,ey⟩:=Dc.mp hf
    cases ey
    exact hy
   have ho:o'[j']?=some (some x):=by
    rw[Array.getD_eq_getD_getElem?]at hx'
    cases q:o'[j']? with
    | none=>rw[q]at hx';cases hx'
    | some y=>rw[q]at hx';cases hx';rfl
   obtain⟨K,q1,q2,q3⟩:=f4 j' x ho
   have eF:((es[x]?).map (·.1)).getD 0=h:=by
    have:(es[x]?).map (·.1)=some h:=e2
    rw[this]
    rfl
   dsimp only at q2 q3
   rw[eF]at q2 q3
   exact⟨K,q1,q2,fun k hk=>mem _ (q3 k hk)⟩
end Tb
namespace L2
open PySem PySem.Spec PyProof.Rows
section
variable {P:Program} {w:World} {A:Around} {E:Value->Shared->Prop} {s:Shared} {K:Type} [DecidableEq K] {knd:KeyKind P w K}
theorem kC{ks:List K}{vs:List Value}(h:ItemsAre knd ks vs):∀v∈vs,∀b,v≠.ref b:=fun v hv b e=>by
 have:=h.byValue v hv
 subst e
 cases this
theorem yN(n:Nat){v:Value}(h:∀b,v≠.ref b):ofAClassStatement n v=pure false:=by
 cases v with
 | ref b=>exact absurd rfl (h b)
 | _=>unfold ofAClassStatement;rfl
theorem oZ{ks:List K}{b:Addr}{Q:Bool->Shared->Prop}(hk:IsTupleKey knd s.heap ks b)(h:Q false s):wpAny (model P w) A (ofAClassStatement 8 (.ref b)) Q E s:=by
 have hT:=hk.typeIs
 obtain⟨o,items,n,ho,hc,hd,hi⟩:=hk
 unfold ofAClassStatement
 refine CH (wpAny_typeOf hT ?_)
 dsimp only
 refine CH (CI ?_)
 simp only[Bool.not_true,DG,if_false]
 refine CH (wpAny_seqItems ho hd ?_)
 dsimp only
 refine CH ?_
 rw[←Array.forIn_toList]
 refine wpAny_forIn_list _ (fun rest r s'=>r.1=none/\s'=s/\∀v∈rest,∀b,v≠.ref b) _ ?_ ?_ _ _ ⟨rfl,rfl,kC hi⟩
 ·rintro v rest r s' ⟨hr,rfl,hall⟩
  rw[yN _ (hall v CU)]
  refine CH (CI ?_)
  simp only[DG,if_false]
  exact CI ⟨rfl,rfl,fun u hu=>hall u (CQ _ hu)⟩
 ·rintro⟨r1,r2⟩ s' ⟨hr,rfl,_⟩
  simp only at hr
  subst hr
  exact CI h
theorem rK{ks:List K}{b:Addr}{l:List Value}{Q:Bool->Shared->Prop}(hk:IsTupleKey knd s.heap ks b)(hl:∀y∈l,∃b' k',y=.ref b'/\IsTupleKey knd s.heap k' b')(h:Q false s):wpAny (model P w) A (searchCouldBeSeen (.ref b) l) Q E s:=by
 unfold searchCouldBeSeen
 refine CH ?_
 refine wpAny_forIn_list _ (fun rest r s'=>r.1=none/\s'=s/\∀y∈rest,∃b' k',y=.ref b'/\IsTupleKey knd s.heap k' b') _ ?_ ?_ _ _ ⟨rfl,rfl,hl⟩
 ·rintro v rest r s' ⟨hr,rfl,hall⟩
  obtain⟨b',k',rfl,hk'⟩:=hall v CU
  have next:∀y∈rest,∃b' k',y=.ref b'/\IsTupleKey knd s'.heap k' b':=fun y hy=>hall y (CQ _ hy)
  dsimp only
  split
  ·exact CI ⟨rfl,rfl,next⟩
  ·refine CH (wpAny_eqIsQuiet_tuple hk ?_)
   simp only[Bool.not_true,DG,if_false]
   refine CH (wpAny_eqIsQuiet_tuple hk' ?_)
   simp only[Bool.not_true,DG,if_false]
   refine CH (oZ hk ?_)
   simp only[DG,if_false]
   refine CH (oZ hk' ?_)
   simp only[DG,if_false]
   exact CI ⟨rfl,rfl,next⟩
 ·rintro⟨r1,r2⟩ s' ⟨hr,rfl,_⟩
  simp only at hr
  subst hr
  exact CI h
theorem sH{t:SetTable}(hm:Tb.Mask t.mask):t.gaveWay=false:=by
 unfold SetTable.gaveWay
 rcases hm with e | e | e | e | e | e<;>rw[e]<;>rfl
theorem Be{a b:Addr}{k:List K}{h:Int}{o:Obj}{es:Array (Int×Value)}{ep:Nat}{t:SetTable}(hu:A.units<cLine)(hk:IsTupleKey knd s.heap k b)(ho:s.heap.get? a=some o)(hd:o.data=.set es ep t)(hf:t.fits es.size=true)(hm:Tb.Mask t.mask)(hdm:t.dummies = #[])
  (hall:∀e∈es.toList,∃b' k',e.2=.ref b'/\IsTupleKey knd s.heap k' b'/\k'≠k) {Q:SetFound->Shared->Prop} :
  ∀(K fuel:Nat) (stand:Option SetTable.Probe),K<fuel->K<10*SetTable.turns t.mask->(stand.getD (t.probeStart h)).dummy=none->(∀k',k'<K->t.slot (Tb.aB t k' (stand.getD (t.probeStart h))).j≠.empty)->t.slot (Tb.aB t K (stand.getD (t.probeStart h))).j=.empty →
   Q (.free (Tb.aB t K (stand.getD (t.probeStart h))).j false) s->wpAny (model P w) A (setSearchFrom a (.ref b) h true fuel stand) Q E s:=by
 intro K
 induction K using Nat.strongRecOn with
 | ind K ih=>
  intro fuel stand hfu hK hdu hne hs hQ
  obtain⟨f,rfl⟩:∃f,fuel=f+1:=⟨fuel-1,by omega⟩
  unfold setSearchFrom
  refine CH (DK ho hd hf ?_)
  dsimp only
  have hg:=sH hm
  have hsz:t.place.size=es.size:=by
   simp only[SetTable.fits,DA,beq_iff_eq]at hf
   exact hf.1
  have hsm:t.sameMemory t.moves t.mask=some true:=by
   unfold SetTable.sameMemory
   rw[DQ (beq_self_eq_true _)]
  rw[hg]
  simp only[DG,if_false]
  generalize hr:t.probe _ h (stand.getD (t.probeStart h))=r
  obtain⟨g,hr⟩:∃g,SetTable.probe.go t g h (10*SetTable.turns t.mask) (stand.getD (t.probeStart h))=r:=⟨_,hr⟩
  rcases Tb.Ad hdm g h hK hdu hne hs with⟨k',i,hk',e,hl⟩ | e
  ·rw[e]at hr
   subst hr
   have hpl:=Tb.jG hl
   have hi:i<es.size:=by
    rw[←hsz]
    exact(Array.getElem?_eq_some_iff.mp hpl).1
   have hmem:es[i]∈es.toList:=by simp
   obtain⟨b',k2,hy,hk2,hne2⟩:=hall _ hmem
   have hes:es[i]?=some (es[i].1,.ref b'):=by
    rw[Array.getElem?_eq_getElem hi,←hy]
   have hst:∀y∈((es.filter fun x=>x.1 == h).toList.map fun x=>x.2),∃b' k',y=Value.ref b'/\IsTupleKey knd s.heap k' b':=fun y hy=>by
    obtain⟨e0,he0,rfl⟩:=List.mem_map.mp hy
    have he1:e0∈es.toList:=by
     have:=Array.mem_toList_iff.mp he0
     exact Array.mem_toList_iff.mpr (Array.mem_filter.mp this).1
    obtain⟨b3,k3,h1,h2,_⟩:=hall e0 he1
    exact⟨b3,k3,h1,h2⟩
   have eK:∀x,Tb.aB t (k'+1+x) (stand.getD (t.probeStart h))=Tb.aB t x (Tb.aB t (k'+1) (stand.getD (t.probeStart h))):=fun x=>Tb.ff t _ _ _
   have again:wpAny (model P w) A (setSearchFrom a (.ref b) h true f (some (Tb.aB t (k'+1) (stand.getD (t.probeStart h))))) Q E s:=by
    refine ih (K-(k'+1)) (by omega) f _ (by omega) (by omega) ?_ (fun x hx=>?_) ?_ ?_
    ·show(Tb.aB t (k'+1) _).dummy=none
     rw[Tb.iH]
     exact hdu
    ·show t.slot (Tb.aB t x (Tb.aB t (k'+1) _)).j≠_
     rw[←eK]
     exact hne _ (by omega)
    ·show t.slot (Tb.aB t (K-(k'+1)) (Tb.aB t (k'+1) _)).j=_
     rw[←eK,show k'+1+(K-(k'+1))=K by omega]
     exact hs
    ·show Q (.free (Tb.aB t (K-(k'+1)) (Tb.aB t (k'+1) _)).j false) s
     rw[←eK,show k'+1+(K-(k'+1))=K by omega]
     exact hQ
   have same:isSame (Value.ref b') (Value.ref b')=pure true:=by
    unfold isSame
    simp
   dsimp only
   cases hled:t.led
   ·simp only[Bool.not_false,if_true]
    refine CH (rK hk hst ?_)
    simp only[DG,if_false]
    rw[hes]
    dsimp only
    refine CH (wpAny_holding (wpAny_eqBool_tuple hu hk2 hk ?_))
    rw[DN hne2]
    refine CH (DK ho hd hf ?_)
    dsimp only
    simp only[Bool.and_false,DG,if_false,hsm,if_true,hl,hes,same]
    exact CH (CI (CH (CI again)))
   ·simp only[Bool.not_true,DG,if_false]
    rw[hes]
    dsimp only
    refine CH (wpAny_holding (wpAny_eqBool_tuple hu hk2 hk ?_))
    rw[DN hne2]
    refine CH (DK ho hd hf ?_)
    dsimp only
    simp only[Bool.and_false,DG,if_false,hsm,if_true,hl,hes,same]
    exact CH (CI (CH (CI again)))
  ·rw[e]at hr
   subst hr
   exact CI hQ
theorem An{a b:Addr}{k:List K}{h:Int}{o:Obj}{es:Array (Int×Value)}{ep i0:Nat}{t:SetTable}(hu:A.units<cLine)(hk:IsTupleKey knd s.heap k b)(ho:s.heap.get? a=some o)(hd:o.data=.set es ep t)(hf:t.fits es.size=true)(hm:Tb.Mask t.mask)(hdm:t.dummies = #[])
  (hall:∀e∈es.toList,∃b' k',e.2=.ref b'/\IsTupleKey knd s.heap k' b') (hi0:∃b0,es[i0]?=some (h,.ref b0)/\IsTupleKey knd s.heap k b0) {Q:SetFound->Shared->Prop} (hQ:Q (.there none) s) :
  ∀(K fuel:Nat) (stand:Option SetTable.Probe),K<fuel->K<10*SetTable.turns t.mask->(stand.getD (t.probeStart h)).dummy=none->(∀k',k'<K->t.slot (Tb.aB t k' (stand.getD (t.probeStart h))).j≠.empty)->t.slot (Tb.aB t K (stand.getD (t.probeStart h))).j=.live i0 →
   wpAny (model P w) A (setSearchFrom a (.ref b) h true fuel stand) Q E s:=by
 obtain⟨b0,hb0,hkb0⟩:=hi0
 intro K
 induction K using Nat.strongRecOn with
 | ind K ih=>
  intro fuel stand hfu hK hdu hne hs
  obtain⟨f,rfl⟩:∃f,fuel=f+1:=⟨fuel-1,by omega⟩
  unfold setSearchFrom
  refine CH (DK ho hd hf ?_)
  dsimp only
  have hg:=sH hm
  have hsz:t.place.size=es.size:=by
   simp only[SetTable.fits,DA,beq_iff_eq]at hf
   exact hf.1
  have hsm:t.sameMemory t.moves t.mask=some true:=by
   unfold SetTable.sameMemory
   rw[DQ (beq_self_eq_true _)]
  rw[hg]
  simp only[DG,if_false]
  generalize hr:t.probe _ h (stand.getD (t.probeStart h))=r
  obtain⟨g,hgi,hr⟩:∃g:Nat->Int,g i0=h/\SetTable.probe.go t g h (10*SetTable.turns t.mask) (stand.getD (t.probeStart h))=r:=⟨_,by show((es[i0]?).map (·.1)).getD 0=h;rw[hb0];rfl,hr⟩
  obtain⟨k',i,hk',e,hl⟩:=Tb.wm hdm g h hK hdu hne hs hgi
  rw[e]at hr
  subst hr
  have hpl:=Tb.jG hl
  have hi:i<es.size:=by
   rw[←hsz]
   exact(Array.getElem?_eq_some_iff.mp hpl).1
  have hmem:es[i]∈es.toList:=by simp
  obtain⟨b',k2,hy,hk2⟩:=hall _ hmem
  have hes:es[i]?=some (es[i].1,.ref b'):=by
   rw[Array.getElem?_eq_getElem hi,←hy]
  have hst:∀y∈((es.filter fun x=>x.1 == h).toList.map fun x=>x.2),∃b' k',y=Value.ref b'/\IsTupleKey knd s.heap k' b':=fun y hy=>by
   obtain⟨e0,he0,rfl⟩:=List.mem_map.mp hy
   have he1:e0∈es.toList:=by
    have:=Array.mem_toList_iff.mp he0
    exact Array.mem_toList_iff.mpr (Array.mem_filter.mp this).1
   obtain⟨b3,k3,h1,h2⟩:=hall e0 he1
   exact⟨b3,k3,h1,h2⟩
  have eK:∀x,Tb.aB t (k'+1+x) (stand.getD (t.probeStart h))=Tb.aB t x (Tb.aB t (k'+1) (stand.getD (t.probeStart h))):=fun x=>Tb.ff t _ _ _
  have again:k2≠k->wpAny (model P w) A (setSearchFrom a (.ref b) h true f (some (Tb.aB t (k'+1) (stand.getD (t.probeStart h))))) Q E s:=fun hne2=>by
   have hlt:k'<K:=by
    rcases DH k' K with q | q
    ·exact q
    ·have:k'=K:=by omega
     subst this
     rw[hs]at hl
     cases hl
     rw[hb0]at hes
     cases hes
     obtain⟨o1,i1,n1,z1,_,z2,z3⟩:=hk2
     obtain⟨o2,i2,n2,y1,_,y2,y3⟩:=hkb0
     rw[z1]at y1
     cases y1
     rw[z2]at y2
     cases y2
     exact absurd (z3.inj y3) hne2
   refine ih (K-(k'+1)) (by omega) f _ (by omega) (by omega) ?_ (fun x hx=>?_) ?_
   ·show(Tb.aB t (k'+1) _).dummy=none
    rw[Tb.iH]
    exact hdu
   ·show t.slot (Tb.aB t x (Tb.aB t (k'+1) _)).j≠_
    rw[←eK]
    exact hne _ (by omega)
   ·show t.slot (Tb.aB t (K-(k'+1)) (Tb.aB t (k'+1) _)).j=_
    rw[←eK,show k'+1+(K-(k'+1))=K by omega]
    exact hs
  have same:isSame (Value.ref b') (Value.ref b')=pure true:=by
   unfold isSame
   simp
  have fin:wpAny (model P w) A (do
    let equal ←holding [Value.ref b'] (eqBool (.ref b') (.ref b))
    let (es',_,t') ←setState a
    if(true && equal)=true then return SetFound.there none
    let some same:=t'.sameMemory t.moves t.mask | unsupported "set.changed-during-lookup:is-the-new-block-at-the-old-address"
    let still ←match (if same=true then t'.slot (Tb.aB t k' (stand.getD (t.probeStart h))).j else .empty)with
     | .live i'=>match es'[i']? with
      | some (_,y')=>do pure (if ←isSame y' (.ref b')then some i' else none)
      | none=>pure none
     | _=>pure none
    match still with
    | none=>rule "set.search.anew";setSearchFrom a (.ref b) h true f none
    | some i'=>if equal=true then return .there (some i')else setSearchFrom a (.ref b) h true f (some (Tb.aB t (k'+1) (stand.getD (t.probeStart h))))) Q E s:=by
   refine CH (wpAny_holding (wpAny_eqBool_tuple hu hk2 hk ?_))
   refine CH (DK ho hd hf ?_)
   dsimp only
   by_cases hq:k2=k
   ·rw[DO hq]
    simp only[Bool.and_self,if_true]
    exact CI hQ
   ·rw[DN hq]
    simp only[Bool.and_false,DG,if_false,hsm,if_true,hl,hes,same]
    exact CH (CI (CH (CI (again hq))))
  dsimp only
  cases hled:t.led
  ·simp only[Bool.not_false,if_true]
   refine CH (rK hk hst ?_)
   simp only[DG,if_false]
   rw[hes]
   exact fin
  ·simp only[Bool.not_true,DG,if_false]
   rw[hes]
   exact fin
theorem ip{h h':Heap}{a b:Addr}{k:List K}{o:Obj}{es:Array (Int×Value)}{ep:Nat}{t:SetTable}(hk:IsTupleKey knd h k b)(ho:h.get? a=some o)(hd:o.data=.set es ep t)(hs:Heap.SameBut a h h'):IsTupleKey knd h' k b:=by
 obtain⟨o',items,n,ho',hc,hd',hi⟩:=hk
 have hne:b≠a:=by
  rintro rfl
  rw[ho]at ho'
  cases ho'
  rw[hd]at hd'
  cases hd'
 exact⟨o',items,n,(hs.2 b hne).trans ho',hc,hd',hi⟩
theorem uF(n:Nat){v:Value}(h:∀b,v≠.ref b):∃c,hashByValue n v=pure c:=by
 cases v with
 | ref b=>exact absurd rfl (h b)
 | _=>exact⟨_,by cases n<;>unfold hashByValue<;>rfl⟩
theorem zd{ks:List K}{b:Addr}{Q:Bool->Shared->Prop}(hk:IsTupleKey knd s.heap ks b)(h:∀c,Q c s):wpAny (model P w) A (hashByValue 8 (.ref b)) Q E s:=by
 have hT:=hk.typeIs
 obtain⟨o,items,n,ho,hc,hd,hi⟩:=hk
 unfold hashByValue
 refine CH (wpAny_specialOf hT F.slot_tuple_hash.lookup ?_)
 dsimp only
 refine CH (wpAny_seqItems ho hd ?_)
 dsimp only[Option.getD_some]
 refine CH ?_
 rw[←Array.forIn_toList]
 refine wpAny_forIn_list _ (fun rest r s'=>(r.1=none\/∃c,r.1=some c)/\s'=s/\∀v∈rest,∀b,v≠.ref b) _ ?_ ?_ _ _ ⟨.inl rfl,rfl,kC hi⟩
 ·rintro v rest r s' ⟨hr,rfl,hall⟩
  obtain⟨c,hc'⟩:=uF 7 (hall v CU)
  rw[hc']
  refine CH (CI ?_)
  cases c
  ·show wpAny _ _ (pure (ForInStep.done (some false,()))) _ _ _
   exact CI (CI (h false))
  ·simp only[Bool.not_true,DG,if_false]
   exact CI ⟨.inl rfl,rfl,fun u hu=>hall u (CQ _ hu)⟩
 ·rintro⟨r1,r2⟩ s' ⟨hr,rfl,_⟩
  simp only at hr
  rcases hr with rfl | ⟨c,rfl⟩
  ·exact CI (h true)
  ·exact CI (h c)
theorem Aw{α:Type}{es:Array α}{order:Array Nat}(h:order.toList.Perm (DM es.size)):(order.filterMap (es[·]?)).size=es.size/\∀e∈(order.filterMap (es[·]?)).toList,e∈es.toList:=by
 have key:∀l:List Nat,(∀i∈l,i<es.size)->(l.filterMap (es[·]?)).length=l.length/\∀e∈l.filterMap (es[·]?),e∈es.toList:=by
  intro l
  induction l with
  | nil=>intro _;exact⟨rfl,fun e he=>by cases he⟩
  | cons x l ih=>
   intro hl
   obtain⟨i1,i2⟩:=ih fun i hi=>hl i (CQ _ hi)
   have hx:=hl x CU
   have e:(x::l).filterMap (es[·]?)=es[x]::l.filterMap (es[·]?):=by
    rw[List.filterMap_cons]
    simp[hx]
   rw[e]
   refine⟨by rw[Ds,Ds,i1],fun y hy=>?_⟩
   rcases De.mp hy with rfl | hy
   ·simp
   ·exact i2 y hy
 have hlt:∀i∈order.toList,i<es.size:=fun i hi=>List.mem_range.mp (h.mem_iff.mp hi)
 obtain⟨k1,k2⟩:=key order.toList hlt
 rw[Array.toList_filterMap]
 refine⟨?_,k2⟩
 rw[←CS,Array.toList_filterMap,k1,h.length_eq,List.length_range]
theorem Ct{α:Type}{es:Array α}{order:Array Nat}(h:order.toList.Perm (DM es.size)):(order.filterMap (es[·]?)).toList.Perm es.toList:=by
 rw[Array.toList_filterMap]
 have e:(DM es.size).filterMap (es[·]?)=es.toList:=by
  apply List.ext_getElem?
  intro n
  have e0:es.toList[n]?=es[n]?:=Array.getElem?_toList
  rw[e0,Tb.hJ es _ (fun i hi=>List.mem_range.mp hi)]
  by_cases hn:n<es.size
  ·rw[List.getElem?_range hn]
   rfl
  ·have e1:(DM es.size)[n]?=none:=List.getElem?_eq_none (by rw[List.length_range];omega)
   rw[e1,Array.getElem?_eq_none (by omega)]
   rfl
 rw[←e]
 exact h.filterMap _
end
section
variable {P:Program} {w:World} {A:Around} {E:Value->Shared->Prop} {s:Shared}
theorem items_str{ks:List Key}{vs:List Value}(h:ItemsAre (aN P w) ks vs){x:Str}(hx:Sum.inr x∈ks):∃t,Value.str x t∈vs:=by
 induction h with
 | nil=>cases hx
 | @cons k v ks vs hk _ ih=>
  rcases De.mp hx with rfl | hx
  ·rcases ed (show fo (.inr x) v=true from hk)with⟨i,t,e,_⟩ | ⟨y,t,e,rfl⟩
   ·cases e
   ·cases e
    exact⟨t,CU⟩
  ·obtain⟨t,ht⟩:=ih hx
   exact⟨t,CQ _ ht⟩
theorem xb{ks:List Key}{b:Addr}{x:Str}{Q:Bool->Shared->Prop}(hk:IsTupleKey (aN P w) s.heap ks b)(hx:Sum.inr x∈ks)(h:Q false s):wpAny (model P w) A (hashByValue 8 (.ref b)) Q E s:=by
 have hT:=hk.typeIs
 obtain⟨o,items,n,ho,hc,hd,hi⟩:=hk
 unfold hashByValue
 refine CH (wpAny_specialOf hT F.slot_tuple_hash.lookup ?_)
 dsimp only
 refine CH (wpAny_seqItems ho hd ?_)
 dsimp only[Option.getD_some]
 refine CH ?_
 rw[←Array.forIn_toList]
 refine wpAny_forIn_list _ (fun rest r s'=>r.1=none/\s'=s/\(∀v∈rest,∀b,v≠.ref b)/\∃t,Value.str x t∈rest) _ ?_ ?_ _ _ ⟨rfl,rfl,kC hi,items_str hi hx⟩
 ·rintro v rest r s' ⟨hr,rfl,hall,t,ht⟩
  obtain⟨c,hc'⟩:=uF 7 (hall v CU)
  rw[hc']
  refine CH (CI ?_)
  cases c
  ·show wpAny _ _ (pure (ForInStep.done (some false,()))) _ _ _
   exact CI (CI h)
  ·simp only[Bool.not_true,DG,if_false]
   refine CI ⟨rfl,rfl,fun u hu=>hall u (CQ _ hu),t,?_⟩
   rcases De.mp ht with rfl | ht
   ·exact absurd hc' (fun z=>by
     have:hashByValue 7 (Value.str x t)=pure false:=by unfold hashByValue;rfl
     rw[this]at z
     injection z with z
     cases z)
   ·exact ht
 ·rintro⟨r1,r2⟩ s' ⟨hr,rfl,_,t,ht⟩
  cases ht
def dh(P:Program)(w:World)(B:Addr->List Key->Prop)(h:Heap)(a:Addr)(ks:List (List Key)):Prop:=ks.Nodup ∧
 ∃o es ep t,h.get? a=some o/\o.ExactSet/\o.data=.set es ep t/\t.dummies = #[]/\Tb.Mask t.mask/\es.size*5<t.mask*3/\es.size=ks.length/\Tb.TOk t.mask t.place (es.map (·.1)) ∧
  (∀e∈es.toList,∃b k,e=(tupleKeyHash (aN P w) k,.ref b)/\k∈ks/\IsTupleKey (aN P w) h k b/\B b k)/\(∀k∈ks,∃b,(tupleKeyHash (aN P w) k,.ref b)∈es.toList/\IsTupleKey (aN P w) h k b)/\((∀k∈ks,∃x,Sum.inr x∈k)->ks=[]\/t.plain=false)
theorem zO{B:Addr->List Key->Prop}{a:Addr}{o:Obj}{es es1:Array (Int×Value)}{ep n:Nat}{t t1:SetTable}{ks1:List (List Key)}{Q:Bool->Shared->Prop}(hnd:ks1.Nodup)(ho:s.heap.get? a=some o)(hex:o.ExactSet)(hd:o.data=.set es ep t)(hs1:es1.size=n+1)(hdm1:t1.dummies = #[])
  (hm1:Tb.Mask t1.mask) (hfull:n*5<t1.mask*3) (hn:n<1400) (hlen:ks1.length=n+1) (hT1:Tb.TOk t1.mask t1.place (es1.map (·.1))) (hall1:∀e∈es1.toList,∃b k,e=(tupleKeyHash (aN P w) k,.ref b)/\k∈ks1/\IsTupleKey (aN P w) s.heap k b/\B b k)
  (hin1:∀k∈ks1,∃b,(tupleKeyHash (aN P w) k,.ref b)∈es1.toList/\IsTupleKey (aN P w) s.heap k b) (hpl1:(∀k∈ks1,∃x,Sum.inr x∈k)->t1.plain=false)
  (h:∀h',Heap.SameBut a s.heap h'->dh P w B h' a ks1->Q true { s with heap:=h' }) :
  wpAny (model P w) A (do
   storeSet a es1 t1
   if(!false && t1.tooFull)=true then do
    setRelay a (SetTable.grown (n+1))
    pure true
   else pure true) Q E s:=by
 have hline:n+1<=sizeLine:=Dv (show n+1<=10000 by omega) (by decide)
 have hp1:t1.place.size=es1.size:=by rw[hT1.len,Array.size_map]
 refine CH (wpAny_storeSet_of ho hd ?_ (by omega))
 have ho1:(s.heap.update a (Obj.putSet es1 t1)).get? a=some { o with data:=.set es1 (ep+1) t1 }:=by
  have:=Heap.get?_update_self (Obj.putSet es1 t1) ho (by rw[putSet_of es1 t1 hd];rfl)
  rw[putSet_of es1 t1 hd]at this
  exact this
 have hsb1:=Heap.SameBut.update s.heap a (Obj.putSet es1 t1)
 generalize s.heap.update a (Obj.putSet es1 t1)=h1 at ho1 hsb1
 have hall2:∀e∈es1.toList,∃b k,e=(tupleKeyHash (aN P w) k,.ref b)/\k∈ks1/\IsTupleKey (aN P w) h1 k b/\B b k:=fun e he=>by
  obtain⟨b,k,z1,z2,z3,z4⟩:=hall1 e he
  exact⟨b,k,z1,z2,ip z3 ho hd hsb1,z4⟩
 have hin2:∀k∈ks1,∃b,(tupleKeyHash (aN P w) k,.ref b)∈es1.toList/\IsTupleKey (aN P w) h1 k b:=fun k hk=>by
  obtain⟨b,z1,z2⟩:=hin1 k hk
  exact⟨b,z1,ip z2 ho hd hsb1⟩
 have hfill:t1.fill=n+1:=by
  unfold SetTable.fill
  rw[hdm1,hp1,hs1]
  rfl
 by_cases hq:t1.tooFull=true
 ·rw[hq]
  simp only[Bool.not_false,Bool.and_self,if_true]
  have hq':t1.mask*3<=(n+1)*5:=by
   unfold SetTable.tooFull at hq
   rw[hfill]at hq
   simpa using hq
  obtain⟨m,hm,hw,hmn,hlt⟩:∃m,Tb.Mask m/\SetTable.sizeAbove (SetTable.grown (n+1))-1=m/\n+1<=m/\(n+1)*5<m*3/\SetTable.sizeAbove (SetTable.grown (n+1))<=sizeLine:=by
   have hg:SetTable.grown (n+1)=(n+1)*4:=by
    unfold SetTable.grown
    rw[DP (by omega)]
   rw[hg]
   rcases hm1 with e | e | e | e | e | e<;>rw[e]at hfull hq'
   ·obtain rfl:n=4:=by omega
    exact⟨31,.inr (.inl rfl),Tb.xN,by omega,by omega,by decide +kernel⟩
   ·obtain rfl:n=18:=by omega
    exact⟨127,.inr (.inr (.inl rfl)),Tb.wF,by omega,by omega,by decide +kernel⟩
   ·obtain rfl:n=76:=by omega
    exact⟨511,.inr (.inr (.inr (.inl rfl))),Tb.xA,by omega,by omega,by decide +kernel⟩
   ·obtain rfl:n=306:=by omega
    exact⟨2047,.inr (.inr (.inr (.inr (.inl rfl)))),Tb.zP,by omega,by omega,by decide +kernel⟩
   ·obtain rfl:n=1228:=by omega
    exact⟨8191,.inr (.inr (.inr (.inr (.inr rfl)))),Tb.Bf,by omega,by omega,by decide +kernel⟩
   ·omega
  have hfit1:t1.fits es1.size=true:=by
   simp only[SetTable.fits,DA,beq_iff_eq,decide_eq_true_eq]
   refine⟨hp1,?_⟩
   rw[hfill]
   rcases hm1 with e | e | e | e | e | e<;>omega
  obtain⟨t2,order,hrel,hp2,hd2,hm2,hperm,_,hpl2,hT2⟩:=Tb.Ax t1 (es:=es1) hm hw (by omega)
  obtain⟨r1,r2⟩:=Aw hperm
  have r3:=Ct hperm
  refine CH ?_
  unfold setRelay
  refine CH (DK (s:={ s with heap:=h1 }) ho1 rfl hfit1 ?_)
  dsimp only
  rw[DP (Nat.not_lt.mpr hlt.2),hrel]
  refine CH ?_
  show wpAny _ _ (do
   if(order.filterMap (es1[·]?)).size != es1.size then unsupported "internal:set-table-lost-an-element"
   pure (order.filterMap (es1[·]?),t2)) _ _ _
  rw[r1]
  simp only[bne_self_eq_false,DG,if_false]
  refine CI ?_
  dsimp only
  refine wpAny_storeSet_of (s:={ s with heap:=h1 }) ho1 rfl ?_ (by rw[r1];omega)
  have ho2:(h1.update a (Obj.putSet (order.filterMap (es1[·]?)) t2)).get? a=some { o with data:=.set (order.filterMap (es1[·]?)) (ep+1+1) t2 }:=by
   have:=Heap.get?_update_self (Obj.putSet (order.filterMap (es1[·]?)) t2) ho1 (by rw[putSet_of _ _ (o:={ o with data:=.set es1 (ep+1) t1 }) rfl];rfl)
   rw[putSet_of _ _ (o:={ o with data:=.set es1 (ep+1) t1 }) rfl]at this
   exact this
  have hsb2:=Heap.SameBut.update h1 a (Obj.putSet (order.filterMap (es1[·]?)) t2)
  refine CI (h _ (hsb1.trans hsb2) ⟨hnd,_,_,_,t2,ho2,hex,rfl,hd2,by rw[hm2];exact hm,by rw[r1,hm2,hs1];exact hlt.1,by rw[r1,hs1,hlen],by rw[hm2];exact hT2,fun e he=>?_,fun k hk=>?_,fun hx=>.inr (hpl2.trans (hpl1 hx))⟩)
  ·obtain⟨b,k,z1,z2,z3,z4⟩:=hall2 e (r2 e he)
   exact⟨b,k,z1,z2,ip z3 ho1 rfl hsb2,z4⟩
  ·obtain⟨b,z1,z2⟩:=hin2 k hk
   exact⟨b,r3.mem_iff.mpr z1,ip z2 ho1 rfl hsb2⟩
 ·have hq0:t1.tooFull=false:=by simpa using hq
  rw[hq0]
  simp only[Bool.and_false,DG,if_false]
  have hq':(n+1)*5<t1.mask*3:=by
   unfold SetTable.tooFull at hq0
   rw[hfill]at hq0
   simpa using hq0
  exact CI (h h1 hsb1 ⟨hnd,_,es1,_,t1,ho1,hex,rfl,hdm1,hm1,by rw[hs1];exact hq',by rw[hs1,hlen],hT1,hall2,hin2,fun hx=>.inr (hpl1 hx)⟩)
theorem pU{α:Type}{xs:Array α}{p:Nat}{x e:α}(h:e=x\/e∈xs.toList):e∈(SetTable.insertAt xs p x).toList:=by
 rw[Tb.gR]
 rcases h with rfl | h
 ·exact DD _ CU
 ·rw[←List.take_append_drop p xs.toList]at h
  rcases Dm.mp h with a | a
  ·exact DE _ a
  ·exact DD _ (CQ _ a)
theorem ins_map{α β:Type}(f:α->β)(xs:Array α)(p:Nat)(x:α):(SetTable.insertAt xs p x).map f=SetTable.insertAt (xs.map f) p (f x):=by
 apply Array.toList_inj.mp
 rw[Array.toList_map,Tb.gR,Tb.gR,Array.toList_map]
 simp
theorem vU{B:Addr->List Key->Prop}{a b:Addr}{k:List Key}{ks:List (List Key)}{Q:Bool->Shared->Prop}(hu:A.units<cLine)(hk:IsTupleKey (aN P w) s.heap k b)(hB:B b k)(hS:dh P w B s.heap a ks)(hsz:ks.length<1400)
  (h:∀h' r ks',Heap.SameBut a s.heap h'->dh P w B h' a ks'->ks'.length<=ks.length+1->(∀x,x∈ks'↔x∈ks\/x=k)->Q r { s with heap:=h' }):wpAny (model P w) A (setAddHashed a (.ref b) (tupleKeyHash (aN P w) k)) Q E s:=by
 obtain⟨hnd,o,es,ep,t,ho,hex,hd,hdm,hm,hfull,hlen,hT,hall,hin,hpl⟩:=id hS
 have hp:t.place.size=es.size:=by rw[hT.len,Array.size_map]
 have hle:es.size<=t.mask:=by omega
 have hf:t.fits es.size=true:=by
  simp only[SetTable.fits,DA,beq_iff_eq,decide_eq_true_eq]
  refine⟨hp,?_⟩
  unfold SetTable.fill
  rw[hdm,hp]
  simpa using hle
 have hturn:10*SetTable.turns t.mask<100000:=by
  unfold SetTable.turns
  rcases hm with e | e | e | e | e | e<;>rw[e]<;>decide
 have hst:∀x,(Tb.aB t x (Option.getD none (t.probeStart (tupleKeyHash (aN P w) k)))).j=Tb.pm t.mask (tupleKeyHash (aN P w) k) x:=fun x=>Tb.vi t _ x
 unfold setAddHashed setAddHashedIn
 refine wpAny_holding (CH (DK ho hd hf ?_))
 dsimp only
 have hsc:byScan (.ref b) es=false:=rfl
 rw[hsc]
 simp only[DG,if_false]
 unfold setSearch
 rcases Classical.em (k∈ks)with hold | hold
 ·obtain⟨b0,hb0,hkb0⟩:=hin k hold
  obtain⟨i0,hi0⟩:=List.getElem?_of_mem hb0
  rw[Array.getElem?_toList]at hi0
  have hi0s:=(Array.getElem?_eq_some_iff.mp hi0).1
  obtain⟨j0,hj0⟩:∃j0,t.place[i0]?=some j0:=⟨_,getElem?_pos t.place i0 (by omega)⟩
  obtain⟨K,q1,q2,q3⟩:=hT.rch i0 j0 (tupleKeyHash (aN P w) k) hj0 (by rw[Array.getElem?_map,hi0];rfl)
  refine CH (An hu hk ho hd hf hm hdm (fun e he=>?_) ⟨b0,hi0,hkb0⟩ ?_ K 100000 none (by omega) q1 rfl (fun x hx=>?_) ?_)
  ·obtain⟨b',k',e1,_,e3,_⟩:=hall e he
   exact⟨b',k',by rw[e1],e3⟩
  ·dsimp only
   refine CI ?_
   have e:s={ s with heap:=s.heap }:=by cases s;rfl
   rw[e]
   exact h s.heap _ ks (Heap.SameBut.refl a s.heap) hS (Nat.le_succ _) fun x=>⟨.inl,fun z=>z.elim id fun e=>e ▸ hold⟩
  ·rw[hst]
   obtain⟨i,e,_⟩:=Tb.rP hT.inc (q3 x hx)
   rw[e]
   intro z
   cases z
  ·rw[hst,q2]
   exact Tb.slot_mem hT.inc hj0
 ·obtain⟨K,q1,q2,q3⟩:=Tb.Cz hdm hm (by rw[hp];exact hle) (tupleKeyHash (aN P w) k)
  have hall':∀e∈es.toList,∃b' k',e.2=.ref b'/\IsTupleKey (aN P w) s.heap k' b'/\k'≠k:=fun e he=>by
   obtain⟨b',k',h1,h2,h3,_⟩:=hall e he
   exact⟨b',k',by rw[h1],h3,fun z=>hold (z ▸ h2)⟩
  refine CH (Be hu hk ho hd hf hm hdm hall' K 100000 none (by omega) q1 rfl (fun x hx=>by rw[hst];exact q3 x hx) (by rw[hst];exact q2) ?_)
  rw[hst]
  dsimp only
  refine CH (DK ho hd hf ?_)
  dsimp only
  have hnm:=Tb.pK hT.inc q2
  have hTp:=hT.put q1 hnm (fun x hx=>Tb.zY hdm (q3 x hx))
  have hput:(t.put (Tb.pm t.mask (tupleKeyHash (aN P w) k) K)).1.dummies = #[]:=by
   show(if SetTable.has t.dummies _=true then _ else t.dummies) = #[]
   rw[hdm,Tb.qr]
   rfl
  generalize Tb.pm t.mask (tupleKeyHash (aN P w) k) K=j at hTp hput
  have hT1:Tb.TOk t.mask (t.put j).1.place ((SetTable.insertAt es (t.put j).2 (tupleKeyHash (aN P w) k,Value.ref b)).map (·.1)):=by
   rw[ins_map]
   exact hTp
  have hins:∀e∈(SetTable.insertAt es (t.put j).2 (tupleKeyHash (aN P w) k,Value.ref b)).toList,∃b' k',e=(tupleKeyHash (aN P w) k',.ref b')/\k'∈k::ks/\IsTupleKey (aN P w) s.heap k' b'/\B b' k':=fun e he=>by
   rcases Tb.zI he with rfl | he
   ·exact⟨b,k,rfl,CU,hk,hB⟩
   ·obtain⟨b',k',z1,z2,z3,z4⟩:=hall e he
    exact⟨b',k',z1,CQ _ z2,z3,z4⟩
  have hin':∀k'∈k::ks,∃b',(tupleKeyHash (aN P w) k',Value.ref b')∈(SetTable.insertAt es (t.put j).2 (tupleKeyHash (aN P w) k,Value.ref b)).toList/\IsTupleKey (aN P w) s.heap k' b':=fun k' hk'=>by
   rcases De.mp hk' with rfl | hk'
   ·exact⟨b,pU (.inl rfl),hk⟩
   ·obtain⟨b',z1,z2⟩:=hin k' hk'
    exact⟨b',pU (.inr z1),z2⟩
  have hnd':(k::ks).Nodup:=List.nodup_cons.mpr ⟨hold,hnd⟩
  have h':∀h',Heap.SameBut a s.heap h'->dh P w B h' a (k::ks)->Q true { s with heap:=h' }:=fun h2 sb hS'=>h h2 true _ sb hS' (Dj _) fun x=>by rw[De];exact⟨fun z=>z.symm,fun z=>z.symm⟩
  have fin:∀c:Bool,((∀k'∈k::ks,∃x,Sum.inr x∈k')->(t.put j).1.plain=false\/c=false)->wpAny (model P w) A (do
    storeSet a (SetTable.insertAt es (t.put j).2 (tupleKeyHash (aN P w) k,Value.ref b)) (if c=true then(t.put j).1 else{ (t.put j).1 with plain:=false })
    if(!false && (if c=true then(t.put j).1 else{ (t.put j).1 with plain:=false }).tooFull)=true then do
     setRelay a (SetTable.grown (es.size+1))
     pure true
    else pure true) Q E s:=fun c hcp=>by
   refine zO (ks1:=k::ks) hnd' ho hex hd (Tb.ll _ _ _) ?_ ?_ ?_ (by omega) (by rw[Ds,hlen]) ?_ hins hin' ?_ h'
   ·cases c<;>exact hput
   ·cases c<;>exact hm
   ·cases c<;>exact hfull
   ·cases c<;>exact hT1
   ·intro hx
    cases c
    ·rfl
    ·rcases hcp hx with z | z
     ·exact z
     ·cases z
  cases hpl':(t.put j).1.plain
  ·simp only[DG,if_false]
   exact CH (CI (fin true fun _=>.inl hpl'))
  ·simp only[if_true]
   rcases Classical.em (∃x,Sum.inr x∈k)with⟨x,hx⟩ | hx
   ·exact CH (xb hk hx (fin false fun _=>.inr rfl))
   ·exact CH (zd hk fun c=>fin c fun hall=>absurd (hall k CU) hx)
end
section
variable {P:Program} {w:World} {A:Around} {I:Addr} {fp wr:List Addr} {G:Array GenState->Array GenState->Prop} {n:Nat} {Pz:Nat->Value->Prop} {St:Nat->Shared->Prop}
theorem dh.moved{B:Addr->List Key->Prop}{h h':Heap}{a:Addr}{ks:List (List Key)}{wr:List Addr}(hS:dh P w B h a ks)(hk:∀b o,b∉wr->h.get? b=some o->h'.get? b=some o)(ha:a∉wr)(hw:∀b∈wr,∀o,h.get? b=some o->∃vs,o.data=.fields vs):dh P w B h' a ks:=by
 obtain⟨hnd,o,es,ep,t,ho,hex,hd,h1,h2,h3,h4,h5,hall,hin,hpl⟩:=hS
 have mv:∀k b,IsTupleKey (aN P w) h k b->IsTupleKey (aN P w) h' k b:=fun k b ⟨o',items,m,ho',hc,hd',hi⟩=>⟨o',items,m,hk b o' (fun hb=>by
   obtain⟨vs,hv⟩:=hw b hb o' ho'
   rw[hd']at hv
   cases hv) ho',hc,hd',hi⟩
 refine⟨hnd,o,es,ep,t,hk a o ha ho,hex,hd,h1,h2,h3,h4,h5,fun e he=>?_,fun k hk=>?_,hpl⟩
 ·obtain⟨b,k,z1,z2,z3,z4⟩:=hall e he
  exact⟨b,k,z1,z2,mv k b z3,z4⟩
 ·obtain⟨b,z1,z2⟩:=hin k hk
  exact⟨b,z1,mv k b z2⟩
theorem r9{B:Addr->List Key->Prop}(W:WalksS P w A.in1 I fp wr G n Pz St)(S:Addr)(hS:S∉fp)(hu:A.in1.units<cLine)(bs:List Addr)(kk:List (List Key))(hnk:kk.length=n)(hBk:∀(j:Nat) b k,bs[j]?=some b->kk[j]?=some k->B b k)(hsz:n<1400)
  (hval:∀i v,Pz i v->∃b,v=.ref b/\bs[i]?=some b) (hwr:∀i s,St i s->∀b∈wr,∀o,s.heap.get? b=some o->∃vs,o.data=.fields vs) {R:Result->Shared->Prop} :
  ∀(m i:Nat) (s:Shared) (D:List (List Key)),n-i=m->i<=n->St i s->dh P w B s.heap S D->D.length<=i->(∀k,k∈D↔k∈kk.take i)->(∀(j:Nat) (b:Addr) (k:List Key),bs[j]?=some b->kk[j]?=some k->IsTupleKey (aN P w) s.heap k b) →
   (∀s' D,Moved (S::wr) G s s'->dh P w B s'.heap S D->(∀k,k∈D↔k∈kk)->R (.ok (.ret .none)) s') →
   codeAny (model P w) A (.builtin "set.update.loop" ⟨[.ref S,.ref I],[]⟩) R s:=by
 have hSw:S∉wr:=fun z=>hS (W.sub _ z)
 have more:∀b∈wr,b∈S::wr:=fun b z=>CQ _ z
 intro m
 induction m with
 | zero=>
  intro i s D hm hi hst hset _ hD hkeys hR
  obtain rfl:i=n:=by omega
  refine codeAny_builtin F.entry_set_update_loop ?_
  rw[Around.under_plainId F.plain_set_update_loop _]
  show wpAny _ A.in1 (pyNext (.ref I) >>= _) _ _ s
  refine CH (W.done s _ _ hst fun s' mv=>?_)
  rw[←hnk,Dt]at hD
  exact CI (hR s' D (mv.mono more) (hset.moved mv.heap hSw (hwr _ s hst)) hD)
 | succ m ih=>
  intro i s D hm hi hst hset hDl hD hkeys hR
  have hlt:i<n:=by omega
  refine codeAny_builtin F.entry_set_update_loop ?_
  rw[Around.under_plainId F.plain_set_update_loop _]
  show wpAny _ A.in1 (pyNext (.ref I) >>= _) _ _ s
  refine CH (W.item i s _ _ hlt hst fun v s' hP hst' mv=>?_)
  obtain⟨b,rfl,hb⟩:=hval i v hP
  have hki:kk[i]?=some kk[i]:=CO (by omega)
  have hset':=hset.moved mv.heap hSw (hwr _ s hst)
  have hkeys':∀(j:Nat) (b:Addr) (k:List Key),bs[j]?=some b->kk[j]?=some k->IsTupleKey (aN P w) s'.heap k b:=fun j b k e1 e2=>by
   obtain⟨o',items,q,ho',hc,hd',hi'⟩:=hkeys j b k e1 e2
   refine⟨o',items,q,mv.heap b o' (fun hbw=>?_) ho',hc,hd',hi'⟩
   obtain⟨vs,hv⟩:=hwr _ s hst b hbw o' ho'
   rw[hd']at hv
   cases hv
  show wpAny _ A.in1 (holding [Value.ref b] (setAdd S (.ref b)) >>= _) _ _ s'
  refine CH (wpAny_holding ?_)
  unfold setAdd
  refine wpAny_holding (CH (wpAny_pyHash_tuple hu (hkeys' i b _ hb hki) ?_))
  refine vU (s:={ s' with toks:=s'.toks+(kk[i].length+1) }) hu (hkeys' i b _ hb hki) (hBk i b _ hb hki) hset' (by omega) fun h' r D1 sb hset2 hD1l hD1=>?_
  have htk:∀k,k∈D1↔k∈kk.take (i+1):=fun k=>by
   rw[hD1,hD k,List.take_add_one,hki,Dm]
   simp
  obtain⟨_,oS,esS,epS,tS,hoS,_,hdS,_⟩:=id hset'
  refine CI ⟨plainId_quiet F.plain_set_update_loop _,ih (i+1) _ _ (by omega) hlt (W.frame _ s' _ _ hst' (Nat.le_add_right _ _) fun c hc o e=>?_) hset2 (by omega) htk (fun j c k e1 e2=>ip (hkeys' j c k e1 e2) hoS hdS sb) fun s'' D2 mv2 hS2=>?_⟩
  ·rw[sb.2 c (fun z:c=S=>hS (z ▸ hc))]
   exact e
  ·refine hR s'' D2 (Moved.trans W.gtrans ((mv.mono more).then_heap (Nat.le_add_right _ _) fun c o hc e=>?_) mv2) hS2
   rw[sb.2 c (fun z:c=S=>hc (by rw[z];exact CU))]
   exact e
end
end L2
namespace L2
open PySem PySem.Spec PyProof.Rows
section
variable {P:Program} {w:World} {A:Around} {E:Value->Shared->Prop} {s:Shared}
abbrev bC(led:Bool):Obj:={ cls:=.type "set",dict:=none,data:=.set #[] 0 (.fresh 0 0 led) }
def iR(P:Program)(w:World)(s:Shared)(bs:List Addr)(kk D:List (List Key))(h':Heap):Prop:=
 dh P w (fun b k=>∃j:Nat,bs[j]?=some b/\kk[j]?=some k) h' s.heap.objs.size D/\(∀k,k∈D↔k∈kk)/\∀b o,b<s.heap.objs.size->s.heap.get? b=some o->h'.get? b=some o
theorem xO:isSubtype (.type "tuple") (.type "frozenset")=pure false:=by
 rw[isSubtype_type]
 kernel_rfl
theorem BE{t:Addr}{ys:Array Value}{bs:List Addr}{kk:List (List Key)}{Q:Value->Shared->Prop}(hA:A.handled=none)(hu:A.units+5<cLine)(gt:s.heap.IsTuple t ys)(hb:ys.toList=bs.map Value.ref)
  (hn:kk.length=ys.size) (hz:ys.size<1400) (hkey:∀(j:Nat) (b:Addr) (k:List Key),bs[j]?=some b->kk[j]?=some k->IsTupleKey (aN P w) s.heap k b)
  (h:∀(h':Heap) (tk:Nat) (D:List (List Key)),iR P w s bs kk D h'->Q (.ref s.heap.objs.size) { s with heap:=h',toks:=tk }):wpAny (model P w) A (call (.type "set") [.ref t]) Q E s:=by
 have x1:=F.called_set.notType
 have x2:=F.called_set.canCreate
 have x3:=F.typeCall_set_1 (.ref t)
 have x4:=F.called_set.made
 have x5:=F.called_set.sub
 obtain⟨c,tl,x6⟩:=F.called_set.mro
 refine wpAny_call (codeAny_of_tree ?_)
 show wpAny _ _ (callAny (.type "set") _) _ _ _
 refine CI ⟨Code.quiet_builtin _ (by decide +kernel),codeAny_builtin F.entry_type_call ?_⟩
 rw[Around.under_plain (weight_type_call_type "set" [.ref t] []) rfl]
 repeat (any_goals (first | assumption | wp_step))
 refine codeAny_mono (code_set_new_1 (.ref t) (E:=E) (Q₁:=fun v s1=>∃led,v=.ref s.heap.objs.size/\s1={ s with heap:=s.heap.push (bC led) }) fun led=>⟨led,rfl,rfl⟩) fun r s1 hr=>?_
 cases r with
 | error e=>exact hr
 | ok fl=>
  cases fl with
  | ret v=>
   obtain⟨led,rfl,rfl⟩:=hr
   have gS:(s.heap.push (bC led)).get? s.heap.objs.size=some (bC led):=CL _ rfl
   have hT:Shared.TypeIs { s with heap:=s.heap.push (bC led) } (.ref s.heap.objs.size) "set":=⟨_,gS,rfl⟩
   have x7:=F.called_set.init.lookup
   have x8:=F.called_set.init.bind (.ref s.heap.objs.size)
   repeat (any_goals (first | assumption | wp_step))
   refine codeAny_mono (codeAny_call_builtin (R:=wants (fun r s2=>r=.none/\∃h' tk D,s2={ s with heap:=h',toks:=tk }/\iR P w s bs kk D h') E) F.called_set.init.plain F.entry_set_init (check_set_init_1 hT ?_)) fun r2 s2 hr2=>?_
   ·have g1:(s.heap.push (bC led)).IsTuple t ys:=gt.push _
    have hlt:t<s.heap.objs.size:=by
     obtain⟨o,ho,_⟩:=gt
     exact CM ho
    obtain⟨ol,hol,hcl,nl,hdl⟩:=id g1
    obtain⟨c0,d0,dt,sl⟩:=ol
    simp only at hcl hdl
    subst hcl hdl
    have y1:=F.sub_tuple_set
    have y2:=xO
    have y3:(Value.type "tuple" == Value.type "dict")=false:=by decide
    unfold Builtin.«set.__init__» noKeywords Builtin.Frozenset.updateFrom
    generalize hit:pyIter=PI
    wp_walk
    subst hit
    refine wpAny_pyIter_tuple g1 ?_
    refine CH (wpAny_runValue ?_)
    have e1:(s.heap.push (bC led)).objs.size=s.heap.objs.size+1:=Heap.size_push _ _
    have hA3:A.in1.in1.in1.handled=none:=by simp[hA]
    have hne:t≠(s.heap.push (bC led)).objs.size:=by
     rw[e1]
     exact Di (Nat.lt_succ_of_lt hlt)
    have hSf:s.heap.objs.size∉[(s.heap.push (bC led)).objs.size,t]:=by
     intro z
     rcases De.mp z with z | z
     ·rw[e1]at z
      exact Di (Nat.lt_succ_self _) z
     ·exact Nat.ne_of_gt hlt (CZ.mp z)
    have hbs:∀i:Nat,ys[i]?=(bs[i]?).map Value.ref:=fun i=>by
     rw[←Array.getElem?_toList,hb,CP]
    refine r9 (B:=fun b k=>∃j:Nat,bs[j]?=some b/\kk[j]?=some k) ((Walks.tuple hA3 _ t hne ys).toS) s.heap.objs.size hSf (by simp only[Around.in1_units];omega) bs kk hn (fun j b k q1 q2=>⟨j,q1,q2⟩) hz (fun i v hv=>?_) (fun i s' hs b hb' o ho=>?_) (ys.size-0) 0 _ [] (by omega) (Nat.zero_le _) ⟨⟨_,CL _ rfl,rfl,rfl⟩,g1.push _⟩ ⟨List.nodup_nil,bC led,#[],0,_,CK _ gS,⟨rfl,rfl,rfl⟩,rfl,rfl,.inl rfl,(show 0*5<7*3 by decide),rfl,(by rw[Array.map_empty];exact Tb.TOk.nil 7),fun e he=>(by simp at he),fun k hk=>(by cases hk),fun _=>.inl rfl⟩ (Dj _) (fun k=>by simp) (fun j b k e1 e2=>?_) fun s' D mv hS' hD=>?_
    ·have hv':ys[i]?=some v:=hv
     rw[hbs i]at hv'
     obtain⟨b,e,rfl⟩:=Dc.mp hv'
     exact⟨b,rfl,e⟩
    ·cases CZ.mp hb'
     obtain⟨o',ho',_,hd'⟩:=hs.1
     rw[ho']at ho
     cases ho
     exact⟨_,hd'⟩
    ·obtain⟨o,items,q,ho,r⟩:=hkey j b k e1 e2
     exact⟨o,items,q,CK _ (CK _ ho),r⟩
    ·obtain⟨h',g',d',tk',os'⟩:=s'
     have q1:g'=s.gens:=mv.gens
     have q2:d'=s.drawn:=mv.drawn
     have q3:os'=s.os:=mv.os
     subst q1 q2 q3
     show wpAny _ _ _ _ _ _
     refine CI ?_
     show wpAny _ _ (ret Value.none) _ _ _
     refine CI ⟨rfl,h',tk',D,rfl,hS',hD,fun b o hb e=>mv.heap b o (fun z=>?_) (CK _ (CK _ e))⟩
     rcases De.mp z with z | z
     ·exact Di hb z
     ·have z:=CZ.mp z
      rw[e1]at z
      exact Di (Nat.lt_succ_of_lt hb) z
   ·cases r2 with
    | error e=>exact hr2
    | ok f2=>
     cases f2 with
     | ret r=>
      obtain⟨rfl,h',tk,D,rfl,hS'⟩:=hr2
      repeat (any_goals (first | assumption | wp_step))
      exact h _ _ D hS'
     | _=>exact hr2.elim
  | _=>exact hr.elim
theorem B9{t:Addr}{ys:Array Value}{bs:List Addr}{kk:List (List Key)}{Q:Value->Shared->Prop}(hA:A.handled=none)(hu:A.units+5<cLine)(gt:s.heap.IsList t ys)(hb:ys.toList=bs.map Value.ref)
  (hn:kk.length=ys.size) (hz:ys.size<1400) (hkey:∀(j:Nat) (b:Addr) (k:List Key),bs[j]?=some b->kk[j]?=some k->IsTupleKey (aN P w) s.heap k b)
  (h:∀(h':Heap) (tk:Nat) (D:List (List Key)),iR P w s bs kk D h'->Q (.ref s.heap.objs.size) { s with heap:=h',toks:=tk }):wpAny (model P w) A (call (.type "set") [.ref t]) Q E s:=by
 have x1:=F.called_set.notType
 have x2:=F.called_set.canCreate
 have x3:=F.typeCall_set_1 (.ref t)
 have x4:=F.called_set.made
 have x5:=F.called_set.sub
 obtain⟨c,tl,x6⟩:=F.called_set.mro
 refine wpAny_call (codeAny_of_tree ?_)
 show wpAny _ _ (callAny (.type "set") _) _ _ _
 refine CI ⟨Code.quiet_builtin _ (by decide +kernel),codeAny_builtin F.entry_type_call ?_⟩
 rw[Around.under_plain (weight_type_call_type "set" [.ref t] []) rfl]
 repeat (any_goals (first | assumption | wp_step))
 refine codeAny_mono (code_set_new_1 (.ref t) (E:=E) (Q₁:=fun v s1=>∃led,v=.ref s.heap.objs.size/\s1={ s with heap:=s.heap.push (bC led) }) fun led=>⟨led,rfl,rfl⟩) fun r s1 hr=>?_
 cases r with
 | error e=>exact hr
 | ok fl=>
  cases fl with
  | ret v=>
   obtain⟨led,rfl,rfl⟩:=hr
   have gS:(s.heap.push (bC led)).get? s.heap.objs.size=some (bC led):=CL _ rfl
   have hT:Shared.TypeIs { s with heap:=s.heap.push (bC led) } (.ref s.heap.objs.size) "set":=⟨_,gS,rfl⟩
   have x7:=F.called_set.init.lookup
   have x8:=F.called_set.init.bind (.ref s.heap.objs.size)
   repeat (any_goals (first | assumption | wp_step))
   refine codeAny_mono (codeAny_call_builtin (R:=wants (fun r s2=>r=.none/\∃h' tk D,s2={ s with heap:=h',toks:=tk }/\iR P w s bs kk D h') E) F.called_set.init.plain F.entry_set_init (check_set_init_1 hT ?_)) fun r2 s2 hr2=>?_
   ·have g1:(s.heap.push (bC led)).IsList t ys:=gt.push _
    have hlt:t<s.heap.objs.size:=by
     obtain⟨o,ho,_⟩:=gt
     exact CM ho
    obtain⟨ol,hol,hcl,nl,hdl⟩:=id g1
    obtain⟨c0,d0,dt,sl⟩:=ol
    simp only at hcl hdl
    subst hcl hdl
    have y1:=F.sub_list_set
    have y2:=F.sub_list_frozenset
    have y3:(Value.type "list" == Value.type "dict")=false:=by decide
    unfold Builtin.«set.__init__» noKeywords Builtin.Frozenset.updateFrom
    generalize hit:pyIter=PI
    wp_walk
    subst hit
    refine wpAny_pyIter_list g1 ?_
    refine CH (wpAny_runValue ?_)
    have e1:(s.heap.push (bC led)).objs.size=s.heap.objs.size+1:=Heap.size_push _ _
    have hA3:A.in1.in1.in1.handled=none:=by simp[hA]
    have hne:t≠(s.heap.push (bC led)).objs.size:=by
     rw[e1]
     exact Di (Nat.lt_succ_of_lt hlt)
    have hSf:s.heap.objs.size∉[(s.heap.push (bC led)).objs.size,t]:=by
     intro z
     rcases De.mp z with z | z
     ·rw[e1]at z
      exact Di (Nat.lt_succ_self _) z
     ·exact Nat.ne_of_gt hlt (CZ.mp z)
    have hbs:∀i:Nat,ys[i]?=(bs[i]?).map Value.ref:=fun i=>by
     rw[←Array.getElem?_toList,hb,CP]
    refine r9 (B:=fun b k=>∃j:Nat,bs[j]?=some b/\kk[j]?=some k) ((Walks.list hA3 _ t hne ys).toS) s.heap.objs.size hSf (by simp only[Around.in1_units];omega) bs kk hn (fun j b k q1 q2=>⟨j,q1,q2⟩) hz (fun i v hv=>?_) (fun i s' hs b hb' o ho=>?_) (ys.size-0) 0 _ [] (by omega) (Nat.zero_le _) ⟨⟨_,CL _ rfl,rfl,rfl⟩,g1.push _⟩ ⟨List.nodup_nil,bC led,#[],0,_,CK _ gS,⟨rfl,rfl,rfl⟩,rfl,rfl,.inl rfl,(show 0*5<7*3 by decide),rfl,(by rw[Array.map_empty];exact Tb.TOk.nil 7),fun e he=>(by simp at he),fun k hk=>(by cases hk),fun _=>.inl rfl⟩ (Dj _) (fun k=>by simp) (fun j b k e1 e2=>?_) fun s' D mv hS' hD=>?_
    ·have hv':ys[i]?=some v:=hv
     rw[hbs i]at hv'
     obtain⟨b,e,rfl⟩:=Dc.mp hv'
     exact⟨b,rfl,e⟩
    ·cases CZ.mp hb'
     obtain⟨o',ho',_,hd'⟩:=hs.1
     rw[ho']at ho
     cases ho
     exact⟨_,hd'⟩
    ·obtain⟨o,items,q,ho,r⟩:=hkey j b k e1 e2
     exact⟨o,items,q,CK _ (CK _ ho),r⟩
    ·obtain⟨h',g',d',tk',os'⟩:=s'
     have q1:g'=s.gens:=mv.gens
     have q2:d'=s.drawn:=mv.drawn
     have q3:os'=s.os:=mv.os
     subst q1 q2 q3
     show wpAny _ _ _ _ _ _
     refine CI ?_
     show wpAny _ _ (ret Value.none) _ _ _
     refine CI ⟨rfl,h',tk',D,rfl,hS',hD,fun b o hb e=>mv.heap b o (fun z=>?_) (CK _ (CK _ e))⟩
     rcases De.mp z with z | z
     ·exact Di hb z
     ·have z:=CZ.mp z
      rw[e1]at z
      exact Di (Nat.lt_succ_of_lt hb) z
   ·cases r2 with
    | error e=>exact hr2
    | ok f2=>
     cases f2 with
     | ret r=>
      obtain⟨rfl,h',tk,D,rfl,hS'⟩:=hr2
      repeat (any_goals (first | assumption | wp_step))
      exact h _ _ D hS'
     | _=>exact hr2.elim
  | _=>exact hr.elim
end
end L2
namespace L2
open PySem PySem.Spec PyProof.Rows
namespace SF
theorem zE:entryFor table "set.__iter__" = some Builtin.«frozenset.__iter__»:=entryFor_alias (id':="frozenset.__iter__") (by kernel_rfl) rfl (by decide +kernel) (by kernel_rfl)
theorem Ac(a:Value):argsOk "set.__iter__" ⟨[a],[]⟩:=by unfold argsOk;kernel_rfl
theorem slot_next:Slot "set_iterator" "__next__" "set_iterator.__next__":=
 .of (owner:="set_iterator") (n:="__next__") (by rw[typeLookup_type,builtinLookup_eq_fast];kernel_rfl) (by decide +kernel) (by decide +kernel) (by decide +kernel)
  (by first | exact .inl (by decide +kernel) | exact .inr (by decide +kernel)) (by rw[isSubtype_type];kernel_rfl)
theorem entry_next:entryFor table "set_iterator.__next__" = some Builtin.«set_iterator.__next__»:=entryFor_of_fast (by kernel_rfl)
theorem args_next(a:Value):argsOk "set_iterator.__next__" ⟨[a],[]⟩:=by unfold argsOk;kernel_rfl
theorem o5:Slot "set_iterator" "__iter__" "set_iterator.__iter__":=
 .of (owner:="set_iterator") (n:="__iter__") (by rw[typeLookup_type,builtinLookup_eq_fast];kernel_rfl) (by decide +kernel) (by decide +kernel) (by decide +kernel)
  (by first | exact .inl (by decide +kernel) | exact .inr (by decide +kernel)) (by rw[isSubtype_type];kernel_rfl)
theorem AO:entryFor table "set_iterator.__iter__" = some Builtin.«dict_keyiterator.__iter__»:=entryFor_alias (id':="dict_keyiterator.__iter__") (by kernel_rfl) rfl (by decide +kernel) (by kernel_rfl)
theorem AJ(a:Value):argsOk "set_iterator.__iter__" ⟨[a],[]⟩:=by unfold argsOk;kernel_rfl
end SF
section
variable {P:Program} {w:World} {A:Around} {E:Value->Shared->Prop} {s:Shared}
theorem vK{n:Nat}{Q:Nat->Shared->Prop}(hn:n≠0)(h:∀i d,i<n->Q i { s with drawn:=d }):wpAny (model P w) A (choose .order n) Q E s:=fun Γ p hΓ=>by
 unfold choose
 rw[Sem.wp_choose]
 exact⟨hn,by rw[Sem.wp_pure];exact h _ _ (Nat.mod_lt _ (Nat.pos_of_ne_zero hn))⟩
theorem lU{α:Type}:∀{l:List α} {i:Nat} (h:i<l.length),(l[i]::l.eraseIdx i).Perm l
 | [],i,h=>by cases h
 | x::l,0,h=>.refl _
 | x::l,i+1,h=>by
  have:=lU (l:=l) (i:=i) (Nat.lt_of_succ_lt_succ h)
  exact(List.Perm.swap _ _ _).trans (this.cons x)
theorem uu{α:Type}:∀(n:Nat) (xs:List α) (s:Shared) {Q:List α->Shared->Prop},n=xs.length->(∀ys d,ys.Perm xs->Q ys { s with drawn:=d })->wpAny (model P w) A (drawOrder n xs) Q E s
 | 0,xs,s,Q,hn,h=>by
  obtain rfl:=List.length_eq_zero_iff.mp hn.symm
  unfold drawOrder
  exact CI (h [] s.drawn (.refl _))
 | n+1,[],s,Q,hn,h=>by cases hn
 | n+1,x::xs,s,Q,hn,h=>by
  unfold drawOrder
  refine CH (vK (by simp) fun i d hi=>?_)
  have e:(x::xs)[i]?=some (x::xs)[i]:=CO hi
  rw[e]
  dsimp only
  refine CH (uu n _ { s with drawn:=d } (by rw[List.length_eraseIdx_of_lt hi,←hn];rfl) fun ys d' hp=>CI (h _ d' ?_))
  exact(List.Perm.cons _ hp).trans (lU hi)
theorem oD{α:Type}(next:Nat->Nat):∀(fuel k:Nat) (left:List α) (out:Array α),fuel=left.length->(pickOrder.go next fuel k left out).toList.Perm (out.toList++left)
 | 0,k,left,out,h=>by
  obtain rfl:=List.length_eq_zero_iff.mp h.symm
  unfold pickOrder.go
  rw[List.append_nil]
 | fuel+1,k,left,out,h=>by
  unfold pickOrder.go
  have hlt:next k % left.length<left.length:=Nat.mod_lt _ (by omega)
  rw[CO hlt]
  dsimp only
  refine(oD next fuel (k+1) _ _ (by rw[List.length_eraseIdx_of_lt hlt];omega)).trans ?_
  rw[Array.toList_push,List.append_assoc]
  exact(lU hlt).append_left _
theorem kf{α:Type}(next:Nat->Nat)(xs:Array α):(pickOrder next xs).toList.Perm xs.toList:=by
 have:=oD next xs.size 0 xs.toList #[] (by simp)
 rw[List.nil_append]at this
 exact this
end
end L2
namespace L2
open PySem PySem.Spec PyProof.Rows
section
variable {P:Program} {w:World} {A:Around} {E:Value->Shared->Prop} {s:Shared}
abbrev bU(a:Addr)(first:Value)(i n ep:Nat):Obj:={ cls:=.type "set_iterator",data:=.fields #[first,rawInt i,.ref a,rawInt n,rawInt ep] }
theorem kY{it:Addr}{h1:Heap}{Q:Option Value->Shared->Prop}(hh:A.handled=none)(he:Heap.ExtBut it s.heap h1)(hQ:∀h',Heap.ExtBut it s.heap h'->Q none { s with heap:=h' }):
  wpAny (model P w) A.in1 (newExc (.type "StopIteration") [] >>= raiseNew) (fun r s'=>∃v,r=Fin.done (.ret v)/\wpAny (model P w) A (pure (some v)) Q E s') (fun e s'=>wpAny (model P w) A (do if ←isInstance e (.type "StopIteration")then pure none else throw e) Q E s') { s with heap:=h1 }:=by
 refine CH ?_
 simp only[newExc,newTuple]
 refine CH (wpAny_newObj_type ?_ (by size_fits))
 refine CH (m:=firstArgMember _ _) (wpAny_of_eq (a:=Value.none) (by first | rfl | (simp only[firstArgMember];rfl)) ?_)
 refine wpAny_newObj_type ?_ (by size_fits)
 simp only[raiseNew]
 refine CH (wpAny_handled ?_)
 rw[show A.in1.handled=none from hh]
 refine CH (CI (wpAny_throw ?_))
 refine CH (wpAny_isInstance (T:="StopIteration") (b:=true) ⟨_,CL _ rfl,rfl⟩ isSubtype_stop ?_)
 exact CI (hQ _ ((he.push _).push _))
theorem gy{it a:Addr}{first x:Value}{i n ep k:Nat}{f':Array Value}{h:Heap}(ho:h.get? it=some (bU a first i n ep))(hf:(#[first,rawInt i,.ref a,rawInt n,rawInt ep]:Array Value).setIfInBounds k x=f'):
  (h.update it (Obj.mapFields (·.setIfInBounds k x))).get? it=some { cls:=.type "set_iterator",data:=.fields f' }:=by
 have:=Heap.get?_update_self (Obj.mapFields (·.setIfInBounds k x)) ho (Obj.isFreed_of_fields (Obj.data_mapFields rfl _))
 rw[this,←hf]
 rfl
theorem vJ{it a:Addr}{i ep:Nat}{o:Obj}{es:Array (Int×Value)}{t:SetTable}{Q:Option Value->Shared->Prop}(hT:w.params.followText "set-order" = true)(hit:s.heap.get? it=some (bU a (rawInt 0) i es.size ep))(ho:s.heap.get? a=some o)(hd:o.data=.set es ep t)(hf:t.fits es.size=true)
  {x:Int×Value} (hx:(pickOrder (w.params.setOrder a ep) es)[i]?=some x) (hQ:∀h',h'.get? it=some (bU a (rawInt 0) (i+1) es.size ep)->Heap.SameBut it s.heap h'->Q (some x.2) { s with heap:=h' }):wpAny (model P w) A (pyNext (.ref it)) Q E s:=by
 have T:s.TypeIs (.ref it) "set_iterator":=⟨_,hit,rfl⟩
 unfold pyNext
 refine CH (wpAny_attempt (DL (name:=DB "__next__") T SF.slot_next (wpAny_call_entry SF.slot_next T SF.entry_next ?_ (SF.args_next _))))
 show wpAny _ _ (fieldsOf (.ref it) >>= _) _ _ s
 refine CH (wpAny_fieldsOf hit rfl ?_)
 show wpAny _ _ (setEntries a >>= _) _ _ s
 unfold setEntries
 refine CH (CH (DK ho hd hf (CI ?_)))
 rw[DP (by simp)]
 show wpAny _ _ (setNext a 0 _ _ >>= _) _ _ s
 unfold setNext
 refine CH (CH (DK ho hd hf ?_))
 dsimp only
 unfold setsByText
 refine CH (CH (wpAny_askSetting (CI ?_)))
 rw[show (model P w).w.params.followText "set-order" = true from hT]
 simp only[if_true]
 rw[DP (by simp)]
 unfold setWalk
 refine CH (CH (DK ho hd hf ?_))
 dsimp only
 unfold setsByText
 refine CH (CH (wpAny_askSetting (CI ?_)))
 rw[show (model P w).w.params.followText "set-order" = true from hT]
 simp only[if_true]
 refine CH (wpAny_askSetting (CI ?_))
 rw[Dd]
 have hx':(pickOrder ((model P w).w.params.setOrder a ep) es)[i]?=some x:=hx
 rw[hx']
 refine CI ?_
 dsimp only[Option.map_some,Option.map_none]
 refine CH (wpAny_setField hit rfl (by simp) ?_)
 have e1:=gy (k:=0) (x:=rawInt (0:Nat)) hit rfl
 have e1':(s.heap.update it (Obj.mapFields (·.setIfInBounds 0 (rawInt (0:Nat))))).get? it=some (bU a (rawInt 0) i es.size ep):=e1
 refine CH (wpAny_setField (s:={ s with heap:=s.heap.update it (Obj.mapFields (·.setIfInBounds 0 (rawInt (0:Nat)))) }) e1' rfl (by simp) ?_)
 have e2:=gy (k:=1) (x:=rawInt ((i:Int)+1)) e1' rfl
 refine CI ⟨_,rfl,CI (hQ _ ?_ ((Heap.SameBut.update ..).trans (Heap.SameBut.update ..)))⟩
 exact e2
theorem zl{it a:Addr}{i ep:Nat}{o:Obj}{es:Array (Int×Value)}{t:SetTable}{Q:Option Value->Shared->Prop}(hh:A.handled=none)(hT:w.params.followText "set-order" = true)(hit:s.heap.get? it=some (bU a (rawInt 0) i es.size ep))(ho:s.heap.get? a=some o)(hd:o.data=.set es ep t)(hf:t.fits es.size=true)
  (hx:(pickOrder (w.params.setOrder a ep) es)[i]?=none) (hQ:∀h',Heap.ExtBut it s.heap h'->Q none { s with heap:=h' }):wpAny (model P w) A (pyNext (.ref it)) Q E s:=by
 have T:s.TypeIs (.ref it) "set_iterator":=⟨_,hit,rfl⟩
 unfold pyNext
 refine CH (wpAny_attempt (DL (name:=DB "__next__") T SF.slot_next (wpAny_call_entry SF.slot_next T SF.entry_next ?_ (SF.args_next _))))
 show wpAny _ _ (fieldsOf (.ref it) >>= _) _ _ s
 refine CH (wpAny_fieldsOf hit rfl ?_)
 show wpAny _ _ (setEntries a >>= _) _ _ s
 unfold setEntries
 refine CH (CH (DK ho hd hf (CI ?_)))
 rw[DP (by simp)]
 show wpAny _ _ (setNext a 0 _ _ >>= _) _ _ s
 unfold setNext
 refine CH (CH (DK ho hd hf ?_))
 dsimp only
 unfold setsByText
 refine CH (CH (wpAny_askSetting (CI ?_)))
 rw[show (model P w).w.params.followText "set-order" = true from hT]
 simp only[if_true]
 rw[DP (by simp)]
 unfold setWalk
 refine CH (CH (DK ho hd hf ?_))
 dsimp only
 unfold setsByText
 refine CH (CH (wpAny_askSetting (CI ?_)))
 rw[show (model P w).w.params.followText "set-order" = true from hT]
 simp only[if_true]
 refine CH (wpAny_askSetting (CI ?_))
 rw[Dd]
 have hx':(pickOrder ((model P w).w.params.setOrder a ep) es)[i]?=none:=hx
 rw[hx']
 refine CI ?_
 dsimp only[Option.map_some,Option.map_none]
 refine CH (wpAny_setField hit rfl (by simp) ?_)
 exact kY (s:=s) (it:=it) hh (Heap.SameBut.update ..).extBut hQ
theorem zS{it a:Addr}{i ep:Nat}{o:Obj}{es:Array (Int×Value)}{t:SetTable}{Q:Option Value->Shared->Prop}{T0:Addr}{ys:List Nat}(hT0:s.heap.get? T0=some (seqObj "tuple" (ys.map fun(i:Nat)=>rawInt i).toArray 0))(hit:s.heap.get? it=some (bU a (.ref T0) i es.size ep))(ho:s.heap.get? a=some o)(hd:o.data=.set es ep t)(hf:t.fits es.size=true)
  {y:Nat} {x:Int×Value} (hy:ys[i]?=some y) (hx:es[y]?=some x) (hQ:∀h',h'.get? it=some (bU a (.ref T0) (i+1) es.size ep)->Heap.SameBut it s.heap h'->Q (some x.2) { s with heap:=h' }):wpAny (model P w) A (pyNext (.ref it)) Q E s:=by
 have T:s.TypeIs (.ref it) "set_iterator":=⟨_,hit,rfl⟩
 unfold pyNext
 refine CH (wpAny_attempt (DL (name:=DB "__next__") T SF.slot_next (wpAny_call_entry SF.slot_next T SF.entry_next ?_ (SF.args_next _))))
 show wpAny _ _ (fieldsOf (.ref it) >>= _) _ _ s
 refine CH (wpAny_fieldsOf hit rfl ?_)
 show wpAny _ _ (setEntries a >>= _) _ _ s
 unfold setEntries
 refine CH (CH (DK ho hd hf (CI ?_)))
 rw[DP (by simp)]
 show wpAny _ _ (seqItems? (.ref T0) >>= _) _ _ s
 refine CH (wpAny_seqItems hT0 rfl ?_)
 dsimp only
 rw[Dd]
 have hpl:((ys.map fun(i:Nat)=>rawInt i).toArray:Array Value)[i]?=some (rawInt y):=by
  rw[List.getElem?_toArray,CP,hy]
  rfl
 rw[hpl]
 show wpAny _ _ (setNextDrawn a _ _ >>= _) _ _ s
 unfold setNextDrawn
 refine CH (CH (DK ho hd hf ?_))
 dsimp only
 rw[DP (by simp)]
 simp only[Dd]
 rw[hx]
 refine CI ?_
 refine CH (wpAny_setField hit rfl (by simp) ?_)
 have e2:=gy (k:=1) (x:=rawInt ((i:Int)+1)) hit rfl
 exact CI ⟨_,rfl,CI (hQ _ e2 (Heap.SameBut.update ..))⟩
theorem A3{it a:Addr}{i ep:Nat}{o:Obj}{es:Array (Int×Value)}{t:SetTable}{Q:Option Value->Shared->Prop}{T0:Addr}{ys:List Nat}(hh:A.handled=none)(hT0:s.heap.get? T0=some (seqObj "tuple" (ys.map fun(i:Nat)=>rawInt i).toArray 0))(hit:s.heap.get? it=some (bU a (.ref T0) i es.size ep))(ho:s.heap.get? a=some o)(hd:o.data=.set es ep t)(hf:t.fits es.size=true)
  (hy:ys[i]?=none) (hQ:∀h',Heap.ExtBut it s.heap h'->Q none { s with heap:=h' }):wpAny (model P w) A (pyNext (.ref it)) Q E s:=by
 have T:s.TypeIs (.ref it) "set_iterator":=⟨_,hit,rfl⟩
 unfold pyNext
 refine CH (wpAny_attempt (DL (name:=DB "__next__") T SF.slot_next (wpAny_call_entry SF.slot_next T SF.entry_next ?_ (SF.args_next _))))
 show wpAny _ _ (fieldsOf (.ref it) >>= _) _ _ s
 refine CH (wpAny_fieldsOf hit rfl ?_)
 show wpAny _ _ (setEntries a >>= _) _ _ s
 unfold setEntries
 refine CH (CH (DK ho hd hf (CI ?_)))
 rw[DP (by simp)]
 show wpAny _ _ (seqItems? (.ref T0) >>= _) _ _ s
 refine CH (wpAny_seqItems hT0 rfl ?_)
 dsimp only
 rw[Dd]
 have hpl:((ys.map fun(i:Nat)=>rawInt i).toArray:Array Value)[i]?=none:=by
  rw[List.getElem?_toArray,CP,hy]
  rfl
 rw[hpl]
 refine CH (wpAny_setField hit rfl (by simp) ?_)
 have e1:=gy (k:=0) (x:=rawInt 0) hit rfl
 have e1':(s.heap.update it (Obj.mapFields (·.setIfInBounds 0 (rawInt 0)))).get? it=some (bU a (rawInt 0) i es.size ep):=e1
 refine CH (wpAny_setField (s:={ s with heap:=s.heap.update it (Obj.mapFields (·.setIfInBounds 0 (rawInt 0))) }) e1' rfl (by simp) ?_)
 exact kY (s:=s) (it:=it) hh ((Heap.SameBut.update ..).trans (Heap.SameBut.update ..)).extBut hQ
theorem lG{it a:Addr}{first:Value}{i n ep:Nat}{Q:Value->Shared->Prop}(hit:s.heap.get? it=some (bU a first i n ep))(h:Q (.ref it) s):wpAny (model P w) A (pyIter (.ref it)) Q E s:=by
 have T:s.TypeIs (.ref it) "set_iterator":=⟨_,hit,rfl⟩
 refine wpAny_pyIter_slot T SF.o5 (wpAny_call_entry SF.o5 T SF.AO ?_ (SF.AJ _))
 show wpAny _ _ (ret (.ref it)) _ _ s
 exact CI ⟨_,rfl,"set_iterator",_,T,SF.slot_next.lookup,h⟩
theorem xu(hh:A.handled=none)(hT:w.params.followText "set-order" = true)(I a:Addr)(hne:a≠I){o:Obj}{es:Array (Int×Value)}{ep:Nat}{t:SetTable}(hd:o.data=.set es ep t)(hf:t.fits es.size=true):
  Walks P w A I [I,a] [I] es.size (fun i v=>∃x,(pickOrder (w.params.setOrder a ep) es)[i]?=some x/\v=x.2) (fun i h=>h.get? I=some (bU a (rawInt 0) i es.size ep)/\h.get? a=some o) where
 sub:=fun b hb=>by simp at hb;simp[hb]
 frame:=fun _ _ _ st hk=>⟨hk I (by simp) _ st.1,hk a (by simp) _ st.2⟩
 item:=fun i s Q E hi st hQ=>by
  have hl:(pickOrder (w.params.setOrder a ep) es).size=es.size:=by
   rw[←CS,(kf _ es).length_eq,CS]
  have hx:=getElem?_pos (pickOrder (w.params.setOrder a ep) es) i (by omega)
  refine vJ hT st.1 st.2 hd hf hx fun h' hit' sb=>?_
  exact hQ _ h' s.toks ⟨_,hx,rfl⟩ ⟨hit',(sb.2 a hne).trans st.2⟩ fun b o hb e=>sb.extBut b o (fun h=>hb (by simp[h])) e
 done:=fun s Q E st hQ=>by
  have hl:(pickOrder (w.params.setOrder a ep) es).size=es.size:=by
   rw[←CS,(kf _ es).length_eq,CS]
  exact zl hh hT st.1 st.2 hd hf (Array.getElem?_eq_none (by omega)) fun h' he'=>hQ h' s.toks fun b o hb e=>he' b o (fun h=>hb (by simp[h])) e
 self:=fun _ _ _ _ st hQ=>lG st.1 hQ
theorem vM(hh:A.handled=none)(I a T0:Addr)(hne:a≠I)(hneT:T0≠I){o:Obj}{es:Array (Int×Value)}{ep:Nat}{t:SetTable}{ys:List Nat}(hd:o.data=.set es ep t)(hf:t.fits es.size=true)(hy:ys.Perm (DM es.size)):
  Walks P w A I [I,a,T0] [I] es.size (fun i v=>∃y x,ys[i]?=some y/\es[y]?=some x/\v=x.2) (fun i h=>h.get? I=some (bU a (.ref T0) i es.size ep)/\h.get? a=some o/\h.get? T0=some (seqObj "tuple" (ys.map fun(i:Nat)=>rawInt i).toArray 0)) where
 sub:=fun b hb=>by simp at hb;simp[hb]
 frame:=fun _ _ _ st hk=>⟨hk I (by simp) _ st.1,hk a (by simp) _ st.2.1,hk T0 (by simp) _ st.2.2⟩
 item:=fun i s Q E hi st hQ=>by
  have hl:ys.length=es.size:=by rw[hy.length_eq,List.length_range]
  have hyi:=CO (l:=ys) (i:=i) (by omega)
  have hlt:ys[i]<es.size:=List.mem_range.mp (hy.mem_iff.mp (Dr (by omega)))
  have hx:=getElem?_pos es ys[i] hlt
  refine zS st.2.2 st.1 st.2.1 hd hf hyi hx fun h' hit' sb=>?_
  exact hQ _ h' s.toks ⟨_,_,hyi,hx,rfl⟩ ⟨hit',(sb.2 a hne).trans st.2.1,(sb.2 T0 hneT).trans st.2.2⟩ fun b o hb e=>sb.extBut b o (fun h=>hb (by simp[h])) e
 done:=fun s Q E st hQ=>by
  have hl:ys.length=es.size:=by rw[hy.length_eq,List.length_range]
  exact A3 hh st.2.2 st.1 st.2.1 hd hf (List.getElem?_eq_none (by omega)) fun h' he'=>hQ h' s.toks fun b o hb e=>he' b o (fun h=>hb (by simp[h])) e
 self:=fun _ _ _ _ st hQ=>lG st.1 hQ
end
end L2
namespace PyProof.Rows
open PySem
section
variable {prog:Program} {w:World} {A:Around} {E:Value->Shared->Prop} {s:Shared} {κ:SortKind} {X:Keyed->Prop}
open Classical in
end
end PyProof.Rows
namespace L2
open PySem PySem.Spec PyProof.Rows
section
variable {P:Program} {w:World} {A:Around} {E:Value->Shared->Prop} {s:Shared}
theorem yq:Slot "set" "__len__" "set.__len__":=
 .of (owner:="set") (n:="__len__") (by rw[typeLookup_type,builtinLookup_eq_fast];kernel_rfl) (by decide +kernel) (by decide +kernel) (by decide +kernel)
  (by first | exact .inl (by decide +kernel) | exact .inr (by decide +kernel)) (by rw[isSubtype_type];kernel_rfl)
theorem sub_set_set:isSubtype (.type "set") (.type "set")=pure true:=by rw[isSubtype_type];kernel_rfl
theorem split_len:splitId "set.__len__" = some ("set","__len__"):=by kernel_rfl
theorem zw{a:Addr}{Q:Bool->Shared->Prop}(T:s.TypeIs (.ref a) "set")(h:Q false s):wpAny (model P w) A (Builtin.List.listLengthHint (.ref a)) Q E s:=by
 unfold Builtin.List.listLengthHint
 refine CH (wpAny_specialOf T yq.lookup ?_)
 dsimp only
 rw[split_len]
 dsimp only
 refine CH (wpAny_isInstance (T:="set") (b:=true) T sub_set_set ?_)
 simp only[Bool.not_true,DG,if_false]
 rw[DQ (by first | rfl | decide +kernel | kernel_rfl)]
 refine CH (wpAny_typeOf T ?_)
 exact CI h
end
end L2
namespace L2
open PySem PySem.Spec PyProof.Rows
section
variable {P:Program} {w:World} {A:Around} {E:Value->Shared->Prop} {s:Shared}
open Classical in
theorem rf{α:Type}{D ds:List α}(hd:D.Nodup)(hs:∀k∈D,k∈ds)(hl:ds.length=D.length):ds.Perm D:=by
 induction D generalizing ds with
 | nil=>
  rw[List.length_nil,List.length_eq_zero_iff]at hl
  subst hl
  exact .refl _
 | cons d D ih=>
  have hm:=hs d CU
  have p1:=List.perm_cons_erase hm
  have hd':=List.nodup_cons.mp hd
  refine p1.trans ((ih hd'.2 (fun k hk=>?_) ?_).cons d)
  ·refine(List.mem_erase_of_ne ?_).mpr (hs k (CQ _ hk))
   rintro rfl
   exact hd'.1 hk
  ·rw[List.length_erase_of_mem hm,hl]
   rfl
theorem key_inj{h:Heap}{b:Addr}{k1 k2:List Key}(h1:IsTupleKey (aN P w) h k1 b)(h2:IsTupleKey (aN P w) h k2 b):k1=k2:=by
 obtain⟨o1,i1,n1,z1,_,z2,z3⟩:=h1
 obtain⟨o2,i2,n2,y1,_,y2,y3⟩:=h2
 rw[z1]at y1
 cases y1
 rw[z2]at y2
 cases y2
 exact z3.inj y3
end
end L2
namespace L2
open PySem PySem.Spec PyProof.Rows
abbrev uo(P:Program)(w:World)(x:Addr×List Key):Int×Value:=(tupleKeyHash (aN P w) x.2,.ref x.1)
def jH(P:Program)(w:World)(h:Heap)(a:Addr)(L:List (Addr×List Key)):Prop:=∃o es ep t,h.get? a=some o/\o.ExactSet/\o.data=.set es ep t/\t.dummies = #[]/\Tb.Mask t.mask/\es.size*5<t.mask*3/\Tb.TOk t.mask t.place (es.map (·.1))/\es.toList=L.map (uo P w)/\((∀x∈L,∃z,Sum.inr z∈x.2)->L=[]\/t.plain=false)
def iK(P:Program)(w:World)(a:Addr)(L:List (Addr×List Key)):HO:=.ext fun h=>jH P w h a L
section
variable {P:Program} {w:World}
theorem t9{h:Heap}{B:Addr->List Key->Prop}{D:List (List Key)}:∀{es:List (Int×Value)},(∀e∈es,∃b k,e=(tupleKeyHash (aN P w) k,Value.ref b)/\k∈D/\IsTupleKey (aN P w) h k b/\B b k)->∃L:List (Addr×List Key),es=L.map (uo P w)/\∀x∈L,x.2∈D/\IsTupleKey (aN P w) h x.2 x.1/\B x.1 x.2
 | [],_=>⟨[],rfl,fun x hx=>by cases hx⟩
 | e::es,hall=>by
  obtain⟨L,h1,h2⟩:=t9 (es:=es) fun x hx=>hall x (CQ _ hx)
  obtain⟨b,k,rfl,hk,hkb,hBb⟩:=hall e CU
  refine⟨(b,k)::L,by rw[h1];rfl,fun x hx=>?_⟩
  rcases De.mp hx with rfl | hx
  ·exact⟨hk,hkb,hBb⟩
  ·exact h2 x hx
theorem dh.obj{B:Addr->List Key->Prop}{h:Heap}{a:Addr}{D:List (List Key)}(hS:dh P w B h a D):∃L,jH P w h a L/\(L.map (·.2)).Perm D/\∀x∈L,B x.1 x.2:=by
 obtain⟨hnd,o,es,ep,t,ho,hex,hd,hdm,hm,hfull,hlen,hT,hall,hin,hpl⟩:=hS
 obtain⟨L,h1,h2⟩:=t9 hall
 have hl:L.length=D.length:=by
  rw[←hlen,←CS,h1,CN]
 refine⟨L,⟨o,es,ep,t,ho,hex,hd,hdm,hm,hfull,hT,h1,fun hx=>?_⟩,rf hnd (fun k hk=>?_) (by rw[CN,hl]),fun x hx=>(h2 x hx).2.2⟩
 ·have hx':∀k∈D,∃z,Sum.inr z∈k:=fun k hk=>by
   obtain⟨b,hb,hkb⟩:=hin k hk
   rw[h1]at hb
   obtain⟨x,hx',e⟩:=List.mem_map.mp hb
   have e2:Value.ref x.1=Value.ref b:=congrArg Prod.snd e
   cases e2
   rw[key_inj hkb (h2 x hx').2.1]
   exact hx x hx'
  rcases hpl hx' with e | e
  ·subst e
   rw[List.length_nil,List.length_eq_zero_iff]at hl
   exact .inl hl
  ·exact .inr e
 ·obtain⟨b,hb,hkb⟩:=hin k hk
  rw[h1]at hb
  obtain⟨x,hx',e⟩:=List.mem_map.mp hb
  have e2:Value.ref x.1=Value.ref b:=congrArg Prod.snd e
  cases e2
  rw[key_inj hkb (h2 x hx').2.1]
  exact List.mem_map.mpr ⟨x,hx',rfl⟩
theorem wb{H:Hp}{h:Heap}{a:Addr}{L:List (Addr×List Key)}(S:jH P w h a L):bP P w H h a (iK P w a L):=by
 refine⟨S,?_,fun h1 h2 z k=>?_⟩
 ·obtain⟨o,es,ep,t,ho,_⟩:=S
  exact⟨o,ho⟩
 ·obtain⟨o',es',ep',t',ho',r⟩:=z
  exact⟨o',es',ep',t',k _ ho',r⟩
end
section
variable {X:Cx} {pins:List (Addr×Obj)} {σ:St} {H:Hp} {s:Shared}
theorem Inv.dr(I:Inv X pins σ H s)(d:Drawn):Inv X pins σ H { s with drawn:=d }:=⟨I.ok,I.os,I.bare,I.base,I.loc,I.cell,I.free,I.freeC,I.pin,I.hok,I.len⟩
theorem nR:∀{bs:List Addr} {us:List Value},Vals (bs.map V.ref) us->us=bs.map Value.ref
 | [],_,.nil=>rfl
 | b::bs,_,.cons r t=>by
  rw[List.map_cons,←nR (bs:=bs) t]
  exact congrArg (· :: _) r
theorem ya(I:Inv X pins σ H s){b:Addr}{k:List Key}(e:H b=some (.tup (k.map kV))):IsTupleKey (aN X.prog X.w) s.heap k b:=by
 obtain⟨_,is,rk,o,ho,hc,n,hd⟩:=I.hok b _ e
 exact⟨o,_,n,ho,hc,hd,pG rk⟩
def iy(H:Hp)(bs:List Addr)(kk:List (List Key)):Prop:=bs.length=kk.length/\∀(j:Nat) (b:Addr) (k:List Key),bs[j]?=some b->kk[j]?=some k->H b=some (.tup (k.map kV))
theorem iy.ext{H H':Hp}{bs:List Addr}{kk:List (List Key)}(e:Ext H H')(h:iy H bs kk):iy H' bs kk:=⟨h.1,fun j b k e1 e2=>e _ _ (h.2 j b k e1 e2)⟩
end
section
variable {X:Cx}
def vR(P:Program)(w:World):List V->Hp->VK->Prop:=fun xs H Q=>∃p bs kk,xs=[.ref p]/\(H p=some (.tup (bs.map V.ref))\/H p=some (.lst (bs.map V.ref)))/\iy H bs kk/\kk.length<1400 ∧
 ∀l L,H l=none->(L.map Prod.snd).Nodup->(∀k,k∈L.map Prod.snd↔k∈kk)->(∀x∈L,H x.1=some (.tup (x.2.map kV)))->Q (.ref l) (upd H l (iK P w l L))
theorem uV{k:Nat}(hr:Room k X.A):bH X (.type "set") (vR X.prog X.w):=by
 intro pins s σ H xs us Q I r h
 obtain⟨p,bs,kk,rfl,hp,⟨h2,h3⟩,hz,q⟩:=h
 obtain⟨u,rfl,rx⟩:=vals1 r
 cases rx
 have hu:=hr.units
 have hA:=hr.hd
 have keys:∀(j:Nat) (b:Addr) (k:List Key),bs[j]?=some b->kk[j]?=some k->IsTupleKey (aN X.prog X.w) s.heap k b:=fun j b k e1 e2=>ya I (h3 j b k e1 e2)
 have fin:∀(h':Heap) (tk:Nat) (D:List (List Key)),iR X.prog X.w s bs kk D h'->∃v H',Inv X pins σ H' { s with heap:=h',toks:=tk }/\RelV v (.ref s.heap.objs.size)/\Q v H':=fun h' tk D hm=>by
  obtain⟨hS,hD,hk⟩:=hm
  obtain⟨L,hO,hLp,hLB⟩:=hS.obj
  have hfr:=I.hok.fresh (Dj _)
  refine⟨.ref s.heap.objs.size,_,I.laid (t':=tk) (fun b o e=>hk b o (CM e) e) (Dj _) (wb hO),rfl,q _ L hfr (hLp.nodup_iff.mpr hS.1) (fun k=>(hLp.mem_iff.trans (hD k))) fun x hx=>?_⟩
  obtain⟨j,e1,e2⟩:=hLB x hx
  exact h3 j _ _ e1 e2
 rcases hp with hp | hp
 ·obtain⟨_,its,rv,gt⟩:=I.hok p _ hp
  have ei:=nR rv
  subst ei
  refine BE (kk:=kk) (bs:=bs) hA (by omega) (show s.heap.IsTuple p _ from gt) rfl (by simp[h2]) (by simp[h2];exact hz) keys fin
 ·obtain⟨_,its,n,rv,gt⟩:=I.hok p _ hp
  have ei:=nR rv
  subst ei
  refine B9 (kk:=kk) (bs:=bs) hA (by omega) (show s.heap.IsList p _ from⟨_,gt,rfl,n,rfl⟩) rfl (by simp[h2]) (by simp[h2];exact hz) keys fin
def vZ(P:Program)(w:World):List V->Hp->VK->Prop:=fun xs H Q=>∃p L,xs=[.ref p]/\H p=some (iK P w p L)/\L.length<1400/\Q (.int L.length) H
theorem og:bH X (.builtin "len") (vZ X.prog X.w):=by
 intro pins s σ H xs us Q I r h
 obtain⟨p,L,rfl,hp,hn,q⟩:=h
 obtain⟨u,rfl,rx⟩:=vals1 r
 cases rx
 obtain⟨⟨o,es,ep,t,ho,hex,hd,hdm,hm,hfull,hT,hel,_⟩,_⟩:=I.hok p _ hp
 have hpl:t.place.size=es.size:=by rw[hT.len,Array.size_map]
 have hs:es.size=L.length:=by rw[←CS,hel,CN]
 have hf:t.fits es.size=true:=by
  simp only[SetTable.fits,DA,beq_iff_eq,decide_eq_true_eq]
  refine⟨hpl,?_⟩
  unfold SetTable.fill
  rw[hdm,hpl]
  have:es.size<=t.mask:=by omega
  simpa using this
 refine call_len_set ho hex hd hf (by omega) ⟨.int L.length,H,I.tok _,⟨s.toks+1,by rw[hs]⟩,q⟩
end
end L2
namespace L2
open PySem PySem.Spec PyProof.Rows
section
variable {X:Cx} {pins:List (Addr×Obj)} {σ:St} {H:Hp} {s:Shared}
end
open AutoSeq1 (wpAny_loadPart')in
section
variable {K:CJ} {σ:St} {H:Hp} {Q:VK}
end
section
variable {X:Cx}
def nN(neg:Bool):R2:=fun x y H Q=>∃n p xs d ds,bf H n x d/\y=.ref p/\H p=some (.lst xs)/\Paired (bf H n) xs ds/\n<=50/\Q (.bl (if neg then !(ds.any fun e=>PyData.eqv e d)else ds.any fun e=>PyData.eqv e d)) H
theorem CC{k:Nat}(hr:Room k X.A):bo X (compareOp .In) (nN false):=by
 intro pins s σ H x y v u Q I rx ry h
 obtain⟨n,p,xs,d,ds,h1,rfl,h2,h3,hn,q⟩:=h
 have h4:bf H (n+1) (.ref p) (.list ds):=.inr ⟨p,xs,ds,rfl,.inr ⟨h2,rfl⟩,h3⟩
 obtain⟨as,ra⟩:=bf.reads I n h1 rx
 obtain⟨bs,rb⟩:=bf.reads I (n+1) h4 ry
 have l1:=bf.lay n h1
 have l2:=jX (fun{x d}=>bf.lay (H:=H) n) h3
 have hu:=hr.units
 have hm:min (PyData.depthAll ds) d.depth<=50:=Dv (Nat.min_le_right _ _) (Dv l1.2 hn)
 exact SeqAt.in_list_reads rb ra l2.1 l1.1 (by omega) ⟨.bl _,H,I,rfl,q⟩
theorem AQ{k:Nat}(hr:Room k X.A):bo X (compareOp .NotIn) (nN true):=by
 intro pins s σ H x y v u Q I rx ry h
 obtain⟨n,p,xs,d,ds,h1,rfl,h2,h3,hn,q⟩:=h
 have h4:bf H (n+1) (.ref p) (.list ds):=.inr ⟨p,xs,ds,rfl,.inr ⟨h2,rfl⟩,h3⟩
 obtain⟨as,ra⟩:=bf.reads I n h1 rx
 obtain⟨bs,rb⟩:=bf.reads I (n+1) h4 ry
 have l1:=bf.lay n h1
 have l2:=jX (fun{x d}=>bf.lay (H:=H) n) h3
 have hu:=hr.units
 have hm:min (PyData.depthAll ds) d.depth<=50:=Dv (Nat.min_le_right _ _) (Dv l1.2 hn)
 exact SeqAt.notIn_list_reads rb ra l2.1 l1.1 (by omega) ⟨.bl _,H,I,rfl,q⟩
theorem zg{neg:Bool}{n:Nat}{x:V}{p:Addr}{xs:List V}{d:PyData}{ds:List PyData}{H:Hp}{Q:VK}(h1:bf H n x d)(h2:H p=some (.lst xs))(h3:Paired (bf H n) xs ds)(hn:n<=50)(q:Q (.bl (if neg then !(ds.any fun e=>PyData.eqv e d)else ds.any fun e=>PyData.eqv e d)) H):nN neg x (.ref p) H Q:=
 ⟨n,p,xs,d,ds,h1,rfl,h2,h3,hn,q⟩
end
end L2
namespace L2
open PySem PySem.Spec PyProof.Rows
abbrev Row3:=Str×Tok×Value
def j8(w:World)(e:Row3):DictEntry:=⟨PyData.keyHash w.params e.1,.str e.1 e.2.1,e.2.2⟩
def j3(w:World)(l:List Row3)(ep:Nat):Obj:={ cls:=.type "dict",dict:=none,data:=.dict (l.map (j8 w)).toArray ep,slots:=#[] }
structure GDict(w:World)(K:CJ)(a:Addr)(kvs:List (Key×V)):Prop where
 has:∃l ep,K.lookup a=some (j3 w l ep)/\KV kvs (l.map fun e=>((Sum.inr e.1:Key),e.2.2))
 nd:(kvs.map (·.1)).Nodup
 sm:(a == sysModules)=false
theorem oR{P:Program}{w:World}:∀l:List Row3,Pairs (aN P w) (l.map (j8 w)) (l.map fun e=>((Sum.inr e.1:Key),e.2.2))
 | []=>.nil
 | e::l=>.cons (la P w e.1 e.2.1) rfl (oR l)
theorem Bt{P:Program}{w:World}(l:List Row3):KeysOf (aN P w) (l.map (j8 w)).toArray:=fun e he=>by
 have he':e∈l.map (j8 w):=by simpa using he
 obtain⟨x,_,rfl⟩:=List.mem_map.mp he'
 exact⟨.inr x.1,la P w x.1 x.2.1,rfl⟩
theorem GDict.at{X:Cx}{pins:List (Addr×Obj)}{σ:St}{H:Hp}{s:Shared}{a:Addr}{kvs:List (Key×V)}(D:GDict X.w X.K a kvs)(I:Inv X pins σ H s):∃vs,KV kvs vs/\s.heap.DictOf (aN X.prog X.w) a vs:=by
 obtain⟨l,ep,hl,r⟩:=D.has
 refine⟨_,r,j3 X.w l ep,_,ep,I.kIn _ _ hl,⟨rfl,rfl,rfl⟩,rfl,Bt l,oR l,?_⟩
 rw[←r.keys]
 exact D.nd
section
variable {X:Cx} {x:Str} {a:Addr} {kvs:List (Key×V)} {i:Expr} {ty:TE} {p pos:Pos}
def tH(neg:Bool)(kvs:List (Key×V))(ty:TE):TE:=fun σ H Q=>ty σ H fun y H1=>∃k,y=kV k/\Q (.bl (if neg then !(cX kvs k).isSome else(cX kvs k).isSome)) H1
theorem vF(hg:Gl X x)(hm:X.mg x=some (.ref a))(D:GDict X.w X.K a kvs)(hi:PE X i ty)(hd:(x == ("__debug__":Str))=false:=by decide):PC X .In i (.Name x p) (tH false kvs ty):=by
 intro pins s σ H Q I h
 refine ax (hi pins s σ H _ I h) fun iv s1 ⟨y,H1,I1,ry,k,ey,q⟩=>gL I1 hg hm ?_ hd
 subst ey
 obtain⟨vs,rel,dd⟩:=D.at I1
 refine wpAny_in_of (ou ry) D.sm dd.mapOf ?_
 rw[←(rel.val k).isSome_eq]
 exact⟨.bl (cX kvs k).isSome,H1,I1.tok _,rfl,q⟩
theorem rd_gin{neg:Bool}{σ:St}{H:Hp}{Q:VK}(h:ty σ H fun y H1=>∃k,y=kV k/\Q (.bl (if neg then !(cX kvs k).isSome else(cX kvs k).isSome)) H1):tH neg kvs ty σ H Q:=h
def tO:R2:=fun x y H Q=>∃a b,x=.str a/\y=.str b/\Q (.bl (!decide (b.cps.toList<a.cps.toList))) H
theorem rR:bo X (compareOp .LtE) tO:=by
 intro pins s σ H x y v u Q I rx ry h
 obtain⟨a,b,rfl,rfl,q⟩:=h
 obtain⟨t,rfl⟩:=rx
 obtain⟨t',rfl⟩:=ry
 exact PySem.P.le_str ⟨.bl _,H,I,rfl,q⟩
theorem rd_leS{a b:Str}{H:Hp}{Q:VK}(h:Q (.bl (!decide (b.cps.toList<a.cps.toList))) H):tO (.str a) (.str b) H Q:=⟨a,b,rfl,rfl,h⟩
theorem lB{α β:Type}{f g:α->Option β}:∀{l:List α},(∀x∈l,f x=g x)->l.filterMap f=l.filterMap g
 | [],_=>rfl
 | x::l,h=>by
  rw[List.filterMap_cons,List.filterMap_cons,h x CU,lB fun y hy=>h y (CQ _ hy)]
theorem vI(n:Nat)(xs:List Value)(h:xs.length=n):(DM n).filterMap (fun i:Nat=>xs[((n:Int)-1+(i:Int)*(-1)).toNat]?)=xs.reverse:=by
 refine List.ext_getElem? fun i=>?_
 have e:(DM n).filterMap (fun i:Nat=>xs[((n:Int)-1+(i:Int)*(-1)).toNat]?)=(DM n).map (fun i:Nat=>xs.reverse.getD i .none):=by
  rw[←List.filterMap_eq_map]
  refine lB fun i hi=>?_
  have hi:=List.mem_range.mp hi
  have:((n:Int)-1+(i:Int)*(-1)).toNat=n-1-i:=by omega
  rw[this,Function.comp_apply,List.getD_eq_getElem?_getD,List.getElem?_reverse (by omega),h,CO (show n-1-i<xs.length by omega)]
  rfl
 rw[e,CP]
 by_cases hi:i<n
 ·rw[CO (by simpa using hi),CO (by simpa[h]using hi)]
  simp[List.getD_eq_getElem?_getD,h,hi]
 ·rw[List.getElem?_eq_none (by simpa using hi),List.getElem?_eq_none (by simpa[h]using hi)]
  rfl
theorem wW(its:List Value):slicePick its.toArray none none (some (-1))=its.reverse.toArray:=by
 unfold slicePick
 have e:sliceBounds none none (some (-1)) its.toArray.size=((its.length:Int)-1,-1,-1):=by
  unfold sliceBounds
  simp
 rw[e]
 refine congrArg List.toArray ?_
 rw[←vI its.length its rfl]
 unfold sliceRange
 simp only
 rw[DP (by decide),List.filterMap_map]
 have el:(if(its.length:Int)-1 > -1 then((its.length:Int)-1 - -1 - -1-1) / - -1 else 0).toNat=its.length:=by
  rw[show (- -1:Int)=1 by decide,Int.ediv_one]
  split<;>omega
 rw[el]
 refine lB fun i hi=>?_
 rw[Function.comp_apply,show (its.length:Int)-1 + -1*(i:Int)=(its.length:Int)-1+(i:Int) * -1 by omega]
 simp
theorem Vals.rev{xs:List V}{us:List Value}(r:Vals xs us):Vals xs.reverse us.reverse:=by
 induction r with
 | nil=>exact .nil
 | cons h t ih=>
  rw[List.reverse_cons,List.reverse_cons]
  exact Vals.append ih (.cons h .nil)
def nO(K:CJ):V->Hp->VK->Prop:=fun x H Q=>∃a xs,x=.ref a/\ai K H a xs/\cY H (.lst xs.reverse) Q
def qL(K:CJ)(te:TE)(ts:TO):TE:=fun σ H Q=>te σ H fun x H1=>ts σ H1 fun k H2=>k=some (-1)/\nO K x H2 Q
theorem yz{e st:Expr}{te:TE}{ts:TO}{p2:Pos}(K:CJ)(he:PE X e te)(hs:PO X (some st) ts)(hK:X.K=K:=by rfl):PE X (.Subscript e (.Slice none none (some st) p2) pos) (qL K te ts):=by
 subst hK
 intro pins s σ H Q I h
 refine Subscript_ (ax (he pins s σ H _ I h) fun v s1 ⟨x,H1,I1,r1,q1⟩=>?_)
 refine wpAny_Slice ?_
 rw[evalPart_none]
 refine CI (CI ?_)
 refine ax (hs pins s1 σ H1 _ I1 q1) fun vs s2 ⟨k,H2,I2,pk,q2⟩=>?_
 obtain⟨rfl,a,xs,rfl,hx,q⟩:=q2
 cases pk with
 | int i tk=>
 cases r1
 have I3:Inv X pins σ H2 { s2 with heap:=s2.heap.push { cls:=.type "slice",data:=.fields #[.none,.none,.int (-1) tk] } }:=I2.kept (t':=s2.toks) fun b ob q=>CK _ q
 obtain⟨its,r,ht,hz⟩:=I3.list hx
 have hlen:=r.length
 show wpAny (model X.prog X.w) X.A (subscriptTail e (.Slice none none (some st) p2) (.ref a) (.ref s2.heap.objs.size)) (EP X pins σ Q) X.xe { s2 with heap:=s2.heap.push { cls:=.type "slice",data:=.fields #[.none,.none,.int (-1) tk] } }
 refine tail_any (ops:=[.ref a,.ref s2.heap.objs.size]) ht.isList.typeIs slot_list_getitem.lookup (wpAny_getItem_list_slice ht.isList (Heap.IsSliceOf.new ..) .none .none (.int (-1) tk) (by decide) ?_ (by rw[CT];omega)) (by with_unfolding_all rfl)
 rw[wW]
 exact⟨.ref _,_,I3.laid (t':=s2.toks) (o:=.lst xs.reverse) (fun b ob e=>CK _ e) (Dj _) ⟨by rw[List.length_reverse];exact hz,_,0,r.rev,CL _ rfl⟩,rfl,q _ (I3.hok.fresh (Dj _))⟩
theorem rd_revL{K:CJ}{te:TE}{ts:TO}{σ:St}{H:Hp}{Q:VK}(h:te σ H fun x H1=>ts σ H1 fun k H2=>k=some (-1)/\nO K x H2 Q):qL K te ts σ H Q:=h
theorem vA{K:CJ}{H:Hp}{Q:VK}{a:Addr}{xs:List V}(e:ai K H a xs)(h:cY H (.lst xs.reverse) Q):nO K (.ref a) H Q:=⟨a,xs,rfl,e,h⟩
end
end L2
namespace L2
open PySem PySem.Spec PyProof.Rows
section
variable {prog:Program} {w:World} {A:Around} {E:Value->Shared->Prop} {s:Shared} {r d:Addr}
end
section
variable {X:Cx}
end
end L2
namespace L2
open PySem PySem.Spec PyProof.Rows
section
variable {X:Cx}
theorem LitE.pe{e:Expr}{te:TE}(h:LitE e te):PE X e te:=
 LitE.rec (motive_1:=fun e te _=>PE X e te) (motive_2:=fun es ta _=>PA X es ta) i4 bA af aw (fun _ ih=>aA ih) ae (fun h _ ih1 ih2=>aa ih1 ih2 (h.star _ _)) h
theorem nh{e:Expr}{te:TE}{es:List Expr}{t:TA}(h:LitE e te)(hr:PA X es t):PA X (e::es) (iW te t):=aa h.pe hr (h.star _ _)
end
end L2
namespace L2
open PySem PySem.Spec PyProof.Rows
def iu(z:Str):It:=⟨fun i _=>i<z.cps.size,fun i H x H'=>H'=H/\∃c,z.cps[i]?=some c/\x=.str ⟨#[c]⟩,fun i _=>z.cps.size<=i⟩
theorem Ci{P:Program}{w:World}{K:CJ}{tg:Expr}(z:Str)(t:Tok)(it:Addr):Turn P w K tg (iu z) [it] it (fun i h=>h.IsStrIter it (strIterType z) z t i) where
 mem:=by simp
 obj:=fun i h st b hb=>by
  have e:b=it:=by simpa using hb
  subst e
  obtain⟨o,e,c,d⟩:=st
  exact⟨o,e,fun v z=>by rw[d]at z;cases z⟩
 keep:=fun i h h' st k=>by
  obtain⟨o,e,r⟩:=st
  exact⟨o,k it (by simp) o e,r⟩
 item:=by
  intro X hP hw hK hc i pins s σ H E I hf st hg
  subst hP hw hK
  have hx:z.cps[i]?=some z.cps[i]:=Array.getElem?_eq_getElem hg
  obtain⟨f0,f1,f2,f3,f4,f5⟩:=hf it (by simp)
  have fin:∀(ty:String),ty=strIterType z->["enumerate","zip","dict_itemiterator","dict_reverseitemiterator","odict_iterator","itertools.zip_longest","itertools.pairwise"].contains ty=false->∀h',h'.IsStrIter it ty z t (i+1)->Heap.SameBut it s.heap h' →
    ∃u,some (Value.str ⟨#[z.cps[i]]⟩ s.toks)=some u/\wpAny (model X.prog X.w) X.A (letOwnedTupleGo tg (.ref it) u) (fun _ s2=>∃x H',Inv X pins σ H' s2/\RelV x u/\(iu z).yld i H x H'/\s2.heap.IsStrIter it (strIterType z) z t (i+1)/\∀b∈[it],H' b=none) E { s with heap:=h',toks:=s.toks+1 }:=by
   intro ty hty hn h' st' sb
   have I1:Inv X pins σ H { s with heap:=h',toks:=s.toks+1 }:=I.turned (fun b o hb e=>(sb.2 b hb).trans e) f0 f1 f3 f4 f5
   obtain⟨o,e,c,d⟩:=id st'
   exact⟨_,rfl,hZ (s:={ s with heap:=h',toks:=s.toks+1 }) e c d hn ⟨.str ⟨#[z.cps[i]]⟩,H,I1,⟨_,rfl⟩,⟨rfl,_,hx,rfl⟩,by rw[←hty];exact st',fun b hb=>(hf b hb).1⟩⟩
  cases ha:z.cps.all (· < 128)with
  | true=>
   have et:strIterType z = "str_ascii_iterator":=by unfold strIterType;rw[ha];rfl
   rw[et]at st
   exact wpAny_pyNext_ascii_item st hx fun h' st' sb=>fin _ et.symm (by decide) h' st' sb
  | false=>
   have et:strIterType z = "str_iterator":=by unfold strIterType;rw[ha];rfl
   rw[et]at st
   exact wpAny_pyNext_wide_item st hx fun h' st' sb=>fin _ et.symm (by decide) h' st' sb
 done:=by
  intro X hP hw hK hc i pins s σ H E I hf st hg
  subst hP hw hK
  have hx:z.cps[i]?=none:=Array.getElem?_eq_none hg
  obtain⟨f0,f1,f2,f3,f4,f5⟩:=hf it (by simp)
  have fin:∀h',Heap.ExtBut it s.heap h'->(none:Option Value)=none/\Inv X pins σ H { s with heap:=h' }:=fun h' eb=>⟨rfl,I.turned (t':=s.toks) (fun b o hb e=>eb b o hb e) f0 f1 f3 f4 f5⟩
  cases ha:z.cps.all (· < 128)with
  | true=>
   have et:strIterType z = "str_ascii_iterator":=by unfold strIterType;rw[ha];rfl
   rw[et]at st
   exact wpAny_pyNext_ascii_end (I.ok.hd hc) st hx fin
  | false=>
   have et:strIterType z = "str_iterator":=by unfold strIterType;rw[ha];rfl
   rw[et]at st
   exact wpAny_pyNext_wide_end (I.ok.hd hc) st hx fin
 self:=fun A i s Q E st h=>by
  cases ha:z.cps.all (· < 128)with
  | true=>
   have et:strIterType z = "str_ascii_iterator":=by unfold strIterType;rw[ha];rfl
   rw[et]at st
   exact wpAny_pyIter_striter_ascii st h
  | false=>
   have et:strIterType z = "str_iterator":=by unfold strIterType;rw[ha];rfl
   rw[et]at st
   exact wpAny_pyIter_striter_wide st h
section
variable {X:Cx} {tg:Expr}
def qV(tl:TE):TI:=fun σ H R=>tl σ H fun x H1=>∃z,x=.str z/\R (iu z) H1
theorem xm{l:Expr}{tl:TE}(hl:PE X l tl):PI X tg l (qV tl):=by
 intro pins s σ H R I h
 refine ax (hl pins s σ H _ I h) fun v s1 ⟨x,H1,I1,r1,q1⟩=>?_
 obtain⟨z,rfl,q⟩:=q1
 obtain⟨t,rfl⟩:=r1
 refine wpAny_pyIter_strU ?_
 refine⟨s1.heap.objs.size,[s1.heap.objs.size],_,_,H1,rfl,I1.kept (t':=s1.toks) fun b o e=>CK _ e,Ci z t _,⟨_,CL _ rfl,rfl,rfl⟩,fun b hb=>?_,q⟩
 have e:b=s1.heap.objs.size:=by simpa using hb
 subst e
 exact I1.fpOk (Dj _) (I1.hok.fresh (Dj _))
end
theorem rd_iS{te:TE}{σ:St}{H:Hp}{R:It->Hp->Prop}(h:te σ H fun x H1=>∃z,x=.str z/\R (iu z) H1):qV te σ H R:=h
section
variable {prog:Program} {w:World} {A:Around} {E:Value->Shared->Prop} {s:Shared}
end
section
variable {X:Cx} {tg:Expr}
end
end L2
namespace L2
open PySem PySem.Spec PyProof.Rows
section
variable {X:Cx}
theorem jL:∀{zs:List Str} {us:List Value},Vals (zs.map V.str) us->StrsAre us zs
 | [],_,r=>by cases r;exact .nil
 | z::zs,_,r=>by
  cases r with
  | cons h t=>
   obtain⟨t',rfl⟩:=h
   exact .cons z t' (jL t)
end
end L2
namespace L2
open PySem PySem.Spec PyProof.Rows
section
variable {X:Cx}
end
section
variable {X:Cx}
end
end L2
namespace L2
open PySem PySem.Spec PyProof.Rows
section
variable {X:Cx}
end
end L2
namespace L2
open PySem PySem.Spec PyProof.Rows
section
variable {P:Program} {w:World} {K:CJ} {mg:Str->Option Value} {base:Heap}
end
section
variable {X:Cx}
end
end L2
namespace L2
open PySem PySem.Spec PyProof.Rows
abbrev cC(w:World):Bool:=!w.params.followText "set-order"
theorem wg(t:SetTable)(es:Array (Int×Value))(h:Int)(x:Value):(layNew t es h x).2.1.led=t.led:=by
 unfold layNew
 split
 ·show((t.put _).1.orStandIn _).led=t.led
  unfold SetTable.orStandIn
  split<;>rfl
 ·rfl
theorem yg{mask finger moves:Nat}{led plain:Bool}{hs:Array Int}{t:SetTable}{o:Array Nat}(h:SetTable.laid mask finger moves led plain hs=some (t,o)):t.led=led/\t.plain=plain:=by
 unfold SetTable.laid at h
 cases e:SetTable.layClean mask hs with
 | none=>rw[e]at h;cases h
 | some ow=>
  rw[e]at h
  cases h
  exact⟨rfl,rfl⟩
theorem Cu(t:SetTable)(es:Array (Int×Value))(n:Nat):(relayAll t es n).2.1.led=t.led/\(t.plain=false->(relayAll t es n).2.1.plain=false):=by
 unfold relayAll
 split
 ·rename_i t' o e
  have:=yg e
  dsimp only
  split
  ·exact⟨this.1,fun h=>this.2.trans h⟩
  ·exact⟨rfl,fun _=>rfl⟩
 ·exact⟨rfl,fun _=>rfl⟩
section
variable {P:Program} {w:World} {A:Around} {E:Value->Shared->Prop} {s:Shared}
end
section
variable {P:Program} {w:World} {A:Around} {E:Value->Shared->Prop} {s:Shared}
theorem By(a:Value){Q₁:Value->Shared->Prop}(h:Q₁ (.ref s.heap.objs.size) { s with heap:=s.heap.push (bC (cC w)) }):
  codeAny (model P w) A (.call (.builtin "set.__new__") ⟨[.type "set",a],[]⟩) (wants Q₁ E) s:=by
 refine codeAny_of_tree ?_
 show wpAny _ A.in1 (do checkBuiltinCall "set.__new__" ⟨[.type "set",a],[]⟩;again (.builtin "set.__new__" ⟨[.type "set",a],[]⟩)) _ _ s
 refine CH (wpAny_of_eq (F.newCall_set_1 a) (CI ⟨plainId_quiet F.plain_set_new _,codeAny_builtin F.entry_set_new ?_⟩))
 rw[Around.under_plainId F.plain_set_new _]
 unfold Builtin.«set.__new__» Builtin.Frozenset.newClass
 have hsub:=sub_set_self
 obtain⟨hp,g,d,tk,os⟩:=s
 dsimp only
 wp_walk
 refine wpAny_askSetting (CI ?_)
 dsimp only
 simp only[newObj]
 refine CH (wpAny_alloc (CI ?_))
 exact CI h
end
end L2
namespace L2
open PySem PySem.Spec PyProof.Rows
section
variable {P:Program} {w:World} {A:Around} {E:Value->Shared->Prop} {s:Shared}
end
end L2
namespace L2
open PySem PySem.Spec PyProof.Rows
section
variable {X:Cx} {pins:List (Addr×Obj)} {σ:St} {H:Hp} {s:Shared}
end
section
variable {X:Cx}
end
end L2
namespace L2
open PySem PySem.Spec PyProof.Rows
section
variable {P:Program} {w:World} {A:Around} {E:Value->Shared->Prop} {s:Shared}
end
section
variable {X:Cx}
end
end L2
namespace L2
open PySem PySem.Spec PyProof.Rows
section
variable {X:Cx}
end
end L2
namespace L2
open PySem PySem.Spec PyProof.Rows
section
variable {X:Cx} {pins:List (Addr×Obj)} {σ:St} {H:Hp} {s:Shared}
end
section
variable {X:Cx}
end
end L2
namespace L2
open PySem PySem.Spec PyProof.Rows
section
variable {X:Cx}
end
end L2
namespace L2
open PySem PySem.Spec PyProof.Rows
theorem yI{K:CJ}{C:Addr}{i:Nat}{tb:Ends->(St->XK)->St->Hp->Prop}{ts:Addr->Addr->Option Addr->TS}{D:Ends}{σ:St}{H:Hp}(P:Addr->St->Hp->Prop)(h1:∀E:St->XK,(∀σ1 Dx H1,P Dx σ1 H1->E σ1 (.ref Dx) none H1)->tb D E σ H)
  (h2:∀σ1 Dx H1,P Dx σ1 H1->PySem.W.exmOne K (.ref Dx) (.ref C)=some true/\ExcK K Dx/\∀x,H1 x=none->ts x Dx none ⟨fun σ' H'=>D.nx (σ'.set i none) H',D.rt,fun σ' H'=>D.bk (σ'.set i none) H',fun σ' H'=>D.ct (σ'.set i none) H'⟩ (σ1.set i (some (.ref x))) H1):oX K C i tb ts D σ H:=
 h1 _ fun σ1 Dx H1 p=>⟨Dx,rfl,h2 σ1 Dx H1 p⟩
end L2
namespace L2
open PySem PySem.Spec PyProof.Rows
section
variable {X:Cx} {x:Addr} {oe:Obj}
end
end L2
namespace L2
open PySem PySem.Spec PyProof.Rows
section
variable {prog:Program} {w:World} {A:Around} {E:Value->Shared->Prop} {s:Shared} {dd:Option Addr}
theorem zW{it t x:Addr}{i:Nat}{items:Array Value}{Q:Option Value->Shared->Prop}(hh:A.handled=some (.ref x))(hx:bw s.heap x dd)(hxi:x≠it)
  (hit:IsTupIter s.heap it t i) (ht:IsTup s.heap t items) (hi:items[i]?=none) (hQ:∀h',Heap.ExtBut it s.heap h'->Q none { s with heap:=h' }):wpAny (model prog w) A (pyNext (.ref it)) Q E s:=by
 obtain⟨o,ho,hc,hd⟩:=id hit
 obtain⟨ol,hol,_,nl,hdl⟩:=ht
 refine sh ?_
 refine DL (name:=DB "__next__") hit.typeIs slot_tupleiter_next (wpAny_call_entry slot_tupleiter_next hit.typeIs entry_tupleiter_next ?_ (args_tupleiter_next _))
 have n0:¬((Value.ref t == Value.none)=true):=Df
 show wpAny _ _ (field (.ref it) 0 >>= fun q=>_) _ _ s
 refine CH (wpAny_field (x:=.ref t) ho hd rfl ?_)
 show wpAny _ _ (ite ((Value.ref t == Value.none)=true) _ _) _ _ s
 rw[DP n0]
 show wpAny _ _ (field (.ref it) 1 >>= fun q=>_) _ _ s
 refine CH (wpAny_field (x:=.int i 0) ho hd rfl ?_)
 show wpAny _ _ (seqItems? (.ref t) >>= fun q=>_) _ _ s
 refine CH (wpAny_seqItems hol hdl ?_)
 simp only[Dd,hi]
 have S:=Heap.SameBut.update s.heap it (Obj.mapFields (·.setIfInBounds 0 Value.none))
 refine CH (wpAny_rule (CH (wpAny_setField (x:=.none) ho hd (by simp) ?_)))
 have al:bw (s.heap.update it (Obj.mapFields (·.setIfInBounds 0 Value.none))) x dd:=by
  obtain⟨ox,vs,e1,r⟩:=hx
  exact⟨ox,vs,(S.2 x hxi).trans e1,r⟩
 refine rq (A:=A.in1) hh al fun h' e k z=>?_
 obtain⟨oz,z1,z2⟩:=z
 exact⟨e,oz,rfl,z1,z2,hQ h' fun b o' hb eb=>k b o' ((S.2 b hb).trans eb)⟩
theorem yi{t x:Addr}{items:Array Value}{Q:List Value->Shared->Prop}(hh:A.handled=some (.ref x))(hx:bw s.heap x dd)(ht:IsTup s.heap t items)
  (hQ:∀h',Heap.ExtBut s.heap.objs.size s.heap h'->Q items.toList { s with heap:=h' }):wpAny (model prog w) A (unpackItems (.ref t) items.size none) Q E s:=by
 have hlt:t≠s.heap.objs.size:=by obtain⟨o,ho,_⟩:=ht;exact Di (CM ho)
 have hxl:x≠s.heap.objs.size:=by obtain⟨o,_,ho,_⟩:=hx;exact Di (CM ho)
 unfold unpackItems
 refine CH ?_
 unfold notIterableAtAll
 refine CH (wpAny_specialOf ht.typeIs slot_tuple_iter.lookup ?_)
 refine CI ?_
 simp only[DG,if_false]
 refine CH (wpAny_holding (iter_tuple ht ?_))
 refine CH (wpAny_holding (draw_tuple hlt items.size 0 _ _ ⟨_,CL _ rfl,rfl,rfl⟩ (ht.push _) (by omega) fun h1 hit1 hs1=>?_))
 rw[show List.take items.size (List.drop 0 items.toList)=items.toList by rw[List.drop_zero];exact List.take_of_length_le (by simp),DP (by simp)]
 have ht1:IsTup h1 t items:=(ht.push _).extBut hs1.extBut hlt
 have hx1:bw h1 x dd:=by
  obtain⟨ox,vs,e1,r⟩:=hx
  exact⟨ox,vs,(hs1.2 x hxl).trans (CK _ e1),r⟩
 refine CH (wpAny_holding (zW hh hx1 hxl hit1 ht1 (by simp) fun h2 he2=>?_))
 simp only[Option.isSome_none,DG,if_false]
 exact CI (hQ h2 fun b o hb e=>he2 b o hb (hs1.extBut b o hb (CK _ e)))
theorem B0{env:Env}{elts:List Expr}{x1}{pos:Pos}{t x:Addr}{items:Array Value}{Q:Unit->Shared->Prop}(hh:A.handled=some (.ref x))(hx:bw s.heap x dd)(ht:IsTup s.heap t items)
  (hn:(assignEach elts env).length=items.size) (hstar:(assignEach elts env).findIdx? (·.1)=none)
  (h:∀h',Heap.ExtBut s.heap.objs.size s.heap h'->wpAny (model prog w) A (assignInOrder ((assignEach elts env).map (·.2)) items.toList) Q E { s with heap:=h' }) :
  wpAny (model prog w) A (assign (.Tuple elts x1 pos) env (.ref t)) Q E s:=by
 rw[assign_Tuple]
 refine CH (wpAny_standAt ?_)
 unfold unpack
 rw[hn,hstar]
 exact CH (wpAny_holding (yi hh hx ht h))
end
def jm(X:Cx):Prop:=∃x,X.A.handled=some (.ref x)/\∀pins σ H s,Inv X pins σ H s->bw s.heap x none
def Hz(X:Cx)(x:Addr)(oe:Obj)(z:Blk):Prop:=z.s.heap.get? x=some oe/\z.H x=none/\x∉z.fp/\x∉aS X.stack
section
variable {X:Cx} {x:Addr} {oe:Obj}
theorem sA{sc:Scope}{own:List Str}{js:List Nat}{z:Blk}(hal:∃vs,oe.data=.fields vs/\vs[2]?=some .none)(h:Hz (b6 X x oe) x oe z):jm (cK (b6 X x oe) sc own js z):=by
 obtain⟨vs,hd,h2⟩:=hal
 exact⟨x,rfl,fun pins σ H s I=>⟨oe,vs,I.base.keep x oe h.1 h.2.1 h.2.2.2 h.2.2.1,hd,h2,fun _ z=>by cases z⟩⟩
theorem xy{Y:Cx}{es:List Expr}{k:Nat}{t:cL}{n:Nat}{pos:Pos}(K:CJ)(hh:jm Y)(h:fh Y es t)(hK:Y.K=K:=by rfl)
  (hn:(assignEach es Y.env).length=n:=by rfl) (hst:(assignEach es Y.env).findIdx? (·.1)=none:=by rfl):PG Y (.Tuple es k pos) (ji K n t):=by
 subst hK
 intro pins s σ H v u Q I r hw
 obtain⟨a,xs,e1,hq,hl,hw⟩:=hw
 subst e1
 cases r
 obtain⟨x,hx,al⟩:=hh
 obtain⟨its,rv,ht,hz⟩:=I.tuple hq
 refine B0 hx (al _ _ _ _ I) ht (by simp[hn,←hl,rv.length]) hst fun h' hx=>?_
 have I1:Inv Y pins σ H { s with heap:=h' }:=I.kept (t':=s.toks) fun b o e=>hx b o (Di (CM e)) e
 exact h pins _ σ H xs _ Q I1 (by simpa using rv) hw
theorem xB{Y:Cx}{tg:Expr}(hh:jm Y)(a it:Addr)(hit:∀x,Y.A.handled=some (.ref x)->x≠it):TurnAt Y tg (cS Y.K a) [it] it (fun i h=>h.IsListIter it a i) where
 obj:=(jJ (P:=Y.prog) (w:=Y.w) (K:=Y.K) (tg:=tg) a it).obj
 keep:=(jJ (P:=Y.prog) (w:=Y.w) (K:=Y.K) (tg:=tg) a it).keep
 item:=by
  intro i pins s σ H E I hf st hg
  obtain⟨xs,x,hq,hx⟩:=hg
  obtain⟨its,rv,p,hz⟩:=I.list hq
  obtain⟨u,hu,ru⟩:=rv.get hx
  obtain⟨f0,f1,f2,f3,f4,f5⟩:=hf it (by simp)
  refine wpAny_pyNext_list_item st p.isList (x:=u) (by simpa using hu) fun h' st' sb=>?_
  have I1:Inv Y pins σ H { s with heap:=h' }:=I.turned (t':=s.toks) (fun b o hb e=>(sb.2 b hb).trans e) f0 f1 f3 f4 f5
  obtain⟨o,e,c,d⟩:=id st'
  exact⟨u,rfl,hZ (s:={ s with heap:=h' }) e c d (by decide) ⟨x,H,I1,ru,⟨rfl,fun ys hy=>by rw[I.list_inj hy hq];exact hx⟩,st',fun b hb=>(hf b hb).1⟩⟩
 done:=by
  intro i pins s σ H E I hf st hg
  obtain⟨xs,hq,hx⟩:=hg
  obtain⟨its,rv,p,hz⟩:=I.list hq
  obtain⟨f0,f1,f2,f3,f4,f5⟩:=hf it (by simp)
  have hl:=rv.length
  obtain⟨x,hA,al⟩:=hh
  exact Al hA (al _ _ _ _ I) (hit x hA) st p.isList (by simp;omega) fun h' eb=>⟨rfl,I.turned (t':=s.toks) (fun b o hb e=>eb b o hb e) f0 f1 f3 f4 f5⟩
 self:=(jJ (P:=Y.prog) (w:=Y.w) (K:=Y.K) (tg:=tg) a it).self
theorem wa(K:CJ){elt tg iter:Expr}{ifs:List Expr}{sc:Scope}{pos:Pos}(own:List Str)(js:List Nat){ti:TE}{g:TG}{tc:TT}{te:TE}(hal:∃vs,oe.data=.fields vs/\vs[2]?=some .none)(hi:PE (b6 X x oe) iter ti)
  (hg:∀z,jm (cK (b6 X x oe) sc own js z)->PG (cK (b6 X x oe) sc own js z) tg g) (ht:∀z,fg (cK (b6 X x oe) sc own js z) ifs tc)
  (he:∀z,PE (cK (b6 X x oe) sc own js z) elt te) (hK:X.K=K:=by rfl) (hk:sc.kind=.function:=by rfl) (hb:eY sc (b6 X x oe).env.scope=true:=by rfl) (hj:fE sc (b6 X x oe).N js=true:=by rfl)
  (hs:∀y,foldedSetIterable iter (b6 X x oe).env y=pure y:=by intro _;rfl):PE (b6 X x oe) (.ListComp elt [⟨tg,iter,ifs,0⟩] sc pos) (i5 own.length js (jK K ti) g tc te):=by
 subst hK
 intro pins s σ H Q I h
 rw[eval_ListComp]
 refine wpAny_comprehension_free (use:=none) rfl hs (lx fun p hp hf=>I.ok.has p.1 (nA hb hp hf)) hk (fun p hp hl=>zk hb hp hl) (ax (hi pins s σ H _ I h) fun v s1 h1=>?_)
 obtain⟨v1,H1,I1,r1,a,rfl,⟨xs,hq⟩,W,w0,turn⟩:=h1
 cases r1
 obtain⟨its,rv,p,hz⟩:=I1.list hq
 refine wpAny_pyIter_list p.isList ?_
 have I2:Inv (b6 X x oe) pins σ H1 { s1 with heap:=s1.heap.push { cls:=.type "list_iterator",data:=.fields #[.ref a,.int 0 0] } }:=I1.kept (t':=s1.toks) fun b o e=>CK _ e
 have hp:=I1.pin (x,oe) (DE _ CU)
 have hz:∀C,Hz (b6 X x oe) x oe ⟨{ s1 with heap:=s1.heap.push { cls:=.type "list_iterator",data:=.fields #[.ref a,.int 0 0] } },H1,[s1.heap.objs.size],C⟩:=fun C=>by
  refine⟨CK _ hp.1,hp.2.1,fun z=>?_,fun z=>?_⟩
  ·have:x=s1.heap.objs.size:=by simpa using z
   exact absurd (CM hp.1) (by rw[this];exact Nat.lt_irrefl _)
  ·rcases De.mp (I1.stkSub x z)with e | e
   ·exact hp.2.2.1 e
   ·exact hp.2.2.2.1 e
 refine Bh (it:=s1.heap.objs.size) (fp:=[s1.heap.objs.size]) (J:=cS X.K a) (W:=W) (RR:=fun acc C=>compPost (model X.prog X.w) (b6 X x oe).A (b6 X x oe).xe none (EP (b6 X x oe) pins σ Q) acc C) hk hb hj (fun C=>hg _ (sA hal (hz C))) (fun C=>ht _) (fun C=>he _) I2
  (fun C=>xB (sA hal (hz C)) a s1.heap.objs.size fun x' hx'=>by
   cases(show some (Value.ref x)=some (Value.ref x')from hx')
   exact Di (CM hp.1)) ⟨_,CL _ rfl,rfl,rfl⟩ (fun b hb=>?_) w0 turn ?_
 ·have e:b=s1.heap.objs.size:=by simpa using hb
  subst e
  exact I1.fpOk (Dj _) (I1.hok.fresh (Dj _))
 intro D C s' ys H' nD I' hC ⟨m,hm⟩ _ q
 refine⟨m,hm,fun h' hs'=>?_⟩
 obtain⟨f0,f1,f2,f3,f4,f5⟩:=hC
 exact⟨.ref D,_,I'.turned (t':=s'.toks) (it:=C) (fun b o hb' e=>(hs'.2 b hb').trans e) f0 f1 f3 f4 f5,rfl,q⟩
end
end L2
namespace L2
open PySem PySem.Spec PyProof.Rows
section
variable {X:Cx}
def AI(K:CJ):V->List V->Hp->VK->Prop:=fun x vs H Q=>∃sep l zs,x=.str sep/\vs=[.ref l]/\ai K H l (List.map V.str zs)/\(zs.map (·.length)).sum+zs.length*sep.length<=1000000/\Q (.str (Txt.join sep zs)) H
theorem gM(K:CJ)(hK:X.K=K:=by rfl):gE X "str.join" (AI K):=by
 subst hK
 intro pins s σ H x vs v us Q I rx rv h
 obtain⟨sep,l,zs,rfl,rfl,hl,hz,q⟩:=h
 obtain⟨t,rfl⟩:=rx
 obtain⟨u,rfl,ru⟩:=vals1 rv
 cases ru
 obtain⟨its,r,pl,hsz⟩:=I.list hl
 exact PyProof.Rows.join_list pl.isList (by simpa using jL r) (Dv hz (by decide)) fun t' k=>⟨.str _,H,I.tok _,⟨_,rfl⟩,q⟩
end
end L2
namespace L2
open PySem PySem.Spec PyProof.Rows
section
variable {prog:Program} {w:World} {A:Around} {E:Value->Shared->Prop} {K:CJ} {x D:Addr} {ox:Obj} {h:Heap} {g:Array GenState} {dr:Drawn} {t:Nat} {os:OsState}
variable {nm q:Str} {N:Addr} {bs bm bmB:List Value} {sn:List Str} {sub:List Value} {ab:Bool} {col:Option Bool} {dd:Option Addr} {k0 k1 k2 k3 k5:Option Value} {newId:String} {name:Str} {v:Value}
end
section
variable {prog:Program} {w:World} {A:Around} {E:Value->Shared->Prop} {h:Heap} {g:Array GenState} {d:Drawn} {t:Nat} {os:OsState}
variable {nm q:Str} {C N:Addr} {bs bm bmB:List Value} {hdct:Bool} {sn:List Str} {sub:List Value} {ab:Bool} {col:Option Bool} {dd:Option Addr} {k0 k1 k2 k3 k5:Option Value} {B newId initId:String} {K:CJ}
end
section
variable {P:Program} {w:World} {A:Around} {E:Value->Shared->Prop} {K:CJ} {s:Shared} {e C:Addr} {oe:Obj} {v:Value}
end
section
variable {M:Model} {A:Around} {E:Value->Shared->Prop} {env:Env} {nm q:Str} {C N:Addr} {bs bm bmB:List Value} {hdct:Bool} {sn:List Str} {sub:List Value} {ab:Bool} {col:Option Bool} {dd:Option Addr} {k0 k1 k2 k3 k5:Option Value} {newId:String}
end
section
variable {prog:Program} {w:World} {A:Around} {E:Value->Shared->Prop} {s:Shared} {env:Env} {K:CJ} {nm q:Str} {C N:Addr} {bs bm bmB:List Value} {hdct:Bool} {sn:List Str} {sub:List Value} {ab:Bool} {col:Option Bool} {dd:Option Addr} {k0 k1 k2 k3 k5:Option Value} {B newId initId:String}
end
section
variable {P:Program} {w:World} {K:CJ} {mg:Str->Option Value} {base:Heap} {N:List Str} {qual:Str} {scope:Scope} {f:Addr} {cd:Value} {A:Around} {outer:List Env} {s₀:Shared} {H₀:Hp} {E:XK}
end
end L2
namespace L2
open PySem PySem.Spec PyProof.Rows
section
variable {P:Program} {w:World} {K:CJ} {mg:Str->Option Value} {base:Heap}
end
section
variable {Y:Cx} {x:Addr} {oe:Obj}
end
end L2
namespace L2
open PySem PySem.Spec PyProof.Rows
section
variable {prog:Program} {w:World} {A:Around} {E:Value->Shared->Prop} {K:CJ} {x D:Addr} {ox:Obj} {od:Option Obj} {name:Str} {v:Value}
end
section
variable {X:Cx} {x D:Addr} {oe:Obj} {da:Option Addr}
end
end L2
namespace L2
open PySem PySem.Spec PyProof.Rows
section
variable {P:Program} {w:World} {A:Around} {E:Value->Shared->Prop} {s:Shared}
theorem qd(k:Int)(tk:Tok):(PySem.intKind P w).is k (.int k tk)=true:=by
 show Value.isInt k (.int k tk)=true
 simp[Value.isInt]
end
theorem oI:∀{vs:List Value} {zs:List Int},IntsAre vs zs->∀(i:Nat) (v:Value),vs[i]?=some v->∃z t,v=.int z t/\zs[i]?=some z
 | _,_,.nil,i,v,h=>by simp at h
 | _,_,.cons z t _,0,v,h=>by cases h;exact⟨z,t,rfl,rfl⟩
 | _,_,.cons z t r,i+1,v,h=>oI r i v h
theorem w8{D ds:List Int}(hd:D.Nodup)(hs:∀k∈D,k∈ds)(hl:ds.length=D.length):ds.Perm D:=by
 induction D generalizing ds with
 | nil=>
  rw[List.length_nil,List.length_eq_zero_iff]at hl
  subst hl
  exact .refl _
 | cons d D ih=>
  have hm:=hs d CU
  have p1:=List.perm_cons_erase hm
  have hd':=List.nodup_cons.mp hd
  refine p1.trans ((ih hd'.2 (fun k hk=>?_) ?_).cons d)
  ·refine(List.mem_erase_of_ne ?_).mpr (hs k (CQ _ hk))
   rintro rfl
   exact hd'.1 hk
  ·rw[List.length_erase_of_mem hm,hl]
   rfl
section
variable {P:Program} {w:World} {A:Around} {E:Value->Shared->Prop} {s:Shared}
theorem vf:∀{l:List (Int×Value)},ElemsOf (PySem.intKind P w) l->∃ds,IntsAre (l.map (·.2)) ds/\∀e∈l,∀k,(PySem.intKind P w).is k e.2=true->k∈ds
 | [],_=>⟨[],.nil,fun e he=>by cases he⟩
 | e::l,h=>by
  obtain⟨ds,h1,h2⟩:=vf (l:=l) fun x hx=>h x (CQ _ hx)
  obtain⟨⟨k,hk,_⟩,_⟩:=h e CU
  obtain⟨t,ht⟩:=Value.isInt_shape (k:=k) hk
  refine⟨k::ds,?_,fun x hx k' hk'=>?_⟩
  ·rw[List.map_cons,ht]
   exact .cons k t h1
  ·rcases De.mp hx with rfl | hx
   ·rw[ht]at hk'
    obtain⟨u,hu⟩:=Value.isInt_shape (k:=k') (v:=.int k t) hk'
    cases hu
    exact CU
   ·exact CQ _ (h2 x hx k' hk')
end
end L2
namespace L2
open PySem PySem.Spec PyProof.Rows
section
variable {P:Program} {w:World} {A:Around} {E:Value->Shared->Prop} {s:Shared}
end
theorem ve:∀{us:List Value} {zs:List Int},IntsAre us zs->Vals (zs.map V.int) us
 | _,_,.nil=>.nil
 | _,_,.cons z t r=>.cons ⟨t,rfl⟩ (ve r)
section
variable {X:Cx}
end
end L2
namespace L2
open PySem PySem.Spec PyProof.Rows
section
variable {prog:Program} {w:World} {A:Around} {E:Value->Shared->Prop} {s:Shared}
theorem ym{Q:List Value->Shared->Prop}{r:Addr}{a b c:Int}{t u v:Tok}{n:Nat}(hh:A.handled=none)(hr:IsRange s.heap r a b c t u v)(hsmall:Builtin.Range.small a b c=true)(hn:Builtin.Range.rangeSize a b c=n)(hlen:n<=2 ^ 24)
  (hQ:∀(s':Shared) (acc:Array Value),(∀b o,s.heap.get? b=some o->s'.heap.get? b=some o)->s'.gens=s.gens->s'.drawn=s.drawn->s'.os=s.os->ItemsOf (fun i v=>∃t,v=.int (a+i*c) t) acc n->Q acc.toList s') :
  wpAny (model prog w) A (collect (.ref r)) Q E s:=by
 unfold collect
 refine CH (wpAny_runValue (codeAny_builtin F.entry_proto_collect ?_))
 rw[Around.under_plainId F.plain_proto_collect _]
 show wpAny _ A.in1 (newList [] >>= fun l=>again (.builtin "list.__iadd__" ⟨[l,.ref r],[]⟩)) _ _ s
 refine CH (wpAny_newObj_type ?_)
 refine CI ⟨plainId_quiet F.plain_list_iadd _,codeAny_builtin F.entry_list_iadd ?_⟩
 rw[Around.under_plainId F.plain_list_iadd _]
 show wpAny _ A.in1 (Builtin.List.listExtendWith (.ref s.heap.objs.size) (.ref r) (.ref s.heap.objs.size)) _ _ _
 have hS:(s.heap.push { cls:=.type "list",data:=.seq ([]:List Value).toArray }).get? s.heap.objs.size=some { cls:=.type "list",data:=.seq #[] 0 }:=CL _ rfl
 have hlt:∀b o,s.heap.get? b=some o->b≠s.heap.objs.size:=fun b o e=>Di (CM e)
 have fin':∀(h':Heap) (tk:Nat) (acc':Array Value) (c':Nat),(∀b o,s.heap.get? b=some o->h'.get? b=some o)->h'.get? s.heap.objs.size=some { cls:=.type "list",dict:=none,data:=.seq acc' c',slots:=#[] }->ItemsOf (fun i v=>∃t,v=.int (a+i*c) t) acc' n->wpAny (model prog w) A (match Value.ref s.heap.objs.size with
   | Value.ref a=>do
    match (←load a).data with
     | Data.seq xs _=>pure xs.toList
     | _=>unsupported "internal:collect"
   | _=>unsupported "internal:collect") Q E { s with heap:=h',toks:=tk }:=by
  intro h' tk acc' c' hk hS' hacc
  show wpAny _ A (load s.heap.objs.size >>= _) _ _ _
  refine CH (wpAny_load hS' ?_)
  exact CI (hQ { s with heap:=h',toks:=tk } acc' hk rfl rfl rfl hacc)
 refine wpAny_mono (wpAny_extend_range (A:=A) (R:=fun res s'=>∃(h':Heap) (tk:Nat) (acc':Array Value) (c':Nat),res=.ok (.ret (.ref s.heap.objs.size))/\s'={ s with heap:=h',toks:=tk }/\(∀b o,s.heap.get? b=some o->h'.get? b=some o)/\h'.get? s.heap.objs.size=some { cls:=.type "list",dict:=none,data:=.seq acc' c',slots:=#[] }/\ItemsOf (fun i v=>∃t,v=.int (a+i*c) t) acc' n)
  (s:={ s with heap:=s.heap.push { cls:=.type "list",data:=.seq ([]:List Value).toArray } }) hh (CK _ hr) hsmall hn hlen s.heap.objs.size (.ref s.heap.objs.size) 0 hS fun h' tk acc' c' hk hS' hacc=>⟨h',tk,acc',c',rfl,rfl,fun b o e=>hk b o (hlt b o e) (CK _ e),hS',hacc⟩) (fun fin s' h=>?_) (fun e s' h=>?_)
 ·cases fin with
  | done f=>
   obtain⟨h',tk,acc',c',e,rfl,hk,hS',hacc⟩:=h
   cases e
   exact fin' h' tk acc' c' hk hS' hacc
  | again c'=>exact⟨h.1,codeAny_mono h.2 fun r s'' hr=>by
    obtain⟨h',tk,acc',c'',rfl,rfl,hk,hS',hacc⟩:=hr
    exact fin' h' tk acc' c'' hk hS' hacc⟩
 ·obtain⟨_,_,_,_,e,_⟩:=h
  cases e
end
theorem AK(r:Addr)(a b c:Int)(t u v:Tok)(n:Nat)(hsmall:Builtin.Range.small a b c=true)(hn:Builtin.Range.rangeSize a b c=n)(hlen:n<=2 ^ 24):
  Meets (Builtin.«tuple.__new__» ⟨[.type "tuple",.ref r],[]⟩)
   (fun A R s=>A.handled=none/\IsRange s.heap r a b c t u v/\∀(s':Shared) (acc:Array Value),(∀b o,s.heap.get? b=some o->s'.heap.get? b=some o)->s'.gens=s.gens->s'.drawn=s.drawn->s'.os=s.os->ItemsOf (fun i v=>∃t,v=.int (a+i*c) t) acc n →
    R (.ok (.ret (.ref s'.heap.objs.size))) { s' with heap:=s'.heap.push { cls:=.type "tuple",data:=.seq acc } }):=
 .of_wp fun prog w A R s h=>by
  obtain⟨hh,hr,h⟩:=h
  have hsub:=sub_tuple_self
  have hinit:=init_tuple_lookup
  have hmh:=madeHere_tuple
  have hT:s.TypeIs (.ref r) "range":=⟨_,hr,rfl⟩
  have hh1:A.in1.handled=none:=hh
  wp_walk using AutoSeq1.wpAny_loadPart' hr,wpAny_typeOf hT,ym hh1 hr hsmall hn hlen
  intro s' acc hk hg hd hos hacc
  show wpAny _ _ (Builtin.Tuple.tupleExact acc.toList.toArray >>= fun v=>ret v) _ _ _
  unfold Builtin.Tuple.tupleExact
  refine CH (wpAny_newObj_type ?_ (show acc.toList.toArray.size<=sizeLine by simp only[Array.toArray_toList];rw[hacc.1,sizeLine_eq];omega))
  refine CI ⟨_,rfl,?_⟩
  have e:acc.toList.toArray=acc:=by simp
  rw[e]
  exact h s' acc hk hg hd hos hacc
section
variable {prog:Program} {w:World} {A:Around} {E:Value->Shared->Prop} {s:Shared}
theorem CA{Q:Value->Shared->Prop}{r:Addr}{a b c:Int}{t u v:Tok}{n:Nat}(hh:A.handled=none)(hr:IsRange s.heap r a b c t u v)(hsmall:Builtin.Range.small a b c=true)(hn:Builtin.Range.rangeSize a b c=n)(hlen:n<=2 ^ 24)
  (h:∀(h':Heap) (tk:Nat) (acc:Array Value),(∀b o,s.heap.get? b=some o->h'.get? b=some o)->ItemsOf (fun i v=>∃t,v=.int (a+i*c) t) acc n->Q (.ref h'.objs.size) { s with heap:=h'.push { cls:=.type "tuple",data:=.seq acc },toks:=tk }) :
  wpAny (model prog w) A (call (.type "tuple") [.ref r]) Q E s:=by
 refine callType_new F.called_tuple (by decide) (F.typeCall_tuple_1 _) (F.newCall_tuple_1 _) (fun obj=>F.args_object_init_2 obj _) F.entry_tuple_new
  (AK r a b c t u v n hsmall hn hlen) ⟨hh,hr,fun s' acc hk hg hd hos hacc=>⟨⟨_,CL _ rfl,rfl⟩,?_⟩⟩
 obtain⟨h',g',d',tk',os'⟩:=s'
 have e1:g'=s.gens:=hg
 have e2:d'=s.drawn:=hd
 have e3:os'=s.os:=hos
 subst e1 e2 e3
 exact h h' tk' acc hk hacc
end
theorem tm{α β:Type}{R:α->β->Prop}:∀{xs:List α} {ys:List β},xs.length=ys.length->(∀(i:Nat) x y,xs[i]?=some x->ys[i]?=some y->R x y)->Paired R xs ys
 | [],[],_,_=>.nil
 | x::xs,y::ys,hl,h=>.cons (h 0 x y rfl rfl) (tm (by simpa using hl) fun i a b ha hb=>h (i+1) a b (by simpa using ha) (by simpa using hb))
section
variable {X:Cx}
end
end L2
namespace L2
open PySem PySem.Spec PyProof.Rows
theorem i8{x:Str}{c:Addr}:∀(names:List (Str×NameKind)) (n:Nat) (acc:List (Str×Addr)),(cellsFrom n names acc).lookup x=some c->acc.lookup x=some c\/(n<=c/\(x,NameKind.cell)∈names)
 | [],_,_,h=>.inl h
 | (y,k)::r,n,acc,h=>by
  unfold cellsFrom at h
  by_cases hk:(k == NameKind.cell)=true
  ·rw[DQ hk]at h
   have hk':k=.cell:=by simpa using hk
   subst hk'
   rcases i8 r (n+1) ((y,n)::acc) h with h | ⟨h1,h2⟩
   ·rw[DI]at h
    cases hb:x == y with
    | true=>
     rw[hb]at h
     cases h
     rw[beq_iff_eq.mp hb]
     exact .inr ⟨Dj _,CU⟩
    | false=>rw[hb]at h;exact .inl h
   ·exact .inr ⟨Nat.le_of_succ_le h1,CQ _ h2⟩
  ·rw[DP hk]at h
   rcases i8 r n acc h with h | ⟨h1,h2⟩
   ·exact .inl h
   ·exact .inr ⟨h1,CQ _ h2⟩
theorem nB{x y:Str}{c:Addr}:∀(names:List (Str×NameKind)) (n:Nat) (acc:List (Str×Addr)),(∀x c,acc.lookup x=some c->@LT.lt Nat _ c n)->(∀x y c,acc.lookup x=some c->acc.lookup y=some c->x=y)->(cellsFrom n names acc).lookup x=some c->(cellsFrom n names acc).lookup y=some c->x=y
 | [],_,_,_,hi,h1,h2=>hi _ _ _ h1 h2
 | (z,k)::r,n,acc,hb,hi,h1,h2=>by
  unfold cellsFrom at h1 h2
  by_cases hk:(k == NameKind.cell)=true
  ·rw[DQ hk]at h1 h2
   refine nB r (n+1) ((z,n)::acc) (fun x c h=>?_) (fun x y c h1 h2=>?_) h1 h2
   ·rw[DI]at h
    cases e:x == z with
    | true=>rw[e]at h;cases h;exact Nat.lt_succ_self _
    | false=>rw[e]at h;exact Nat.lt_succ_of_lt (hb x c h)
   ·rw[DI]at h1 h2
    cases e1:x == z with
    | true=>
     rw[e1]at h1
     cases h1
     cases e2:y == z with
     | true=>rw[beq_iff_eq.mp e1,beq_iff_eq.mp e2]
     | false=>rw[e2]at h2;exact absurd (hb _ _ h2) (Nat.lt_irrefl _)
    | false=>
     rw[e1]at h1
     cases e2:y == z with
     | true=>rw[e2]at h2;cases h2;exact absurd (hb _ _ h1) (Nat.lt_irrefl _)
     | false=>rw[e2]at h2;exact hi _ _ _ h1 h2
  ·rw[DP hk]at h1 h2
   exact nB r n acc hb hi h1 h2
theorem mO{x:Str}{c:Addr}:∀(names:List (Str×NameKind)) (h:Heap) (acc:List (Str×Addr)),(cellsFrom h.objs.size names acc).lookup x=some c->acc.lookup x=some c\/(pushCells h names).IsCell c none
 | [],_,_,e=>.inl e
 | (y,k)::r,h,acc,e=>by
  unfold cellsFrom at e
  unfold pushCells
  by_cases hk:(k == NameKind.cell)=true
  ·rw[DQ hk]at e ⊢
   rw[←Heap.size_push h { cls:=.type "cell",data:=.cell none }]at e
   rcases mO r (h.push { cls:=.type "cell",data:=.cell none }) ((y,h.objs.size)::acc) e with e | e
   ·rw[DI]at e
    cases hb:x == y with
    | true=>
     rw[hb]at e
     cases e
     exact .inr ⟨_,pushCells_keeps _ _ _ _ (CL _ rfl),rfl⟩
    | false=>rw[hb]at e;exact .inl e
   ·exact .inr e
  ·rw[DP hk]at e ⊢
   exact mO r h acc e
section
variable {M:Model} {A:Around} {E:Value->Shared->Prop} {s:Shared}
theorem Bz{scope:Scope}{globals:Addr}{closure:List (Str×Addr)}{qual:Str}{func:Option Addr}{code:Value}{outer:Env}{builtins:Addr}{Q:Env->Shared->Prop}
  (hQ:Q (newEnv scope s.heap.objs.size globals (cellsFrom (s.heap.objs.size+1) scope.names closure) qual func code (some outer) builtins) { s with heap:=pushCells (s.heap.push { cls:=.type "dict",data:=.dict #[] }) scope.names }) :
  wpAny M A (newFunctionEnv scope globals closure [] qual func code (some outer) builtins) Q E s:=by
 simp only[newFunctionEnv,Option.isSome_some,if_true]
 refine CH (wpAny_alloc ?_)
 refine CH (wpAny_layCells _ (fun name kind cells=>by cases hkc:kind == NameKind.cell<;>simp[hkc]) _ _ _ _ ?_)
 rw[show ({ s with heap:=s.heap.push { cls:=.type "dict",data:=.dict #[] } }:Shared).heap.objs.size=s.heap.objs.size+1 from Heap.size_push ..]
 refine CH ?_
 rw[List.forIn_nil]
 exact CI (CI hQ)
end
def fq(X:Cx)(sc:Scope)(C:Addr):List (Str×Addr):=cellsFrom (Nat.succ C) sc.names (cV sc.names X.env.cells)
def cj(X:Cx)(sc:Scope)(own:List Str)(js:List Nat)(z:Blk):Cx where
 prog:=X.prog
 w:=X.w
 K:=X.K
 mg:=X.mg
 base:=X.base
 A:=X.A
 N:=own++js.map fun j=>X.N.getD j ""
 s₀:=z.s
 H₀:=z.H
 env:=compEnvC sc (fq X sc z.C) z.C X.env
 outer:=X.stack
 stack:=X.stack
 ex:=z.fp
 fn:=fun x=>sc.names.lookup x == some .cell
 calm:=X.calm
 pn:=[]
 xe:=fun _ _=>False
def dB(sc out:Scope):Bool:=sc.names.all fun p=>(p.2 != .cell || sc.names.lookup p.1 == some .cell) && (p.2 != .local || sc.names.lookup p.1 == some .local) && (p.2 != .free || out.names.lookup p.1 == some .cell || out.names.lookup p.1 == some .free) && (p.2 != .free || sc.names.lookup p.1 == some .free)
theorem j7{sc out:Scope}(h:dB sc out=true){p:Str×NameKind}(hp:p∈sc.names)(hf:p.2=.free):out.names.lookup p.1=some .cell\/out.names.lookup p.1=some .free:=by
 have:=Dy.mp h p hp
 simp[hf]at this
 exact this.1
theorem zN{sc out:Scope}(h:dB sc out=true){x:Str}(hp:(x,NameKind.free)∈sc.names)(h2:sc.names.lookup x=some .cell):False:=by
 have:=Dy.mp h _ hp
 simp[h2]at this
theorem vH{sc out:Scope}(h:dB sc out=true){p:Str×NameKind}(hp:p∈sc.names)(hf:p.2=.cell):sc.names.lookup p.1=some .cell:=by
 have:=Dy.mp h p hp
 simp[hf]at this
 exact this
theorem um{sc out:Scope}(h:dB sc out=true){p:Str×NameKind}(hp:p∈sc.names)(hf:p.2=.local):sc.names.lookup p.1=some .local:=by
 have:=Dy.mp h p hp
 simp[hf]at this
 exact this
section
variable {X:Cx} {pins:List (Addr×Obj)} {σ:St} {H:Hp} {s:Shared}
theorem ix(ok:X.Ok){sc:Scope}(hb:dB sc X.env.scope=true){x:Str}{c:Addr}(h:(cV sc.names X.env.cells).lookup x=some c):X.env.cells.lookup x=some c:=by
 rcases jC X.env.cells sc.names [] x c h with⟨h1,h2⟩ | h1
 ·obtain⟨d,hd⟩:=ok.has x (j7 hb h1 rfl)
  rw[hd]at h2 ⊢
  rw[h2]
  rfl
 ·simp at h1
theorem gU(ok:X.Ok){sc:Scope}(hb:dB sc X.env.scope=true){C:Addr}{x:Str}{c:Addr}(h:(fq X sc C).lookup x=some c):X.env.cells.lookup x=some c\/(@LT.lt Nat _ C c/\sc.names.lookup x=some .cell):=by
 rcases i8 _ _ _ h with h | ⟨h1,h2⟩
 ·exact .inl (ix ok hb h)
 ·exact .inr ⟨h1,vH hb h2 rfl⟩
theorem ly{sc:Scope}{x:Str}{C:Addr}(h:(x,NameKind.free)∈sc.names):∃c,(fq X sc C).lookup x=some c:=by
 obtain⟨c,hc⟩:=jz (cells:=X.env.cells) h
 exact Option.isSome_iff_exists.mp (PySem.W.cellsFrom_some sc.names _ _ (.inr (by rw[hc];rfl)))
theorem vL(I:Inv X pins σ H s){sc:Scope}(hb:dB sc X.env.scope=true){x:Str}{c:Addr}(h:(cV sc.names X.env.cells).lookup x=some c):@LT.lt Nat _ c s.heap.objs.size:=I.cell_lt (ix I.ok hb h)
theorem Ck(I:Inv X pins σ H s){sc:Scope}{own:List Str}{js:List Nat}{fp:List Addr}{C:Nat}(hk:sc.kind=.function)(hb:dB sc X.env.scope=true)
  (hfp:∀b∈fp,bO X pins H b) (hC:s.heap.objs.size<=C) (hlt:∀b∈fp,b<s.heap.objs.size):(cj X sc own js ⟨s,H,fp,C⟩).Ok where
 mod:=I.ok.mod
 kind:=hk
 glob:=I.ok.glob
 blt:=I.ok.blt
 above:=hC
 inj:=fun x y c h1 h2=>nB sc.names _ _ (fun x c e=>Nat.lt_succ_of_le (Dv (Nat.le_of_lt (vL I hb e)) hC)) (fun x y c e1 e2=>I.ok.inj x y c (ix I.ok hb e1) (ix I.ok hb e2)) h1 h2
 has:=fun x hx=>by
  have hx':(relabel sc X.env).names.lookup x=some .cell\/(relabel sc X.env).names.lookup x=some .free:=hx
  have go:∀k,(relabel sc X.env).names.lookup x=some k->(k=.cell\/k=.free)->∃c,(fq X sc C).lookup x=some c:=fun k h hkk=>by
   obtain⟨k',h1,h2⟩:=fP (sc:=sc) (env:=X.env) h
   have m:=j1 h1
   rcases h2 with h2 | ⟨h2,_⟩
   ·subst h2
    rcases hkk with e | e
    ·rw[e]at h1;exact Option.isSome_iff_exists.mp (PySem.W.cellsFrom_some sc.names _ _ (.inl h1))
    ·rw[e]at m;exact ly m
   ·rw[h2]at m;exact ly m
  rcases hx' with h | h
  ·exact go _ h (.inl rfl)
  ·exact go _ h (.inr rfl)
 cab:=fun x c h e=>by
  have hx:sc.names.lookup x=some .cell:=by simpa[cj]using h
  have e':(fq X sc C).lookup x=some c:=e
  rcases i8 _ _ _ e' with e1 | ⟨e1,_⟩
  ·rcases jC X.env.cells sc.names [] x c e1 with⟨h1,_⟩ | h1
   ·exact(zN hb h1 hx).elim
   ·simp at h1
  ·exact Dv hC (Nat.le_of_succ_le e1)
 hd:=I.ok.hd
 frames:=I.ok.frames
 stk:=.inl rfl
 exf:=fun b hb'=>⟨Di (Du (hlt b hb') hC),fun x c e=>by
  rcases gU I.ok hb (C:=C) e with e | ⟨e,_⟩
  ·exact(hfp b hb').2.2.2.2.1 x c e
  ·exact Nat.ne_of_gt (Nat.lt_trans (Du (hlt b hb') hC) e)⟩
 bs:=I.bs
 bsz:=Dv I.ok.bsz I.sz
 noex:=fun b o e hb'=>by
  rcases(hfp b hb').2.2.2.1 with z | z
  ·exact I.ok.noex b o e z
  ·exact absurd (Du (CM e) (Dv I.ok.bsz z)) (Nat.lt_irrefl _)
 exfs:=fun b hb' hm=>by
  rcases De.mp (I.stkSub b hm)with e | h
  ·exact(hfp b hb').2.1 e
  ·exact(hfp b hb').2.2.1 h
 funs:=I.stack
 frf:=I.stkFree
theorem xf(I:Inv X pins σ H s){sc:Scope}{own:List Str}{js:List Nat}{fp:List Addr}{C D:Nat}{h1:Heap}{tk:Nat}{o:Obj}{m:Str->Option Value}(hk:sc.kind=.function)(hb:dB sc X.env.scope=true)(hj:fE sc X.N js=true)
  (hfp:∀b∈fp,bO X pins H b) (hlt:∀b∈fp,b<s.heap.objs.size) (hD:D=s.heap.objs.size) (hC:C=s.heap.objs.size+1) (old:∀b o,s.heap.get? b=some o->h1.get? b=some o)
  (hDo:h1.get? D=some o) (hod:∀v,o.data≠.cell v) (hm:h1.Ns C m) (hcl:∀x c,(fq X sc C).lookup x=some c->(cV sc.names X.env.cells).lookup x=some c\/h1.IsCell c none) :
  Inv (cj X sc own js ⟨s,H,fp,C⟩) [(D,o)] (bT own.length js σ) H { s with heap:=h1,toks:=tk } where
 ok:=Ck I hk hb hfp (show @LE.le Nat _ s.heap.objs.size C by omega) hlt
 os:=rfl
 bare:=I.bare
 base:=Un.kept old
 loc:=by
  refine⟨m,hm,fun i x v e1 e2 e3=>?_⟩
  obtain⟨k,j,rfl,ej,es⟩:=jA e2
  have e1':(own++js.map fun j=>X.N.getD j "")[own.length+k]?=some x:=e1
  rw[Dn (by omega),Nat.add_sub_cancel_left,CP,ej]at e1'
  have ex:X.N.getD j "" = x:=by simpa using e1'
  have hjj:=Dy.mp hj j (CY ej)
  simp only[DA,decide_eq_true_eq,beq_iff_eq]at hjj
  have exN:X.N[j]?=some x:=by
   rw[←ex,List.getD_eq_getElem?_getD,CO hjj.1]
   rfl
  have hfree:sc.names.lookup x=some .free:=by rw[←ex];exact hjj.2
  have hmem:=j1 hfree
  have hout:=j7 hb hmem rfl
  obtain⟨m0,hn0,hl0⟩:=I.loc
  obtain⟨u,r,l⟩:=hl0 j x v exN es (by rcases hout with z | z;exact .inr (.inl z);exact .inr (.inr z))
  refine⟨u,r,?_⟩
  obtain⟨c,hc⟩:=ly (X:=X) (C:=C) hmem
  have hc':X.env.cells.lookup x=some c:=by
   rcases gU I.ok hb hc with e | ⟨_,e⟩
   ·exact e
   ·rw[hfree]at e;cases e
  have hcell:s.heap.IsCell c (some u):=by
   rcases l with⟨z,_⟩ | ⟨_,c',e',q⟩
   ·have z':X.env.scope.names.lookup x=some .local:=z
    rcases hout with w | w<;>(rw[z']at w;cases w)
   ·rw[hc']at e';cases e';exact q
  have hcell1:h1.IsCell c (some u):=by
   obtain⟨oc,ho,hd⟩:=hcell
   exact⟨oc,old c oc ho,hd⟩
  right
  refine⟨?_,c,hc,hcell1⟩
  have e3':(relabel sc X.env).names.lookup x=some .local\/(relabel sc X.env).names.lookup x=some .cell\/(relabel sc X.env).names.lookup x=some .free:=e3
  rcases e3' with z | z
  ·obtain⟨k',z1,z2⟩:=fP (sc:=sc) (env:=X.env) z
   rw[hfree]at z1
   rcases z2 with z2 | ⟨_,z2⟩
   ·rw[z2]at z1;cases z1
   ·cases z2
  ·exact z
 cell:=fun x c e=>by
  rcases hcl x c e with e | e
  ·obtain⟨v,oc,ho,hd⟩:=I.cell x c (ix I.ok hb e)
   exact⟨v,oc,old c oc ho,hd⟩
  ·exact⟨none,e⟩
 free:=I.hok.fresh (show @LE.le Nat _ s.heap.objs.size C by omega)
 freeC:=fun x c e=>by
  rcases gU I.ok hb (C:=C) e with e | ⟨e,_⟩
  ·exact I.freeC x c e
  ·exact I.hok.fresh (show @LE.le Nat _ s.heap.objs.size c by omega)
 pin:=fun p hp=>by
  have e:p=(D,o):=by simpa[cj]using hp
  subst e
  refine⟨hDo,I.hok.fresh (show @LE.le Nat _ s.heap.objs.size D by omega),?_,fun z=>?_,hod⟩
  ·exact Di (show @LT.lt Nat _ D C by omega)
  ·have h9:@LT.lt Nat _ D s.heap.objs.size:=I.stk_lt (b:=D) z
   omega
 hok:=I.hok.kept old
 len:=by
  show(bT own.length js σ).length=(own++js.map fun j=>X.N.getD j "").length
  simp[bT]
theorem sR{elt tg iter:Expr}{ifs:List Expr}{sc:Scope}{pos:Pos}{own:List Str}{js:List Nat}{g:TG}{tc:TT}{te:TE}{J:It}{it:Addr}{fp:List Addr}{tn:Nat->Heap->Prop}{RR:Value->Addr->Result->Shared->Prop}{E:Value->Shared->Prop}
  {Q:VK} {W:Nat->Nat->List V->Hp->Prop} (hk:sc.kind=.function) (hb:dB sc X.env.scope=true) (hj:fE sc X.N js=true)
  (hg:∀C,PG (cj X sc own js ⟨s,H,fp,C⟩) tg g) (ht:∀C,fg (cj X sc own js ⟨s,H,fp,C⟩) ifs tc) (he:∀C,PE (cj X sc own js ⟨s,H,fp,C⟩) elt te)
  (I:Inv X pins σ H s) (T:∀C,TurnAt (cj X sc own js ⟨s,H,fp,C⟩) tg J fp it tn) (st:tn 0 s.heap) (hfp:∀b∈fp,bO X pins H b) (w0:∃m,W 0 m [] H)
  (turn:∀i m ys H',W i m ys H'->(J.stop i H'/\∀p,H' p=none->Q (.ref p) (upd H' p (.lst ys))) ∨
   (J.go i H'/\ys.length<sizeLine/\∃N:List V->Hp->Prop,(∀ys' H2,N ys' H2->∃m',m'<m/\W (i+1) m' ys' H2)/\∀x H2,J.yld i H' x H2->g x (bT own.length js σ) H2 fun σ2 H3=>tc σ2 H3 fun b H4=>
    if b=true then te σ2 H4 fun v H5=>N (ys++[v]) H5 else N ys H4))
  (fin:∀D C s' ys H',H' D=none->Inv X pins σ (upd H' D (.lst ys)) s'->bO X pins (upd H' D (.lst ys)) C->(∃m,s'.heap.Ns C m)->s.heap.objs.size<=C->Q (.ref D) (upd H' D (.lst ys))->RR (.ref D) C (.ok .next) s') :
  wpAny (model X.prog X.w) X.A (newList []) (fun acc s₃=>wpAny (model X.prog X.w) X.A (newFunctionEnv sc X.env.globals (cV sc.names X.env.cells) [] X.env.qual none .none (some X.env)) (fun cenv s₄=>
   codeAny (model X.prog X.w) X.A (.compStart (.ListComp elt [⟨tg,iter,ifs,0⟩] sc pos) 0 (.ref it) acc { cenv with scope:=relabel sc X.env }) (RR acc cenv.locals) s₄) E s₃) E s:=by
 have hlt:∀b∈fp,b<s.heap.objs.size:=fun b hb'=>by
  obtain⟨o,e,_⟩:=(T 0).obj 0 s.heap st b hb'
  exact CM e
 refine wpAny_newObj_type (Bz ?_)
 dsimp only
 generalize hH2:s.heap.push { cls:=.type "list",dict:=none,data:=.seq ([]:List Value).toArray }=H2 at *
 have hCs:H2.objs.size=s.heap.objs.size+1:=by rw[←hH2,Heap.size_push]
 have hns₁:(pushCells (H2.push { cls:=.type "dict",data:=.dict #[] }) sc.names).Ns H2.objs.size (fun _=>none):=(Heap.Ns.new H2 (.type "dict")).keeps (pushCells_keeps _ _)
 have hcl₁:∀x c,(fq X sc H2.objs.size).lookup x=some c->(cV sc.names X.env.cells).lookup x=some c\/(pushCells (H2.push { cls:=.type "dict",data:=.dict #[] }) sc.names).IsCell c none:=fun x c e=>by
  have e':(cellsFrom (H2.objs.size+1) sc.names (cV sc.names X.env.cells)).lookup x=some c:=e
  rw[←Heap.size_push H2 { cls:=.type "dict",data:=.dict #[] }]at e'
  exact mO _ _ _ e'
 have old:∀b o,s.heap.get? b=some o->(pushCells (H2.push { cls:=.type "dict",data:=.dict #[] }) sc.names).get? b=some o:=fun b o e=>pushCells_keeps _ _ b o (CK _ (hH2 ▸ CK _ e))
 have hDo:(pushCells (H2.push { cls:=.type "dict",data:=.dict #[] }) sc.names).get? s.heap.objs.size=some (bS [] 0):=pushCells_keeps _ _ _ _ (CK _ (hH2 ▸ CL _ rfl))
 generalize pushCells (H2.push { cls:=.type "dict",data:=.dict #[] }) sc.names=h₁ at *
 generalize hCe:H2.objs.size=C at *
 have below:∀b:Nat,b<s.heap.objs.size->b≠C:=fun b hb'=>by omega
 generalize hDe:s.heap.objs.size=D at *
 -- the loop's word
 let Y:Cx:=cj X sc own js ⟨s,H,fp,C⟩
 have J0:Inv Y [(D,bS [] 0)] (bT own.length js σ) H { s with heap:=h₁ }:=
  xf I hk hb hj hfp (by rw[hDe];exact hlt) hDe.symm (by rw[hDe];exact hCs) old hDo (fun v z=>by cases z) hns₁ hcl₁
 have ndC:@Ne Nat D C:=by omega
 have statF:∀{P':List (Addr×Obj)} {H':Hp},(∀b∈fp,H' b=none)->(∀p∈P',p.1∉fp)->∀b∈fp,bO Y P' H' b:=fun{P' H'} hn hp b hb'=>by
  obtain⟨f0,f1,f2,f3,f4,f5⟩:=hfp b hb'
  refine⟨hn b hb',fun z=>below b (hlt b hb') z,fun z=>?_,.inl hb',fun x c e=>?_,fun p hp' z=>?_⟩
  ·rcases De.mp (I.stkSub b z)with e | h
   ·exact f1 e
   ·exact f2 h
  ·rcases gU I.ok hb (C:=C) e with e | ⟨e,_⟩
   ·exact f4 x c e
   ·have h9:@LT.lt Nat _ b s.heap.objs.size:=by rw[hDe];exact hlt b hb'
    exact Nat.ne_of_gt (show @LT.lt Nat _ b c by omega)
  ·have:p∈P':=by simpa[Y,cj]using hp'
   exact hp p this (by rw[z];exact hb')
 have Dfp:D∉fp:=fun z=>by have h9:@LT.lt Nat _ D D:=hlt D z;omega
 have st1:tn 0 h₁:=(T 0).keep 0 s.heap h₁ st fun b _ o e=>old b o e
 have loop:∀s₃:Shared,s₃={ s with heap:=h₁ } →
   codeAny (model X.prog X.w) X.A (.compLoop (.ListComp elt [⟨tg,iter,ifs,0⟩] sc pos) 0 (.ref it) (.ref D) Y.env) (RR (.ref D) C) s₃:=by
  rintro s₃ rfl
  obtain⟨m0,w0⟩:=w0
  refine sS (fun n s'=>∃i ys its q H',Inv Y [(D,bS its q)] (bT own.length js σ) H' s'/\Vals ys its/\ys.length<=sizeLine/\tn i s'.heap/\(∀b∈fp,H' b=none)/\W i n ys H') ?_ m0
   ⟨0,[],[],0,H,J0,.nil,Nat.zero_le _,st1,fun b hb'=>(hfp b hb').1,w0⟩
  rintro n s3 ⟨i,ys,its,q,H3,I3,rv,hz,st3,fr3,w3⟩
  have pD:∀p∈[(D,bS its q)],p.1∉fp:=fun p hp=>by
   have e:p=(D,bS its q):=by simpa using hp
   rw[e];exact Dfp
  rcases turn i n ys H3 w3 with⟨stop,qn⟩ | ⟨go,hlen,N,hN,step⟩
  ·-- the end
   refine ax ((T C).done i _ s3 _ H3 _ I3 (statF fr3 pD) st3 stop) fun r s4 ⟨hr,I4⟩=>?_
   subst hr
   show RR (.ref D) C (.ok .next) s4
   have hDp:=I4.pin (D,bS its q) (DD _ (CZ.mpr rfl))
   have hD4:s4.heap.get? D=some (bS its q):=hDp.1
   have nD:H3 D=none:=hDp.2.1
   have U:Un (aS X.stack) fp H H3 s.heap s4.heap:=I4.base
   have neD:∀b o,s.heap.get? b=some o->b≠D:=fun b o e=>Di (by have h9:@LT.lt Nat _ b s.heap.objs.size:=CM e;omega)
   have neDH:∀b o,H b=some o->b≠D:=fun b o e=>Di (by have h9:@LT.lt Nat _ b s.heap.objs.size:=I.hok.lt e;omega)
   have U2:Un (aS X.stack) fp H (upd H3 D (.lst ys)) s.heap s4.heap:=
    ⟨U.keep,U.slot,fun b o e n hx=>by rw[aT (neD b o e)];exact U.free b o e n hx,U.there,fun b xs e=>by rw[aT (neDH b _ e)];exact U.tups b xs e,
     fun b o u e=>by rw[aT (neDH b _ e)];exact U.frzs b o u e,fun b ps e=>by rw[aT (neDH b _ e)];exact U.tbls b ps e⟩
   have hok2:bD X.prog X.w (upd H3 D (.lst ys)) s4.heap:=fun b o e=>by
    by_cases hb':b=D
    ·subst hb'
     rw[aY]at e
     cases e
     exact⟨hz,its,q,rv,hD4⟩
    ·rw[aT hb']at e
     exact(I4.hok b o e).stay (fun c u _ z=>z) (fun c z=>by rw[aT (dg z nD)];exact z) fun c xs z=>by rw[aT (dg z nD)];exact z
   have IX:Inv X pins σ (upd H3 D (.lst ys)) s4:=I.call' (ch:=fp) I4.os U2 hok2 I4.bare fun b hb'=>by
    obtain⟨f0,f1,f2,f3,f4,f5⟩:=hfp b hb'
    exact⟨f3,f1,f4,f5⟩
   obtain⟨m4,hn4,_⟩:=I4.loc
   have nC:H3 C=none:=I4.free
   refine fin D C s4 ys H3 nD IX ?_ ⟨m4,hn4⟩ (show @LE.le Nat _ D C by omega) (qn D nD)
   refine⟨by rw[aT (Ne.symm ndC)];exact nC,?_,?_,?_,?_,?_⟩
   ·have h9:@LT.lt Nat _ X.env.locals s.heap.objs.size:=I.lt
    exact Nat.ne_of_gt (show @LT.lt Nat _ X.env.locals C by omega)
   ·exact I.nofs (show @LE.le Nat _ s.heap.objs.size C by omega)
   ·right
    have h9:@LE.le Nat _ X.s₀.heap.objs.size s.heap.objs.size:=I.sz
    exact(show @LE.le Nat _ X.s₀.heap.objs.size C by omega)
   ·intro x c e
    have h9:@LT.lt Nat _ c s.heap.objs.size:=I.cell_lt e
    exact Di (show @LT.lt Nat _ c C by omega)
   ·intro p hp
    have h9:@LT.lt Nat _ p.1 s.heap.objs.size:=I.pin_lt hp
    exact Di (show @LT.lt Nat _ p.1 C by omega)
  ·-- a turn
   refine ax ((T C).item i _ s3 _ H3 _ I3 (statF fr3 pD) st3 go) fun r s4 ⟨u,hr,h4⟩=>?_
   subst hr
   refine ax h4 fun _ s5 ⟨x,H5,I5,r5,y5,st5,fr5⟩=>?_
   have I5':=I5.pinned (statF fr5 pD) ((T 0).obj _ _ st5)
   refine ax (hg _ _ s5 _ H5 x u _ I5' r5 (step x H5 y5)) fun _ s6 ⟨σ6,H6,I6,q6⟩=>?_
   refine ax (ht _ _ s6 σ6 H6 _ I6 q6) fun ok s7 ⟨H7,I7,q7⟩=>?_
   have back:∀{s':Shared} {σ':St} {H':Hp} {ys':List V} {its':List Value} {q':Nat},Inv Y ([(D,bS its' q')]++dC fp s5.heap) σ' H' s'->Vals ys' its'->ys'.length<=sizeLine->N ys' H' →
     ∃m,m<n/\∃i ys its q H',Inv Y [(D,bS its q)] (bT own.length js σ) H' s'/\Vals ys its/\ys.length<=sizeLine/\tn i s'.heap/\(∀b∈fp,H' b=none)/\W i m ys H':=by
    intro s' σ' H' ys' its' q' I' rv' hz' nn
    obtain⟨m',hm,w'⟩:=hN ys' H' nn
    have hpin:∀b∈fp,∀o,s5.heap.get? b=some o->s'.heap.get? b=some o/\H' b=none:=fun b hb' o e=>by
     have:=I'.pin (b,o) (DD _ (DD _ (jh hb' e)))
     exact⟨this.1,this.2.1⟩
    refine⟨m',hm,i+1,ys',its',q',H',?_,rv',hz',(T 0).keep _ _ _ st5 fun b hb' o e=>(hpin b hb' o e).1,fun b hb'=>?_,w'⟩
    ·have I'':=I'.unpinned
     obtain⟨mm,hmm,_⟩:=id I''.loc
     refine⟨I''.ok,I''.os,I''.bare,I''.base,⟨mm,hmm,fun k x v e1 e2 e3=>?_⟩,I''.cell,I''.free,I''.freeC,I''.pin,I''.hok,?_⟩
     ·-- the captured names: their cells are as they were at the block's beginning
      obtain⟨m1,hn1,hl1⟩:=J0.loc
      obtain⟨u1,r1,l1⟩:=hl1 k x v e1 e2 e3
      refine⟨u1,r1,?_⟩
      obtain⟨k',j,rfl,ej,es⟩:=jA e2
      have e1':(own++js.map fun j=>X.N.getD j "")[own.length+k']?=some x:=e1
      rw[Dn (by omega),Nat.add_sub_cancel_left,CP,ej]at e1'
      have ex:X.N.getD j "" = x:=by simpa using e1'
      have hjj:=Dy.mp hj j (CY ej)
      simp only[DA,decide_eq_true_eq,beq_iff_eq]at hjj
      have hfree:sc.names.lookup x=some .free:=by rw[←ex];exact hjj.2
      rcases l1 with⟨z,zz⟩ | ⟨z,c,e,zz⟩
      ·-- a captured name is no local one
       exfalso
       obtain⟨k2,z1,z2⟩:=fP (sc:=sc) (env:=X.env) (show(relabel sc X.env).names.lookup x=some .local from z)
       rw[hfree]at z1
       rcases z2 with z2 | ⟨_,z2⟩
       ·rw[z2]at z1;cases z1
       ·cases z2
      ·refine .inr ⟨z,c,e,?_⟩
       have hcs:X.env.cells.lookup x=some c:=by
        rcases gU I.ok hb (C:=C) e with e | ⟨_,e⟩
        ·exact e
        ·rw[hfree]at e;cases e
       obtain⟨ov,oc,hoc,hdc⟩:=I.cell x c hcs
       have hoc1:=old c oc hoc
       obtain⟨oz,hoz,hdz⟩:=zz
       have hoz':h₁.get? c=some oz:=hoz
       rw[hoc1]at hoz'
       cases hoz'
       have cnf:c∉fp:=fun z'=>(hfp c z').2.2.2.2.1 x c hcs rfl
       obtain⟨sl,hh⟩:=I''.base.any hoc (I.freeC x c hcs) cnf
       exact⟨_,hh,hdz⟩
     ·show(bT own.length js σ).length=_
      exact J0.len
    ·obtain⟨o,e,d⟩:=(T 0).obj _ _ st5 b hb'
     exact(hpin b hb' o e).2
   cases ok with
   | false=>
    rw[DP Df]at q7 ⊢
    exact back I7 rv hz q7
   | true=>
    rw[DQ rfl]at q7 ⊢
    refine ax (he _ _ s7 σ6 H7 _ I7 q7) fun xv s8 ⟨v,H8,I8,r8,q8⟩=>?_
    have hDp:=I8.pin (D,bS its q) (DD _ (DE _ (CZ.mpr rfl)))
    have hD8:s8.heap.get? D=some { cls:=.type "list",data:=.seq its.toArray q }:=hDp.1
    have hl:=rv.length
    refine call_meets F.slot_list_append ⟨_,hD8,rfl⟩ F.entry_list_append (F.args_list_append_2 _ _) (PySem.list_append D its.toArray q xv (by rw[CT];omega)) ⟨hD8,?_⟩
    have qq:=PySem.IsL.update hD8 (fun a=>a.push xv)
    have eqs:its.toArray.push xv=(its++[xv]).toArray:=by simp
    rw[eqs]at qq
    obtain⟨q2,hq2⟩:∃q2,(s8.heap.update D (Obj.mapSeq fun a=>a.push xv)).get? D=some (bS (its++[xv]) q2):=⟨_,qq⟩
    -- without the pin of D,the record turns,then it is pinned again
    have I8a:Inv Y (dC fp s5.heap) σ6 H8 s8:=I8.pins_of fun p hp=>I8.pin p (DD _ (DD _ hp))
    have nD8:H8 D=none:=hDp.2.1
    have I9:Inv Y (dC fp s5.heap) σ6 H8 { s8 with heap:=s8.heap.update D (Obj.mapSeq fun a=>a.push xv),toks:=s8.toks }:=by
     refine I8a.turned (it:=D) (fun b o hb' e=>(Heap.get?_update_other s8.heap (Obj.mapSeq fun a=>a.push xv) (Ne.symm hb')).trans e) nD8 ndC (.inr (show @LE.le Nat _ s.heap.objs.size D by omega)) (fun x c e=>?_) fun p hp=>?_
     ·rcases gU I.ok hb (C:=C) e with e | ⟨e,_⟩
      ·have h9:@LT.lt Nat _ c s.heap.objs.size:=I.cell_lt e
       exact Di (show @LT.lt Nat _ c D by omega)
      ·exact Nat.ne_of_gt (show @LT.lt Nat _ D c by omega)
     ·have hp':p∈dC fp s5.heap:=by simpa[Y,cj]using hp
      obtain⟨h1,_⟩:=kH hp'
      exact fun z=>Dfp (z ▸ h1)
    refine back (ys':=ys++[v]) (its':=its++[xv]) (q':=q2) (I9.pins_of fun p hp=>?_) (rv.append (.cons r8 .nil)) (by rw[Dh,List.length_singleton];omega) q8
    rcases Dm.mp hp with hp | hp
    ·have e:p=(D,bS (its++[xv]) q2):=by simpa using hp
     subst e
     refine⟨hq2,nD8,ndC,fun z=>?_,fun v z=>by cases z⟩
     have h9:@LT.lt Nat _ D s.heap.objs.size:=I.stk_lt (b:=D) z
     omega
    ·exact I9.pin p (DD _ hp)
 exact codeAny_compStart_list (loop _ rfl) ((T 0).self X.A 0 { s with heap:=h₁ } _ _ st1 (loop _ rfl))
theorem cQ{elt tg iter:Expr}{ifs:List Expr}{sc:Scope}{pos:Pos}(own:List Str)(js:List Nat){wi:TI}{g:TG}{tc:TT}{te:TE}(hi:PI X tg iter wi)(hg:∀z,PG (cj X sc own js z) tg g)(ht:∀z,fg (cj X sc own js z) ifs tc)
  (he:∀z,PE (cj X sc own js z) elt te) (hc:X.calm=true:=by rfl) (hk:sc.kind=.function:=by rfl) (hb:dB sc X.env.scope=true:=by rfl) (hj:fE sc X.N js=true:=by rfl)
  (hs:∀x,foldedSetIterable iter X.env x=pure x:=by intro _;rfl):PE X (.ListComp elt [⟨tg,iter,ifs,0⟩] sc pos) (i5 own.length js wi g tc te):=by
 intro pins s σ H Q I h
 rw[eval_ListComp]
 refine wpAny_comprehension_free (use:=none) rfl hs (lx fun p hp hf=>I.ok.has p.1 (j7 hb hp hf)) hk (fun p hp hl=>um hb hp hl) (ax (hi pins s σ H _ I h) fun v s1 h1=>ax h1 fun itv s2 h2=>?_)
 obtain⟨it,fp,tn,J,H2,e,I2,T,st2,f2,W,w0,turn⟩:=h2
 subst e
 refine sR (RR:=fun acc C=>compPost (model X.prog X.w) X.A X.xe none (EP X pins σ Q) acc C) hk hb hj (fun _=>hg _) (fun _=>ht _) (fun _=>he _) I2 (fun C=>Turn.at_ (Y:=cj X sc own js ⟨_,_,_,C⟩) T hc) st2 f2 w0 turn ?_
 intro D C s' ys H' nD I' hC ⟨m,hm⟩ _ q
 refine⟨m,hm,fun h' hs'=>?_⟩
 obtain⟨f0,f1,f2,f3,f4,f5⟩:=hC
 exact⟨.ref D,_,I'.turned (t':=s'.toks) (it:=C) (fun b o hb' e=>(hs'.2 b hb').trans e) f0 f1 f3 f4 f5,rfl,q⟩
end
end L2
namespace L2
open PySem PySem.Spec PyProof.Rows
section
variable {cs:List (Addr×Obj)} {H H':Hp} {b:Addr} {o:Obj} {P:Program} {w:World} {h h':Heap} {fs ex:List Addr}
end
section
variable {X:Cx} {pins:List (Addr×Obj)} {σ:St} {H:Hp} {s:Shared}
end
end L2
namespace L2
open PySem PySem.Spec PyProof.Rows
section
variable {X:Cx} {pins:List (Addr×Obj)} {σ:St} {H:Hp} {s:Shared}
end
end L2
namespace L2
open PySem PySem.Spec PyProof.Rows
section
variable {M:Model} {A:Around} {E:Value->Shared->Prop} {s₀ s:Shared} {m cm:Str->Option Value} {env:Env} {own:List (Str×Addr)}
end
section
variable {M:Model} {A:Around} {E:Value->Shared->Prop} {s:Shared}
end
end L2
namespace L2
open PySem PySem.Spec PyProof.Rows
section
variable {X:Cx}
end
end L2
namespace L2
open PySem PySem.Spec PyProof.Rows
open AutoSeq1 (wpAny_loadPart')in
section
variable {K:CJ} {σ:St} {H:Hp} {Q:VK}
end
end L2
namespace L2
open PySem PySem.Spec PyProof.Rows
section
variable {X:Cx}
end
end L2
namespace L2.Og.Tb
open PySem
end L2.Og.Tb
namespace L2.Og
open PySem PySem.Spec PyProof.Rows
section
variable {P:Program} {w:World} {A:Around} {E:Value->Shared->Prop} {s:Shared} {K:Type} [DecidableEq K] {knd:KeyKind P w K}
end
section
variable {P:Program} {w:World} {A:Around} {K:Type} [DecidableEq K] {knd:KeyKind P w K} {I:Addr} {fp wr:List Addr} {G:Array GenState->Array GenState->Prop} {n:Nat} {Pz:Nat->Value->Prop} {St:Nat->Shared->Prop}
end
end L2.Og
namespace L2.Og
open PySem PySem.Spec PyProof.Rows
section
variable {P:Program} {w:World} {A:Around} {E:Value->Shared->Prop} {s:Shared} {K:Type} [DecidableEq K] {knd:KeyKind P w K}
end
end L2.Og
namespace L2.Og
open PySem PySem.Spec PyProof.Rows
section
variable {X:Cx}
end
end L2.Og
namespace L2.Ti
open PySem PySem.Spec PyProof.Rows
def di(t:SetTable):Prop:=t.dummies = #[]/\t.place.toList.Pairwise (· < ·)
theorem jj(t:SetTable)(n:Nat):di (t.standIn n):=⟨rfl,by
 show(Array.range n).toList.Pairwise _
 rw[Array.toList_range]
 exact List.pairwise_lt_range⟩
theorem zr{mask finger moves:Nat}{led plain:Bool}{hashes:Array Int}{t':SetTable}{order:Array Nat}(h:SetTable.laid mask finger moves led plain hashes=some (t',order)):di t':=by
 unfold SetTable.laid at h
 obtain⟨owner,_,h⟩:=Option.bind_eq_some_iff.mp h
 have h:=DC h
 have h1:=(congrArg Prod.fst h).symm
 dsimp only at h1
 subst h1
 refine⟨rfl,?_⟩
 show(List.map (fun x:Nat×Nat=>x.1) (List.filterMap (fun j=>Option.map (fun x=>(j,x)) (owner.getD j none)) (DM (mask+1)))).Pairwise (· < ·)
 rw[List.pairwise_map,List.pairwise_filterMap]
 refine List.Pairwise.imp ?_ (List.pairwise_lt_range (n:=mask+1))
 intro a b hab x hx y hy
 obtain⟨u,_,rfl⟩:=Dc.mp hx
 obtain⟨v,_,rfl⟩:=Dc.mp hy
 exact hab
theorem BM(t:SetTable)(es:Array (Int×Value))(wanted:Nat):di (relayAll t es wanted).2.1:=by
 unfold relayAll
 cases h:t.relaid (es.map (·.1)) wanted with
 | none=>exact jj _ _
 | some x=>
  obtain⟨t',order⟩:=x
  dsimp only
  split
  ·exact zr h
  ·exact jj _ _
theorem yX{t:SetTable}(hd:t.dummies = #[])(j:Nat):t.slot j≠.dummy:=by
 unfold SetTable.slot
 dsimp only
 split
 ·intro z;cases z
 ·rw[hd]
  rw[DP (by unfold SetTable.has;simp)]
  intro z;cases z
theorem qM{t:SetTable}(hd:t.dummies = #[])(hash:Nat->Int)(h:Int):∀(fuel:Nat) (p:SetTable.Probe) (j:Nat) (d:Option Nat),p.dummy=none->SetTable.probe.go t hash h fuel p=some (.empty j d)->d=none/\t.slot j=.empty
 | 0,p,j,d,_,e=>by
  unfold SetTable.probe.go at e
  cases e
 | fuel+1,p,j,d,hp,e=>by
  unfold SetTable.probe.go at e
  cases hs:t.slot p.j with
  | empty=>
   rw[hs]at e
   cases e
   exact⟨hp,hs⟩
  | dummy=>exact absurd hs (yX hd _)
  | live i=>
   rw[hs]at e
   dsimp only at e
   split at e
   ·cases e
   ·refine qM hd hash h fuel _ j d ?_ e
    unfold SetTable.advance
    split<;>exact hp
theorem Co{t:SetTable}(hi:di t){j:Nat}(h:t.slot j=.empty):di (t.put j).1:=by
 refine⟨?_,Tb.qi hi.2 (Tb.pK hi.2 h)⟩
 show(if SetTable.has t.dummies j then _ else t.dummies) = #[]
 rw[hi.1,DP (by unfold SetTable.has;simp)]
theorem zR{t:SetTable}(hi:di t)(es:Array (Int×Value))(h:Int)(x:Value):di (layNew t es h x).2.1:=by
 unfold layNew
 cases hf:t.freeSlot h with
 | none=>exact jj _ _
 | some y=>
  obtain⟨slot,wd⟩:=y
  dsimp only
  show di ((t.put slot).1.orStandIn _)
  unfold SetTable.orStandIn
  split
  ·refine Co hi ?_
   unfold SetTable.freeSlot at hf
   split at hf
   ·rename_i j d hpr
    obtain⟨rfl,h2⟩:=qM hi.1 _ _ _ _ _ _ (show(t.probeStart h).dummy=none from rfl) hpr
    cases hf
    exact h2
   ·cases hf
  ·exact jj _ _
theorem below_at{xs:Array Nat}(hs:xs.toList.Pairwise (· < ·)){i j:Nat}(h:xs[i]?=some j):SetTable.below xs (j+1)=i+1:=by
 obtain⟨h1,h2,h3⟩:=Tb.iO hs (j+1)
 have hi:i<SetTable.below xs (j+1):=by
  rcases DH i (SetTable.below xs (j+1))with z | z
  ·exact z
  ·have:=h3 i j z h
   omega
 rcases DH (i+1) (SetTable.below xs (j+1))with z | z
 ·have hx:xs[i+1]?=some xs[i+1]:=getElem?_pos xs (i+1) (by omega)
  have a:=h2 (i+1) _ z hx
  have b:=Tb.iU hs h hx (Nat.lt_succ_self i)
  omega
 ·omega
theorem v7{xs:Array Nat}(hs:xs.toList.Pairwise (· < ·)):SetTable.below xs 0=0:=by
 obtain⟨h1,h2,h3⟩:=Tb.iO hs 0
 rcases Nat.eq_zero_or_pos (SetTable.below xs 0)with z | z
 ·exact z
 ·have:=h2 0 _ z (getElem?_pos xs 0 (by omega))
  omega
section
variable {P:Program} {w:World} {A:Around} {E:Value->Shared->Prop} {s:Shared}
theorem za{it a:Addr}{i ep slot:Nat}{o:Obj}{es:Array (Int×Value)}{t:SetTable}{Q:Option Value->Shared->Prop}(hT:w.params.followText "set-order" = false)(hit:s.heap.get? it=some (bU a (rawInt (slot:Int)) i es.size ep))(ho:s.heap.get? a=some o)(hd:o.data=.set es ep t)(hf:t.fits es.size=true)(h1:(!t.plain && decide (es.size>1))=false)(hl:t.led=true)
  {x:Int×Value} {j:Nat} (hx:es[SetTable.below t.place slot]?=some x) (hj:t.place[SetTable.below t.place slot]?=some j) (hQ:∀h',h'.get? it=some (bU a (rawInt ((j+1:Nat):Int)) (i+1) es.size ep)->Heap.SameBut it s.heap h'->Q (some x.2) { s with heap:=h' }):wpAny (model P w) A (pyNext (.ref it)) Q E s:=by
 have T:s.TypeIs (.ref it) "set_iterator":=⟨_,hit,rfl⟩
 unfold pyNext
 refine CH (wpAny_attempt (DL (name:=DB "__next__") T SF.slot_next (wpAny_call_entry SF.slot_next T SF.entry_next ?_ (SF.args_next _))))
 show wpAny _ _ (fieldsOf (.ref it) >>= _) _ _ s
 refine CH (wpAny_fieldsOf hit rfl ?_)
 show wpAny _ _ (setEntries a >>= _) _ _ s
 unfold setEntries
 refine CH (CH (DK ho hd hf (CI ?_)))
 rw[DP (by simp)]
 show wpAny _ _ (setNext a slot _ _ >>= _) _ _ s
 unfold setNext
 refine CH (CH (DK ho hd hf ?_))
 dsimp only
 unfold setsByText
 refine CH (CH (wpAny_askSetting (CI ?_)))
 rw[show (model P w).w.params.followText "set-order" = false from hT]
 simp only[DG,if_false]
 have hdr:¬((!t.plain && decide (es.size>1))=true):=by
  rw[h1]
  exact Df
 split
 ·rename_i hh
  exact absurd hh hdr
 ·refine CH ?_
  show wpAny _ _ (if(!t.led && !es.isEmpty)=true then unsupported _ else pure ()) _ _ _
  rw[DP (by rw[hl];exact Df)]
  refine CI (CI ?_)
  rw[hx,hj]
  dsimp only
  refine CH (wpAny_setField hit rfl (by simp) ?_)
  have e1':(s.heap.update it (Obj.mapFields (·.setIfInBounds 0 (rawInt ((j+1:Nat):Int))))).get? it=some (bU a (rawInt ((j+1:Nat):Int)) i es.size ep):=gy (k:=0) (x:=rawInt ((j+1:Nat):Int)) hit rfl
  refine CH (wpAny_setField (s:={ s with heap:=s.heap.update it (Obj.mapFields (·.setIfInBounds 0 (rawInt ((j+1:Nat):Int)))) }) e1' rfl (by simp) ?_)
  have e2:=gy (k:=1) (x:=rawInt ((i:Int)+1)) e1' rfl
  refine CI ⟨_,rfl,CI (hQ _ ?_ ((Heap.SameBut.update ..).trans (Heap.SameBut.update ..)))⟩
  exact e2
theorem Bm{it a:Addr}{i ep slot:Nat}{o:Obj}{es:Array (Int×Value)}{t:SetTable}{Q:Option Value->Shared->Prop}(hh:A.handled=none)(hT:w.params.followText "set-order" = false)(hit:s.heap.get? it=some (bU a (rawInt (slot:Int)) i es.size ep))(ho:s.heap.get? a=some o)(hd:o.data=.set es ep t)(hf:t.fits es.size=true)(h1:(!t.plain && decide (es.size>1))=false)(hl:t.led=true)
  (hx:es[SetTable.below t.place slot]?=none) (hQ:∀h',Heap.ExtBut it s.heap h'->Q none { s with heap:=h' }):wpAny (model P w) A (pyNext (.ref it)) Q E s:=by
 have T:s.TypeIs (.ref it) "set_iterator":=⟨_,hit,rfl⟩
 unfold pyNext
 refine CH (wpAny_attempt (DL (name:=DB "__next__") T SF.slot_next (wpAny_call_entry SF.slot_next T SF.entry_next ?_ (SF.args_next _))))
 show wpAny _ _ (fieldsOf (.ref it) >>= _) _ _ s
 refine CH (wpAny_fieldsOf hit rfl ?_)
 show wpAny _ _ (setEntries a >>= _) _ _ s
 unfold setEntries
 refine CH (CH (DK ho hd hf (CI ?_)))
 rw[DP (by simp)]
 show wpAny _ _ (setNext a slot _ _ >>= _) _ _ s
 unfold setNext
 refine CH (CH (DK ho hd hf ?_))
 dsimp only
 unfold setsByText
 refine CH (CH (wpAny_askSetting (CI ?_)))
 rw[show (model P w).w.params.followText "set-order" = false from hT]
 simp only[DG,if_false]
 have hdr:¬((!t.plain && decide (es.size>1))=true):=by
  rw[h1]
  exact Df
 split
 ·rename_i hh
  exact absurd hh hdr
 ·refine CH ?_
  show wpAny _ _ (if(!t.led && !es.isEmpty)=true then unsupported _ else pure ()) _ _ _
  rw[DP (by rw[hl];exact Df)]
  refine CI (CI ?_)
  rw[hx]
  dsimp only
  refine CH (wpAny_setField hit rfl (by simp) ?_)
  exact kY (s:=s) (it:=it) hh (Heap.SameBut.update ..).extBut hQ
theorem yp(hh:A.handled=none)(hT:w.params.followText "set-order" = false)(I a:Addr)(hne:a≠I){o:Obj}{es:Array (Int×Value)}{ep:Nat}{t:SetTable}(hd:o.data=.set es ep t)(hf:t.fits es.size=true)(h1:(!t.plain && decide (es.size>1))=false)(hl:t.led=true)(hp:t.place.size=es.size)(hinc:t.place.toList.Pairwise (· < ·)):
  Walks P w A I [I,a] [I] es.size (fun i v=>∃x,es[i]?=some x/\v=x.2) (fun i h=>(∃slot:Nat,h.get? I=some (bU a (rawInt (slot:Int)) i es.size ep)/\SetTable.below t.place slot=i)/\h.get? a=some o) where
 sub:=fun b hb=>by simp at hb;simp[hb]
 frame:=fun _ _ _ st hk=>by
  obtain⟨⟨slot,h1,h2⟩,h3⟩:=st
  exact⟨⟨slot,hk I (by simp) _ h1,h2⟩,hk a (by simp) _ h3⟩
 item:=fun i s Q E hi st hQ=>by
  obtain⟨⟨slot,q1,q2⟩,q3⟩:=st
  have hx:=getElem?_pos es i hi
  have hj:=getElem?_pos t.place i (by omega)
  refine za hT q1 q3 hd hf h1 hl (by rw[q2];exact hx) (by rw[q2];exact hj) fun h' hit' sb=>?_
  refine hQ _ h' s.toks ⟨_,hx,rfl⟩ ⟨⟨_,hit',?_⟩,(sb.2 a hne).trans q3⟩ fun b o hb e=>sb.extBut b o (fun h=>hb (by simp[h])) e
  exact below_at hinc hj
 done:=fun s Q E st hQ=>by
  obtain⟨⟨slot,q1,q2⟩,q3⟩:=st
  exact Bm hh hT q1 q3 hd hf h1 hl (by rw[q2];exact Array.getElem?_eq_none (Dj _)) fun h' he'=>hQ h' s.toks fun b o hb e=>he' b o (fun h=>hb (by simp[h])) e
 self:=fun i s Q E st hQ=>by
  obtain⟨⟨slot,q1,q2⟩,q3⟩:=st
  exact lG q1 hQ
theorem xV{a:Addr}{o:Obj}{es:Array (Int×Value)}{ep:Nat}{t:SetTable}{Q:Value->Shared->Prop}(ho:s.heap.get? a=some o)(hex:o.ExactSet)(hd:o.data=.set es ep t)(hf:t.fits es.size=true)(hsz:es.size<=sizeLine)
  (hT:w.params.followText "set-order" = true\/(!t.plain && decide (es.size>1))=false->Q (.ref s.heap.objs.size) { s with heap:=s.heap.push (bU a (rawInt 0) 0 es.size ep) })
  (hD:∀(ys:List Nat) d,ys.Perm (DM es.size)->Q (.ref (s.heap.objs.size+1)) { s with heap:=(s.heap.push (seqObj "tuple" (ys.map fun(i:Nat)=>rawInt i).toArray 0)).push (bU a (.ref s.heap.objs.size) 0 es.size ep),drawn:=d }) :
  wpAny (model P w) A (pyIter (.ref a)) Q E s:=by
 have T:s.TypeIs (.ref a) "set":=⟨o,ho,hex.1⟩
 refine wpAny_pyIter_slot T F.slot_set_iter (wpAny_call_entry F.slot_set_iter T SF.zE ?_ (SF.Ac _))
 show wpAny _ _ (Builtin.Frozenset.sizeOf a >>= _) _ _ s
 unfold Builtin.Frozenset.sizeOf setEntries
 refine CH (CH (CH (DK ho hd hf (CI (CI ?_)))))
 show wpAny _ _ (setDrawn a >>= _) _ _ s
 unfold setDrawn
 refine CH (CH (DK ho hd hf ?_))
 dsimp only
 unfold setsByText
 refine CH (CH (wpAny_askSetting (CI (CI ?_))))
 by_cases hq:(!(w.params.followText "set-order") && (!t.plain && decide (es.size>1)))=true
 ·rw[DQ (by exact hq)]
  refine CH (uu _ _ s (by rw[List.length_range]) fun ys d hp=>?_)
  have hyl:ys.length=es.size:=by rw[hp.length_eq,List.length_range]
  simp only[newTuple]
  refine CH (wpAny_newObj_type ?_ (by show(List.map _ ys).toArray.size<=sizeLine;rw[CT,CN,hyl];exact hsz))
  unfold setEpoch
  refine CH (CH (DK (s:={ s with heap:=s.heap.push (seqObj "tuple" (ys.map fun(i:Nat)=>rawInt i).toArray 0),drawn:=d }) (CK _ ho) hd hf (CI ?_)))
  simp only[newFields]
  have hs1:(s.heap.push (seqObj "tuple" (ys.map fun(i:Nat)=>rawInt i).toArray 0)).objs.size=s.heap.objs.size+1:=Heap.size_push _ _
  refine CH (wpAny_newObj_type (CI ⟨_,rfl,"set_iterator",_,⟨_,CL _ rfl,rfl⟩,SF.slot_next.lookup,?_⟩) (by size_fits))
  have:=hD ys d hp
  rw[←hs1]at this
  exact this
 ·rw[DP (by exact hq)]
  refine CH (CI ?_)
  unfold setEpoch
  refine CH (CH (DK ho hd hf (CI ?_)))
  simp only[newFields]
  refine CH (wpAny_newObj_type (CI ⟨_,rfl,"set_iterator",_,⟨_,CL _ rfl,rfl⟩,SF.slot_next.lookup,?_⟩) (by size_fits))
  refine hT ?_
  cases hf':w.params.followText "set-order" with
  | true=>exact .inl rfl
  | false=>
   rw[hf',Bool.not_false,Bool.true_and]at hq
   exact .inr (Bool.eq_false_iff.mpr hq)
theorem Cd{a:Addr}{o:Obj}{es:Array (Int×Value)}{ep:Nat}{t:SetTable}{Q:Value->Shared->Prop}(hA:A.handled=none)(ho:s.heap.get? a=some o)(hex:o.ExactSet)(hd:o.data=.set es ep t)(hf:t.fits es.size=true)(hled:t.led=cC w)(hp:t.place.size=es.size)(hinc:t.place.toList.Pairwise (· < ·))(hsz:es.size<=sizeLine)
  (h:∀(I:Addr) (h1:Heap) d (fp:List Addr) (Pz:Nat->Value->Prop) (St:Nat->Heap->Prop),Walks P w A I fp [I] es.size Pz St->St 0 h1->s.heap.objs.size<=I->(∀c∈fp,c=a\/s.heap.objs.size<=c)->(∀b o',s.heap.get? b=some o'->h1.get? b=some o')->(∀acc:Array Value,acc.size=es.size->(∀i v,acc[i]?=some v->Pz i v)->acc.toList.Perm (es.toList.map (·.2)))->Q (.ref I) { s with heap:=h1,drawn:=d }):wpAny (model P w) A (pyIter (.ref a)) Q E s:=by
 have hlt:a<s.heap.objs.size:=CM ho
 have inOrder:∀{xs:Array (Int×Value)} {acc:Array Value},acc.size=xs.size->(∀i v,acc[i]?=some v->∃x:Int×Value,xs[i]?=some x/\v=x.2)->acc.toList=xs.toList.map (·.2):=fun{xs acc} e1 e2=>by
  apply List.ext_getElem
  ·rw[CS,CN,CS,e1]
  ·intro i q1 q2
   rw[CS]at q1
   obtain⟨x,hx,hv⟩:=e2 i acc[i] (getElem?_pos acc i q1)
   rw[Array.getElem_toList,hv,List.getElem_map,Array.getElem_toList]
   obtain⟨_,e⟩:=Array.getElem?_eq_some_iff.mp hx
   rw[e]
 refine xV ho hex hd hf hsz (fun hT=>?_) (fun ys d hq=>?_)
 ·have hfp:∀c∈[s.heap.objs.size,a],c=a\/s.heap.objs.size<=c:=fun c hc=>by
   rcases De.mp hc with z | z
   ·exact .inr (Nat.le_of_eq z.symm)
   ·exact .inl (CZ.mp z)
  have g1:(s.heap.push (bU a (rawInt 0) 0 es.size ep)).get? s.heap.objs.size=some (bU a (rawInt 0) 0 es.size ep):=CL _ rfl
  have g2:=CK (bU a (rawInt 0) 0 es.size ep) ho
  cases hq:w.params.followText "set-order" with
  | true=>
   refine h _ _ s.drawn _ _ _ (xu hA hq s.heap.objs.size a (Di hlt) hd hf) ⟨g1,g2⟩ (Dj _) hfp (fun b o' e=>CK _ e) fun acc a1 a2=>?_
   have hl:(pickOrder (w.params.setOrder a ep) es).size=es.size:=by
    rw[←CS,(kf _ es).length_eq,CS]
   rw[inOrder (a1.trans hl.symm) a2]
   exact(kf (w.params.setOrder a ep) es).map (·.2)
  | false=>
   have hl:t.led=true:=by
    rw[hled]
    show(!w.params.followText "set-order")=true
    rw[hq]
    rfl
   refine h _ _ s.drawn _ _ _ (yp hA hq s.heap.objs.size a (Di hlt) hd hf (hT.resolve_left (by rw[hq];decide)) hl hp hinc) ⟨⟨0,g1,v7 hinc⟩,g2⟩ (Dj _) hfp (fun b o' e=>CK _ e) fun acc a1 a2=>?_
   rw[inOrder a1 a2]
 ·have hs2:(s.heap.push (seqObj "tuple" (ys.map fun(i:Nat)=>rawInt i).toArray 0)).objs.size=s.heap.objs.size+1:=Heap.size_push _ _
  have g1:((s.heap.push (seqObj "tuple" (ys.map fun(i:Nat)=>rawInt i).toArray 0)).push (bU a (.ref s.heap.objs.size) 0 es.size ep)).get? (s.heap.objs.size+1)=some (bU a (.ref s.heap.objs.size) 0 es.size ep):=by
   rw[←hs2]
   exact CL _ rfl
  refine h _ _ d _ _ _ (vM hA (s.heap.objs.size+1) a s.heap.objs.size (Di (Nat.lt_succ_of_lt hlt)) (Di (Nat.lt_succ_self _)) hd hf hq) ⟨g1,CK _ (CK _ ho),CK _ (CL _ rfl)⟩ (Nat.le_succ _) (fun c hc=>?_) (fun b o' e=>CK _ (CK _ e)) fun acc h1 h2=>?_
  ·rcases De.mp hc with z | z
   ·exact .inr (by rw[z];exact Nat.le_succ _)
   ·rcases De.mp z with z | z
    ·exact .inl z
    ·exact .inr (Nat.le_of_eq (CZ.mp z).symm)
  ·have hyl:ys.length=es.size:=by rw[hq.length_eq,List.length_range]
   have e0:acc.toList=(ys.filterMap (es[·]?)).map (·.2):=by
    apply List.ext_getElem?
    intro i
    rw[CP,Tb.hJ es ys (fun y hy=>List.mem_range.mp (hq.mem_iff.mp hy))]
    by_cases q1:i<acc.size
    ·have e1:=getElem?_pos acc i q1
     obtain⟨y,x,hy,hx,hv⟩:=h2 i acc[i] e1
     have e2:acc.toList[i]?=some acc[i]:=by rw[Array.getElem?_toList];exact e1
     rw[e2,hy,Option.bind_some,hx,hv]
     rfl
    ·have e2:acc.toList[i]?=none:=List.getElem?_eq_none (by rw[CS];omega)
     rw[e2,List.getElem?_eq_none (by rw[hyl,←h1];omega)]
     rfl
   rw[e0]
   refine List.Perm.map _ ?_
   have e3:(DM es.size).filterMap (es[·]?)=es.toList:=by
    apply List.ext_getElem?
    intro n
    have e4:es.toList[n]?=es[n]?:=Array.getElem?_toList
    rw[e4,Tb.hJ es _ (fun i hi=>List.mem_range.mp hi)]
    by_cases hn:n<es.size
    ·rw[List.getElem?_range hn]
     rfl
    ·have e5:(DM es.size)[n]?=none:=List.getElem?_eq_none (by rw[List.length_range];omega)
     rw[e5,Array.getElem?_eq_none (by omega)]
     rfl
   rw[←e3]
   exact hq.filterMap _
theorem xX{a:Addr}{o:Obj}{es:Array (Int×Value)}{ep:Nat}{t:SetTable}{Q:List Value->Shared->Prop}(hA:A.handled=none)(ho:s.heap.get? a=some o)(hex:o.ExactSet)(hd:o.data=.set es ep t)(hf:t.fits es.size=true)(hled:t.led=cC w)(hp:t.place.size=es.size)
  (hinc:t.place.toList.Pairwise (· < ·)) (hsz:es.size<=sizeLine) (hQ:∀(h':Heap) (tk:Nat) d (vs:List Value),vs.Perm (es.toList.map (·.2))->s.toks<=tk->s.heap.objs.size<h'.objs.size->(∀b o,b<s.heap.objs.size->s.heap.get? b=some o->h'.get? b=some o)->Q vs { s with heap:=h',toks:=tk,drawn:=d }):wpAny (model P w) A (collect (.ref a)) Q E s:=by
 have hlt:a<s.heap.objs.size:=CM ho
 unfold collect
 refine CH (wpAny_runValue (codeAny_builtin F.entry_proto_collect ?_))
 rw[Around.under_plainId F.plain_proto_collect _]
 show wpAny _ A.in1 (newList [] >>= fun l=>again (.builtin "list.__iadd__" ⟨[l,.ref a],[]⟩)) _ _ s
 refine CH (wpAny_newObj_type ?_)
 refine CI ⟨plainId_quiet F.plain_list_iadd _,codeAny_builtin F.entry_list_iadd ?_⟩
 rw[Around.under_plainId F.plain_list_iadd _]
 show wpAny _ A.in1 (Builtin.List.listExtendWith (.ref s.heap.objs.size) (.ref a) (.ref s.heap.objs.size)) _ _ { s with heap:=s.heap.push (seqObj "list" #[] 0) }
 unfold Builtin.List.listExtendWith
 have ho1:(s.heap.push (seqObj "list" #[] 0)).get? a=some o:=CK _ ho
 have hs1:(s.heap.push (seqObj "list" #[] 0)).objs.size=s.heap.objs.size+1:=Heap.size_push _ _
 refine CH (wpAny_typeOf (T:="set") ⟨o,ho1,hex.1⟩ ?_)
 have q1:Builtin.List.listSameRef (.ref s.heap.objs.size) (.ref a)=false:=by
  have:s.heap.objs.size≠a:=Nat.ne_of_gt hlt
  simp[Builtin.List.listSameRef,this]
 have q2:(Value.type "set" == Value.type "list")=false:=by decide
 have q3:(Value.type "set" == Value.type "tuple")=false:=by decide
 simp only[q1,q2,q3,Bool.or_false,DG,if_false]
 refine CH (Cd (s:={ s with heap:=s.heap.push (seqObj "list" #[] 0) }) (by simp[hA]) ho1 hex hd hf hled hp hinc hsz fun I h1 d fp Pz St W hst hI hfp hold hPm=>?_)
 have hI':s.heap.objs.size+1<=I:=by rw[←hs1];exact hI
 refine CH (wpAny_holding (zw (s:={ s with heap:=h1,drawn:=d }) ⟨o,hold _ _ ho1,hex.1⟩ ?_))
 rw[DQ (by first | rfl | decide +kernel | kernel_rfl)]
 refine CH (wpAny_rule ?_)
 have hS₁:h1.get? s.heap.objs.size=some (seqObj "list" #[] 0):=hold _ _ (CL _ rfl)
 refine CH ?_
 show wpAny _ A.in1 (updateSeq s.heap.objs.size (·.push .none) >>= fun _=>updateSeq s.heap.objs.size (·.pop)) _ _ { s with heap:=h1,drawn:=d }
 refine CH (wpAny_updateSeq hS₁ rfl ?_)
 have hS₂:=Heap.get?_update_self (Obj.mapSeq (·.push Value.none)) hS₁ rfl
 refine wpAny_updateSeq (s:={ s with heap:=h1.update s.heap.objs.size (Obj.mapSeq (·.push Value.none)),drawn:=d }) hS₂ rfl ?_
 have hS₃:=Heap.get?_update_self (Obj.mapSeq (·.pop)) hS₂ rfl
 have oth:∀b o,b≠s.heap.objs.size->h1.get? b=some o →
   ((h1.update s.heap.objs.size (Obj.mapSeq (·.push Value.none))).update s.heap.objs.size (Obj.mapSeq (·.pop))).get? b=some o:=
  fun b o hb e=>(Heap.get?_update_other _ _ (Ne.symm hb)).trans ((Heap.get?_update_other _ _ (Ne.symm hb)).trans e)
 refine CI ⟨plainId_quiet F.plain_extend_loop _,codeAny_extend_loopS W.toS hsz _ (fun z=>by
  rcases hfp _ z with e | e
  ·exact Nat.ne_of_gt hlt e
  ·rw[hs1]at e
   exact absurd e (Nat.not_succ_le_self _)) _ es.size 0 { s with heap:=(h1.update s.heap.objs.size (Obj.mapSeq (·.push Value.none))).update s.heap.objs.size (Obj.mapSeq (·.pop)),drawn:=d } _ _ rfl (Nat.zero_le _)
  (W.frame _ _ _ hst fun c hc o' e=>oth c o' (fun z=>by
   rcases hfp c hc with e | e
   ·rw[z]at e;exact Nat.ne_of_gt hlt e
   ·rw[z,hs1]at e;exact absurd e (Nat.not_succ_le_self _)) e) hS₃ (ItemsOf.nil _) fun s' acc' c' hm hS' hacc=>?_⟩
 show wpAny _ A (load s.heap.objs.size >>= _) _ _ s'
 refine CH (wpAny_load hS' ?_)
 obtain⟨h',g',d',tk',os'⟩:=s'
 have z1:g'=s.gens:=hm.gens
 have z2:d'=d:=hm.drawn
 have z3:os'=s.os:=hm.os
 subst z1 z2 z3
 refine CI (hQ h' tk' _ _ (hPm acc' hacc.1 hacc.2) hm.toks (CM hS') fun b o' hb e=>hm.heap b o' (fun z=>?_) (oth b o' (Di hb) ?_))
 ·rcases De.mp z with z | z
  ·exact Di hb z
  ·have z:=CZ.mp z
   rw[z]at hb
   exact absurd hb (Nat.not_lt.mpr (Nat.le_of_succ_le hI'))
 ·exact hold _ _ (CK _ e)
def cU(P:Program)(w:World)(h:Heap)(a:Addr)(S:Int->Bool)(n:Nat):Prop:=
 ∃o es ep t,h.get? a=some o/\o.ExactSet/\o.data=.set es ep t/\ElemsOf (PySem.intKind P w) es.toList/\(∀k,S k=true↔∃e∈es.toList,(PySem.intKind P w).is k e.2=true)/\es.size<scanBound/\t.fits es.size=true/\es.size=n/\t.led=cC w/\di t
theorem cU.store{h:Heap}{a:Addr}{o:Obj}{es es':Array (Int×Value)}{ep:Nat}{t t':SetTable}{S':Int->Bool}(ho:h.get? a=some o)(hex:o.ExactSet)(hd:o.data=.set es ep t)
  (hel:ElemsOf (PySem.intKind P w) es'.toList) (hmem:∀k,S' k=true↔∃e∈es'.toList,(PySem.intKind P w).is k e.2=true) (hb:es'.size<scanBound) (hf:t'.fits es'.size=true) (hl:t'.led=cC w) (hi:di t') :
  (h.update a (Obj.putSet es' t')).get? a=some { o with data:=.set es' (ep+1) t' }/\cU P w (h.update a (Obj.putSet es' t')) a S' es'.size:=by
 have hg:(h.update a (Obj.putSet es' t')).get? a=some { o with data:=.set es' (ep+1) t' }:=by
  have:=Heap.get?_update_self (Obj.putSet es' t') ho (by rw[putSet_of es' t' hd];rfl)
  rw[putSet_of es' t' hd]at this
  exact this
 exact⟨hg,_,es',ep+1,t',hg,hex,rfl,hel,hmem,hb,hf,rfl,hl,hi⟩
theorem qR {g : Bool → Sem Unit} (hg : ∀ (b : Bool) (s₁ : Shared) (Q' : Unit → Shared → Prop), Q' () s₁ → wpAny (model P w) A (g b) Q' E s₁)
    {a : Addr} {o : Obj} {es es1 : Array (Int × Value)} {ep : Nat} {t t2 : SetTable} {S' : Int → Bool} (ho : s.heap.get? a = some o) (hex : o.ExactSet) (hd : o.data = .set es ep t)
    (hel1 : ElemsOf (PySem.intKind P w) es1.toList) (hmem1 : ∀ k', S' k' = true ↔ ∃ e ∈ es1.toList, (PySem.intKind P w).is k' e.2 = true) (hb1 : es1.size < scanBound) (hf2 : t2.fits es1.size = true) (hl2 : t2.led = cC w) (hi2 : di t2) {wd : Bool} {R : Option Bool → Shared → Prop}
    (h : ∀ h', Heap.SameBut a s.heap h' → cU P w h' a S' es1.size → R (some true) { s with heap := h' }) :
    wpAny (model P w) A (do
        storeSet a es1 t2
        if (!wd && t2.tooFull) = true then do
            g (relayAll t2 es1 (SetTable.grown es1.size)).2.2
            storeSet a (relayAll t2 es1 (SetTable.grown es1.size)).1 (relayAll t2 es1 (SetTable.grown es1.size)).2.1
            pure (some true)
          else pure (some true)) R E s := by
  refine CH (wpAny_storeSet_of ho hd ?_ (fits_of_scanBound hb1))
  obtain ⟨ho1, hS1⟩ := cU.store (P := P) ho hex hd hel1 hmem1 hb1 hf2 hl2 hi2
  have hsb1 := Heap.SameBut.update s.heap a (Obj.putSet es1 t2)
  split
  · have hp := relayAll_perm t2 es1 (SetTable.grown es1.size)
    have hfr := relayAll_fits t2 es1 (SetTable.grown es1.size)
    obtain ⟨l1, l2⟩ := Cu t2 es1 (SetTable.grown es1.size)
    have hir := BM t2 es1 (SetTable.grown es1.size)
    generalize relayAll t2 es1 (SetTable.grown es1.size) = Rl at hp hfr l1 l2 hir ⊢
    obtain ⟨es2, t3, gave⟩ := Rl
    dsimp only at hp hfr l1 l2 hir ⊢
    have hsz : es2.size = es1.size := by rw [← CS, hp.length_eq, CS]
    refine CH (hg _ _ _ (CH (wpAny_storeSet_of ho1 rfl ?_ (fits_of_scanBound (by omega)))))
    obtain ⟨_, hS2⟩ := cU.store (P := P) (w := w) (S' := S') ho1 hex rfl (hel1.perm hp) (fun k' => (hmem1 k').trans ⟨fun ⟨e, he, q⟩ => ⟨e, hp.mem_iff.mpr he, q⟩, fun ⟨e, he, q⟩ => ⟨e, hp.mem_iff.mp he, q⟩⟩) (by omega) hfr (l1.trans hl2) hir
    rw [hsz] at hS2
    exact CI (h _ (hsb1.trans (Heap.SameBut.update _ a _)) hS2)
  · exact CI (h _ hsb1 hS1)
theorem Av{a:Addr}{S:Int->Bool}{n:Nat}{k:Int}{tk:Tok}{Q:Bool->Shared->Prop}(hS:cU P w s.heap a S n)(hroom:n+1<scanBound)
  (h:∀h' b,Heap.SameBut a s.heap h'->cU P w h' a (fun k'=>S k' || decide (k'=k)) (if S k then n else n+1)->Q b { s with heap:=h' }) :
  wpAny (model P w) A (setAddHashed a (.int k tk) ((PySem.intKind P w).hash k)) Q E s:=by
 obtain⟨o,es,ep,t,ho,hex,hd,hel,hmem,hb,hf,hn,hled,hinc⟩:=hS
 have hkey:(PySem.intKind P w).is k (.int k tk)=true:=qd k tk
 have hsc:(Value.int k tk).scannable=true:=rfl
 unfold setAddHashed setAddHashedIn
 refine wpAny_holding (CH (DK ho hd hf ?_))
 dsimp only
 rw[byScan_of hsc hb hel]
 simp only[↓reduceIte]
 unfold setAddByScan
 refine CH (CH (wpAny_rule (CH (wpAny_setScan_of hkey ho hd hf hel ?_))))
 cases hr:List.findIdx? (fun e=>(PySem.intKind P w).is k e.2) es.toList with
 | some j=>
  dsimp only
  obtain⟨hj,hpj,_⟩:=List.findIdx?_eq_some_iff_getElem.mp hr
  have hSk:S k=true:=(hmem k).mpr ⟨es.toList[j],Dr hj,hpj⟩
  refine CI (CI ?_)
  have e:s={ s with heap:=s.heap }:=by cases s;rfl
  rw[e]
  refine h s.heap _ (Heap.SameBut.refl a s.heap) ⟨o,es,ep,t,ho,hex,hd,hel,fun k'=>?_,hb,hf,by rw[hSk];exact hn,hled,hinc⟩
  rw[Bool.or_eq_true,decide_eq_true_eq,←hmem k']
  exact⟨fun hk=>hk.elim id (fun e=>e ▸ hSk),.inl⟩
 | none=>
  dsimp only
  have hSk:S k=false:=by
   cases hk:S k with
   | false=>rfl
   | true=>
    obtain⟨e,he,hp⟩:=(hmem k).mp hk
    have:=List.findIdx?_eq_none_iff.mp hr e he
    rw[hp]at this
    cases this
  have hgw:∀(b:Bool) {s₁:Shared} {Q':Unit->Shared->Prop},Q' () s₁->wpAny (model P w) A (match b with | true=>rule "set.scan.the-table-gave-way" | false=>pure ()) Q' E s₁:=
   fun b s₁ Q' hq=>by cases b<;>first | exact CI hq | exact wpAny_rule hq
  have hperm:=layNew_perm t es ((PySem.intKind P w).hash k) (.int k tk)
  have hfits:=layNew_fits t es ((PySem.intKind P w).hash k) (.int k tk)
  have hl1:=wg t es ((PySem.intKind P w).hash k) (.int k tk)
  have hi1:=zR hinc es ((PySem.intKind P w).hash k) (.int k tk)
  generalize layNew t es ((PySem.intKind P w).hash k) (.int k tk)=L at hperm hfits hl1 hi1 ⊢
  obtain⟨es1,t1,wd,gave⟩:=L
  dsimp only at hperm hfits hl1 hi1 ⊢
  rw[Array.toList_push]at hperm
  have hel1:ElemsOf (PySem.intKind P w) es1.toList:=(hel.push hkey hsc).perm hperm
  have hmem1:∀k',(S k' || decide (k'=k))=true↔∃e∈es1.toList,(PySem.intKind P w).is k' e.2=true:=mem_push_iff hkey hmem hperm
  have hsz1:es1.size=n+1:=by rw[←CS,hperm.length_eq,Dh,CS,hn];rfl
  refine CH (hgw _ ?_)
  have hend:∀h' b,Heap.SameBut a s.heap h'->cU P w h' a (fun k'=>S k' || decide (k'=k)) es1.size->Q b { s with heap:=h' }:=by
   intro h' b hsb hS'
   refine h h' b hsb ?_
   rw[hSk,DP Df,←hsz1]
   exact hS'
  by_cases htp:t1.plain=true
  ·rw[DQ htp]
   refine CH ?_
   rw[hashByValue_scannable 8 hsc]
   refine CI ?_
   rw[show plainKind (.int k tk)=true from rfl]
   simp only[if_true]
   refine qR ?_ ho hex hd hel1 hmem1 (by omega) hfits (hl1.trans hled) hi1 ?_
   ·intro b s₁ Q' hq
    cases b<;>first | exact CI hq | exact wpAny_rule hq
   ·intro h' hsb hS'
    dsimp only
    exact CI (hend h' _ hsb hS')
  ·rw[DP htp]
   refine CH (CI ?_)
   simp only[if_true]
   refine qR ?_ ho hex hd hel1 hmem1 (by omega) hfits (hl1.trans hled) hi1 ?_
   ·intro b s₁ Q' hq
    cases b<;>first | exact CI hq | exact wpAny_rule hq
   ·intro h' hsb hS'
    dsimp only
    exact CI (hend h' _ hsb hS')
end
section
variable {P:Program} {w:World} {A:Around} {E:Value->Shared->Prop} {s:Shared}
def dw(P:Program)(w:World)(h:Heap)(a:Addr)(D:List Int):Prop:=D.Nodup/\cU P w h a (fun k=>decide (k∈D)) D.length
theorem dw.elems{h:Heap}{a:Addr}{D:List Int}(hS:dw P w h a D):∃o es ep t ds,h.get? a=some o/\o.ExactSet/\o.data=.set es ep t/\t.fits es.size=true/\t.led=cC w/\di t/\es.size<scanBound/\es.size=D.length/\IntsAre (es.toList.map (·.2)) ds/\ds.Perm D:=by
 obtain⟨hnd,o,es,ep,t,ho,hex,hd,hel,hmem,hb,hf,hn,hled,hinc⟩:=hS
 obtain⟨ds,h1,h2⟩:=vf hel
 refine⟨o,es,ep,t,ds,ho,hex,hd,hf,hled,hinc,hb,hn,h1,w8 hnd (fun k hk=>?_) ?_⟩
 ·obtain⟨e,he,hke⟩:=(hmem k).mp (DO hk)
  exact h2 e he k hke
 ·rw[←IntsAre.length h1,CN,CS,hn]
theorem cU.moved{h h':Heap}{a:Addr}{S:Int->Bool}{n:Nat}(hS:cU P w h a S n)(hk:∀o,h.get? a=some o->h'.get? a=some o):cU P w h' a S n:=by
 obtain⟨o,es,ep,t,ho,r⟩:=hS
 exact⟨o,es,ep,t,hk _ ho,r⟩
theorem AL{h:Heap}{a:Addr}{D:List Int}{k:Int}(hd:D.Nodup)(hS:cU P w h a (fun k'=>decide (k'∈D) || decide (k'=k)) (if decide (k∈D)then D.length else D.length+1)):∃D',dw P w h a D'/\D'.length<=D.length+1/\∀x,x∈D'↔x∈D\/x=k:=by
 by_cases hk:k∈D
 ·refine⟨D,⟨hd,?_⟩,Nat.le_succ _,fun x=>⟨.inl,fun z=>z.elim id fun e=>e ▸ hk⟩⟩
  rw[DO hk,DQ rfl]at hS
  have e:(fun k'=>decide (k'∈D) || decide (k'=k))=fun k'=>decide (k'∈D):=by
   funext k'
   by_cases e:k'=k
   ·subst e;simp[hk]
   ·simp[e]
  rw[e]at hS
  exact hS
 ·refine⟨k::D,⟨List.nodup_cons.mpr ⟨hk,hd⟩,?_⟩,Dj _,fun x=>by rw[De];exact⟨fun z=>z.symm,fun z=>z.symm⟩⟩
  rw[DN hk,DP Df]at hS
  have e:(fun k'=>decide (k'∈D) || decide (k'=k))=fun k'=>decide (k'∈k::D):=by
   funext k'
   simp only[De]
   by_cases e:k'=k<;>by_cases e2:k'∈D<;>simp[e,e2]
  rw[e]at hS
  exact hS
theorem yZ{I:Addr}{fp wr:List Addr}{G:Array GenState->Array GenState->Prop}{n:Nat}{Pz:Nat->Value->Prop}{St:Nat->Shared->Prop}(W:WalksS P w A.in1 I fp wr G n Pz St)(S:Addr)(hS:S∉fp)(zs:List Int)(hnz:zs.length=n)(hsz:n+1<scanBound)
  (hval:∀i v,Pz i v->∃z t,v=.int z t/\zs[i]?=some z) {R:Result->Shared->Prop} :
  ∀(m i:Nat) (s:Shared) (D:List Int),n-i=m->i<=n->St i s->dw P w s.heap S D->D.length<=i->(∀k,k∈D↔k∈zs.take i) →
   (∀s' D,Moved (S::wr) G s s'->dw P w s'.heap S D->(∀k,k∈D↔k∈zs)->R (.ok (.ret .none)) s') →
   codeAny (model P w) A (.builtin "set.update.loop" ⟨[.ref S,.ref I],[]⟩) R s:=by
 have hSw:S∉wr:=fun z=>hS (W.sub _ z)
 have more:∀b∈wr,b∈S::wr:=fun b z=>CQ _ z
 intro m
 induction m with
 | zero=>
  intro i s D hm hi hst hset _ hD hR
  obtain rfl:i=n:=by omega
  refine codeAny_builtin F.entry_set_update_loop ?_
  rw[Around.under_plainId F.plain_set_update_loop _]
  show wpAny _ A.in1 (pyNext (.ref I) >>= _) _ _ s
  refine CH (W.done s _ _ hst fun s' mv=>?_)
  rw[←hnz,Dt]at hD
  exact CI (hR s' D (mv.mono more) ⟨hset.1,hset.2.moved fun o=>mv.heap S o hSw⟩ hD)
 | succ m ih=>
  intro i s D hm hi hst hset hDl hD hR
  have hlt:i<n:=by omega
  refine codeAny_builtin F.entry_set_update_loop ?_
  rw[Around.under_plainId F.plain_set_update_loop _]
  show wpAny _ A.in1 (pyNext (.ref I) >>= _) _ _ s
  refine CH (W.item i s _ _ hlt hst fun v s' hP hst' mv=>?_)
  obtain⟨z,t,rfl,hz⟩:=hval i v hP
  have hset':cU P w s'.heap S (fun k=>decide (k∈D)) D.length:=hset.2.moved fun o=>mv.heap S o hSw
  show wpAny _ A.in1 (holding [Value.int z t] (setAdd S (.int z t)) >>= _) _ _ s'
  refine CH (wpAny_holding ?_)
  unfold setAdd
  refine wpAny_holding (CH ((PySem.intKind P w).pyHash (k:=z) (qd z t) ?_))
  refine Av (s:={ s' with toks:=s'.toks+1 }) hset' (by omega) fun h' b sb hset2=>?_
  obtain⟨D',hD1,hD2,hD3⟩:=AL hset.1 hset2
  have htk:∀k,k∈D'↔k∈zs.take (i+1):=fun k=>by
   rw[hD3,hD k,List.take_add_one,hz,Dm]
   simp
  refine CI ⟨plainId_quiet F.plain_set_update_loop _,ih (i+1) _ D' (by omega) hlt (W.frame _ s' _ _ hst' (Nat.le_succ _) fun c hc o e=>?_) hD1 (by omega) htk fun s'' D2 mv2 hS2=>hR s'' D2 (Moved.trans W.gtrans ((mv.mono more).then_heap (Nat.le_succ _) fun c o hc e=>?_) mv2) hS2⟩
  ·rw[sb.2 c (fun z:c=S=>hS (z ▸ hc))]
   exact e
  ·rw[sb.2 c (fun z:c=S=>hc (by rw[z];exact CU))]
   exact e
theorem Cc{l:Addr}{ys:Array Value}{zs:List Int}{Q:Value->Shared->Prop}(hA:A.handled=none)(gt:s.heap.IsList l ys)(hz:IntsAre ys.toList zs)(hsz:ys.size+1<scanBound)
  (h:∀(h':Heap) (tk:Nat) (D:List Int),dw P w h' s.heap.objs.size D->(∀k,k∈D↔k∈zs)->(∀b o,b<s.heap.objs.size->s.heap.get? b=some o->h'.get? b=some o)->Q (.ref s.heap.objs.size) { s with heap:=h',toks:=tk }):wpAny (model P w) A (call (.type "set") [.ref l]) Q E s:=by
 have x1:=F.called_set.notType
 have x2:=F.called_set.canCreate
 have x3:=F.typeCall_set_1 (.ref l)
 have x4:=F.called_set.made
 have x5:=F.called_set.sub
 obtain⟨c,tl,x6⟩:=F.called_set.mro
 refine wpAny_call (codeAny_of_tree ?_)
 show wpAny _ _ (callAny (.type "set") _) _ _ _
 refine CI ⟨Code.quiet_builtin _ (by decide +kernel),codeAny_builtin F.entry_type_call ?_⟩
 rw[Around.under_plain (weight_type_call_type "set" [.ref l] []) rfl]
 repeat (any_goals (first | assumption | wp_step))
 refine codeAny_mono (By (.ref l) (E:=E) (Q₁:=fun v s1=>v=.ref s.heap.objs.size/\s1={ s with heap:=s.heap.push (bC (cC w)) }) ⟨rfl,rfl⟩) fun r s1 hr=>?_
 cases r with
 | error e=>exact hr
 | ok fl=>
  cases fl with
  | ret v=>
   obtain⟨rfl,rfl⟩:=hr
   have gS:(s.heap.push (bC (cC w))).get? s.heap.objs.size=some (bC (cC w)):=CL _ rfl
   have hT:Shared.TypeIs { s with heap:=s.heap.push (bC (cC w)) } (.ref s.heap.objs.size) "set":=⟨_,gS,rfl⟩
   have x7:=F.called_set.init.lookup
   have x8:=F.called_set.init.bind (.ref s.heap.objs.size)
   repeat (any_goals (first | assumption | wp_step))
   refine codeAny_mono (codeAny_call_builtin (R:=wants (fun r s2=>r=.none/\∃h' tk D,s2={ s with heap:=h',toks:=tk }/\dw P w h' s.heap.objs.size D/\(∀k,k∈D↔k∈zs)/\∀b o,b<s.heap.objs.size->s.heap.get? b=some o->h'.get? b=some o) E) F.called_set.init.plain F.entry_set_init (check_set_init_1 hT ?_)) fun r2 s2 hr2=>?_
   ·have g1:(s.heap.push (bC (cC w))).IsList l ys:=gt.push _
    have hlt:l<s.heap.objs.size:=by
     obtain⟨o,ho,_⟩:=gt
     exact CM ho
    obtain⟨ol,hol,hcl,nl,hdl⟩:=id g1
    obtain⟨c0,d0,dt,sl⟩:=ol
    simp only at hcl hdl
    subst hcl hdl
    have y1:=F.sub_list_set
    have y2:=F.sub_list_frozenset
    have y3:(Value.type "list" == Value.type "dict")=false:=by decide
    unfold Builtin.«set.__init__» noKeywords Builtin.Frozenset.updateFrom
    generalize hit:pyIter=PI
    wp_walk
    subst hit
    refine wpAny_pyIter_list g1 ?_
    refine CH (wpAny_runValue ?_)
    have e1:(s.heap.push (bC (cC w))).objs.size=s.heap.objs.size+1:=Heap.size_push _ _
    have hA3:A.in1.in1.in1.handled=none:=by simp[hA]
    have hne:l≠(s.heap.push (bC (cC w))).objs.size:=by
     rw[e1]
     exact Di (Nat.lt_succ_of_lt hlt)
    have hSf:s.heap.objs.size∉[(s.heap.push (bC (cC w))).objs.size,l]:=by
     intro z
     rcases De.mp z with z | z
     ·rw[e1]at z
      exact Di (Nat.lt_succ_self _) z
     ·exact Nat.ne_of_gt hlt (CZ.mp z)
    have hzl:zs.length=ys.size:=by rw[←IntsAre.length hz,CS]
    refine yZ ((Walks.list hA3 _ l hne ys).toS) s.heap.objs.size hSf zs hzl hsz (fun i v hv=>?_) (ys.size-0) 0 _ [] (by omega) (Nat.zero_le _) ⟨⟨_,CL _ rfl,rfl,rfl⟩,g1.push _⟩
     ⟨List.nodup_nil,bC (cC w),#[],0,_,CK _ gS,⟨rfl,rfl,rfl⟩,rfl,fun e he=>by simp at he,fun k=>by simp,by decide,by rfl,rfl,rfl,rfl,.nil⟩ (Dj _) (fun k=>by simp) fun s' D mv hS' hD=>?_
    ·exact oI hz i v (by rw[Array.getElem?_toList];exact hv)
    ·obtain⟨h',g',d',tk',os'⟩:=s'
     have q1:g'=s.gens:=mv.gens
     have q2:d'=s.drawn:=mv.drawn
     have q3:os'=s.os:=mv.os
     subst q1 q2 q3
     show wpAny _ _ _ _ _ _
     refine CI ?_
     show wpAny _ _ (ret Value.none) _ _ _
     refine CI ⟨rfl,h',tk',D,rfl,hS',hD,fun b o hb e=>mv.heap b o (fun z=>?_) (CK _ (CK _ e))⟩
     rcases De.mp z with z | z
     ·exact Di hb z
     ·have z:=CZ.mp z
      rw[e1]at z
      exact Di (Nat.lt_succ_of_lt hb) z
   ·cases r2 with
    | error e=>exact hr2
    | ok f2=>
     cases f2 with
     | ret r=>
      obtain⟨rfl,h',tk,D,rfl,hS',hD,hk⟩:=hr2
      repeat (any_goals (first | assumption | wp_step))
      exact h _ _ D hS' hD hk
     | _=>exact hr2.elim
  | _=>exact hr.elim
end
def intOf:Value->Int
 | .int z _=>z
 | _=>0
theorem ints_map:∀(vs:List Value),(∀v∈vs,∃z t,v=Value.int z t)->IntsAre vs (vs.map intOf)
 | [],_=>.nil
 | v::vs,h=>by
  obtain⟨z,t,rfl⟩:=h v CU
  exact .cons z t (ints_map vs fun u hu=>h u (CQ _ hu))
theorem oG:∀{vs:List Value} {zs:List Int},IntsAre vs zs->∀v∈vs,∃z t,v=Value.int z t
 | _,_,.nil,v,h=>by cases h
 | _,_,.cons z t r,v,h=>by
  rcases De.mp h with rfl | h
  ·exact⟨z,t,rfl⟩
  ·exact oG r v h
theorem tq:∀{vs:List Value} {zs:List Int},IntsAre vs zs->vs.map intOf=zs
 | _,_,.nil=>rfl
 | _,_,.cons z t r=>by
  show z::_=_
  rw[tq r]
section
variable {P:Program} {w:World} {A:Around} {E:Value->Shared->Prop} {s:Shared}
theorem wO{a:Addr}{D:List Int}{Q:List Value->Shared->Prop}(hA:A.handled=none)(hS:dw P w s.heap a D)
  (hQ:∀(h':Heap) (tk:Nat) d (vs:List Value) (ds:List Int),IntsAre vs ds->ds.Perm D->s.toks<=tk->s.heap.objs.size<h'.objs.size->(∀b o,b<s.heap.objs.size->s.heap.get? b=some o->h'.get? b=some o)->Q vs { s with heap:=h',toks:=tk,drawn:=d }):wpAny (model P w) A (collect (.ref a)) Q E s:=by
 obtain⟨o,es,ep,t,ds,ho,hex,hd,hf,hled,hinc,hb,hn,hs,hpm⟩:=hS.elems
 have hp:t.place.size=es.size:=by
  simp only[SetTable.fits,DA,beq_iff_eq,decide_eq_true_eq]at hf
  exact hf.1
 have hsz:es.size<=sizeLine:=Dv (Nat.le_of_lt hb) (by decide)
 have key:∀(h':Heap) (tk:Nat) d (vs:List Value),vs.Perm (es.toList.map (·.2))->s.toks<=tk->s.heap.objs.size<h'.objs.size->(∀b o,b<s.heap.objs.size->s.heap.get? b=some o->h'.get? b=some o)->Q vs { s with heap:=h',toks:=tk,drawn:=d }:=fun h' tk d vs hv q1 q2 q3=>by
  refine hQ h' tk d vs _ (ints_map vs fun v hv'=>oG hs v (hv.mem_iff.mp hv')) ?_ q1 q2 q3
  refine((hv.map intOf).trans (List.Perm.of_eq ?_)).trans hpm
  exact tq hs
 exact xX hA ho hex hd hf hled hp hinc.2 hsz key
theorem vt{a:Addr}{D:List Int}{Q:Value->Shared->Prop}(hA:A.handled=none)(hS:dw P w s.heap a D)(hD1:D.length<64)
  (h:∀(h':Heap) (tk:Nat) d (l:Addr) (vs:List Value) (ms:List Int),s.heap.objs.size<=l->(∃e,h'.get? l=some (seqObj "list" vs.toArray e))->IntsAre vs ms->ms.Perm D->ms.Pairwise (fun a b:Int=>a<=b)->s.toks<=tk →
   (∀b o,b<s.heap.objs.size->s.heap.get? b=some o->h'.get? b=some o)->Q (.ref l) { s with heap:=h',toks:=tk,drawn:=d }) :
  wpAny (model P w) A (call (.builtin "sorted") [.ref a]) Q E s:=by
 refine Calls.call_function_entry kind_sorted plain_sorted entry_sorted (args_sorted1 _) ?_
 unfold Builtin.«sorted»
 refine CH (m:=checkCount "sorted" 1 1 _) (CI ?_)
 refine CH (wO (by simp[hA]) hS fun h1 tk d vs ds hst hpm htk hsz1 hk1=>?_)
 have hvl:vs.length=D.length:=(IntsAre.length hst).trans hpm.length_eq
 refine CH (wpAny_newList ?_ (Dv (show vs.length<=64 by omega) (by decide)))
 have hoL:(h1.push (seqObj "list" vs.toArray 0)).get? h1.objs.size=some (seqObj "list" vs.toArray 0):=CL _ rfl
 refine CH (wpAny_holding (wpAny_call_entry slot_list_sort ⟨_,hoL,rfl⟩ entry_list_sort (list_sort_tree (s:={ s with heap:=h1.push (seqObj "list" vs.toArray 0),toks:=tk,drawn:=d }) hoL hst (by omega) fun out ns' q1 q2 q3=>⟨_,rfl,?_⟩) (args_list_sort _)))
 refine CI ⟨_,rfl,?_⟩
 refine h _ tk d h1.objs.size out.toList ns' (Nat.le_of_lt hsz1) ?_ q1 (q2.trans hpm) q3 htk fun b o' hb e=>?_
 ·obtain⟨e1,r1⟩:∃e1,((h1.push (seqObj "list" vs.toArray 0)).update h1.objs.size (Obj.mapSeq fun _=>#[])).get? h1.objs.size=some (seqObj "list" #[] e1):=⟨_,get?_update_seq hoL (fun _=>#[])⟩
  have r2:(((((h1.push (seqObj "list" vs.toArray 0)).update h1.objs.size (Obj.mapSeq fun _=>#[])).push (seqObj "tuple" vs.toArray 0)).push (seqObj "list" #[] 0))).get? h1.objs.size=some (seqObj "list" #[] e1):=CK _ (CK _ r1)
  have r3:=get?_update_seq r2 (fun _=>out)
  exact⟨_,by rw[Array.toArray_toList];exact r3⟩
 ·have hb1:b<h1.objs.size:=Nat.lt_trans hb hsz1
  have e1:=hk1 b o' hb e
  unfold sortedHeap
  refine(Heap.get?_update_other _ _ (Nat.ne_of_gt hb1)).trans (CK _ (CK _ ((Heap.get?_update_other _ _ (Nat.ne_of_gt hb1)).trans (CK _ e1))))
end
def setIO(P:Program)(w:World)(a:Addr)(D:List Int):HO:=.ext fun h=>dw P w h a D
theorem yB{P:Program}{w:World}{H:Hp}{h:Heap}{a:Addr}{D:List Int}(S:dw P w h a D):bP P w H h a (setIO P w a D):=by
 refine⟨S,?_,fun h1 h2 z k=>?_⟩
 ·obtain⟨_,o,es,ep,t,ho,_⟩:=S
  exact⟨o,ho⟩
 ·exact⟨z.1,z.2.moved k⟩
section
variable {X:Cx}
def xP(P:Program)(w:World):List V->Hp->VK->Prop:=fun xs H Q=>∃p zs,xs=[.ref p]/\H p=some (.lst (List.map V.int zs))/\zs.length<=4000 ∧
 ∀l D,H l=none->D.Nodup->(∀z,z∈D↔z∈zs)->Q (.ref l) (upd H l (setIO P w l D))
theorem call_setJ{k:Nat}(hr:Room k X.A):bH X (.type "set") (xP X.prog X.w):=by
 intro pins s σ H xs us Q I r h
 obtain⟨p,zs,rfl,hp,hz,q⟩:=h
 obtain⟨u,rfl,rx⟩:=vals1 r
 cases rx
 obtain⟨_,its,n,rv,gt⟩:=I.hok p _ hp
 have hst:=intsAre_of rv
 have hl:its.length=zs.length:=IntsAre.length hst
 refine Cc hr.hd (ys:=its.toArray) (zs:=zs) (show s.heap.IsList p _ from⟨_,gt,rfl,n,rfl⟩) hst (by rw[CT,hl];exact Nat.lt_of_le_of_lt (Nat.succ_le_succ hz) (by decide)) fun h' tk D hS hD hk=>?_
 have hfr:=I.hok.fresh (Dj _)
 exact⟨.ref s.heap.objs.size,_,I.laid (t':=tk) (fun b o e=>hk b o (CM e) e) (Dj _) (yB hS),rfl,q _ D hfr hS.1 hD⟩
def rSortJ(P:Program)(w:World):List V->Hp->VK->Prop:=fun xs H Q=>∃(p:Addr) (D:List Int),xs=[.ref p]/\H p=some (setIO P w p D)/\D.length<64 ∧
 ∀l ms,H l=none->ms.Perm D->ms.Pairwise (fun a b:Int=>a<=b)->Q (.ref l) (upd H l (.lst (List.map V.int ms)))
theorem call_sortJ{k:Nat}(hr:Room k X.A):bH X (.builtin "sorted") (rSortJ X.prog X.w):=by
 intro pins s σ H xs us Q I r h
 obtain⟨p,D,rfl,hp,hl,q⟩:=h
 obtain⟨u,rfl,rx⟩:=vals1 r
 cases rx
 obtain⟨hO,_⟩:=I.hok p _ hp
 refine vt hr.hd (show dw X.prog X.w s.heap p D from hO) hl fun h' tk d l vs ms hle hlst hst hpm hsr htk hk=>?_
 have hfr:=I.hok.fresh hle
 obtain⟨e,he⟩:=hlst
 refine⟨.ref l,_,((I.dr d).laid (t':=tk) (o:=.lst (ms.map V.int)) (fun b o e=>hk b o (CM e) e) hle ?_),rfl,q l ms hfr hpm hsr⟩
 exact⟨by rw[CN,hpm.length_eq];exact Dv (Nat.le_of_lt hl) (by decide),vs,e,ve hst,he⟩
end
end L2.Ti
namespace L2
open PySem PySem.Spec PyProof.Rows
section
variable {X:Cx} {pins:List (Addr×Obj)} {σ:St} {H:Hp} {s:Shared}
theorem mY{i:Nat}{y:Str}{py:Pos}{elt tg iter:Expr}{ifs:List Expr}{sc:Scope}{pos spos:Pos}(own:List Str)(js:List Nat){wi:TI}{g:TG}{tc:TT}{te:TE}(hN:X.N.Nodup)(hi':X.N[i]?=some y)(hx:Loc X.env.scope y)
  (hi:PI X tg iter wi) (hg:∀z,PG (cj X sc own js z) tg g) (ht:∀z,fg (cj X sc own js z) ifs tc)
  (he:∀z,PE (cj X sc own js z) elt te) (hsw:swapsWith (.ListComp elt [⟨tg,iter,ifs,0⟩] sc pos) (some (.Name y py)) spos.line X.env=pure true:=by rfl) (hc:X.calm=true:=by rfl) (hk:sc.kind=.function:=by rfl) (hb:dB sc X.env.scope=true:=by rfl) (hj:fE sc X.N js=true:=by rfl)
  (hs:∀x,foldedSetIterable iter X.env x=pure x:=by intro _;rfl) (hf:X.fn y=true\/X.env.scope.names.lookup y=some .local:=by first | exact .inl rfl | exact .inr rfl | assumption) :
  PS X (.Assign [.Name y py] (.ListComp elt [⟨tg,iter,ifs,0⟩] sc pos) spos) (j2 (i5 own.length js wi g tc te) (iG i)):=by
 intro pins s σ H D' I h
 rw[exec_Assign_Name_used _ _ _ _ hsw]
 refine CH (wpAny_standAt (CH ?_))
 show wpAny _ X.A (do let _ ←comprehension (.ListComp elt [⟨tg,iter,ifs,0⟩] sc pos) sc X.env _ (newList []) false (eval iter X.env) (some (assign (.Name y py) X.env))) _ _ s
 refine CH (wpAny_mono (wpAny_comprehension_free (use:=some (assign (.Name y py) X.env)) (Q:=fun _ s'=>SP X pins D' .next s') rfl hs (lx fun p hp hf=>I.ok.has p.1 (j7 hb hp hf)) hk (fun p hp hl=>um hb hp hl)
  (ax (hi pins s σ H _ I h) fun v s1 h1=>ax h1 fun itv s2 h2=>?_)) (fun _ s' hq=>CI (CI hq)) fun _ _ e=>e)
 obtain⟨it,fp,tn,J,H2,e,I2,T,st2,f2,W,w0,turn⟩:=h2
 subst e
 refine sR (Q:=fun x H1=>iG i x σ H1 D'.nx) (RR:=fun acc C=>compPost (model X.prog X.w) X.A X.xe (some (assign (.Name y py) X.env)) (fun _ s'=>SP X pins D' .next s') acc C) hk hb hj (fun _=>hg _) (fun _=>ht _) (fun _=>he _) I2 (fun C=>Turn.at_ (Y:=cj X sc own js ⟨_,_,_,C⟩) T hc) st2 f2 w0 turn ?_
 intro D C s' ys H' nD I' hC ⟨m,hm⟩ hCs q
 show wpAny _ X.A (assign (.Name y py) X.env (.ref D)) _ _ _
 refine wpAny_assign_Name (tU I' hN hi' hx (v:=.ref D) rfl (fun s'' I'' ⟨a,hsb,ha⟩=>?_) hf)
 obtain⟨f0,f1,f2,f3,f4,f5⟩:=hC
 have hac:a≠C:=by
  rcases ha with rfl | ha
  ·exact Ne.symm f1
  ·exact f4 y a ha
 refine⟨m,hm.sameBut hsb (Ne.symm hac),fun h' hs'=>?_⟩
 exact⟨_,_,I''.turned (t':=s''.toks) (it:=C) (fun b o hb' e=>(hs'.2 b hb').trans e) f0 f1 f3 f4 f5,q⟩
end
end L2
namespace L2
open PySem PySem.Spec PyProof.Rows
section
variable {X:Cx}
end
end L2
namespace L2
open PySem PySem.Spec PyProof.Rows
section
variable {X:Cx}
theorem tY:∀(l:List (Str×Tok)),Vals ((l.map (·.1)).map V.str) (strValues l)
 | []=>.nil
 | (x,t)::l=>.cons ⟨t,rfl⟩ (tY l)
def tX:V->List V->Hp->VK->Prop:=fun x vs H Q=>∃z y:Str,x=.str z/\vs=[.str y]/\(y.length == 0)=false/\z.length+2<=sizeLine/\∀l,H l=none->Q (.ref l) (upd H l (.lst ((Txt.split z y).map V.str)))
theorem jr:gE X "str.split" tX:=by
 intro pins s σ H x vs v us Q I rx rv h
 obtain⟨z,y,rfl,rfl,hy,hz,q⟩:=h
 obtain⟨t,rfl⟩:=rx
 obtain⟨u,rfl,t',rfl⟩:=vals1 rv
 have fin:∀(l:List (Str×Tok)) (k:Nat),l.map (·.1)=Txt.split z y->EP X pins σ Q (.ref s.heap.objs.size) { s with toks:=k,heap:=s.heap.push { cls:=.type "list",data:=.seq (strValues l).toArray } }:=fun l k e=>by
  have hn:=split_le z y
  have rel:=tY l
  have hln:l.length=(Txt.split z y).length:=by rw[←e,CN]
  rw[e]at rel
  refine⟨.ref s.heap.objs.size,_,I.laid (t':=k) (o:=.lst ((Txt.split z y).map V.str)) (fun b o eb=>CK _ eb) (Dj _) ⟨by rw[CN];omega,_,_,rel,CL _ rfl⟩,rfl,q _ (I.hok.fresh (Dj _))⟩
 cases h1:(decide (z.length<y.length) || decide (Builtin.Str.strKind z<Builtin.Str.strKind y))
 ·cases hf:(Builtin.Str.occurrences z y 0 z.length (z.length+1)).isEmpty
  ·have e:Txt.split z y=Builtin.Str.partsBetween z (Builtin.Str.occurrences z y 0 z.length (z.length+1)) y.length:=(DP (ne_true_of_eq_false h1)).trans (DP (ne_true_of_eq_false hf))
   refine call_meets F.slot_str_split (typeIs_str _ _ _) F.entry_str_split (F.args_str_split_2 _ _) (meets_str_split_sep z y t t' h1 hy hf (by omega) (by rw[←e];have:=split_le z y;omega)) ?_
   show wants (EP X pins σ Q) X.xe _ { s with toks:=_,heap:=s.heap.push { cls:=.type "list",data:=.seq (strsFrom s.toks (Builtin.Str.partsBetween z (Builtin.Str.occurrences z y 0 z.length (z.length+1)) y.length)).toArray } }
   rw[strsFrom_eq]
   exact fin _ _ ((numbered_texts _ _).trans e.symm)
  ·exact call_meets F.slot_str_split (typeIs_str _ _ _) F.entry_str_split (F.args_str_split_2 _ _) (meets_str_split_not_found z y t t' h1 hy hf) (fin [(z,t)] s.toks ((DP (ne_true_of_eq_false h1)).trans (DQ hf)).symm)
 ·exact call_meets F.slot_str_split (typeIs_str _ _ _) F.entry_str_split (F.args_str_split_2 _ _) (meets_str_split_cannot_occur z y t t' h1) (fin [(z,t)] s.toks (DQ h1).symm)
theorem Cb:bH X (.type "int") (fun xs H Q=>∃z n,xs=[.str z]/\PySem.intText? z=some n/\z.length<=640/\Q (.int n) H):=by
 intro pins s σ H xs us Q I r h
 obtain⟨z,n,rfl,hn,hl,q⟩:=h
 obtain⟨u,rfl,t,rfl⟩:=vals1 r
 exact PySem.W.KIN.call_text hn hl ⟨.int n,H,I.tok _,⟨_,rfl⟩,q⟩
end
theorem zQ{z:Str}{n:Nat}{js:List Nat}{g:TG}{tc:TT}{te:TE}{Q:VK}{σ:St}{H:Hp}(Pv:Nat->List V->Hp->Prop)(hz:z.cps.size<=sizeLine)(h0:Pv 0 [] H)(hl:∀i ys H,i<=z.cps.size->Pv i ys H->ys.length<=i)
  (hs:∀i c ys H,z.cps[i]?=some c->Pv i ys H->g (.str ⟨#[c]⟩) (bT n js σ) H fun σ2 H3=>tc σ2 H3 fun b H4=>if b=true then te σ2 H4 fun v H5=>Pv (i+1) (ys++[v]) H5 else Pv (i+1) ys H4)
  (hd:∀ys H p,Pv z.cps.size ys H->H p=none->Q (.ref p) (upd H p (.lst ys))):fD (iu z) n js g tc te σ H Q:=by
 refine⟨fun i m ys H=>m=z.cps.size-i/\i<=z.cps.size/\Pv i ys H,⟨_,rfl,Nat.zero_le _,h0⟩,?_⟩
 rintro i m ys H ⟨rfl,hi,p⟩
 have q:=hl i ys H hi p
 rcases DH i z.cps.size with l | l
 ·refine .inr ⟨l,by omega,Pv (i+1),fun ys' H' p'=>⟨z.cps.size-(i+1),by omega,rfl,l,p'⟩,?_⟩
  rintro x H' ⟨rfl,c,hc,rfl⟩
  exact hs i c ys H' hc p
 ·have:i=z.cps.size:=by omega
  subst this
  exact .inl ⟨l,fun p' hp=>hd ys H p' p hp⟩
end L2
namespace L2
open PySem PySem.Spec PyProof.Rows PySem.SeqAt PySem.MeetsSeq
theorem Aq(l:Addr)(items:Array Value)(n:Nat)(dd:Option Addr)(sl:Array (Option Value))(x:Value)(e:Value->Bool)(st j:Nat)(t:Tok)(hst:st<=j)(hj:j<items.size)(hsmall:(j:Int)<2 ^ 63-1)
  (hit:e items[j]=true) (hno:∀m (hm:m<items.size),st<=m->m<j->e items[m]=false) :
  Meets (Builtin.«list.index» ⟨[.ref l,x,.int (st:Nat) t],[]⟩)
   (fun A R s=>s.heap.get? l=some { cls:=.type "list",dict:=dd,data:=.seq items n,slots:=sl }/\(∀y,y∈items->EqAt A.in1 s y x (e y))/\R (.ok (.ret (.int j s.toks))) { s with toks:=s.toks+1 }):=by
 intro prog w A R s h
 obtain⟨hp,g,d,tk,os⟩:=s;obtain⟨hl,he,h⟩:=h
 wp_walk using wpAny_loadPart' hl
 have a1:((fun i:Int=>if i<0 then max 0 (i+(items.size:Int))else i) ((some (st:Int)).getD 0))=((st:Nat):Int):=DP (by show ¬(st:Int)<0;omega)
 have a2:((fun i:Int=>if i<0 then max 0 (i+(items.size:Int))else i) ((none:Option Int).getD (2 ^ 63-1)))=2 ^ 63-1:=by simp
 rw[a1,a2]
 exact⟨plainId_quiet plain_index_loop _,codeAny_builtin entry_index_loop (by
  rw[Around.under_plainId plain_index_loop _]
  exact index_loopAt l items n dd sl x e (2 ^ 63-1) j hj hsmall hit _ st rfl hst hno prog w A R _ ⟨hl,he,h⟩)⟩
theorem countIn_strs(k:Str):∀ys:List Str,countIn (.str k) (ys.map PyData.str)=(ys.count k:Nat)
 | []=>rfl
 | y::ys=>by
  rw[List.map_cons,countIn,List.count_cons,countIn_strs k ys]
  simp only[same]
  rcases Bool.eq_false_or_eq_true (y == k)with hb | hb<;>simp only[hb,DG,if_true,if_false]<;>push_cast<;>omega
section
variable {X:Cx}
def BH(K:CJ):V->List V->Hp->VK->Prop:=fun x vs H Q=>∃l zs y,x=.ref l/\vs=[.str y]/\ai K H l (List.map V.str zs)/\Q (.int (zs.count y:Nat)) H
theorem wY(K:CJ)(hK:X.K=K:=by rfl):gE X "list.count" (BH K):=by
 subst hK
 intro pins s σ H x vs v us Q I rx rv h
 obtain⟨l,zs,y,rfl,rfl,hl,q⟩:=h
 cases rx
 obtain⟨u,rfl,t,rfl⟩:=vals1 rv
 obtain⟨its,r,pl,hsz⟩:=I.list hl
 refine count_list_strs pl.isList (jL r) ?_
 rw[countIn_strs]
 exact⟨.int _,H,I.tok _,⟨_,rfl⟩,q⟩
def vw(K:CJ):V->List V->Hp->VK->Prop:=fun x vs H Q=>∃l zs y,∃st j:Nat,x=.ref l/\(vs=[.str y]/\st=0\/vs=[.str y,.int (st:Nat)])/\ai K H l (List.map V.str zs)/\st<=j/\zs[j]?=some y/\(∀m,st<=m->m<j->zs[m]?≠some y)/\Q (.int (j:Nat)) H
theorem rZ(K:CJ)(hK:X.K=K:=by rfl):gE X "list.index" (vw K):=by
 subst hK
 intro pins s σ H x vs v us Q I rx rv h
 obtain⟨l,zs,y,st,j,rfl,hv,hl,hst,hj,hno,q⟩:=h
 cases rx
 obtain⟨its,r,pl,hsz⟩:=I.list hl
 have hS:=jL r
 obtain⟨⟨cls,dd,data,sl⟩,ho,hc,n,hd⟩:=pl.isList
 simp only at hc hd
 subst hc hd
 have hlen:zs.length=its.length:=by have:=r.length;simpa using this
 have hz0:its.toArray.size=its.length:=CT
 have at_:∀m (hm:m<its.toArray.size),∃z u,zs[m]?=some z/\its.toArray[m]=Value.str z u:=fun m hm=>by
  have hz:zs[m]?=some (zs[m]'(by omega)):=CO (by omega)
  obtain⟨u,h1,t,rfl⟩:=Vals.get (i:=m) (x:=.str (zs[m]'(by omega))) r (by rw[CP,hz];rfl)
  refine⟨_,t,hz,?_⟩
  rw[List.getElem_toArray]
  rw[CO (by omega)]at h1
  exact DC h1
 have jl:j<its.toArray.size:=by have:=(CW.mp hj).1;omega
 have hsz':its.length<=sizeLine:=by rw[CN]at hsz;omega
 rw[sizeLine_eq]at hsz'
 have hit:isStrOf y its.toArray[j]=true:=by
  obtain⟨z,u,h1,h2⟩:=at_ j jl
  rw[hj]at h1
  cases h1
  rw[h2]
  simp[isStrOf]
 have hn:∀m (hm:m<its.toArray.size),st<=m->m<j->isStrOf y its.toArray[m]=false:=fun m hm h1 h2=>by
  obtain⟨z,u,h3,h4⟩:=at_ m hm
  rw[h4]
  have:z≠y:=fun e=>hno m h1 h2 (by rw[h3,e])
  simpa[isStrOf]using this
 have eqs:∀t',∀v∈its.toArray,EqAt X.A.in1 s v (.str y t') (isStrOf y v):=fun t' v hv=>(eq_isStrOf y t' hS v (by simpa using hv)).at _ _
 rcases hv with⟨rfl,rfl⟩ | rfl
 ·obtain⟨u,rfl,t,rfl⟩:=vals1 rv
  exact call_meets PySem.F.slot_list_index ⟨_,ho,rfl⟩ PySem.F.entry_list_index (PySem.F.args_list_index_2 _ _) (list_indexAt l its.toArray n dd sl (.str y t) (isStrOf y) j jl (by omega) hit fun m hm h=>hn m hm (Nat.zero_le _) h) ⟨ho,fun v hv=>eqs _ v hv,.int _,H,I.tok _,⟨_,rfl⟩,q⟩
 ·obtain⟨u,w',rfl,⟨t,rfl⟩,⟨t',rfl⟩⟩:=vals2 rv
  exact call_meets PySem.F.slot_list_index ⟨_,ho,rfl⟩ PySem.F.entry_list_index (PySem.F.args_list_index_3 _ _ _) (Aq l its.toArray n dd sl (.str y t) (isStrOf y) st j t' hst jl (by omega) hit hn) ⟨ho,fun v hv=>eqs _ v hv,.int _,H,I.tok _,⟨_,rfl⟩,q⟩
end
end L2
namespace L2
open PySem PySem.Spec PyProof.Rows
section
variable {X:Cx}
abbrev gX(i c:Int)(n:Nat):List V:=(DM n).map fun k:Nat=>V.int (i+(k:Int)*c)
def oK:List V->Hp->VK->Prop:=fun vs H Q=>∃i j c:Int,vs=[.int i,.int j,.int c]/\mf i j c/\cP i j c<=2 ^ 20/\cY H (.tup (gX i c (cP i j c))) Q
def su(ta:TA):TE:=fun σ H Q=>ta σ H fun vs H1=>oK vs H1 Q
theorem uh{a b c:Expr}{ta:TA}{p p2 pos pos2:Pos}(hc:X.calm=true)(hg:Gl X "tuple")(hm:X.mg "tuple" = none)(hg2:Gl X "range")(hm2:X.mg "range" = none)(ha:PA X [a,b,c] ta)
  (hs:starEach [a,b,c] X.env=[(false,eval a X.env),(false,eval b X.env),(false,eval c X.env)]:=by rfl) (hs2:starEach [b,c] X.env=[(false,eval b X.env),(false,eval c X.env)]:=by rfl)
  (h2:starEach [.Call (.Name "range" p2) [a,b,c] [] pos2] X.env=(false,eval (.Call (.Name "range" p2) [a,b,c] [] pos2) X.env)::starEach [] X.env:=by rfl) :
  PE X (.Call (.Name "tuple" p) [.Call (.Name "range" p2) [a,b,c] [] pos2] [] pos) (su ta):=by
 intro pins s σ H Q I h
 refine wpAny_Call_Name_kw (fM I hg hm PyProof.Rows.boot_tuple ?_ (by decide) (by decide))
 refine PyProof.Rows.callWith_type1 ?_ h2 rfl
 rw[h2]
 show wpAny _ _ (spliced ((false,eval (.Call (.Name "range" p2) [a,b,c] [] pos2) X.env)::backTo pos (starEach [] X.env))) _ _ s
 refine Calls.spliced_cons ?_
 refine wpAny_Call_Name_kw (fM I hg2 hm2 boot_range (PyProof.Rows.callWith_type1 (ax (ha pos2 pins s σ H _ I h) fun us s1 ⟨vs,H1,I1,r1,q1⟩=>?_) (by rw[hs,hs2]) (by rw[hs2];rfl)) (by decide) (by decide))
 obtain⟨i,j,c,e,hsm,hlen,q⟩:=q1
 subst e
 cases r1 with
 | cons r rr=>
  cases rr with
  | cons r' rr=>
   cases rr with
   | cons r'' rr=>
    cases rr
    obtain⟨t,rfl⟩:=r
    obtain⟨t',rfl⟩:=r'
    obtain⟨t'',rfl⟩:=r''
    have h0:c≠0:=hsm.2.2.2
    have h5:c.natAbs<1073741824:=by have:=hsm.2.2.1;omega
    refine call_range_3 h0 ?_ (.inl (PyProof.noPylong_small h5))
    refine Calls.spliced_nil ?_
    have hsz:Builtin.Range.rangeSize i j c=(cP i j c:Nat):=wR i j c h0
    generalize cP i j c=n at hsz hlen q
    refine CA (n:=n) (I1.ok.hd hc) (IsRange.new ..) (Ao hsm) hsz (by omega) fun h' tk acc hk hacc=>?_
    have hk':∀b o,s1.heap.get? b=some o->h'.get? b=some o:=fun b o e=>hk b o (CK _ e)
    have I2:Inv X pins σ H1 { s1 with heap:=h',toks:=tk }:=I1.kept hk'
    have hl:(gX i c n).length=n:=by rw[CN,List.length_range]
    have hv:Vals (gX i c n) acc.toList:=by
     refine tm (by rw[hl,CS,hacc.1]) fun k x u hx hu=>?_
     rw[CP]at hx
     rw[Array.getElem?_toList]at hu
     obtain⟨t,rfl⟩:=hacc.2 k u hu
     by_cases hi:k<n
     ·rw[List.getElem?_range hi]at hx
      cases hx
      exact⟨t,rfl⟩
     ·rw[List.getElem?_eq_none (by rw[List.length_range];omega)]at hx
      cases hx
    have I3:Inv X pins σ (upd H1 h'.objs.size (.tup (gX i c n))) { s1 with heap:=h'.push { cls:=.type "tuple",data:=.seq acc },toks:=tk }:=
     I2.laid (t':=tk) (fun b o e=>CK _ e) (Dj _) (show bP X.prog X.w _ _ _ (.tup (gX i c n))from⟨by rw[hl,sizeLine_eq];omega,acc.toList,hv,by rw[Array.toArray_toList];exact IsTup.new _ _⟩)
    exact⟨.ref h'.objs.size,_,I3,rfl,q _ (I2.hok.fresh (Dj _))⟩
theorem pq{ta:TA}{σ:St}{H:Hp}{Q:VK}(h:ta σ H fun vs H1=>oK vs H1 Q):su ta σ H Q:=h
end
end L2
namespace Tx
open PySem
abbrev aR(n:Int):Str:=DB (toString n)
theorem rX{c:Nat}:∀{p q X Y:List Nat},c∉p->c∉q->p++c::X=q++c::Y->p=q/\X=Y
 | [],[],_,_,_,_,h=>⟨rfl,(List.cons.inj h).2⟩
 | [],b::q,_,_,_,hq,h=>absurd (show c∈b::q by rw[(List.cons.inj h).1];exact CU) hq
 | a::p,[],_,_,hp,_,h=>absurd (show c∈a::p by rw[←(List.cons.inj h).1];exact CU) hp
 | a::p,b::q,_,_,hp,hq,h=>by
  obtain⟨e,h⟩:=List.cons.inj h
  obtain⟨e1,e2⟩:=rX (fun z=>hp (CQ _ z)) (fun z=>hq (CQ _ z)) h
  exact⟨by rw[e,e1],e2⟩
theorem iD(c:Nat)(p q:Str)(r:List Str):(Str.join ⟨#[c]⟩ (p::q::r)).cps.toList=p.cps.toList++c::(Str.join ⟨#[c]⟩ (q::r)).cps.toList:=by
 show((p++(⟨#[c]⟩:Str))++Str.join ⟨#[c]⟩ (q::r)).cps.toList=_
 rw[Str.cps_append,Str.cps_append]
 simp
theorem uS{p q:Str}(h:p.cps.toList=q.cps.toList):p=q:=Str.ext' (Array.toList_inj.mp h)
theorem qE{c:Nat}:∀{ps qs:List Str},ps≠[]->qs≠[]->(∀p∈ps,c∉p.cps.toList)->(∀q∈qs,c∉q.cps.toList)->Str.join ⟨#[c]⟩ ps=Str.join ⟨#[c]⟩ qs->ps=qs
 | [],_,h,_,_,_,_=>absurd rfl h
 | _::_,[],_,h,_,_,_=>absurd rfl h
 | [p],[q],_,_,_,_,h=>by rw[show p=q from h]
 | [p],q::q2::qs,_,_,hp,_,h=>by
  have e:p.cps.toList=_:=(congrArg (fun z:Str=>z.cps.toList) h).trans (iD c q q2 qs)
  exact absurd (by rw[e];simp) (hp p CU)
 | p::p2::ps,[q],_,_,_,hq,h=>by
  have e:q.cps.toList=_:=(congrArg (fun z:Str=>z.cps.toList) h.symm).trans (iD c p p2 ps)
  exact absurd (by rw[e];simp) (hq q CU)
 | p::p2::ps,q::q2::qs,_,_,hp,hq,h=>by
  have e:=(iD c p p2 ps).symm.trans ((congrArg (fun z:Str=>z.cps.toList) h).trans (iD c q q2 qs))
  obtain⟨e1,e2⟩:=rX (hp p CU) (hq q CU) e
  rw[uS e1,qE (List.cons_ne_nil _ _) (List.cons_ne_nil _ _) (fun z hz=>hp z (CQ _ hz)) (fun z hz=>hq z (CQ _ hz)) (uS e2)]
theorem iY{c:Nat}{ps:List Str}(hn:ps≠[])(hf:∀p∈ps,c∉p.cps.toList):Txt.split (Str.join ⟨#[c]⟩ ps) ⟨#[c]⟩=ps:=
 qE (fun h=>by have:=PyProof.Rows.split_pos (Str.join ⟨#[c]⟩ ps) ⟨#[c]⟩;rw[h]at this;cases this) hn (StrLaws.split_free _ c) hf (StrLaws.join_split _ _)
theorem gD(c:Nat)(ps:List Str):Txt.join ⟨#[c]⟩ ps=Str.join ⟨#[c]⟩ ps:=StrLaws.glued_eq_join _ _
theorem il{n:Int}(h:0<=n){c:Nat}(hc:c∈(aR n).cps.toList):48<=c/\c<=57:=by
 obtain⟨m,rfl⟩:=Int.eq_ofNat_of_zero_le h
 rw[W.KIN.signs_num]at hc
 obtain⟨ch,hch,rfl⟩:=List.mem_map.mp hc
 exact PyProof.Rows.digit_range (Nat.isDigit_of_mem_toDigits (by decide) (by decide) hch)
theorem xj{n:Int}(h:0<=n):1<=(aR n).length:=by
 obtain⟨m,rfl⟩:=Int.eq_ofNat_of_zero_le h
 have:(aR (m:Nat)).cps.toList.length=(aR (m:Nat)).length:=CS
 rw[←this,W.KIN.signs_num,CN]
 exact PyProof.Rows.tDigits_len_ge 10 m
theorem cG{n:Int}(h:0<=n)(h6:n<1000000):(aR n).length<=6:=by
 obtain⟨m,rfl⟩:=Int.eq_ofNat_of_zero_le h
 have:(aR (m:Nat)).cps.toList.length=(aR (m:Nat)).length:=CS
 rw[←this,W.KIN.signs_num,CN]
 exact PyProof.Rows.digits10_le (by decide) (show m<10 ^ 6 by omega)
theorem zG(m:Nat):1<=m->∀r,Nat.toDigits 10 m≠'0'::r:=by
 induction m using Nat.strongRecOn with
 | _ m ih=>
  intro h1 r e
  by_cases h:m<10
  ·rw[Nat.toDigits_of_lt_base h]at e
   have e1:=(List.cons.inj e).1
   have:∀d:Nat,d<10->1<=d->Nat.digitChar d≠'0':=by decide
   exact this m h h1 e1
  ·have hm:m % 10<10:=Nat.mod_lt m (by decide)
   have t:Nat.toDigits 10 (m / 10)++Nat.toDigits 10 (m % 10)=Nat.toDigits 10 (10*(m / 10)+m % 10):=Nat.toDigits_append_toDigits (by decide) (by omega) hm
   rw[Nat.div_add_mod]at t
   rw[←t]at e
   cases k:Nat.toDigits 10 (m / 10)with
   | nil=>have:=PyProof.Rows.tDigits_len_ge 10 (m / 10);rw[k]at this;cases this
   | cons a l=>
    rw[k]at e
    have ea:a='0':=(List.cons.inj e).1
    exact ih (m / 10) (by omega) (by omega) l (by rw[k,ea])
theorem wj{n:Int}(h:0<=n):aR n=⟨#[48]⟩\/∀r,(aR n).cps.toList≠48::r:=by
 obtain⟨m,rfl⟩:=Int.eq_ofNat_of_zero_le h
 by_cases hm:m=0
 ·subst hm;exact .inl (by decide)
 ·refine .inr fun r e=>?_
  rw[W.KIN.signs_num]at e
  cases k:Nat.toDigits 10 m with
  | nil=>rw[k]at e;cases e
  | cons a l=>
   rw[k]at e
   have ea:a.toNat=48:=(List.cons.inj e).1
   have:a='0':=Char.toNat_inj.mp ea
   exact zG m (by omega) l (by rw[k,this])
theorem yn{n:Int}(h:0<=n)(h6:n<1000000):intText? (aR n)=some n:=W.KIN.num_reads h (by omega)
theorem h7{n:Int}(h:0<=n){c:Nat}(hc:c<48\/57<c):c∉(aR n).cps.toList:=fun z=>by have:=il h z;omega
end Tx
namespace St
def cM(lo hi:Int)(xs:List Int):Prop:=xs.Pairwise (· < ·)/\∀x∈xs,lo<=x/\x<hi
structure Ok(b s:Int)(o a:List Int):Prop where
 hb:0<=b
 hs:1<=s
 ho:cM 0 b o
 ha:cM b (b+s) a
section
variable {b s:Int} {o a:List Int}
end
end St
namespace St
end St
namespace St
end St
namespace St
end St
namespace St
end St
namespace Bfs
section
variable (nx:Pl->Nat->Option Pl) (s:Pl)
variable {nx s}
end
end Bfs
namespace Bfs
end Bfs
namespace Bfs
end Bfs
namespace My
open PySem L2 St
def stq (i : Nat) : Stmt := PySem.Challenge.pw_stairrooms_k17_written_and_read.main.body.getD i (.Pass ⟨0, 0, 0, 0⟩)
local macro_rules | `(tactic| walk_at "cond") => `(tactic| first | decide | omega | (dsimp only; omega) | (unfold jx; omega) | (unfold p6; exact ⟨by decide, by decide, by decide⟩) | (dsimp only; exact ⟨by omega, by omega⟩) | exact .inr ⟨by decide, by decide⟩ | exact .inl ⟨by decide, by decide⟩ | (unfold mf; omega))
local macro_rules | `(tactic| walk_at "r") => do
 let ts ← ("seq ret retN asg drop ifS next name var c op un CB cons nil ints test B exb not and or andV orV notV ifE yes I0 I U EqI NeI EqB NeB call BM tup lst sl noPart part exi chain comp iL iT i1 i2 i3 for tTru intB max2 min2 sub gcons gnil aug ipI zip rev par par2 lam calV raise fs try bseq bnext bplain bif bcall enum gget gin revL leS disp dget lrev disp1 din dnin dput min3 iS iD bm0 revS iD2 iLT thaw iD3 iDL dgt2 fs3 fs5".splitOn " ").toArray.mapM fun n =>
  let i := Lean.mkIdent (.mkSimple ("rd_" ++ n))
  if n == "var" || n == "aug" then `(tacticSeq| ((with_reducible apply $i); (exact rfl)))
  else if n == "I" then `(tacticSeq| ((with_reducible apply $i); (walk_at "cond")))
  else `(tacticSeq| with_reducible refine $i ?_)
 `(tactic| repeat (first $[| $ts]* | dsimp only))
structure Blt(mg:Str->Option Value):Prop where
 len_:mg "len" = none
 isinstance_:mg "isinstance" = none
 tuple_:mg "tuple" = none
 list_:mg "list" = none
 int_:mg "int" = none
 bool_:mg "bool" = none
 range_:mg "range" = none
 zip_:mg "zip" = none
 max_:mg "max" = none
 min_:mg "min" = none
 abs_:mg "abs" = none
 all_:mg "all" = none
 ValueError_:mg "ValueError" = none
 set_:mg "set" = none
 str_:mg "str" = none
 sorted_:mg "sorted" = none
abbrev gC:List Str:=["NoHouse","NoPlace","NoStair","NoText","StairError","TooGreat"]
abbrev fT:List Str:=["NoStair","TooGreat"]
def isInt:V->Bool
 | .int _=>true
 | _=>false
def isStr:V->Bool
 | .str _=>true
 | _=>false
def isTup(H:Hp):V->Bool
 | .ref p=>match H p with
  | some (.tup _)=>true
  | _=>false
 | _=>false
theorem rT{H:Hp}{v:V}{n:String}(h:bJ H v n):∃b c,eE n "int" = some b/\eE n "bool" = some c/\(b && !c)=isInt v:=by
 cases v with
 | non=>cases(show n = "NoneType" from h);exact⟨_,_,rfl,rfl,rfl⟩
 | bl b=>cases(show n = "bool" from h);exact⟨_,_,rfl,rfl,rfl⟩
 | int i=>cases(show n = "int" from h);exact⟨_,_,rfl,rfl,rfl⟩
 | str z=>cases(show n = "str" from h);exact⟨_,_,rfl,rfl,rfl⟩
 | ref a=>rcases h with⟨rfl,xs,e⟩ | ⟨rfl,xs,e⟩<;>exact⟨_,_,rfl,rfl,rfl⟩
 | _=>exact False.elim h
theorem jd{H:Hp}{v:V}{n:String}(h:bJ H v n):eE n "str" = some (isStr v):=by
 cases v with
 | non=>cases(show n = "NoneType" from h);rfl
 | bl b=>cases(show n = "bool" from h);rfl
 | int i=>cases(show n = "int" from h);rfl
 | str z=>cases(show n = "str" from h);rfl
 | ref a=>rcases h with⟨rfl,xs,e⟩ | ⟨rfl,xs,e⟩<;>rfl
 | _=>exact False.elim h
theorem gJ{H:Hp}{v:V}{n:String}(h:bJ H v n):eE n "tuple" = some (isTup H v):=by
 cases v with
 | non=>cases(show n = "NoneType" from h);rfl
 | bl b=>cases(show n = "bool" from h);rfl
 | int i=>cases(show n = "int" from h);rfl
 | str z=>cases(show n = "str" from h);rfl
 | ref a=>rcases h with⟨rfl,xs,e⟩ | ⟨rfl,xs,e⟩<;>(unfold isTup;dsimp only;rw[e];rfl)
 | _=>exact False.elim h
def bM(H:Hp):Nat->V->Prop
 | _,.non=>True
 | _,.bl _=>True
 | _,.int _=>True
 | _,.str z=>z.length<=1000
 | 0,.ref _=>False
 | n+1,.ref p=>∃xs,(H p=some (.tup xs)\/H p=some (.lst xs))/\xs.length<=2000/\∀x∈xs,bM H n x
 | _,_=>False
theorem bM.ext{H H':Hp}(e:Ext H H'):∀{n:Nat} {v:V},bM H n v->bM H' n v:=by
 intro n
 induction n with
 | zero=>intro v h;cases v<;>exact h
 | succ n ih=>
  intro v h
  cases v with
  | ref p=>
   obtain⟨xs,h1,h2,h3⟩:=h
   exact⟨xs,h1.imp (e _ _) (e _ _),h2,fun x hx=>ih (h3 x hx)⟩
  | _=>exact h
theorem bM.kind{H:Hp}{n:Nat}{v:V}(h:bM H n v):∃k,bJ H v k:=by
 cases v with
 | non=>exact⟨_,rfl⟩
 | bl b=>exact⟨_,rfl⟩
 | int i=>exact⟨_,rfl⟩
 | str z=>exact⟨_,rfl⟩
 | ref p=>
  cases n with
  | zero=>exact h.elim
  | succ n=>
   obtain⟨xs,h1,_⟩:=h
   rcases h1 with h1 | h1
   ·exact⟨"tuple",.inr ⟨rfl,xs,h1⟩⟩
   ·exact⟨"list",.inl ⟨rfl,xs,h1⟩⟩
 | _=>cases n<;>exact h.elim
theorem fF{H:Hp}{v:V}(h:isTup H v=true):∃p xs,v=.ref p/\H p=some (.tup xs):=by
 cases v with
 | ref p=>
  unfold isTup at h
  dsimp only at h
  split at h
  ·rename_i xs e
   exact⟨p,xs,rfl,e⟩
  ·cases h
 | _=>cases h
theorem bM.items{H:Hp}{n:Nat}{p:Addr}{xs:List V}(h:bM H (n+1) (.ref p))(e:H p=some (.tup xs)):xs.length<=2000/\∀x∈xs,bM H n x:=by
 obtain⟨ys,h1,h2,h3⟩:=h
 rcases h1 with h1 | h1<;>rw[e]at h1<;>cases h1
 exact⟨h2,h3⟩
theorem eX{n:Nat}(h:n<=2000):n<=sizeLine:=Dv h (by decide)
def iz(K:CJ):Sp:=fun vs H Q _=>∃v n,vs=[v]/\bJ H v n/\Q (.bl (isInt v)) H
abbrev m7:Stmt:=stq 10
theorem uX:FnScope ["thing"] ["thing"] (aE m7):=⟨rfl,rfl,rfl,by decide +kernel,rfl,by decide +kernel,by decide +kernel⟩
theorem xh{P:Program}{w:World}{K:CJ}{mg:Str->Option Value}{base:Heap}(D:Dfn K mg "is_whole" m7 ["thing"])(T:Blt mg):Cal P w K mg base "is_whole" 1 ["thing"] (iz K):=by
 have nd:=(uX).nd
 refine D.ok uX (fun vs H Q E h=>?_) (fun X hX H vs Q E h=>?_)
 ·obtain⟨v,n,rfl,_⟩:=h;rfl
 ·obtain⟨f,cdv,A,outer,s,H0,E0,rfl,hr⟩:=hX
  obtain⟨v,n,rfl,hk,q⟩:=h
  obtain⟨b,c,hb,hc,e⟩:=rT hk
  refine⟨_,(aq (az (cZ (aI cq rfl T.isinstance_ PyProof.Rows.boot_isinstance (aa (pv 0) (aa (cp (v:=.ty "int") rfl T.int_ PyProof.Rows.boot_int rfl) ae))) (dv (rJ (aI cq rfl T.isinstance_ PyProof.Rows.boot_isinstance (aa (pv 0) (aa (cp (v:=.ty "bool") rfl T.bool_ PyProof.Rows.boot_bool rfl) ae)))))))),?_⟩
  walk_at "r"
  refine bW hk hb ?_
  walk_at "r"
  cases b with
  | false=>refine av ?_;rw[←e]at q;exact q
  | true=>
   refine au ?_
   walk_at "r"
   refine bW hk hc ?_
   walk_at "r"
   rw[←e]at q;exact q
def bY(m:Int):V->Bool
 | .int i=>decide (0<=i) && decide (i<m)
 | _=>false
def ke:List (Key×V):=[(.inr "up",.str "down"),(.inr "down",.str "up"),(.inr "stay",.str "stay"),(.inr "zero",.str "zero")]
theorem zo{w:World}{K:CJ}{a:Addr}{t1 t2 t3 t4 t5 t6 t7 t8:Tok}{ep:Nat}(h:K.lookup a=some (j3 w [("up",t1,.str "down" t2),("down",t3,.str "up" t4),("stay",t5,.str "stay" t6),("zero",t7,.str "zero" t8)] ep))(hs:(a == sysModules)=false):GDict w K a ke:=
 ⟨⟨_,_,h,.cons ⟨rfl,⟨_,rfl⟩⟩ (.cons ⟨rfl,⟨_,rfl⟩⟩ (.cons ⟨rfl,⟨_,rfl⟩⟩ (.cons ⟨rfl,⟨_,rfl⟩⟩ .nil)))⟩,by decide +kernel,hs⟩
def dQ:V->Bool
 | .str z=>(cX ke (.inr z)).isSome
 | _=>false
def fN(z:Str):Bool:=!decide (z.cps.toList<(DB "a").cps.toList) && !decide ((DB "z").cps.toList<z.cps.toList)
def ee:V->Bool
 | .str z=>decide (z.length=1) && fN z
 | _=>false
theorem dj{v:V}(h:isInt v=true):∃i,v=.int i:=by
 cases v<;>first | exact ⟨_,rfl⟩ | cases h
theorem isStr_of{v:V}(h:isStr v=true):∃z,v=.str z:=by
 cases v<;>first | exact ⟨_,rfl⟩ | cases h
theorem nW{m:Int}{v:V}(h:isInt v=false):bY m v=false:=by
 cases v<;>first | rfl | cases h
theorem oq{v:V}(h:isStr v=false):dQ v=false:=by
 cases v<;>first | rfl | cases h
theorem qI{v:V}(h:isStr v=false):ee v=false:=by
 cases v<;>first | rfl | cases h
def tD(K:CJ):Sp:=fun vs H Q _=>∃v m n,vs=[v,.int m]/\bJ H v n/\Q (.bl (bY m v)) H
abbrev mH:Stmt:=stq 21
theorem tT:FnScope ["thing","many"] ["thing","many"] (aE mH):=⟨rfl,rfl,rfl,by decide +kernel,rfl,by decide +kernel,by decide +kernel⟩
theorem xx{P:Program}{w:World}{K:CJ}{mg:Str->Option Value}{base:Heap}(D:Dfn K mg "is_room" mH ["thing","many"])(T:Blt mg)(C_is_whole:Cal P w K mg base "is_whole" 1 ["thing"] (iz K)):Cal P w K mg base "is_room" 2 ["thing","many"] (tD K):=by
 have nd:=(tT).nd
 refine D.ok tT (fun vs H Q E h=>?_) (fun X hX H vs Q E h=>?_)
 ·obtain⟨i,m,n,rfl,_⟩:=h;rfl
 ·obtain⟨f,cdv,A,outer,s,H0,E0,rfl,hr⟩:=hX
  obtain⟨v,m,n,rfl,hk,q⟩:=h
  refine⟨_,(aq (az (cZ (ay C_is_whole hr (aa (pv 0) ae)) (dv (jS jn dD af (pv 0) (pv 1)))))),?_⟩
  walk_at "r"
  refine⟨v,n,rfl,hk,?_⟩
  refine rd_exb ?_
  cases hv:isInt v with
  | false=>
   refine av ?_
   rw[nW hv]at q
   exact q
  | true=>
   obtain⟨i,rfl⟩:=dj hv
   refine au ?_
   walk_at "r"
   unfold bY at q
   dsimp only at q
   cases h0:decide (0<=i)with
   | false=>
    refine av ?_
    rw[h0]at q
    exact q
   | true=>
    refine au ?_
    walk_at "r"
    rw[h0,Bool.true_and]at q
    exact q
def vg(K:CJ):Sp:=fun vs H Q _=>∃v n,vs=[v]/\bJ H v n/\Q (.bl (dQ v)) H
abbrev nQ:Stmt:=stq 22
theorem tL:FnScope ["thing"] ["thing"] (aE nQ):=⟨rfl,rfl,rfl,by decide +kernel,rfl,by decide +kernel,by decide +kernel⟩
theorem Aj{P:Program}{w:World}{K:CJ}{mg:Str->Option Value}{base:Heap}(D:Dfn K mg "is_deed" nQ ["thing"])(T:Blt mg)(g_TURNED:∃a,mg "TURNED" = some (.ref a)/\GDict w K a ke):Cal P w K mg base "is_deed" 1 ["thing"] (vg K):=by
 have nd:=(tL).nd
 refine D.ok tL (fun vs H Q E h=>?_) (fun X hX H vs Q E h=>?_)
 ·obtain⟨z,n,rfl,_⟩:=h;rfl
 ·obtain⟨f,cdv,A,outer,s,H0,E0,rfl,hr⟩:=hX
  obtain⟨a_TURNED,m_TURNED,d_TURNED⟩:=g_TURNED
  obtain⟨v,n,rfl,hk,q⟩:=h
  refine⟨_,(aq (az (cZ (aI cq rfl T.isinstance_ PyProof.Rows.boot_isinstance (aa (pv 0) (aa (cp (v:=.ty "str") rfl T.str_ PyProof.Rows.boot_str rfl) ae))) (dv (vN (vF rfl m_TURNED d_TURNED (pv 0)) (by with_unfolding_all rfl)))))),?_⟩
  walk_at "r"
  refine bW hk (jd hk) ?_
  walk_at "r"
  cases hv:isStr v with
  | false=>
   refine av ?_
   rw[oq hv]at q
   exact q
  | true=>
   obtain⟨z,rfl⟩:=isStr_of hv
   refine au ?_
   walk_at "r"
   exact⟨.inr z,rfl,q⟩
def tZ(K:CJ):Sp:=fun vs H Q _=>∃v n j,vs=[v]/\bJ H v n/\bM H j v/\Q (.bl (ee v)) H
abbrev lg:Stmt:=stq 23
theorem qF:FnScope ["thing"] ["thing"] (aE lg):=⟨rfl,rfl,rfl,by decide +kernel,rfl,by decide +kernel,by decide +kernel⟩
theorem yE{P:Program}{w:World}{K:CJ}{mg:Str->Option Value}{base:Heap}(D:Dfn K mg "is_sign" lg ["thing"])(T:Blt mg):Cal P w K mg base "is_sign" 1 ["thing"] (tZ K):=by
 have nd:=(qF).nd
 refine D.ok qF (fun vs H Q E h=>?_) (fun X hX H vs Q E h=>?_)
 ·obtain⟨z,n,j,rfl,_⟩:=h;rfl
 ·obtain⟨f,cdv,A,outer,s,H0,E0,rfl,hr⟩:=hX
  obtain⟨v,n,j,rfl,hk,ht,q⟩:=h
  refine⟨_,(aq (az (cZ (aI cq rfl T.isinstance_ PyProof.Rows.boot_isinstance (aa (pv 0) (aa (cp (v:=.ty "str") rfl T.str_ PyProof.Rows.boot_str rfl) ae))) (cZ (dA ck (aI iS rfl T.len_ PySem.boot_len (aa (pv 0) ae)) af (aC _)) (dv (jS rR rR aw (pv 0) aw)))))),?_⟩
  walk_at "r"
  refine bW hk (jd hk) ?_
  walk_at "r"
  cases hv:isStr v with
  | false=>
   refine av ?_
   rw[qI hv]at q
   exact q
  | true=>
   obtain⟨z,rfl⟩:=isStr_of hv
   refine au ?_
   walk_at "r"
   refine⟨_,rfl,eX (Dv (show z.length<=1000 by cases j<;>exact ht) (by decide)),?_⟩
   walk_at "r"
   unfold ee fN at q
   dsimp only at q
   by_cases h1:z.length=1
   ·rw[DO (show((z.length:Nat):Int)=1 by omega)]
    refine au ?_
    walk_at "r"
    rw[DO h1,Bool.true_and]at q
    cases h2:!decide (z.cps.toList<(DB "a").cps.toList)with
    | false=>
     refine av ?_
     rw[h2]at q
     exact q
    | true=>
     refine au ?_
     walk_at "r"
     rw[h2,Bool.true_and]at q
     exact q
   ·rw[DN (show ¬((z.length:Nat):Int)=1 by omega)]
    refine av ?_
    rw[DN h1,Bool.false_and]at q
    exact q
def dZ(m:Int):List V->Bool
 | [a,b,c,d]=>bY m a && (bY m c && (dQ b && ee d))
 | _=>false
def bN(H:Hp)(m:Int):V->Bool
 | .ref p=>match H p with
  | some (.tup xs)=>dZ m xs
  | _=>false
 | _=>false
theorem mZ{H:Hp}{m:Int}{v:V}(h:isTup H v=false):bN H m v=false:=by
 cases v with
 | ref p=>
  unfold isTup at h
  unfold bN
  dsimp only at h ⊢
  split
  ·rename_i xs e
   rw[e]at h
   cases h
  ·rfl
 | _=>rfl
theorem ir{H:Hp}{m:Int}{p:Addr}{xs:List V}(h:H p=some (.tup xs)):bN H m (.ref p)=dZ m xs:=by
 unfold bN
 dsimp only
 rw[h]
theorem ku{m:Int}{xs:List V}(h:xs.length≠4):dZ m xs=false:=by
 unfold dZ
 split
 ·exact absurd rfl h
 ·rfl
theorem four{xs:List V}(h:xs.length=4):∃a b c d,xs=[a,b,c,d]:=by
 match xs,h with
 | [a,b,c,d],_=>exact⟨a,b,c,d,rfl⟩
def rm(K:CJ):Sp:=fun vs H Q _=>∃v m,vs=[v,.int m]/\bM H 2 v/\Q (.bl (bN H m v)) H
abbrev nq:Stmt:=stq 24
theorem sZ:FnScope ["thing","many"] ["thing","many"] (aE nq):=⟨rfl,rfl,rfl,by decide +kernel,rfl,by decide +kernel,by decide +kernel⟩
theorem yQ{P:Program}{w:World}{K:CJ}{mg:Str->Option Value}{base:Heap}(D:Dfn K mg "is_way" nq ["thing","many"])(T:Blt mg)(C_is_sign:Cal P w K mg base "is_sign" 1 ["thing"] (tZ K))(C_is_deed:Cal P w K mg base "is_deed" 1 ["thing"] (vg K))(C_is_room:Cal P w K mg base "is_room" 2 ["thing","many"] (tD K)):Cal P w K mg base "is_way" 3 ["thing","many"] (rm K):=by
 have nd:=(sZ).nd
 refine D.ok sZ (fun vs H Q E h=>?_) (fun X hX H vs Q E h=>?_)
 ·obtain⟨p,m,rfl,_⟩:=h;rfl
 ·obtain⟨f,cdv,A,outer,s,H0,E0,rfl,hr⟩:=hX
  obtain⟨v,m,rfl,ht,q⟩:=h
  obtain⟨n,hk⟩:=ht.kind
  refine⟨_,(ak (aU (PW.pt (bh (br (bp (aI cq rfl T.isinstance_ PyProof.Rows.boot_isinstance (aa (pv 0) (aa (cp (v:=.ty "tuple") rfl T.tuple_ PyProof.Rows.boot_tuple rfl) ae))))) (bR (aJ cw (aI (cu K) rfl T.len_ PySem.boot_len (aa (pv 0) ae)) af (aC _))))) (aq (az bA)) aQ)
    (ak (aU (PW.pt (bh (br (bp (ay C_is_room hr (aa (ar (aO K) (pv 0) af (fun _ _=>rfl)) (aa (pv 1) ae))))) (bR (br (bp (ay C_is_room hr (aa (ar (aO K) (pv 0) af (fun _ _=>rfl)) (aa (pv 1) ae)))))))) (aq (az bA)) aQ)
    (aq (az (cZ (ay C_is_deed hr (aa (ar (aO K) (pv 0) af (fun _ _=>rfl)) ae)) (dv (ay C_is_sign hr (aa (ar (aO K) (pv 0) af (fun _ _=>rfl)) ae)))))))),?_⟩
  walk_at "r"
  refine bW hk (gJ hk) ?_
  walk_at "r"
  cases hv:isTup H v with
  | false=>
   refine au ?_
   walk_at "r"
   rw[mZ hv]at q
   exact q
  | true=>
   refine av ?_
   obtain⟨p,xs,rfl,hp⟩:=fF hv
   obtain⟨hx1,hx2⟩:=ht.items hp
   rw[ir hp]at q
   walk_at "r"
   refine dn (aj.of hp) ?_
   walk_at "r"
   by_cases h4:xs.length=4
   ·obtain⟨a,b,c,d,rfl⟩:=four h4
    have ta:=hx2 a (by simp)
    have tb:=hx2 b (by simp)
    have tc:=hx2 c (by simp)
    have td:=hx2 d (by simp)
    obtain⟨ka,hka⟩:=ta.kind
    obtain⟨kb,hkb⟩:=tb.kind
    obtain⟨kc,hkc⟩:=tc.kind
    obtain⟨kd,hkd⟩:=td.kind
    unfold dZ at q
    dsimp only at q
    refine av ?_
    walk_at "r"
    refine aM (aj.of hp) (v:=a) rfl ?_
    walk_at "r"
    refine⟨a,m,ka,rfl,hka,?_⟩
    walk_at "r"
    cases ra:bY m a with
    | false=>
     refine au ?_
     walk_at "r"
     rw[ra]at q
     exact q
    | true=>
     refine av ?_
     walk_at "r"
     refine aM (aj.of hp) (v:=c) rfl ?_
     walk_at "r"
     refine⟨c,m,kc,rfl,hkc,?_⟩
     walk_at "r"
     rw[ra,Bool.true_and]at q
     cases rc:bY m c with
     | false=>
      refine au ?_
      walk_at "r"
      rw[rc]at q
      exact q
     | true=>
      refine av ?_
      walk_at "r"
      refine aM (aj.of hp) (v:=b) rfl ?_
      walk_at "r"
      refine⟨b,kb,rfl,hkb,?_⟩
      walk_at "r"
      rw[rc,Bool.true_and]at q
      cases rb:dQ b with
      | false=>
       refine av ?_
       rw[rb]at q
       exact q
      | true=>
       refine au ?_
       walk_at "r"
       refine aM (aj.of hp) (v:=d) rfl ?_
       walk_at "r"
       rw[rb,Bool.true_and]at q
       exact⟨d,kd,1,rfl,hkd,td,q⟩
   ·rw[ku h4]at q
    rw[DN (show ¬((xs.length:Nat):Int)=4 by omega)]
    refine au ?_
    walk_at "r"
    exact q
theorem kM{xs:List Int}{i:Nat}{v:V}(h:(xs.map V.int)[i]?=some v):∃x,v=.int x/\xs[i]?=some x:=by
 rw[CP]at h
 cases e:xs[i]? with
 | none=>rw[e]at h;cases h
 | some x=>rw[e]at h;exact⟨x,(DC h).symm,rfl⟩
theorem aH{n:Nat}(h:n<=1000000):n<=sizeLine:=Dv h (by decide)
theorem ao{xs:List V}{H:Hp}{o:HO}{Q:VK}(h:∀p H',Ext H H'->H' p=some o->H p=none->Q (.ref p) H')(hz:xs.length<=1000000:=by simp):xs.length<=sizeLine/\cY H o Q:=⟨aH hz,aW h⟩
def n5(K:CJ):Sp:=fun vs H Q _=>∃(a:Addr) (ns:List Int) (k:Int),vs=[.ref a,.int k]/\ai K H a (ns.map V.int)/\ns.length<=63/\0<=k/\∀z,Q (.int z) H
theorem rG{ns:List Int}{i:Int}(h0:0<=i)(h:i<ns.length):∃z,bQ (ns.map V.int) i=some (.int z)/\ns[i.toNat]?=some z:=by
 have hi:i.toNat<ns.length:=by omega
 refine⟨ns[i.toNat],yY h0 ?_,CO hi⟩
 rw[CP,CO hi]
 rfl
abbrev lL:Stmt:=stq 43
theorem vh:FnScope ["_law_script","_law_k"] ["_law_script","_law_k"] (aE lL):=⟨rfl,rfl,rfl,by decide +kernel,rfl,by decide +kernel,by decide +kernel⟩
theorem BS{P:Program}{w:World}{K:CJ}{mg:Str->Option Value}{base:Heap}(D:Dfn K mg "_law_cell" lL ["_law_script","_law_k"])(T:Blt mg):Cal P w K mg base "_law_cell" 1 ["_law_script","_law_k"] (n5 K):=by
 have nd:=(vh).nd
 refine D.ok vh (fun vs H Q E h=>?_) (fun X hX H vs Q E h=>?_)
 ·obtain⟨a,ns,k,rfl,_⟩:=h;rfl
 ·obtain⟨f,cdv,A,outer,s,H0,E0,rfl,hr⟩:=hX
  obtain⟨a,ns,k,rfl,ha,hl,hk,q⟩:=h
  refine⟨_,(ak (aU (aJ ck (aI (cu K) rfl T.len_ PySem.boot_len (aa (pv 0) ae)) af (aC _)) (aq (az (ah dW af (ah aG (pv 1) af)))) aQ)
    (ak (aU (aJ dD (pv 1) (aI (cu K) rfl T.len_ PySem.boot_len (aa (pv 0) ae)) (aC _)) (aq (az (ar (aL K) (pv 0) (pv 1) (fun _ _=>rfl)))) aQ)
    (aq (az (ah aG (ar (aL K) (pv 0) (ah bz (pv 1) (aI (cu K) rfl T.len_ PySem.boot_len (aa (pv 0) ae))) (fun _ _=>rfl)) (ah dW af (pv 1))))))),?_⟩
  walk_at "r"
  refine gN ha ?_
  walk_at "r"
  rw[CN]
  by_cases h0:(ns.length:Int)=0
  ·rw[DO h0]
   refine au ?_
   walk_at "r"
   exact q _
  ·rw[DN h0]
   refine av ?_
   walk_at "r"
   refine gN ha ?_
   walk_at "r"
   rw[CN]
   by_cases h1:k<ns.length
   ·rw[DO h1]
    refine au ?_
    obtain⟨z,hz,_⟩:=rG hk h1
    walk_at "r"
    refine aK ha hz ?_
    exact q _
   ·rw[DN h1]
    refine av ?_
    walk_at "r"
    refine gN ha ?_
    rw[CN]
    have hp:(0:Int)<ns.length:=by omega
    refine rd_I hp ?_
    obtain⟨z,hz,_⟩:=rG (ns:=ns) (Int.emod_nonneg k (by omega)) (Int.emod_lt_of_pos k hp)
    refine aK ha hz ?_
    walk_at "r"
    exact q _
def pQ(K:CJ):Sp:=fun vs H Q _=>∃c k p,vs=[.int c,.int k,.int p]/\0<=k/\k<100000/\0<p/\∀z,0<=z->z<p->Q (.int z) H
abbrev lA:Stmt:=stq 44
theorem rB:FnScope ["_law_cell_here","_law_k","_law_prime","_law_far"] ["_law_cell_here","_law_k","_law_prime"] (aE lA):=⟨rfl,rfl,rfl,by decide +kernel,rfl,by decide +kernel,by decide +kernel⟩
theorem A6{P:Program}{w:World}{K:CJ}{mg:Str->Option Value}{base:Heap}(D:Dfn K mg "_law_mixed" lA ["_law_cell_here","_law_k","_law_prime"])(T:Blt mg):Cal P w K mg base "_law_mixed" 1 ["_law_cell_here","_law_k","_law_prime"] (pQ K):=by
 have nd:=(rB).nd
 refine D.ok rB (fun vs H Q E h=>?_) (fun X hX H vs Q E h=>?_)
 ·obtain⟨c,k,p,rfl,_⟩:=h;rfl
 ·obtain⟨f,cdv,A,outer,s,H0,E0,rfl,hr⟩:=hX
  obtain⟨c,k,p,rfl,hk,hk2,hp,q⟩:=h
  refine⟨_,(ak (aF (i:=3) nd rfl (Or.inl rfl) (ah bz (ah dW (ah aG (ah aG (ah aG (pv 0) (ah dW (ah dW af (pv 1)) (pv 1))) (ah dW af (pv 1))) af) af) af))
    (ak (aF (i:=3) nd rfl (Or.inl rfl) (ah bz (ah dW (pv 3) (pv 3)) af))
    (aq (az (ah bz (ah dW (pv 3) af) (pv 2)))))),?_⟩
  walk_at "r"
  exact q _ (Int.emod_nonneg _ (by omega)) (Int.emod_lt_of_pos _ hp)
theorem gH{H H2:Hp}{q:Addr}{o:HO}(e:Ext H H2)(hq:H q=none):Ext H (upd H2 q o):=fun b u hb=>by
 rw[aT (dg hb hq)]
 exact e b u hb
def eZ(K:CJ):Sp:=fun vs H Q _=>∃(c:Int) (w:Addr) (ws:List Int) (p:Int),vs=[.int c,.ref w,.int p]/\H w=some (.lst (ws.map V.int))/\(∀x∈ws,0<x/\x<2 ^ 40)/\ws.length<=10000/\0<p ∧
 ∀(q:Addr) (ds:List Int) (H':Hp),Ext H H'->H' q=some (.lst (ds.map V.int))->H q=none->ds.length=ws.length->(∀(i:Nat) d x,ds[i]?=some d->ws[i]?=some x->0<=d/\d<x)->Q (.ref q) H'
theorem gG{K:CJ}{H:Hp}{c:Int}{w:Addr}{p:Int}{Q:VK}{xe:XK}(ws:List Int)(h1:H w=some (.lst (ws.map V.int)))(h2:∀x∈ws,0<x/\x<2 ^ 40)(h3:ws.length<=10000)(h4:0<p)
  (k:∀(q:Addr) (ds:List Int) (H':Hp),Ext H H'->H' q=some (.lst (ds.map V.int))->H q=none->ds.length=ws.length->(∀(i:Nat) d x,ds[i]?=some d->ws[i]?=some x->0<=d/\d<x)->Q (.ref q) H'):eZ K [.int c,.ref w,.int p] H Q xe:=⟨c,w,ws,p,rfl,h1,h2,h3,h4,k⟩
abbrev kh:Stmt:=stq 45
theorem oj:FnScope ["_law_cell_here","_law_widths","_law_prime","_law_left","_law_found","_law_k"] ["_law_cell_here","_law_widths","_law_prime"] (aE kh):=⟨rfl,rfl,rfl,by decide +kernel,rfl,by decide +kernel,by decide +kernel⟩
theorem wJ{P:Program}{w:World}{K:CJ}{mg:Str->Option Value}{base:Heap}(D:Dfn K mg "_law_draws" kh ["_law_cell_here","_law_widths","_law_prime"])(T:Blt mg)(C__law_mixed:Cal P w K mg base "_law_mixed" 1 ["_law_cell_here","_law_k","_law_prime"] (pQ K)):Cal P w K mg base "_law_draws" 2 ["_law_cell_here","_law_widths","_law_prime"] (eZ K):=by
 have nd:=(oj).nd
 refine D.ok oj (fun vs H Q E h=>?_) (fun X hX H vs Q E h=>?_)
 ·obtain⟨c,w,ws,p,rfl,_⟩:=h;rfl
 ·obtain⟨f,cdv,A,outer,s,H0,E0,rfl,hr⟩:=hX
  obtain⟨c,w,ws,p,rfl,hw,hpos,hlen,hp,q⟩:=h
  refine⟨_,(ak (aF (i:=3) nd rfl (Or.inl rfl) af)
    (ak (eI (aJ jo (pv 0) (ah fZ af af) (aC _)) (aq (aF (i:=3) nd rfl (Or.inl rfl) (ah cO (pv 0) (ah fZ af af)))) aQ)
    (ak (aF (i:=4) nd rfl (Or.inl rfl) (aZ ae))
    (ak (cR PassesOwn.never rfl (eA rfl T.range_ (aa (aI (cu K) rfl T.len_ PySem.boot_len (aa (pv 1) ae)) ae)) (aP (i:=5) nd rfl (Or.inl rfl)) (aq (eI (aJ dU (pv 3) af (aC _)) (ak (bZ (bx K CV Dk Dl cy (pv 4) (aa (ah bz (pv 3) (ar (aL K) (pv 1) (pv 5) (fun _ _=>rfl))) ae)))
    (aq (aF (i:=3) nd rfl (Or.inl rfl) (ah fC (pv 3) (ar (aL K) (pv 1) (pv 5) (fun _ _=>rfl)))))) (aq (bZ (bx K CV Dk Dl cy (pv 4) (aa (ah bz (ay C__law_mixed hr (aa (pv 0) (aa (pv 5) (aa (pv 2) ae)))) (ar (aL K) (pv 1) (pv 5) (fun _ _=>rfl))) ae)))))))
    (aq (az (pv 4))))))),?_⟩
  walk_at "r"
  refine fH (fun σ' H'=>H'=H/\∃l,σ'=[some (.int c),some (.ref w),some (.int p),some (.int l),none,none]) ?_ ?_
  ·walk_at "r"
   refine cT (fun h=>?_) (fun h=>?_)
   ·walk_at "r"
    exact⟨rfl,_,rfl⟩
   ·walk_at "r"
    exact⟨rfl,_,rfl⟩
  rintro σ' H' ⟨rfl,l,rfl⟩
  walk_at "r"
  refine ao fun f H1 e1 hf hfn=>?_
  walk_at "r"
  refine gN (ai.of (e1 _ _ hw)) ?_
  rw[CN]
  walk_at "r"
  refine eG (by omega) ?_
  refine forR (fun i σ H2=>Ext H' H2/\∃(l:Int) (k:Option V) (ds:List Int),σ=[some (.int c),some (.ref w),some (.int p),some (.int l),some (.ref f),k]/\H2 f=some (.lst (ds.map V.int))/\ds.length=i/\∀(i:Nat) d x,ds[i]?=some d->ws[i]?=some x->0<=d/\d<x)
   ⟨e1,l,none,[],rfl,hf,rfl,fun i d x hd=>by simp at hd⟩ ?_ ?_
  ·rintro i σ H2 hi ⟨e2,l,k,ds,rfl,hf2,hds,hb⟩
   rw[Dd]at hi
   have hwi:ws[i]?=some ws[i]:=CO hi
   have hx:=hpos ws[i] (Dr hi)
   have hat:bQ (ws.map V.int) (0+(i:Int))=some (.int ws[i]):=by
    rw[Int.zero_add]
    exact dF (by rw[CP,hwi];rfl)
   have next:∀d,0<=d->d<ws[i]->∀(j:Nat) (d' x:Int),(ds++[d])[j]?=some d'->ws[j]?=some x->0<=d'/\d'<x:=fun d h0 h1 j d' x hj hx'=>by
    rcases DH j ds.length with h | h
    ·rw[Dp h]at hj
     exact hb j d' x hj hx'
    ·rw[Dn h]at hj
     have hj0:j-ds.length=0:=by
      rcases Nat.eq_zero_or_pos (j-ds.length)with h | h
      ·exact h
      ·rw[List.getElem?_eq_none (by simp;omega)]at hj;cases hj
     rw[hj0]at hj
     have hji:j=i:=by omega
     subst hji
     rw[hwi]at hx'
     cases hx'
     have:d=d':=by simpa using hj
     rw[←this]
     exact⟨h0,h1⟩
   walk_at "r"
   refine qw ?_
   walk_at "r"
   refine cT (fun h=>?_) (fun h=>?_)
   ·have h':1<l:=by simpa using h
    walk_at "r"
    refine⟨iq (ai.of hf2),?_⟩
    walk_at "r"
    refine aK (ai.of (e2 _ _ hw)) hat ?_
    refine rd_I (show 0<ws[i] by omega) ?_
    walk_at "r"
    refine cv hf2 (by rw[CN];exact Nat.lt_of_le_of_lt (show ds.length<=10000 by omega) (by decide)) ?_
    walk_at "r"
    refine aK (ai.of (gH e2 hfn _ _ hw)) hat ?_
    refine rd_I (show 0<ws[i]/\ws[i]<2 ^ 64 by omega) ?_
    walk_at "r"
    refine⟨gH e2 hfn,_,_,ds++[l % ws[i]],rfl,?_,by rw[Dh,hds];rfl,next _ (Int.emod_nonneg _ (by omega)) (Int.emod_lt_of_pos _ (by omega))⟩
    rw[aY,Dg]
    rfl
   ·walk_at "r"
    refine⟨iq (ai.of hf2),?_⟩
    walk_at "r"
    refine⟨c,0+(i:Int),p,rfl,by omega,by omega,hp,fun z hz0 hz1=>?_⟩
    walk_at "r"
    refine aK (ai.of (e2 _ _ hw)) hat ?_
    refine rd_I (show 0<ws[i] by omega) ?_
    walk_at "r"
    refine cv hf2 (by rw[CN];exact Nat.lt_of_le_of_lt (show ds.length<=10000 by omega) (by decide)) ?_
    walk_at "r"
    refine⟨gH e2 hfn,_,_,ds++[z % ws[i]],rfl,?_,by rw[Dh,hds];rfl,next _ (Int.emod_nonneg _ (by omega)) (Int.emod_lt_of_pos _ (by omega))⟩
    rw[aY,Dg]
    rfl
  ·rintro σ H2 ⟨e2,l,k,ds,rfl,hf2,hds,hb⟩
   walk_at "r"
   exact q f ds H2 e2 hf2 hfn (by rw[hds,Dd]) hb
def uZ(K:CJ):Sp:=fun vs H Q _=>∃c w,vs=[.int c,.int w]/\0<w/\w<2 ^ 64/\∀z,Q (.int z) H
abbrev me:Stmt:=stq 46
theorem qW:FnScope ["_law_cell_here","_law_width"] ["_law_cell_here","_law_width"] (aE me):=⟨rfl,rfl,rfl,by decide +kernel,rfl,by decide +kernel,by decide +kernel⟩
theorem xl{P:Program}{w:World}{K:CJ}{mg:Str->Option Value}{base:Heap}(D:Dfn K mg "_law_spare" me ["_law_cell_here","_law_width"])(T:Blt mg):Cal P w K mg base "_law_spare" 1 ["_law_cell_here","_law_width"] (uZ K):=by
 have nd:=(qW).nd
 refine D.ok qW (fun vs H Q E h=>?_) (fun X hX H vs Q E h=>?_)
 ·obtain⟨c,w,rfl,_⟩:=h;rfl
 ·obtain⟨f,cdv,A,outer,s,H0,E0,rfl,hr⟩:=hX
  obtain⟨c,w,rfl,h1,h2,q⟩:=h
  refine⟨_,(ak (aU (aJ jo (pv 0) (ah fZ af af) (aC _)) (aq (az (ah aG (ah fC (ah cO (pv 0) (ah fZ af af)) (pv 1)) (ah fZ af af)))) aQ)
    (aq (az (ah aG (pv 0) af)))),?_⟩
  walk_at "r"
  refine cT (fun h=>?_) (fun h=>?_)
  ·walk_at "r"
   exact q _
  ·walk_at "r"
   exact q _
def Kn(H:Hp):Nat->V->Prop
 | 0,v=>∃n,bJ H v n
 | d+1,v=>(∃n,bJ H v n)/\∀p xs,v=.ref p->H p=some (.tup xs)->∀x∈xs,Kn H d x
theorem fA{H:Hp}{v:V}{n:String}(h:bJ H v n):(∃p xs,v=.ref p/\H p=some (.tup xs)/\n = "tuple")\/(eE n "tuple" = some false/\∀p xs,v=.ref p->H p≠some (.tup xs)):=by
 cases v with
 | non=>cases(show n = "NoneType" from h);exact .inr ⟨rfl,fun p xs e=>nomatch e⟩
 | bl b=>cases(show n = "bool" from h);exact .inr ⟨rfl,fun p xs e=>nomatch e⟩
 | int i=>cases(show n = "int" from h);exact .inr ⟨rfl,fun p xs e=>nomatch e⟩
 | str z=>cases(show n = "str" from h);exact .inr ⟨rfl,fun p xs e=>nomatch e⟩
 | ref a=>
  rcases h with⟨rfl,xs,e⟩ | ⟨rfl,xs,e⟩
  ·exact .inr ⟨rfl,fun p ys q z=>by cases q;rw[e]at z;cases z⟩
  ·exact .inl ⟨a,xs,rfl,e,rfl⟩
 | _=>exact False.elim h
def cN(lo hi:Int):List V->Bool
 | []=>true
 | .int i::r=>decide (lo<=i) && decide (i<hi) && cN (i+1) hi r
 | _::_=>false
def aV(H:Hp)(lo hi:Int):V->Bool
 | .ref p=>match H p with
  | some (.tup xs)=>cN lo hi xs
  | _=>false
 | _=>false
theorem dG{H:Hp}{lo hi:Int}{p:Addr}{xs:List V}(h:H p=some (.tup xs)):aV H lo hi (.ref p)=cN lo hi xs:=by simp only[aV,h]
theorem fB{H:Hp}{lo hi:Int}{v:V}(h:∀p xs,v=.ref p->H p≠some (.tup xs)):aV H lo hi v=false:=by
 cases v with
 | ref p=>
  cases e:H p with
  | none=>simp only[aV,e]
  | some o=>
   cases o with
   | tup xs=>exact absurd e (h p xs rfl)
   | _=>simp only[aV,e]
 | _=>rfl
theorem rD{lo hi:Int}{x:V}{r:List V}(h:isInt x=false):cN lo hi (x::r)=false:=by
 cases x<;>first | rfl | cases h
def sf(K:CJ):Sp:=fun vs H Q _=>∃v lo hi,vs=[v,.int lo,.int hi]/\Kn H 1 v/\Q (.bl (aV H lo hi v)) H
abbrev mT:Stmt:=stq 11
theorem oP:FnScope ["thing","low","end","lowest","number"] ["thing","low","end"] (aE mT):=⟨rfl,rfl,rfl,by decide +kernel,rfl,by decide +kernel,by decide +kernel⟩
theorem vp{P:Program}{w:World}{K:CJ}{mg:Str->Option Value}{base:Heap}(D:Dfn K mg "is_rising_row" mT ["thing","low","end"])(T:Blt mg)(C_is_whole:Cal P w K mg base "is_whole" 1 ["thing"] (iz K)):Cal P w K mg base "is_rising_row" 2 ["thing","low","end"] (sf K):=by
 have nd:=(oP).nd
 refine D.ok oP (fun vs H Q E h=>?_) (fun X hX H vs Q E h=>?_)
 ·obtain⟨v,lo,hi,rfl,_⟩:=h;rfl
 ·obtain⟨f,cdv,A,outer,s,H0,E0,rfl,hr⟩:=hX
  obtain⟨v,lo,hi,rfl,hk,q⟩:=h
  obtain⟨n,hn⟩:=hk.1
  refine⟨_,(ak (aU (br (bp (aI cq rfl T.isinstance_ PyProof.Rows.boot_isinstance (aa (pv 0) (aa (cp (v:=.ty "tuple") rfl T.tuple_ PyProof.Rows.boot_tuple rfl) ae))))) (aq (az bA)) aQ)
    (ak (aF (i:=3) nd rfl (Or.inl rfl) (pv 1))
    (ak (cR PassesOwn.never rfl (dM K (pv 0)) (aP (i:=4) nd rfl (Or.inl rfl)) (ak (aU (PW.pt (bh (br (bp (ay C_is_whole hr (aa (pv 4) ae)))) (bh (aJ dD (pv 4) (pv 3) (aC _)) (bR (aJ jo (pv 4) (pv 2) (aC _)))))) (aq (az bA)) aQ)
    (aq (aF (i:=3) nd rfl (Or.inl rfl) (ah aG (pv 4) af)))))
    (aq (az bA))))),?_⟩
  walk_at "r"
  rcases fA hn with⟨p,xs,rfl,hp,rfl⟩ | ⟨hf,hno⟩
  ·refine bW hn (b:=true) rfl ?_
   walk_at "r"
   refine av ?_
   walk_at "r"
   refine dH (aj.of hp) ?_
   rw[dG hp]at q
   refine nX (xs:=xs) (fun i σ H'=>H'=H/\∃lw w,σ=[some (.ref p),some (.int lo),some (.int hi),some (.int lw),w]/\cN lo hi xs=cN lw hi (xs.drop i))
    ⟨rfl,lo,none,rfl,rfl⟩ (fun i σ H' _ h=>by rw[h.1];exact aj.of hp) ?_ ?_
   ·rintro i x σ H' hx ⟨rfl,lw,w,rfl,e⟩
    have hd:xs.drop i=x::xs.drop (i+1):=by
     obtain⟨hi',rfl⟩:=CW.mp hx
     exact List.drop_eq_getElem_cons hi'
    rw[hd]at e
    obtain⟨m,hm⟩:=hk.2 p xs rfl hp x (CY hx)
    walk_at "r"
    refine⟨x,m,rfl,hm,?_⟩
    walk_at "r"
    cases hx':isInt x with
    | false=>
     refine au (au ?_)
     walk_at "r"
     rw[e,rD hx']at q
     exact q
    | true=>
     obtain⟨z,rfl⟩:=dj hx'
     refine av ?_
     walk_at "r"
     have e':cN lo hi xs=(decide (lw<=z) && decide (z<hi) && cN (z+1) hi (xs.drop (i+1))):=e
     by_cases h1:z<lw
     ·rw[DO h1]
      refine au (au ?_)
      walk_at "r"
      rw[e',DN (show ¬lw<=z by omega)]at q
      exact q
     ·rw[DN h1]
      refine av ?_
      walk_at "r"
      by_cases h2:hi<=z
      ·rw[DO h2]
       refine au ?_
       walk_at "r"
       rw[e',DN (show ¬z<hi by omega),Bool.and_false,Bool.false_and]at q
       exact q
      ·rw[DN h2]
       refine av ?_
       walk_at "r"
       refine⟨rfl,z+1,_,rfl,?_⟩
       rw[e',DO (show lw<=z by omega),DO (show z<hi by omega)]
       rfl
   ·rintro σ H' ⟨rfl,lw,w,rfl,e⟩
    walk_at "r"
    rw[e,List.drop_length]at q
    exact q
  ·refine bW hn hf ?_
   walk_at "r"
   refine au ?_
   walk_at "r"
   rw[fB hno]at q
   exact q
def cW(H:Hp):V->V->V->V->Bool
 | .int b,.int s,o,a=>decide (0<=b) && decide (1<=s) && aV H 0 b o && aV H b (b+s) a
 | _,_,_,_=>false
theorem ik{H:Hp}{b s o a:V}(h:isInt b=false):cW H b s o a=false:=by
 cases b<;>first | rfl | cases h
theorem i3{H:Hp}{b s o a:V}(h:isInt s=false):cW H b s o a=false:=by
 cases s<;>first | (cases b<;>rfl) | cases h
def oO(K:CJ):Sp:=fun vs H Q _=>∃b s o a,vs=[b,s,o,a]/\Kn H 0 b/\Kn H 0 s/\Kn H 1 o/\Kn H 1 a/\Q (.bl (cW H b s o a)) H
abbrev nU:Stmt:=stq 12
theorem pd:FnScope ["base","step","once","again"] ["base","step","once","again"] (aE nU):=⟨rfl,rfl,rfl,by decide +kernel,rfl,by decide +kernel,by decide +kernel⟩
theorem vq{P:Program}{w:World}{K:CJ}{mg:Str->Option Value}{base:Heap}(D:Dfn K mg "are_stair_places" nU ["base","step","once","again"])(T:Blt mg)(C_is_rising_row:Cal P w K mg base "is_rising_row" 2 ["thing","low","end"] (sf K))(C_is_whole:Cal P w K mg base "is_whole" 1 ["thing"] (iz K)):Cal P w K mg base "are_stair_places" 3 ["base","step","once","again"] (oO K):=by
 have nd:=(pd).nd
 refine D.ok pd (fun vs H Q E h=>?_) (fun X hX H vs Q E h=>?_)
 ·obtain⟨b,s,o,a,rfl,_⟩:=h;rfl
 ·obtain⟨f,cdv,A,outer,s,H0,E0,rfl,hr⟩:=hX
  obtain⟨b,s',o,a,rfl,⟨nb,hb⟩,⟨ns,hs⟩,ho,ha,q⟩:=h
  refine⟨_,(ak (aU (PW.pt (bh (br (bp (ay C_is_whole hr (aa (pv 0) ae)))) (bh (br (bp (ay C_is_whole hr (aa (pv 1) ae)))) (bh (aJ dD (pv 0) af (aC _)) (bR (aJ dD (pv 1) af (aC _))))))) (aq (az bA)) aQ)
    (aq (az (cZ (ay C_is_rising_row hr (aa (pv 2) (aa af (aa (pv 0) ae)))) (dv (ay C_is_rising_row hr (aa (pv 3) (aa (pv 0) (aa (ah aG (pv 0) (pv 1)) ae))))))))),?_⟩
  walk_at "r"
  refine⟨b,nb,rfl,hb,?_⟩
  walk_at "r"
  cases ib:isInt b with
  | false=>
   refine au (au ?_)
   walk_at "r"
   rw[ik ib]at q
   exact q
  | true=>
   refine av ?_
   walk_at "r"
   refine⟨s',ns,rfl,hs,?_⟩
   walk_at "r"
   cases is':isInt s' with
   | false=>
    refine au (au ?_)
    walk_at "r"
    rw[i3 is']at q
    exact q
   | true=>
    obtain⟨zb,rfl⟩:=dj ib
    obtain⟨zs,rfl⟩:=dj is'
    refine av ?_
    walk_at "r"
    have e:cW H (.int zb) (.int zs) o a=(decide (0<=zb) && decide (1<=zs) && aV H 0 zb o && aV H zb (zb+zs) a):=rfl
    by_cases h1:zb<0
    ·rw[DO h1]
     refine au (au ?_)
     walk_at "r"
     rw[e,DN (show ¬0<=zb by omega)]at q
     exact q
    ·rw[DN h1]
     refine av ?_
     walk_at "r"
     by_cases h2:zs<1
     ·rw[DO h2]
      refine au ?_
      walk_at "r"
      rw[e,DN (show ¬1<=zs by omega),Bool.and_false,Bool.false_and,Bool.false_and]at q
      exact q
     ·rw[DN h2]
      refine av ?_
      walk_at "r"
      refine⟨o,0,zb,rfl,ho,?_⟩
      walk_at "r"
      rw[e,DO (show 0<=zb by omega),DO (show 1<=zs by omega)]at q
      cases ho':aV H 0 zb o with
      | false=>
       refine av ?_
       rw[ho']at q
       exact q
      | true=>
       refine au ?_
       walk_at "r"
       refine⟨a,zb,zb+zs,rfl,ha,?_⟩
       rw[ho']at q
       exact q
def b9(H:Hp):V->Bool
 | .ref p=>match H p with
  | some (.tup [b,s,o,a])=>cW H b s o a
  | _=>false
 | _=>false
theorem fk{H:Hp}{p:Addr}{b s o a:V}(h:H p=some (.tup [b,s,o,a])):b9 H (.ref p)=cW H b s o a:=by simp only[b9,h]
theorem iF{H:Hp}{p:Addr}{xs:List V}(h:H p=some (.tup xs))(hl:xs.length≠4):b9 H (.ref p)=false:=by
 simp only[b9,h]
 match xs,hl with
 | [],_=>rfl
 | [_],_=>rfl
 | [_,_],_=>rfl
 | [_,_,_],_=>rfl
 | [_,_,_,_],hl=>exact absurd rfl hl
 | _::_::_::_::_::_,_=>rfl
theorem jZ{H:Hp}{v:V}(h:∀p xs,v=.ref p->H p≠some (.tup xs)):b9 H v=false:=by
 cases v with
 | ref p=>
  cases e:H p with
  | none=>simp only[b9,e]
  | some o=>
   cases o with
   | tup xs=>exact absurd e (h p xs rfl)
   | _=>simp only[b9,e]
 | _=>rfl
def nz(K:CJ):Sp:=fun vs H Q _=>∃v,vs=[v]/\Kn H 2 v/\Q (.bl (b9 H v)) H
theorem kF{xs:List V}(h:xs.length=4):∃b s o a,xs=[b,s,o,a]:=by
 match xs,h with
 | [b,s,o,a],_=>exact⟨b,s,o,a,rfl⟩
theorem Kn.down{H:Hp}{v:V}(h:Kn H 1 v):Kn H 0 v:=h.1
abbrev ml:Stmt:=stq 13
theorem tQ:FnScope ["thing"] ["thing"] (aE ml):=⟨rfl,rfl,rfl,by decide +kernel,rfl,by decide +kernel,by decide +kernel⟩
theorem vn{P:Program}{w:World}{K:CJ}{mg:Str->Option Value}{base:Heap}(D:Dfn K mg "is_stair" ml ["thing"])(T:Blt mg)(C_are_stair_places:Cal P w K mg base "are_stair_places" 3 ["base","step","once","again"] (oO K)):Cal P w K mg base "is_stair" 4 ["thing"] (nz K):=by
 have nd:=(tQ).nd
 refine D.ok tQ (fun vs H Q E h=>?_) (fun X hX H vs Q E h=>?_)
 ·obtain⟨v,rfl,_⟩:=h;rfl
 ·obtain⟨f,cdv,A,outer,s,H0,E0,rfl,hr⟩:=hX
  obtain⟨v,rfl,hk,q⟩:=h
  obtain⟨n,hn⟩:=hk.1
  refine⟨_,(ak (aU (PW.pt (bh (br (bp (aI cq rfl T.isinstance_ PyProof.Rows.boot_isinstance (aa (pv 0) (aa (cp (v:=.ty "tuple") rfl T.tuple_ PyProof.Rows.boot_tuple rfl) ae))))) (bR (aJ cw (aI (cu K) rfl T.len_ PySem.boot_len (aa (pv 0) ae)) af (aC _))))) (aq (az bA)) aQ)
    (aq (az (ay C_are_stair_places hr (aa (ar (aO K) (pv 0) af (fun _ _=>rfl)) (aa (ar (aO K) (pv 0) af (fun _ _=>rfl)) (aa (ar (aO K) (pv 0) af (fun _ _=>rfl)) (aa (ar (aO K) (pv 0) af (fun _ _=>rfl)) ae)))))))),?_⟩
  walk_at "r"
  rcases fA hn with⟨p,xs,rfl,hp,rfl⟩ | ⟨hf,hno⟩
  ·refine bW hn (b:=true) rfl ?_
   walk_at "r"
   refine av ?_
   walk_at "r"
   refine dn (aj.of hp) ?_
   walk_at "r"
   by_cases hl:xs.length=4
   ·obtain⟨b,s',o,a,rfl⟩:=kF hl
    refine av ?_
    walk_at "r"
    refine aM (aj.of hp) rfl ?_
    walk_at "r"
    refine aM (aj.of hp) rfl ?_
    walk_at "r"
    refine aM (aj.of hp) rfl ?_
    walk_at "r"
    refine aM (aj.of hp) rfl ?_
    walk_at "r"
    have hi:=hk.2 p _ rfl hp
    rw[fk hp]at q
    exact⟨b,s',o,a,rfl,(hi b (by simp)).down,(hi s' (by simp)).down,hi o (by simp),hi a (by simp),q⟩
   ·rw[DN (show ¬((xs.length:Nat):Int)=4 by omega)]
    refine au ?_
    walk_at "r"
    rw[iF hp hl]at q
    exact q
  ·refine bW hn hf ?_
   walk_at "r"
   refine au (au ?_)
   walk_at "r"
   rw[jZ hno]at q
   exact q
def bE(H:Hp)(v:V)(b s:Int)(o a:List Int):Prop:=∃p q r,v=.ref p/\H p=some (.tup [.int b,.int s,.ref q,.ref r])/\H q=some (.tup (o.map V.int))/\H r=some (.tup (a.map V.int))
structure Gd(b s:Int)(o a:List Int):Prop where
 ok:Ok b s o a
 b3:b<=3000
 s8:s<=840
theorem bE.ext{H H':Hp}{v:V}{b s:Int}{o a:List Int}(e:Ext H H')(h:bE H v b s o a):bE H' v b s o a:=by
 obtain⟨p,q,r,rfl,h1,h2,h3⟩:=h
 exact⟨p,q,r,rfl,e _ _ h1,e _ _ h2,e _ _ h3⟩
theorem uw{lo hi x:Int}{r:List Int}:cM lo hi (x::r)↔lo<=x/\x<hi/\cM (x+1) hi r:=by
 constructor
 ·rintro⟨h1,h2⟩
  obtain⟨p1,p2⟩:=List.pairwise_cons.mp h1
  have hx:=h2 x CU
  exact⟨hx.1,hx.2,p2,fun z hz=>⟨by have:=p1 z hz;omega,(h2 z (CQ _ hz)).2⟩⟩
 ·rintro⟨h1,h2,h3,h4⟩
  refine⟨List.pairwise_cons.mpr ⟨fun z hz=>by have:=h4 z hz;omega,h3⟩,fun z hz=>?_⟩
  rcases De.mp hz with rfl | hz
  ·exact⟨h1,h2⟩
  ·have:=h4 z hz
   exact⟨by omega,this.2⟩
theorem gh{hi:Int}:∀{lo:Int} {xs:List Int},cN lo hi (xs.map V.int)=true↔cM lo hi xs
 | lo,[]=>⟨fun _=>⟨List.Pairwise.nil,fun x hx=>by simp at hx⟩,fun _=>rfl⟩
 | lo,x::r=>by
  rw[uw,←gh (lo:=x+1) (xs:=r)]
  show(decide (lo<=x) && decide (x<hi) && cN (x+1) hi (r.map V.int))=true↔_
  simp[and_assoc]
theorem bE.yes{H:Hp}{v:V}{b s:Int}{o a:List Int}(h:bE H v b s o a)(k:Ok b s o a):b9 H v=true:=by
 obtain⟨p,q,r,rfl,h1,h2,h3⟩:=h
 rw[fk h1]
 show(decide (0<=b) && decide (1<=s) && aV H 0 b (.ref q) && aV H b (b+s) (.ref r))=true
 rw[dG h2,dG h3,gh.mpr k.ho,gh.mpr k.ha,DO k.hb,DO k.hs]
 rfl
theorem si{H:Hp}{q:Addr}{xs:List Int}(h:H q=some (.tup (xs.map V.int))):Kn H 1 (.ref q):=by
 refine⟨⟨"tuple",.inr ⟨rfl,_,h⟩⟩,fun p ys e z x hx=>?_⟩
 cases e
 rw[h]at z
 cases z
 obtain⟨i,_,rfl⟩:=List.mem_map.mp hx
 exact⟨"int",rfl⟩
theorem bE.kn{H:Hp}{v:V}{b s:Int}{o a:List Int}(h:bE H v b s o a):Kn H 2 v:=by
 obtain⟨p,q,r,rfl,h1,h2,h3⟩:=h
 refine⟨⟨"tuple",.inr ⟨rfl,_,h1⟩⟩,fun p' ys e z x hx=>?_⟩
 cases e
 rw[h1]at z
 cases z
 simp only[De,Dw,or_false]at hx
 rcases hx with rfl | rfl | rfl | rfl
 ·exact⟨⟨"int",rfl⟩,fun _ _ e=>nomatch e⟩
 ·exact⟨⟨"int",rfl⟩,fun _ _ e=>nomatch e⟩
 ·exact si h2
 ·exact si h3
theorem sk{H H':Hp}{v:V}{n:String}(e:Et H H')(h:bJ H v n):bJ H' v n:=by
 cases v with
 | ref a=>
  rcases h with⟨h1,xs,h2⟩ | ⟨h1,xs,h2⟩
  ·exact .inl ⟨h1,xs,e _ _ h2 (fun _ z=>by cases z)⟩
  ·exact .inr ⟨h1,xs,e _ _ h2 (fun _ z=>by cases z)⟩
 | _=>exact h
theorem iI{H H':Hp}{p:Addr}{n:String}(e:Et H H')(h:bJ H (.ref p) n)(xs:List V):H' p=some (.tup xs)↔H p=some (.tup xs):=by
 rcases h with⟨_,ys,h2⟩ | ⟨_,ys,h2⟩
 ·have h3:=e _ _ h2 (fun _ z=>by cases z)
  rw[h2,h3]
 ·have h3:=e _ _ h2 (fun _ z=>by cases z)
  rw[h2,h3]
theorem Kn.et{H H':Hp}(e:Et H H'):∀{d:Nat} {v:V},Kn H d v->Kn H' d v
 | 0,v,⟨n,h⟩=>⟨n,sk e h⟩
 | d+1,v,⟨⟨n,h⟩,g⟩=>⟨⟨n,sk e h⟩,fun p xs ev hx x hm=>by
   subst ev
   exact Kn.et e (g p xs rfl ((iI e h xs).mp hx) x hm)⟩
theorem rh{H H':Hp}{lo hi:Int}{v:V}{n:String}(e:Et H H')(h:bJ H v n):aV H' lo hi v=aV H lo hi v:=by
 rcases fA h with⟨p,xs,rfl,hp,_⟩ | ⟨_,hn⟩
 ·rw[dG hp,dG ((iI e h xs).mpr hp)]
 ·rw[fB hn,fB fun p xs ev hx=>hn p xs ev ((iI e (ev ▸ h) xs).mp hx)]
theorem xo{H H':Hp}{b s o a:V}{n m:String}(e:Et H H')(ho:bJ H o n)(ha:bJ H a m):cW H' b s o a=cW H b s o a:=by
 cases b with
 | int i=>
  cases s with
  | int j=>
   show(_ && aV H' 0 i o && aV H' i (i+j) a)=(_ && aV H 0 i o && aV H i (i+j) a)
   rw[rh e ho,rh e ha]
  | _=>rw[i3 rfl,i3 rfl]
 | _=>rw[ik rfl,ik rfl]
theorem oa{H H':Hp}{v:V}(e:Et H H')(h:Kn H 2 v):b9 H' v=b9 H v:=by
 obtain⟨⟨n,hk⟩,g⟩:=h
 rcases fA hk with⟨p,xs,rfl,hp,_⟩ | ⟨_,hn⟩
 ·have hp':=(iI e hk xs).mpr hp
  by_cases hl:xs.length=4
  ·obtain⟨b,s,o,a,rfl⟩:=kF hl
   obtain⟨n1,k1⟩:=(g p _ rfl hp o (by simp)).1
   obtain⟨n2,k2⟩:=(g p _ rfl hp a (by simp)).1
   rw[fk hp,fk hp',xo e k1 k2]
  ·rw[iF hp hl,iF hp' hl]
 ·rw[jZ hn,jZ fun p xs ev hx=>hn p xs ev ((iI e (ev ▸ hk) xs).mp hx)]
def bj(H:Hp)(v:V):Prop:=Kn H 2 v/\b9 H v=false
theorem bj.et{H H':Hp}{v:V}(e:Et H H')(h:bj H v):bj H' v:=⟨h.1.et e,(oa e h.1).trans h.2⟩
def ri(H:Hp)(v:V):Prop:=∃b s o a,bE H v b s o a/\Ok b s o a/\(3000<b\/840<s)
def rA(K:CJ)(H:Hp)(v:V)(E:XK):Prop:=(bj H v/\E (.ref (cA K "NoStair")) none H)\/(ri H v/\E (.ref (cA K "TooGreat")) none H)
def kG(K:CJ):Sp:=fun vs H Q E=>∃v,vs=[v]/\Kn H 2 v/\if b9 H v=true then Q .non H else E (.ref (cA K "NoStair")) none H
abbrev lS:Stmt:=stq 14
theorem tF:FnScope ["thing"] ["thing"] (aE lS):=⟨rfl,rfl,rfl,by decide +kernel,rfl,by decide +kernel,by decide +kernel⟩
theorem Cm{P:Program}{w:World}{K:CJ}{mg:Str->Option Value}{base:Heap}(D:Dfn K mg "refuse_no_stair" lS ["thing"])(T:Blt mg)(XF:Xf K mg base gC fT)(C_is_stair:Cal P w K mg base "is_stair" 4 ["thing"] (nz K)):CalX P w K mg base "refuse_no_stair" 5 ["thing"] (kG K):=by
 have nd:=(tF).nd
 refine D.okX tF (fun vs H Q E h=>?_) (fun f cdv A outer s H vs Q E hr h=>?_)
 ·obtain⟨v,rfl,_⟩:=h;rfl
 ·obtain⟨v,rfl,hk,q⟩:=h
  refine⟨_,(aq (aU (br (bp (ay C_is_stair hr (aa (pv 0) ae)))) (aq (kE (XF.own "NoStair" (by decide +kernel)) PySem.F.excBase_ValueError (aa aw ae))) aQ)),?_⟩
  walk_at "r"
  refine⟨v,rfl,hk,?_⟩
  walk_at "r"
  cases hv:b9 H v with
  | true=>
   rw[hv,DQ rfl]at q
   exact av q
  | false=>
   rw[hv,DP Df]at q
   refine au ?_
   walk_at "r"
   exact⟨(show 1<=sizeLine by decide),q⟩
def nP(K:CJ):Sp:=fun vs H Q E=>∃v b s o a,vs=[v]/\bE H v b s o a/\((b<=3000/\s<=840/\Q .non H)\/((3000<b\/840<s)/\E (.ref (cA K "TooGreat")) none H))
abbrev kZ:Stmt:=stq 15
theorem tE:FnScope ["stair"] ["stair"] (aE kZ):=⟨rfl,rfl,rfl,by decide +kernel,rfl,by decide +kernel,by decide +kernel⟩
theorem As{P:Program}{w:World}{K:CJ}{mg:Str->Option Value}{base:Heap}(D:Dfn K mg "refuse_great_stair" kZ ["stair"])(T:Blt mg)(g_GREATEST_STEP:∃t,mg "GREATEST_STEP" = some (.int 840 t))(g_GREATEST_BASE:∃t,mg "GREATEST_BASE" = some (.int 3000 t))(XF:Xf K mg base gC fT):CalX P w K mg base "refuse_great_stair" 1 ["stair"] (nP K):=by
 have nd:=(tE).nd
 refine D.okX tE (fun vs H Q E h=>?_) (fun f cdv A outer s H vs Q E hr h=>?_)
 ·obtain⟨v,b,s,o,a,rfl,_⟩:=h;rfl
 ·obtain⟨t_GREATEST_STEP,c_GREATEST_STEP⟩:=g_GREATEST_STEP
  obtain⟨t_GREATEST_BASE,c_GREATEST_BASE⟩:=g_GREATEST_BASE
  obtain⟨v,b,s',o,a,rfl,⟨p,q',r,rfl,h1,h2,h3⟩,hh⟩:=h
  refine⟨_,(ak (aU (aJ dU (ar (aO K) (pv 0) af (fun _ _=>rfl)) (df (v:=.int 3000) rfl c_GREATEST_BASE ⟨_,rfl⟩) (aC _)) (aq (kE (XF.own "TooGreat" (by decide +kernel)) PySem.F.excBase_ValueError (aa (qG (df (v:=.int 3000) rfl c_GREATEST_BASE ⟨_,rfl⟩)) ae))) aQ)
    (aq (aU (aJ dU (ar (aO K) (pv 0) af (fun _ _=>rfl)) (df (v:=.int 840) rfl c_GREATEST_STEP ⟨_,rfl⟩) (aC _)) (aq (kE (XF.own "TooGreat" (by decide +kernel)) PySem.F.excBase_ValueError (aa (qG (df (v:=.int 840) rfl c_GREATEST_STEP ⟨_,rfl⟩)) ae))) aQ))),?_⟩
  walk_at "r"
  refine aM (aj.of h1) rfl ?_
  walk_at "r"
  rcases hh with⟨hb,hs,q⟩ | ⟨hg,q⟩
  ·rw[DN (show ¬3000<b by omega)]
   refine av ?_
   walk_at "r"
   refine aM (aj.of h1) rfl ?_
   walk_at "r"
   rw[DN (show ¬840<s' by omega)]
   exact av q
  ·by_cases hb:3000<b
   ·rw[DO hb]
    refine au ?_
    walk_at "r"
    refine⟨by decide,by decide +kernel,fun z=>?_⟩
    walk_at "r"
    exact⟨(show 1<=sizeLine by decide),q⟩
   ·rw[DN hb]
    refine av ?_
    walk_at "r"
    refine aM (aj.of h1) rfl ?_
    walk_at "r"
    rw[DO (show 840<s' by omega)]
    refine au ?_
    walk_at "r"
    refine⟨by decide,by decide +kernel,fun z=>?_⟩
    walk_at "r"
    exact⟨(show 1<=sizeLine by decide),q⟩
def kB(K:CJ):Sp:=fun vs H Q E=>∃v,vs=[v]/\((∃b s o a,bE H v b s o a/\Gd b s o a/\Q .non H)\/rA K H v E)
abbrev nr:Stmt:=stq 16
theorem sF:FnScope ["thing"] ["thing"] (aE nr):=⟨rfl,rfl,rfl,by decide +kernel,rfl,by decide +kernel,by decide +kernel⟩
theorem vE{P:Program}{w:World}{K:CJ}{mg:Str->Option Value}{base:Heap}(D:Dfn K mg "refuse_bad_stair" nr ["thing"])(T:Blt mg)(CX_refuse_great_stair:CalX P w K mg base "refuse_great_stair" 1 ["stair"] (nP K))(CX_refuse_no_stair:CalX P w K mg base "refuse_no_stair" 5 ["thing"] (kG K)):CalX P w K mg base "refuse_bad_stair" 6 ["thing"] (kB K):=by
 have nd:=(sF).nd
 refine D.okX sF (fun vs H Q E h=>?_) (fun f cdv A outer s H vs Q E hr h=>?_)
 ·obtain⟨v,rfl,_⟩:=h;rfl
 ·obtain⟨v,rfl,hh⟩:=h
  refine⟨_,(ak (bZ (lR CX_refuse_no_stair hr (aa (pv 0) ae)))
    (aq (bZ (lR CX_refuse_great_stair hr (aa (pv 0) ae))))),?_⟩
  walk_at "r"
  rcases hh with⟨b,s',o,a,hv,hg,q⟩ | ⟨hn,q⟩ | ⟨⟨b,s',o,a,hv,ok,hg⟩,q⟩
  ·refine⟨v,rfl,hv.kn,?_⟩
   rw[hv.yes hg.ok,DQ rfl]
   walk_at "r"
   exact⟨v,b,s',o,a,rfl,hv,.inl ⟨hg.b3,hg.s8,q⟩⟩
  ·refine⟨v,rfl,hn.1,?_⟩
   rw[hn.2]
   exact av q
  ·refine⟨v,rfl,hv.kn,?_⟩
   rw[hv.yes ok,DQ rfl]
   walk_at "r"
   exact⟨v,b,s',o,a,rfl,hv,.inr ⟨hg,q⟩⟩
def rL:List V->List Key
 | [.int a,.str b,.int c,.str d]=>[.inl a,.inr b,.inl c,.inr d]
 | _=>[]
def dR(H:Hp):V->List Key
 | .ref p=>match H p with
  | some (.tup xs)=>rL xs
  | _=>[]
 | _=>[]
theorem n8{H:Hp}{p:Addr}{xs:List V}(h:H p=some (.tup xs)):dR H (.ref p)=rL xs:=by
 unfold dR
 dsimp only
 rw[h]
theorem ye{H:Hp}{m:Int}{v:V}(h:bN H m v=true):∃p a b c d,v=.ref p/\H p=some (.tup [.int a,.str b,.int c,.str d])/\(0<=a/\a<m)/\(0<=c/\c<m)/\dQ (.str b)=true/\ee (.str d)=true:=by
 cases ht:isTup H v with
 | false=>rw[mZ ht]at h;cases h
 | true=>
  obtain⟨p,xs,rfl,hp⟩:=fF ht
  rw[ir hp]at h
  by_cases h4:xs.length=4
  ·obtain⟨a,b,c,d,rfl⟩:=four h4
   unfold dZ at h
   simp only[DA]at h
   obtain⟨h1,h2,h3,h5⟩:=h
   cases a with
   | int i=>
    cases c with
    | int j=>
     cases b with
     | str y=>
      cases d with
      | str z=>
       unfold bY at h1 h2
       simp only[DA,decide_eq_true_eq]at h1 h2
       exact⟨p,i,y,j,z,rfl,hp,h1,h2,h3,h5⟩
      | _=>cases h5
     | _=>cases h3
    | _=>cases h2
   | _=>cases h1
  ·rw[ku h4]at h
   cases h
theorem kU{H:Hp}{m:Int}:∀{xs:List V},xs.all (bN H m)=true->∃bs:List Addr,xs=bs.map V.ref/\iy H bs (xs.map (dR H))
 | [],_=>⟨[],rfl,rfl,fun j b k e=>by simp at e⟩
 | x::xs,h=>by
  rw[List.all_cons,DA]at h
  obtain⟨bs,e,h1,h2⟩:=kU h.2
  obtain⟨p,a,b,c,d,rfl,hp,_⟩:=ye h.1
  refine⟨p::bs,by rw[List.map_cons,←e],by rw[Ds,List.map_cons,Ds,h1],fun j b' k e1 e2=>?_⟩
  cases j with
  | zero=>
   cases e1
   rw[List.map_cons,n8 hp]at e2
   cases e2
   exact hp
  | succ j=>exact h2 j b' k e1 e2
theorem vm{H H':Hp}{m:Int}{n:Nat}{v:V}(e:Ext H H')(h:bM H n v):bN H' m v=bN H m v:=by
 cases v with
 | ref p=>
  cases n with
  | zero=>exact h.elim
  | succ n=>
   obtain⟨xs,h1,_⟩:=h
   unfold bN
   dsimp only
   rcases h1 with h1 | h1<;>rw[h1,e _ _ h1]
 | _=>rfl
def eB(H:Hp)(m:Int)(xs:List V):Bool:=decide (xs.length<=100) && (xs.all (bN H m) && decide (xs.map (dR H)).Nodup)
def fR(H:Hp)(m:Int):V->Bool
 | .ref p=>match H p with
  | some (.tup xs)=>eB H m xs
  | _=>false
 | _=>false
theorem pN{H:Hp}{m:Int}{v:V}(h:isTup H v=false):fR H m v=false:=by
 cases v with
 | ref p=>
  unfold isTup at h
  unfold fR
  dsimp only at h ⊢
  split
  ·rename_i xs e
   rw[e]at h
   cases h
  ·rfl
 | _=>rfl
theorem kq{H:Hp}{m:Int}{p:Addr}{xs:List V}(h:H p=some (.tup xs)):fR H m (.ref p)=eB H m xs:=by
 unfold fR
 dsimp only
 rw[h]
open Classical in
theorem fG{α:Type}:∀{D l:List α},D.Nodup->(∀k∈D,k∈l)->D.length<=l.length
 | [],l,_,_=>Nat.zero_le _
 | d::D,l,hn,hs=>by
  have hn':=List.nodup_cons.mp hn
  have hm:=hs d CU
  have:=fG (D:=D) (l:=l.erase d) hn'.2 fun k hk=>(List.mem_erase_of_ne (by rintro rfl;exact hn'.1 hk)).mpr (hs k (CQ _ hk))
  rw[List.length_erase_of_mem hm]at this
  have h0:0<l.length:=List.length_pos_of_mem hm
  rw[Ds]
  omega
theorem nodup_iff{α:Type}{D l:List α}(hn:D.Nodup)(hm:∀k,k∈D↔k∈l):D.length=l.length↔l.Nodup:=by
 constructor
 ·intro e
  exact(rf hn (fun k hk=>(hm k).mp hk) e.symm).nodup_iff.mpr hn
 ·intro hl
  have h1:=fG hn fun k hk=>(hm k).mp hk
  have h2:=fG hl fun k hk=>(hm k).mpr hk
  omega
def uG(K:CJ):Sp:=fun vs H Q _=>∃v m,vs=[v,.int m]/\bM H 3 v/\∀H',Ext H H'->Q (.bl (fR H m v)) H'
abbrev mM:Stmt:=stq 25
theorem pL:FnScope ["thing","many"] ["thing","many"] (aE mM):=⟨rfl,rfl,rfl,by decide +kernel,rfl,by decide +kernel,by decide +kernel⟩
theorem AZ{P:Program}{w:World}{K:CJ}{mg:Str->Option Value}{base:Heap}(D:Dfn K mg "are_ways" mM ["thing","many"])(T:Blt mg)(g_GREATEST_WAYS:∃t,mg "GREATEST_WAYS" = some (.int 100 t))(C_is_way:Cal P w K mg base "is_way" 3 ["thing","many"] (rm K)):Cal P w K mg base "are_ways" 4 ["thing","many"] (uG K):=by
 have nd:=(pL).nd
 refine D.ok pL (fun vs H Q E h=>?_) (fun X hX H vs Q E h=>?_)
 ·obtain⟨p,m,rfl,_⟩:=h;rfl
 ·obtain⟨f,cdv,A,outer,s,H0,E0,rfl,hr⟩:=hX
  obtain⟨t_GREATEST_WAYS,c_GREATEST_WAYS⟩:=g_GREATEST_WAYS
  obtain⟨v,m,rfl,ht,q⟩:=h
  obtain⟨n,hk⟩:=ht.kind
  refine⟨_,(ak (aU (PW.pt (bh (br (bp (aI cq rfl T.isinstance_ PyProof.Rows.boot_isinstance (aa (pv 0) (aa (cp (v:=.ty "tuple") rfl T.tuple_ PyProof.Rows.boot_tuple rfl) ae))))) (bR (aJ dU (aI (cu K) rfl T.len_ PySem.boot_len (aa (pv 0) ae)) (df (v:=.int 100) rfl c_GREATEST_WAYS ⟨_,rfl⟩) (aC _))))) (aq (az bA)) aQ)
    (aq (az (cZ (aI (gp K rfl) rfl T.all_ PyProof.Rows.boot_all (aa (cQ ["way"] [1] (dM K (pv 0)) (fun _=>(aP (i:=0) (show(["way","many"]:List Str).Nodup from by decide +kernel) rfl (Or.inl rfl) (Or.inr rfl))) (fun _=>cI) (fun _=>(ay C_is_way hr (aa (pv 0) (aa (pv 1) ae))))) ae)) (dv (dA ck (aI og rfl T.len_ PySem.boot_len (aa (bK (uV hr) rfl T.set_ PyProof.Rows.boot_set (aa (pv 0) ae)) ae)) (aI (cu K) rfl T.len_ PySem.boot_len (aa (pv 0) ae)) (aC _))))))),?_⟩
  walk_at "r"
  refine bW hk (gJ hk) ?_
  walk_at "r"
  cases hv:isTup H v with
  | false=>
   refine au ?_
   walk_at "r"
   rw[pN hv]at q
   exact q H fun _ _ z=>z
  | true=>
   refine av ?_
   obtain⟨p,xs,rfl,hp⟩:=fF hv
   obtain⟨hx1,hx2⟩:=ht.items hp
   rw[kq hp]at q
   unfold eB at q
   walk_at "r"
   refine dn (aj.of hp) ?_
   walk_at "r"
   by_cases h4:xs.length<=100
   ·rw[DN (show ¬((100:Int)<((xs.length:Nat):Int)) by omega)]
    rw[DO h4,Bool.true_and]at q
    refine av ?_
    walk_at "r"
    refine dH (aj.of hp) ?_
    refine eW (xs:=xs) (fun i ys H'=>Ext H H'/\ys=((xs.take i).map (bN H m)).map V.bl) (eX hx1) ⟨fun _ _ z=>z,rfl⟩ (fun i ys H' hi h=>⟨aj.of (h.1 _ _ hp),by rw[h.2,CN,CN,DJ];omega⟩) ?_ ?_
    ·rintro i x ys H' hx ⟨e,rfl⟩
     have hxt:=hx2 x (CY hx)
     walk_at "r"
     refine au ?_
     walk_at "r"
     refine⟨x,m,rfl,hxt.ext e,e,?_⟩
     rw[vm e hxt,List.take_add_one,hx]
     simp
    ·rintro ys H' pl ⟨e,rfl⟩ hpl
     rw[Dt]
     walk_at "r"
     have eN:Ext H (upd H' pl (.lst ((xs.map (bN H m)).map V.bl))):=e.trans (bq hpl)
     refine⟨pl,xs.map (bN H m),rfl,ai.of aY,?_⟩
     have ea:(xs.map (bN H m)).all id=xs.all (bN H m):=by
      rw[List.all_map]
      rfl
     rw[ea]
     walk_at "r"
     cases hall:xs.all (bN H m)with
     | false=>
      refine av ?_
      rw[hall,Bool.false_and]at q
      exact q _ eN
     | true=>
      refine au ?_
      rw[hall,Bool.true_and]at q
      obtain⟨bs,ebs,hka⟩:=kU hall
      generalize upd H' pl (.lst ((xs.map (bN H m)).map V.bl))=H2 at eN ⊢
      walk_at "r"
      refine⟨p,bs,xs.map (dR H),rfl,.inl (by rw[←ebs];exact eN _ _ hp),hka.ext eN,by rw[CN];omega,fun l L hl hnd hmem hL=>?_⟩
      have hll:L.length<=xs.length:=by
       have:=fG hnd fun k hk=>(hmem k).mp hk
       rwa [CN,CN]at this
      walk_at "r"
      refine⟨l,L,rfl,aY,by omega,?_⟩
      walk_at "r"
      have eL:Ext H (upd H2 l (iK P w l L)):=eN.trans (bq hl)
      refine dn (aj.of (eL _ _ hp)) ?_
      walk_at "r"
      have hiff:=nodup_iff hnd hmem
      rw[CN,CN]at hiff
      have eb:decide ((((L.length:Nat):Int))=((xs.length:Nat):Int))=decide ((xs.map (dR H)).Nodup):=by
       by_cases hq:(xs.map (dR H)).Nodup
       ·rw[DO (show((L.length:Nat):Int)=((xs.length:Nat):Int) by have:=hiff.mpr hq;omega)]
        exact(DO hq).symm
       ·rw[DN (show ¬((L.length:Nat):Int)=((xs.length:Nat):Int)from fun z=>hq (hiff.mp (by omega)))]
        exact(DN hq).symm
      rw[eb]
      exact q _ eL
   ·rw[DO (show((100:Int)<((xs.length:Nat):Int)) by omega)]
    rw[DN h4,Bool.false_and]at q
    refine au ?_
    walk_at "r"
    exact q H fun _ _ z=>z
def fc(H:Hp):List V->Bool
 | [.int m,q]=>decide (1<=m) && (decide (m<=12) && fR H m q)
 | _=>false
def eQ(H:Hp):V->Bool
 | .ref p=>match H p with
  | some (.tup xs)=>fc H xs
  | _=>false
 | _=>false
theorem sr{H:Hp}{v:V}(h:isTup H v=false):eQ H v=false:=by
 cases v with
 | ref p=>
  unfold isTup at h
  unfold eQ
  dsimp only at h ⊢
  split
  ·rename_i xs e
   rw[e]at h
   cases h
  ·rfl
 | _=>rfl
theorem kJ{H:Hp}{p:Addr}{xs:List V}(h:H p=some (.tup xs)):eQ H (.ref p)=fc H xs:=by
 unfold eQ
 dsimp only
 rw[h]
theorem oJ{H:Hp}{xs:List V}(h:xs.length≠2):fc H xs=false:=by
 unfold fc
 split
 ·exact absurd rfl h
 ·rfl
theorem r6{H:Hp}{a b:V}(h:isInt a=false):fc H [a,b]=false:=by
 cases a<;>first | rfl | cases h
theorem tf{xs:List V}(h:xs.length=2):∃a b,xs=[a,b]:=by
 match xs,h with
 | [a,b],_=>exact⟨a,b,rfl⟩
def ky(K:CJ):Sp:=fun vs H Q _=>∃v,vs=[v]/\bM H 4 v/\∀H',Ext H H'->Q (.bl (eQ H v)) H'
abbrev nc:Stmt:=stq 26
theorem tN:FnScope ["thing"] ["thing"] (aE nc):=⟨rfl,rfl,rfl,by decide +kernel,rfl,by decide +kernel,by decide +kernel⟩
theorem zT{P:Program}{w:World}{K:CJ}{mg:Str->Option Value}{base:Heap}(D:Dfn K mg "is_house" nc ["thing"])(T:Blt mg)(g_GREATEST_MANY:∃t,mg "GREATEST_MANY" = some (.int 12 t))(C_are_ways:Cal P w K mg base "are_ways" 4 ["thing","many"] (uG K))(C_is_whole:Cal P w K mg base "is_whole" 1 ["thing"] (iz K)):Cal P w K mg base "is_house" 5 ["thing"] (ky K):=by
 have nd:=(tN).nd
 refine D.ok tN (fun vs H Q E h=>?_) (fun X hX H vs Q E h=>?_)
 ·obtain⟨p,rfl,_⟩:=h;rfl
 ·obtain⟨f,cdv,A,outer,s,H0,E0,rfl,hr⟩:=hX
  obtain⟨t_GREATEST_MANY,c_GREATEST_MANY⟩:=g_GREATEST_MANY
  obtain⟨v,rfl,ht,q⟩:=h
  obtain⟨n,hk⟩:=ht.kind
  refine⟨_,(ak (aU (PW.pt (bh (br (bp (aI cq rfl T.isinstance_ PyProof.Rows.boot_isinstance (aa (pv 0) (aa (cp (v:=.ty "tuple") rfl T.tuple_ PyProof.Rows.boot_tuple rfl) ae))))) (bR (aJ cw (aI (cu K) rfl T.len_ PySem.boot_len (aa (pv 0) ae)) af (aC _))))) (aq (az bA)) aQ)
    (aq (az (cZ (ay C_is_whole hr (aa (ar (aO K) (pv 0) af (fun _ _=>rfl)) ae)) (cZ (jS jn jn af (ar (aO K) (pv 0) af (fun _ _=>rfl)) (df (v:=.int 12) rfl c_GREATEST_MANY ⟨_,rfl⟩)) (dv (ay C_are_ways hr (aa (ar (aO K) (pv 0) af (fun _ _=>rfl)) (aa (ar (aO K) (pv 0) af (fun _ _=>rfl)) ae))))))))),?_⟩
  walk_at "r"
  refine bW hk (gJ hk) ?_
  walk_at "r"
  cases hv:isTup H v with
  | false=>
   refine au ?_
   walk_at "r"
   rw[sr hv]at q
   exact q H fun _ _ z=>z
  | true=>
   refine av ?_
   obtain⟨p,xs,rfl,hp⟩:=fF hv
   obtain⟨hx1,hx2⟩:=ht.items hp
   rw[kJ hp]at q
   walk_at "r"
   refine dn (aj.of hp) ?_
   walk_at "r"
   by_cases h4:xs.length=2
   ·obtain⟨a,b,rfl⟩:=tf h4
    have ta:=hx2 a (by simp)
    have tb:=hx2 b (by simp)
    obtain⟨ka,hka⟩:=ta.kind
    refine av ?_
    walk_at "r"
    refine aM (aj.of hp) (v:=a) rfl ?_
    walk_at "r"
    refine⟨a,ka,rfl,hka,?_⟩
    refine rd_exb ?_
    cases ha:isInt a with
    | false=>
     refine av ?_
     rw[r6 ha]at q
     exact q H fun _ _ z=>z
    | true=>
     obtain⟨m,rfl⟩:=dj ha
     refine au ?_
     unfold fc at q
     dsimp only at q
     walk_at "r"
     refine aM (aj.of hp) (v:=.int m) rfl ?_
     walk_at "r"
     cases h1:decide (1<=m)with
     | false=>
      refine av ?_
      walk_at "r"
      refine av ?_
      rw[h1]at q
      exact q H fun _ _ z=>z
     | true=>
      refine au ?_
      walk_at "r"
      rw[h1,Bool.true_and]at q
      cases h2:decide (m<=12)with
      | false=>
       refine av ?_
       rw[h2]at q
       exact q H fun _ _ z=>z
      | true=>
       refine au ?_
       walk_at "r"
       refine aM (aj.of hp) (v:=b) rfl ?_
       walk_at "r"
       refine aM (aj.of hp) (v:=.int m) rfl ?_
       walk_at "r"
       rw[h2,Bool.true_and]at q
       exact⟨b,m,rfl,tb,q⟩
   ·rw[oJ h4]at q
    rw[DN (show ¬((xs.length:Nat):Int)=2 by omega)]
    refine au ?_
    walk_at "r"
    exact q H fun _ _ z=>z
def j9(K:CJ):Sp:=fun vs H Q _=>∃v n,vs=[v]/\bJ H v n/\Q (.bl (isInt v)) H
abbrev mX:Stmt:=stq 52
theorem uH:FnScope ["_law_found"] ["_law_found"] (aE mX):=⟨rfl,rfl,rfl,by decide +kernel,rfl,by decide +kernel,by decide +kernel⟩
theorem yj{P:Program}{w:World}{K:CJ}{mg:Str->Option Value}{base:Heap}(D:Dfn K mg "_law_whole" mX ["_law_found"])(T:Blt mg):Cal P w K mg base "_law_whole" 1 ["_law_found"] (j9 K):=by
 have nd:=(uH).nd
 refine D.ok uH (fun vs H Q E h=>?_) (fun X hX H vs Q E h=>?_)
 ·obtain⟨v,n,rfl,_⟩:=h;rfl
 ·obtain⟨f,cdv,A,outer,s,H0,E0,rfl,hr⟩:=hX
  obtain⟨v,n,rfl,hk,q⟩:=h
  obtain⟨b,c,hb,hc,e⟩:=rT hk
  refine⟨_,(aq (az (cZ (aI cq rfl T.isinstance_ PyProof.Rows.boot_isinstance (aa (pv 0) (aa (cp (v:=.ty "int") rfl T.int_ PyProof.Rows.boot_int rfl) ae))) (dv (rJ (aI cq rfl T.isinstance_ PyProof.Rows.boot_isinstance (aa (pv 0) (aa (cp (v:=.ty "bool") rfl T.bool_ PyProof.Rows.boot_bool rfl) ae)))))))),?_⟩
  walk_at "r"
  refine bW hk hb ?_
  walk_at "r"
  cases b with
  | false=>refine av ?_;rw[←e]at q;exact q
  | true=>
   refine au ?_
   walk_at "r"
   refine bW hk hc ?_
   walk_at "r"
   rw[←e]at q;exact q
theorem wA(z:Str):jW (.str z) [.str (DB "up"),.str (DB "down"),.str (DB "stay"),.str (DB "zero")]=dQ (.str z):=by
 unfold jW dQ ke
 dsimp only
 by_cases h1:DB "up" = z
 ·subst h1;decide +kernel
 ·by_cases h2:DB "down" = z
  ·subst h2;decide +kernel
  ·by_cases h3:DB "stay" = z
   ·subst h3;decide +kernel
   ·by_cases h4:DB "zero" = z
    ·subst h4;decide +kernel
    ·have k1:¬((Sum.inr (DB "up"),V.str (DB "down")):Key×V).1=Sum.inr z:=fun e=>h1 (Sum.inr.inj e)
     have k2:¬((Sum.inr (DB "down"),V.str (DB "up")):Key×V).1=Sum.inr z:=fun e=>h2 (Sum.inr.inj e)
     have k3:¬((Sum.inr (DB "stay"),V.str (DB "stay")):Key×V).1=Sum.inr z:=fun e=>h3 (Sum.inr.inj e)
     have k4:¬((Sum.inr (DB "zero"),V.str (DB "zero")):Key×V).1=Sum.inr z:=fun e=>h4 (Sum.inr.inj e)
     rw[ig k1,ig k2,ig k3,ig k4,AR]
     simp only[List.any_cons,List.any_nil,eJ,Bool.or_false]
     simp[h1,h2,h3,h4]
theorem xI:(DB "abcdefghijklmnopqrstuvwxyz").cps.toList=List.range' 97 26:=by decide +kernel
theorem xa(c:Nat):(!(Builtin.Str.occurrences (DB "abcdefghijklmnopqrstuvwxyz") ⟨#[c]⟩ 0 (DB "abcdefghijklmnopqrstuvwxyz").length 1).isEmpty)=fN ⟨#[c]⟩:=by
 rw[PySem.StrLaws.found_one,xI]
 unfold fN
 have ea:(DB "a").cps.toList=[97]:=by decide +kernel
 have ez:(DB "z").cps.toList=[122]:=by decide +kernel
 rw[ea,ez]
 have e1:decide (([c]:List Nat) < [97])=decide (c<97):=by
  apply decide_eq_decide.mpr
  rw[List.cons_lt_cons_iff]
  simp
 have e2:decide (([122]:List Nat) < [c])=decide (122<c):=by
  apply decide_eq_decide.mpr
  rw[List.cons_lt_cons_iff]
  simp
 show decide (c∈List.range' 97 26)=(!decide (([c]:List Nat) < [97]) && !decide (([122]:List Nat) < [c]))
 rw[e1,e2]
 have e3:c∈List.range' 97 26↔(97<=c/\c<=122):=by
  rw[List.mem_range'_1]
  omega
 rw[show decide (c∈List.range' 97 26)=decide (97<=c/\c<=122)from decide_eq_decide.mpr e3]
 by_cases h1:c<97
 ·rw[DO h1,DN (by omega)];rfl
 ·by_cases h2:122<c
  ·rw[DO h2,DN h1,DN (by omega)];rfl
  ·rw[DN h2,DN h1,DO (by omega)];rfl
theorem one_sign{z:Str}(h:z.length=1):∃c,z=⟨#[c]⟩:=by
 obtain⟨cps⟩:=z
 have h':cps.size=1:=h
 obtain⟨l⟩:=cps
 match l,h' with
 | [c],_=>exact⟨c,rfl⟩
theorem qj{H H':Hp}{v:V}{n:String}(e:Ext H H')(h:bJ H v n):bJ H' v n:=by
 cases v with
 | ref a=>
  rcases h with⟨h1,xs,h2⟩ | ⟨h1,xs,h2⟩
  ·exact .inl ⟨h1,xs,e _ _ h2⟩
  ·exact .inr ⟨h1,xs,e _ _ h2⟩
 | _=>exact h
theorem wq{H:Hp}{m:Int}{xs:List V}{x:V}(hx:x∈xs)(h:bN H m x=false):eB H m xs=false:=by
 unfold eB
 have:xs.all (bN H m)=false:=by
  rw[List.all_eq_false]
  exact⟨x,hx,by rw[h];exact Df⟩
 rw[this,Bool.false_and,Bool.and_false]
theorem sQ{m i:Int}(h:i<0):bY m (.int i)=false:=by
 unfold bY
 dsimp only
 rw[DN (show ¬0<=i by omega)]
 rfl
theorem pA{m i:Int}(h:m<=i):bY m (.int i)=false:=by
 unfold bY
 dsimp only
 rw[DN (show ¬i<m by omega)]
 exact Bool.and_false _
theorem jO{m i:Int}(h:0<=i)(h':i<m):bY m (.int i)=true:=by
 unfold bY
 dsimp only
 rw[DO h,DO h']
 rfl
theorem eM{m:Int}{a b c d:V}(h:bY m a=false\/bY m c=false\/dQ b=false\/ee d=false):dZ m [a,b,c,d]=false:=by
 unfold dZ
 dsimp only
 rcases h with h | h | h | h<;>rw[h]<;>simp
def uY(K:CJ):Sp:=fun vs H Q _=>∃v,vs=[v]/\bM H 4 v/\∀H',Ext H H'->Q (.bl (eQ H v)) H'
abbrev nJ:Stmt:=stq 55
theorem rY:FnScope ["_law_thing","_law_many","_law_ways","_law_way"] ["_law_thing"] (aE nJ):=⟨rfl,rfl,rfl,by decide +kernel,rfl,by decide +kernel,by decide +kernel⟩
theorem Bv{P:Program}{w:World}{K:CJ}{mg:Str->Option Value}{base:Heap}(D:Dfn K mg "_law_is_house" nJ ["_law_thing"])(T:Blt mg)(C__law_whole:Cal P w K mg base "_law_whole" 1 ["_law_found"] (j9 K)):Cal P w K mg base "_law_is_house" 2 ["_law_thing"] (uY K):=by
 have nd:=(rY).nd
 refine D.ok rY (fun vs H Q E h=>?_) (fun X hX H vs Q E h=>?_)
 ·obtain⟨p,rfl,_⟩:=h;rfl
 ·obtain⟨f,cdv,A,outer,s,H0,E0,rfl,hr⟩:=hX
  obtain⟨v,rfl,ht,q⟩:=h
  obtain⟨n,hk⟩:=ht.kind
  refine⟨_,(ak (aU (PW.pt (bh (br (bp (aI cq rfl T.isinstance_ PyProof.Rows.boot_isinstance (aa (pv 0) (aa (cp (v:=.ty "tuple") rfl T.tuple_ PyProof.Rows.boot_tuple rfl) ae))))) (bh (aJ cw (aI (cu K) rfl T.len_ PySem.boot_len (aa (pv 0) ae)) af (aC _)) (bh (br (bp (ay C__law_whole hr (aa (ar (aO K) (pv 0) af (fun _ _=>rfl)) ae)))) (bR (br (bp (aI cq rfl T.isinstance_ PyProof.Rows.boot_isinstance (aa (ar (aO K) (pv 0) af (fun _ _=>rfl)) (aa (cp (v:=.ty "tuple") rfl T.tuple_ PyProof.Rows.boot_tuple rfl) ae)))))))))) (aq (az bA)) aQ)
    (ak (jq (pv 0) (iN (n:=2) K rfl (bX (aP (i:=1) nd rfl (Or.inl rfl)) (bX (aP (i:=2) nd rfl (Or.inl rfl)) ft))))
    (ak (aU (PW.pt (bh (aJ dD (pv 1) af (aC _)) (bh (aJ dU (pv 1) af (aC _)) (bR (aJ dU (aI (cu K) rfl T.len_ PySem.boot_len (aa (pv 2) ae)) af (aC _)))))) (aq (az bA)) aQ)
    (ak (cR PassesOwn.never rfl (dM K (pv 2)) (aP (i:=3) nd rfl (Or.inl rfl)) (ak (aU (PW.pt (bh (br (bp (aI cq rfl T.isinstance_ PyProof.Rows.boot_isinstance (aa (pv 3) (aa (cp (v:=.ty "tuple") rfl T.tuple_ PyProof.Rows.boot_tuple rfl) ae))))) (bh (aJ cw (aI (cu K) rfl T.len_ PySem.boot_len (aa (pv 3) ae)) af (aC _)) (bh (br (bp (ay C__law_whole hr (aa (ar (aO K) (pv 3) af (fun _ _=>rfl)) ae)))) (bR (br (bp (ay C__law_whole hr (aa (ar (aO K) (pv 3) af (fun _ _=>rfl)) ae))))))))) (aq (az bA)) aQ)
    (ak (aU (PW.pt (bh (aJ dD (aI (mz rfl) rfl T.min_ PyProof.Rows.boot_min (aa (ar (aO K) (pv 3) af (fun _ _=>rfl)) (aa (ar (aO K) (pv 3) af (fun _ _=>rfl)) ae))) af (aC _)) (bh (aJ jo (aI (zX rfl) rfl T.max_ PyProof.Rows.boot_max (aa (ar (aO K) (pv 3) af (fun _ _=>rfl)) (aa (ar (aO K) (pv 3) af (fun _ _=>rfl)) ae))) (pv 1) (aC _)) (bR (br (bp (aI cq rfl T.isinstance_ PyProof.Rows.boot_isinstance (aa (ar (aO K) (pv 3) af (fun _ _=>rfl)) (aa (cp (v:=.ty "str") rfl T.str_ PyProof.Rows.boot_str rfl) ae))))))))) (aq (az bA)) aQ)
    (ak (aU (PW.pt (bh (aJ (zq K) (ar (aO K) (pv 3) af (fun _ _=>rfl)) (aA (aa aw (aa aw (aa aw (aa aw ae))))) (by with_unfolding_all rfl)) (bR (br (bp (aI cq rfl T.isinstance_ PyProof.Rows.boot_isinstance (aa (ar (aO K) (pv 3) af (fun _ _=>rfl)) (aa (cp (v:=.ty "str") rfl T.str_ PyProof.Rows.boot_str rfl) ae)))))))) (aq (az bA)) aQ)
    (aq (aU (PW.pt (bh (aJ cw (aI iS rfl T.len_ PySem.boot_len (aa (ar (aO K) (pv 3) af (fun _ _=>rfl)) ae)) af (aC _)) (bR (aJ vx (ar (aO K) (pv 3) af (fun _ _=>rfl)) aw (by with_unfolding_all rfl))))) (aq (az bA)) aQ))))))
    (aq (az (dA ck (aI og rfl T.len_ PySem.boot_len (aa (bK (uV hr) rfl T.set_ PyProof.Rows.boot_set (aa (pv 2) ae)) ae)) (aI (cu K) rfl T.len_ PySem.boot_len (aa (pv 2) ae)) (aC _)))))))),?_⟩
  walk_at "r"
  refine bW hk (gJ hk) ?_
  walk_at "r"
  cases hv:isTup H v with
  | false=>
   refine au ?_
   walk_at "r"
   rw[sr hv]at q
   exact q H fun _ _ z=>z
  | true=>
   refine av ?_
   obtain⟨p,xs,rfl,hp⟩:=fF hv
   obtain⟨hx1,hx2⟩:=ht.items hp
   rw[kJ hp]at q
   walk_at "r"
   refine dn (aj.of hp) ?_
   walk_at "r"
   by_cases h4:xs.length=2
   ·obtain⟨a,b,rfl⟩:=tf h4
    have ta:=hx2 a (by simp)
    have tb:=hx2 b (by simp)
    obtain⟨ka,hka⟩:=ta.kind
    obtain⟨kb,hkb⟩:=tb.kind
    refine av ?_
    walk_at "r"
    refine aM (aj.of hp) (v:=a) rfl ?_
    walk_at "r"
    refine⟨a,ka,rfl,hka,?_⟩
    walk_at "r"
    cases ha:isInt a with
    | false=>
     refine au ?_
     walk_at "r"
     rw[r6 ha]at q
     exact q H fun _ _ z=>z
    | true=>
     obtain⟨m,rfl⟩:=dj ha
     refine av ?_
     walk_at "r"
     refine aM (aj.of hp) (v:=b) rfl ?_
     walk_at "r"
     refine bW hkb (gJ hkb) ?_
     walk_at "r"
     unfold fc at q
     dsimp only at q
     cases hb:isTup H b with
     | false=>
      refine au ?_
      walk_at "r"
      rw[pN hb,Bool.and_false,Bool.and_false]at q
      exact q H fun _ _ z=>z
     | true=>
      refine av ?_
      obtain⟨r,ws,rfl,hr'⟩:=fF hb
      obtain⟨hw1,hw2⟩:=tb.items hr'
      rw[kq hr']at q
      walk_at "r"
      refine gP (aj.of hp) rfl ?_
      walk_at "r"
      by_cases m1:1<=m
      ·rw[DN (show ¬m<1 by omega)]
       rw[DO m1,Bool.true_and]at q
       refine av ?_
       walk_at "r"
       by_cases m2:m<=12
       ·rw[DN (show ¬12<m by omega)]
        rw[DO m2,Bool.true_and]at q
        refine av ?_
        walk_at "r"
        refine dn (aj.of hr') ?_
        walk_at "r"
        by_cases m3:ws.length<=100
        ·rw[DN (show ¬((100:Int)<((ws.length:Nat):Int)) by omega)]
         refine av ?_
         walk_at "r"
         refine dH (aj.of hr') ?_
         refine nX (xs:=ws) (fun i σ H'=>Ext H H'/\(∃x,σ=[some (.ref p),some (.int m),some (.ref r),x])/\∀x∈ws.take i,bN H m x=true) ⟨fun _ _ z=>z,⟨_,rfl⟩,fun x hx=>by simp at hx⟩ (fun i σ H' _ h=>aj.of (h.1 _ _ hr')) ?_ ?_
         ·rintro i x σ H' hx ⟨e,⟨x0,rfl⟩,hb4⟩
          have hxm:=CY hx
          have htx:=hw2 x hxm
          have bad:bN H m x=false->eB H m ws=false:=wq hxm
          have hkx:∃k,bJ H' x k:=(htx.ext e).kind
          obtain⟨kx,hkx⟩:=hkx
          have et:isTup H' x=isTup H x:=by
           cases x with
           | ref p'=>
            obtain⟨ys,h1,_⟩:=htx
            unfold isTup
            dsimp only
            rcases h1 with h1 | h1<;>rw[h1,e _ _ h1]
           | _=>rfl
          walk_at "r"
          refine bW hkx (gJ hkx) ?_
          rw[et]
          walk_at "r"
          cases hxt:isTup H x with
          | false=>
           refine au ?_
           walk_at "r"
           rw[bad (mZ hxt)]at q
           exact q _ e
          | true=>
           refine av ?_
           obtain⟨u,us,rfl,hu⟩:=fF hxt
           obtain⟨hu1,hu2⟩:=htx.items hu
           have hu':=e _ _ hu
           walk_at "r"
           refine dn (aj.of hu') ?_
           walk_at "r"
           rw[ir hu]at bad
           by_cases u4:us.length=4
           ·obtain⟨a,b,c,d,rfl⟩:=four u4
            have ta:=(hu2 a (by simp)).ext e
            have tb:=(hu2 b (by simp)).ext e
            have tc:=(hu2 c (by simp)).ext e
            have td:=(hu2 d (by simp)).ext e
            obtain⟨ka,hka⟩:=ta.kind
            obtain⟨kb,hkb⟩:=tb.kind
            obtain⟨kc,hkc⟩:=tc.kind
            obtain⟨kd,hkd⟩:=td.kind
            refine av ?_
            walk_at "r"
            refine aM (aj.of hu') (v:=a) rfl ?_
            walk_at "r"
            refine⟨a,ka,rfl,hka,?_⟩
            walk_at "r"
            cases ia:isInt a with
            | false=>
             refine au ?_
             walk_at "r"
             rw[bad (eM (.inl (nW ia)))]at q
             exact q _ e
            | true=>
            obtain⟨i1,rfl⟩:=dj ia
            refine av ?_
            walk_at "r"
            refine aM (aj.of hu') (v:=c) rfl ?_
            walk_at "r"
            refine⟨c,kc,rfl,hkc,?_⟩
            walk_at "r"
            cases ic:isInt c with
            | false=>
             refine au ?_
             walk_at "r"
             rw[bad (eM (.inr (.inl (nW ic))))]at q
             exact q _ e
            | true=>
            obtain⟨i2,rfl⟩:=dj ic
            refine av ?_
            walk_at "r"
            refine aM (aj.of hu') (v:=.int i1) rfl ?_
            walk_at "r"
            refine aM (aj.of hu') (v:=.int i2) rfl ?_
            walk_at "r"
            by_cases n1:(if i2<i1 then i2 else i1)<0
            ·rw[DO n1]
             refine au ?_
             walk_at "r"
             have:bY m (.int i1)=false\/bY m (.int i2)=false:=by
              by_cases n2:i2<i1
              ·rw[DQ n2]at n1
               exact .inr (sQ n1)
              ·rw[DP n2]at n1
               exact .inl (sQ n1)
             rw[bad (eM (this.imp id .inl))]at q
             exact q _ e
            rw[DN n1]
            refine av ?_
            walk_at "r"
            refine aM (aj.of hu') (v:=.int i1) rfl ?_
            walk_at "r"
            refine aM (aj.of hu') (v:=.int i2) rfl ?_
            walk_at "r"
            by_cases n3:m<=(if i2>i1 then i2 else i1)
            ·rw[DO n3]
             refine au ?_
             walk_at "r"
             have:bY m (.int i1)=false\/bY m (.int i2)=false:=by
              by_cases n2:i2>i1
              ·rw[DQ n2]at n3
               exact .inr (pA n3)
              ·rw[DP n2]at n3
               exact .inl (pA n3)
             rw[bad (eM (this.imp id .inl))]at q
             exact q _ e
            rw[DN n3]
            have r1:bY m (.int i1)=true:=jO (by split at n1<;>omega) (by split at n3<;>omega)
            have r2:bY m (.int i2)=true:=jO (by split at n1<;>omega) (by split at n3<;>omega)
            clear n1 n3
            refine av ?_
            walk_at "r"
            refine aM (aj.of hu') (v:=b) rfl ?_
            walk_at "r"
            refine bW hkb (jd hkb) ?_
            walk_at "r"
            cases ib:isStr b with
            | false=>
             refine au ?_
             walk_at "r"
             rw[bad (eM (.inr (.inr (.inl (oq ib)))))]at q
             exact q _ e
            | true=>
            obtain⟨z1,rfl⟩:=isStr_of ib
            refine av ?_
            walk_at "r"
            refine aM (aj.of hu') (v:=.str z1) rfl ?_
            walk_at "r"
            refine ao fun dp H2 e2 hdp _=>?_
            have eH2:=e.trans e2
            walk_at "r"
            refine⟨dp,_,rfl,.inr (aj.of hdp),rfl,rfl,?_⟩
            walk_at "r"
            rw[wA]
            cases dz:dQ (.str z1)with
            | false=>
             refine au ?_
             walk_at "r"
             rw[bad (eM (.inr (.inr (.inl dz))))]at q
             exact q _ eH2
            | true=>
            refine av ?_
            walk_at "r"
            refine aM (aj.of (e2 _ _ hu')) (v:=d) rfl ?_
            walk_at "r"
            refine bW (qj e2 hkd) (jd hkd) ?_
            walk_at "r"
            cases id':isStr d with
            | false=>
             refine au ?_
             walk_at "r"
             rw[bad (eM (.inr (.inr (.inr (qI id')))))]at q
             exact q _ eH2
            | true=>
            obtain⟨z2,rfl⟩:=isStr_of id'
            refine av ?_
            walk_at "r"
            refine aM (aj.of (e2 _ _ hu')) (v:=.str z2) rfl ?_
            walk_at "r"
            refine⟨z2,rfl,eX (Dv (show z2.length<=1000 from td) (by decide)),?_⟩
            walk_at "r"
            by_cases l1:z2.length=1
            ·rw[DO (show((z2.length:Nat):Int)=1 by omega)]
             refine av ?_
             walk_at "r"
             refine aM (aj.of (e2 _ _ hu')) (v:=.str z2) rfl ?_
             walk_at "r"
             obtain⟨ch,rfl⟩:=one_sign l1
             refine⟨_,_,rfl,rfl,?_⟩
             walk_at "r"
             rw[xa]
             cases sz:fN ⟨#[ch]⟩with
             | false=>
              refine au ?_
              walk_at "r"
              rw[bad (eM (.inr (.inr (.inr (by unfold ee;dsimp only;rw[sz,Bool.and_false])))))]at q
              exact q _ eH2
             | true=>
              refine av ?_
              walk_at "r"
              refine⟨eH2,⟨_,rfl⟩,fun x hx'=>?_⟩
              rw[List.take_add_one,hx]at hx'
              rcases Dm.mp hx' with z | z
              ·exact hb4 x z
              ·have:x=.ref u:=by simpa using z
               subst this
               rw[ir hu]
               unfold dZ
               dsimp only
               rw[r1,r2,dz]
               unfold ee
               dsimp only
               rw[sz,DO l1]
               rfl
            ·rw[DN (show ¬((z2.length:Nat):Int)=1 by omega)]
             refine au ?_
             walk_at "r"
             rw[bad (eM (.inr (.inr (.inr (by unfold ee;dsimp only;rw[DN l1,Bool.false_and])))))]at q
             exact q _ eH2
           ·rw[bad (ku u4)]at q
            rw[DN (show ¬((us.length:Nat):Int)=4 by omega)]
            refine au ?_
            walk_at "r"
            exact q _ e
         ·rintro σ H' ⟨e,⟨x0,rfl⟩,hb4⟩
          rw[Dt]at hb4
          have hall:ws.all (bN H m)=true:=Dy.mpr hb4
          unfold eB at q
          rw[DO m3,hall,Bool.true_and,Bool.true_and]at q
          obtain⟨bs,ebs,hka'⟩:=kU hall
          walk_at "r"
          refine⟨r,bs,ws.map (dR H),rfl,.inl (by rw[←ebs];exact e _ _ hr'),hka'.ext e,by rw[CN];omega,fun l L hl hnd hmem hL=>?_⟩
          have hll:L.length<=ws.length:=by
           have:=fG hnd fun k hk=>(hmem k).mp hk
           rwa [CN,CN]at this
          walk_at "r"
          refine⟨l,L,rfl,aY,by omega,?_⟩
          walk_at "r"
          have eL:Ext H (upd H' l (iK P w l L)):=e.trans (bq hl)
          refine dn (aj.of (eL _ _ hr')) ?_
          walk_at "r"
          have hiff:=nodup_iff hnd hmem
          rw[CN,CN]at hiff
          have eb:decide ((((L.length:Nat):Int))=((ws.length:Nat):Int))=decide ((ws.map (dR H)).Nodup):=by
           apply decide_eq_decide.mpr
           rw[←hiff]
           omega
          rw[eb]
          exact q _ eL
        ·rw[DO (show((100:Int)<((ws.length:Nat):Int)) by omega)]
         unfold eB at q
         rw[DN m3,Bool.false_and]at q
         refine au ?_
         walk_at "r"
         exact q H fun _ _ z=>z
       ·rw[DO (show 12<m by omega)]
        rw[DN m2,Bool.false_and]at q
        refine au ?_
        walk_at "r"
        exact q H fun _ _ z=>z
      ·rw[DO (show m<1 by omega)]
       rw[DN m1,Bool.false_and]at q
       refine au ?_
       walk_at "r"
       exact q H fun _ _ z=>z
   ·rw[oJ h4]at q
    rw[DN (show ¬((xs.length:Nat):Int)=2 by omega)]
    refine au ?_
    walk_at "r"
    exact q H fun _ _ z=>z
def Kd(H:Hp)(v:V):Prop:=∃n,bJ H v n
def Rw(H:Hp)(v:V):Prop:=Kd H v/\∀p xs,v=.ref p->H p=some (.tup xs)->xs.length<=10000/\∀x∈xs,Kd H x
def Th(H:Hp)(v:V):Prop:=Kd H v/\∀p xs,v=.ref p->H p=some (.tup xs)->∀x∈xs,Rw H x
theorem lN{H H':Hp}(e:Ext H H'){p:Addr}{xs:List V}(h:Kd H (.ref p))(h':H' p=some (.tup xs)):H p=some (.tup xs):=by
 obtain⟨n,h⟩:=h
 rcases h with⟨rfl,ys,q⟩ | ⟨rfl,ys,q⟩
 ·have:=e _ _ q
  rw[h']at this
  cases this
 ·have:=e _ _ q
  rw[h']at this
  cases this
  exact q
theorem Kd.ext{H H':Hp}(e:Ext H H'){v:V}(h:Kd H v):Kd H' v:=by
 obtain⟨n,h⟩:=h
 exact⟨n,qj e h⟩
theorem Rw.ext{H H':Hp}(e:Ext H H'){v:V}(h:Rw H v):Rw H' v:=by
 refine⟨h.1.ext e,fun p xs hv hp=>?_⟩
 subst hv
 obtain⟨h1,h2⟩:=h.2 p xs rfl (lN e h.1 hp)
 exact⟨h1,fun x hx=>(h2 x hx).ext e⟩
theorem Th.ext{H H':Hp}(e:Ext H H'){v:V}(h:Th H v):Th H' v:=by
 refine⟨h.1.ext e,fun p xs hv hp=>?_⟩
 subst hv
 exact fun x hx=>(h.2 p xs rfl (lN e h.1 hp) x hx).ext e
theorem Rw.kn{H:Hp}{v:V}(h:Rw H v):Kn H 1 v:=⟨h.1,fun p xs e q x hx=>(h.2 p xs e q).2 x hx⟩
theorem Th.kn{H:Hp}{v:V}(h:Th H v):Kn H 2 v:=⟨h.1,fun p xs e q x hx=>(h.2 p xs e q x hx).kn⟩
theorem AS{H:Hp}(i:Int):Kd H (.int i):=⟨"int",rfl⟩
theorem bu{H:Hp}(i:Int):Rw H (.int i):=⟨⟨"int",rfl⟩,fun _ _ e=>nomatch e⟩
theorem Ap{H:Hp}(b:Bool):Rw H (.bl b):=⟨⟨"bool",rfl⟩,fun _ _ e=>nomatch e⟩
theorem xg{H:Hp}{p:Addr}{xs:List V}(h:H p=some (.lst xs)):Rw H (.ref p):=⟨⟨"list",.inl ⟨rfl,xs,h⟩⟩,fun p' ys e h'=>by cases e;rw[h]at h';cases h'⟩
theorem gW{H:Hp}{p:Addr}{xs:List V}(h:H p=some (.tup xs))(hl:xs.length<=10000)(hk:∀x∈xs,Kd H x):Rw H (.ref p):=⟨⟨"tuple",.inr ⟨rfl,xs,h⟩⟩,fun p' ys e h'=>by cases e;rw[h]at h';cases h';exact⟨hl,hk⟩⟩
theorem jE{H:Hp}{p:Addr}{xs:List V}(h:H p=some (.tup xs))(hk:∀x∈xs,Rw H x):Th H (.ref p):=⟨⟨"tuple",.inr ⟨rfl,xs,h⟩⟩,fun p' ys e h'=>by cases e;rw[h]at h';cases h';exact hk⟩
theorem gn{H:Hp}{xs:List Int}:∀x∈xs.map V.int,Kd H x:=fun x hx=>by
 obtain⟨i,_,rfl⟩:=List.mem_map.mp hx
 exact AS i
theorem all_ints:∀{xs:List V},(xs.map isInt).all id=true->∃ns:List Int,xs=ns.map V.int
 | [],_=>⟨[],rfl⟩
 | x::xs,h=>by
  have h':isInt x=true/\(xs.map isInt).all id=true:=by simpa using h
  obtain⟨i,rfl⟩:=dj h'.1
  obtain⟨ns,rfl⟩:=all_ints h'.2
  exact⟨i::ns,rfl⟩
theorem mS{hi:Int}:∀{lo:Int} {xs:List V},(xs.map isInt).all id=false->cN lo hi xs=false
 | lo,[],h=>by cases h
 | lo,x::xs,h=>by
  cases hx:isInt x with
  | false=>exact rD hx
  | true=>
   obtain⟨i,rfl⟩:=dj hx
   have h':(xs.map isInt).all id=false:=by
    rw[List.map_cons,List.all_cons]at h
    simpa[isInt]using h
   show(decide (lo<=i) && decide (i<hi) && cN (i+1) hi xs)=false
   rw[mS h',Bool.and_false]
def pairs(ns:List Int):List Bool:=(ns.zip (ns.drop 1)).map fun p=>decide (p.1<p.2)
theorem qK:∀{ns:List Int},(pairs ns).all id=true↔ns.Pairwise (· < ·)
 | []=>⟨fun _=>.nil,fun _=>rfl⟩
 | [x]=>⟨fun _=>List.pairwise_singleton _ _,fun _=>rfl⟩
 | x::y::r=>by
  have ih:=qK (ns:=y::r)
  have e:(pairs (x::y::r)).all id=(decide (x<y) && (pairs (y::r)).all id):=rfl
  rw[e,DA,ih,decide_eq_true_eq]
  constructor
  ·rintro⟨h1,h2⟩
   refine List.pairwise_cons.mpr ⟨fun z hz=>?_,h2⟩
   rcases De.mp hz with rfl | hz
   ·exact h1
   ·have:=(List.pairwise_cons.mp h2).1 z hz
    omega
  ·intro h
   obtain⟨h1,h2⟩:=List.pairwise_cons.mp h
   exact⟨h1 y CU,h2⟩
def bounds(lo hi:Int)(ns:List Int):List Bool:=ns.map fun x=>decide (lo<=x) && decide (x<hi)
theorem wB{lo hi:Int}{ns:List Int}:cN lo hi (ns.map V.int)=((bounds lo hi ns).all id && (pairs ns).all id):=by
 rw[Dz,gh,DA,qK]
 unfold cM bounds
 rw[List.all_map,Dy]
 constructor
 ·rintro⟨h1,h2⟩
  refine⟨fun x hx=>?_,h1⟩
  have:=h2 x hx
  simp[this.1,this.2]
 ·rintro⟨h1,h2⟩
  refine⟨h2,fun x hx=>?_⟩
  have:=h1 x hx
  simpa using this
theorem kP{α:Type}{f:α->Bool}{xs:List α}{i:Nat}{x:α}(h:xs[i]?=some x):((xs.take (i+1)).map f).map V.bl=((xs.take i).map f).map V.bl++[V.bl (f x)]:=by
 rw[List.take_add_one,h,Dg,Dg]
 rfl
theorem yL(xs:List V):bL xs (some 1) none=xs.drop 1:=by
 unfold bL
 rw[HT.rW]
 have e:HT.aD xs.length 0 (some 1)=min 1 xs.length:=rfl
 rw[e]
 rcases DH xs.length 1 with h | h
 ·have:xs=[]:=List.eq_nil_of_length_eq_zero (by omega)
  subst this
  rfl
 ·rw[Nat.min_eq_left h]
  exact List.take_of_length_le (by rw[List.length_drop];exact Dj _)
def ue(K:CJ):Sp:=fun vs H Q _=>∃v lo hi,vs=[v,.int lo,.int hi]/\Rw H v/\∀H',Ext H H'->Q (.bl (aV H lo hi v)) H'
abbrev nV:Stmt:=stq 53
theorem sx:FnScope ["_law_row","_law_low","_law_high"] ["_law_row","_law_low","_law_high"] (aE nV):=⟨rfl,rfl,rfl,by decide +kernel,rfl,by decide +kernel,by decide +kernel⟩
theorem zC{P:Program}{w:World}{K:CJ}{mg:Str->Option Value}{base:Heap}(D:Dfn K mg "_law_rises" nV ["_law_row","_law_low","_law_high"])(T:Blt mg)(C__law_whole:Cal P w K mg base "_law_whole" 1 ["_law_found"] (j9 K)):Cal P w K mg base "_law_rises" 2 ["_law_row","_law_low","_law_high"] (ue K):=by
 have nd:=(sx).nd
 refine D.ok sx (fun vs H Q E h=>?_) (fun X hX H vs Q E h=>?_)
 ·obtain⟨v,lo,hi,rfl,_⟩:=h;rfl
 ·obtain⟨f,cdv,A,outer,s,H0,E0,rfl,hr⟩:=hX
  obtain⟨v,lo,hi,rfl,hk,q⟩:=h
  obtain⟨n,hn⟩:=hk.1
  refine⟨_,(ak (aU (PW.pt (bh (br (bp (aI cq rfl T.isinstance_ PyProof.Rows.boot_isinstance (aa (pv 0) (aa (cp (v:=.ty "tuple") rfl T.tuple_ PyProof.Rows.boot_tuple rfl) ae))))) (bR (br (bp (aI (gp K rfl) rfl T.all_ PyProof.Rows.boot_all (aa (cQ ["_law_part"] [] (dM K (pv 0)) (fun _=>(aP (i:=0) (show(["_law_part"]:List Str).Nodup from by decide +kernel) rfl (Or.inl rfl) (Or.inr rfl))) (fun _=>cI) (fun _=>(ay C__law_whole hr (aa (pv 0) ae)))) ae))))))) (aq (az bA)) aQ)
    (aq (az (cZ (aI (gp K rfl) rfl T.all_ PyProof.Rows.boot_all (aa (cQ ["_law_part"] [1,2] (dM K (pv 0)) (fun _=>(aP (i:=0) (show(["_law_part","_law_low","_law_high"]:List Str).Nodup from by decide +kernel) rfl (Or.inl rfl) (Or.inr rfl))) (fun _=>cI) (fun _=>(jS jn dD (pv 1) (pv 0) (pv 2)))) ae)) (dv (aI (gp K rfl) rfl T.all_ PyProof.Rows.boot_all (aa (cQ ["_law_one","_law_two"] [] (Bg K rfl T.zip_ (aa (pv 0) (aa (dP gY (pv 0) (cE af) fi) ae))) (fun _=>(iN (n:=2) K rfl (bX (aP (i:=0) (show(["_law_one","_law_two"]:List Str).Nodup from by decide +kernel) rfl (Or.inl rfl) (Or.inr rfl)) (bX (aP (i:=1) (show(["_law_one","_law_two"]:List Str).Nodup from by decide +kernel) rfl (Or.inl rfl) (Or.inr rfl)) ft)))) (fun _=>cI) (fun _=>(dA dD (pv 0) (pv 1) (aC _)))) ae))))))),?_⟩
  walk_at "r"
  rcases fA hn with⟨p,xs,rfl,hp,rfl⟩ | ⟨hf,hno⟩
  rotate_left
  ·refine bW hn hf ?_
   walk_at "r"
   refine au (au ?_)
   walk_at "r"
   have:=q H (Ext.rfl' H)
   rw[fB hno]at this
   exact this
  obtain⟨hl,hkd⟩:=hk.2 p xs rfl hp
  rw[dG hp]at q
  refine bW hn (b:=true) rfl ?_
  walk_at "r"
  refine av ?_
  walk_at "r"
  refine dH (aj.of hp) ?_
  refine eW (xs:=xs) (fun i ys H'=>H'=H/\ys=((xs.take i).map isInt).map V.bl) (aH (by omega)) ⟨rfl,rfl⟩ ?_ ?_ ?_
  ·rintro i ys H' _ ⟨rfl,rfl⟩
   exact⟨aj.of hp,by simp;omega⟩
  ·rintro i x ys H' hi' ⟨rfl,rfl⟩
   obtain⟨m,hm⟩:=hkd x (CY hi')
   walk_at "r"
   refine au ?_
   walk_at "r"
   refine⟨x,m,rfl,hm,⟨rfl,?_⟩⟩
   rw[kP hi']
  rintro ys H' p1 ⟨rfl,rfl⟩ hp1
  rw[Dt]
  have e1:Ext H' (upd H' p1 (.lst ((xs.map isInt).map V.bl))):=bq hp1
  have h1:(upd H' p1 (.lst ((xs.map isInt).map V.bl))) p1=_:=aY
  generalize upd H' p1 (.lst ((xs.map isInt).map V.bl))=H1 at e1 h1
  walk_at "r"
  refine⟨p1,_,rfl,ai.of h1,?_⟩
  walk_at "r"
  cases hall:(xs.map isInt).all id with
  | false=>
   refine au ?_
   walk_at "r"
   have:=q H1 e1
   rw[mS hall]at this
   exact this
  | true=>
   obtain⟨ns,rfl⟩:=all_ints hall
   rw[CN]at hl
   rw[wB]at q
   refine av ?_
   walk_at "r"
   have hp':=e1 _ _ hp
   refine dH (aj.of hp') ?_
   refine eW (xs:=ns.map V.int) (fun i ys H'=>H'=H1/\ys=((ns.take i).map fun x=>decide (lo<=x) && decide (x<hi)).map V.bl) (aH (by rw[CN];omega)) ⟨rfl,rfl⟩ ?_ ?_ ?_
   ·rintro i ys H' _ ⟨rfl,rfl⟩
    exact⟨aj.of hp',by simp;omega⟩
   ·rintro i v ys H' hi' ⟨rfl,rfl⟩
    obtain⟨x,rfl,hx⟩:=kM hi'
    walk_at "r"
    refine au ?_
    walk_at "r"
    rw[kP hx]
    cases h1:decide (lo<=x)with
    | false=>exact av ⟨rfl,rfl⟩
    | true=>
     refine au ?_
     walk_at "r"
     exact⟨rfl,rfl⟩
   rintro ys H2' p2 ⟨rfl,rfl⟩ hp2
   rw[CN,Dt]
   have e2:Ext H2' (upd H2' p2 (.lst ((bounds lo hi ns).map V.bl))):=bq hp2
   have h2:(upd H2' p2 (.lst ((bounds lo hi ns).map V.bl))) p2=_:=aY
   have h2':upd H2' p2 (.lst ((ns.map fun x=>decide (lo<=x) && decide (x<hi)).map V.bl))=upd H2' p2 (.lst ((bounds lo hi ns).map V.bl)):=rfl
   rw[h2']
   generalize upd H2' p2 (.lst ((bounds lo hi ns).map V.bl))=H2 at e2 h2
   walk_at "r"
   refine⟨p2,_,rfl,ai.of h2,?_⟩
   walk_at "r"
   cases hb:(bounds lo hi ns).all id with
   | false=>
    refine av ?_
    have:=q H2 (e1.trans e2)
    rw[hb]at this
    exact this
   | true=>
    rw[hb,Bool.true_and]at q
    refine au ?_
    walk_at "r"
    have hp2':=e2 _ _ hp'
    refine fY hp2' fun p3 H3 e3 h3=>?_
    rw[yL]at h3
    walk_at "r"
    refine Ab (aj.of (e3 _ _ hp2')) (aj.of h3) ?_
    refine Cv (xs:=ns.map V.int) (ys:=(ns.map V.int).drop 1) (fun i zs H'=>Ext H3 H'/\zs=(((ns.zip (ns.drop 1)).take i).map fun p=>decide (p.1<p.2)).map V.bl) (aH (by rw[CN];omega)) ⟨Ext.rfl' H3,rfl⟩ ?_ ?_ ?_
    ·rintro i zs H' ⟨e,rfl⟩
     refine⟨aj.of (e _ _ (e3 _ _ hp2')),aj.of (e _ _ h3),?_⟩
     rw[CN,CN,DJ]
     exact Nat.min_le_left _ _
    ·rintro i u v zs H' p4 H4 hu hv ⟨e,rfl⟩ e4 h4 hn4
     obtain⟨x,rfl,hx⟩:=kM hu
     rw[←List.map_drop]at hv
     obtain⟨y,rfl,hy⟩:=kM hv
     have hxy:(ns.zip (ns.drop 1))[i]?=some (x,y):=by
      rw[List.getElem?_zip_eq_some]
      exact⟨hx,hy⟩
     refine gP (aj.of h4) rfl ?_
     walk_at "r"
     refine au ?_
     walk_at "r"
     refine⟨e.trans e4,?_⟩
     rw[kP hxy]
    rintro zs H' p5 ⟨e,rfl⟩ hp5
    have hlen:min (ns.map V.int).length ((ns.map V.int).drop 1).length=(ns.zip (ns.drop 1)).length:=by
     rw[List.length_zip,CN,List.length_drop,List.length_drop,CN]
    rw[hlen,Dt]
    walk_at "r"
    refine⟨p5,pairs ns,rfl,ai.of aY,?_⟩
    exact q _ (e1.trans (e2.trans (e3.trans (e.trans (bq hp5)))))
def lP(K:CJ):Sp:=fun vs H Q _=>∃v,vs=[v]/\Th H v/\∀H',Ext H H'->Q (.bl (b9 H v)) H'
abbrev mJ:Stmt:=stq 54
theorem sM:FnScope ["_law_found"] ["_law_found"] (aE mJ):=⟨rfl,rfl,rfl,by decide +kernel,rfl,by decide +kernel,by decide +kernel⟩
theorem vB{P:Program}{w:World}{K:CJ}{mg:Str->Option Value}{base:Heap}(D:Dfn K mg "_law_is_stair" mJ ["_law_found"])(T:Blt mg)(C__law_rises:Cal P w K mg base "_law_rises" 2 ["_law_row","_law_low","_law_high"] (ue K))(C__law_whole:Cal P w K mg base "_law_whole" 1 ["_law_found"] (j9 K)):Cal P w K mg base "_law_is_stair" 3 ["_law_found"] (lP K):=by
 have nd:=(sM).nd
 refine D.ok sM (fun vs H Q E h=>?_) (fun X hX H vs Q E h=>?_)
 ·obtain⟨v,rfl,_⟩:=h;rfl
 ·obtain⟨f,cdv,A,outer,s,H0,E0,rfl,hr⟩:=hX
  obtain⟨v,rfl,hk,q⟩:=h
  obtain⟨n,hn⟩:=hk.1
  refine⟨_,(ak (aU (PW.pt (bh (br (bp (aI cq rfl T.isinstance_ PyProof.Rows.boot_isinstance (aa (pv 0) (aa (cp (v:=.ty "tuple") rfl T.tuple_ PyProof.Rows.boot_tuple rfl) ae))))) (bR (aJ cw (aI (cu K) rfl T.len_ PySem.boot_len (aa (pv 0) ae)) af (aC _))))) (aq (az bA)) aQ)
    (ak (aU (PW.pt (bh (br (bp (ay C__law_whole hr (aa (ar (aO K) (pv 0) af (fun _ _=>rfl)) ae)))) (bR (br (bp (ay C__law_whole hr (aa (ar (aO K) (pv 0) af (fun _ _=>rfl)) ae))))))) (aq (az bA)) aQ)
    (ak (aU (PW.pt (bh (aJ dD (ar (aO K) (pv 0) af (fun _ _=>rfl)) af (aC _)) (bh (aJ dD (ar (aO K) (pv 0) af (fun _ _=>rfl)) af (aC _)) (bR (br (bp (ay C__law_rises hr (aa (ar (aO K) (pv 0) af (fun _ _=>rfl)) (aa af (aa (ar (aO K) (pv 0) af (fun _ _=>rfl)) ae)))))))))) (aq (az bA)) aQ)
    (aq (az (ay C__law_rises hr (aa (ar (aO K) (pv 0) af (fun _ _=>rfl)) (aa (ar (aO K) (pv 0) af (fun _ _=>rfl)) (aa (ah aG (ar (aO K) (pv 0) af (fun _ _=>rfl)) (ar (aO K) (pv 0) af (fun _ _=>rfl))) ae))))))))),?_⟩
  walk_at "r"
  rcases fA hn with⟨p,xs,rfl,hp,rfl⟩ | ⟨hf,hno⟩
  rotate_left
  ·refine bW hn hf ?_
   walk_at "r"
   refine au (au ?_)
   walk_at "r"
   have:=q H (Ext.rfl' H)
   rw[jZ hno]at this
   exact this
  refine bW hn (b:=true) rfl ?_
  walk_at "r"
  refine av ?_
  walk_at "r"
  refine dn (aj.of hp) ?_
  walk_at "r"
  by_cases hl:xs.length=4
  rotate_left
  ·rw[DN (show ¬((xs.length:Nat):Int)=4 by omega)]
   refine au ?_
   walk_at "r"
   have:=q H (Ext.rfl' H)
   rw[iF hp hl]at this
   exact this
  obtain⟨b,s',o,a,rfl⟩:=kF hl
  rw[fk hp]at q
  have hi:=hk.2 p _ rfl hp
  have ho:=hi o (by simp)
  have ha:=hi a (by simp)
  obtain⟨nb,hnb⟩:=(hi b (by simp)).1
  obtain⟨ns,hns⟩:=(hi s' (by simp)).1
  refine av ?_
  walk_at "r"
  refine aM (aj.of hp) rfl ?_
  walk_at "r"
  refine⟨b,nb,rfl,hnb,?_⟩
  walk_at "r"
  cases ib:isInt b with
  | false=>
   refine au (au ?_)
   walk_at "r"
   have:=q H (Ext.rfl' H)
   rw[ik ib]at this
   exact this
  | true=>
   refine av ?_
   walk_at "r"
   refine aM (aj.of hp) rfl ?_
   walk_at "r"
   refine⟨s',ns,rfl,hns,?_⟩
   walk_at "r"
   cases is':isInt s' with
   | false=>
    refine au ?_
    walk_at "r"
    have:=q H (Ext.rfl' H)
    rw[i3 is']at this
    exact this
   | true=>
    obtain⟨zb,rfl⟩:=dj ib
    obtain⟨zs,rfl⟩:=dj is'
    have e:cW H (.int zb) (.int zs) o a=(decide (0<=zb) && decide (1<=zs) && aV H 0 zb o && aV H zb (zb+zs) a):=rfl
    rw[e]at q
    refine av ?_
    walk_at "r"
    refine aM (aj.of hp) rfl ?_
    walk_at "r"
    by_cases h1:zb<0
    ·rw[DO h1]
     refine au (au ?_)
     walk_at "r"
     have:=q H (Ext.rfl' H)
     rw[DN (show ¬0<=zb by omega)]at this
     exact this
    ·rw[DN h1]
     refine av ?_
     walk_at "r"
     refine aM (aj.of hp) rfl ?_
     walk_at "r"
     by_cases h2:zs<1
     ·rw[DO h2]
      refine au (au ?_)
      walk_at "r"
      have:=q H (Ext.rfl' H)
      rw[DN (show ¬1<=zs by omega),Bool.and_false,Bool.false_and,Bool.false_and]at this
      exact this
     ·rw[DN h2]
      rw[DO (show 0<=zb by omega),DO (show 1<=zs by omega)]at q
      refine av ?_
      walk_at "r"
      refine aM (aj.of hp) rfl ?_
      walk_at "r"
      refine aM (aj.of hp) rfl ?_
      walk_at "r"
      refine⟨o,0,zb,rfl,ho,fun H1 e1=>?_⟩
      walk_at "r"
      cases ho':aV H 0 zb o with
      | false=>
       rw[ho']at q
       refine au ?_
       walk_at "r"
       exact q H1 e1
      | true=>
       rw[ho']at q
       refine av ?_
       walk_at "r"
       refine aM (aj.of (e1 _ _ hp)) rfl ?_
       walk_at "r"
       refine aM (aj.of (e1 _ _ hp)) rfl ?_
       walk_at "r"
       refine aM (aj.of (e1 _ _ hp)) rfl ?_
       walk_at "r"
       refine aM (aj.of (e1 _ _ hp)) rfl ?_
       walk_at "r"
       have ea:aV H1 zb (zb+zs) a=aV H zb (zb+zs) a:=by
        obtain⟨na,hna⟩:=ha.1
        rcases fA hna with⟨pa,ys,rfl,hpa,_⟩ | ⟨_,hnoa⟩
        ·rw[dG hpa,dG (e1 _ _ hpa)]
        ·rw[fB hnoa,fB fun p ys ev hpa=>hnoa p ys ev (lN e1 (by rw[←ev];exact ha.1) hpa)]
       refine⟨a,zb,zb+zs,rfl,ha.ext e1,fun H2 e2=>?_⟩
       rw[ea]
       exact q H2 (e1.trans e2)
def cH(H:Hp)(p:Addr)(kk:List (List Key)):Prop:=∃bs:List Addr,H p=some (.tup (bs.map V.ref))/\bs.length=kk.length/\∀(j:Nat) (b:Addr) (k:List Key),bs[j]?=some b->kk[j]?=some k->H b=some (.tup (k.map kV))
theorem cH.ext{H H':Hp}{p:Addr}{kk:List (List Key)}(e:Ext H H')(h:cH H p kk):cH H' p kk:=by
 obtain⟨bs,h1,h2,h3⟩:=h
 exact⟨bs,e _ _ h1,h2,fun j b k e1 e2=>e _ _ (h3 j b k e1 e2)⟩
structure Way where
 room:Int
 deed:Str
 other:Int
 sign:Str
 deriving DecidableEq
abbrev Way.key(w:Way):List Key:=[.inl w.room,.inr w.deed,.inl w.other,.inr w.sign]
abbrev Way.vs(w:Way):List V:=[.int w.room,.str w.deed,.int w.other,.str w.sign]
theorem Way.key_inj{w u:Way}(h:w.key=u.key):w=u:=by
 cases w;cases u
 simp only[Way.key,List.cons.injEq,Sum.inl.injEq,Sum.inr.injEq]at h
 obtain⟨rfl,rfl,rfl,rfl,_⟩:=h
 rfl
def jN(z:Str):Prop:=∃c:Nat,97<=c/\c<=122/\z=⟨#[c]⟩
def cJ(z:Str):Prop:=z = "up"\/z = "down"\/z = "stay"\/z = "zero"
structure Way.Ok(m:Int)(w:Way):Prop where
 r0:0<=w.room
 r1:w.room<m
 o0:0<=w.other
 o1:w.other<m
 dd:cJ w.deed
 sg:jN w.sign
structure HOuse(m:Int)(ws:List Way):Prop where
 m1:1<=m
 m12:m<=12
 few:ws.length<=100
 ok:∀w∈ws,w.Ok m
 nd:ws.Nodup
def bF(H:Hp)(v:V)(m:Int)(ws:List Way):Prop:=∃p q,v=.ref p/\H p=some (.tup [.int m,.ref q])/\cH H q (ws.map Way.key)
theorem bF.ext{H H':Hp}{v:V}{m:Int}{ws:List Way}(e:Ext H H')(h:bF H v m ws):bF H' v m ws:=by
 obtain⟨p,q,rfl,h1,h2⟩:=h
 exact⟨p,q,rfl,e _ _ h1,h2.ext e⟩
theorem cH.item{H:Hp}{ws:List Way}{bs:List Addr}(h:∀(j:Nat) (b:Addr) (k:List Key),bs[j]?=some b->(ws.map Way.key)[j]?=some k->H b=some (.tup (k.map kV))){j:Nat}{b:Addr}{w:Way}(e1:bs[j]?=some b)(e2:ws[j]?=some w):H b=some (.tup w.vs):=
 h j b w.key e1 (by rw[CP,e2];rfl)
def bg(H:Hp)(bs:List Addr)(ws:List Way):Prop:=bs.length=ws.length/\∀(j:Nat) (b:Addr) (w:Way),bs[j]?=some b->ws[j]?=some w->H b=some (.tup w.vs)
theorem bg.ext{H H':Hp}{bs:List Addr}{ws:List Way}(e:Ext H H')(h:bg H bs ws):bg H' bs ws:=⟨h.1,fun j b w e1 e2=>e _ _ (h.2 j b w e1 e2)⟩
theorem bg.put{H:Hp}{f:Addr}{xs ys:List V}{bs:List Addr}{ws:List Way}(hf:H f=some (.lst xs))(h:bg H bs ws):bg (upd H f (.lst ys)) bs ws:=⟨h.1,fun j b w e1 e2=>by
 have:=h.2 j b w e1 e2
 rw[aT (gr this hf (by intro z;cases z))]
 exact this⟩
theorem bg.nil(H:Hp):bg H [] []:=⟨rfl,fun j b w e=>by simp at e⟩
theorem bg.snoc{H:Hp}{bs:List Addr}{ws:List Way}{b:Addr}{w:Way}(h:bg H bs ws)(hb:H b=some (.tup w.vs)):bg H (bs++[b]) (ws++[w]):=by
 refine⟨by simp[h.1],fun j b' w' e1 e2=>?_⟩
 rcases DH j bs.length with hj | hj
 ·rw[Dp hj]at e1
  rw[Dp (by rw[←h.1];exact hj)]at e2
  exact h.2 j b' w' e1 e2
 ·rw[Dn hj]at e1
  rw[Dn (by rw[←h.1];exact hj),←h.1]at e2
  cases hk:j-bs.length with
  | zero=>
   rw[hk]at e1 e2
   cases e1;cases e2
   exact hb
  | succ k=>rw[hk]at e1;simp at e1
theorem bg.ways{H:Hp}{p:Addr}{bs:List Addr}{ws:List Way}(h:bg H bs ws)(hp:H p=some (.tup (bs.map V.ref))):cH H p (ws.map Way.key):=
 ⟨bs,hp,by rw[CN];exact h.1,fun j b k e1 e2=>by
  rw[CP]at e2
  obtain⟨w,hw,rfl⟩:=Dc.mp e2
  exact h.2 j b w e1 hw⟩
theorem cH.al{H:Hp}{p:Addr}{ws:List Way}(h:cH H p (ws.map Way.key)):∃bs:List Addr,H p=some (.tup (bs.map V.ref))/\bg H bs ws:=by
 obtain⟨bs,h1,h2,h3⟩:=h
 rw[CN]at h2
 exact⟨bs,h1,h2,fun j b w e1 e2=>cH.item h3 e1 e2⟩
abbrev Way.D(w:Way):PyData:=.tuple [.int w.room,.str w.deed,.int w.other,.str w.sign]
structure Way.Lay(w:Way):Prop where
 d:(PyData.str w.deed).canLay0=true
 s:(PyData.str w.sign).canLay0=true
theorem xR:∀c:Fin 123,97<=c.1->(PyData.str ⟨#[c.1]⟩).canLay0=true:=by decide +kernel
theorem Way.Ok.lay{m:Int}{w:Way}(h:w.Ok m):w.Lay:=by
 constructor
 ·rcases h.dd with e | e | e | e<;>rw[e]<;>decide +kernel
 ·obtain⟨c,h1,h2,e⟩:=h.sg
  rw[e]
  exact xR ⟨c,Nat.lt_succ_of_le h2⟩ h1
theorem Way.rep{H:Hp}{b:Addr}{w:Way}(h:H b=some (.tup w.vs))(l:w.Lay):bf H 1 (.ref b) w.D:=
 .inr ⟨b,w.vs,_,rfl,.inl ⟨h,rfl⟩,.cons rfl (.cons ⟨rfl,l.d⟩ (.cons rfl (.cons ⟨rfl,l.s⟩ .nil)))⟩
theorem Way.eqv(w u:Way):PyData.eqv w.D u.D=decide (w=u):=by
 simp only[PyData.eqv,PyData.eqvAll]
 by_cases h:w=u
 ·subst h;simp
 ·rw[DN h]
  obtain⟨a,b,c,d⟩:=w
  obtain⟨a',b',c',d'⟩:=u
  simp only[Way.mk.injEq,not_and]at h
  simp only[Bool.and_true,Bool.and_eq_false_iff,beq_eq_false_iff_ne]
  by_cases h1:a=a'
  ·by_cases h2:b=b'
   ·by_cases h3:c=c'
    ·exact .inr (.inr (.inr (h h1 h2 h3)))
    ·exact .inr (.inr (.inl h3))
   ·exact .inr (.inl h2)
  ·exact .inl h1
theorem bg.reps{H:Hp}:∀{bs:List Addr} {ws:List Way},bg H bs ws->(∀w∈ws,w.Lay)->Paired (bf H 1) (bs.map V.ref) (ws.map Way.D)
 | [],[],_,_=>.nil
 | [],_::_,h,_=>by cases h.1
 | _::_,[],h,_=>by cases h.1
 | b::bs,w::ws,h,l=>.cons (Way.rep (h.2 0 b w rfl rfl) (l w CU)) (bg.reps ⟨Nat.succ.inj h.1,fun j b w e1 e2=>h.2 (j+1) b w e1 e2⟩ fun u hu=>l u (CQ _ hu))
theorem zK(ws:List Way)(w:Way):((ws.map Way.D).any fun e=>PyData.eqv e w.D)=decide (w∈ws):=by
 rw[List.any_map]
 induction ws with
 | nil=>rfl
 | cons u ws ih=>
  rw[List.any_cons,ih,Function.comp_apply,Way.eqv]
  by_cases h:w∈ws
  ·simp[h]
  ·by_cases e:u=w
   ·simp[e]
   ·have:¬w=u:=fun z=>e z.symm
    simp[h,e,this]
def kl(K:CJ):Sp:=fun vs H Q _=>∃l bs ws,vs=[.ref l]/\H l=some (.lst (bs.map V.ref))/\bg H bs ws/\(∀w∈ws,Way.Lay w)/\ws.length<=200 ∧
 ∀q H' us,Ext H H'->cH H' q (List.map Way.key us)->us.Nodup->(∀u∈us,u∈ws)->us.length<=ws.length->Q (.ref q) H'
abbrev ma:Stmt:=stq 47
theorem pF:FnScope ["_law_ways","_law_found","_law_way"] ["_law_ways"] (aE ma):=⟨rfl,rfl,rfl,by decide +kernel,rfl,by decide +kernel,by decide +kernel⟩
theorem xC{P:Program}{w:World}{K:CJ}{mg:Str->Option Value}{base:Heap}(D:Dfn K mg "_law_unlike" ma ["_law_ways"])(T:Blt mg):Cal P w K mg base "_law_unlike" 1 ["_law_ways"] (kl K):=by
 have nd:=(pF).nd
 refine D.ok pF (fun vs H Q E h=>?_) (fun X hX H vs Q E h=>?_)
 ·obtain⟨l,bs,ws,rfl,_⟩:=h;rfl
 ·obtain⟨f,cdv,A,outer,s,H0,E0,rfl,hr⟩:=hX
  obtain⟨l,bs,ws,rfl,hl,al,lay,hlen,q⟩:=h
  refine⟨_,(ak (aF (i:=1) nd rfl (Or.inl rfl) (aZ ae))
    (ak (cR PassesOwn.never rfl (ef K (pv 0)) (aP (i:=2) nd rfl (Or.inl rfl)) (aq (eI (aJ (AQ hr) (pv 2) (pv 1) (by with_unfolding_all rfl)) (aq (bZ (bx K CV Dk Dl cy (pv 1) (aa (pv 2) ae)))) aQ)))
    (aq (az (bK (fw K) rfl T.tuple_ PyProof.Rows.boot_tuple (aa (pv 1) ae)))))),?_⟩
  walk_at "r"
  refine ao fun f H1 e1 hf hfn=>?_
  walk_at "r"
  refine dX (ai.of (e1 _ _ hl)) ?_
  refine forL (xs:=bs.map V.ref) (fun i σ H2=>Ext H H2/\∃(k:Option V) (cs:List Addr) (us:List Way),σ=[some (.ref l),some (.ref f),k]/\H2 f=some (.lst (cs.map V.ref))/\bg H2 cs us/\us.Nodup/\(∀u∈us,u∈ws)/\us.length<=i)
   ⟨e1,none,[],[],rfl,hf,bg.nil _,List.nodup_nil,fun u hu=>by simp at hu,Dj _⟩ (fun i σ H2 _ h=>ai.of (h.1 _ _ hl)) ?_ ?_
  ·rintro i x σ H2 hx ⟨e2,k,cs,us,rfl,hf2,al2,nd2,sub2,len2⟩
   rw[CP]at hx
   obtain⟨b,hb,rfl⟩:=Dc.mp hx
   have hi:i<ws.length:=by
    rw[←al.1]
    exact(CW.mp hb).1
   have hwi:ws[i]?=some ws[i]:=CO hi
   have hbw:=e2 _ _ (al.2 i b _ hb hwi)
   walk_at "r"
   refine qw ?_
   walk_at "r"
   refine zg (Way.rep hbw (lay _ (Dr hi))) hf2 (al2.reps fun u hu=>lay u (sub2 u hu)) (by decide) ?_
   simp only[if_true,zK]
   refine rd_exb ?_
   by_cases hm:ws[i]∈us
   ·rw[DO hm]
    refine av ?_
    walk_at "r"
    exact⟨e2,_,cs,us,rfl,hf2,al2,nd2,sub2,by omega⟩
   ·rw[DN hm]
    refine au ?_
    walk_at "r"
    refine⟨iq (ai.of hf2),?_⟩
    walk_at "r"
    refine cv hf2 (by rw[CN,al2.1];exact Nat.lt_of_le_of_lt (show us.length<=1000 by omega) (by decide)) ?_
    walk_at "r"
    refine⟨gH e2 hfn,_,cs++[b],us++[ws[i]],rfl,by rw[aY,Dg];rfl,(al2.put hf2).snoc ?_,?_,?_,by simp;omega⟩
    ·rw[aT (gr hbw hf2 (by intro z;cases z))]
     exact hbw
    ·rw[List.nodup_append]
     exact⟨nd2,by simp,fun a ha c hc=>by rw[CZ.mp hc];exact fun z=>hm (z ▸ ha)⟩
    ·intro u hu
     rcases Dm.mp hu with hu | hu
     ·exact sub2 u hu
     ·rw[CZ.mp hu];exact Dr hi
  ·rintro σ H2 ⟨e2,k,cs,us,rfl,hf2,al2,nd2,sub2,len2⟩
   walk_at "r"
   refine fK (ai.of hf2) (aW fun p H3 e3 hp _=>?_)
   exact q p H3 us (e2.trans e3) ((al2.ext e3).ways hp) nd2 sub2 (by rw[CN,al.1]at len2;exact len2)
def jc(z:Str):Prop:=∃c:Nat,97<=c/\c<=99/\z=⟨#[c]⟩
structure Way.Ok3(m:Int)(w:Way):Prop where
 r0:0<=w.room
 r1:w.room<m
 o0:0<=w.other
 o1:w.other<m
 dd:cJ w.deed
 sg:jc w.sign
structure HOuse3(m:Int)(ws:List Way):Prop where
 m1:1<=m
 m12:m<=12
 few:ws.length<=100
 ok:∀w∈ws,w.Ok3 m
 nd:ws.Nodup
theorem Way.Ok3.ok{m:Int}{w:Way}(h:w.Ok3 m):w.Ok m:=by
 obtain⟨c,h1,h2,h3⟩:=h.sg
 exact⟨h.r0,h.r1,h.o0,h.o1,h.dd,c,h1,by omega,h3⟩
theorem Way.Ok3.lay{m:Int}{w:Way}(h:w.Ok3 m):w.Lay:=h.ok.lay
theorem HOuse3.house{m:Int}{ws:List Way}(h:HOuse3 m ws):HOuse m ws:=⟨h.m1,h.m12,h.few,fun w hw=>(h.ok w hw).ok,h.nd⟩
theorem wV{ds:List Int}{i:Nat}(h:i+4<=ds.length):∃a b c d,bL (ds.map V.int) (some (i:Int)) (some ((i+4:Nat):Int))=[.int a,.int b,.int c,.int d]/\ds[i]?=some a/\ds[i+1]?=some b/\ds[i+2]?=some c/\ds[i+3]?=some d:=by
 refine⟨ds[i],ds[i+1],ds[i+2],ds[i+3],?_,CO _,CO _,CO _,CO _⟩
 unfold bL
 rw[HT.mL,HT.mL,CN,Nat.min_eq_left (by omega),Nat.min_eq_left (by omega),show i+4-i=4 by omega,←List.map_drop,←List.map_take]
 rw[List.drop_eq_getElem_cons (show i<ds.length by omega),List.drop_eq_getElem_cons (show i+1<ds.length by omega),List.drop_eq_getElem_cons (show i+1+1<ds.length by omega),List.drop_eq_getElem_cons (show i+1+1+1<ds.length by omega)]
 rfl
def dY:List Int:=[8,12,13,31]++(DF 30 ([12,6,12,3]:List Int)).flatten
theorem vW{k:Nat}(h:k<30):dY[4+4*k]?=some 12/\dY[4+4*k+1]?=some 6/\dY[4+4*k+2]?=some 12/\dY[4+4*k+3]?=some 3:=by
 have:∀k:Fin 30,dY[4+4*k.val]?=some 12/\dY[4+4*k.val+1]?=some 6/\dY[4+4*k.val+2]?=some 12/\dY[4+4*k.val+3]?=some 3:=by decide +kernel
 exact this ⟨k,h⟩
def oY(K:CJ):Sp:=fun vs H Q _=>∃c p,vs=[.int c,.int p]/\0<p/\∀v m ws H',Ext H H'->bF H' v m ws->HOuse3 m ws->Q v H'
theorem yD{e:Int}(h0:0<=e)(h1:e<6):∃z,bQ ([.str "up",.str "down",.str "stay",.str "zero",.str "up",.str "down"]:List V) e=some (.str z)/\cJ z:=by
 have:e=0\/e=1\/e=2\/e=3\/e=4\/e=5:=by omega
 rcases this with rfl | rfl | rfl | rfl | rfl | rfl
 ·exact⟨_,rfl,.inl rfl⟩
 ·exact⟨_,rfl,.inr (.inl rfl)⟩
 ·exact⟨_,rfl,.inr (.inr (.inl rfl))⟩
 ·exact⟨_,rfl,.inr (.inr (.inr rfl))⟩
 ·exact⟨_,rfl,.inl rfl⟩
 ·exact⟨_,rfl,.inr (.inl rfl)⟩
theorem v8:(DB "abc").cps.toList=[97,98,99]:=by decide +kernel
theorem xt{e:Int}(h0:0<=e)(h1:e<3):∃c,bQ (DB "abc").cps.toList e=some c/\97<=c/\c<=99:=by
 rw[v8]
 have:e=0\/e=1\/e=2:=by omega
 rcases this with rfl | rfl | rfl
 ·exact⟨97,rfl,by decide,by decide⟩
 ·exact⟨98,rfl,by decide,by decide⟩
 ·exact⟨99,rfl,by decide,by decide⟩
theorem BB{e:Int}(h0:0<=e)(h1:e<8):∃w:Int,bQ (([4,4,4,5,3,2,5,12]:List Int).map V.int) e=some (.int w)/\1<=w/\w<=12:=by
 obtain⟨n,rfl⟩:=Int.eq_ofNat_of_zero_le h0
 have hn:n<8:=Int.ofNat_lt.mp h1
 have key:∀i:Fin 8,1<=([4,4,4,5,3,2,5,12]:List Int)[i]/\([4,4,4,5,3,2,5,12]:List Int)[i]<=12:=by decide
 exact⟨([4,4,4,5,3,2,5,12]:List Int)[n],dF (by rw[CP,CO hn];rfl),key ⟨n,hn⟩⟩
theorem bF.mk{H:Hp}{p q:Addr}{m:Int}{ws:List Way}(h1:H p=some (.tup [.int m,.ref q]))(h2:cH H q (ws.map Way.key)):bF H (.ref p) m ws:=⟨p,q,rfl,h1,h2⟩
abbrev ni:Stmt:=stq 48
theorem pV:FnScope ["_law_cell_here","_law_prime","_law_draws_here","_law_many","_law_often","_law_ways","_law_k","_law_room","_law_deed","_law_other","_law_sign","_law_word"] ["_law_cell_here","_law_prime"] (aE ni):=⟨rfl,rfl,rfl,by decide +kernel,rfl,by decide +kernel,by decide +kernel⟩
theorem wM{P:Program}{w:World}{K:CJ}{mg:Str->Option Value}{base:Heap}(D:Dfn K mg "_law_drawn_house" ni ["_law_cell_here","_law_prime"])(T:Blt mg)(C__law_unlike:Cal P w K mg base "_law_unlike" 1 ["_law_ways"] (kl K))(C__law_draws:Cal P w K mg base "_law_draws" 2 ["_law_cell_here","_law_widths","_law_prime"] (eZ K)):Cal P w K mg base "_law_drawn_house" 3 ["_law_cell_here","_law_prime"] (oY K):=by
 have nd:=(pV).nd
 refine D.ok pV (fun vs H Q E h=>?_) (fun X hX H vs Q E h=>?_)
 ·obtain⟨c,p,rfl,_⟩:=h;rfl
 ·obtain⟨f,cdv,A,outer,s,H0,E0,rfl,hr⟩:=hX
  obtain⟨c,p,rfl,hp,q⟩:=h
  refine⟨_,(@ak _ _ _ _ _ (@aF _ _ 2 _ _ _ _ nd rfl (Or.inl rfl) (ay C__law_draws hr (@aa _ _ _ _ _ (pv 0) (@aa _ _ _ _ _ (ah cD (@aZ _ _ _ _ (gQ (.c (.c (.c (.c .n)))))) (ah lQ (@aZ _ _ _ _ (gQ (.c (.c (.c (.c .n)))))) af)) (@aa _ _ _ _ _ (pv 1) ae rfl) rfl) rfl)) rfl (Or.inl rfl))
    (@ak _ _ _ _ _ (@aF _ _ 3 _ _ _ _ nd rfl (Or.inl rfl) (ah aG af (ah bz (@ar _ _ _ _ _ _ _ (aL K) (pv 2) af (fun _ _=>rfl)) (@ar _ _ _ _ _ _ _ (aL K) (@aZ _ _ _ _ (gQ (.c (.c (.c (.c (.c (.c (.c (.c .n)))))))))) (@ar _ _ _ _ _ _ _ (aL K) (pv 2) af (fun _ _=>rfl)) (fun _ _=>rfl)))) rfl (Or.inl rfl))
    (@ak _ _ _ _ _ (@aF _ _ 4 _ _ _ _ nd rfl (Or.inl rfl) (@ar _ _ _ _ _ _ _ (aL K) (pv 2) af (fun _ _=>rfl)) rfl (Or.inl rfl))
    (@ak _ _ _ _ _ (eI (aJ ck (@ar _ _ _ _ _ _ _ (aL K) (pv 2) af (fun _ _=>rfl)) af (aC _)) (@aq _ _ _ (@aF _ _ 4 _ _ _ _ nd rfl (Or.inl rfl) (@ar _ _ _ _ _ _ _ (aL K) (pv 2) af (fun _ _=>rfl)) rfl (Or.inl rfl))) aQ)
    (@ak _ _ _ _ _ (@aF _ _ 5 _ _ _ _ nd rfl (Or.inl rfl) (@aZ _ _ _ _ ae) rfl (Or.inl rfl))
    (@ak _ _ _ _ _ (cR PassesOwn.never rfl (eA rfl T.range_ (@aa _ _ _ _ _ (pv 4) ae rfl)) (aP (i:=6) nd rfl (Or.inl rfl)) (@ak _ _ _ _ _ (@jq _ _ _ _ _ _ (dP (iA K) (pv 2) (cE (ah aG af (ah dW af (pv 6)))) (cE (ah aG af (ah dW af (pv 6))))) (AG (n:=4) K rfl (bX (aP (i:=7) nd rfl (Or.inl rfl)) (bX (aP (i:=8) nd rfl (Or.inl rfl)) (bX (aP (i:=9) nd rfl (Or.inl rfl)) (bX (aP (i:=10) nd rfl (Or.inl rfl)) ft))))) rfl rfl rfl)
    (@ak _ _ _ _ _ (@aF _ _ 11 _ _ _ _ nd rfl (Or.inl rfl) (@ar _ _ _ _ _ _ _ (aL K) (@aZ _ _ _ _ (@aa _ _ _ _ _ aw (@aa _ _ _ _ _ aw (@aa _ _ _ _ _ aw (@aa _ _ _ _ _ aw (@aa _ _ _ _ _ aw (@aa _ _ _ _ _ aw ae rfl) rfl) rfl) rfl) rfl) rfl)) (pv 8) (fun _ _=>rfl)) rfl (Or.inl rfl))
    (@aq _ _ _ (bZ (bx K CV Dk Dl cy (pv 5) (@aa _ _ _ _ _ (@aA _ _ _ _ _ (@aa _ _ _ _ _ (ah bz (pv 7) (pv 3)) (@aa _ _ _ _ _ (pv 11) (@aa _ _ _ _ _ (ah bz (pv 9) (pv 3)) (@aa _ _ _ _ _ (@ar _ _ _ _ _ _ _ kg aw (pv 10) (fun _ _=>rfl)) ae rfl) rfl) rfl) rfl)) ae rfl)))))))
    (@aq _ _ _ (@az _ _ _ _ (@aA _ _ _ _ _ (@aa _ _ _ _ _ (pv 3) (@aa _ _ _ _ _ (ay C__law_unlike hr (@aa _ _ _ _ _ (pv 5) ae rfl)) ae rfl) rfl)))))))))),?_⟩
  walk_at "r"
  refine ao fun w0 G1 f1 hw0 _=>?_
  walk_at "r"
  refine ao fun w1 G2 f2 hw1 _=>?_
  walk_at "r"
  refine lX hw1 (by omega) (aH (by decide)) (aW fun w2 G3 f3 hw2 _=>?_)
  walk_at "r"
  refine cB (f3 _ _ (f2 _ _ hw0)) hw2 (aH (by decide)) (aW fun w3 G4 f4 hw3 _=>?_)
  walk_at "r"
  refine gG dY hw3 (by decide +kernel) (by decide +kernel) (hp) fun dq ds H1 e1 hd hdn hl hb=>?_
  have eH:Ext H H1:=f1.trans (f2.trans (f3.trans (f4.trans e1)))
  have hl':ds.length=124:=hl
  have at_:∀(i:Nat) (x:Int),dY[i]?=some x->∃d,ds[i]?=some d/\0<=d/\d<x:=fun i x hx=>by
   have hi:i<ds.length:=by
    rw[hl]
    exact(CW.mp hx).1
   exact⟨ds[i],CO hi,hb i _ x (CO hi) hx⟩
  obtain⟨d0,g0,b00,b01⟩:=at_ 0 8 rfl
  obtain⟨d1,g1,b10,b11⟩:=at_ 1 12 rfl
  obtain⟨d2,g2,b20,b21⟩:=at_ 2 13 rfl
  obtain⟨d3,g3,b30,b31⟩:=at_ 3 31 rfl
  have pick:∀{i:Nat} {d:Int},ds[i]?=some d->bQ (ds.map V.int) (i:Int)=some (.int d):=fun{i d} h=>dF (by rw[CP,h];rfl)
  walk_at "r"
  refine aK (ai.of hd) (pick (i:=1) g1) ?_
  walk_at "r"
  refine ao fun mq H2 e2 hmq _=>?_
  walk_at "r"
  refine aK (ai.of (e2 _ _ hd)) (pick (i:=0) g0) ?_
  obtain⟨w,hw,hw1',hw2'⟩:=BB b00 b01
  refine aK (ai.of hmq) hw ?_
  try refine rd_I (show(0:Int)<w by omega) ?_
  walk_at "r"
  have r0:0<=d1 % w:=Int.emod_nonneg _ (by omega)
  have r1:d1 % w<w:=Int.emod_lt_of_pos _ (by omega)
  obtain⟨m,hm,m1,m2⟩:∃m,1+d1 % w=m/\1<=m/\m<=12:=⟨_,rfl,by omega,by omega⟩
  rw[hm]
  refine aK (ai.of (e2 _ _ hd)) (pick (i:=2) g2) ?_
  walk_at "r"
  have eH2:Ext H H2:=eH.trans e2
  have hd2:=e2 _ _ hd
  refine fH (fun σ' H'=>H'=H2/\∃o:Nat,o<=30/\σ'=[some (.int c),some (.int p),some (.ref dq),some (.int m),some (.int o),none,none,none,none,none,none,none]) ?_ ?_
  ·walk_at "r"
   refine aK (ai.of hd2) (pick (i:=0) g0) ?_
   walk_at "r"
   refine cT (fun h=>?_) (fun h=>?_)
   ·walk_at "r"
    refine aK (ai.of hd2) (pick (i:=3) g3) ?_
    walk_at "r"
    exact⟨rfl,d3.toNat,by omega,by rw[Int.toNat_of_nonneg b30];rfl⟩
   ·walk_at "r"
    exact⟨rfl,d2.toNat,by omega,by rw[Int.toNat_of_nonneg b20];rfl⟩
  rintro σ' H' ⟨rfl,o,ho,rfl⟩
  clear hw hw1' hw2' r0 r1 b00 b01 b10 b11 b20 b21 b30 b31
  walk_at "r"
  refine ao fun f H3 e3 hf hfn=>?_
  walk_at "r"
  refine eG (by omega) ?_
  refine forR (fun i σ H4=>Ext H' H4/\∃(k1 k2 k3 k4 k5 k6:Option V) (cs:List Addr) (us:List Way),σ=[some (.int c),some (.int p),some (.ref dq),some (.int m),some (.int o),some (.ref f),k1,k2,k3,k4,k5,k6]/\H4 f=some (.lst (cs.map V.ref))/\bg H4 cs us/\(∀u∈us,u.Ok3 m)/\us.length=i)
   ⟨e3,none,none,none,none,none,none,[],[],rfl,hf,bg.nil _,fun u hu=>by simp at hu,rfl⟩ ?_ ?_
  ·rintro i σ H4 hi ⟨e4,k1,k2,k3,k4,k5,k6,cs,us,rfl,hf4,al,ok,len⟩
   rw[Dd]at hi
   have hi30:i<30:=by omega
   obtain⟨a,b,c',d,hcut,ga,gb,gc,gd⟩:=wV (ds:=ds) (i:=4+4*i) (by omega)
   obtain⟨y0,y1,y2,y3⟩:=vW hi30
   have ba:=hb _ _ _ ga y0
   have bb:=hb _ _ _ gb y1
   have bc:=hb _ _ _ gc y2
   have bd:=hb _ _ _ gd y3
   have hd4:=e4 _ _ hd2
   walk_at "r"
   refine iJ (ai.of hd4) (aW fun t H5 e5 ht htn=>?_)
   rw[show (4:Int)+4*(0+(i:Int))=((4+4*i:Nat):Int) by omega,show (8:Int)+4*(0+(i:Int))=((4+4*i+4:Nat):Int) by omega,hcut]at ht
   walk_at "r"
   refine yO (ai.of ht) rfl ?_
   walk_at "r"
   refine ao fun u1 H6 e6 hu1 _=>?_
   walk_at "r"
   obtain⟨z,hz,okz⟩:=yD bb.1 bb.2
   refine aK (ai.of hu1) hz ?_
   walk_at "r"
   have hf6:=e6 _ _ (e5 _ _ hf4)
   refine⟨iq (ai.of hf6),?_⟩
   walk_at "r"
   try refine rd_I (show(0:Int)<m by omega) ?_
   walk_at "r"
   try refine rd_I (show(0:Int)<m by omega) ?_
   walk_at "r"
   obtain⟨s,hs,s1,s2⟩:=xt bd.1 bd.2
   refine⟨_,_,s,rfl,rfl,eX (by decide +kernel),hs,?_⟩
   walk_at "r"
   refine ao fun v H7 e7 hv _=>?_
   have hf7:=e7 _ _ hf6
   walk_at "r"
   refine cv hf7 (by rw[CN,al.1,len];exact Nat.lt_of_le_of_lt (show i<=1000 by omega) (by decide)) ?_
   walk_at "r"
   have al7:bg H7 cs us:=((al.ext e5).ext e6).ext e7
   have hv7:H7 v=some (.tup (Way.vs ⟨a % m,z,c' % m,⟨#[s]⟩⟩)):=hv
   refine⟨gH (e4.trans (e5.trans (e6.trans e7))) hfn,_,_,_,_,_,_,cs++[v],us++[⟨a % m,z,c' % m,⟨#[s]⟩⟩],rfl,by rw[aY,Dg];rfl,(al7.put hf7).snoc ?_,?_,by simp[len]⟩
   ·rw[aT (gr hv7 hf7 (by intro z;cases z))]
    exact hv7
   ·intro u hu
    rcases Dm.mp hu with hu | hu
    ·exact ok u hu
    ·rw[CZ.mp hu]
     exact⟨Int.emod_nonneg _ (by omega),Int.emod_lt_of_pos _ (by omega),Int.emod_nonneg _ (by omega),Int.emod_lt_of_pos _ (by omega),okz,s,s1,s2,rfl⟩
  ·rintro σ H4 ⟨e4,k1,k2,k3,k4,k5,k6,cs,us,rfl,hf4,al,ok,len⟩
   rw[Dd]at len
   walk_at "r"
   refine⟨f,cs,us,rfl,hf4,al,fun u hu=>(ok u hu).lay,by omega,fun r H5 ws e5 hws nd sub ln=>?_⟩
   walk_at "r"
   refine ao fun t H6 e6 ht _=>?_
   exact q _ m ws H6 (eH2.trans (e4.trans (e5.trans e6))) (bF.mk ht (hws.ext e6)) ⟨m1,m2,by omega,fun u hu=>ok u (sub u hu),nd⟩
structure WL(H0 H:Hp)(f:Addr)(us:List Way):Prop where
 ext:Ext H0 H
 at_:∃cs:List Addr,H f=some (.lst (cs.map V.ref))/\bg H cs us
theorem WL.nil{H0 H:Hp}{f:Addr}(e:Ext H0 H)(hf:H f=some (.lst [])):WL H0 H f []:=⟨e,[],hf,bg.nil _⟩
theorem WL.push{H0 H H1:Hp}{f v:Addr}{us:List Way}{w:Way}(h:WL H0 H f us)(hfn:H0 f=none)(e:Ext H H1)(hv:H1 v=some (.tup w.vs)):
  ∃xs,H1 f=some (.lst xs)/\xs.length=us.length/\WL H0 (upd H1 f (.lst (xs++[.ref v]))) f (us++[w]):=by
 obtain⟨e0,cs,hf,al⟩:=h
 have hf1:=e _ _ hf
 refine⟨cs.map V.ref,hf1,by rw[CN];exact al.1,gH (e0.trans e) hfn,cs++[v],by rw[aY,Dg];rfl,((al.ext e).put hf1).snoc ?_⟩
 rw[aT (gr hv hf1 (by intro z;cases z))]
 exact hv
theorem WL.ty{K:CJ}{H0 H H1:Hp}{f:Addr}{us:List Way}(h:WL H0 H f us)(e:Ext H H1):iw K "list" (.ref f) H1:=by
 obtain⟨_,cs,hf,al⟩:=h
 exact iq (ai.of (e _ _ hf))
theorem jk:jc "a":=⟨97,by decide,by decide,by decide +kernel⟩
theorem iC:jc "b":=⟨98,by decide,by decide,by decide +kernel⟩
theorem lH:jc "c":=⟨99,by decide,by decide,by decide +kernel⟩
theorem iT:cJ "up":=.inl rfl
theorem mh:cJ "down":=.inr (.inl rfl)
theorem gf:cJ "stay":=.inr (.inr (.inl rfl))
theorem nt:cJ "zero":=.inr (.inr (.inr rfl))
theorem dE{n:Nat}(h:n<=1000):n<sizeLine:=Nat.lt_of_le_of_lt h (by decide)
theorem jY{a b:V}{e:Int}(h0:0<=e)(h1:e<2):∃v,bQ [a,b] e=some v/\(v=a\/v=b):=by
 have:e=0\/e=1:=by omega
 rcases this with rfl | rfl
 ·exact⟨a,rfl,.inl rfl⟩
 ·exact⟨b,rfl,.inr rfl⟩
theorem dI{m:Int}{us:List Way}{w:Way}(h:∀u∈us,u.Ok3 m)(hw:w.Ok3 m):∀u∈us++[w],u.Ok3 m:=fun u hu=>by
 rcases Dm.mp hu with hu | hu
 ·exact h u hu
 ·rw[CZ.mp hu];exact hw
theorem xw:(DB "ab").cps.toList=[97,98]:=by decide +kernel
theorem A9{e:Int}(h0:0<=e)(h1:e<2):∃c,bQ (DB "ab").cps.toList e=some c/\97<=c/\c<=99:=by
 rw[xw]
 have:e=0\/e=1:=by omega
 rcases this with rfl | rfl
 ·exact⟨97,rfl,by decide,by decide⟩
 ·exact⟨98,rfl,by decide,by decide⟩
theorem cz{ws ds:List Int}(hl:ds.length=ws.length)(hb:∀(i:Nat) (d x:Int),ds[i]?=some d->ws[i]?=some x->0<=d/\d<x)(i:Nat){x:Int}(hx:ws[i]?=some x):∃d,bQ (ds.map V.int) (i:Int)=some (.int d)/\0<=d/\d<x:=by
 have hi:i<ds.length:=by
  rw[hl]
  exact(CW.mp hx).1
 have g:ds[i]?=some ds[i]:=CO hi
 exact⟨ds[i],dF (by rw[CP,g];rfl),hb i _ x g hx⟩
def rg(K:CJ):Sp:=fun vs H Q _=>∃c p,vs=[.int c,.int p]/\0<p/\∀v m ws H',Ext H H'->bF H' v m ws->HOuse3 m ws->Q v H'
abbrev lK:Stmt:=stq 50
theorem sP:FnScope ["_law_cell_here","_law_prime","_law_draws_here","_law_up","_law_down","_law_many","_law_ways","_law_k"] ["_law_cell_here","_law_prime"] (aE lK):=⟨rfl,rfl,rfl,by decide +kernel,rfl,by decide +kernel,by decide +kernel⟩
theorem Bj{P:Program}{w:World}{K:CJ}{mg:Str->Option Value}{base:Heap}(D:Dfn K mg "_law_gate_house" lK ["_law_cell_here","_law_prime"])(T:Blt mg)(C__law_unlike:Cal P w K mg base "_law_unlike" 1 ["_law_ways"] (kl K))(C__law_draws:Cal P w K mg base "_law_draws" 2 ["_law_cell_here","_law_widths","_law_prime"] (eZ K)):Cal P w K mg base "_law_gate_house" 3 ["_law_cell_here","_law_prime"] (rg K):=by
 have nd:=(sP).nd
 refine D.ok sP (fun vs H Q E h=>?_) (fun X hX H vs Q E h=>?_)
 ·obtain⟨c,p,rfl,_⟩:=h;rfl
 ·obtain⟨f,cdv,A,outer,s,H0,E0,rfl,hr⟩:=hX
  obtain⟨c,p,rfl,hp,q⟩:=h
  refine⟨_,(@ak _ _ _ _ _ (@aF _ _ 2 _ _ _ _ nd rfl (Or.inl rfl) (ay C__law_draws hr (@aa _ _ _ _ _ (pv 0) (@aa _ _ _ _ _ (@aZ _ _ _ _ (gQ (.c (.c (.c (.c (.c (.c (.c .n))))))))) (@aa _ _ _ _ _ (pv 1) ae rfl) rfl) rfl)) rfl (Or.inl rfl))
    (@ak _ _ _ _ _ (nu (i:=3) (j:=4) rfl nd rfl rfl (by decide) rfl rfl (@aa _ _ _ _ _ (ah aG af (@ar _ _ _ _ _ _ _ (aL K) (pv 2) af (fun _ _=>rfl))) (@aa _ _ _ _ _ (ah aG af (@ar _ _ _ _ _ _ _ (aL K) (pv 2) af (fun _ _=>rfl))) ae rfl) rfl) rfl)
    (@ak _ _ _ _ _ (@aF _ _ 5 _ _ _ _ nd rfl (Or.inl rfl) (ah aG (ah aG (pv 3) (pv 4)) af) rfl (Or.inl rfl))
    (@ak _ _ _ _ _ (@aF _ _ 6 _ _ _ _ nd rfl (Or.inl rfl) (@aZ _ _ _ _ ae) rfl (Or.inl rfl))
    (@ak _ _ _ _ _ (cR PassesOwn.never rfl (eA rfl T.range_ (@aa _ _ _ _ _ (pv 3) ae rfl)) (aP (i:=7) nd rfl (Or.inl rfl)) (@aq _ _ _ (bZ (bx K CV Dk Dl cy (pv 6) (@aa _ _ _ _ _ (@aA _ _ _ _ _ (@aa _ _ _ _ _ (pv 7) (@aa _ _ _ _ _ aw (@aa _ _ _ _ _ (ah bz (ah aG (pv 7) af) (pv 3)) (@aa _ _ _ _ _ (@ar _ _ _ _ _ _ _ kg aw (@ar _ _ _ _ _ _ _ (aL K) (pv 2) af (fun _ _=>rfl)) (fun _ _=>rfl)) ae rfl) rfl) rfl) rfl)) ae rfl)))))
    (@ak _ _ _ _ _ (bZ (bx K CV Dk Dl cy (pv 6) (@aa _ _ _ _ _ (@aA _ _ _ _ _ (@aa _ _ _ _ _ (ah bz (@ar _ _ _ _ _ _ _ (aL K) (pv 2) af (fun _ _=>rfl)) (pv 3)) (@aa _ _ _ _ _ aw (@aa _ _ _ _ _ (pv 3) (@aa _ _ _ _ _ aw ae rfl) rfl) rfl) rfl)) ae rfl)))
    (@ak _ _ _ _ _ (cR PassesOwn.never rfl (eA rfl T.range_ (@aa _ _ _ _ _ (pv 4) ae rfl)) (aP (i:=7) nd rfl (Or.inl rfl)) (@aq _ _ _ (bZ (bx K CV Dk Dl cy (pv 6) (@aa _ _ _ _ _ (@aA _ _ _ _ _ (@aa _ _ _ _ _ (ah aG (pv 3) (pv 7)) (@aa _ _ _ _ _ aw (@aa _ _ _ _ _ (ah aG (pv 3) (ah bz (ah aG (pv 7) af) (pv 4))) (@aa _ _ _ _ _ aw ae rfl) rfl) rfl) rfl)) ae rfl)))))
    (@ak _ _ _ _ _ (bZ (bx K CV Dk Dl cy (pv 6) (@aa _ _ _ _ _ (@aA _ _ _ _ _ (@aa _ _ _ _ _ (ah aG (pv 3) (ah bz (@ar _ _ _ _ _ _ _ (aL K) (pv 2) af (fun _ _=>rfl)) (pv 4))) (@aa _ _ _ _ _ aw (@aa _ _ _ _ _ (ah cO (pv 5) af) (@aa _ _ _ _ _ aw ae rfl) rfl) rfl) rfl)) ae rfl)))
    (@ak _ _ _ _ _ (bZ (bx K CV Dk Dl cy (pv 6) (@aa _ _ _ _ _ (@aA _ _ _ _ _ (@aa _ _ _ _ _ (ah cO (pv 5) af) (@aa _ _ _ _ _ (@ar _ _ _ _ _ _ _ (aL K) (@aZ _ _ _ _ (@aa _ _ _ _ _ aw (@aa _ _ _ _ _ aw ae rfl) rfl)) (@ar _ _ _ _ _ _ _ (aL K) (pv 2) af (fun _ _=>rfl)) (fun _ _=>rfl)) (@aa _ _ _ _ _ (@ar _ _ _ _ _ _ _ (aL K) (@aZ _ _ _ _ (@aa _ _ _ _ _ af (@aa _ _ _ _ _ (ah cO (pv 5) af) ae rfl) rfl)) (@ar _ _ _ _ _ _ _ (aL K) (pv 2) af (fun _ _=>rfl)) (fun _ _=>rfl)) (@aa _ _ _ _ _ aw ae rfl) rfl) rfl) rfl)) ae rfl)))
    (@aq _ _ _ (@az _ _ _ _ (@aA _ _ _ _ _ (@aa _ _ _ _ _ (pv 5) (@aa _ _ _ _ _ (ay C__law_unlike hr (@aa _ _ _ _ _ (pv 6) ae rfl)) ae rfl) rfl))))))))))))),?_⟩
  walk_at "r"
  refine ao fun w0 G1 f1 hw0 _=>?_
  walk_at "r"
  refine gG [6,5,6,5,2,2,2] hw0 (by decide) (by decide) (hp) fun dq ds H1 e1 hd hdn hl hb=>?_
  have eH:Ext H H1:=f1.trans e1
  obtain⟨d0,g0,b00,b01⟩:=cz hl hb 0 rfl
  obtain⟨d1,g1,b10,b11⟩:=cz hl hb 1 rfl
  obtain⟨d2,g2,b20,b21⟩:=cz hl hb 2 rfl
  obtain⟨d3,g3,b30,b31⟩:=cz hl hb 3 rfl
  obtain⟨d4,g4,b40,b41⟩:=cz hl hb 4 rfl
  obtain⟨d5,g5,b50,b51⟩:=cz hl hb 5 rfl
  obtain⟨d6,g6,b60,b61⟩:=cz hl hb 6 rfl
  clear hb hl
  walk_at "r"
  refine aK (ai.of hd) g0 ?_
  walk_at "r"
  refine aK (ai.of hd) g1 ?_
  walk_at "r"
  obtain⟨U,hU⟩:∃U:Nat,1+d0=(U:Int):=⟨(1+d0).toNat,by omega⟩
  obtain⟨D,hD⟩:∃D:Nat,1+d1=(D:Int):=⟨(1+d1).toNat,by omega⟩
  rw[hU,hD]
  have u1:1<=U:=by omega
  have u6:U<=6:=by omega
  have v1:1<=D:=by omega
  have v5:D<=5:=by omega
  clear b00 b01 b10 b11 hU hD
  obtain⟨m,hm⟩:∃m:Int,(U:Int)+(D:Int)+1=m:=⟨_,rfl⟩
  rw[hm]
  refine ao fun f H2 e2 hf hfn=>?_
  walk_at "r"
  refine eG (by omega) ?_
  have hfn0:H1 f=none:=hfn
  refine forR (fun i σ H3=>∃(k:Option V) (us:List Way),σ=[some (.int c),some (.int p),some (.ref dq),some (.int U),some (.int D),some (.int m),some (.ref f),k]/\WL H1 H3 f us/\(∀u∈us,u.Ok3 m)/\us.length=i)
   ⟨none,[],rfl,WL.nil e2 hf,fun u hu=>by simp at hu,rfl⟩ ?_ ?_
  ·rintro i σ H3 hi ⟨k,us,rfl,wl,ok,len⟩
   rw[Dd]at hi
   walk_at "r"
   refine⟨wl.ty (Ext.rfl' _),?_⟩
   walk_at "r"
   try refine rd_I (show(0:Int)<(U:Int) by omega) ?_
   walk_at "r"
   refine aK (ai.of (wl.ext _ _ hd)) g4 ?_
   obtain⟨s,hs,s1,s2⟩:=A9 b40 b41
   refine⟨_,_,s,rfl,rfl,eX (by decide +kernel),hs,?_⟩
   walk_at "r"
   refine ao fun v H4 e4 hv _=>?_
   walk_at "r"
   obtain⟨xs,hx,hlx,wl'⟩:=wl.push (w:=⟨0+(i:Int),"up",(0+(i:Int)+1) % (U:Int),⟨#[s]⟩⟩) hfn0 e4 hv
   refine cv hx (dE (by omega)) ?_
   walk_at "r"
   exact⟨_,_,rfl,wl',dI ok ⟨by show 0<=0+(i:Int);omega,by show 0+(i:Int)<m;omega,Int.emod_nonneg _ (by omega),Int.lt_trans (Int.emod_lt_of_pos _ (by omega)) (by omega),iT,s,s1,s2,rfl⟩,by simp[len]⟩
  rintro σ H3 ⟨k,us,rfl,wl,ok,len⟩
  rw[Dd]at len
  walk_at "r"
  refine⟨wl.ty (Ext.rfl' _),?_⟩
  walk_at "r"
  refine aK (ai.of (wl.ext _ _ hd)) g2 ?_
  try refine rd_I (show(0:Int)<(U:Int) by omega) ?_
  walk_at "r"
  refine ao fun v H4 e4 hv _=>?_
  walk_at "r"
  have r0:0<=d2 % (U:Int):=Int.emod_nonneg _ (by omega)
  have r1:d2 % (U:Int)<U:=Int.emod_lt_of_pos _ (by omega)
  obtain⟨xs,hx,hlx,wl2⟩:=wl.push (w:=⟨d2 % (U:Int),"stay",(U:Int),"b"⟩) hfn0 e4 hv
  have ok2:=dI ok (w:=⟨d2 % (U:Int),"stay",(U:Int),"b"⟩) ⟨r0,by show d2 % (U:Int)<m;omega,by show 0<=(U:Int);omega,by show(U:Int)<m;omega,gf,iC⟩
  refine cv hx (dE (by omega)) ?_
  generalize upd H4 f _=H5 at wl2 ⊢
  generalize hus2:us++[_]=us2 at wl2 ok2
  have len2:us2.length=U+1:=by rw[←hus2];simp[len]
  clear hus2 hx hlx hv e4 r0 r1 wl ok len
  walk_at "r"
  refine eG (by omega) ?_
  refine forR (fun i σ H3=>∃(k:Option V) (us:List Way),σ=[some (.int c),some (.int p),some (.ref dq),some (.int U),some (.int D),some (.int m),some (.ref f),k]/\WL H1 H3 f us/\(∀u∈us,u.Ok3 m)/\us.length=U+1+i)
   ⟨_,us2,rfl,wl2,ok2,len2⟩ ?_ ?_
  ·rintro i σ H3 hi ⟨k,us,rfl,wl,ok,len⟩
   rw[Dd]at hi
   walk_at "r"
   refine⟨wl.ty (Ext.rfl' _),?_⟩
   walk_at "r"
   try refine rd_I (show(0:Int)<(D:Int) by omega) ?_
   walk_at "r"
   refine ao fun v H4 e4 hv _=>?_
   walk_at "r"
   have r0:0<=(0+(i:Int)+1) % (D:Int):=Int.emod_nonneg _ (by omega)
   have r1:(0+(i:Int)+1) % (D:Int)<D:=Int.emod_lt_of_pos _ (by omega)
   obtain⟨xs,hx,hlx,wl'⟩:=wl.push (w:=⟨(U:Int)+(0+(i:Int)),"down",(U:Int)+(0+(i:Int)+1) % (D:Int),"a"⟩) hfn0 e4 hv
   refine cv hx (dE (by omega)) ?_
   walk_at "r"
   exact⟨_,_,rfl,wl',dI ok ⟨by show 0<=(U:Int)+(0+(i:Int));omega,by show(U:Int)+(0+(i:Int))<m;omega,by show 0<=(U:Int)+(0+(i:Int)+1) % (D:Int);omega,by show(U:Int)+(0+(i:Int)+1) % (D:Int)<m;omega,mh,jk⟩,by simp[len];omega⟩
  clear wl2 ok2 len2
  rintro σ H3 ⟨k,us,rfl,wl,ok,len⟩
  rw[Dd]at len
  walk_at "r"
  refine⟨wl.ty (Ext.rfl' _),?_⟩
  walk_at "r"
  refine aK (ai.of (wl.ext _ _ hd)) g3 ?_
  try refine rd_I (show(0:Int)<(D:Int) by omega) ?_
  walk_at "r"
  refine ao fun v H4 e4 hv _=>?_
  walk_at "r"
  have r0:0<=d3 % (D:Int):=Int.emod_nonneg _ (by omega)
  have r1:d3 % (D:Int)<D:=Int.emod_lt_of_pos _ (by omega)
  obtain⟨xs,hx,hlx,wl2⟩:=wl.push (w:=⟨(U:Int)+d3 % (D:Int),"zero",m-1,"c"⟩) hfn0 e4 hv
  have ok2:=dI ok (w:=⟨(U:Int)+d3 % (D:Int),"zero",m-1,"c"⟩) ⟨by show 0<=(U:Int)+d3 % (D:Int);omega,by show(U:Int)+d3 % (D:Int)<m;omega,by show 0<=m-1;omega,by show m-1<m;omega,nt,lH⟩
  refine cv hx (dE (by omega)) ?_
  generalize upd H4 f _=H5 at wl2 ⊢
  generalize hus2:us++[_]=us2 at wl2 ok2
  have len2:us2.length=U+D+2:=by rw[←hus2];simp[len];omega
  clear hus2 hx hlx hv e4 r0 r1 wl ok len
  walk_at "r"
  refine⟨wl2.ty (Ext.rfl' _),?_⟩
  walk_at "r"
  refine ao fun t1 H6 e6 ht1 _=>?_
  walk_at "r"
  refine aK (ai.of (e6 _ _ (wl2.ext _ _ hd))) g5 ?_
  obtain⟨x5,hx5,ax5⟩:=jY (a:=V.str "up") (b:=V.str "stay") b50 b51
  refine aK (ai.of ht1) hx5 ?_
  walk_at "r"
  refine ao fun t2 H7 e7 ht2 _=>?_
  walk_at "r"
  refine aK (ai.of (e7 _ _ (e6 _ _ (wl2.ext _ _ hd)))) g6 ?_
  obtain⟨x6,hx6,ax6⟩:=jY (a:=V.int 0) (b:=V.int (m-1)) b60 b61
  refine aK (ai.of ht2) hx6 ?_
  walk_at "r"
  refine ao fun v H8 e8 hv _=>?_
  walk_at "r"
  obtain⟨z,rfl,oz⟩:∃z,x5=.str z/\cJ z:=by
   rcases ax5 with rfl | rfl
   ·exact⟨_,rfl,iT⟩
   ·exact⟨_,rfl,gf⟩
  obtain⟨y,rfl,y0,y1⟩:∃y:Int,x6=.int y/\0<=y/\y<m:=by
   rcases ax6 with rfl | rfl
   ·exact⟨_,rfl,by omega,by omega⟩
   ·exact⟨_,rfl,by omega,by omega⟩
  obtain⟨xs,hx,hlx,wl3⟩:=wl2.push (w:=⟨m-1,z,y,"b"⟩) hfn0 (e6.trans (e7.trans e8)) hv
  have ok3:=dI ok2 (w:=⟨m-1,z,y,"b"⟩) ⟨by show 0<=m-1;omega,by show m-1<m;omega,y0,y1,oz,iC⟩
  refine cv hx (dE (by omega)) ?_
  generalize upd H8 f _=H9 at wl3 ⊢
  generalize hus3:us2++[_]=us3 at wl3 ok3
  have len3:us3.length=U+D+3:=by rw[←hus3];simp[len2]
  walk_at "r"
  obtain⟨ew,cs,hcs,al⟩:=wl3
  refine⟨f,cs,us3,rfl,hcs,al,fun u hu=>(ok3 u hu).lay,by omega,fun r I1 ws e5 hws nd sub ln=>?_⟩
  walk_at "r"
  refine ao fun t I2 e6' ht _=>?_
  exact q _ m ws I2 (eH.trans (ew.trans (e5.trans e6'))) (bF.mk ht (hws.ext e6')) ⟨by omega,by omega,by omega,fun u hu=>ok3 u (sub u hu),nd⟩
theorem bg.rev{H:Hp}{bs:List Addr}{ws:List Way}(h:bg H bs ws):bg H bs.reverse ws.reverse:=by
 refine⟨by rw[List.length_reverse,List.length_reverse];exact h.1,fun j b w e1 e2=>?_⟩
 have hj:j<bs.length:=by
  have:=(CW.mp e1).1
  simpa using this
 rw[List.getElem?_reverse hj]at e1
 rw[List.getElem?_reverse (by rw[←h.1];exact hj),←h.1]at e2
 exact h.2 _ b w e1 e2
theorem fX{us:List Way}{w:Way}(h:us.Nodup)(hw:w∉us):(us++[w]).Nodup:=by
 rw[List.nodup_append]
 exact⟨h,by simp,fun a ha c hc=>by rw[CZ.mp hc];exact fun z=>hw (z ▸ ha)⟩
theorem iQ{P:Way->Prop}{us:List Way}{w:Way}(h:∀u∈us,P u)(hw:P w):∀u∈us++[w],P u:=fun u hu=>by
 rcases Dm.mp hu with hu | hu
 ·exact h u hu
 ·rw[CZ.mp hu];exact hw
theorem tj:(DB "a")≠"b":=by decide +kernel
theorem uB:(DB "a")≠"c":=by decide +kernel
theorem mU:(DB "b")≠"c":=by decide +kernel
def rl(K:CJ):Sp:=fun vs H Q _=>∃c p,vs=[.int c,.int p]/\0<p/\∀v m ws H',Ext H H'->bF H' v m ws->HOuse3 m ws->Q v H'
abbrev nI:Stmt:=stq 49
theorem pZ:FnScope ["_law_cell_here","_law_prime","_law_draws_here","_law_one","_law_two","_law_many","_law_ways","_law_k"] ["_law_cell_here","_law_prime"] (aE nI):=⟨rfl,rfl,rfl,by decide +kernel,rfl,by decide +kernel,by decide +kernel⟩
theorem yV{P:Program}{w:World}{K:CJ}{mg:Str->Option Value}{base:Heap}(D:Dfn K mg "_law_ring_house" nI ["_law_cell_here","_law_prime"])(T:Blt mg)(C__law_draws:Cal P w K mg base "_law_draws" 2 ["_law_cell_here","_law_widths","_law_prime"] (eZ K)):Cal P w K mg base "_law_ring_house" 3 ["_law_cell_here","_law_prime"] (rl K):=by
 have nd:=(pZ).nd
 refine D.ok pZ (fun vs H Q E h=>?_) (fun X hX H vs Q E h=>?_)
 ·obtain⟨c,p,rfl,_⟩:=h;rfl
 ·obtain⟨f,cdv,A,outer,s,H0,E0,rfl,hr⟩:=hX
  obtain⟨c,p,rfl,hp,q⟩:=h
  refine⟨_,(@ak _ _ _ _ _ (@aF _ _ 2 _ _ _ _ nd rfl (Or.inl rfl) (ay C__law_draws hr (@aa _ _ _ _ _ (pv 0) (@aa _ _ _ _ _ (@aZ _ _ _ _ (gQ (.c (.c (.c (.c (.c (.c (.c .n))))))))) (@aa _ _ _ _ _ (pv 1) ae rfl) rfl) rfl)) rfl (Or.inl rfl))
    (@ak _ _ _ _ _ (nu (i:=3) (j:=4) rfl nd rfl rfl (by decide) rfl rfl (@aa _ _ _ _ _ (ah aG af (@ar _ _ _ _ _ _ _ (aL K) (pv 2) af (fun _ _=>rfl))) (@aa _ _ _ _ _ (ah aG af (@ar _ _ _ _ _ _ _ (aL K) (pv 2) af (fun _ _=>rfl))) ae rfl) rfl) rfl)
    (@ak _ _ _ _ _ (@aF _ _ 5 _ _ _ _ nd rfl (Or.inl rfl) (ah aG (ah aG (pv 3) (pv 4)) af) rfl (Or.inl rfl))
    (@ak _ _ _ _ _ (@aF _ _ 6 _ _ _ _ nd rfl (Or.inl rfl) (@aZ _ _ _ _ (@aa _ _ _ _ _ (@aA _ _ _ _ _ (@aa _ _ _ _ _ af (@aa _ _ _ _ _ aw (@aa _ _ _ _ _ af (@aa _ _ _ _ _ aw ae rfl) rfl) rfl) rfl)) (@aa _ _ _ _ _ (@aA _ _ _ _ _ (@aa _ _ _ _ _ af (@aa _ _ _ _ _ (@ar _ _ _ _ _ _ _ (aL K) (@aZ _ _ _ _ (@aa _ _ _ _ _ aw (@aa _ _ _ _ _ aw ae rfl) rfl)) (@ar _ _ _ _ _ _ _ (aL K) (pv 2) af (fun _ _=>rfl)) (fun _ _=>rfl)) (@aa _ _ _ _ _ (ah aG af (pv 3)) (@aa _ _ _ _ _ aw ae rfl) rfl) rfl) rfl)) ae rfl) rfl)) rfl (Or.inl rfl))
    (@ak _ _ _ _ _ (cR PassesOwn.never rfl (eA rfl T.range_ (@aa _ _ _ _ _ (pv 3) ae rfl)) (aP (i:=7) nd rfl (Or.inl rfl)) (@aq _ _ _ (bZ (bx K CV Dk Dl cy (pv 6) (@aa _ _ _ _ _ (@aA _ _ _ _ _ (@aa _ _ _ _ _ (ah aG af (pv 7)) (@aa _ _ _ _ _ aw (@aa _ _ _ _ _ (ah aG af (ah bz (ah aG (pv 7) af) (pv 3))) (@aa _ _ _ _ _ aw ae rfl) rfl) rfl) rfl)) ae rfl)))))
    (@ak _ _ _ _ _ (cR PassesOwn.never rfl (eA rfl T.range_ (@aa _ _ _ _ _ (pv 4) ae rfl)) (aP (i:=7) nd rfl (Or.inl rfl)) (@aq _ _ _ (bZ (bx K CV Dk Dl cy (pv 6) (@aa _ _ _ _ _ (@aA _ _ _ _ _ (@aa _ _ _ _ _ (ah aG (ah aG af (pv 3)) (pv 7)) (@aa _ _ _ _ _ (@ar _ _ _ _ _ _ _ (aL K) (@aZ _ _ _ _ (@aa _ _ _ _ _ aw (@aa _ _ _ _ _ aw ae rfl) rfl)) (@ar _ _ _ _ _ _ _ (aL K) (pv 2) af (fun _ _=>rfl)) (fun _ _=>rfl)) (@aa _ _ _ _ _ (ah aG (ah aG af (pv 3)) (ah bz (ah aG (pv 7) af) (pv 4))) (@aa _ _ _ _ _ aw ae rfl) rfl) rfl) rfl)) ae rfl)))))
    (@ak _ _ _ _ _ (bZ (bx K CV Dk Dl cy (pv 6) (@aa _ _ _ _ _ (@aA _ _ _ _ _ (@aa _ _ _ _ _ af (@aa _ _ _ _ _ aw (@aa _ _ _ _ _ (ah cO (pv 5) af) (@aa _ _ _ _ _ aw ae rfl) rfl) rfl) rfl)) ae rfl)))
    (@ak _ _ _ _ _ (bZ (bx K CV Dk Dl cy (pv 6) (@aa _ _ _ _ _ (@aA _ _ _ _ _ (@aa _ _ _ _ _ (ah aG af (pv 3)) (@aa _ _ _ _ _ aw (@aa _ _ _ _ _ (ah cO (pv 5) af) (@aa _ _ _ _ _ aw ae rfl) rfl) rfl) rfl)) ae rfl)))
    (@ak _ _ _ _ _ (eI (aJ ck (@ar _ _ _ _ _ _ _ (aL K) (pv 2) af (fun _ _=>rfl)) af (aC _)) (@aq _ _ _ (bZ (bx K CV Dk Dl cy (pv 6) (@aa _ _ _ _ _ (@aA _ _ _ _ _ (@aa _ _ _ _ _ (ah cO (pv 5) af) (@aa _ _ _ _ _ aw (@aa _ _ _ _ _ (ah cO (pv 5) af) (@aa _ _ _ _ _ aw ae rfl) rfl) rfl) rfl)) ae rfl)))) aQ)
    (@ak _ _ _ _ _ (eI (aJ ck (@ar _ _ _ _ _ _ _ (aL K) (pv 2) af (fun _ _=>rfl)) af (aC _)) (@aq _ _ _ (bZ (bx K CV Dk Dl cy (pv 6) (@aa _ _ _ _ _ (@aA _ _ _ _ _ (@aa _ _ _ _ _ (ah cO (pv 5) af) (@aa _ _ _ _ _ aw (@aa _ _ _ _ _ af (@aa _ _ _ _ _ aw ae rfl) rfl) rfl) rfl)) ae rfl)))) aQ)
    (@ak _ _ _ _ _ (eI (aJ ck (@ar _ _ _ _ _ _ _ (aL K) (pv 2) af (fun _ _=>rfl)) af (aC _)) (@aq _ _ _ (@aF _ _ 6 _ _ _ _ nd rfl (Or.inl rfl) (yz K (pv 6) (cE (jF jP af))) rfl (Or.inl rfl))) aQ)
    (@aq _ _ _ (@az _ _ _ _ (@aA _ _ _ _ _ (@aa _ _ _ _ _ (pv 5) (@aa _ _ _ _ _ (bK (fw K) rfl T.tuple_ PyProof.Rows.boot_tuple (@aa _ _ _ _ _ (pv 6) ae rfl)) ae rfl) rfl))))))))))))))),?_⟩
  walk_at "r"
  refine ao fun w0 G1 f1 hw0 _=>?_
  walk_at "r"
  refine gG [5,5,2,2,4,4,2] hw0 (by decide) (by decide) (hp) fun dq ds H1 e1 hd hdn hl hb=>?_
  have eH:Ext H H1:=f1.trans e1
  obtain⟨d0,g0,b00,b01⟩:=cz hl hb 0 rfl
  obtain⟨d1,g1,b10,b11⟩:=cz hl hb 1 rfl
  obtain⟨d2,g2,b20,b21⟩:=cz hl hb 2 rfl
  obtain⟨d3,g3,b30,b31⟩:=cz hl hb 3 rfl
  obtain⟨d4,g4,_⟩:=cz hl hb 4 rfl
  obtain⟨d5,g5,_⟩:=cz hl hb 5 rfl
  obtain⟨d6,g6,_⟩:=cz hl hb 6 rfl
  clear hb hl
  walk_at "r"
  refine aK (ai.of hd) g0 ?_
  walk_at "r"
  refine aK (ai.of hd) g1 ?_
  walk_at "r"
  obtain⟨U,hU⟩:∃U:Nat,1+d0=(U:Int):=⟨(1+d0).toNat,by omega⟩
  obtain⟨D,hD⟩:∃D:Nat,1+d1=(D:Int):=⟨(1+d1).toNat,by omega⟩
  rw[hU,hD]
  have u1:1<=U:=by omega
  have u6:U<=5:=by omega
  have v1:1<=D:=by omega
  have v5:D<=5:=by omega
  clear b00 b01 b10 b11 hU hD
  obtain⟨m,hm⟩:∃m:Int,(U:Int)+(D:Int)+2=m:=⟨_,rfl⟩
  rw[hm]
  -- the first two ways
  refine ao fun a1 H2 e2 ha1 _=>?_
  walk_at "r"
  refine ao fun t1 H3 e3 ht1 _=>?_
  walk_at "r"
  refine aK (ai.of (e3 _ _ (e2 _ _ hd))) g2 ?_
  obtain⟨x2,hx2,ax2⟩:=jY (a:=V.str "stay") (b:=V.str "zero") b20 b21
  refine aK (ai.of ht1) hx2 ?_
  walk_at "r"
  obtain⟨z2,rfl,oz2⟩:∃z,x2=.str z/\cJ z:=by
   rcases ax2 with rfl | rfl
   ·exact⟨_,rfl,gf⟩
   ·exact⟨_,rfl,nt⟩
  refine ao fun a2 H4 e4 ha2 _=>?_
  walk_at "r"
  refine ao fun f H5 e5 hf hfn=>?_
  have e15:Ext H1 H5:=e2.trans (e3.trans (e4.trans e5))
  have hfn0:H1 f=none:=(e2.trans (e3.trans e4)).none hfn
  obtain⟨y1,hy1⟩:∃y:Way,y=⟨0,"stay",1,"a"⟩:=⟨_,rfl⟩
  obtain⟨y2,hy2⟩:∃y:Way,y=⟨0,z2,1+(U:Int),"b"⟩:=⟨_,rfl⟩
  have wl0:WL H1 H5 f [y1,y2]:=by
   refine⟨e15,[a1,a2],hf,?_⟩
   have k1:H5 a1=some (.tup y1.vs):=by rw[hy1];exact e5 _ _ (e4 _ _ (e3 _ _ ha1))
   have k2:H5 a2=some (.tup y2.vs):=by rw[hy2];exact e5 _ _ ha2
   exact((bg.nil H5).snoc k1).snoc k2
  have ok0:∀u∈[y1,y2],u.Ok3 m:=by
   intro u hu
   rcases De.mp hu with rfl | hu
   ·subst hy1;exact⟨Int.le_refl _,by show(0:Int)<m;omega,by show(0:Int)<=1;decide,by show(1:Int)<m;omega,gf,jk⟩
   ·rw[CZ.mp hu];subst hy2;exact⟨Int.le_refl _,by show(0:Int)<m;omega,by show(0:Int)<=1+(U:Int);omega,by show 1+(U:Int)<m;omega,oz2,iC⟩
  have nd0:[y1,y2].Nodup:=by
   subst hy1 hy2
   refine List.nodup_cons.mpr ⟨fun z=>?_,by simp⟩
   have:=congrArg Way.sign (CZ.mp z)
   exact tj this
  have pr0:∀u∈[y1,y2],u.room<=((0:Nat):Int)/\u.sign≠"c":=by
   intro u hu
   rcases De.mp hu with rfl | hu
   ·subst hy1;exact⟨Int.le_refl _,uB⟩
   ·rw[CZ.mp hu];subst hy2;exact⟨Int.le_refl _,mU⟩
  have ln0:[y1,y2].length=2:=rfl
  generalize [y1,y2]=us0 at wl0 ok0 nd0 pr0 ln0
  clear hy1 hy2 ha1 ha2 ht1 hf e2 e3 e4 e5
  walk_at "r"
  refine eG (by omega) ?_
  refine forR (fun i σ H3=>∃(k:Option V) (us:List Way),σ=[some (.int c),some (.int p),some (.ref dq),some (.int U),some (.int D),some (.int m),some (.ref f),k]/\WL H1 H3 f us/\(∀u∈us,u.Ok3 m)/\us.Nodup/\(∀u∈us,u.room<=(i:Int)/\u.sign≠"c")/\us.length=2+i)
   ⟨none,us0,rfl,wl0,ok0,nd0,pr0,ln0⟩ ?_ ?_
  ·rintro i σ H3 hi ⟨k,us,rfl,wl,ok,nd',pr,len⟩
   rw[Dd]at hi
   walk_at "r"
   refine⟨wl.ty (Ext.rfl' _),?_⟩
   walk_at "r"
   try refine rd_I (show(0:Int)<(U:Int) by omega) ?_
   walk_at "r"
   refine ao fun v H4 e4 hv _=>?_
   walk_at "r"
   have r0:0<=(0+(i:Int)+1) % (U:Int):=Int.emod_nonneg _ (by omega)
   have r1:(0+(i:Int)+1) % (U:Int)<U:=Int.emod_lt_of_pos _ (by omega)
   obtain⟨xs,hx,hlx,wl'⟩:=wl.push (w:=⟨1+(0+(i:Int)),"up",1+(0+(i:Int)+1) % (U:Int),"a"⟩) hfn0 e4 hv
   refine cv hx (dE (by omega)) ?_
   walk_at "r"
   refine⟨_,_,rfl,wl',dI ok ⟨by show 0<=1+(0+(i:Int));omega,by show 1+(0+(i:Int))<m;omega,by show 0<=1+(0+(i:Int)+1) % (U:Int);omega,by show 1+(0+(i:Int)+1) % (U:Int)<m;omega,iT,jk⟩,fX nd' fun z=>?_,iQ (fun u hu=>⟨by have:=(pr u hu).1;omega,(pr u hu).2⟩) ⟨by show 1+(0+(i:Int))<=_;omega,uB⟩,by simp[len];omega⟩
   have:=(pr _ z).1
   have:1+(0+(i:Int))<=(i:Int):=this
   omega
  clear wl0 ok0 nd0 pr0 ln0
  rintro σ H3 ⟨k,us,rfl,wl,ok,nd',pr,len⟩
  rw[Dd]at pr len
  walk_at "r"
  refine eG (by omega) ?_
  refine forR (fun i σ H3=>∃(k:Option V) (us:List Way),σ=[some (.int c),some (.int p),some (.ref dq),some (.int U),some (.int D),some (.int m),some (.ref f),k]/\WL H1 H3 f us/\(∀u∈us,u.Ok3 m)/\us.Nodup/\(∀u∈us,u.room<=(U:Int)+(i:Int)/\u.sign≠"c"/\(u.room=1+(U:Int)->u.sign = "b"))/\us.length=2+U+i)
   ⟨_,us,rfl,wl,ok,nd',fun u hu=>⟨by have:=(pr u hu).1;omega,(pr u hu).2,fun z=>by have:=(pr u hu).1;omega⟩,len⟩ ?_ ?_
  ·clear wl ok nd' pr len
   rintro i σ H3 hi ⟨k,us,rfl,wl,ok,nd',pr,len⟩
   rw[Dd]at hi
   walk_at "r"
   refine⟨wl.ty (Ext.rfl' _),?_⟩
   walk_at "r"
   refine ao fun t1 H6 e6 ht1 _=>?_
   walk_at "r"
   refine aK (ai.of (e6 _ _ (wl.ext _ _ hd))) g3 ?_
   obtain⟨x3,hx3,ax3⟩:=jY (a:=V.str "up") (b:=V.str "down") b30 b31
   refine aK (ai.of ht1) hx3 ?_
   walk_at "r"
   obtain⟨z3,rfl,oz3⟩:∃z,x3=.str z/\cJ z:=by
    rcases ax3 with rfl | rfl
    ·exact⟨_,rfl,iT⟩
    ·exact⟨_,rfl,mh⟩
   try refine rd_I (show(0:Int)<(D:Int) by omega) ?_
   walk_at "r"
   refine ao fun v H4 e4 hv _=>?_
   walk_at "r"
   have r0:0<=(0+(i:Int)+1) % (D:Int):=Int.emod_nonneg _ (by omega)
   have r1:(0+(i:Int)+1) % (D:Int)<D:=Int.emod_lt_of_pos _ (by omega)
   obtain⟨xs,hx,hlx,wl'⟩:=wl.push (w:=⟨1+(U:Int)+(0+(i:Int)),z3,1+(U:Int)+(0+(i:Int)+1) % (D:Int),"b"⟩) hfn0 (e6.trans e4) hv
   refine cv hx (dE (by omega)) ?_
   walk_at "r"
   refine⟨_,_,rfl,wl',dI ok ⟨by show 0<=1+(U:Int)+(0+(i:Int));omega,by show 1+(U:Int)+(0+(i:Int))<m;omega,by show 0<=1+(U:Int)+(0+(i:Int)+1) % (D:Int);omega,by show 1+(U:Int)+(0+(i:Int)+1) % (D:Int)<m;omega,oz3,iC⟩,fX nd' fun z=>?_,iQ (fun u hu=>⟨by have:=(pr u hu).1;omega,(pr u hu).2⟩) ⟨by show 1+(U:Int)+(0+(i:Int))<=_;omega,mU,fun _=>rfl⟩,by simp[len];omega⟩
   have:=(pr _ z).1
   have:1+(U:Int)+(0+(i:Int))<=(U:Int)+(i:Int):=this
   omega
  clear wl ok nd' pr len
  rintro σ H3 ⟨k,us,rfl,wl,ok,nd',pr,len⟩
  rw[Dd]at pr len
  walk_at "r"
  -- (1,stay,m-1,c)
  refine⟨wl.ty (Ext.rfl' _),?_⟩
  walk_at "r"
  refine ao fun v H4 e4 hv _=>?_
  walk_at "r"
  obtain⟨xs,hx,hlx,wl2⟩:=wl.push (w:=⟨1,"stay",m-1,"c"⟩) hfn0 e4 hv
  have ok2:=dI ok (w:=⟨1,"stay",m-1,"c"⟩) ⟨by show(0:Int)<=1;decide,by show(1:Int)<m;omega,by show 0<=m-1;omega,by show m-1<m;omega,gf,lH⟩
  have nd2:=fX nd' (w:=⟨1,"stay",m-1,"c"⟩) fun z=>(pr _ z).2.1 rfl
  have pr2:=iQ (P:=fun u=>u.room<=(U:Int)+(D:Int)/\(u.room=1+(U:Int)->u.sign = "b")) (fun u hu=>⟨(pr u hu).1,(pr u hu).2.2⟩) (w:=⟨1,"stay",m-1,"c"⟩) ⟨by show(1:Int)<=_;omega,fun z=>by have:(1:Int)=1+(U:Int):=z;omega⟩
  refine cv hx (dE (by omega)) ?_
  generalize upd H4 f _=H5 at wl2 ⊢
  generalize hus2:us++[_]=us2 at wl2 ok2 nd2 pr2
  have len2:us2.length=3+U+D:=by rw[←hus2];simp[len];omega
  clear hus2 hx hlx hv e4 wl ok nd' pr len
  walk_at "r"
  -- (1+U,stay,m-1,a)
  refine⟨wl2.ty (Ext.rfl' _),?_⟩
  walk_at "r"
  refine ao fun v H4 e4 hv _=>?_
  walk_at "r"
  obtain⟨xs,hx,hlx,wl3⟩:=wl2.push (w:=⟨1+(U:Int),"stay",m-1,"a"⟩) hfn0 e4 hv
  have ok3:=dI ok2 (w:=⟨1+(U:Int),"stay",m-1,"a"⟩) ⟨by show(0:Int)<=1+(U:Int);omega,by show 1+(U:Int)<m;omega,by show 0<=m-1;omega,by show m-1<m;omega,gf,jk⟩
  have nd3:=fX nd2 (w:=⟨1+(U:Int),"stay",m-1,"a"⟩) fun z=>tj ((pr2 _ z).2 rfl)
  have pr3:=iQ (P:=fun u=>u.room<=(U:Int)+(D:Int)) (fun u hu=>(pr2 u hu).1) (w:=⟨1+(U:Int),"stay",m-1,"a"⟩) (by show 1+(U:Int)<=_;omega)
  refine cv hx (dE (by omega)) ?_
  generalize upd H4 f _=H6 at wl3 ⊢
  generalize hus3:us2++[_]=us3 at wl3 ok3 nd3 pr3
  have len3:us3.length=4+U+D:=by rw[←hus3];simp[len2];omega
  clear hus3 hx hlx hv e4 wl2 ok2 nd2 pr2 len2
  walk_at "r"
  -- the two that may be left out
  refine fH (fun σ' H'=>∃(k:Option V) (us:List Way),σ'=[some (.int c),some (.int p),some (.ref dq),some (.int U),some (.int D),some (.int m),some (.ref f),k]/\WL H1 H' f us/\(∀u∈us,u.Ok3 m)/\us.Nodup/\(∀u∈us,u.room<=(U:Int)+(D:Int)\/u.sign = "c")/\us.length<=5+U+D) ?_ ?_
  ·walk_at "r"
   refine aK (ai.of (wl3.ext _ _ hd)) g4 ?_
   walk_at "r"
   refine cT (fun h=>?_) (fun h=>?_)
   ·walk_at "r"
    refine⟨wl3.ty (Ext.rfl' _),?_⟩
    walk_at "r"
    refine ao fun v H4 e4 hv _=>?_
    walk_at "r"
    obtain⟨xs,hx,hlx,wl4⟩:=wl3.push (w:=⟨m-1,"down",m-1,"c"⟩) hfn0 e4 hv
    refine cv hx (dE (by omega)) ?_
    walk_at "r"
    exact⟨_,_,rfl,wl4,dI ok3 ⟨by show 0<=m-1;omega,by show m-1<m;omega,by show 0<=m-1;omega,by show m-1<m;omega,mh,lH⟩,fX nd3 fun z=>by have:m-1<=(U:Int)+(D:Int):=pr3 _ z;omega,iQ (fun u hu=>.inl (pr3 u hu)) (.inr rfl),by simp[len3];omega⟩
   ·walk_at "r"
    exact⟨_,us3,rfl,wl3,ok3,nd3,fun u hu=>.inl (pr3 u hu),by omega⟩
  clear wl3 ok3 nd3 pr3 len3
  rintro σ' H7 ⟨k,us,rfl,wl,ok,nd',pr,len⟩
  walk_at "r"
  refine fH (fun σ' H'=>∃(k:Option V) (us:List Way),σ'=[some (.int c),some (.int p),some (.ref dq),some (.int U),some (.int D),some (.int m),some (.ref f),k]/\WL H1 H' f us/\(∀u∈us,u.Ok3 m)/\us.Nodup/\us.length<=6+U+D) ?_ ?_
  ·walk_at "r"
   refine aK (ai.of (wl.ext _ _ hd)) g5 ?_
   walk_at "r"
   refine cT (fun h=>?_) (fun h=>?_)
   ·walk_at "r"
    refine⟨wl.ty (Ext.rfl' _),?_⟩
    walk_at "r"
    refine ao fun v H4 e4 hv _=>?_
    walk_at "r"
    obtain⟨xs,hx,hlx,wl4⟩:=wl.push (w:=⟨m-1,"zero",0,"b"⟩) hfn0 e4 hv
    refine cv hx (dE (by omega)) ?_
    walk_at "r"
    exact⟨_,_,rfl,wl4,dI ok ⟨by show 0<=m-1;omega,by show m-1<m;omega,by show(0:Int)<=0;decide,by show(0:Int)<m;omega,nt,iC⟩,fX nd' (fun z=>(pr _ z).elim (fun y=>by have:m-1<=(U:Int)+(D:Int):=y;omega) fun y=>mU y),by simp;omega⟩
   ·walk_at "r"
    exact⟨_,us,rfl,wl,ok,nd',by omega⟩
  clear wl ok nd' pr len
  rintro σ' H8 ⟨k,us,rfl,wl,ok,nd',len⟩
  walk_at "r"
  -- backward or not
  refine fH (fun σ' H'=>∃(k:Option V) (f:Addr) (cs:List Addr) (us:List Way),σ'=[some (.int c),some (.int p),some (.ref dq),some (.int U),some (.int D),some (.int m),some (.ref f),k]/\Ext H1 H'/\H' f=some (.lst (cs.map V.ref))/\bg H' cs us/\(∀u∈us,u.Ok3 m)/\us.Nodup/\us.length<=6+U+D) ?_ ?_
  ·walk_at "r"
   refine aK (ai.of (wl.ext _ _ hd)) g6 ?_
   walk_at "r"
   obtain⟨ew,cs,hcs,al⟩:=wl
   refine cT (fun h=>?_) (fun h=>?_)
   ·walk_at "r"
    refine⟨rfl,vA (ai.of hcs) (aW fun r H9 e9 hr9 _=>?_)⟩
    walk_at "r"
    exact⟨_,r,cs.reverse,us.reverse,rfl,ew.trans e9,by rw[hr9,List.map_reverse],(al.ext e9).rev,fun u hu=>ok u (List.mem_reverse.mp hu),List.pairwise_reverse.mpr (nd'.imp fun h=>Ne.symm h),by rw[List.length_reverse];omega⟩
   ·walk_at "r"
    exact⟨_,f,cs,us,rfl,ew,hcs,al,ok,nd',by omega⟩
  clear wl ok nd' len
  rintro σ' H9 ⟨k,g,cs,us,rfl,ew,hcs,al,ok,nd',len⟩
  walk_at "r"
  refine fK (ai.of hcs) (aW fun r I1 i1 hr1 _=>?_)
  walk_at "r"
  refine ao fun t I2 i2 ht _=>?_
  exact q _ m us I2 (eH.trans (ew.trans (i1.trans i2))) (bF.mk ht (((al.ext i1).ways hr1).ext i2)) ⟨by omega,by omega,by omega,ok,nd'⟩
def qC(K:CJ):Sp:=fun vs H Q _=>∃c p,vs=[.int c,.int p]/\0<p/\∀v m ws H',Ext H H'->bF H' v m ws->HOuse3 m ws->Q v H'
abbrev mE:Stmt:=stq 51
theorem uN:FnScope ["_law_cell_here","_law_prime","_law_kind","_law_left"] ["_law_cell_here","_law_prime"] (aE mE):=⟨rfl,rfl,rfl,by decide +kernel,rfl,by decide +kernel,by decide +kernel⟩
theorem Cp{P:Program}{w:World}{K:CJ}{mg:Str->Option Value}{base:Heap}(D:Dfn K mg "_law_house" mE ["_law_cell_here","_law_prime"])(T:Blt mg)(C__law_drawn_house:Cal P w K mg base "_law_drawn_house" 3 ["_law_cell_here","_law_prime"] (oY K))(C__law_gate_house:Cal P w K mg base "_law_gate_house" 3 ["_law_cell_here","_law_prime"] (rg K))(C__law_ring_house:Cal P w K mg base "_law_ring_house" 3 ["_law_cell_here","_law_prime"] (rl K))(C__law_spare:Cal P w K mg base "_law_spare" 1 ["_law_cell_here","_law_width"] (uZ K))(C__law_draws:Cal P w K mg base "_law_draws" 2 ["_law_cell_here","_law_widths","_law_prime"] (eZ K)):Cal P w K mg base "_law_house" 4 ["_law_cell_here","_law_prime"] (qC K):=by
 have nd:=(uN).nd
 refine D.ok uN (fun vs H Q E h=>?_) (fun X hX H vs Q E h=>?_)
 ·obtain⟨c,p,rfl,_⟩:=h;rfl
 ·obtain⟨f,cdv,A,outer,s,H0,E0,rfl,hr⟩:=hX
  obtain⟨c,p,rfl,hp,q⟩:=h
  refine⟨_,(ak (aF (i:=2) nd rfl (Or.inl rfl) (ar (aL K) (ay C__law_draws hr (aa (pv 0) (aa (aZ (aa af ae)) (aa (pv 1) ae)))) af (fun _ _=>rfl)))
    (ak (aF (i:=3) nd rfl (Or.inl rfl) (ay C__law_spare hr (aa (pv 0) (aa af ae))))
    (ak (aU (aJ ck (pv 2) af (aC _)) (aq (az (ay C__law_ring_house hr (aa (pv 3) (aa (pv 1) ae))))) aQ)
    (ak (aU (aJ ck (pv 2) af (aC _)) (aq (az (ay C__law_gate_house hr (aa (pv 3) (aa (pv 1) ae))))) aQ)
    (aq (az (ay C__law_drawn_house hr (aa (pv 3) (aa (pv 1) ae))))))))),?_⟩
  walk_at "r"
  refine ao fun w0 G1 f1 hw0 _=>?_
  walk_at "r"
  refine gG [8] hw0 (by decide) (by decide) (hp) fun dq ds H1 e1 hd hdn hl hb=>?_
  have eH:Ext H H1:=f1.trans e1
  obtain⟨d0,g0,_⟩:=cz hl hb 0 rfl
  walk_at "r"
  refine aK (ai.of hd) g0 ?_
  walk_at "r"
  refine⟨c,8,rfl,by decide,by decide,fun z=>?_⟩
  walk_at "r"
  refine cT (fun h=>?_) (fun h=>?_)
  ·walk_at "r"
   exact⟨z,p,rfl,hp,fun v m ws H' e hv ok=>q v m ws H' (eH.trans e) hv ok⟩
  ·walk_at "r"
   refine cT (fun h=>?_) (fun h=>?_)
   ·walk_at "r"
    exact⟨z,p,rfl,hp,fun v m ws H' e hv ok=>q v m ws H' (eH.trans e) hv ok⟩
   ·walk_at "r"
    exact⟨z,p,rfl,hp,fun v m ws H' e hv ok=>q v m ws H' (eH.trans e) hv ok⟩
def fe(H:Hp)(n:Nat)(xs:List V):Prop:=∀x∈xs,bM H n x
theorem fe.nil(H:Hp)(n:Nat):fe H n []:=fun x hx=>by cases hx
theorem fe.cons{H:Hp}{n:Nat}{x:V}{xs:List V}(h:bM H n x)(h':fe H n xs):fe H n (x::xs):=fun y hy=>by
 rcases De.mp hy with rfl | hy
 ·exact h
 ·exact h' y hy
theorem mB{H:Hp}{n:Nat}{p:Addr}{xs:List V}(h:H p=some (.tup xs))(hl:xs.length<=2000)(hx:fe H n xs):bM H (n+1) (.ref p):=⟨xs,.inl h,hl,hx⟩
theorem bM.up{H:Hp}:∀{n:Nat} {v:V},bM H n v->bM H (n+1) v:=by
 intro n
 induction n with
 | zero=>
  intro v h
  cases v<;>first | exact h | exact h.elim
 | succ n ih=>
  intro v h
  cases v with
  | ref p=>
   obtain⟨xs,h1,h2,h3⟩:=h
   exact⟨xs,h1,h2,fun x hx=>ih (h3 x hx)⟩
  | _=>exact h
theorem kD(H:Hp)(n:Nat)(i:Int):bM H n (.int i):=by cases n<;>trivial
theorem qO(H:Hp)(n:Nat){z:Str}(h:z.length<=1000):bM H n (.str z):=by cases n<;>exact h
theorem AY{z:Str}(h:cJ z):z.length<=1000:=by
 rcases h with rfl | rfl | rfl | rfl<;>decide +kernel
theorem Az{z:Str}(h:jN z):z.length<=1000:=by
 obtain⟨c,_,_,rfl⟩:=h
 show 1<=1000
 decide
theorem Ce{H:Hp}{m:Int}{w:Way}(ok:w.Ok m):fe H 0 w.vs:=
 .cons (kD _ _ _) (.cons (qO _ _ (AY ok.dd)) (.cons (kD _ _ _) (.cons (qO _ _ (Az ok.sg)) (.nil _ _))))
theorem yJ{H:Hp}{v:V}{m:Int}{ws:List Way}(h:bF H v m ws)(ok:HOuse m ws):∃p q bs,v=.ref p/\H p=some (.tup [.int m,.ref q])/\H q=some (.tup (bs.map V.ref))/\bs.length=ws.length/\bg H bs ws/\fe H 1 (bs.map V.ref):=by
 obtain⟨p,q,rfl,h1,h2⟩:=h
 obtain⟨bs,h3,h4⟩:=h2.al
 refine⟨p,q,bs,rfl,h1,h3,h4.1,h4,fun x hx=>?_⟩
 obtain⟨b,hb,rfl⟩:=List.mem_map.mp hx
 obtain⟨j,hj,e⟩:=List.mem_iff_getElem.mp hb
 have hjw:j<ws.length:=by rw[←h4.1];exact hj
 have hw:ws[j]?=some ws[j]:=CO hjw
 exact mB (h4.2 j b _ (by rw[CO hj,e]) hw) (by show 4<=2000;decide) (Ce (ok.ok _ (Dr _)))
theorem yc{c:Nat}(h1:97<=c)(h2:c<=122):fN ⟨#[c]⟩=true:=by
 have ea:(DB "a").cps.toList=[97]:=by decide +kernel
 have ez:(DB "z").cps.toList=[122]:=by decide +kernel
 unfold fN
 rw[ea,ez]
 show(!decide (([c]:List Nat) < [97]) && !decide (([122]:List Nat) < [c]))=true
 rw[DN (fun z=>by rw[List.cons_lt_cons_iff]at z;simp at z;omega),DN (fun z=>by rw[List.cons_lt_cons_iff]at z;simp at z;omega)]
 rfl
theorem A8{z:Str}(h:cJ z):dQ (.str z)=true:=by
 rcases h with rfl | rfl | rfl | rfl<;>decide +kernel
theorem AB{H:Hp}{b:Addr}{m:Int}{w:Way}(h:H b=some (.tup w.vs))(ok:w.Ok m):bN H m (.ref b)=true:=by
 rw[ir h]
 obtain⟨c,h1,h2,e⟩:=ok.sg
 unfold Way.vs dZ
 dsimp only
 rw[jO ok.r0 ok.r1,jO ok.o0 ok.o1,A8 ok.dd,e]
 unfold ee
 dsimp only
 rw[yc h1 h2]
 rfl
theorem om{H:Hp}:∀{bs:List Addr} {ws:List Way},bg H bs ws->(bs.map V.ref).map (dR H)=ws.map Way.key
 | [],[],_=>rfl
 | [],_::_,h=>by cases h.1
 | _::_,[],h=>by cases h.1
 | b::bs,w::ws,h=>by
  rw[List.map_cons,List.map_cons,List.map_cons,om (bs:=bs) (ws:=ws) ⟨Nat.succ.inj h.1,fun j b w e1 e2=>h.2 (j+1) b w e1 e2⟩,n8 (h.2 0 b w rfl rfl)]
  rfl
theorem Bu{H:Hp}{m:Int}{bs:List Addr}{ws:List Way}(h:bg H bs ws)(ok:∀w∈ws,w.Ok m):(bs.map V.ref).all (bN H m)=true:=by
 rw[Dy]
 intro x hx
 obtain⟨b,hb,rfl⟩:=List.mem_map.mp hx
 obtain⟨j,hj,e⟩:=List.mem_iff_getElem.mp hb
 have hjw:j<ws.length:=by rw[←h.1];exact hj
 exact AB (h.2 j b _ (by rw[CO hj,e]) (CO hjw)) (ok _ (Dr hjw))
theorem BQ{H:Hp}{p q:Addr}{m:Int}{bs:List Addr}{ws:List Way}(h1:H p=some (.tup [.int m,.ref q]))(h2:H q=some (.tup (bs.map V.ref)))(h3:bg H bs ws)(m1:1<=m)(m2:m<=12)(ok:∀w∈ws,w.Ok m)(nd:ws.Nodup):eQ H (.ref p)=decide (ws.length<=100):=by
 rw[kJ h1]
 unfold fc
 dsimp only
 rw[DO m1,DO m2,kq h2]
 unfold eB
 have hk:(ws.map Way.key).Nodup:=by
  unfold List.Nodup at nd ⊢
  rw[List.pairwise_map]
  exact nd.imp fun ne e=>ne (Way.key_inj e)
 rw[Bu h3 ok,om h3,DO hk,CN,h3.1]
 simp
theorem dJ{n:Int}(h:0<=n)(h6:n<1000000):n.natAbs.log2<1920:=by
 by_cases h0:n.natAbs=0
 ·rw[h0];decide
 ·exact Du ((Nat.log2_lt h0).mpr (show n.natAbs<2 ^ 20 by omega)) (by decide)
open Tx in
abbrev cb(w:Way):Str:=Txt.join " " [aR w.room,w.deed,aR w.other,w.sign]
open Tx in
def fm(m:Int)(ws:List Way):Str:=aR m++(":":Str)++Txt.join "," (ws.map fun w=>(" ":Str)++cb w)
theorem vY(a b c d:Str):(Txt.join " " [a,b,c,d]).length=a.length+b.length+c.length+d.length+3:=by
 show(Txt.join ⟨#[32]⟩ [a,b,c,d]).length=_
 rw[Tx.gD]
 show(a++(⟨#[32]⟩:Str)++(b++(⟨#[32]⟩:Str)++(c++(⟨#[32]⟩:Str)++d))).length=_
 rw[Str.length_append,Str.length_append,Str.length_append,Str.length_append,Str.length_append,Str.length_append]
 show a.length+1+(b.length+1+(c.length+1+d.length))=_
 omega
theorem nM{z:Str}(h:cJ z):z.length<=4:=by
 rcases h with rfl | rfl | rfl | rfl<;>decide
theorem mG{z:Str}(h:jN z):z.length=1:=by
 obtain⟨c,_,_,rfl⟩:=h
 rfl
theorem kS{m:Int}{w:Way}(ok:w.Ok m)(hm:m<=12):(cb w).length<=20:=by
 rw[vY]
 have h1:=Tx.cG ok.r0 (by have:=ok.r1;omega)
 have h2:=Tx.cG ok.o0 (by have:=ok.o1;omega)
 have h3:=nM ok.dd
 have h4:=mG ok.sg
 omega
theorem mP{k:Nat}:∀{zs:List Str},(∀z∈zs,z.length<=k)->(zs.map (·.length)).sum<=k*zs.length
 | [],_=>Nat.zero_le _
 | z::zs,h=>by
  have h1:=h z CU
  have h2:=mP (k:=k) fun x hx=>h x (CQ z hx)
  rw[List.map_cons,List.sum_cons,Ds,Nat.mul_succ]
  omega
theorem nv(c:Nat){k:Nat}{zs:List Str}(h:∀z∈zs,z.length<=k):(Txt.join ⟨#[c]⟩ zs).length<=(k+1)*zs.length:=by
 rw[Tx.gD]
 have h1:=StrLaws.join_length_le ⟨#[c]⟩ zs
 have h2:=mP h
 have h3:(⟨#[c]⟩:Str).length=1:=rfl
 rw[h3,Nat.mul_one]at h1
 rw[Nat.succ_mul]
 omega
theorem jV{c:Nat}{k n:Nat}{zs:List Str}(h:∀z∈zs,z.length<=k)(hn:zs.length<=n)(hk:(k+1)*n<=1000000):(zs.map (·.length)).sum+zs.length*(⟨#[c]⟩:Str).length<=1000000:=by
 have h2:=mP h
 have h3:(⟨#[c]⟩:Str).length=1:=rfl
 have h4:=Nat.mul_le_mul_left (k+1) hn
 rw[Nat.succ_mul]at h4
 rw[h3]
 omega
def uK(K:CJ):Sp:=fun vs H Q _=>∃b w m,vs=[.ref b]/\H b=some (.tup (Way.vs w))/\w.Ok m/\m<=12/\∀H',Ext H H'->Q (.str (cb w)) H'
abbrev mQ:Stmt:=stq 31
theorem oC:FnScope ["way"] ["way"] (aE mQ):=⟨rfl,rfl,rfl,by decide +kernel,rfl,by decide +kernel,by decide +kernel⟩
theorem BK{P:Program}{w:World}{K:CJ}{mg:Str->Option Value}{base:Heap}(D:Dfn K mg "way_text" mQ ["way"])(T:Blt mg):Cal P w K mg base "way_text" 1 ["way"] (uK K):=by
 have nd:=(oC).nd
 refine D.ok oC (fun vs H Q E h=>?_) (fun X hX H vs Q E h=>?_)
 ·obtain⟨b,w,m,rfl,_⟩:=h;rfl
 ·obtain⟨f,cdv,A,outer,s,H0,E0,rfl,hr⟩:=hX
  obtain⟨b,w,m,rfl,hb,ok,m12,q⟩:=h
  have r1:=ok.r1
  have o1:=ok.o1
  refine⟨_,(aq (az (bx K PySem.F.plainAttrs_str PySem.F.slot_str_join PySem.F.type_str_join (gM K) aw (aa (aZ (aa (bK dN rfl T.str_ PyProof.Rows.boot_str (aa (ar (aO K) (pv 0) af (fun _ _=>rfl)) ae)) (aa (ar (aO K) (pv 0) af (fun _ _=>rfl)) (aa (bK dN rfl T.str_ PyProof.Rows.boot_str (aa (ar (aO K) (pv 0) af (fun _ _=>rfl)) ae)) (aa (ar (aO K) (pv 0) af (fun _ _=>rfl)) ae))))) ae)))),?_⟩
  walk_at "r"
  refine⟨rfl,?_⟩
  walk_at "r"
  refine aM (aj.of hb) rfl ?_
  walk_at "r"
  refine⟨_,rfl,dJ ok.r0 (by omega),?_⟩
  walk_at "r"
  refine aM (aj.of hb) rfl ?_
  walk_at "r"
  refine aM (aj.of hb) rfl ?_
  walk_at "r"
  refine⟨_,rfl,dJ ok.o0 (by omega),?_⟩
  walk_at "r"
  refine aM (aj.of hb) rfl ?_
  walk_at "r"
  refine ao fun l H1 e1 hl _=>?_
  walk_at "r"
  refine⟨_,l,[Tx.aR w.room,w.deed,Tx.aR w.other,w.sign],rfl,rfl,ai.of hl,?_,q H1 e1⟩
  have h1:=Tx.cG ok.r0 (by omega)
  have h2:=Tx.cG ok.o0 (by omega)
  have h3:=nM ok.dd
  have h4:=mG ok.sg
  show(Tx.aR w.room).length+(w.deed.length+((Tx.aR w.other).length+(w.sign.length+0)))+4*1<=1000000
  omega
def ro(K:CJ):Sp:=fun vs H Q _=>∃v m ws,vs=[v]/\bF H v m ws/\HOuse m ws/\∀H',Ext H H'->Q .non H'
theorem gq{H:Hp}{v:V}{m:Int}{ws:List Way}(hv:bF H v m ws)(ok:HOuse m ws):bM H 4 v/\eQ H v=true:=by
 obtain⟨p,q,bs,rfl,h1,h2,h3,h4,h5⟩:=yJ hv ok
 have hfew:=ok.few
 have t2:bM H 2 (.ref q):=mB h2 (by rw[CN,h3];omega) h5
 exact⟨mB h1 (by simp) (.cons (kD _ _ _) (.cons t2.up (.nil _ _))),(BQ h1 h2 h4 ok.m1 ok.m12 ok.ok ok.nd).trans (DO ok.few)⟩
abbrev mF:Stmt:=stq 27
theorem rF:FnScope ["thing"] ["thing"] (aE mF):=⟨rfl,rfl,rfl,by decide +kernel,rfl,by decide +kernel,by decide +kernel⟩
theorem Bo{P:Program}{w:World}{K:CJ}{mg:Str->Option Value}{base:Heap}(D:Dfn K mg "refuse_no_house" mF ["thing"])(T:Blt mg)(C_is_house:Cal P w K mg base "is_house" 5 ["thing"] (ky K)):Cal P w K mg base "refuse_no_house" 6 ["thing"] (ro K):=by
 have nd:=(rF).nd
 refine D.ok rF (fun vs H Q E h=>?_) (fun X hX H vs Q E h=>?_)
 ·obtain⟨v,m,ws,rfl,_⟩:=h;rfl
 ·obtain⟨f,cdv,A,outer,s,H0,E0,rfl,hr⟩:=hX
  obtain⟨v,m,ws,rfl,hv,ok,q⟩:=h
  refine⟨_,(aq (aU (br (bp (ay C_is_house hr (aa (pv 0) ae)))) (aq fj) aQ)),?_⟩
  walk_at "r"
  refine⟨v,rfl,(gq hv ok).1,fun H1 e1=>?_⟩
  rw[(gq hv ok).2]
  walk_at "r"
  refine av ?_
  walk_at "r"
  exact q H1 e1
def uP(K:CJ):Sp:=fun vs H Q _=>∃v m ws,vs=[v]/\bF H v m ws/\HOuse m ws/\∀H',Ext H H'->Q (.str (fm m ws)) H'
abbrev kQ:Stmt:=stq 32
theorem vc:FnScope ["house"] ["house"] (aE kQ):=⟨rfl,rfl,rfl,by decide +kernel,rfl,by decide +kernel,by decide +kernel⟩
theorem zA{P:Program}{w:World}{K:CJ}{mg:Str->Option Value}{base:Heap}(D:Dfn K mg "shown_house" kQ ["house"])(T:Blt mg)(C_way_text:Cal P w K mg base "way_text" 1 ["way"] (uK K))(C_refuse_no_house:Cal P w K mg base "refuse_no_house" 6 ["thing"] (ro K)):Cal P w K mg base "shown_house" 7 ["house"] (uP K):=by
 have nd:=(vc).nd
 refine D.ok vc (fun vs H Q E h=>?_) (fun X hX H vs Q E h=>?_)
 ·obtain⟨v,m,ws,rfl,_⟩:=h;rfl
 ·obtain⟨f,cdv,A,outer,s,H0,E0,rfl,hr⟩:=hX
  obtain⟨v,m,ws,rfl,hv,ok,q⟩:=h
  have m1:=ok.m1
  have m12:=ok.m12
  refine⟨_,(ak (bZ (ay C_refuse_no_house hr (aa (pv 0) ae)))
    (aq (az (ah du (ah du (bK dN rfl T.str_ PyProof.Rows.boot_str (aa (ar (aO K) (pv 0) af (fun _ _=>rfl)) ae)) aw) (bx K PySem.F.plainAttrs_str PySem.F.slot_str_join PySem.F.type_str_join (gM K) aw (aa (cQ ["way"] [] (dM K (ar (aO K) (pv 0) af (fun _ _=>rfl))) (fun _=>(aP (i:=0) (show(["way"]:List Str).Nodup from by decide +kernel) rfl (Or.inl rfl) (Or.inr rfl))) (fun _=>cI) (fun _=>(ah du aw (ay C_way_text hr (aa (pv 0) ae))))) ae)))))),?_⟩
  walk_at "r"
  refine⟨v,m,ws,rfl,hv,ok,fun H1 e1=>?_⟩
  obtain⟨p,r,rfl,g1,g2⟩:=id (hv.ext e1)
  obtain⟨bs,g3,al⟩:=cH.al g2
  have hfew:=ok.few
  have lm:(DB (toString m)).length<=6:=Tx.cG (by omega) (by omega)
  have hl:∀w∈ws,((" ":Str)++cb w).length<=21:=fun w hw=>by
   rw[Str.length_append]
   have:=kS (ok.ok w hw) m12
   have:(DB " ").length=1:=rfl
   omega
  walk_at "r"
  refine aM (aj.of g1) rfl ?_
  walk_at "r"
  refine⟨_,rfl,dJ (by omega) (by omega),?_⟩
  walk_at "r"
  refine⟨_,_,rfl,rfl,aH (by have:(DB ":").length=1:=rfl;omega),?_⟩
  walk_at "r"
  refine⟨rfl,?_⟩
  walk_at "r"
  refine aM (aj.of g1) (v:=.ref r) rfl ?_
  refine dH (aj.of g3) ?_
  refine eW (xs:=bs.map V.ref) (fun i ys H'=>Ext H1 H'/\ys=((ws.take i).map fun w=>(" ":Str)++cb w).map V.str) (eX (by rw[CN,al.1];omega)) ⟨Ext.rfl' _,rfl⟩ (fun i ys H' hi h=>⟨aj.of (h.1 _ _ g3),?_⟩) ?_ ?_
  ·rw[h.2,CN,CN,DJ]
   exact Nat.min_le_left _ _
  ·rintro i x ys H' hx ⟨e2,rfl⟩
   rw[CP]at hx
   obtain⟨b,hb,rfl⟩:=Dc.mp hx
   have hi:i<ws.length:=by rw[←al.1];exact(CW.mp hb).1
   have hw:ws[i]?=some ws[i]:=CO hi
   have okw:=ok.ok _ (CY hw)
   have hbw:=e2 _ _ (al.2 i b _ hb hw)
   walk_at "r"
   refine au ?_
   walk_at "r"
   refine⟨b,_,m,rfl,hbw,okw,m12,fun H3 e3=>?_⟩
   walk_at "r"
   refine⟨_,_,rfl,rfl,aH (by have:=kS okw m12;have:(DB " ").length=1:=rfl;omega),?_⟩
   walk_at "r"
   refine⟨e2.trans e3,?_⟩
   rw[List.take_add_one,hw,Dg,Dg]
   rfl
  ·rintro ys H' l ⟨e2,rfl⟩ hn
   rw[CN,al.1,Dt]
   have e3:Ext H1 (upd H' l (.lst ((ws.map fun w=>(" ":Str)++cb w).map V.str))):=e2.trans (bq hn)
   have hl3:upd H' l (.lst ((ws.map fun w=>(" ":Str)++cb w).map V.str)) l=some (.lst ((ws.map fun w=>(" ":Str)++cb w).map V.str)):=aY
   generalize upd H' l (.lst ((ws.map fun w=>(" ":Str)++cb w).map V.str))=H4 at e3 hl3 ⊢
   walk_at "r"
   have hall:∀z∈ws.map (fun w=>(" ":Str)++cb w),z.length<=21:=fun z hz=>by
    obtain⟨w,hw,rfl⟩:=List.mem_map.mp hz
    exact hl w hw
   refine⟨_,l,_,rfl,rfl,ai.of hl3,jV (c:=44) hall (n:=100) (by rw[CN];exact hfew) (by decide),?_⟩
   have hj:=nv 44 hall
   rw[CN]at hj
   refine⟨_,_,rfl,rfl,aH ?_,q H4 (e1.trans e3)⟩
   rw[Str.length_append]
   have h1:(DB ":").length=1:=rfl
   have h2:=Nat.mul_le_mul_left 22 hfew
   show(DB (toString m)).length+(DB ":").length+(Txt.join ⟨#[44]⟩ _).length<=1000000
   omega
abbrev aX(xs:List Int):List Str:=xs.map Tx.aR
def bB(b s:Int)(o a:List Int):List Str:=[Tx.aR b,Tx.aR s]++[(":":Str)]++aX o++[(":":Str)]++aX a
theorem my{lo hi:Int}:∀{xs:List Int},cM lo hi xs->(xs.length:Int)<=max 0 (hi-lo)
 | [],_=>by simp only[List.length_nil];omega
 | x::r,h=>by
  obtain⟨h1,h2,h3⟩:=uw.mp h
  have:=my h3
  simp only[Ds]
  omega
def pz(K:CJ):Sp:=fun vs H Q _=>∃p xs,vs=[.ref p]/\aj K H p (List.map V.int xs)/\xs.length<=10000/\(∀x∈xs,0<=x/\x<1000000)/\∀l H',Ext H H'->H' l=some (.lst ((aX xs).map V.str))->Q (.ref l) H'
abbrev mr:Stmt:=stq 33
theorem uI:FnScope ["row"] ["row"] (aE mr):=⟨rfl,rfl,rfl,by decide +kernel,rfl,by decide +kernel,by decide +kernel⟩
theorem zv{P:Program}{w:World}{K:CJ}{mg:Str->Option Value}{base:Heap}(D:Dfn K mg "row_words" mr ["row"])(T:Blt mg):Cal P w K mg base "row_words" 1 ["row"] (pz K):=by
 have nd:=(uI).nd
 refine D.ok uI (fun vs H Q E h=>?_) (fun X hX H vs Q E h=>?_)
 ·obtain⟨p,xs,rfl,_⟩:=h;rfl
 ·obtain⟨f,cdv,A,outer,s,H0,E0,rfl,hr⟩:=hX
  obtain⟨p,xs,rfl,hp,hn,hx,q⟩:=h
  refine⟨_,(aq (az (cQ ["number"] [] (dM K (pv 0)) (fun _=>(aP (i:=0) (show(["number"]:List Str).Nodup from by decide +kernel) rfl (Or.inl rfl) (Or.inr rfl))) (fun _=>cI) (fun _=>(bK dN rfl T.str_ PyProof.Rows.boot_str (aa (pv 0) ae)))))),?_⟩
  walk_at "r"
  refine dH hp ?_
  refine eW (xs:=xs.map V.int) (fun i ys H'=>H'=H/\ys=(aX (xs.take i)).map V.str) (aH (by rw[CN];omega)) ⟨rfl,rfl⟩ (fun i ys H' hi h=>⟨by rw[h.1];exact hp,?_⟩) ?_ ?_
  ·rw[h.2,CN,CN,DJ]
   exact Nat.min_le_left _ _
  ·rintro i x ys H' hx' ⟨rfl,rfl⟩
   rw[CP]at hx'
   obtain⟨n,hn',rfl⟩:=Dc.mp hx'
   have h2:=hx n (CY hn')
   walk_at "r"
   refine au ?_
   walk_at "r"
   refine⟨_,rfl,dJ h2.1 h2.2,rfl,?_⟩
   unfold aX
   rw[List.take_add_one,hn',Dg,Dg]
   rfl
  ·rintro ys H' l ⟨rfl,rfl⟩ hl
   rw[CN,Dt]
   walk_at "r"
   exact q l _ (bq hl) aY
structure Sml(b s:Int)(o a:List Int):Prop where
 b0:0<=b
 b1:b<1000000
 s0:0<=s
 s1:s<1000000
 o1:∀x∈o,0<=x/\x<1000000
 a1:∀x∈a,0<=x/\x<1000000
 ol:o.length<=10000
 al:a.length<=10000
theorem Gd.sml{b s:Int}{o a:List Int}(g:Gd b s o a):Sml b s o a:=by
 have h1:=g.ok.hb
 have h2:=g.ok.hs
 have h3:=g.b3
 have h4:=g.s8
 refine⟨by omega,by omega,by omega,by omega,fun x hx=>?_,fun x hx=>?_,?_,?_⟩
 ·have:=g.ok.ho.2 x hx;omega
 ·have:=g.ok.ha.2 x hx;omega
 ·have:=my g.ok.ho;omega
 ·have:=my g.ok.ha;omega
theorem kO{b s:Int}{o a:List Int}(g:Sml b s o a):∀z∈bB b s o a,z.length<=6:=by
 have hc:(DB ":").length=1:=rfl
 intro z hz
 unfold bB at hz
 simp only[Dm,De,Dw,or_false,List.mem_map]at hz
 rcases hz with((((rfl | rfl) | rfl) | ⟨x,hx,rfl⟩) | rfl) | ⟨x,hx,rfl⟩
 ·exact Tx.cG g.b0 g.b1
 ·exact Tx.cG g.s0 g.s1
 ·omega
 ·exact Tx.cG (g.o1 x hx).1 (g.o1 x hx).2
 ·omega
 ·exact Tx.cG (g.a1 x hx).1 (g.a1 x hx).2
theorem hV{b s:Int}{o a:List Int}:(bB b s o a).length=o.length+a.length+4:=by
 unfold bB
 simp only[Dh,CN,Ds,List.length_nil]
 omega
def jv(K:CJ):Sp:=fun vs H Q E=>∃v,vs=[v]/\((∃b s o a,bE H v b s o a/\Gd b s o a/\∀H',Ext H H'->Q (.str (Txt.join " " (bB b s o a))) H')\/rA K H v E)
abbrev kA:Stmt:=stq 34
theorem vb:FnScope ["stair"] ["stair"] (aE kA):=⟨rfl,rfl,rfl,by decide +kernel,rfl,by decide +kernel,by decide +kernel⟩
theorem wt{P:Program}{w:World}{K:CJ}{mg:Str->Option Value}{base:Heap}(D:Dfn K mg "shown_stair" kA ["stair"])(T:Blt mg)(C_row_words:Cal P w K mg base "row_words" 1 ["row"] (pz K))(CX_refuse_bad_stair:CalX P w K mg base "refuse_bad_stair" 6 ["thing"] (kB K)):CalX P w K mg base "shown_stair" 7 ["stair"] (jv K):=by
 have nd:=(vb).nd
 refine D.okX vb (fun vs H Q E h=>?_) (fun f cdv A outer s H vs Q E hr h=>?_)
 ·obtain⟨v,rfl,_⟩:=h;rfl
 ·obtain⟨v,rfl,hh⟩:=h
  refine⟨_,(ak (bZ (lR CX_refuse_bad_stair hr (aa (pv 0) ae)))
    (aq (az (bx K PySem.F.plainAttrs_str PySem.F.slot_str_join PySem.F.type_str_join (gM K) aw (aa (ah cD (ah cD (ah cD (ah cD (ay C_row_words hr (aa (dP gY (pv 0) fi (cE af)) ae)) (aZ (aa aw ae))) (ay C_row_words hr (aa (ar (aO K) (pv 0) af (fun _ _=>rfl)) ae))) (aZ (aa aw ae))) (ay C_row_words hr (aa (ar (aO K) (pv 0) af (fun _ _=>rfl)) ae))) ae))))),?_⟩
  walk_at "r"
  rcases hh with⟨b,s',o,a,hv,hg,q⟩ | hb
  ·refine⟨v,rfl,.inl ⟨b,s',o,a,hv,hg,?_⟩⟩
   obtain⟨p,r,r',rfl,h1,h2,h3⟩:=hv
   walk_at "r"
   have gs:=hg.sml
   refine⟨rfl,?_⟩
   walk_at "r"
   refine fY h1 fun p2 H1 e1 hp2=>?_
   walk_at "r"
   refine⟨p2,[b,s'],rfl,aj.of hp2,by simp,fun x hx=>?_,fun l1 H2 e2 hl1=>?_⟩
   ·simp only[De,Dw,or_false]at hx
    rcases hx with rfl | rfl
    ·exact⟨gs.b0,gs.b1⟩
    ·exact⟨gs.s0,gs.s1⟩
   walk_at "r"
   refine ao fun l2 H3 e3 hl2 _=>?_
   refine cB (e3 _ _ hl1) hl2 (aH (by simp)) (aW fun l3 H4 e4 hl3 _=>?_)
   have e14:=((e1.trans e2).trans e3).trans e4
   walk_at "r"
   refine aM (aj.of (e14 _ _ h1)) (v:=.ref r) rfl ?_
   walk_at "r"
   refine⟨r,o,rfl,aj.of (e14 _ _ h2),gs.ol,gs.o1,fun l4 H5 e5 hl4=>?_⟩
   have ol:=gs.ol
   have al:=gs.al
   refine cB (e5 _ _ hl3) hl4 (aH (by simp;omega)) (aW fun l5 H6 e6 hl5 _=>?_)
   walk_at "r"
   refine ao fun l6 H7 e7 hl6 _=>?_
   refine cB (e7 _ _ hl5) hl6 (aH (by simp;omega)) (aW fun l7 H8 e8 hl7 _=>?_)
   have e18:=(((e14.trans e5).trans e6).trans e7).trans e8
   walk_at "r"
   refine aM (aj.of (e18 _ _ h1)) (v:=.ref r') rfl ?_
   walk_at "r"
   refine⟨r',a,rfl,aj.of (e18 _ _ h3),gs.al,gs.a1,fun l8 H9 e9 hl8=>?_⟩
   refine cB (e9 _ _ hl7) hl8 (aH (by simp;omega)) (aW fun l9 H10 e10 hl9 _=>?_)
   walk_at "r"
   refine⟨_,l9,bB b s' o a,rfl,rfl,ai.of ?_,jV (c:=32) (kO gs) (n:=20004) (by rw[hV];omega) (by decide),q H10 ((e18.trans e9).trans e10)⟩
   rw[hl9]
   unfold bB
   simp only[Dg]
   rfl
  ·exact⟨v,rfl,.inr hb⟩
theorem ie{a b:Str}:decide (V.str a=V.str b)=decide (a=b):=by
 by_cases h:a=b
 ·subst h;simp
 ·rw[DN h,DN (fun z=>h (V.str.inj z))]
theorem j4{a b:Str}{H:Hp}{Q:VK}(h:Q (.bl (decide (a=b))) H):i6 (.str a) (.str b) H Q:=⟨rfl,by rw[ie];exact h⟩
theorem gF{a b:Str}{H:Hp}{Q:VK}(h:Q (.bl (!decide (a=b))) H):kX (.str a) (.str b) H Q:=⟨rfl,by rw[ie];exact h⟩
def eC(c:Nat):Bool:=decide (48<=c/\c<=57)
def fU(z:Str):Bool:=decide (1<=z.length) && (decide (z.length<=6) && ((z.cps.toList.map eC).all id && (decide (z = "0") || decide (z.cps.toList[0]?≠some 48))))
theorem xc(c:Nat):(!(Builtin.Str.occurrences (DB "0123456789") ⟨#[c]⟩ 0 (DB "0123456789").length 1).isEmpty)=eC c:=by
 rw[StrLaws.found_one,show (DB "0123456789").cps.toList=[48,49,50,51,52,53,54,55,56,57] by decide +kernel]
 unfold eC
 rw[decide_eq_decide]
 simp only[De,Dw,or_false]
 omega
def ub(K:CJ):Sp:=fun vs H Q _=>∃z:Str,vs=[.str z]/\z.length<=1000000/\∀H',Ext H H'->Q (.bl (fU z)) H'
abbrev nj:Stmt:=stq 35
theorem qk:FnScope ["word"] ["word"] (aE nj):=⟨rfl,rfl,rfl,by decide +kernel,rfl,by decide +kernel,by decide +kernel⟩
theorem zp{P:Program}{w:World}{K:CJ}{mg:Str->Option Value}{base:Heap}(D:Dfn K mg "is_number_word" nj ["word"])(T:Blt mg)(g_FIGURES:∃t,mg "FIGURES" = some (.str "0123456789" t))(g_MOST_FIGURES:∃t,mg "MOST_FIGURES" = some (.int 6 t)):Cal P w K mg base "is_number_word" 1 ["word"] (ub K):=by
 have nd:=(qk).nd
 refine D.ok qk (fun vs H Q E h=>?_) (fun X hX H vs Q E h=>?_)
 ·obtain⟨n,rfl,_⟩:=h;rfl
 ·obtain⟨f,cdv,A,outer,s,H0,E0,rfl,hr⟩:=hX
  obtain⟨t_FIGURES,c_FIGURES⟩:=g_FIGURES
  obtain⟨t_MOST_FIGURES,c_MOST_FIGURES⟩:=g_MOST_FIGURES
  obtain⟨z,rfl,hz,q⟩:=h
  refine⟨_,(ak (aU (PW.pt (bh (aJ dD (aI iS rfl T.len_ PySem.boot_len (aa (pv 0) ae)) af (aC _)) (bh (aJ dU (aI iS rfl T.len_ PySem.boot_len (aa (pv 0) ae)) (df (v:=.int 6) rfl c_MOST_FIGURES ⟨_,rfl⟩) (aC _)) (bR (br (bp (aI (gp K rfl) rfl T.all_ PyProof.Rows.boot_all (aa (cQ ["sign"] [] (xm (pv 0)) (fun _=>(aP (i:=0) (show(["sign"]:List Str).Nodup from by decide +kernel) rfl (Or.inl rfl) (Or.inr rfl))) (fun _=>cI) (fun _=>(dA Ca (pv 0) (df (v:=.str "0123456789") rfl c_FIGURES ⟨_,rfl⟩) (by with_unfolding_all rfl)))) ae)))))))) (aq (az bA)) aQ)
    (aq (az (xr (dA ck (pv 0) aw (aC _)) (dv (dA cw (ar kg (pv 0) af (fun _ _=>rfl)) aw (aC _))))))),?_⟩
  walk_at "r"
  refine⟨z,rfl,aH hz,?_⟩
  walk_at "r"
  by_cases h1:(z.length:Int)<1
  ·rw[DO h1]
   refine au (au ?_)
   walk_at "r"
   have:=q H (Ext.rfl' _)
   unfold fU at this
   rw[DN (show ¬1<=z.length by omega)]at this
   exact this
  rw[DN h1]
  refine av ?_
  walk_at "r"
  refine⟨z,rfl,aH hz,?_⟩
  walk_at "r"
  by_cases h2:(6:Int)<z.length
  ·rw[DO h2]
   refine au (au ?_)
   walk_at "r"
   have:=q H (Ext.rfl' _)
   unfold fU at this
   rw[DN (show ¬z.length<=6 by omega),Bool.false_and,Bool.and_false]at this
   exact this
  rw[DN h2]
  refine av ?_
  walk_at "r"
  refine⟨z,rfl,?_⟩
  have hsz:z.cps.size=z.length:=rfl
  refine zQ (fun i ys H'=>H'=H/\ys=((z.cps.toList.take i).map eC).map V.bl) (aH (by omega)) ⟨rfl,rfl⟩ ?_ ?_ ?_
  ·rintro i ys H' _ ⟨rfl,rfl⟩
   rw[CN,CN,DJ]
   exact Nat.min_le_left _ _
  ·rintro i c ys H' hc ⟨rfl,rfl⟩
   walk_at "r"
   refine au ?_
   walk_at "r"
   refine⟨_,_,rfl,rfl,rfl,?_⟩
   rw[xc,List.take_add_one,Array.getElem?_toList,hc,Dg,Dg]
   rfl
  rintro ys H' p1 ⟨rfl,rfl⟩ hp1
  rw[←CS,Dt]
  have e1:Ext H' (upd H' p1 (.lst ((z.cps.toList.map eC).map V.bl))):=bq hp1
  have g1:(upd H' p1 (.lst ((z.cps.toList.map eC).map V.bl))) p1=_:=aY
  generalize upd H' p1 (.lst ((z.cps.toList.map eC).map V.bl))=H1 at e1 g1
  have q1:=q H1 e1
  unfold fU at q1
  rw[DO (show 1<=z.length by omega),DO (show z.length<=6 by omega),Bool.true_and,Bool.true_and]at q1
  walk_at "r"
  refine⟨p1,_,rfl,ai.of g1,?_⟩
  walk_at "r"
  cases hall:(z.cps.toList.map eC).all id with
  | false=>
   rw[hall,Bool.false_and]at q1
   refine au ?_
   walk_at "r"
   exact q1
  | true=>
   rw[hall,Bool.true_and]at q1
   refine av ?_
   walk_at "r"
   refine j4 ?_
   refine⟨_,rfl,?_⟩
   by_cases h3:z = "0"
   ·rw[DO h3]at q1 ⊢
    exact au q1
   rw[DN h3]at q1 ⊢
   rw[Bool.false_or]at q1
   refine av ?_
   walk_at "r"
   have hl:0<z.cps.toList.length:=by rw[CS];omega
   have hc:z.cps.toList[0]?=some z.cps.toList[0]:=CO hl
   generalize z.cps.toList[0]=c at hc
   refine⟨z,0,c,rfl,rfl,aH hz,dF hc,?_⟩
   walk_at "r"
   refine gF ?_
   rw[hc]at q1
   have e0:(!decide ((⟨#[c]⟩:Str)=DB "0"))=decide (some c≠some 48):=by
    have:(DB "0")=⟨#[48]⟩:=rfl
    rw[this]
    by_cases h4:c=48
    ·subst h4;decide
    ·rw[DO (show some c≠some 48 from fun e=>h4 (DC e)),DN (fun e=>h4 (by injection e with e;simpa using e))]
     rfl
   rw[e0]
   exact q1
theorem yf{n:Int}(h:0<=n)(h6:n<1000000):fU (Tx.aR n)=true:=by
 unfold fU
 have hd:((Tx.aR n).cps.toList.map eC).all id=true:=by
  rw[List.all_map,Dy]
  intro c hc
  exact DO (Tx.il h hc)
 rw[DO (Tx.xj h),DO (Tx.cG h h6),hd]
 rcases Tx.wj h with e | e
 ·rw[DO (show Tx.aR n = "0" from e)]
  rfl
 ·have:(Tx.aR n).cps.toList[0]?≠some 48:=fun z=>by
   cases k:(Tx.aR n).cps.toList with
   | nil=>rw[k]at z;cases z
   | cons a l=>rw[k]at z;cases z;exact e l k
  rw[DO this,Bool.or_true]
  rfl
def ij(K:CJ):Sp:=fun vs H Q _=>∃n:Int,vs=[.str (Tx.aR n)]/\0<=n/\n<1000000/\∀H',Ext H H'->Q (.int n) H'
abbrev kW:Stmt:=stq 36
theorem uM:FnScope ["word"] ["word"] (aE kW):=⟨rfl,rfl,rfl,by decide +kernel,rfl,by decide +kernel,by decide +kernel⟩
theorem wU{P:Program}{w:World}{K:CJ}{mg:Str->Option Value}{base:Heap}(D:Dfn K mg "read_number" kW ["word"])(T:Blt mg)(C_is_number_word:Cal P w K mg base "is_number_word" 1 ["word"] (ub K)):Cal P w K mg base "read_number" 2 ["word"] (ij K):=by
 have nd:=(uM).nd
 refine D.ok uM (fun vs H Q E h=>?_) (fun X hX H vs Q E h=>?_)
 ·obtain⟨n,rfl,_⟩:=h;rfl
 ·obtain⟨f,cdv,A,outer,s,H0,E0,rfl,hr⟩:=hX
  obtain⟨n,rfl,n0,n6,q⟩:=h
  have l6:=Tx.cG n0 n6
  refine⟨_,(ak (aU (br (bp (ay C_is_number_word hr (aa (pv 0) ae)))) (aq fj) aQ)
    (aq (az (bK Cb rfl T.int_ PyProof.Rows.boot_int (aa (pv 0) ae))))),?_⟩
  walk_at "r"
  refine⟨_,rfl,by omega,fun H1 e1=>?_⟩
  rw[yf n0 n6]
  walk_at "r"
  refine av ?_
  walk_at "r"
  refine⟨_,n,rfl,Tx.yn n0 n6,by omega,q H1 e1⟩
def uv(K:CJ):Sp:=fun vs H Q _=>∃l xs,vs=[.ref l]/\H l=some (.lst ((aX xs).map V.str))/\xs.length<=20000/\(∀x∈xs,0<=x/\x<1000000)/\∀t H',Ext H H'->H' t=some (.tup (xs.map V.int))->Q (.ref t) H'
abbrev km:Stmt:=stq 37
theorem pC:FnScope ["words"] ["words"] (aE km):=⟨rfl,rfl,rfl,by decide +kernel,rfl,by decide +kernel,by decide +kernel⟩
theorem xT{P:Program}{w:World}{K:CJ}{mg:Str->Option Value}{base:Heap}(D:Dfn K mg "read_row" km ["words"])(T:Blt mg)(C_read_number:Cal P w K mg base "read_number" 2 ["word"] (ij K)):Cal P w K mg base "read_row" 3 ["words"] (uv K):=by
 have nd:=(pC).nd
 refine D.ok pC (fun vs H Q E h=>?_) (fun X hX H vs Q E h=>?_)
 ·obtain⟨l,xs,rfl,_⟩:=h;rfl
 ·obtain⟨f,cdv,A,outer,s,H0,E0,rfl,hr⟩:=hX
  obtain⟨l,xs,rfl,hl,hn,hx,q⟩:=h
  refine⟨_,(aq (az (bK (fw K) rfl T.tuple_ PyProof.Rows.boot_tuple (aa (cQ ["word"] [] (ef K (pv 0)) (fun _=>(aP (i:=0) (show(["word"]:List Str).Nodup from by decide +kernel) rfl (Or.inl rfl) (Or.inr rfl))) (fun _=>cI) (fun _=>(ay C_read_number hr (aa (pv 0) ae)))) ae)))),?_⟩
  walk_at "r"
  refine dX (ai.of hl) ?_
  refine gm (xs:=(aX xs).map V.str) (fun i ys H'=>Ext H H'/\ys=(xs.take i).map V.int) (aH (by rw[CN,CN];omega)) ⟨Ext.rfl' _,rfl⟩ (fun i ys H' hi h=>⟨ai.of (h.1 _ _ hl),?_⟩) ?_ ?_
  ·rw[h.2,CN,DJ]
   exact Nat.min_le_left _ _
  ·rintro i x ys H' hx' ⟨e2,rfl⟩
   unfold aX at hx'
   rw[CP,CP]at hx'
   obtain⟨z,hz,rfl⟩:=Dc.mp hx'
   obtain⟨n,hn',rfl⟩:=Dc.mp hz
   have h2:=hx n (CY hn')
   walk_at "r"
   refine au ?_
   walk_at "r"
   refine⟨n,rfl,h2.1,h2.2,fun H3 e3=>⟨e2.trans e3,?_⟩⟩
   rw[List.take_add_one,hn',Dg]
   rfl
  ·rintro ys H' p ⟨e2,rfl⟩ hp
   rw[CN,CN,Dt]
   walk_at "r"
   refine fK (ai.of aY) (aW fun t H5 e5 ht _=>?_)
   exact q t H5 ((e2.trans (bq hp)).trans e5) ht
theorem mem_join{c x:Nat}:∀{ps:List Str},x∈(Str.join ⟨#[c]⟩ ps).cps.toList->x=c\/∃p∈ps,x∈p.cps.toList
 | [],h=>by cases h
 | [p],h=>.inr ⟨p,CU,h⟩
 | p::q::r,h=>by
  rw[Tx.iD]at h
  rcases Dm.mp h with h | h
  ·exact .inr ⟨p,CU,h⟩
  ·rcases De.mp h with h | h
   ·exact .inl h
   ·rcases mem_join h with h | ⟨y,hy,h⟩
    ·exact .inl h
    ·exact .inr ⟨y,CQ _ hy,h⟩
theorem xF{z:Str}(h:cJ z):∀c∈z.cps.toList,97<=c/\c<=122:=by
 rcases h with rfl | rfl | rfl | rfl<;>decide +kernel
theorem sign_sign{z:Str}(h:jN z):∀c∈z.cps.toList,97<=c/\c<=122:=by
 obtain⟨c,h1,h2,rfl⟩:=h
 intro x hx
 have:x=c:=by simpa using hx
 omega
abbrev kK(w:Way):List Str:=[⟨#[]⟩,Tx.aR w.room,w.deed,Tx.aR w.other,w.sign]
theorem mD(w:Way):(" ":Str)++cb w=Str.join ⟨#[32]⟩ (kK w):=by
 show(⟨#[32]⟩:Str)++Txt.join ⟨#[32]⟩ [Tx.aR w.room,w.deed,Tx.aR w.other,w.sign]=(⟨#[]⟩:Str)++(⟨#[32]⟩:Str)++Str.join ⟨#[32]⟩ [Tx.aR w.room,w.deed,Tx.aR w.other,w.sign]
 rw[Tx.gD]
 rfl
theorem qZ{m:Int}{w:Way}(ok:w.Ok m){p:Str}(hp:p∈kK w){c:Nat}(hc:c∈p.cps.toList):(48<=c/\c<=57)\/(97<=c/\c<=122):=by
 simp only[De,Dw,or_false]at hp
 rcases hp with rfl | rfl | rfl | rfl | rfl
 ·cases hc
 ·exact .inl (Tx.il ok.r0 hc)
 ·exact .inr (xF ok.dd c hc)
 ·exact .inl (Tx.il ok.o0 hc)
 ·exact .inr (sign_sign ok.sg c hc)
theorem wu{m:Int}{w:Way}(ok:w.Ok m):Txt.split ((" ":Str)++cb w) " " = kK w:=by
 rw[mD]
 exact Tx.iY (c:=32) (List.cons_ne_nil _ _) fun p hp hc=>by have:=qZ ok hp hc;omega
theorem oo{m:Int}{w:Way}(ok:w.Ok m){c:Nat}(hc:c=44\/c=58):c∉((" ":Str)++cb w).cps.toList:=fun h=>by
 rw[mD]at h
 rcases mem_join h with h | ⟨p,hp,h⟩
 ·omega
 ·have:=qZ ok hp h;omega
abbrev cc(ws:List Way):List Str:=ws.map fun w=>(" ":Str)++cb w
theorem qD{m:Int}{ws:List Way}(ok:∀w∈ws,w.Ok m)(hn:ws≠[]):Txt.split (Txt.join "," (cc ws)) "," = cc ws:=by
 show Txt.split (Txt.join ⟨#[44]⟩ (cc ws)) ⟨#[44]⟩=cc ws
 rw[Tx.gD]
 refine Tx.iY (fun e=>hn (List.map_eq_nil_iff.mp e)) fun p hp=>?_
 obtain⟨w,hw,rfl⟩:=List.mem_map.mp hp
 exact oo (ok w hw) (.inl rfl)
theorem Bp{m:Int}{ws:List Way}(m1:1<=m)(ok:∀w∈ws,w.Ok m):Txt.split (fm m ws) ":" = [Tx.aR m,Txt.join "," (cc ws)]:=by
 have e:fm m ws=Str.join ⟨#[58]⟩ [Tx.aR m,Txt.join "," (cc ws)]:=rfl
 rw[e]
 refine Tx.iY (c:=58) (List.cons_ne_nil _ _) fun p hp=>?_
 simp only[De,Dw,or_false]at hp
 rcases hp with rfl | rfl
 ·exact Tx.h7 (by omega) (by omega)
 ·show 58∉(Txt.join ⟨#[44]⟩ (cc ws)).cps.toList
  rw[Tx.gD]
  intro h
  rcases mem_join h with h | ⟨p,hp,h⟩
  ·omega
  ·obtain⟨w,hw,rfl⟩:=List.mem_map.mp hp
   exact oo (ok w hw) (.inr rfl) h
theorem lZ{m:Int}{w:Way}(ok:w.Ok m)(hm:m<=12):((" ":Str)++cb w).length<=21:=by
 rw[Str.length_append]
 have:=kS ok hm
 have:(DB " ").length=1:=rfl
 omega
theorem nk{m:Int}{ws:List Way}(ok:∀w∈ws,w.Ok m)(hm:m<=12)(hf:ws.length<=100):(Txt.join "," (cc ws)).length<=2200:=by
 have h:=nv 44 (k:=21) (zs:=cc ws) fun z hz=>by
  obtain⟨w,hw,rfl⟩:=List.mem_map.mp hz
  exact lZ (ok w hw) hm
 rw[CN]at h
 have:=Nat.mul_le_mul_left 22 hf
 show(Txt.join ⟨#[44]⟩ (cc ws)).length<=2200
 omega
theorem jw{H:Hp}{Q:VK}{z y:Str}(hy:(y.length == 0)=false)(hz:z.length<=900000)(h:cY H (.lst ((Txt.split z y).map V.str)) Q):tX (.str z) [.str y] H Q:=⟨z,y,rfl,rfl,hy,Dv (Nat.add_le_add_right hz 2) (by decide),h⟩
def qc(K:CJ):Sp:=fun vs H Q _=>∃(w:Way) (m:Int),vs=[.str ((" ":Str)++cb w)]/\w.Ok m/\m<=12/\∀t H',Ext H H'->H' t=some (.tup w.vs)->Q (.ref t) H'
abbrev nZ:Stmt:=stq 38
theorem uq:FnScope ["text","words"] ["text"] (aE nZ):=⟨rfl,rfl,rfl,by decide +kernel,rfl,by decide +kernel,by decide +kernel⟩
theorem vD{P:Program}{w:World}{K:CJ}{mg:Str->Option Value}{base:Heap}(D:Dfn K mg "read_way" nZ ["text"])(T:Blt mg)(C_read_number:Cal P w K mg base "read_number" 2 ["word"] (ij K)):Cal P w K mg base "read_way" 3 ["text"] (qc K):=by
 have nd:=(uq).nd
 refine D.ok uq (fun vs H Q E h=>?_) (fun X hX H vs Q E h=>?_)
 ·obtain⟨w,m,rfl,_⟩:=h;rfl
 ·obtain⟨f,cdv,A,outer,s,H0,E0,rfl,hr⟩:=hX
  obtain⟨w,m,rfl,ok,m12,q⟩:=h
  have r1:=ok.r1
  have o1:=ok.o1
  have h21:=lZ ok m12
  refine⟨_,(ak (aF (i:=1) nd rfl (Or.inl rfl) (bx K PySem.F.plainAttrs_str PySem.F.slot_str_split PySem.F.type_str_split jr (pv 0) (aa aw ae)))
    (ak (aU (PW.pt (bh (aJ cw (aI (cu K) rfl T.len_ PySem.boot_len (aa (pv 1) ae)) af (aC _)) (bR (aJ cw (ar (aL K) (pv 1) af (fun _ _=>rfl)) aw (aC _))))) (aq fj) aQ)
    (aq (az (aA (aa (ay C_read_number hr (aa (ar (aL K) (pv 1) af (fun _ _=>rfl)) ae)) (aa (ar (aL K) (pv 1) af (fun _ _=>rfl)) (aa (ay C_read_number hr (aa (ar (aL K) (pv 1) af (fun _ _=>rfl)) ae)) (aa (ar (aL K) (pv 1) af (fun _ _=>rfl)) ae))))))))),?_⟩
  walk_at "r"
  refine⟨rfl,?_⟩
  walk_at "r"
  refine jw rfl (by omega) (aW fun l H1 e1 hl _=>?_)
  rw[wu ok]at hl
  walk_at "r"
  refine gN (ai.of hl) ?_
  walk_at "r"
  refine av ?_
  walk_at "r"
  refine aK (ai.of hl) rfl ?_
  walk_at "r"
  refine gF ?_
  walk_at "r"
  refine av ?_
  walk_at "r"
  refine aK (ai.of hl) rfl ?_
  walk_at "r"
  refine⟨w.room,rfl,ok.r0,by omega,fun H2 e2=>?_⟩
  walk_at "r"
  refine aK (ai.of (e2 _ _ hl)) rfl ?_
  walk_at "r"
  refine aK (ai.of (e2 _ _ hl)) rfl ?_
  walk_at "r"
  refine⟨w.other,rfl,ok.o0,by omega,fun H3 e3=>?_⟩
  walk_at "r"
  refine aK (ai.of (e3 _ _ (e2 _ _ hl))) rfl ?_
  walk_at "r"
  refine ao fun t H4 e4 ht _=>?_
  exact q t H4 (((e1.trans e2).trans e3).trans e4) ht
def pb(K:CJ):Sp:=fun vs H Q _=>∃(ws:List Way) (m:Int),vs=[.str (Txt.join "," (cc ws))]/\(∀w∈ws,w.Ok m)/\m<=12/\ws.length<=100/\∀t H',Ext H H'->cH H' t (ws.map Way.key)->Q (.ref t) H'
abbrev md:Stmt:=stq 39
theorem o7:FnScope ["text"] ["text"] (aE md):=⟨rfl,rfl,rfl,by decide +kernel,rfl,by decide +kernel,by decide +kernel⟩
theorem yo{P:Program}{w:World}{K:CJ}{mg:Str->Option Value}{base:Heap}(D:Dfn K mg "read_ways" md ["text"])(T:Blt mg)(C_read_way:Cal P w K mg base "read_way" 3 ["text"] (qc K)):Cal P w K mg base "read_ways" 4 ["text"] (pb K):=by
 have nd:=(o7).nd
 refine D.ok o7 (fun vs H Q E h=>?_) (fun X hX H vs Q E h=>?_)
 ·obtain⟨ws,m,rfl,_⟩:=h;rfl
 ·obtain⟨f,cdv,A,outer,s,H0,E0,rfl,hr⟩:=hX
  obtain⟨ws,m,rfl,ok,m12,few,q⟩:=h
  have hlen:=nk ok m12 few
  refine⟨_,(ak (aU (aJ ck (pv 0) aw (aC _)) (aq (az (aA ae))) aQ)
    (aq (az (bK (fw K) rfl T.tuple_ PyProof.Rows.boot_tuple (aa (cQ ["part"] [] (ef K (bx K PySem.F.plainAttrs_str PySem.F.slot_str_split PySem.F.type_str_split jr (pv 0) (aa aw ae))) (fun _=>(aP (i:=0) (show(["part"]:List Str).Nodup from by decide +kernel) rfl (Or.inl rfl) (Or.inr rfl))) (fun _=>cI) (fun _=>(ay C_read_way hr (aa (pv 0) ae)))) ae))))),?_⟩
  walk_at "r"
  refine j4 ?_
  walk_at "r"
  by_cases h0:ws=[]
  ·subst h0
   rw[DO (show Txt.join "," (cc [])=DB "" by decide +kernel)]
   refine au ?_
   walk_at "r"
   refine ao fun t H1 e1 ht _=>?_
   exact q t H1 e1 ⟨[],ht,rfl,fun j b k h=>by cases h⟩
  have hne:Txt.join "," (cc ws)≠DB "":=fun e=>by
   have h1:=qD ok h0
   rw[e]at h1
   cases ws with
   | nil=>exact h0 rfl
   | cons w r=>
    have h2:Txt.split (DB "") "," = [DB ""]:=by decide +kernel
    rw[h2]at h1
    have h3:(DB "")=(" ":Str)++cb w:=(List.cons.inj h1).1
    have h4:(DB "").length=((" ":Str)++cb w).length:=by rw[←h3]
    rw[Str.length_append]at h4
    have h5:(DB "").length=0:=rfl
    have h6:(DB " ").length=1:=rfl
    omega
  rw[DN hne]
  refine av ?_
  walk_at "r"
  refine⟨rfl,?_⟩
  walk_at "r"
  refine jw rfl (by omega) (aW fun l H1 e1 hl _=>?_)
  rw[qD ok h0]at hl
  refine dX (ai.of hl) ?_
  refine gm (xs:=(cc ws).map V.str) (fun i ys H'=>Ext H1 H'/\∃cs,ys=cs.map V.ref/\bg H' cs (ws.take i)) (aH (by rw[CN,CN];omega)) ⟨Ext.rfl' _,[],rfl,bg.nil _⟩ (fun i ys H' hi h=>⟨ai.of (h.1 _ _ hl),?_⟩) ?_ ?_
  ·obtain⟨_,cs,rfl,hc,_⟩:=h
   rw[CN,hc,DJ]
   exact Nat.min_le_left _ _
  ·rintro i x ys H' hx' ⟨e2,cs,rfl,al⟩
   rw[CP,CP]at hx'
   obtain⟨z,hz,rfl⟩:=Dc.mp hx'
   obtain⟨w,hw,rfl⟩:=Dc.mp hz
   walk_at "r"
   refine au ?_
   walk_at "r"
   refine⟨w,m,rfl,ok w (CY hw),m12,fun t H3 e3 ht=>⟨e2.trans e3,cs++[t],by rw[Dg];rfl,?_⟩⟩
   rw[List.take_add_one,hw]
   exact(al.ext e3).snoc ht
  ·rintro ys H' p ⟨e2,cs,rfl,al⟩ hp
   rw[CN,CN,Dt]at al
   walk_at "r"
   have al3:=al.ext (bq (o:=.lst (cs.map V.ref)) hp)
   refine fK (ai.of aY) (aW fun t H5 e5 ht _=>?_)
   exact q t H5 ((e1.trans (e2.trans (bq hp))).trans e5) ((al3.ext e5).ways ht)
def qf(K:CJ):Sp:=fun vs H Q _=>∃(m:Int) (ws:List Way),vs=[.str (fm m ws)]/\HOuse m ws/\∀v H',Ext H H'->bF H' v m ws->Q v H'
abbrev mK:Stmt:=stq 40
theorem uL:FnScope ["text","parts","house"] ["text"] (aE mK):=⟨rfl,rfl,rfl,by decide +kernel,rfl,by decide +kernel,by decide +kernel⟩
theorem Cj{P:Program}{w:World}{K:CJ}{mg:Str->Option Value}{base:Heap}(D:Dfn K mg "read_house" mK ["text"])(T:Blt mg)(C_is_house:Cal P w K mg base "is_house" 5 ["thing"] (ky K))(C_read_ways:Cal P w K mg base "read_ways" 4 ["text"] (pb K))(C_read_number:Cal P w K mg base "read_number" 2 ["word"] (ij K)):Cal P w K mg base "read_house" 6 ["text"] (qf K):=by
 have nd:=(uL).nd
 refine D.ok uL (fun vs H Q E h=>?_) (fun X hX H vs Q E h=>?_)
 ·obtain⟨m,ws,rfl,_⟩:=h;rfl
 ·obtain⟨f,cdv,A,outer,s,H0,E0,rfl,hr⟩:=hX
  obtain⟨m,ws,rfl,ok,q⟩:=h
  have m1:=ok.m1
  have m12:=ok.m12
  have hlen:=nk ok.ok m12 ok.few
  have hl1:(fm m ws).length<=3000:=by
   unfold fm
   rw[Str.length_append,Str.length_append]
   have h1:=Tx.cG (n:=m) (by omega) (by omega)
   have h2:(DB ":").length=1:=rfl
   have h3:(Txt.join "," (ws.map fun w=>(" ":Str)++cb w)).length<=2200:=hlen
   omega
  refine⟨_,(ak (aF (i:=1) nd rfl (Or.inl rfl) (bx K PySem.F.plainAttrs_str PySem.F.slot_str_split PySem.F.type_str_split jr (pv 0) (aa aw ae)))
    (ak (aU (aJ cw (aI (cu K) rfl T.len_ PySem.boot_len (aa (pv 1) ae)) af (aC _)) (aq fj) aQ)
    (ak (aF (i:=2) nd rfl (Or.inl rfl) (aA (aa (ay C_read_number hr (aa (ar (aL K) (pv 1) af (fun _ _=>rfl)) ae)) (aa (ay C_read_ways hr (aa (ar (aL K) (pv 1) af (fun _ _=>rfl)) ae)) ae))))
    (ak (aU (br (bp (ay C_is_house hr (aa (pv 2) ae)))) (aq fj) aQ)
    (aq (az (pv 2))))))),?_⟩
  walk_at "r"
  refine⟨rfl,?_⟩
  walk_at "r"
  refine jw rfl (by omega) (aW fun l H1 e1 hl _=>?_)
  rw[Bp m1 ok.ok]at hl
  walk_at "r"
  refine gN (ai.of hl) ?_
  walk_at "r"
  refine av ?_
  walk_at "r"
  refine aK (ai.of hl) rfl ?_
  walk_at "r"
  refine⟨m,rfl,by omega,by omega,fun H2 e2=>?_⟩
  walk_at "r"
  refine aK (ai.of (e2 _ _ hl)) rfl ?_
  walk_at "r"
  refine⟨ws,m,rfl,ok.ok,m12,ok.few,fun t H3 e3 ht=>?_⟩
  walk_at "r"
  refine ao fun u H4 e4 hu _=>?_
  have hv:bF H4 (.ref u) m ws:=bF.mk hu (ht.ext e4)
  walk_at "r"
  refine⟨_,rfl,(gq hv ok).1,fun H5 e5=>?_⟩
  rw[(gq hv ok).2]
  walk_at "r"
  refine av ?_
  walk_at "r"
  exact q _ H5 ((((e1.trans e2).trans e3).trans e4).trans e5) (hv.ext e5)
theorem lD{xs:List V}{a b:Nat}(hab:a<=b)(hn:b<=xs.length):bL xs (some (a:Int)) (some (b:Int))=(xs.drop a).take (b-a):=by
 unfold bL
 have e:HT.aD xs.length xs.length (some (b:Int))=b:=by
  show(if(b:Int)<0 then((b:Int)+(xs.length:Int)).toNat else min (b:Int).toNat xs.length)=b
  rw[DP (by omega)]
  omega
 have e2:HT.aD xs.length 0 (some (a:Int))=a:=by
  show(if(a:Int)<0 then((a:Int)+(xs.length:Int)).toNat else min (a:Int).toNat xs.length)=a
  rw[DP (by omega)]
  omega
 rw[e,e2]
theorem vk(xs:List V)(n:Nat):bL xs (some (n:Int)) none=xs.drop n:=by
 unfold bL
 rw[HT.rW,HT.mL]
 rcases Nat.le_total n xs.length with h | h
 ·rw[Nat.min_eq_left h,List.take_of_length_le (by rw[List.length_drop];exact Dj _)]
 ·rw[Nat.min_eq_right h,List.drop_of_length_le h,List.drop_of_length_le (Dj _),List.take_nil]
theorem hG{n:Int}(h:0<=n):Tx.aR n≠(":":Str):=fun e=>by
 have h1:58∈(Tx.aR n).cps.toList:=by rw[e];decide
 have:=Tx.il h h1
 omega
theorem uD{xs:List Int}(h:∀x∈xs,0<=x/\x<1000000):(aX xs).count (":":Str)=0:=by
 rw[List.count_eq_zero]
 intro hm
 obtain⟨x,hx,e⟩:=List.mem_map.mp hm
 exact hG (h x hx).1 e
theorem wZ{b s:Int}{o a:List Int}(g:Sml b s o a):(bB b s o a).count (":":Str)=2:=by
 unfold bB
 rw[List.count_append,List.count_append,List.count_append,List.count_append,uD g.o1,uD g.a1,List.count_cons_of_ne (hG g.b0),List.count_cons_of_ne (hG g.s0)]
 rfl
theorem A1{b s:Int}{o a:List Int}(g:Sml b s o a):Txt.split (Txt.join " " (bB b s o a)) " " = bB b s o a:=by
 show Txt.split (Txt.join ⟨#[32]⟩ (bB b s o a)) ⟨#[32]⟩=bB b s o a
 rw[Tx.gD]
 refine Tx.iY (fun e=>by have:=congrArg List.length e;rw[hV]at this;cases this) fun z hz=>?_
 unfold bB at hz
 simp only[Dm,De,Dw,or_false,List.mem_map]at hz
 rcases hz with((((rfl | rfl) | rfl) | ⟨x,hx,rfl⟩) | rfl) | ⟨x,hx,rfl⟩
 ·exact Tx.h7 g.b0 (by omega)
 ·exact Tx.h7 g.s0 (by omega)
 ·decide
 ·exact Tx.h7 (g.o1 x hx).1 (by omega)
 ·decide
 ·exact Tx.h7 (g.a1 x hx).1 (by omega)
theorem fb(b s:Int)(o a:List Int):bB b s o a=Tx.aR b::Tx.aR s::(":":Str)::(aX o++(":":Str)::aX a):=by
 unfold bB
 simp
theorem Bl{b s:Int}{o a:List Int}:((bB b s o a).drop 3).take o.length=aX o:=by
 rw[fb]
 show(aX o++(":":Str)::aX a).take o.length=aX o
 rw[show o.length=(aX o).length by rw[CN],List.take_left]
theorem Au{b s:Int}{o a:List Int}:(bB b s o a).drop (o.length+4)=aX a:=by
 rw[fb]
 show(aX o++(":":Str)::aX a).drop (o.length+1)=aX a
 rw[show o.length+1=(aX o).length+1 by rw[CN],←List.drop_drop,List.drop_left]
 rfl
def qy(K:CJ):Sp:=fun vs H Q _=>∃b s o a,vs=[.str (Txt.join " " (bB b s o a))]/\Sml b s o a/\Ok b s o a/\∀v H',Ext H H'->bE H' v b s o a->Q v H'
abbrev lV:Stmt:=stq 41
theorem oH:FnScope ["text","words","second","once","again","stair"] ["text"] (aE lV):=⟨rfl,rfl,rfl,by decide +kernel,rfl,by decide +kernel,by decide +kernel⟩
theorem Ay{P:Program}{w:World}{K:CJ}{mg:Str->Option Value}{base:Heap}(D:Dfn K mg "read_stair" lV ["text"])(T:Blt mg)(C_is_stair:Cal P w K mg base "is_stair" 4 ["thing"] (nz K))(C_read_number:Cal P w K mg base "read_number" 2 ["word"] (ij K))(C_read_row:Cal P w K mg base "read_row" 3 ["words"] (uv K)):Cal P w K mg base "read_stair" 5 ["text"] (qy K):=by
 have nd:=(oH).nd
 refine D.ok oH (fun vs H Q E h=>?_) (fun X hX H vs Q E h=>?_)
 ·obtain⟨b,s',o,a,rfl,_⟩:=h;rfl
 ·obtain⟨f,cdv,A,outer,s,H0,E0,rfl,hr⟩:=hX
  obtain⟨b,s',o,a,rfl,g,ok,q⟩:=h
  have ol:=g.ol
  have al:=g.al
  have hj:=nv 32 (kO g)
  rw[hV]at hj
  have hj':(Txt.join " " (bB b s' o a)).length<=200000:=by
   show(Txt.join ⟨#[32]⟩ (bB b s' o a)).length<=200000
   omega
  refine⟨_,(ak (aF (i:=1) nd rfl (Or.inl rfl) (bx K PySem.F.plainAttrs_str PySem.F.slot_str_split PySem.F.type_str_split jr (pv 0) (aa aw ae)))
    (ak (aU (PW.pt (bh (aJ cw (bx K CV PySem.F.slot_list_count PySem.F.type_list_count (wY K) (pv 1) (aa aw ae)) af (aC _)) (bR (aJ cw (bx K CV PySem.F.slot_list_index PySem.F.type_list_index (rZ K) (pv 1) (aa aw ae)) af (aC _))))) (aq fj) aQ)
    (ak (aF (i:=2) nd rfl (Or.inl rfl) (bx K CV PySem.F.slot_list_index PySem.F.type_list_index (rZ K) (pv 1) (aa aw (aa af ae))))
    (ak (aF (i:=3) nd rfl (Or.inl rfl) (ay C_read_row hr (aa (dP (iA K) (pv 1) (cE af) (cE (pv 2))) ae)))
    (ak (aF (i:=4) nd rfl (Or.inl rfl) (ay C_read_row hr (aa (dP (iA K) (pv 1) (cE (ah aG (pv 2) af)) fi) ae)))
    (ak (aF (i:=5) nd rfl (Or.inl rfl) (aA (aa (ay C_read_number hr (aa (ar (aL K) (pv 1) af (fun _ _=>rfl)) ae)) (aa (ay C_read_number hr (aa (ar (aL K) (pv 1) af (fun _ _=>rfl)) ae)) (aa (pv 3) (aa (pv 4) ae))))))
    (ak (aU (br (bp (ay C_is_stair hr (aa (pv 5) ae)))) (aq fj) aQ)
    (aq (az (pv 5)))))))))),?_⟩
  walk_at "r"
  refine⟨rfl,?_⟩
  walk_at "r"
  refine jw rfl (by omega) (aW fun l H1 e1 hl _=>?_)
  rw[A1 g]at hl
  have hlen:((bB b s' o a).map V.str).length=o.length+a.length+4:=by rw[CN,hV]
  walk_at "r"
  refine⟨.inl ⟨rfl,_,ai.of hl⟩,?_⟩
  walk_at "r"
  refine⟨l,_,_,rfl,rfl,ai.of hl,?_⟩
  rw[wZ g]
  walk_at "r"
  refine av ?_
  walk_at "r"
  refine⟨.inl ⟨rfl,_,ai.of hl⟩,?_⟩
  walk_at "r"
  refine⟨l,_,_,0,2,rfl,.inl ⟨rfl,rfl⟩,ai.of hl,by omega,by rw[fb];rfl,fun m _ hm e=>?_,?_⟩
  ·rw[fb]at e
   rcases(show m=0\/m=1 by omega)with rfl | rfl
   ·exact hG g.b0 (DC e)
   ·exact hG g.s0 (DC e)
  walk_at "r"
  refine av ?_
  walk_at "r"
  refine⟨.inl ⟨rfl,_,ai.of hl⟩,?_⟩
  walk_at "r"
  refine⟨l,_,_,3,o.length+3,rfl,.inr rfl,ai.of hl,by omega,?_,fun m h3 hm e=>?_,?_⟩
  ·rw[fb]
   show(aX o++(":":Str)::aX a)[o.length]?=some ":"
   rw[Dn (by rw[CN];exact Dj _),CN,Nat.sub_self]
   rfl
  ·rw[fb]at e
   obtain⟨k,rfl⟩:∃k,m=k+3:=⟨m-3,by omega⟩
   have e':(aX o++(":":Str)::aX a)[k]?=some ":":=e
   rw[Dp (by rw[CN];omega),CP]at e'
   obtain⟨x,hx,e2⟩:=Dc.mp e'
   exact hG (g.o1 x (CY hx)).1 e2
  walk_at "r"
  refine iJ (ai.of hl) (aW fun l2 H2 e2 hl2 _=>?_)
  have c1:bL ((bB b s' o a).map V.str) (some 3) (some ((o.length+3:Nat):Int))=(aX o).map V.str:=by
   refine(lD (a:=3) (b:=o.length+3) (by omega) (by omega)).trans ?_
   rw[←List.map_drop,←List.map_take,Nat.add_sub_cancel,Bl]
  rw[c1]at hl2
  walk_at "r"
  refine⟨l2,o,rfl,hl2,by omega,g.o1,fun t1 H3 e3 ht1=>?_⟩
  walk_at "r"
  refine iJ (ai.of (e3 _ _ (e2 _ _ hl))) (aW fun l3 H4 e4 hl3 _=>?_)
  have c2:bL ((bB b s' o a).map V.str) (some (((o.length+3:Nat):Int)+1)) none=(aX a).map V.str:=by
   refine(vk _ (o.length+4)).trans ?_
   rw[←List.map_drop,Au]
  rw[c2]at hl3
  walk_at "r"
  refine⟨l3,a,rfl,hl3,by omega,g.a1,fun t2 H5 e5 ht2=>?_⟩
  have e15:=(e2.trans e3).trans (e4.trans e5)
  walk_at "r"
  refine aK (ai.of (e15 _ _ hl)) (v:=.str (Tx.aR b)) (by rw[fb];exact dF (j:=0) rfl) ?_
  walk_at "r"
  refine⟨b,rfl,g.b0,g.b1,fun H6 e6=>?_⟩
  walk_at "r"
  refine aK (ai.of (e6 _ _ (e15 _ _ hl))) (v:=.str (Tx.aR s')) (by rw[fb];exact dF (j:=1) rfl) ?_
  walk_at "r"
  refine⟨s',rfl,g.s0,g.s1,fun H7 e7=>?_⟩
  walk_at "r"
  refine ao fun u H8 e8 hu _=>?_
  have e68:=(e6.trans e7).trans e8
  have hv:bE H8 (.ref u) b s' o a:=⟨u,t1,t2,rfl,hu,e68 _ _ (e5 _ _ (e4 _ _ ht1)),e68 _ _ ht2⟩
  walk_at "r"
  refine⟨_,rfl,hv.kn,?_⟩
  rw[hv.yes ok]
  walk_at "r"
  refine av ?_
  walk_at "r"
  exact q _ H8 ((e1.trans e15).trans e68) hv
theorem yh(w:Way):(" ":Str)++Tx.aR w.room++(" ":Str)++w.deed++(" ":Str)++Tx.aR w.other++(" ":Str)++w.sign=(" ":Str)++cb w:=by
 rw[mD]
 show(⟨#[32]⟩:Str)++Tx.aR w.room++(⟨#[32]⟩:Str)++w.deed++(⟨#[32]⟩:Str)++Tx.aR w.other++(⟨#[32]⟩:Str)++w.sign=(⟨#[]⟩:Str)++(⟨#[32]⟩:Str)++(Tx.aR w.room++(⟨#[32]⟩:Str)++(w.deed++(⟨#[32]⟩:Str)++(Tx.aR w.other++(⟨#[32]⟩:Str)++w.sign)))
 simp only[Str.append_assoc]
 exact(Str.empty_append _).symm
def u5(K:CJ):Sp:=fun vs H Q _=>∃v m ws,vs=[v]/\bF H v m ws/\HOuse m ws/\∀H',Ext H H'->Q (.str (fm m ws)) H'
abbrev nG:Stmt:=stq 58
theorem qg:FnScope ["_law_house_here","_law_words"] ["_law_house_here"] (aE nG):=⟨rfl,rfl,rfl,by decide +kernel,rfl,by decide +kernel,by decide +kernel⟩
theorem BN{P:Program}{w:World}{K:CJ}{mg:Str->Option Value}{base:Heap}(D:Dfn K mg "_law_house_text" nG ["_law_house_here"])(T:Blt mg):Cal P w K mg base "_law_house_text" 1 ["_law_house_here"] (u5 K):=by
 have nd:=(qg).nd
 refine D.ok qg (fun vs H Q E h=>?_) (fun X hX H vs Q E h=>?_)
 ·obtain⟨v,m,ws,rfl,_⟩:=h;rfl
 ·obtain⟨f,cdv,A,outer,s,H0,E0,rfl,hr⟩:=hX
  obtain⟨v,m,ws,rfl,hv,ok,q⟩:=h
  have m1:=ok.m1
  have m12:=ok.m12
  have hfew:=ok.few
  obtain⟨p,r,rfl,g1,g2⟩:=id hv
  obtain⟨bs,g3,al⟩:=cH.al g2
  refine⟨_,(ak (mY (i:=1) ["_law_room","_law_deed","_law_other","_law_sign"] [] nd rfl (Or.inl rfl) (dM K (ar (aO K) (pv 0) af (fun _ _=>rfl))) (fun _=>(iN (n:=4) K rfl (bX (aP (i:=0) (show(["_law_room","_law_deed","_law_other","_law_sign"]:List Str).Nodup from by decide +kernel) rfl (Or.inl rfl) (Or.inr rfl)) (bX (aP (i:=1) (show(["_law_room","_law_deed","_law_other","_law_sign"]:List Str).Nodup from by decide +kernel) rfl (Or.inl rfl) (Or.inr rfl)) (bX (aP (i:=2) (show(["_law_room","_law_deed","_law_other","_law_sign"]:List Str).Nodup from by decide +kernel) rfl (Or.inl rfl) (Or.inr rfl)) (bX (aP (i:=3) (show(["_law_room","_law_deed","_law_other","_law_sign"]:List Str).Nodup from by decide +kernel) rfl (Or.inl rfl) (Or.inr rfl)) ft)))))) (fun _=>cI) (fun _=>(ah du (ah du (ah du (ah du (ah du (ah du (ah du aw (bK dN rfl T.str_ PyProof.Rows.boot_str (aa (pv 0) ae))) aw) (pv 1)) aw) (bK dN rfl T.str_ PyProof.Rows.boot_str (aa (pv 2) ae))) aw) (pv 3))))
    (aq (az (ah du (ah du (bK dN rfl T.str_ PyProof.Rows.boot_str (aa (ar (aO K) (pv 0) af (fun _ _=>rfl)) ae)) aw) (bx K PySem.F.plainAttrs_str PySem.F.slot_str_join PySem.F.type_str_join (gM K) aw (aa (pv 1) ae)))))),?_⟩
  walk_at "r"
  refine aM (aj.of g1) (v:=.ref r) rfl ?_
  refine dH (aj.of g3) ?_
  refine eW (xs:=bs.map V.ref) (fun i ys H'=>H'=H/\ys=(cc (ws.take i)).map V.str) (eX (by rw[CN,al.1];omega)) ⟨rfl,rfl⟩ (fun i ys H' hi h=>⟨by rw[h.1];exact aj.of g3,?_⟩) ?_ ?_
  ·rw[h.2,CN,CN,DJ]
   exact Nat.min_le_left _ _
  ·rintro i x ys H' hx ⟨rfl,rfl⟩
   rw[CP]at hx
   obtain⟨b,hb,rfl⟩:=Dc.mp hx
   have hi:i<ws.length:=by rw[←al.1];exact(CW.mp hb).1
   have hw:ws[i]?=some ws[i]:=CO hi
   have okw:=ok.ok _ (CY hw)
   have hbw:=al.2 i b _ hb hw
   have r1:=okw.r1
   have o1:=okw.o1
   have l1:(DB (toString ws[i].room)).length<=6:=Tx.cG okw.r0 (by omega)
   have l2:(DB (toString ws[i].other)).length<=6:=Tx.cG okw.o0 (by omega)
   have l3:=nM okw.dd
   have l4:=mG okw.sg
   have l5:(DB " ").length=1:=rfl
   walk_at "r"
   refine gP (aj.of hbw) rfl ?_
   walk_at "r"
   refine au ?_
   walk_at "r"
   refine⟨_,rfl,dJ okw.r0 (by omega),?_⟩
   walk_at "r"
   refine⟨_,_,rfl,rfl,aH (by omega),?_⟩
   walk_at "r"
   refine⟨_,_,rfl,rfl,aH (by simp only[Str.length_append];omega),?_⟩
   walk_at "r"
   refine⟨_,_,rfl,rfl,aH (by simp only[Str.length_append];omega),?_⟩
   walk_at "r"
   refine⟨_,_,rfl,rfl,aH (by simp only[Str.length_append];omega),?_⟩
   walk_at "r"
   refine⟨_,rfl,dJ okw.o0 (by omega),?_⟩
   walk_at "r"
   refine⟨_,_,rfl,rfl,aH (by simp only[Str.length_append];omega),?_⟩
   walk_at "r"
   refine⟨_,_,rfl,rfl,aH (by simp only[Str.length_append];omega),?_⟩
   walk_at "r"
   refine⟨_,_,rfl,rfl,aH (by simp only[Str.length_append];omega),?_⟩
   refine⟨rfl,?_⟩
   have e:=yh ws[i]
   unfold Tx.aR at e
   rw[e]
   unfold cc
   rw[List.take_add_one,hw,Dg,Dg]
   rfl
  ·rintro ys H' l ⟨rfl,rfl⟩ hn
   rw[CN,al.1,Dt]
   have e3:Ext H' (upd H' l (.lst ((cc ws).map V.str))):=bq hn
   have hl3:upd H' l (.lst ((cc ws).map V.str)) l=some (.lst ((cc ws).map V.str)):=aY
   generalize upd H' l (.lst ((cc ws).map V.str))=H4 at e3 hl3 ⊢
   have lm:(DB (toString m)).length<=6:=Tx.cG (by omega) (by omega)
   have l1:(DB ":").length=1:=rfl
   have hj:=nk ok.ok m12 hfew
   walk_at "r"
   refine aM (aj.of (e3 _ _ g1)) rfl ?_
   walk_at "r"
   refine⟨_,rfl,dJ (by omega) (by omega),?_⟩
   walk_at "r"
   refine⟨_,_,rfl,rfl,aH (by omega),?_⟩
   walk_at "r"
   refine⟨rfl,?_⟩
   walk_at "r"
   refine⟨_,l,_,rfl,rfl,ai.of hl3,jV (c:=44) (k:=21) (fun z hz=>?_) (n:=100) (by rw[CN];exact hfew) (by decide),?_⟩
   ·obtain⟨w,hw,rfl⟩:=List.mem_map.mp hz
    exact lZ (ok.ok w hw) m12
   ·exact⟨_,_,rfl,rfl,aH (by simp only[Str.length_append];omega),q H4 e3⟩
def qQ(K:CJ):Sp:=fun vs H Q _=>∃v b s o a,vs=[v]/\bE H v b s o a/\Sml b s o a/\∀H',Ext H H'->Q (.str (Txt.join " " (bB b s o a))) H'
abbrev nF:Stmt:=stq 57
theorem o9:FnScope ["_law_stair","_law_words"] ["_law_stair"] (aE nF):=⟨rfl,rfl,rfl,by decide +kernel,rfl,by decide +kernel,by decide +kernel⟩
theorem Cq{P:Program}{w:World}{K:CJ}{mg:Str->Option Value}{base:Heap}(D:Dfn K mg "_law_stair_text" nF ["_law_stair"])(T:Blt mg):Cal P w K mg base "_law_stair_text" 1 ["_law_stair"] (qQ K):=by
 have nd:=(o9).nd
 refine D.ok o9 (fun vs H Q E h=>?_) (fun X hX H vs Q E h=>?_)
 ·obtain⟨v,b,s',o,a,rfl,_⟩:=h;rfl
 ·obtain⟨f,cdv,A,outer,s,H0,E0,rfl,hr⟩:=hX
  obtain⟨v,b,s',o,a,rfl,⟨p,r,r',rfl,h1,h2,h3⟩,g,q⟩:=h
  have ol:=g.ol
  have al:=g.al
  refine⟨_,(ak (aF (i:=1) nd rfl (Or.inl rfl) (ah cD (aZ (aa (bK dN rfl T.str_ PyProof.Rows.boot_str (aa (ar (aO K) (pv 0) af (fun _ _=>rfl)) ae)) (aa (bK dN rfl T.str_ PyProof.Rows.boot_str (aa (ar (aO K) (pv 0) af (fun _ _=>rfl)) ae)) (aa aw ae)))) (cQ ["_law_x"] [] (dM K (ar (aO K) (pv 0) af (fun _ _=>rfl))) (fun _=>(aP (i:=0) (show(["_law_x"]:List Str).Nodup from by decide +kernel) rfl (Or.inl rfl) (Or.inr rfl))) (fun _=>cI) (fun _=>(bK dN rfl T.str_ PyProof.Rows.boot_str (aa (pv 0) ae))))))
    (aq (az (bx K PySem.F.plainAttrs_str PySem.F.slot_str_join PySem.F.type_str_join (gM K) aw (aa (ah cD (ah cD (pv 1) (aZ (aa aw ae))) (cQ ["_law_x"] [] (dM K (ar (aO K) (pv 0) af (fun _ _=>rfl))) (fun _=>(aP (i:=0) (show(["_law_x"]:List Str).Nodup from by decide +kernel) rfl (Or.inl rfl) (Or.inr rfl))) (fun _=>cI) (fun _=>(bK dN rfl T.str_ PyProof.Rows.boot_str (aa (pv 0) ae))))) ae))))),?_⟩
  walk_at "r"
  refine aM (aj.of h1) rfl ?_
  walk_at "r"
  refine⟨_,rfl,dJ g.b0 g.b1,?_⟩
  walk_at "r"
  refine aM (aj.of h1) rfl ?_
  walk_at "r"
  refine⟨_,rfl,dJ g.s0 g.s1,?_⟩
  walk_at "r"
  refine ao fun l1 H1 e1 hl1 _=>?_
  walk_at "r"
  refine aM (aj.of (e1 _ _ h1)) (v:=.ref r) rfl ?_
  refine dH (aj.of (e1 _ _ h2)) ?_
  refine eW (xs:=o.map V.int) (fun i ys H'=>H'=H1/\ys=(aX (o.take i)).map V.str) (aH (by rw[CN];omega)) ⟨rfl,rfl⟩ (fun i ys H' hi h=>⟨by rw[h.1];exact aj.of (e1 _ _ h2),?_⟩) ?_ ?_
  ·rw[h.2,CN,CN,DJ]
   exact Nat.min_le_left _ _
  ·rintro i x ys H' hx' ⟨rfl,rfl⟩
   rw[CP]at hx'
   obtain⟨n,hn',rfl⟩:=Dc.mp hx'
   have h2:=g.o1 n (CY hn')
   walk_at "r"
   refine au ?_
   walk_at "r"
   refine⟨_,rfl,dJ h2.1 h2.2,rfl,?_⟩
   unfold aX
   rw[List.take_add_one,hn',Dg,Dg]
   rfl
  rintro ys H' l2 ⟨rfl,rfl⟩ hn2
  rw[CN,Dt]
  have e2:Ext H' (upd H' l2 (.lst ((aX o).map V.str))):=bq hn2
  have hl2:upd H' l2 (.lst ((aX o).map V.str)) l2=some (.lst ((aX o).map V.str)):=aY
  generalize upd H' l2 (.lst ((aX o).map V.str))=H2 at e2 hl2 ⊢
  refine cB (e2 _ _ hl1) hl2 (aH (by simp;omega)) (aW fun l3 H3 e3 hl3 _=>?_)
  have e13:=(e1.trans e2).trans e3
  walk_at "r"
  refine⟨rfl,?_⟩
  walk_at "r"
  refine ao fun l4 H4 e4 hl4 _=>?_
  refine cB (e4 _ _ hl3) hl4 (aH (by simp;omega)) (aW fun l5 H5 e5 hl5 _=>?_)
  have e15:=(e13.trans e4).trans e5
  walk_at "r"
  refine aM (aj.of (e15 _ _ h1)) (v:=.ref r') rfl ?_
  refine dH (aj.of (e15 _ _ h3)) ?_
  refine eW (xs:=a.map V.int) (fun i ys H'=>H'=H5/\ys=(aX (a.take i)).map V.str) (aH (by rw[CN];omega)) ⟨rfl,rfl⟩ (fun i ys H' hi h=>⟨by rw[h.1];exact aj.of (e15 _ _ h3),?_⟩) ?_ ?_
  ·rw[h.2,CN,CN,DJ]
   exact Nat.min_le_left _ _
  ·rintro i x ys H' hx' ⟨rfl,rfl⟩
   rw[CP]at hx'
   obtain⟨n,hn',rfl⟩:=Dc.mp hx'
   have h2:=g.a1 n (CY hn')
   walk_at "r"
   refine au ?_
   walk_at "r"
   refine⟨_,rfl,dJ h2.1 h2.2,rfl,?_⟩
   unfold aX
   rw[List.take_add_one,hn',Dg,Dg]
   rfl
  rintro ys H' l6 ⟨rfl,rfl⟩ hn6
  rw[CN,Dt]
  have e6:Ext H' (upd H' l6 (.lst ((aX a).map V.str))):=bq hn6
  have hl6:upd H' l6 (.lst ((aX a).map V.str)) l6=some (.lst ((aX a).map V.str)):=aY
  generalize upd H' l6 (.lst ((aX a).map V.str))=H6 at e6 hl6 ⊢
  refine cB (e6 _ _ hl5) hl6 (aH (by simp;omega)) (aW fun l7 H7 e7 hl7 _=>?_)
  walk_at "r"
  refine⟨_,l7,bB b s' o a,rfl,rfl,ai.of ?_,jV (c:=32) (kO g) (n:=20004) (by rw[hV];omega) (by decide),q H7 ((e15.trans e6).trans e7)⟩
  rw[hl7]
  unfold bB
  simp only[Dg]
  rfl
local macro_rules | `(tactic| walk_at "ra") => do
 let ts ← ("seq asg c name".splitOn " ").toArray.mapM fun n =>
  let i := Lean.mkIdent (.mkSimple ("rd_" ++ n))
  `(tacticSeq| with_reducible refine $i ?_)
 `(tactic| repeat (first $[| $ts]* | dsimp only))
theorem yk{α β:Type}{F:α->β->Prop}{cs:List α}{ts:List β}(h:Paired F cs ts):∀{i:Nat} {c:α},cs[i]?=some c->∃t,ts[i]?=some t/\F c t:=by
 induction h with
 | nil=>intro i c e;simp at e
 | cons h t ih=>
  intro i c e
  cases i with
  | zero=>cases e;exact⟨_,rfl,h⟩
  | succ i=>exact ih e
def oA(H:Hp)(v:V)(z:Str):Prop:=(bj H v/\z=DB "stair")\/(ri H v/\z=DB "great")\/((∃b s o a,bE H v b s o a/\Gd b s o a)/\z=DB "told")
def pM(K:CJ)(Dx:Addr)(z:Str):Prop:=(Dx=cA K "NoStair"/\z=DB "stair")\/(Dx=cA K "TooGreat"/\z=DB "great")
theorem wo{K:CJ}{mg:Str->Option Value}{base:Heap}(XF:Xf K mg base gC fT){Dx:Addr}{z:Str}(h:pM K Dx z):PySem.W.exmOne K (.ref Dx) (.ref (cA K "StairError"))=some true/\ExcK K Dx ∧
  ∃b1 b2:Bool,PySem.W.kitOne K (.ref Dx) (.ref (cA K "NoStair"))=some b1/\PySem.W.kitOne K (.ref Dx) (.ref (cA K "TooGreat"))=some b2/\(∀C∈(["NoHouse","NoPlace","NoText"]:List Str).map (cA K),PySem.W.kitOne K (.ref Dx) (.ref C)=some false) ∧
   ((b1=true/\b2=false/\z=DB "stair")\/(b1=false/\b2=true/\z=DB "great")):=by
 rcases h with⟨rfl,hz⟩ | ⟨rfl,hz⟩
 ·refine⟨XF.up "NoStair" (by decide +kernel),XF.exk "NoStair" (by decide +kernel),true,false,(XF.kc "NoStair" (by decide +kernel) "NoStair" (by decide +kernel)).trans (by decide +kernel),(XF.kc "NoStair" (by decide +kernel) "TooGreat" (by decide +kernel)).trans (by decide +kernel),fun C hC=>?_,.inl ⟨rfl,rfl,hz⟩⟩
  obtain⟨y,hy,rfl⟩:=List.mem_map.mp hC
  simp only[De,Dw,or_false]at hy
  rcases hy with rfl | rfl | rfl
  ·exact(XF.kc "NoStair" (by decide +kernel) "NoHouse" (by decide +kernel)).trans (by decide +kernel)
  ·exact(XF.kc "NoStair" (by decide +kernel) "NoPlace" (by decide +kernel)).trans (by decide +kernel)
  ·exact(XF.kc "NoStair" (by decide +kernel) "NoText" (by decide +kernel)).trans (by decide +kernel)
 ·refine⟨XF.up "TooGreat" (by decide +kernel),XF.exk "TooGreat" (by decide +kernel),false,true,(XF.kc "TooGreat" (by decide +kernel) "NoStair" (by decide +kernel)).trans (by decide +kernel),(XF.kc "TooGreat" (by decide +kernel) "TooGreat" (by decide +kernel)).trans (by decide +kernel),fun C hC=>?_,.inr ⟨rfl,rfl,hz⟩⟩
  obtain⟨y,hy,rfl⟩:=List.mem_map.mp hC
  simp only[De,Dw,or_false]at hy
  rcases hy with rfl | rfl | rfl
  ·exact(XF.kc "TooGreat" (by decide +kernel) "NoHouse" (by decide +kernel)).trans (by decide +kernel)
  ·exact(XF.kc "TooGreat" (by decide +kernel) "NoPlace" (by decide +kernel)).trans (by decide +kernel)
  ·exact(XF.kc "TooGreat" (by decide +kernel) "NoText" (by decide +kernel)).trans (by decide +kernel)
def jg(H:Hp)(c:Addr)(t:Str×Bool):Prop:=H c=some (.tup [.str t.1,.bl t.2])
def named(ts:List (Str×Bool))(i:Nat):List Str:=((ts.take i).filter (·.2)).map (·.1)
theorem wN{ts:List (Str×Bool)}{i:Nat}{t:Str×Bool}(h:ts[i]?=some t):named ts (i+1)=named ts i++if t.2=true then[t.1]else[]:=by
 unfold named
 rw[List.take_succ,h]
 simp only[Option.toList_some,List.filter_append,Dg]
 congr 1
 obtain⟨a,b⟩:=t
 cases b<;>rfl
theorem BI(ts:List (Str×Bool))(i:Nat):(named ts i).length<=i:=by
 unfold named
 rw[CN]
 exact Dv (List.length_filter_le _ _) (by rw[DJ];omega)
def m6(K:CJ):Sp:=fun vs H Q _=>∃v z,vs=[v]/\oA H v z/\∀H',Ext H H'->Q (.str z) H'
abbrev kr:Stmt:=stq 59
theorem sY:FnScope ["_law_stair","_law_word","e","_law_kinds"] ["_law_stair"] (aE kr):=⟨rfl,rfl,rfl,by decide +kernel,rfl,by decide +kernel,by decide +kernel⟩
theorem Cg{P:Program}{w:World}{K:CJ}{mg:Str->Option Value}{base:Heap}(D:Dfn K mg "_law_refusal" kr ["_law_stair"])(T:Blt mg)(XF:Xf K mg base gC fT)(CX_shown_stair:CalX P w K mg base "shown_stair" 7 ["stair"] (jv K)):Cal P w K mg base "_law_refusal" 8 ["_law_stair"] (m6 K):=by
 have nd:=(sY).nd
 refine D.ok sY (fun vs H Q E h=>?_) (fun X hX H vs Q E h=>?_)
 ·obtain⟨v,z,rfl,_⟩:=h;rfl
 ·obtain⟨f,cdv,A,outer,s,H0,E0,rfl,hr⟩:=hX
  obtain⟨v,z,rfl,hw,q⟩:=h
  refine⟨_,(ak (aF (i:=1) nd rfl (Or.inl rfl) aw)
    (ak (zB (i:=2) rfl rfl nd rfl rfl rfl (XF.cl "StairError" (by decide +kernel)) rfl (by decide) (yP (zZ CX_shown_stair hr (aa (pv 0) ae)) AX) (fun x oe Dx da hK hc hal hdd=>(ak (aF (i:=3) nd rfl (Or.inl rfl) (aZ (aa (aA (aa aw (aa (aI (ki hK hc) rfl T.isinstance_ PyProof.Rows.boot_isinstance (aa (pv 2) (aa (df (v:=.ref (cA K "NoStair")) rfl (XF.cl "NoStair" (by decide +kernel)) rfl) ae))) ae))) (aa (aA (aa aw (aa (aI (ki hK hc) rfl T.isinstance_ PyProof.Rows.boot_isinstance (aa (pv 2) (aa (df (v:=.ref (cA K "TooGreat")) rfl (XF.cl "TooGreat" (by decide +kernel)) rfl) ae))) ae))) ae))))
    (ak (aF (i:=3) nd rfl (Or.inl rfl) (ah cD (pv 3) (aZ (aa (aA (aa aw (aa (aI (ki hK hc) rfl T.isinstance_ PyProof.Rows.boot_isinstance (aa (pv 2) (aa (aA (aa (df (v:=.ref (cA K "NoHouse")) rfl (XF.cl "NoHouse" (by decide +kernel)) rfl) (aa (df (v:=.ref (cA K "NoPlace")) rfl (XF.cl "NoPlace" (by decide +kernel)) rfl) (aa (df (v:=.ref (cA K "NoText")) rfl (XF.cl "NoText" (by decide +kernel)) rfl) ae)))) ae))) ae))) ae))))
    (aq (aF (i:=1) nd rfl (Or.inl rfl) (bx K PySem.F.plainAttrs_str PySem.F.slot_str_join PySem.F.type_str_join (gM K) aw (aa (wa K ["_law_name","_law_here"] [] hal (pv 3) (fun _ hh=>(xy (n:=2) K hh (bX (aP (i:=0) (show(["_law_name","_law_here"]:List Str).Nodup from by decide +kernel) rfl (Or.inl rfl) (Or.inr rfl)) (bX (aP (i:=1) (show(["_law_name","_law_here"]:List Str).Nodup from by decide +kernel) rfl (Or.inl rfl) (Or.inr rfl)) ft)))) (fun _=>(lE (bp (pv 1)))) (fun _=>(pv 0))) ae))))))))
    (aq (az (pv 1))))),?_⟩
  walk_at "ra"
  refine yI (fun Dx σ1 H1=>Ext H H1/\pM K Dx z/\σ1=[some v,some (.str (DB "told")),none,none]) (fun E9 hE=>?_) ?_
  ·walk_at "r"
   refine⟨v,rfl,?_⟩
   rcases hw with⟨h1,hz⟩ | ⟨h1,hz⟩ | ⟨⟨b,s',o,a,h1,h2⟩,hz⟩
   ·exact .inr (.inl ⟨h1,hE _ _ _ ⟨Ext.rfl' _,.inl ⟨rfl,hz⟩,rfl⟩⟩)
   ·exact .inr (.inr ⟨h1,hE _ _ _ ⟨Ext.rfl' _,.inr ⟨rfl,hz⟩,rfl⟩⟩)
   ·refine .inl ⟨b,s',o,a,h1,h2,fun H' e'=>?_⟩
    walk_at "r"
    rw[hz]at q
    exact q H' e'
  ·rintro σ1 Dx H1 ⟨eH1,hd,rfl⟩
   obtain⟨u1,u2,b1,b2,k1,k2,ko,hb⟩:=wo XF hd
   refine⟨u1,u2,fun x hx=>?_⟩
   walk_at "r"
   refine qo k1 ?_
   walk_at "r"
   refine ao fun c1 H2 e2 hc1 _=>?_
   walk_at "r"
   refine qo k2 ?_
   walk_at "r"
   refine ao fun c2 H3 e3 hc2 _=>?_
   walk_at "r"
   refine ao fun l1 H4 e4 hl1 _=>?_
   walk_at "r"
   refine ao fun ta H5 e5 hta _=>?_
   walk_at "r"
   refine BP (Cs:=(["NoHouse","NoPlace","NoText"]:List Str).map (cA K)) hta (qY ko) ?_
   walk_at "r"
   refine ao fun c3 H6 e6 hc3 _=>?_
   walk_at "r"
   refine ao fun l2 H7 e7 hl2 _=>?_
   walk_at "r"
   have e47:Ext H4 H7:=e5.trans (e6.trans e7)
   refine cB (e47 _ _ hl1) hl2 (aH (by simp)) (aW fun l3 H8 e8 hl3 _=>?_)
   have q1:jg H8 c1 (DB "stair",b1):=(e3.trans (e4.trans (e47.trans e8))) _ _ hc1
   have q2:jg H8 c2 (DB "great",b2):=(e4.trans (e47.trans e8)) _ _ hc2
   have q3:jg H8 c3 (DB "other",false):=(e7.trans e8) _ _ hc3
   have pk:Paired (jg H8) [c1,c2,c3] [(DB "stair",b1),(DB "great",b2),(DB "other",false)]:=.cons q1 (.cons q2 (.cons q3 .nil))
   have hl3:H8 l3=some (.lst (List.map V.ref [c1,c2,c3])):=hl3
   have e18:Ext H1 H8:=e2.trans (e3.trans (e4.trans (e47.trans e8)))
   clear e2 e3 e4 e5 e6 e7 e8 e47 hc1 hc2 hc3 hl1 hl2 hta q1 q2 q3
   walk_at "r"
   refine⟨rfl,?_⟩
   walk_at "r"
   refine dX (ai.of hl3) ?_
   refine gm (xs:=List.map V.ref [c1,c2,c3]) (fun i ys H'=>H'=H8/\ys=List.map V.str (named [(DB "stair",b1),(DB "great",b2),(DB "other",false)] i)) (aH (by simp)) ⟨rfl,rfl⟩ (fun i ys H' hi h=>⟨by rw[h.1];exact ai.of hl3,by rw[h.2,CN];exact BI _ _⟩) ?_ ?_
   ·rintro i u ys H' hu ⟨rfl,rfl⟩
    rw[CP]at hu
    obtain⟨c,hc,rfl⟩:=Dc.mp hu
    obtain⟨t,ht,hk⟩:=yk pk hc
    rw[wN ht]
    obtain⟨nm,b⟩:=t
    refine gP (aj.of hk) rfl ?_
    walk_at "r"
    cases b with
    | true=>
     refine au ?_
     walk_at "r"
     exact⟨rfl,by rw[Dg];rfl⟩
    | false=>
     refine av ?_
     exact⟨rfl,by simp⟩
   ·rintro ys H' l4 ⟨rfl,rfl⟩ hl4
    walk_at "r"
    rcases hb with⟨rfl,rfl,rfl⟩ | ⟨rfl,rfl,rfl⟩
    ·refine⟨_,l4,[DB "stair"],rfl,rfl,ai.of aY,by decide +kernel,?_⟩
     rw[show Txt.join (DB " ") [DB "stair"]=DB "stair" by decide +kernel]
     walk_at "r"
     exact q _ (eH1.trans (e18.trans (bq hl4)))
    ·refine⟨_,l4,[DB "great"],rfl,rfl,ai.of aY,by decide +kernel,?_⟩
     rw[show Txt.join (DB " ") [DB "great"]=DB "great" by decide +kernel]
     walk_at "r"
     exact q _ (eH1.trans (e18.trans (bq hl4)))
def fQ:Nat->Str
 | 0=>"up"
 | 1=>"down"
 | 2=>"stay"
 | _=>"zero"
theorem BX(k:Nat):cJ (fQ k):=by
 unfold fQ
 split
 ·exact .inl rfl
 ·exact .inr (.inl rfl)
 ·exact .inr (.inr (.inl rfl))
 ·exact .inr (.inr (.inr rfl))
theorem Bq:∀i j:Fin 4,fQ i.1=fQ j.1->i=j:=by decide +kernel
def wk(m f:Int)(k:Nat):Way:=⟨(0+(k:Int)) / 4 % m,fQ (k % 4),((0+(k:Int)) / 4+f) % m,⟨#[97+k / 4]⟩⟩
theorem ze{m f:Int}(hm:1<=m){k:Nat}(hk:k<100):(wk m f k).Ok m:=
 ⟨Int.emod_nonneg _ (by omega),Int.emod_lt_of_pos _ (by omega),Int.emod_nonneg _ (by omega),Int.emod_lt_of_pos _ (by omega),BX _,_,by omega,by omega,rfl⟩
theorem BJ{m f:Int}{a b:Nat}(h:wk m f a=wk m f b):a=b:=by
 unfold wk at h
 simp only[Way.mk.injEq]at h
 obtain⟨_,h2,_,h4⟩:=h
 have e2:=Bq ⟨a % 4,by omega⟩ ⟨b % 4,by omega⟩ h2
 have e2:a % 4=b % 4:=congrArg Fin.val e2
 have e4:97+a / 4=97+b / 4:=by
  have:=congrArg (fun z:Str=>z.cps[0]?) h4
  simpa using this
 omega
theorem xZ(k:Nat):bQ [V.str (DB "up"),V.str (DB "down"),V.str (DB "stay"),V.str (DB "zero")] ((0+(k:Int)) % 4)=some (.str (fQ (k % 4))):=by
 have e:(0+(k:Int)) % 4=((k % 4:Nat):Int):=by omega
 rw[e]
 have:k % 4=0\/k % 4=1\/k % 4=2\/k % 4=3:=by omega
 rcases this with h | h | h | h<;>rw[h]<;>rfl
theorem yF:(DB "abcdefghijklmnopqrstuvwxyz").cps.toList=List.range' 97 26:=by decide +kernel
theorem xq{k:Nat}(hk:k<100):bQ (DB "abcdefghijklmnopqrstuvwxyz").cps.toList ((0+(k:Int)) / 4)=some (97+k / 4):=by
 have e:(0+(k:Int)) / 4=((k / 4:Nat):Int):=by omega
 rw[yF,e]
 refine dF ?_
 rw[List.getElem?_range' (by omega)]
 congr 1
 omega
theorem A0(m f:Int):((DM 100).map (wk m f)).Nodup:=by
 unfold List.Nodup
 rw[List.pairwise_map]
 exact List.nodup_range.imp fun ne e=>ne (BJ e)
theorem w9{m f:Int}(h1:1<=m)(h2:m<=12):HOuse m ((DM 100).map (wk m f)) where
 m1:=h1
 m12:=h2
 few:=by rw[CN,List.length_range];decide
 ok:=fun w hw=>by
  obtain⟨k,hk,rfl⟩:=List.mem_map.mp hw
  exact ze h1 (List.mem_range.mp hk)
 nd:=A0 m f
def pI(K:CJ):Sp:=fun vs H Q _=>∃m f:Int,vs=[.int m,.int f]/\1<=m/\m<=12/\∀(v:V) H' (ws:List Way),Ext H H'->bF H' v m ws->HOuse m ws->Q v H'
abbrev ny:Stmt:=stq 60
theorem o6:FnScope ["_law_many","_law_first","_law_found","_law_k","_law_deed"] ["_law_many","_law_first"] (aE ny):=⟨rfl,rfl,rfl,by decide +kernel,rfl,by decide +kernel,by decide +kernel⟩
theorem wK{P:Program}{w:World}{K:CJ}{mg:Str->Option Value}{base:Heap}(D:Dfn K mg "_law_many_ways" ny ["_law_many","_law_first"])(T:Blt mg):Cal P w K mg base "_law_many_ways" 1 ["_law_many","_law_first"] (pI K):=by
 have nd:=(o6).nd
 refine D.ok o6 (fun vs H Q E h=>?_) (fun X hX H vs Q E h=>?_)
 ·obtain⟨m,f,rfl,_⟩:=h;rfl
 ·obtain⟨f,cdv,A,outer,s,H0,E0,rfl,hr⟩:=hX
  obtain⟨m,f,rfl,m1,m12,q⟩:=h
  refine⟨_,(ak (aF (i:=2) nd rfl (Or.inl rfl) (aZ ae))
    (ak (cR PassesOwn.never rfl (eA rfl T.range_ (aa af ae)) (aP (i:=3) nd rfl (Or.inl rfl)) (ak (aF (i:=4) nd rfl (Or.inl rfl) (ar (aL K) (aZ (aa aw (aa aw (aa aw (aa aw ae))))) (ah bz (pv 3) af) (fun _ _=>rfl)))
    (aq (bZ (bx K CV Dk Dl cy (pv 2) (aa (aA (aa (ah bz (ah fC (pv 3) af) (pv 0)) (aa (pv 4) (aa (ah bz (ah aG (ah fC (pv 3) af) (pv 1)) (pv 0)) (aa (ar kg aw (ah fC (pv 3) af) (fun _ _=>rfl)) ae))))) ae))))))
    (aq (az (aA (aa (pv 0) (aa (bK (fw K) rfl T.tuple_ PyProof.Rows.boot_tuple (aa (pv 2) ae)) ae))))))),?_⟩
  walk_at "r"
  refine ao fun l H1 e1 hl hln=>?_
  walk_at "r"
  refine eG (by decide) ?_
  refine forR (fun i σ H3=>∃(k d:Option V),σ=[some (.int m),some (.int f),some (.ref l),k,d]/\WL H H3 l ((DM i).map (wk m f))) ⟨none,none,rfl,WL.nil e1 hl⟩ ?_ ?_
  ·rintro i σ H3 hi ⟨k,d,rfl,wl⟩
   have hi:i<100:=hi
   walk_at "r"
   refine ao fun dl H4 e4 hdl _=>?_
   walk_at "r"
   refine aK (ai.of hdl) (xZ i) ?_
   walk_at "r"
   refine⟨wl.ty e4,?_⟩
   walk_at "r"
   try refine rd_I (show(0:Int)<m by omega) ?_
   walk_at "r"
   try refine rd_I (show(0:Int)<m by omega) ?_
   walk_at "r"
   refine⟨_,_,_,rfl,rfl,eX (by decide +kernel),xq hi,?_⟩
   walk_at "r"
   refine ao fun v H5 e5 hv _=>?_
   walk_at "r"
   obtain⟨xs,hx,hlx,wl'⟩:=wl.push (w:=wk m f i) hln (e4.trans e5) hv
   refine cv hx (Nat.lt_of_le_of_lt (show xs.length<=10000 by rw[hlx,CN,List.length_range];omega) (by decide)) ?_
   walk_at "r"
   refine⟨_,_,rfl,?_⟩
   rw[List.range_succ,Dg]
   exact wl'
  ·rintro σ H3 ⟨k,d,rfl,wl⟩
   obtain⟨e3,bs,hbs,hal⟩:=wl
   have hal:bg H3 bs ((DM 100).map (wk m f)):=hal
   walk_at "r"
   refine fK (ai.of hbs) (aW fun t H6 e6 ht _=>?_)
   walk_at "r"
   refine ao fun u H7 e7 hu _=>?_
   exact q _ H7 _ ((e3.trans e6).trans e7) (bF.mk hu (((hal.ext e6).ways ht).ext e7)) (w9 m1 m12)
def rV:List Int:=[8,13,3001,8,841]++DF 24 2++DF 8 3001
theorem yR{a b c i:Int}(h0:0<=i)(h1:i<=2){lo hi:Int}(ha:lo<=a/\a<=hi)(hb:lo<=b/\b<=hi)(hc:lo<=c/\c<=hi):∃x:Int,bQ [V.int a,V.int b,V.int c] i=some (.int x)/\lo<=x/\x<=hi:=by
 have:i=0\/i=1\/i=2:=by omega
 rcases this with rfl | rfl | rfl
 ·exact⟨a,rfl,ha⟩
 ·exact⟨b,rfl,hb⟩
 ·exact⟨c,rfl,hc⟩
theorem xk{a b i:Int}(h0:0<=i)(h1:i<8)(ha:1<=a/\a<=840)(hb:1<=b/\b<=840):∃x:Int,bQ [V.int 1,V.int 1,V.int 2,V.int 3,V.int 4,V.int 6,V.int a,V.int b] i=some (.int x)/\1<=x/\x<=840:=by
 have:i=0\/i=1\/i=2\/i=3\/i=4\/i=5\/i=6\/i=7:=by omega
 rcases this with rfl | rfl | rfl | rfl | rfl | rfl | rfl | rfl
 ·exact⟨1,rfl,by decide,by decide⟩
 ·exact⟨1,rfl,by decide,by decide⟩
 ·exact⟨2,rfl,by decide,by decide⟩
 ·exact⟨3,rfl,by decide,by decide⟩
 ·exact⟨4,rfl,by decide,by decide⟩
 ·exact⟨6,rfl,by decide,by decide⟩
 ·exact⟨a,rfl,ha⟩
 ·exact⟨b,rfl,hb⟩
theorem oM{lo hi:Int}{ms D:List Int}(hp:ms.Perm D)(hn:D.Nodup)(hs:ms.Pairwise fun a b:Int=>a<=b)(hb:∀z∈D,lo<=z/\z<hi):cM lo hi ms:=by
 refine⟨?_,fun z hz=>hb z (hp.mem_iff.mp hz)⟩
 have h1:ms.Nodup:=hp.nodup_iff.mpr hn
 exact(hs.and h1).imp fun⟨a,b⟩=>by omega
theorem zi{P Q:Prop}(h1:P->Q)(h2:P):Q:=h1 h2
def tP(K:CJ):Sp:=fun vs H Q _=>∃c p,vs=[.int c,.int p]/\0<p/\∀v b s o a H',Ext H H'->bE H' v b s o a->Gd b s o a->o.length<=63->a.length<=63->Q v H'
abbrev mw:Stmt:=stq 56
theorem qJ:FnScope ["_law_cell_here","_law_prime","_law_draws_here","_law_base","_law_step","_law_once","_law_again"] ["_law_cell_here","_law_prime"] (aE mw):=⟨rfl,rfl,rfl,by decide +kernel,rfl,by decide +kernel,by decide +kernel⟩
theorem AU{P:Program}{w:World}{K:CJ}{mg:Str->Option Value}{base:Heap}(D:Dfn K mg "_law_drawn_stair" mw ["_law_cell_here","_law_prime"])(T:Blt mg)(C__law_draws:Cal P w K mg base "_law_draws" 2 ["_law_cell_here","_law_widths","_law_prime"] (eZ K)):Cal P w K mg base "_law_drawn_stair" 3 ["_law_cell_here","_law_prime"] (tP K):=by
 have nd:=(qJ).nd
 refine D.ok qJ (fun vs H Q E h=>?_) (fun X hX H vs Q E h=>?_)
 ·obtain⟨c,p,rfl,_⟩:=h;rfl
 ·obtain⟨f,cdv,A,outer,s,H0,E0,rfl,hr⟩:=hX
  obtain⟨c,p,rfl,hp,q⟩:=h
  refine⟨_,(@ak _ _ _ _ _ (@aF _ _ 2 _ _ _ _ nd rfl (Or.inr rfl) (ay C__law_draws hr (@aa _ _ _ _ _ (pv 0) (@aa _ _ _ _ _ (ah cD (ah cD (@aZ _ _ _ _ (gQ (.c (.c (.c (.c (.c .n))))))) (ah lQ (@aZ _ _ _ _ (@aa _ _ _ _ _ af ae rfl)) af)) (ah lQ (@aZ _ _ _ _ (@aa _ _ _ _ _ af ae rfl)) af)) (@aa _ _ _ _ _ (pv 1) ae rfl) rfl) rfl)) rfl (Or.inl rfl))
    (@ak _ _ _ _ _ (@aF _ _ 3 _ _ _ _ nd rfl (Or.inr rfl) (@ar _ _ _ _ _ _ _ (aL K) (@aZ _ _ _ _ (@aa _ _ _ _ _ (@ar _ _ _ _ _ _ _ (aL K) (pv 2) af (fun _ _=>rfl)) (@aa _ _ _ _ _ (@ar _ _ _ _ _ _ _ (aL K) (pv 2) af (fun _ _=>rfl)) (@aa _ _ _ _ _ af ae rfl) rfl) rfl)) (ah aG (bK ud rfl T.int_ PyProof.Rows.boot_int (@aa _ _ _ _ _ (dA dU (@ar _ _ _ _ _ _ _ (aL K) (pv 2) af (fun _ _=>rfl)) af (aC _)) ae rfl)) (bK ud rfl T.int_ PyProof.Rows.boot_int (@aa _ _ _ _ _ (cZ (dA ck (@ar _ _ _ _ _ _ _ (aL K) (pv 2) af (fun _ _=>rfl)) af (aC _)) (dv (dA ck (@ar _ _ _ _ _ _ _ (aL K) (pv 2) af (fun _ _=>rfl)) af (aC _)))) ae rfl))) (fun _ _=>rfl)) rfl (Or.inl rfl))
    (@ak _ _ _ _ _ (@aF _ _ 4 _ _ _ _ nd rfl (Or.inr rfl) (@ar _ _ _ _ _ _ _ (aL K) (@aZ _ _ _ _ (@aa _ _ _ _ _ af (@aa _ _ _ _ _ af (@aa _ _ _ _ _ af (@aa _ _ _ _ _ af (@aa _ _ _ _ _ af (@aa _ _ _ _ _ af (@aa _ _ _ _ _ (ah aG af (ah bz (@ar _ _ _ _ _ _ _ (aL K) (pv 2) af (fun _ _=>rfl)) af)) (@aa _ _ _ _ _ (ah aG af (ah bz (@ar _ _ _ _ _ _ _ (aL K) (pv 2) af (fun _ _=>rfl)) af)) ae rfl) rfl) rfl) rfl) rfl) rfl) rfl) rfl)) (@ar _ _ _ _ _ _ _ (aL K) (pv 2) af (fun _ _=>rfl)) (fun _ _=>rfl)) rfl (Or.inl rfl))
    (@ak _ _ _ _ _ (mY (i:=5) ["_law_x"] [2] nd rfl (Or.inl rfl) (eA rfl T.range_ (@aa _ _ _ _ _ (aI (mz rfl) rfl T.min_ PyProof.Rows.boot_min (@aa _ _ _ _ _ (pv 3) (@aa _ _ _ _ _ af ae rfl) rfl)) ae rfl)) (fun _=>(aP (i:=0) (show(["_law_x","_law_draws_here"]:List Str).Nodup from by decide +kernel) rfl (Or.inl rfl) (Or.inr rfl))) (fun _=>(lE (aJ ck (@ar _ _ _ _ _ _ _ (aL K) (pv 1) (ah aG af (pv 0)) (fun _ _=>rfl)) af (aC _)))) (fun _=>(pv 0)))
    (@ak _ _ _ _ _ (mY (i:=6) ["_law_x"] [3,2] nd rfl (Or.inl rfl) (eA rfl T.range_ (@aa _ _ _ _ _ (aI (mz rfl) rfl T.min_ PyProof.Rows.boot_min (@aa _ _ _ _ _ (pv 4) (@aa _ _ _ _ _ af ae rfl) rfl)) ae rfl)) (fun _=>(aP (i:=0) (show(["_law_x","_law_base","_law_draws_here"]:List Str).Nodup from by decide +kernel) rfl (Or.inl rfl) (Or.inr rfl))) (fun _=>(lE (aJ ck (@ar _ _ _ _ _ _ _ (aL K) (pv 2) (ah aG af (pv 0)) (fun _ _=>rfl)) af (aC _)))) (fun _=>(ah aG (pv 1) (pv 0))))
    (@ak _ _ _ _ _ (eI (aJ dU (pv 3) af (aC _)) (@aq _ _ _ (@aF _ _ 5 _ _ _ _ nd rfl (Or.inl rfl) (ah cD (pv 5) (cQ ["_law_far"] [3] (ef K (dP (iA K) (pv 2) (cE af) (cE af))) (fun _=>(aP (i:=0) (show(["_law_far","_law_base"]:List Str).Nodup from by decide +kernel) rfl (Or.inl rfl) (Or.inr rfl))) (fun _=>cI) (fun _=>(ah aG af (ah bz (pv 0) (ah cO (pv 1) af)))))) rfl (Or.inl rfl))) aQ)
    (@ak _ _ _ _ _ (eI (aJ dU (pv 4) af (aC _)) (@aq _ _ _ (@aF _ _ 6 _ _ _ _ nd rfl (Or.inl rfl) (ah cD (pv 6) (cQ ["_law_far"] [3,4] (ef K (dP (iA K) (pv 2) (cE af) (cE af))) (fun _=>(aP (i:=0) (show(["_law_far","_law_base","_law_step"]:List Str).Nodup from by decide +kernel) rfl (Or.inl rfl) (Or.inr rfl))) (fun _=>cI) (fun _=>(ah aG (ah aG (pv 1) af) (ah bz (pv 0) (ah cO (pv 2) af)))))) rfl (Or.inl rfl))) aQ)
    (@aq _ _ _ (@az _ _ _ _ (@aA _ _ _ _ _ (@aa _ _ _ _ _ (pv 3) (@aa _ _ _ _ _ (pv 4) (@aa _ _ _ _ _ (bK (fw K) rfl T.tuple_ PyProof.Rows.boot_tuple (@aa _ _ _ _ _ (aI (Ti.call_sortJ hr) rfl T.sorted_ PyProof.Rows.boot_sorted (@aa _ _ _ _ _ (bK (Ti.call_setJ hr) rfl T.set_ PyProof.Rows.boot_set (@aa _ _ _ _ _ (pv 5) ae rfl)) ae rfl)) ae rfl)) (@aa _ _ _ _ _ (bK (fw K) rfl T.tuple_ PyProof.Rows.boot_tuple (@aa _ _ _ _ _ (aI (Ti.call_sortJ hr) rfl T.sorted_ PyProof.Rows.boot_sorted (@aa _ _ _ _ _ (bK (Ti.call_setJ hr) rfl T.set_ PyProof.Rows.boot_set (@aa _ _ _ _ _ (pv 6) ae rfl)) ae rfl)) ae rfl)) ae rfl) rfl) rfl) rfl))))))))))),?_⟩
  walk_at "r"
  refine ao fun w0 G1 f1 hw0 _=>?_
  walk_at "r"
  refine ao fun w1 G2 f2 hw1 _=>?_
  walk_at "r"
  refine lX hw1 (by omega) (aH (by decide)) (aW fun w2 G3 f3 hw2 _=>?_)
  walk_at "r"
  refine cB (f3 _ _ (f2 _ _ hw0)) hw2 (aH (by decide)) (aW fun w3 G4 f4 hw3 _=>?_)
  walk_at "r"
  refine ao fun w4 G5 f5 hw4 _=>?_
  walk_at "r"
  refine lX hw4 (by omega) (aH (by decide)) (aW fun w5 G6 f6 hw5 _=>?_)
  walk_at "r"
  refine cB (f6 _ _ (f5 _ _ hw3)) hw5 (aH (by decide)) (aW fun w6 G7 f7 hw6 _=>?_)
  walk_at "r"
  refine gG rV hw6 (by decide +kernel) (by decide +kernel) (hp) fun dq ds H1 e1 hd hdn hl hb=>?_
  have eH:Ext H H1:=f1.trans (f2.trans (f3.trans (f4.trans (f5.trans (f6.trans (f7.trans e1))))))
  clear f1 f2 f3 f4 f5 f6 f7 e1 hw0 hw1 hw2 hw3 hw4 hw5 hw6
  have hl':ds.length=37:=hl
  have at_:∀(i:Nat) (x:Int),rV[i]?=some x->∃d,ds[i]?=some d/\0<=d/\d<x:=fun i x hx=>by
   have hi:i<ds.length:=by
    rw[hl]
    exact(CW.mp hx).1
   exact⟨ds[i],CO hi,hb i _ x (CO hi) hx⟩
  obtain⟨d0,g0,b00,b01⟩:=at_ 0 8 rfl
  obtain⟨d1,g1,b10,b11⟩:=at_ 1 13 rfl
  obtain⟨d2,g2,b20,b21⟩:=at_ 2 3001 rfl
  obtain⟨d3,g3,b30,b31⟩:=at_ 3 8 rfl
  obtain⟨d4,g4,b40,b41⟩:=at_ 4 841 rfl
  have pick:∀{i:Nat} {d:Int},ds[i]?=some d->bQ (ds.map V.int) (i:Int)=some (.int d):=fun{i d} h=>dF (by rw[CP,h];rfl)
  walk_at "r"
  refine aK (ai.of hd) (pick (i:=1) g1) ?_
  walk_at "r"
  refine aK (ai.of hd) (pick (i:=2) g2) ?_
  walk_at "r"
  refine ao fun mq H2 e2 hmq _=>?_
  have hd2:=e2 _ _ hd
  walk_at "r"
  refine aK (ai.of hd2) (pick (i:=0) g0) ?_
  walk_at "r"
  refine aK (ai.of hd2) (pick (i:=0) g0) ?_
  walk_at "r"
  refine' zi (P:=∀i:Int,0<=i->i<=2->jt K (V.ref mq) (.int i) H2 _) (fun key=>?_) ?_
  rotate_left
  ·have hz:(0:Int)<=(if decide (5<d0)=true then 1 else 0)/\(if decide (5<d0)=true then 1 else 0)<=(1:Int):=by split<;>omega
   refine cT (fun h=>?_) (fun h=>?_)
   ·walk_at "r"
    refine aK (ai.of hd2) (pick (i:=3) g3) ?_
    walk_at "r"
    refine key _ ?_ ?_<;>split<;>omega
   ·walk_at "r"
    refine key _ ?_ ?_
    ·simp;omega
    ·simp;omega
  intro i i0 i2
  obtain⟨base,hbs,b0,b3⟩:=yR i0 i2 (lo:=0) (hi:=3000) (a:=d1) (b:=d2) (c:=3000) (by omega) (by omega) (by omega)
  refine aK (ai.of hmq) hbs ?_
  walk_at "r"
  refine aK (ai.of hd2) (pick (i:=4) g4) ?_
  walk_at "r"
  refine aK (ai.of hd2) (pick (i:=4) g4) ?_
  walk_at "r"
  refine ao fun sq H3 e3 hsq _=>?_
  have hd3:=e3 _ _ hd2
  have eH3:=eH.trans (e2.trans e3)
  walk_at "r"
  refine aK (ai.of hd3) (pick (i:=3) g3) ?_
  obtain⟨step,hst,s1,s8⟩:=xk b30 b31 (a:=1+d4 % 24) (b:=1+d4 % 840) (by omega) (by omega)
  refine aK (ai.of hsq) hst ?_
  clear hsq hmq hst hbs e2 e3 b00 b01 b10 b11 b20 b21 b30 b31 b40 b41 g0 g1 g2 g3 g4 i0 i2 hd2 hd hdn
  have two:∀j:Nat,j<37->∃d,ds[j]?=some d:=fun j hj=>⟨ds[j]'(by omega),CO (by omega)⟩
  walk_at "r"
  refine eG (by split<;>omega) ?_
  have hN:(if(12:Int)<base then(12:Int)else base).toNat<=12/\((if(12:Int)<base then(12:Int)else base).toNat:Int)<=base:=by split<;>omega
  generalize (if(12:Int)<base then(12:Int)else base).toNat=N at hN ⊢
  refine qU (fun i ys H'=>H'=H3/\∃xs:List Int,ys=xs.map V.int/\xs.length<=i/\∀x∈xs,0<=x/\x<base) (aH (by omega)) ⟨rfl,[],rfl,Dj _,fun x h=>(nomatch h)⟩ (fun i ys H' hi h=>?_) ?_ ?_
  ·obtain⟨_,xs,rfl,h2,_⟩:=h
   rw[CN]
   exact h2
  ·rintro i ys H' hi ⟨rfl,xs,rfl,hxl,hx⟩
   obtain⟨d,hd⟩:=two (5+i) (by omega)
   walk_at "r"
   refine aK (ai.of hd3) (v:=.int d) (by rw[show (5+(0+(i:Int)))=((5+i:Nat):Int) by omega];exact pick hd) ?_
   walk_at "r"
   refine cT (fun h=>?_) (fun h=>?_)
   ·walk_at "r"
    refine⟨rfl,xs++[0+(i:Int)],by rw[Dg];rfl,by rw[Dh];exact Nat.add_le_add_right hxl 1,fun x hx'=>?_⟩
    rcases Dm.mp hx' with hx' | hx'
    ·exact hx x hx'
    ·rw[CZ.mp hx'];omega
   ·exact⟨rfl,xs,rfl,by omega,hx⟩
  rintro ys H' l1 ⟨rfl,xs,rfl,hxl,hx⟩ hn1
  have e4:Ext H' (upd H' l1 (.lst (xs.map V.int))):=bq hn1
  have hl1:upd H' l1 (.lst (xs.map V.int)) l1=some (.lst (xs.map V.int)):=aY
  generalize upd H' l1 (.lst (xs.map V.int))=H4 at e4 hl1 ⊢
  have hd4:=e4 _ _ hd3
  walk_at "r"
  refine eG (by split<;>omega) ?_
  have hM:(if(12:Int)<step then(12:Int)else step).toNat<=12/\((if(12:Int)<step then(12:Int)else step).toNat:Int)<=step:=by split<;>omega
  generalize (if(12:Int)<step then(12:Int)else step).toNat=M at hM ⊢
  refine qU (fun i ys H'=>H'=H4/\∃zs:List Int,ys=zs.map V.int/\zs.length<=i/\∀x∈zs,base<=x/\x<base+step) (aH (by omega)) ⟨rfl,[],rfl,Dj _,fun x h=>(nomatch h)⟩ (fun i ys H' hi h=>?_) ?_ ?_
  ·obtain⟨_,zs,rfl,h2,_⟩:=h
   rw[CN]
   exact h2
  ·rintro i ys H' hi ⟨rfl,zs,rfl,hzl,hz⟩
   obtain⟨d,hd⟩:=two (17+i) (by omega)
   walk_at "r"
   refine aK (ai.of hd4) (v:=.int d) (by rw[show (17+(0+(i:Int)))=((17+i:Nat):Int) by omega];exact pick hd) ?_
   walk_at "r"
   refine cT (fun h=>?_) (fun h=>?_)
   ·walk_at "r"
    refine⟨rfl,zs++[base+(0+(i:Int))],by rw[Dg];rfl,by rw[Dh];exact Nat.add_le_add_right hzl 1,fun x hx'=>?_⟩
    rcases Dm.mp hx' with hx' | hx'
    ·exact hz x hx'
    ·rw[CZ.mp hx'];omega
   ·exact⟨rfl,zs,rfl,by omega,hz⟩
  rintro ys H'' l2 ⟨rfl,zs,rfl,hzl,hz⟩ hn2
  have e5:Ext H'' (upd H'' l2 (.lst (zs.map V.int))):=bq hn2
  have hl2:upd H'' l2 (.lst (zs.map V.int)) l2=some (.lst (zs.map V.int)):=aY
  have hl1:=e5 _ _ hl1
  have hd5:=e5 _ _ hd4
  have eH5:=eH3.trans (e4.trans e5)
  generalize upd H'' l2 (.lst (zs.map V.int))=H5 at e5 hl2 hl1 hd5 eH5 ⊢
  clear e4 e5 hd3 hd4 eH3 hn1 hn2 eH
  walk_at "r"
  refine fH (fun σ' H6=>Ext H5 H6/\∃(l3:Addr) (us:List Int),H6 l3=some (.lst (us.map V.int))/\us.length<=16/\(∀x∈us,0<=x/\x<base)/\σ'=[some (.int c),some (.int p),some (.ref dq),some (.int base),some (.int step),some (.ref l3),some (.ref l2)]) ?_ ?_
  ·walk_at "r"
   refine cT (fun h=>?_) (fun h=>?_)
   ·walk_at "r"
    have h:=of_decide_eq_true h
    refine iJ (ai.of hd5) (aW fun l4 H6 e6 hl4 _=>?_)
    have c1:bL (ds.map V.int) (some 29) (some 33)=((ds.drop 29).take 4).map V.int:=by
     refine(lD (a:=29) (b:=33) (by omega) (by rw[CN];omega)).trans ?_
     rw[←List.map_drop,←List.map_take]
    rw[c1]at hl4
    refine dX (ai.of hl4) ?_
    refine gm (xs:=((ds.drop 29).take 4).map V.int) (fun i ys H'=>H'=H6/\∃us:List Int,ys=us.map V.int/\us.length=i/\∀x∈us,0<=x/\x<base) (aH (by rw[CN,DJ];omega)) ⟨rfl,[],rfl,rfl,fun x h=>(nomatch h)⟩ (fun i ys H' hi h=>⟨by rw[h.1];exact ai.of hl4,?_⟩) ?_ ?_
    ·obtain⟨_,us,rfl,h2,_⟩:=h
     rw[CN]
     omega
    ·rintro i v ys H' hv ⟨rfl,us,rfl,hul,hu⟩
     rw[CP]at hv
     obtain⟨f,hf,rfl⟩:=Dc.mp hv
     walk_at "r"
     refine au ?_
     walk_at "r"
     try refine rd_I (show(0:Int)<base-12 by omega) ?_
     walk_at "r"
     have r0:0<=f % (base-12):=Int.emod_nonneg _ (by omega)
     have r1:f % (base-12)<base-12:=Int.emod_lt_of_pos _ (by omega)
     refine⟨rfl,us++[12+f % (base-12)],by rw[Dg];rfl,by rw[Dh,hul];rfl,fun x hx'=>?_⟩
     rcases Dm.mp hx' with hx' | hx'
     ·exact hu x hx'
     ·rw[CZ.mp hx'];omega
    ·rintro ys H' l5 ⟨rfl,us,rfl,hul,hu⟩ hn5
     have e7:=e6.trans (bq (o:=.lst (us.map V.int)) hn5)
     have hl5:upd H' l5 (.lst (us.map V.int)) l5=some (.lst (us.map V.int)):=aY
     generalize upd H' l5 (.lst (us.map V.int))=H7 at e7 hl5 ⊢
     rw[CN,DJ]at hul
     refine cB (e7 _ _ hl1) hl5 (aH (by rw[CN,CN];omega)) (aW fun l6 H8 e8 hl6 _=>?_)
     walk_at "r"
     refine⟨e7.trans e8,l6,xs++us,by rw[hl6,Dg],by rw[Dh];omega,fun x hx'=>?_,rfl⟩
     rcases Dm.mp hx' with hx' | hx'
     ·exact hx x hx'
     ·exact hu x hx'
   ·walk_at "r"
    exact⟨Ext.rfl' _,l1,xs,hl1,by omega,hx,rfl⟩
  rintro σ' H6 ⟨e6,l3,us,hl3,hul,hu,rfl⟩
  have hl2:=e6 _ _ hl2
  have hd6:=e6 _ _ hd5
  have eH6:=eH5.trans e6
  clear e6 hl1 hx hxl eH5 hd5 hN
  walk_at "r"
  refine fH (fun σ' H7=>Ext H6 H7/\∃(l4:Addr) (ts:List Int),H7 l4=some (.lst (ts.map V.int))/\ts.length<=16/\(∀x∈ts,base<=x/\x<base+step)/\σ'=[some (.int c),some (.int p),some (.ref dq),some (.int base),some (.int step),some (.ref l3),some (.ref l4)]) ?_ ?_
  ·walk_at "r"
   refine cT (fun h=>?_) (fun h=>?_)
   ·walk_at "r"
    have h:=of_decide_eq_true h
    refine iJ (ai.of hd6) (aW fun l4 H7 e7 hl4 _=>?_)
    have c1:bL (ds.map V.int) (some 33) (some 37)=((ds.drop 33).take 4).map V.int:=by
     refine(lD (a:=33) (b:=37) (by omega) (by rw[CN];omega)).trans ?_
     rw[←List.map_drop,←List.map_take]
    rw[c1]at hl4
    refine dX (ai.of hl4) ?_
    refine gm (xs:=((ds.drop 33).take 4).map V.int) (fun i ys H'=>H'=H7/\∃ts:List Int,ys=ts.map V.int/\ts.length=i/\∀x∈ts,base<=x/\x<base+step) (aH (by rw[CN,DJ];omega)) ⟨rfl,[],rfl,rfl,fun x h=>(nomatch h)⟩ (fun i ys H' hi h=>⟨by rw[h.1];exact ai.of hl4,?_⟩) ?_ ?_
    ·obtain⟨_,ts,rfl,h2,_⟩:=h
     rw[CN]
     omega
    ·rintro i v ys H' hv ⟨rfl,ts,rfl,htl,ht⟩
     rw[CP]at hv
     obtain⟨f,hf,rfl⟩:=Dc.mp hv
     walk_at "r"
     refine au ?_
     walk_at "r"
     try refine rd_I (show(0:Int)<step-12 by omega) ?_
     walk_at "r"
     have r0:0<=f % (step-12):=Int.emod_nonneg _ (by omega)
     have r1:f % (step-12)<step-12:=Int.emod_lt_of_pos _ (by omega)
     refine⟨rfl,ts++[base+12+f % (step-12)],by rw[Dg];rfl,by rw[Dh,htl];rfl,fun x hx'=>?_⟩
     rcases Dm.mp hx' with hx' | hx'
     ·exact ht x hx'
     ·rw[CZ.mp hx'];omega
    ·rintro ys H' l5 ⟨rfl,ts,rfl,htl,ht⟩ hn5
     have e8:=e7.trans (bq (o:=.lst (ts.map V.int)) hn5)
     have hl5:upd H' l5 (.lst (ts.map V.int)) l5=some (.lst (ts.map V.int)):=aY
     generalize upd H' l5 (.lst (ts.map V.int))=H8 at e8 hl5 ⊢
     rw[CN,DJ]at htl
     refine cB (e8 _ _ hl2) hl5 (aH (by rw[CN,CN];omega)) (aW fun l6 H9 e9 hl6 _=>?_)
     walk_at "r"
     refine⟨e8.trans e9,l6,zs++ts,by rw[hl6,Dg],by rw[Dh];omega,fun x hx'=>?_,rfl⟩
     rcases Dm.mp hx' with hx' | hx'
     ·exact hz x hx'
     ·exact ht x hx'
   ·walk_at "r"
    exact⟨Ext.rfl' _,l2,zs,hl2,by omega,hz,rfl⟩
  rintro σ' H7 ⟨e7,l4,ts,hl4,htl,ht,rfl⟩
  have hl3:=e7 _ _ hl3
  have eH7:=eH6.trans e7
  clear e7 hl2 hz hzl eH6 hd6 hM
  walk_at "r"
  refine⟨l3,_,rfl,hl3,by omega,fun sl D hsl hnd hD=>?_⟩
  have hDl:=fG hnd fun k hk=>(hD k).mp hk
  have e8:=eH7.trans (bq (o:=Ti.setIO P w sl D) hsl)
  have hl4:=bq (o:=Ti.setIO P w sl D) hsl _ _ hl4
  have hsl3:(upd H7 sl (Ti.setIO P w sl D)) sl=some (Ti.setIO P w sl D):=aY
  walk_at "r"
  show Ti.rSortJ P w [.ref sl] (upd H7 sl (Ti.setIO P w sl D)) _
  generalize upd H7 sl (Ti.setIO P w sl D)=H8 at e8 hsl3 hl4 ⊢
  refine⟨sl,D,rfl,hsl3,by omega,fun st ms hst hpm hso=>?_⟩
  have r1:=oM hpm hnd hso fun z hz=>hu z ((hD z).mp hz)
  have hml:ms.length<=16:=by rw[hpm.length_eq];omega
  clear hpm hnd hso hD hDl hu hul hsl hsl3
  have e9:=e8.trans (bq (o:=.lst (List.map V.int ms)) hst)
  have hl4:=bq (o:=.lst (List.map V.int ms)) hst _ _ hl4
  have hst4:(upd H8 st (.lst (List.map V.int ms))) st=some (.lst (List.map V.int ms)):=aY
  generalize upd H8 st (.lst (List.map V.int ms))=H9 at e9 hst4 hl4 ⊢
  walk_at "r"
  refine fK (ai.of hst4) (aW fun t1 H10 e10 ht1 _=>?_)
  have hl4:=e10 _ _ hl4
  have eH10:=e9.trans e10
  clear e8 e9 e10 hst hst4
  walk_at "r"
  refine⟨l4,_,rfl,hl4,by omega,fun sl D hsl hnd hD=>?_⟩
  have hDl:=fG hnd fun k hk=>(hD k).mp hk
  have e11:=eH10.trans (bq (o:=Ti.setIO P w sl D) hsl)
  have ht1:=bq (o:=Ti.setIO P w sl D) hsl _ _ ht1
  have hsl3:(upd H10 sl (Ti.setIO P w sl D)) sl=some (Ti.setIO P w sl D):=aY
  walk_at "r"
  show Ti.rSortJ P w [.ref sl] (upd H10 sl (Ti.setIO P w sl D)) _
  generalize upd H10 sl (Ti.setIO P w sl D)=H11 at e11 hsl3 ht1 ⊢
  refine⟨sl,D,rfl,hsl3,by omega,fun st ns hst hpm hso=>?_⟩
  have r2:=oM hpm hnd hso fun z hz=>ht z ((hD z).mp hz)
  have hnl:ns.length<=16:=by rw[hpm.length_eq];omega
  clear hpm hnd hso hD hDl ht htl hsl hsl3
  have e12:=e11.trans (bq (o:=.lst (List.map V.int ns)) hst)
  have ht1:=bq (o:=.lst (List.map V.int ns)) hst _ _ ht1
  have hst4:(upd H11 st (.lst (List.map V.int ns))) st=some (.lst (List.map V.int ns)):=aY
  generalize upd H11 st (.lst (List.map V.int ns))=H12 at e12 hst4 ht1 ⊢
  walk_at "r"
  refine fK (ai.of hst4) (aW fun t2 H13 e13 ht2 _=>?_)
  walk_at "r"
  refine ao fun u H14 e14 hu _=>?_
  exact q _ base step ms ns H14 ((e12.trans e13).trans e14) ⟨u,t1,t2,rfl,hu,e14 _ _ (e13 _ _ ht1),e14 _ _ ht2⟩ ⟨⟨b0,s1,r1,r2⟩,b3,s8⟩ (by omega) (by omega)
theorem qN{H:Hp}{lo hi:Int}{v:V}(h:aV H lo hi v=true):∃q xs,v=.ref q/\H q=some (.tup (List.map V.int xs))/\cM lo hi xs:=by
 cases v with
 | ref q=>
  cases e:H q with
  | none=>simp only[aV,e]at h;cases h
  | some o=>
   cases o with
   | tup ys=>
    rw[dG e]at h
    cases hall:(ys.map isInt).all id with
    | false=>rw[mS hall]at h;cases h
    | true=>
     obtain⟨ns,rfl⟩:=all_ints hall
     exact⟨q,ns,rfl,e,gh.mp h⟩
   | _=>simp only[aV,e]at h;cases h
 | _=>cases h
theorem BL{H:Hp}{u:Addr}{b s:Int}{r1 r2:V}(hu:H u=some (.tup [.int b,.int s,r1,r2]))(h1:Rw H r1)(h2:Rw H r2)(b3:b<=3000)(s8:s<=840):
  Th H (.ref u)/\oA H (.ref u) (if b9 H (.ref u)=true then DB "told" else DB "stair"):=by
 have th:Th H (.ref u):=jE hu fun x hx=>by
  simp only[De,Dw,or_false]at hx
  rcases hx with rfl | rfl | rfl | rfl
  ·exact bu _
  ·exact bu _
  ·exact h1
  ·exact h2
 refine⟨th,?_⟩
 cases hs:b9 H (.ref u)with
 | false=>exact .inl ⟨⟨th.kn,hs⟩,rfl⟩
 | true=>
  refine .inr (.inr ⟨?_,rfl⟩)
  rw[fk hu]at hs
  have hs':(decide (0<=b) && decide (1<=s) && aV H 0 b r1 && aV H b (b+s) r2)=true:=hs
  simp only[DA,decide_eq_true_eq]at hs'
  obtain⟨⟨⟨g1,g2⟩,g3⟩,g4⟩:=hs'
  obtain⟨q1,o,rfl,k1,k2⟩:=qN g3
  obtain⟨q2,a,rfl,k3,k4⟩:=qN g4
  exact⟨b,s,o,a,⟨u,q1,q2,rfl,hu,k1,k3⟩,⟨g1,g2,k2,k4⟩,b3,s8⟩
def iV:V->Prop
 | .int _=>True
 | .bl _=>True
 | .non=>True
 | .str _=>True
 | _=>False
theorem Ae{H:Hp}{v:V}(h:iV v):Kd H v:=by
 cases v with
 | int i=>exact⟨"int",rfl⟩
 | bl i=>exact⟨"bool",rfl⟩
 | non=>exact⟨"NoneType",rfl⟩
 | str i=>exact⟨"str",rfl⟩
 | _=>exact False.elim h
theorem qz{H:Hp}{p:Addr}{xs:List Int}{one:V}{k:Nat}(h:H p=some (.tup (bL (xs.map V.int) none (some (k:Int))++[one]++bL (xs.map V.int) (some (k:Int)) none)))(hl:xs.length<=63)(ho:iV one):Rw H (.ref p):=by
 have g1:=iB (xs.map V.int) none (some (k:Int))
 have g2:=iB (xs.map V.int) (some (k:Int)) none
 rw[CN]at g1 g2
 refine gW h (by simp only[Dh,Ds,List.length_nil];omega) fun x hx=>?_
 rcases Dm.mp hx with hx | hx
 ·rcases Dm.mp hx with hx | hx
  ·exact gn x (List.mem_of_mem_drop (List.mem_of_mem_take hx))
  ·rw[CZ.mp hx];exact Ae ho
 ·exact gn x (List.mem_of_mem_drop (List.mem_of_mem_take hx))
theorem uE{H:Hp}{p:Addr}{xs:List Int}(h:H p=some (.tup (xs.map V.int)))(hl:xs.length<=63):Rw H (.ref p):=gW h (by rw[CN];omega) gn
def oV(K:CJ):Sp:=fun vs H Q _=>∃v f b s o a,vs=[v,.int f]/\bE H v b s o a/\Gd b s o a/\o.length<=63/\a.length<=63/\0<=f/\f<100000/\∀H',Ext H H'->Q (.bl true) H'
abbrev lO:Stmt:=stq 61
theorem rH:FnScope ["_law_stair","_law_far","_law_base","_law_step","_law_once","_law_again","_law_p","_law_q","_law_picked","_law_one","_law_thing"] ["_law_stair","_law_far"] (aE lO):=⟨rfl,rfl,rfl,by decide +kernel,rfl,by decide +kernel,by decide +kernel⟩
theorem wL{P:Program}{w:World}{K:CJ}{mg:Str->Option Value}{base:Heap}(D:Dfn K mg "_law_one_more" lO ["_law_stair","_law_far"])(T:Blt mg)(C__law_refusal:Cal P w K mg base "_law_refusal" 8 ["_law_stair"] (m6 K))(C__law_is_stair:Cal P w K mg base "_law_is_stair" 3 ["_law_found"] (lP K)):Cal P w K mg base "_law_one_more" 9 ["_law_stair","_law_far"] (oV K):=by
 have nd:=(rH).nd
 refine D.ok rH (fun vs H Q E h=>?_) (fun X hX H vs Q E h=>?_)
 ·obtain⟨v,f,b,s',o,a,rfl,_⟩:=h;rfl
 ·obtain⟨f,cdv,A,outer,s,H0,E0,rfl,hr⟩:=hX
  obtain⟨v,f,b,s',o,a,rfl,⟨u,r,r',rfl,h1,h2,h3⟩,g,ol,al,f0,f1,q⟩:=h
  have b3:=g.b3
  have s8:=g.s8
  refine⟨_,(ak (jq (pv 0) (iN (n:=4) K rfl (bX (aP (i:=2) nd rfl (Or.inl rfl)) (bX (aP (i:=3) nd rfl (Or.inl rfl)) (bX (aP (i:=4) nd rfl (Or.inl rfl)) (bX (aP (i:=5) nd rfl (Or.inl rfl)) ft))))))
    (ak (nu (i:=6) (j:=7) rfl nd rfl rfl (by decide) rfl rfl (aa (ah bz (pv 1) (ah aG (aI (cu K) rfl T.len_ PySem.boot_len (aa (pv 4) ae)) af)) (aa (ah bz (ah fC (pv 1) af) (ah aG (aI (cu K) rfl T.len_ PySem.boot_len (aa (pv 5) ae)) af)) ae)) rfl)
    (ak (aF (i:=8) nd rfl (Or.inl rfl) (ar (aO K) (ah fL (ah fL (pv 4) (pv 5)) (aA (aa af ae))) (ah bz (ah fC (pv 1) af) (ah aG (ah aG (pv 6) (pv 7)) af)) (fun _ _=>rfl)))
    (ak (cR PassesOwn.never rfl (ef K (aZ (aa (jF jP af) (aa (pv 2) (aa (ah aG (pv 2) (pv 3)) (aa (ah cO (pv 2) af) (aa bA (aa i4 (aa aw (aa (pv 8) ae)))))))))) (aP (i:=9) nd rfl (Or.inl rfl)) (aq (cR PassesOwn.never rfl (ef K (aZ (aa (aA (aa (ah fL (ah fL (dP gY (pv 4) fi (cE (pv 6))) (aA (aa (pv 9) ae))) (dP gY (pv 4) (cE (pv 6)) fi)) (aa (pv 5) ae))) (aa (aA (aa (pv 4) (aa (ah fL (ah fL (dP gY (pv 5) fi (cE (pv 7))) (aA (aa (pv 9) ae))) (dP gY (pv 5) (cE (pv 7)) fi)) ae))) ae)))) (aP (i:=10) nd rfl (Or.inl rfl)) (ak (aF (i:=10) nd rfl (Or.inl rfl) (ah fL (aA (aa (pv 2) (aa (pv 3) ae))) (pv 10)))
    (aq (aU (aJ ck (dA ck (ay C__law_refusal hr (aa (pv 10) ae)) aw (aC _)) (ay C__law_is_stair hr (aa (pv 10) ae)) (aC _)) (aq (az bA)) aQ))))))
    (aq (az bA)))))),?_⟩
  walk_at "r"
  refine gP (aj.of h1) rfl ?_
  walk_at "r"
  refine dn (aj.of h2) ?_
  walk_at "r"
  refine dn (aj.of h3) ?_
  walk_at "r"
  obtain⟨pn,hp,hpl⟩:∃pn:Nat,f % (((o.map V.int).length:Nat)+1:Int)=pn/\pn<=o.length:=by
   rw[CN]
   have h0:0<=f % ((o.length:Int)+1):=Int.emod_nonneg _ (by omega)
   have h1:f % ((o.length:Int)+1)<(o.length:Int)+1:=Int.emod_lt_of_pos _ (by omega)
   exact⟨(f % ((o.length:Int)+1)).toNat,by omega,by omega⟩
  obtain⟨qn,hq,hql⟩:∃qn:Nat,f / 7 % (((a.map V.int).length:Nat)+1:Int)=qn/\qn<=a.length:=by
   rw[CN]
   have h0:0<=f / 7 % ((a.length:Int)+1):=Int.emod_nonneg _ (by omega)
   have h1:f / 7 % ((a.length:Int)+1)<(a.length:Int)+1:=Int.emod_lt_of_pos _ (by omega)
   exact⟨(f / 7 % ((a.length:Int)+1)).toNat,by omega,by omega⟩
  rw[hp,hq]
  walk_at "r"
  refine fu h2 h3 (aH (by rw[CN,CN];omega)) fun t1 H1 e1 ht1=>?_
  walk_at "r"
  refine ao fun t2 H2 e2 ht2 _=>?_
  refine fu (e2 _ _ ht1) ht2 (aH (by rw[Dh,CN,CN];simp;omega)) fun t3 H3 e3 ht3=>?_
  walk_at "r"
  try refine rd_I (show(0:Int)<(pn:Int)+qn+1 by omega) ?_
  obtain⟨x,hx⟩:∃x:Int,bQ (o.map V.int++a.map V.int++[V.int 0]) (f / 3 % ((pn:Int)+qn+1))=some (.int x):=by
   have h0:0<=f / 3 % ((pn:Int)+qn+1):=Int.emod_nonneg _ (by omega)
   have h1:f / 3 % ((pn:Int)+qn+1)<(pn:Int)+qn+1:=Int.emod_lt_of_pos _ (by omega)
   obtain⟨k,hk⟩:=Int.eq_ofNat_of_zero_le h0
   have e:o.map V.int++a.map V.int++[V.int 0]=(o++a++[0]).map V.int:=by simp
   rw[hk,e]
   have hl:k<(o++a++[0]).length:=by simp;omega
   exact⟨(o++a++[0])[k],dF (by rw[CP,CO hl];rfl)⟩
  refine aM (aj.of ht3) hx ?_
  have e13:=(e1.trans e2).trans e3
  have h1:=e13 _ _ h1
  have h2:=e13 _ _ h2
  have h3:=e13 _ _ h3
  clear e1 e2 e3 ht1 ht2 ht3 hx hp hq
  walk_at "r"
  refine ao fun l8 H4 e4 hl8 _=>?_
  have e14:=e13.trans e4
  refine dX (ai.of hl8) ?_
  refine forL (xs:=[V.int (-1),V.int b,V.int (b+s'),V.int (b-1),V.bl true,V.non,V.str (DB "1"),V.int x]) (fun i σ H'=>Ext H4 H'/\∃k1 k2:Option V,σ=[some (.ref u),some (.int f),some (.int b),some (.int s'),some (.ref r),some (.ref r'),some (.int (pn:Int)),some (.int (qn:Int)),some (.int x),k1,k2]) ⟨Ext.rfl' _,none,none,rfl⟩ (fun i σ H' _ h=>ai.of (h.1 _ _ hl8)) ?_ ?_
  ·rintro i one σ H5 ho ⟨e5,k1,k2,rfl⟩
   have hone:iV one:=by
    have hm:=CY ho
    simp only[De,Dw,or_false]at hm
    rcases hm with rfl | rfl | rfl | rfl | rfl | rfl | rfl | rfl<;>trivial
   clear ho
   have h1:=(e4.trans e5) _ _ h1
   have h2:=(e4.trans e5) _ _ h2
   have h3:=(e4.trans e5) _ _ h3
   walk_at "r"
   have cl:∀(xs:List Int) lo hi,xs.length<=63->(bL (xs.map V.int) lo hi).length<=63:=fun xs lo hi h=>by have:=iB (xs.map V.int) lo hi;rw[CN]at this;omega
   refine fY h2 fun c1 G1 f1 hc1=>?_
   walk_at "r"
   refine ao fun c2 G2 f2 hc2 _=>?_
   refine fu (f2 _ _ hc1) hc2 (aH (by have:=cl o none (some (pn:Int)) ol;simp only[Ds,List.length_nil];omega)) fun c3 G3 f3 hc3=>?_
   have f13:=(f1.trans f2).trans f3
   walk_at "r"
   refine fY (f13 _ _ h2) fun c4 G4 f4 hc4=>?_
   refine fu (f4 _ _ hc3) hc4 (aH (by have g1:=cl o none (some (pn:Int)) ol;have g2:=cl o (some (pn:Int)) none ol;simp only[Dh,Ds,List.length_nil];omega)) fun c5 G5 f5 hc5=>?_
   walk_at "r"
   refine ao fun p1 G6 f6 hp1 _=>?_
   have f16:=((f13.trans f4).trans f5).trans f6
   have hc5:=f6 _ _ hc5
   have h3:=f16 _ _ h3
   have h2:=f16 _ _ h2
   clear f1 f2 f3 f4 f5 f6 f13 hc1 hc2 hc3 hc4
   walk_at "r"
   refine fY h3 fun d1 G7 f7 hd1=>?_
   walk_at "r"
   refine ao fun d2 G8 f8 hd2 _=>?_
   refine fu (f8 _ _ hd1) hd2 (aH (by have:=cl a none (some (qn:Int)) al;simp only[Ds,List.length_nil];omega)) fun d3 G9 f9 hd3=>?_
   have f79:=(f7.trans f8).trans f9
   walk_at "r"
   refine fY (f79 _ _ h3) fun d4 G10 f10 hd4=>?_
   refine fu (f10 _ _ hd3) hd4 (aH (by have g1:=cl a none (some (qn:Int)) al;have g2:=cl a (some (qn:Int)) none al;simp only[Dh,Ds,List.length_nil];omega)) fun d5 G11 f11 hd5=>?_
   walk_at "r"
   refine ao fun p2 G12 f12 hp2 _=>?_
   walk_at "r"
   refine ao fun l9 G13 f13 hl9 _=>?_
   have f7D:=(((f79.trans f10).trans f11).trans f12).trans f13
   have f5D:=(e5.trans f16).trans f7D
   have q1:∃r1 r2,G13 p1=some (.tup [r1,r2])/\Rw G13 r1/\Rw G13 r2:=⟨_,_,f7D _ _ hp1,qz (f7D _ _ hc5) ol hone,uE (f7D _ _ h3) al⟩
   have q2:∃r1 r2,G13 p2=some (.tup [r1,r2])/\Rw G13 r1/\Rw G13 r2:=⟨_,_,f13 _ _ hp2,uE (f7D _ _ h2) ol,qz ((f12.trans f13) _ _ hd5) al hone⟩
   clear hp1 hp2 hc5 hd5 hd4 hd3 hd2 hd1 h1 h2 h3 f7 f8 f9 f79 f10 f11 f12 f13 f7D f16 e5 hone cl
   refine dX (ai.of hl9) ?_
   refine forL (xs:=[V.ref p1,V.ref p2]) (fun i σ H'=>Ext G13 H'/\∃k3:Option V,σ=[some (.ref u),some (.int f),some (.int b),some (.int s'),some (.ref r),some (.ref r'),some (.int (pn:Int)),some (.int (qn:Int)),some (.int x),some one,k3]) ⟨Ext.rfl' _,k2,rfl⟩ (fun i σ H' _ h=>ai.of (h.1 _ _ hl9)) ?_ ?_
   ·rintro i th σ H6 ho ⟨e6,k3,rfl⟩
    obtain⟨pt,r1,r2,rfl,hpt,w1,w2⟩:∃pt r1 r2,th=.ref pt/\G13 pt=some (.tup [r1,r2])/\Rw G13 r1/\Rw G13 r2:=by
     have hm:=CY ho
     simp only[De,Dw,or_false]at hm
     rcases hm with rfl | rfl
     ·obtain⟨r1,r2,z⟩:=q1
      exact⟨_,r1,r2,rfl,z⟩
     ·obtain⟨r1,r2,z⟩:=q2
      exact⟨_,r1,r2,rfl,z⟩
    clear ho q1 q2
    walk_at "r"
    refine ao fun m1 H7 e7 hm1 _=>?_
    walk_at "r"
    refine fu hm1 (e7 _ _ (e6 _ _ hpt)) (aH (by simp)) fun m2 H8 e8 hm2=>?_
    have e68:=(e6.trans e7).trans e8
    obtain⟨hth,hrf⟩:=BL (b:=b) (s:=s') (r1:=r1) (r2:=r2) hm2 (w1.ext e68) (w2.ext e68) b3 s8
    walk_at "r"
    refine⟨_,_,rfl,hrf,fun H9 e9=>?_⟩
    walk_at "r"
    refine j4 ?_
    walk_at "r"
    refine⟨_,rfl,hth.ext e9,fun H10 e10=>?_⟩
    walk_at "r"
    rw[oa e9.et hth.kn]
    have hno:(decide ((if b9 H8 (V.ref m2)=true then DB "told" else DB "stair")=DB "stair") == b9 H8 (V.ref m2))=false:=by
     cases b9 H8 (V.ref m2)<;>decide +kernel
    rw[hno]
    refine av ?_
    walk_at "r"
    exact⟨(e68.trans e9).trans e10,_,rfl⟩
   ·rintro σ H6 ⟨e6,k3,rfl⟩
    walk_at "r"
    exact⟨f5D.trans e6,_,_,rfl⟩
  ·rintro σ H5 ⟨e5,k1,k2,rfl⟩
   walk_at "r"
   exact q H5 (e14.trans e5)
abbrev hD(m:Int)(ws:List Way):PyData:=.tuple [.int m,.tuple (ws.map Way.D)]
theorem bF.rep{H:Hp}{v:V}{m:Int}{ws:List Way}(h:bF H v m ws)(ok:HOuse m ws):bf H 3 v (hD m ws):=by
 obtain⟨p,q,rfl,h1,h2⟩:=h
 obtain⟨bs,g3,al⟩:=cH.al h2
 exact .inr ⟨p,_,_,rfl,.inl ⟨h1,rfl⟩,.cons (.inl rfl) (.cons (.inr ⟨q,_,_,rfl,.inl ⟨g3,rfl⟩,al.reps fun u hu=>(ok.ok u hu).lay⟩) .nil)⟩
theorem uT:∀ws:List Way,PyData.eqvAll (ws.map Way.D) (ws.map Way.D)=true
 | []=>rfl
 | w::ws=>by
  show(PyData.eqv w.D w.D && PyData.eqvAll (ws.map Way.D) (ws.map Way.D))=true
  rw[Way.eqv,uT ws,DO rfl]
  rfl
theorem Bc(m:Int)(ws:List Way):PyData.eqv (hD m ws) (hD m ws)=true:=by
 show((m == m) && ((PyData.eqvAll (ws.map Way.D) (ws.map Way.D)) && true))=true
 rw[uT]
 simp
theorem pY{α:Type}{R:V->PyData->Prop}{g:α->V}{k:α->PyData}(h:∀x,R (g x) (k x)):∀l:List α,Paired R (l.map g) (l.map k)
 | []=>.nil
 | x::l=>.cons (h x) (pY h l)
def dS(b s:Int)(o a:List Int):PyData:=.tuple [.int b,.int s,.tuple (o.map PyData.int),.tuple (a.map PyData.int)]
theorem q0{H:Hp}{q:Addr}{xs:List Int}(h:H q=some (.tup (xs.map V.int))):bf H 1 (.ref q) (.tuple (xs.map PyData.int)):=
 .inr ⟨q,_,_,rfl,.inl ⟨h,rfl⟩,pY (fun i=>(rfl:i=i)) _⟩
theorem bE.rep{H:Hp}{v:V}{b s:Int}{o a:List Int}(h:bE H v b s o a):bf H 2 v (dS b s o a):=by
 obtain⟨p,q,r,rfl,h1,h2,h3⟩:=h
 exact .inr ⟨p,_,_,rfl,.inl ⟨h1,rfl⟩,.cons (.inl (rfl:b=b)) (.cons (.inl (rfl:s=s)) (.cons (q0 h2) (.cons (q0 h3) .nil)))⟩
theorem bE.eqv{H:Hp}{v:V}{b s:Int}{o a:List Int}(h:bE H v b s o a):PyData.eqv (dS b s o a) (dS b s o a)=true:=SeqAt.eqv_refl _ (bf.lay 2 h.rep).1
theorem bE.th{H:Hp}{v:V}{b s:Int}{o a:List Int}(h:bE H v b s o a)(ol:o.length<=10000)(al:a.length<=10000):Th H v:=by
 obtain⟨p,q,r,rfl,h1,h2,h3⟩:=h
 refine jE h1 fun x hx=>?_
 simp only[De,Dw,or_false]at hx
 rcases hx with rfl | rfl | rfl | rfl
 ·exact bu _
 ·exact bu _
 ·exact gW h2 (by rw[CN];exact ol) gn
 ·exact gW h3 (by rw[CN];exact al) gn
def eU(i c:Int)(n:Nat):List Int:=(DM n).map fun k:Nat=>i+(k:Int)*c
theorem zt(i c:Int)(n:Nat):gX i c n=(eU i c n).map V.int:=by
 unfold eU
 rw[List.map_map]
 rfl
theorem uJ{lo i j hi c:Int}(hc:0<c)(hlo:lo<=i)(hj:j<=hi):cM lo hi (eU i c (cP i j c)):=by
 refine⟨?_,fun z hz=>?_⟩
 ·unfold eU
  rw[List.pairwise_map]
  refine List.pairwise_lt_range.imp fun{a b} h=>?_
  have:((a:Int)+1)*c<=(b:Int)*c:=Int.mul_le_mul_of_nonneg_right (by omega) (by omega)
  rw[Int.add_mul,Int.one_mul]at this
  omega
 ·obtain⟨k,hk,rfl⟩:=List.mem_map.mp hz
  have hk:=List.mem_range.mp hk
  unfold cP at hk
  rw[DQ hc]at hk
  have k0:0<=(k:Int)*c:=Int.mul_nonneg (by omega) (by omega)
  by_cases h:i<j
  ·rw[DQ h]at hk
   have h1:(k:Int)<=(j-i-1) / c:=by omega
   have h2:(k:Int)*c<=(j-i-1) / c*c:=Int.mul_le_mul_of_nonneg_right h1 (by omega)
   have h3:=Int.mul_ediv_add_emod (j-i-1) c
   have h4:=Int.emod_nonneg (j-i-1) (show c≠0 by omega)
   rw[Int.mul_comm]at h3
   omega
  ·rw[DP h]at hk
   omega
theorem sD{i j c:Int}(hc:0<c)(h:j-i<=1000):cP i j c<=1000:=by
 unfold cP
 rw[DQ hc]
 split
 ·have:(j-i-1) / c<=j-i-1:=Int.ediv_le_self _ (by omega)
  omega
 ·omega
theorem ui{lo hi hi':Int}{xs:List Int}(h:cM lo hi xs)(hh:hi<=hi'):cM lo hi' xs:=⟨h.1,fun z hz=>⟨(h.2 z hz).1,by have:=(h.2 z hz).2;omega⟩⟩
theorem mx(lo hi:Int):cM lo hi []:=⟨List.Pairwise.nil,fun z hz=>(nomatch hz)⟩
theorem bj.ext{H H':Hp}{v:V}(e:Ext H H')(h:bj H v):bj H' v:=h.et e.et
theorem de{H:Hp}{u:Addr}{x1 x2 r1 r2:V}(hu:H u=some (.tup [x1,x2,r1,r2]))(k1:Rw H x1)(k2:Rw H x2)(k3:Rw H r1)(k4:Rw H r2)(hp:cW H x1 x2 r1 r2=false):bj H (.ref u):=by
 refine⟨(jE hu fun x hx=>?_).kn,by rw[fk hu];exact hp⟩
 simp only[De,Dw,or_false]at hx
 rcases hx with rfl | rfl | rfl | rfl
 ·exact k1
 ·exact k2
 ·exact k3
 ·exact k4
theorem pO{H:Hp}{b s:Int}{r1 r2:V}(h:s<1):cW H (.int b) (.int s) r1 r2=false:=by
 show(decide (0<=b) && decide (1<=s) && aV H 0 b r1 && aV H b (b+s) r2)=false
 rw[DN (show ¬1<=s by omega)]
 simp
theorem yb{H:Hp}{b s:Int}{r1 r2:V}(h:b<0):cW H (.int b) (.int s) r1 r2=false:=by
 show(decide (0<=b) && decide (1<=s) && aV H 0 b r1 && aV H b (b+s) r2)=false
 rw[DN (show ¬0<=b by omega)]
 simp
theorem iL{H:Hp}{b s:Int}{r1 r2:V}(h:aV H 0 b r1=false):cW H (.int b) (.int s) r1 r2=false:=by
 show(decide (0<=b) && decide (1<=s) && aV H 0 b r1 && aV H b (b+s) r2)=false
 rw[h]
 simp
theorem ja{H:Hp}{b s:Int}{r1 r2:V}(h:aV H b (b+s) r2=false):cW H (.int b) (.int s) r1 r2=false:=by
 show(decide (0<=b) && decide (1<=s) && aV H 0 b r1 && aV H b (b+s) r2)=false
 rw[h]
 simp
theorem fI{H:Hp}{p:Addr}{xs:List Int}{lo hi:Int}(h:H p=some (.tup (xs.map V.int)))(hb:¬cM lo hi xs):aV H lo hi (.ref p)=false:=by
 rw[dG h]
 cases e:cN lo hi (xs.map V.int)with
 | false=>rfl
 | true=>exact absurd (gh.mp e) hb
theorem cn{H:Hp}{p:Addr}{xs:List Int}(h:H p=some (.tup (xs.map V.int)))(hl:xs.length<=10000):Rw H (.ref p):=gW h (by rw[CN];exact hl) gn
theorem qe{H:Hp}{v:V}(h:iV v):bj H v:=by
 cases v with
 | int i=>exact⟨⟨⟨"int",rfl⟩,fun _ _ e=>nomatch e⟩,rfl⟩
 | bl i=>exact⟨⟨⟨"bool",rfl⟩,fun _ _ e=>nomatch e⟩,rfl⟩
 | non=>exact⟨⟨⟨"NoneType",rfl⟩,fun _ _ e=>nomatch e⟩,rfl⟩
 | str i=>exact⟨⟨⟨"str",rfl⟩,fun _ _ e=>nomatch e⟩,rfl⟩
 | _=>exact False.elim h
theorem AM{H:Hp}{u:Addr}{xs:List V}(hu:H u=some (.tup xs))(hk:∀x∈xs,Rw H x)(hl:xs.length≠4):bj H (.ref u):=⟨(jE hu hk).kn,iF hu hl⟩
theorem i9{H:Hp}{xs ys:List V}(h1:∀v∈xs,bj H v)(h2:∀v∈ys,bj H v):∀v∈xs++ys,bj H v:=fun v hv=>(Dm.mp hv).elim (h1 v) (h2 v)
theorem fS{H H':Hp}{xs:List V}(e:Ext H H')(h:∀v∈xs,bj H v):∀v∈xs,bj H' v:=fun v hv=>(h v hv).ext e
def iX(K:CJ):Sp:=fun vs H Q _=>∃(a:Addr) (ns:List Int),vs=[.ref a]/\ai K H a (ns.map V.int)/\ns.length<=63/\∀H',Q (.bl true) H'
abbrev eh:Stmt:=stq 62
theorem qB:FnScope ["_law_script","_law_house_here","_law_far","_law_thing","_law_text","_law_found","_law_stair","_law_long_one","_law_base","_law_step","_law_once","_law_again","_law_great","_law_bad"] ["_law_script"] (aE eh):=⟨rfl,rfl,rfl,by decide +kernel,rfl,by decide +kernel,by decide +kernel⟩
theorem vC{P:Program}{w:World}{K:CJ}{mg:Str->Option Value}{base:Heap}{f:Addr}{fd:FuncData}(F:Fun K "law" "law" eh f fd)(T:Blt mg)(C__law_one_more:Cal P w K mg base "_law_one_more" 9 ["_law_stair","_law_far"] (oV K))(C__law_refusal:Cal P w K mg base "_law_refusal" 8 ["_law_stair"] (m6 K))(C_read_stair:Cal P w K mg base "read_stair" 5 ["text"] (qy K))(C__law_stair_text:Cal P w K mg base "_law_stair_text" 1 ["_law_stair"] (qQ K))(C__law_is_stair:Cal P w K mg base "_law_is_stair" 3 ["_law_found"] (lP K))(C__law_drawn_stair:Cal P w K mg base "_law_drawn_stair" 3 ["_law_cell_here","_law_prime"] (tP K))(C__law_cell:Cal P w K mg base "_law_cell" 1 ["_law_script","_law_k"] (n5 K))(C__law_many_ways:Cal P w K mg base "_law_many_ways" 1 ["_law_many","_law_first"] (pI K))(C__law_is_house:Cal P w K mg base "_law_is_house" 2 ["_law_thing"] (uY K))(C_shown_house:Cal P w K mg base "shown_house" 7 ["house"] (uP K))(C_read_house:Cal P w K mg base "read_house" 6 ["text"] (qf K))(C__law_house_text:Cal P w K mg base "_law_house_text" 1 ["_law_house_here"] (u5 K))(C__law_draws:Cal P w K mg base "_law_draws" 2 ["_law_cell_here","_law_widths","_law_prime"] (eZ K))(C__law_house:Cal P w K mg base "_law_house" 4 ["_law_cell_here","_law_prime"] (qC K))(C0_shown_stair:Cal P w K mg base "shown_stair" 7 ["stair"] (fun vs H Q _=>jv K vs H Q E0)):FnOk P w K mg base eu 10 f fd ["_law_script"] (iX K):=by
 have nd:=(qB).nd
 refine F.ok qB (fun vs H Q E h=>?_) (fun cdv A outer s H vs Q E hr h=>?_)
 ·obtain⟨a,ns,rfl,_⟩:=h;rfl
 ·obtain⟨a,ns,rfl,ha,hl,q⟩:=h
  refine⟨_,(@ak _ _ _ _ _ (@aF _ _ 1 _ _ _ _ nd rfl (Or.inl rfl) (ay C__law_house hr (@aa _ _ _ _ _ (ay C__law_cell hr (@aa _ _ _ _ _ (pv 0) (@aa _ _ _ _ _ af ae rfl) rfl)) (@aa _ _ _ _ _ af ae rfl) rfl)) rfl (Or.inl rfl))
    (@ak _ _ _ _ _ (@aF _ _ 2 _ _ _ _ nd rfl (Or.inl rfl) (@ar _ _ _ _ _ _ _ (aL K) (ay C__law_draws hr (@aa _ _ _ _ _ (ay C__law_cell hr (@aa _ _ _ _ _ (pv 0) (@aa _ _ _ _ _ af ae rfl) rfl)) (@aa _ _ _ _ _ (@aZ _ _ _ _ (@aa _ _ _ _ _ (ah fZ af af) ae rfl)) (@aa _ _ _ _ _ af ae rfl) rfl) rfl)) af (fun _ _=>rfl)) rfl (Or.inl rfl))
    (@ak _ _ _ _ _ (cR PassesOwn.never rfl (dM K (@aA _ _ _ _ _ (@aa _ _ _ _ _ (pv 1) (@aa _ _ _ _ _ (@aA _ _ _ _ _ (@aa _ _ _ _ _ (@ar _ _ _ _ _ _ _ (aO K) (pv 1) af (fun _ _=>rfl)) (@aa _ _ _ _ _ (@aA _ _ _ _ _ ae) ae rfl) rfl)) (@aa _ _ _ _ _ (ay C__law_many_ways hr (@aa _ _ _ _ _ (ah aG af (ah bz (pv 2) af)) (@aa _ _ _ _ _ (ah bz (pv 2) af) ae rfl) rfl)) ae rfl) rfl) rfl))) (aP (i:=3) nd rfl (Or.inl rfl)) (@ak _ _ _ _ _ (@aF _ _ 4 _ _ _ _ nd rfl (Or.inl rfl) (ay C__law_house_text hr (@aa _ _ _ _ _ (pv 3) ae rfl)) rfl (Or.inl rfl))
    (@ak _ _ _ _ _ (@aF _ _ 5 _ _ _ _ nd rfl (Or.inl rfl) (ay C_read_house hr (@aa _ _ _ _ _ (pv 4) ae rfl)) rfl (Or.inl rfl))
    (@aq _ _ _ (@aU _ _ _ _ _ _ _ _ (PW.pt (bh (aJ cw (ay C_shown_house hr (@aa _ _ _ _ _ (pv 3) ae rfl)) (pv 4) (aC _)) (bh (br (bp (ay C__law_is_house hr (@aa _ _ _ _ _ (pv 5) ae rfl)))) (bR (aJ (jM hr) (pv 5) (pv 3) (aC _)))))) (@aq _ _ _ (@az _ _ _ _ bA)) aQ)))))
    (@ak _ _ _ _ _ (@aF _ _ 6 _ _ _ _ nd rfl (Or.inl rfl) (ay C__law_drawn_stair hr (@aa _ _ _ _ _ (ay C__law_cell hr (@aa _ _ _ _ _ (pv 0) (@aa _ _ _ _ _ af ae rfl) rfl)) (@aa _ _ _ _ _ af ae rfl) rfl)) rfl (Or.inl rfl))
    (@ak _ _ _ _ _ (@aF _ _ 4 _ _ _ _ nd rfl (Or.inl rfl) (ay C__law_stair_text hr (@aa _ _ _ _ _ (pv 6) ae rfl)) rfl (Or.inl rfl))
    (@ak _ _ _ _ _ (@aF _ _ 5 _ _ _ _ nd rfl (Or.inl rfl) (ay C_read_stair hr (@aa _ _ _ _ _ (pv 4) ae rfl)) rfl (Or.inl rfl))
    (@ak _ _ _ _ _ (@aU _ _ _ _ _ _ _ _ (PW.pt (bh (aJ cw (ay C0_shown_stair hr (@aa _ _ _ _ _ (pv 6) ae rfl)) (pv 4) (aC _)) (bh (br (bp (ay C__law_is_stair hr (@aa _ _ _ _ _ (pv 5) ae rfl)))) (bR (aJ (jM hr) (pv 5) (pv 6) (aC _)))))) (@aq _ _ _ (@az _ _ _ _ bA)) aQ)
    (@ak _ _ _ _ _ (@aF _ _ 7 _ _ _ _ nd rfl (Or.inl rfl) (@aA _ _ _ _ _ (@aa _ _ _ _ _ af (@aa _ _ _ _ _ af (@aa _ _ _ _ _ (uh rfl rfl T.tuple_ rfl T.range_ (@aa _ _ _ _ _ (ah bz (pv 2) af) (@aa _ _ _ _ _ af (@aa _ _ _ _ _ af ae rfl) rfl) rfl)) (@aa _ _ _ _ _ (uh rfl rfl T.tuple_ rfl T.range_ (@aa _ _ _ _ _ af (@aa _ _ _ _ _ (ah aG af (ah bz (pv 2) af)) (@aa _ _ _ _ _ af ae rfl) rfl) rfl)) ae rfl) rfl) rfl) rfl)) rfl (Or.inl rfl))
    (@ak _ _ _ _ _ (@aF _ _ 4 _ _ _ _ nd rfl (Or.inl rfl) (ay C__law_stair_text hr (@aa _ _ _ _ _ (pv 7) ae rfl)) rfl (Or.inl rfl))
    (@ak _ _ _ _ _ (@aU _ _ _ _ _ _ _ _ (PW.pt (bh (aJ cw (ay C0_shown_stair hr (@aa _ _ _ _ _ (pv 7) ae rfl)) (pv 4) (aC _)) (bR (aJ (jM hr) (ay C_read_stair hr (@aa _ _ _ _ _ (pv 4) ae rfl)) (pv 7) (aC _))))) (@aq _ _ _ (@az _ _ _ _ bA)) aQ)
    (@ak _ _ _ _ _ (@jq _ _ _ _ _ _ (pv 6) (iN (n:=4) K rfl (bX (aP (i:=8) nd rfl (Or.inl rfl)) (bX (aP (i:=9) nd rfl (Or.inl rfl)) (bX (aP (i:=10) nd rfl (Or.inl rfl)) (bX (aP (i:=11) nd rfl (Or.inl rfl)) ft))))) rfl rfl rfl)
    (@ak _ _ _ _ _ (@aF _ _ 12 _ _ _ _ nd rfl (Or.inl rfl) (@aZ _ _ _ _ (@aa _ _ _ _ _ (@aA _ _ _ _ _ (@aa _ _ _ _ _ (ah aG af (pv 2)) (@aa _ _ _ _ _ (pv 9) (@aa _ _ _ _ _ (pv 10) (@aa _ _ _ _ _ (@aA _ _ _ _ _ ae) ae rfl) rfl) rfl) rfl)) (@aa _ _ _ _ _ (@aA _ _ _ _ _ (@aa _ _ _ _ _ (pv 8) (@aa _ _ _ _ _ (ah aG af (pv 2)) (@aa _ _ _ _ _ (pv 10) (@aa _ _ _ _ _ (pv 11) ae rfl) rfl) rfl) rfl)) (@nh _ _ _ _ _ (.tup (.cons .int (.cons .int (.cons (.tup .nil) (.cons (.tup .nil) .nil))))) ae) rfl) rfl)) rfl (Or.inl rfl))
    (@ak _ _ _ _ _ (cR PassesOwn.never rfl (ef K (pv 12)) (aP (i:=3) nd rfl (Or.inl rfl)) (@aq _ _ _ (@aU _ _ _ _ _ _ _ _ (PW.pt (bh (aJ (jM hr) (ay C_read_stair hr (@aa _ _ _ _ _ (ay C__law_stair_text hr (@aa _ _ _ _ _ (pv 3) ae rfl)) ae rfl)) (pv 3) (aC _)) (bR (aJ cw (ay C__law_refusal hr (@aa _ _ _ _ _ (pv 3) ae rfl)) aw (aC _))))) (@aq _ _ _ (@az _ _ _ _ bA)) aQ)))
    (@ak _ _ _ _ _ (@aF _ _ 13 _ _ _ _ nd rfl (Or.inl rfl) (@aZ _ _ _ _ (@aa _ _ _ _ _ (@aA _ _ _ _ _ (@aa _ _ _ _ _ (pv 8) (@aa _ _ _ _ _ af (@aa _ _ _ _ _ (pv 10) (@aa _ _ _ _ _ (pv 11) ae rfl) rfl) rfl) rfl)) (@aa _ _ _ _ _ (@aA _ _ _ _ _ (@aa _ _ _ _ _ (jF jP af) (@aa _ _ _ _ _ af (@aa _ _ _ _ _ (@aA _ _ _ _ _ ae) (@aa _ _ _ _ _ (@aA _ _ _ _ _ ae) ae rfl) rfl) rfl) rfl)) (@aa _ _ _ _ _ (@aA _ _ _ _ _ (@aa _ _ _ _ _ (pv 8) (@aa _ _ _ _ _ (pv 9) (@aa _ _ _ _ _ (bK (AE K) rfl T.list_ PyProof.Rows.boot_list (@aa _ _ _ _ _ (pv 10) ae rfl)) (@aa _ _ _ _ _ (pv 11) ae rfl) rfl) rfl) rfl)) (@aa _ _ _ _ _ (@aA _ _ _ _ _ (@aa _ _ _ _ _ (pv 8) (@aa _ _ _ _ _ (pv 9) (@aa _ _ _ _ _ (@aA _ _ _ _ _ (@aa _ _ _ _ _ (pv 8) ae rfl)) (@aa _ _ _ _ _ (pv 11) ae rfl) rfl) rfl) rfl)) ae rfl) rfl) rfl) rfl)) rfl (Or.inl rfl))
    (@ak _ _ _ _ _ (@aF _ _ 13 _ _ _ _ nd rfl (Or.inl rfl) (ah cD (pv 13) (@aZ _ _ _ _ (@aa _ _ _ _ _ (@aA _ _ _ _ _ (@aa _ _ _ _ _ (pv 8) (@aa _ _ _ _ _ (pv 9) (@aa _ _ _ _ _ (pv 10) (@aa _ _ _ _ _ (@aA _ _ _ _ _ (@aa _ _ _ _ _ (ah aG (pv 8) (pv 9)) ae rfl)) ae rfl) rfl) rfl) rfl)) (@aa _ _ _ _ _ (@aA _ _ _ _ _ (@aa _ _ _ _ _ (pv 8) (@aa _ _ _ _ _ (pv 9) (@aa _ _ _ _ _ (pv 10) (@aa _ _ _ _ _ (@aA _ _ _ _ _ (@aa _ _ _ _ _ (ah cO (pv 8) af) ae rfl)) ae rfl) rfl) rfl) rfl)) (@aa _ _ _ _ _ i4 (@aa _ _ _ _ _ (@aA _ _ _ _ _ (@aa _ _ _ _ _ (pv 8) (@aa _ _ _ _ _ (pv 9) (@aa _ _ _ _ _ (pv 10) ae rfl) rfl) rfl)) ae rfl) rfl) rfl) rfl))) rfl (Or.inl rfl))
    (@ak _ _ _ _ _ (@aF _ _ 13 _ _ _ _ nd rfl (Or.inl rfl) (ah cD (pv 13) (@aZ _ _ _ _ (@aa _ _ _ _ _ (@aA _ _ _ _ _ (@aa _ _ _ _ _ (ah aG (pv 8) af) (@aa _ _ _ _ _ (pv 9) (@aa _ _ _ _ _ (@aA _ _ _ _ _ (@aa _ _ _ _ _ af (@aa _ _ _ _ _ af ae rfl) rfl)) (@aa _ _ _ _ _ (@aA _ _ _ _ _ ae) ae rfl) rfl) rfl) rfl)) (@aa _ _ _ _ _ (@aA _ _ _ _ _ (@aa _ _ _ _ _ (ah aG (pv 8) af) (@aa _ _ _ _ _ (pv 9) (@aa _ _ _ _ _ (@aA _ _ _ _ _ (@aa _ _ _ _ _ af (@aa _ _ _ _ _ af ae rfl) rfl)) (@aa _ _ _ _ _ (@aA _ _ _ _ _ ae) ae rfl) rfl) rfl) rfl)) (@aa _ _ _ _ _ (@aA _ _ _ _ _ (@aa _ _ _ _ _ (pv 8) (@aa _ _ _ _ _ af (@aa _ _ _ _ _ (pv 10) (@aa _ _ _ _ _ (@aA _ _ _ _ _ (@aa _ _ _ _ _ (ah aG (pv 8) af) (@aa _ _ _ _ _ (pv 8) ae rfl) rfl)) ae rfl) rfl) rfl) rfl)) ae rfl) rfl) rfl))) rfl (Or.inl rfl))
    (@ak _ _ _ _ _ (@aF _ _ 13 _ _ _ _ nd rfl (Or.inl rfl) (ah cD (pv 13) (@aZ _ _ _ _ (@nh _ _ _ _ _ (.tup (.cons .bl (.cons .int (.cons (.tup .nil) (.cons (.tup .nil) .nil))))) (@nh _ _ _ _ _ (.tup (.cons .int (.cons .int (.cons (.tup .nil) (.cons (.tup .nil) .nil))))) (@aa _ _ _ _ _ (@aA _ _ _ _ _ (@aa _ _ _ _ _ (pv 8) (@aa _ _ _ _ _ (pv 9) (@aa _ _ _ _ _ (@aA _ _ _ _ _ (@aa _ _ _ _ _ (jF jP af) ae rfl)) (@aa _ _ _ _ _ (@aA _ _ _ _ _ ae) ae rfl) rfl) rfl) rfl)) (@aa _ _ _ _ _ aw ae rfl) rfl))))) rfl (Or.inl rfl))
    (@ak _ _ _ _ _ (bZ (bx K CV Dk Dl cy (pv 13) (@aa _ _ _ _ _ (@aA _ _ _ _ _ (@aa _ _ _ _ _ (pv 8) (@aa _ _ _ _ _ (pv 9) (@aa _ _ _ _ _ (pv 10) (@aa _ _ _ _ _ (@aA _ _ _ _ _ (@aa _ _ _ _ _ i4 ae rfl)) ae rfl) rfl) rfl) rfl)) ae rfl)))
    (@ak _ _ _ _ _ (@aU _ _ _ _ _ _ _ _ (br (bp (aI (gp K rfl) rfl T.all_ PyProof.Rows.boot_all (@aa _ _ _ _ _ (cQ ["_law_thing"] [] (ef K (pv 13)) (fun _=>(aP (i:=0) (show(["_law_thing"]:List Str).Nodup from by decide +kernel) rfl (Or.inl rfl) (Or.inr rfl))) (fun _=>cI) (fun _=>(dA ck (ay C__law_refusal hr (@aa _ _ _ _ _ (pv 0) ae rfl)) aw (aC _)))) ae rfl)))) (@aq _ _ _ (@az _ _ _ _ bA)) aQ)
    (@aq _ _ _ (@az _ _ _ _ (ay C__law_one_more hr (@aa _ _ _ _ _ (pv 6) (@aa _ _ _ _ _ (pv 2) ae rfl) rfl))))))))))))))))))))))),?_⟩
  walk_at "r"
  refine⟨a,ns,0,rfl,ha,hl,by decide,fun z0=>?_⟩
  walk_at "r"
  refine⟨z0,_,rfl,by decide,fun v m ws H1 e1 hv ok3=>?_⟩
  have ok:HOuse m ws:=ok3.house
  walk_at "r"
  refine⟨a,ns,2,rfl,ha.ext e1,hl,by decide,fun z2=>?_⟩
  walk_at "r"
  refine ao fun w0 G1 f1 hw0 _=>?_
  walk_at "r"
  refine gG [100000] hw0 (by decide) (by decide) (by decide) fun dq ds H2 e2 hd hdn hdl hb=>?_
  obtain⟨far,g0,fr0,fr1⟩:=cz hdl hb 0 rfl
  walk_at "r"
  refine aK (ai.of hd) g0 ?_
  walk_at "r"
  have hv2:=(hv.ext f1).ext e2
  obtain⟨pv,qv,rfl,hv3,hv4⟩:=id hv2
  refine aM (aj.of hv3) rfl ?_
  walk_at "r"
  refine ao fun t0 H3 e3 ht0 _=>?_
  walk_at "r"
  refine ao fun u1 H4 e4 hu1 _=>?_
  have hv5:bF H4 (.ref u1) m []:=bF.mk hu1 ⟨[],e4 _ _ ht0,rfl,fun j b k h=>by cases h⟩
  have ok5:HOuse m []:=⟨ok.m1,ok.m12,by simp,fun w hw=>(nomatch hw),List.Pairwise.nil⟩
  walk_at "r"
  refine⟨_,_,rfl,by omega,by omega,fun v6 H5 ws6 e5 hv6 ok6=>?_⟩
  walk_at "r"
  refine ao fun tt H6 e6 htt _=>?_
  have e26:=((e3.trans e4).trans e5).trans e6
  have hv2:=hv2.ext e26
  have hv5:=hv5.ext (e5.trans e6)
  have hv6:=hv6.ext e6
  have ha6:=(((ha.ext e1).ext f1).ext e2).ext e26
  clear hv hv3 hv4 e3 e4 e5 e6 e26 hu1 ht0 hw0 hd g0 hdl hb hdn f1 e2 ha ok3
  refine dH (aj.of htt) ?_
  refine nX (xs:=[V.ref pv,V.ref u1,v6]) (fun i σ H'=>Ext H6 H'/\∃k1 k2 k3:Option V,σ=[some (.ref a),some (.ref pv),some (.int far),k1,k2,k3,none,none,none,none,none,none,none,none]) ⟨Ext.rfl' _,none,none,none,rfl⟩ (fun i σ H' _ h=>aj.of (h.1 _ _ htt)) ?_ ?_
  ·rintro i th σ H7 ho ⟨e7,k1,k2,k3,rfl⟩
   obtain⟨m',ws',hth,okt⟩:∃m' ws',bF H6 th m' ws'/\HOuse m' ws':=by
    have hm:=CY ho
    simp only[De,Dw,or_false]at hm
    rcases hm with rfl | rfl | rfl
    ·exact⟨_,_,hv2,ok⟩
    ·exact⟨_,_,hv5,ok5⟩
    ·exact⟨_,_,hv6,ok6⟩
   have hth:=hth.ext e7
   clear ho hv2 hv5 hv6
   walk_at "r"
   refine⟨_,_,_,rfl,hth,okt,fun H8 e8=>?_⟩
   walk_at "r"
   refine⟨_,_,rfl,okt,fun fv H9 e9 hfv=>?_⟩
   have hth:=(hth.ext e8).ext e9
   walk_at "r"
   refine⟨_,_,_,rfl,hth,okt,fun H10 e10=>?_⟩
   walk_at "r"
   refine gF ?_
   walk_at "r"
   rw[DO rfl]
   refine av ?_
   walk_at "r"
   have hfv:=hfv.ext e10
   have hth:=hth.ext e10
   refine⟨_,rfl,(gq hfv okt).1,fun H11 e11=>?_⟩
   rw[(gq hfv okt).2]
   walk_at "r"
   refine av ?_
   walk_at "r"
   refine⟨3,3,_,_,(hfv.ext e11).rep okt,(hth.ext e11).rep okt,by decide,?_⟩
   rw[Bc]
   walk_at "r"
   refine av ?_
   walk_at "r"
   exact⟨(((e7.trans e8).trans e9).trans e10).trans e11,_,_,_,rfl⟩
  rintro σ H7 ⟨e7,k1,k2,k3,rfl⟩
  have ha7:=ha6.ext e7
  clear hv2 hv5 hv6 ok5 ok6 htt ha6 e7
  walk_at "r"
  refine⟨a,ns,1,rfl,ha7,hl,by decide,fun z1=>?_⟩
  walk_at "r"
  refine⟨z1,_,rfl,by decide,fun sv b s' o ag H8 e8 hs gd ol al=>?_⟩
  have sm:=gd.sml
  walk_at "r"
  refine⟨_,_,_,_,_,rfl,hs,sm,fun H9 e9=>?_⟩
  walk_at "r"
  refine⟨_,_,_,_,rfl,sm,gd.ok,fun fv H10 e10 hfv=>?_⟩
  have hs:=(hs.ext e9).ext e10
  walk_at "r"
  refine⟨_,rfl,.inl ⟨_,_,_,_,hs,gd,fun H11 e11=>?_⟩⟩
  walk_at "r"
  refine gF ?_
  walk_at "r"
  rw[DO rfl]
  refine av ?_
  walk_at "r"
  have hfv:=hfv.ext e11
  have hs:=hs.ext e11
  refine⟨_,rfl,hfv.th (by omega) (by omega),fun H12 e12=>?_⟩
  rw[hfv.yes gd.ok]
  walk_at "r"
  refine av ?_
  walk_at "r"
  have hs:=hs.ext e12
  refine⟨2,2,_,_,(hfv.ext e12).rep,hs.rep,by decide,?_⟩
  rw[hs.eqv]
  walk_at "r"
  refine av ?_
  clear hfv e8 e9 e10 e11 e12 ha7
  walk_at "r"
  refine pq ?_
  walk_at "r"
  refine⟨_,_,_,rfl,⟨by omega,by omega,by decide,by decide⟩,Dv (sD (by decide) (by omega)) (by decide),aW fun t1 H13 e13 ht1 _=>?_⟩
  walk_at "r"
  refine pq ?_
  walk_at "r"
  refine⟨_,_,_,rfl,⟨by decide,by omega,by decide,by decide⟩,Dv (sD (by decide) (by omega)) (by decide),aW fun t2 H14 e14 ht2 _=>?_⟩
  walk_at "r"
  refine ao fun lo H15 e15 hlo _=>?_
  rw[zt]at ht1 ht2
  have hlg:bE H15 (.ref lo) 600 840 _ _:=⟨lo,t1,t2,rfl,hlo,e15 _ _ (e14 _ _ ht1),e15 _ _ ht2⟩
  have gl:Gd 600 840 (eU (far % 2) 2 (cP (far % 2) 600 2)) (eU 600 5 (cP 600 (900+far % 500) 5)):=⟨⟨by decide,by decide,uJ (by decide) (by omega) (by decide),uJ (by decide) (by decide) (by omega)⟩,by decide,by decide⟩
  have hs:=((hs.ext e13).ext e14).ext e15
  clear hlo ht1 ht2 e13 e14 e15
  generalize eU (far % 2) 2 (cP (far % 2) 600 2)=lo1 at hlg gl
  generalize eU 600 5 (cP 600 (900+far % 500) 5)=la1 at hlg gl
  have sl:=gl.sml
  walk_at "r"
  refine⟨_,_,_,_,_,rfl,hlg,sl,fun H16 e16=>?_⟩
  have hlg:=hlg.ext e16
  walk_at "r"
  refine⟨_,rfl,.inl ⟨_,_,_,_,hlg,gl,fun H17 e17=>?_⟩⟩
  walk_at "r"
  refine gF ?_
  walk_at "r"
  rw[DO rfl]
  refine av ?_
  walk_at "r"
  refine⟨_,_,_,_,rfl,sl,gl.ok,fun fv2 H18 e18 hfv=>?_⟩
  have hlg:=(hlg.ext e17).ext e18
  walk_at "r"
  refine⟨2,2,_,_,hfv.rep,hlg.rep,by decide,?_⟩
  rw[hlg.eqv]
  walk_at "r"
  refine av ?_
  have hs:=((hs.ext e16).ext e17).ext e18
  clear hfv hlg gl sl e16 e17 e18
  obtain⟨us,u1',u2',rfl,k1',k2',k3'⟩:=id hs
  walk_at "r"
  refine gP (aj.of k1') rfl ?_
  walk_at "r"
  generalize hσ:List.set _ 11 (some (V.ref u2'))=σ0
  have hσ':σ0=[some (.ref a),some (.ref pv),some (.int far),k1,some (.str (Txt.join (DB " ") (bB 600 840 lo1 la1))),some fv,some (.ref us),some (.ref lo),some (.int b),some (.int s'),some (.ref u1'),some (.ref u2'),none,none]:=hσ.symm
  clear hσ
  subst hσ'
  generalize Txt.join (DB " ") (bB 600 840 lo1 la1)=txt
  have b3:=gd.b3
  have s8:=gd.s8
  have b0:=gd.ok.hb
  have s1:=gd.ok.hs
  refine ao fun z1 G1 f1 hz1 _=>?_
  walk_at "r"
  refine ao fun g1 G2 f2 hg1 _=>?_
  walk_at "r"
  refine ao fun g2 G3 f3 hg2 _=>?_
  walk_at "r"
  refine ao fun z2 G4 f4 hz2 _=>?_
  walk_at "r"
  refine ao fun z3 G5 f5 hz3 _=>?_
  walk_at "r"
  refine ao fun g3 G6 f6 hg3 _=>?_
  walk_at "r"
  refine ao fun gl G7 f7 hgl _=>?_
  have F27:=f3.trans (f4.trans (f5.trans (f6.trans f7)))
  have F17:=f1.trans (f2.trans F27)
  have w1:bE G7 (.ref g1) (3001+far) s' o []:=⟨g1,u1',z1,rfl,F27 _ _ hg1,F17 _ _ k2',(f2.trans F27) _ _ hz1⟩
  have w2:bE G7 (.ref g2) b (841+far) o ag:=⟨g2,u1',u2',rfl,(f4.trans (f5.trans (f6.trans f7))) _ _ hg2,F17 _ _ k2',F17 _ _ k3'⟩
  have w3:bE G7 (.ref g3) 3001 841 [] []:=⟨g3,z2,z3,rfl,f7 _ _ hg3,(f5.trans (f6.trans f7)) _ _ hz2,(f6.trans f7) _ _ hz3⟩
  have o1:Ok (3001+far) s' o []:=⟨by omega,by omega,ui gd.ok.ho (by omega),mx _ _⟩
  have o2:Ok b (841+far) o ag:=⟨b0,by omega,gd.ok.ho,ui gd.ok.ha (by omega)⟩
  have o3:Ok 3001 841 [] []:=⟨by decide,by decide,mx _ _,mx _ _⟩
  have sm':=sm
  obtain⟨_,_,_,_,sm1,sm2,sm3,sm4⟩:=sm'
  have m1:Sml (3001+far) s' o []:=⟨by omega,by omega,by omega,by omega,sm1,fun x hx=>(nomatch hx),sm3,by simp⟩
  have m2:Sml b (841+far) o ag:=⟨by omega,by omega,by omega,by omega,sm1,sm2,sm3,sm4⟩
  have m3:Sml 3001 841 [] []:=⟨by decide,by decide,by decide,by decide,fun x hx=>(nomatch hx),fun x hx=>(nomatch hx),by simp,by simp⟩
  have hs:=hs.ext F17
  have k2':=F17 _ _ k2'
  have k3':=F17 _ _ k3'
  clear hz1 hz2 hz3 hg1 hg2 hg3 f1 f2 f3 f4 f5 f6 f7 F27 F17 sm1 sm2 sm3 sm4
  walk_at "r"
  refine dX (ai.of hgl) ?_
  refine forL (xs:=[V.ref g1,V.ref g2,V.ref g3]) (fun i σ H'=>Ext G7 H'/\∃k1:Option V,σ=[some (.ref a),some (.ref pv),some (.int far),k1,some (.str txt),some fv,some (.ref us),some (.ref lo),some (.int b),some (.int s'),some (.ref u1'),some (.ref u2'),some (.ref gl),none]) ⟨Ext.rfl' _,_,rfl⟩ (fun i σ H' _ h=>ai.of (h.1 _ _ hgl)) ?_ ?_
  ·rintro i th σ H7 ho ⟨e7,k1,rfl⟩
   obtain⟨B,S,O,A',hth,okt,mt,gt⟩:∃B S O A',bE G7 th B S O A'/\Ok B S O A'/\Sml B S O A'/\(3000<B\/840<S):=by
    have hm:=CY ho
    simp only[De,Dw,or_false]at hm
    rcases hm with rfl | rfl | rfl
    ·exact⟨_,_,_,_,w1,o1,m1,by omega⟩
    ·exact⟨_,_,_,_,w2,o2,m2,by omega⟩
    ·exact⟨_,_,_,_,w3,o3,m3,by omega⟩
   have hth:=hth.ext e7
   clear ho w1 w2 w3 o1 o2 o3 m1 m2 m3
   walk_at "r"
   refine⟨_,_,_,_,_,rfl,hth,mt,fun H8 e8=>?_⟩
   walk_at "r"
   refine⟨_,_,_,_,rfl,mt,okt,fun fv2 H9 e9 hfv=>?_⟩
   have hth:=(hth.ext e8).ext e9
   walk_at "r"
   refine⟨2,2,_,_,hfv.rep,hth.rep,by decide,?_⟩
   rw[hth.eqv]
   walk_at "r"
   refine av ?_
   walk_at "r"
   refine⟨_,_,rfl,.inr (.inl ⟨⟨_,_,_,_,hth,okt,gt⟩,rfl⟩),fun H10 e10=>?_⟩
   walk_at "r"
   refine gF ?_
   walk_at "r"
   rw[DO rfl]
   refine av ?_
   walk_at "r"
   exact⟨((e7.trans e8).trans e9).trans e10,_,rfl⟩
  rintro σ H7 ⟨e7,k1,rfl⟩
  have hs:=hs.ext e7
  have k2':=e7 _ _ k2'
  have k3':=e7 _ _ k3'
  clear w1 w2 w3 o1 o2 o3 m1 m2 m3 hgl e7
  walk_at "r"
  have R1:∀{J:Hp},Ext H7 J->Rw J (.ref u1'):=fun e=>cn (e _ _ k2') (by omega)
  have R2:∀{J:Hp},Ext H7 J->Rw J (.ref u2'):=fun e=>cn (e _ _ k3') (by omega)
  -- the first four
  refine ao fun v1 J1 f1 h1 _=>?_
  have n1:bj J1 (.ref v1):=de h1 (bu _) (bu _) (R1 f1) (R2 f1) (pO (by decide))
  walk_at "r"
  refine ao fun y1 J2 f2 hy1 _=>?_
  walk_at "r"
  refine ao fun y2 J3 f3 hy2 _=>?_
  walk_at "r"
  refine ao fun v2 J4 f4 h2 _=>?_
  have n2:bj J4 (.ref v2):=de h2 (bu _) (bu _) (cn (xs:=[]) ((f3.trans f4) _ _ hy1) (by simp)) (cn (xs:=[]) (f4 _ _ hy2) (by simp)) (yb (by decide))
  have F4:=f1.trans (f2.trans (f3.trans f4))
  have n1:=n1.ext (f2.trans (f3.trans f4))
  clear f1 f2 f3 f4 h1 h2 hy1 hy2
  walk_at "r"
  refine wG (aj.of (F4 _ _ k2')) (aW fun y3 J5 f5 hy3 _=>?_)
  walk_at "r"
  refine ao fun v3 J6 f6 h3 _=>?_
  have F6:=F4.trans (f5.trans f6)
  have n3:bj J6 (.ref v3):=de h3 (bu _) (bu _) (xg (f6 _ _ hy3)) (R2 F6) (iL (fB fun p xs e z=>by cases e;rw[f6 _ _ hy3]at z;cases z))
  walk_at "r"
  refine ao fun y4 J7 f7 hy4 _=>?_
  walk_at "r"
  refine ao fun v4 J8 f8 h4 _=>?_
  have F8:=F6.trans (f7.trans f8)
  have n4:bj J8 (.ref v4):=de h4 (bu _) (bu _) (cn (xs:=[b]) (f8 _ _ hy4) (by simp)) (R2 F8) (iL (fI (xs:=[b]) (f8 _ _ hy4) fun h=>by have:=(h.2 b (by simp)).2;omega))
  walk_at "r"
  refine ao fun q1 J9 f9 hq1 _=>?_
  have B1:∀v∈[V.ref v1,V.ref v2,V.ref v3,V.ref v4],bj J9 v:=fun v hv=>by
   simp only[De,Dw,or_false]at hv
   rcases hv with rfl | rfl | rfl | rfl
   ·exact n1.ext (f5.trans (f6.trans (f7.trans (f8.trans f9))))
   ·exact n2.ext (f5.trans (f6.trans (f7.trans (f8.trans f9))))
   ·exact n3.ext (f7.trans (f8.trans f9))
   ·exact n4.ext f9
  have F9:=F8.trans f9
  clear n1 n2 n3 n4 F4 F6 F8 f5 f6 f7 f8 f9 h3 h4 hy3 hy4
  walk_at "r"
  -- the next four
  refine ao fun y1 J10 f1 hy1 _=>?_
  walk_at "r"
  refine ao fun v1 J11 f2 h1 _=>?_
  have F11:=F9.trans (f1.trans f2)
  have n1:bj J11 (.ref v1):=de h1 (bu _) (bu _) (R1 F11) (cn (xs:=[b+s']) (f2 _ _ hy1) (by simp)) (ja (fI (xs:=[b+s']) (f2 _ _ hy1) fun h=>by have:=(h.2 _ (CZ.mpr rfl)).2;omega))
  walk_at "r"
  refine ao fun y2 J12 f3 hy2 _=>?_
  walk_at "r"
  refine ao fun v2 J13 f4 h2 _=>?_
  have F13:=F11.trans (f3.trans f4)
  have n2:bj J13 (.ref v2):=de h2 (bu _) (bu _) (R1 F13) (cn (xs:=[b-1]) (f4 _ _ hy2) (by simp)) (ja (fI (xs:=[b-1]) (f4 _ _ hy2) fun h=>by have:=(h.2 _ (CZ.mpr rfl)).1;omega))
  walk_at "r"
  refine ao fun v3 J14 f5 h3 _=>?_
  have F14:=F13.trans f5
  have n3:bj J14 (.ref v3):=AM h3 (fun x hx=>by
   simp only[De,Dw,or_false]at hx
   rcases hx with rfl | rfl | rfl
   ·exact bu _
   ·exact bu _
   ·exact R1 F14) (by simp)
  walk_at "r"
  refine ao fun q2 J15 f6 hq2 _=>?_
  have B2:∀v∈[V.ref v1,V.ref v2,V.non,V.ref v3],bj J15 v:=fun v hv=>by
   simp only[De,Dw,or_false]at hv
   rcases hv with rfl | rfl | rfl | rfl
   ·exact n1.ext (f3.trans (f4.trans (f5.trans f6)))
   ·exact n2.ext (f5.trans f6)
   ·exact qe trivial
   ·exact n3.ext f6
  have g915:=f1.trans (f2.trans (f3.trans (f4.trans (f5.trans f6))))
  walk_at "r"
  refine cB (g915 _ _ hq1) hq2 (aH (by simp)) (aW fun q3 J16 f7 hq3 _=>?_)
  have B3:=fS f7 (i9 (fS g915 B1) B2)
  have F16:=(F9.trans g915).trans f7
  clear n1 n2 n3 F9 F11 F13 F14 f1 f2 f3 f4 f5 f6 f7 g915 h1 h2 h3 hy1 hy2 B1 B2 hq1 hq2
  walk_at "r"
  -- three more
  refine ao fun y1 J17 f1 hy1 _=>?_
  walk_at "r"
  refine ao fun y2 J18 f2 hy2 _=>?_
  walk_at "r"
  refine ao fun v1 J19 f3 h1 _=>?_
  have n1:bj J19 (.ref v1):=de h1 (bu _) (bu _) (cn (xs:=[1,1]) ((f2.trans f3) _ _ hy1) (by simp)) (cn (xs:=[]) (f3 _ _ hy2) (by simp)) (iL (fI (xs:=[1,1]) ((f2.trans f3) _ _ hy1) fun h=>by have:=(List.pairwise_cons.mp h.1).1 1 (by simp);omega))
  walk_at "r"
  refine ao fun y3 J20 f4 hy3 _=>?_
  walk_at "r"
  refine ao fun y4 J21 f5 hy4 _=>?_
  walk_at "r"
  refine ao fun v2 J22 f6 h2 _=>?_
  have n2:bj J22 (.ref v2):=de h2 (bu _) (bu _) (cn (xs:=[1,0]) ((f5.trans f6) _ _ hy3) (by simp)) (cn (xs:=[]) (f6 _ _ hy4) (by simp)) (iL (fI (xs:=[1,0]) ((f5.trans f6) _ _ hy3) fun h=>by have:=(List.pairwise_cons.mp h.1).1 0 (by simp);omega))
  walk_at "r"
  refine ao fun y5 J23 f7 hy5 _=>?_
  walk_at "r"
  refine ao fun v3 J24 f8 h3 _=>?_
  have g1724:=f1.trans (f2.trans (f3.trans (f4.trans (f5.trans (f6.trans (f7.trans f8))))))
  have F24:=F16.trans g1724
  have n3:bj J24 (.ref v3):=de h3 (bu _) (bu _) (R1 F24) (cn (xs:=[b+1,b]) (f8 _ _ hy5) (by simp)) (ja (fI (xs:=[b+1,b]) (f8 _ _ hy5) fun h=>by have:=(List.pairwise_cons.mp h.1).1 b (by simp);omega))
  walk_at "r"
  refine ao fun q4 J25 f9 hq4 _=>?_
  have B4:∀v∈[V.ref v1,V.ref v2,V.ref v3],bj J25 v:=fun v hv=>by
   simp only[De,Dw,or_false]at hv
   rcases hv with rfl | rfl | rfl
   ·exact n1.ext (f4.trans (f5.trans (f6.trans (f7.trans (f8.trans f9)))))
   ·exact n2.ext (f7.trans (f8.trans f9))
   ·exact n3.ext f9
  walk_at "r"
  refine cB ((g1724.trans f9) _ _ hq3) hq4 (aH (by simp)) (aW fun q5 J26 f10 hq5 _=>?_)
  have B5:=fS f10 (i9 (fS (g1724.trans f9) B3) B4)
  have F26:=(F24.trans f9).trans f10
  clear n1 n2 n3 F16 F24 f1 f2 f3 f4 f5 f6 f7 f8 f9 f10 g1724 h1 h2 h3 hy1 hy2 hy3 hy4 hy5 B3 B4 hq3 hq4
  walk_at "r"
  -- the last ones
  refine ao fun y1 J27 f1 hy1 _=>?_
  walk_at "r"
  refine ao fun y2 J28 f2 hy2 _=>?_
  walk_at "r"
  refine ao fun v1 J29 f3 h1 _=>?_
  have n1:bj J29 (.ref v1):=de h1 (Ap _) (bu _) (cn (xs:=[]) ((f2.trans f3) _ _ hy1) (by simp)) (cn (xs:=[]) (f3 _ _ hy2) (by simp)) (ik rfl)
  walk_at "r"
  refine ao fun y3 J30 f4 hy3 _=>?_
  walk_at "r"
  refine ao fun y4 J31 f5 hy4 _=>?_
  walk_at "r"
  refine ao fun v2 J32 f6 h2 _=>?_
  have n2:bj J32 (.ref v2):=de h2 (bu _) (bu _) (cn (xs:=[]) ((f5.trans f6) _ _ hy3) (by simp)) (cn (xs:=[]) (f6 _ _ hy4) (by simp)) (pO (by decide))
  walk_at "r"
  refine ao fun y5 J33 f7 hy5 _=>?_
  walk_at "r"
  refine ao fun y6 J34 f8 hy6 _=>?_
  walk_at "r"
  refine ao fun v3 J35 f9 h3 _=>?_
  have n3:bj J35 (.ref v3):=de h3 (bu _) (bu _) (cn (xs:=[-1]) ((f8.trans f9) _ _ hy5) (by simp)) (cn (xs:=[]) (f9 _ _ hy6) (by simp)) (iL (fI (xs:=[-1]) ((f8.trans f9) _ _ hy5) fun h=>by have:=(h.2 _ (CZ.mpr rfl)).1;omega))
  walk_at "r"
  refine ao fun q6 J36 f10 hq6 _=>?_
  have B6:∀v∈[V.ref v1,V.ref v2,V.ref v3,V.str (DB "0 1 : :")],bj J36 v:=fun v hv=>by
   simp only[De,Dw,or_false]at hv
   rcases hv with rfl | rfl | rfl | rfl
   ·exact n1.ext (f4.trans (f5.trans (f6.trans (f7.trans (f8.trans (f9.trans f10))))))
   ·exact n2.ext (f7.trans (f8.trans (f9.trans f10)))
   ·exact n3.ext f10
   ·exact qe trivial
  have g2736:=f1.trans (f2.trans (f3.trans (f4.trans (f5.trans (f6.trans (f7.trans (f8.trans (f9.trans f10))))))))
  walk_at "r"
  refine cB (g2736 _ _ hq5) hq6 (aH (by simp)) (aW fun q7 J37 f11 hq7 hq7n=>?_)
  have B7:=i9 (fS g2736 B5) B6
  have F36:=F26.trans g2736
  clear n1 n2 n3 F26 f1 f2 f3 f4 f5 f6 f7 f8 f9 f10 g2736 h1 h2 h3 hy1 hy2 hy3 hy4 hy5 hy6 B5 B6 hq5 hq6
  generalize hL:[V.ref _,V.ref _,V.ref _,V.ref _]++_++_++_=L at hq7 B7
  have hLl:L.length=15:=by rw[←hL];rfl
  clear hL
  walk_at "r"
  generalize hσ:List.set _ 13 (some (V.ref q7))=σ0
  have hσ':σ0=[some (.ref a),some (.ref pv),some (.int far),k1,some (.str txt),some fv,some (.ref us),some (.ref lo),some (.int b),some (.int s'),some (.ref u1'),some (.ref u2'),some (.ref gl),some (.ref q7)]:=hσ.symm
  clear hσ
  subst hσ'
  refine⟨.inl ⟨rfl,_,ai.of hq7⟩,?_⟩
  walk_at "r"
  refine ao fun y1 J38 f1 hy1 _=>?_
  walk_at "r"
  refine ao fun v1 J39 f2 h1 _=>?_
  walk_at "r"
  have hq:=(f1.trans f2) _ _ hq7
  refine cv hq (Nat.lt_of_le_of_lt (show L.length<=10000 by omega) (by decide)) ?_
  have eD:Ext J36 (upd J39 q7 (.lst (L++[V.ref v1]))):=fun x u hx=>by rw[aT (dg hx hq7n)];exact(f11.trans (f1.trans f2)) _ _ hx
  have hy1:=f2 _ _ hy1
  have hq9:upd J39 q7 (.lst (L++[V.ref v1])) q7=some (.lst (L++[V.ref v1])):=aY
  have h1':upd J39 q7 (.lst (L++[V.ref v1])) v1=some (.tup [V.int b,V.int s',V.ref u1',V.ref y1]):=by rw[aT (gr h1 hq (by intro z;cases z))];exact h1
  have hy1':upd J39 q7 (.lst (L++[V.ref v1])) y1=some (.tup [V.non]):=by rw[aT (gr hy1 hq (by intro z;cases z))];exact hy1
  generalize upd J39 q7 (.lst (L++[V.ref v1]))=J40 at eD hq9 h1' hy1' ⊢
  have F40:=F36.trans eD
  have B8:∀v∈L++[V.ref v1],bj J40 v:=i9 (fS eD B7) fun v hv=>by
   rw[CZ.mp hv]
   refine de h1' (bu _) (bu _) (R1 F40) (gW hy1' (by simp) fun x hx=>by rw[CZ.mp hx];exact⟨"NoneType",rfl⟩) (ja ?_)
   rw[dG hy1']
   rfl
  have hs:=hs.ext F40
  clear f1 f2 f11 h1 h1' hy1 hy1' hq hq7 B7 F36 eD R1 R2 k2' k3'
  have hMl:(L++[V.ref v1]).length=16:=by rw[Dh,hLl];rfl
  generalize L++[V.ref v1]=M at hq9 B8 hMl
  walk_at "r"
  refine dX (ai.of hq9) ?_
  refine gm (xs:=M) (fun i ys H'=>Ext J40 H'/\ys=(DF i true).map V.bl) (aH (by omega)) ⟨Ext.rfl' _,rfl⟩ (fun i ys H' hi h=>⟨ai.of (h.1 _ _ hq9),by rw[h.2,CN,List.length_replicate];exact Dj _⟩) ?_ ?_
  ·rintro i v ys H' hv ⟨e,rfl⟩
   walk_at "r"
   refine au ?_
   walk_at "r"
   refine⟨v,_,rfl,.inl ⟨(B8 v (CY hv)).ext e,rfl⟩,fun H2 e2=>?_⟩
   walk_at "r"
   refine j4 ?_
   rw[DO rfl]
   refine⟨e.trans e2,?_⟩
   rw[List.replicate_succ',Dg]
   rfl
  rintro ys H' p9 ⟨e,rfl⟩ hp9
  have e9:=e.trans (bq (o:=.lst ((DF M.length true).map V.bl)) hp9)
  have hp:upd H' p9 (.lst ((DF M.length true).map V.bl)) p9=some (.lst ((DF M.length true).map V.bl)):=aY
  generalize upd H' p9 (.lst ((DF M.length true).map V.bl))=J41 at e9 hp ⊢
  walk_at "r"
  refine⟨p9,_,rfl,ai.of hp,?_⟩
  rw[show (DF M.length true).all id=true by simp]
  walk_at "r"
  refine av ?_
  walk_at "r"
  exact⟨_,far,b,s',o,ag,rfl,hs.ext e9,gd,ol,al,fr0,fr1,fun H9 _=>q H9⟩
abbrev Dq(K:CJ)(mg:Str->Option Value)(x:Str)(st:Stmt):Prop:=∃(f:Addr) (fd:FuncData),mg x=some (.ref f)/\Fun K x x st f fd
theorem dq{K:CJ}{h:Heap}{mg:Str->Option Value}(X:K.In h)(G:h.Ns mainGlobals mg){x:Str}{st:Stmt}{f:Addr}{od an:Option Addr}{sl:Array (Option Value)}{oc kV dc pm cd ct:Value}(a:PySem.W.nsIn K mainGlobals x=some (some (.ref f)))(l:K.lookup f=some ⟨oc,od,.func (PySem.W.fnOf x x (eV st) (dO st) (aE st) .none kV dc pm an cd ct),sl⟩)(c:PySem.W.codeIn K cd x=true)(k:PySem.W.keepIn K (.ref f)=true):Dq K mg x st:=⟨f,_,PySem.W.mg_of X G a,oF (st:=st) l c k⟩
abbrev bd(x:Str)(st:Stmt)(us:List Value)(r:List (Str×Value)):Prop:=∀(kV doc pm:Value) (an:Option Addr) (cdv ct:Value),bindArgs (PySem.W.fnOf x x (eV st) (dO st) (aE st) .none kV doc pm an cdv ct) ⟨us,[]⟩=pure r
theorem bG{K:CJ}{mg:Str->Option Value}{x:Str}{st:Stmt}(p0:Str)(d:Dq K mg x st)(h:∀u0,bd x st [u0] [(p0,u0)]):Dfn K mg x st [p0]:=let ⟨f,fd,a,F⟩:=d;⟨f,fd,a,F,F.binds (ps:=[p0]) fun _ _ _ _ _ _ us hl=>match us,hl with | [_],_=>h _ _ _ _ _ _ _⟩
theorem dm{K:CJ}{mg:Str->Option Value}{x:Str}{st:Stmt}(p0 p1:Str)(d:Dq K mg x st)(h:∀u0 u1,bd x st [u0,u1] [(p0,u0),(p1,u1)]):Dfn K mg x st [p0,p1]:=let ⟨f,fd,a,F⟩:=d;⟨f,fd,a,F,F.binds (ps:=[p0,p1]) fun _ _ _ _ _ _ us hl=>match us,hl with | [_,_],_=>h _ _ _ _ _ _ _ _⟩
theorem je{K:CJ}{mg:Str->Option Value}{x:Str}{st:Stmt}(p0 p1 p2:Str)(d:Dq K mg x st)(h:∀u0 u1 u2,bd x st [u0,u1,u2] [(p0,u0),(p1,u1),(p2,u2)]):Dfn K mg x st [p0,p1,p2]:=let ⟨f,fd,a,F⟩:=d;⟨f,fd,a,F,F.binds (ps:=[p0,p1,p2]) fun _ _ _ _ _ _ us hl=>match us,hl with | [_,_,_],_=>h _ _ _ _ _ _ _ _ _⟩
theorem Am{K:CJ}{mg:Str->Option Value}{x:Str}{st:Stmt}(p0 p1 p2 p3:Str)(d:Dq K mg x st)(h:∀u0 u1 u2 u3,bd x st [u0,u1,u2,u3] [(p0,u0),(p1,u1),(p2,u2),(p3,u3)]):Dfn K mg x st [p0,p1,p2,p3]:=let ⟨f,fd,a,F⟩:=d;⟨f,fd,a,F,F.binds (ps:=[p0,p1,p2,p3]) fun _ _ _ _ _ _ us hl=>match us,hl with | [_,_,_,_],_=>h _ _ _ _ _ _ _ _ _ _⟩
theorem all_mk{l:PySem.W.OpenLaw}{w:World}{K:CJ}{h:Heap}{mg:Str->Option Value}{fa:Addr}(X:K.In h)(G:h.Ns mainGlobals mg)(hfa:mg "law" = some (.ref fa))
  (d0:Dq K mg "row_words" mr)
  (d1:Dq K mg "refuse_great_stair" kZ)
  (d2:Dq K mg "is_whole" m7)
  (d3:Dq K mg "is_rising_row" mT)
  (d4:Dq K mg "are_stair_places" nU)
  (d5:Dq K mg "is_stair" ml)
  (d6:Dq K mg "refuse_no_stair" lS)
  (d7:Dq K mg "refuse_bad_stair" nr)
  (d8:Dq K mg "shown_stair" kA)
  (d9:Dq K mg "_law_refusal" kr)
  (d10:Dq K mg "_law_whole" mX)
  (d11:Dq K mg "_law_rises" nV)
  (d12:Dq K mg "_law_is_stair" mJ)
  (d13:Dq K mg "_law_one_more" lO)
  (d14:Dq K mg "is_number_word" nj)
  (d15:Dq K mg "read_number" kW)
  (d16:Dq K mg "read_row" km)
  (d17:Dq K mg "read_stair" lV)
  (d18:Dq K mg "_law_stair_text" nF)
  (d19:Dq K mg "_law_mixed" lA)
  (d20:Dq K mg "_law_draws" kh)
  (d21:Dq K mg "_law_drawn_stair" mw)
  (d22:Dq K mg "_law_cell" lL)
  (d23:Dq K mg "_law_many_ways" ny)
  (d24:Dq K mg "_law_is_house" nJ)
  (d25:Dq K mg "way_text" mQ)
  (d26:Dq K mg "is_sign" lg)
  (d27:Dq K mg "is_deed" nQ)
  (d28:Dq K mg "is_room" mH)
  (d29:Dq K mg "is_way" nq)
  (d30:Dq K mg "are_ways" mM)
  (d31:Dq K mg "is_house" nc)
  (d32:Dq K mg "refuse_no_house" mF)
  (d33:Dq K mg "shown_house" kQ)
  (d34:Dq K mg "read_way" nZ)
  (d35:Dq K mg "read_ways" md)
  (d36:Dq K mg "read_house" mK)
  (d37:Dq K mg "_law_house_text" nG)
  (d38:Dq K mg "_law_unlike" ma)
  (d39:Dq K mg "_law_drawn_house" ni)
  (d40:Dq K mg "_law_gate_house" lK)
  (d41:Dq K mg "_law_ring_house" nI)
  (d42:Dq K mg "_law_spare" me)
  (d43:Dq K mg "_law_house" mE)
  {f44:Addr} {od44 an44:Option Addr} {sl44:Array (Option Value)} {oc44 kV44 dc44 pm44 cd44 ct44:Value} (a44:PySem.W.nsIn K mainGlobals "law" = some (some (.ref f44))) (l44:K.lookup f44=some ⟨oc44,od44,.func (PySem.W.fnOf "law" "law" (eV eh) (dO eh) (aE eh) .none kV44 dc44 pm44 an44 cd44 ct44),sl44⟩) (c44:PySem.W.codeIn K cd44 "law" = true) (k44:PySem.W.keepIn K (.ref f44)=true)
  (z0:PySem.W.nsIn K mainGlobals "len" = some none)
  (z1:PySem.W.nsIn K mainGlobals "isinstance" = some none)
  (z2:PySem.W.nsIn K mainGlobals "tuple" = some none)
  (z3:PySem.W.nsIn K mainGlobals "list" = some none)
  (z4:PySem.W.nsIn K mainGlobals "int" = some none)
  (z5:PySem.W.nsIn K mainGlobals "bool" = some none)
  (z6:PySem.W.nsIn K mainGlobals "range" = some none)
  (z7:PySem.W.nsIn K mainGlobals "zip" = some none)
  (z8:PySem.W.nsIn K mainGlobals "max" = some none)
  (z9:PySem.W.nsIn K mainGlobals "min" = some none)
  (z10:PySem.W.nsIn K mainGlobals "abs" = some none)
  (z11:PySem.W.nsIn K mainGlobals "all" = some none)
  (z12:PySem.W.nsIn K mainGlobals "ValueError" = some none)
  (z13:PySem.W.nsIn K mainGlobals "set" = some none)
  (z14:PySem.W.nsIn K mainGlobals "str" = some none)
  (z15:PySem.W.nsIn K mainGlobals "sorted" = some none)
  {t0:Tok} (v0:PySem.W.nsIn K mainGlobals "GREATEST_STEP" = some (some (.int 840 t0)))
  {t1:Tok} (v1:PySem.W.nsIn K mainGlobals "GREATEST_BASE" = some (some (.int 3000 t1)))
  {t2:Tok} (v2:PySem.W.nsIn K mainGlobals "FIGURES" = some (some (.str "0123456789" t2)))
  {t3:Tok} (v3:PySem.W.nsIn K mainGlobals "MOST_FIGURES" = some (some (.int 6 t3)))
  {t4:Tok} (v4:PySem.W.nsIn K mainGlobals "GREATEST_WAYS" = some (some (.int 100 t4)))
  {t5:Tok} (v5:PySem.W.nsIn K mainGlobals "GREATEST_MANY" = some (some (.int 12 t5)))
  {e0:Addr} {q0_0 u0_0 q0_1 u0_1 q0_2 u0_2 q0_3 u0_3:Tok} {ep0:Nat} (x0:PySem.W.nsIn K mainGlobals "TURNED" = some (some (.ref e0))) (y0:K.lookup e0=some (j3 w [("up",q0_0,.str "down" u0_0),("down",q0_1,.str "up" u0_1),("stay",q0_2,.str "stay" u0_2),("zero",q0_3,.str "zero" u0_3)] ep0)) (w0:(e0 == sysModules)=false)
  (hxf:lC K gC fT=true)
  : ∃fd:FuncData,(∀(s:Shared) (v:Value),BindsTo s fd ⟨[v],[]⟩ [("_law_script",v)])/\∀base:Heap,K.In base->base.Ns mainGlobals mg->FnOk l.prog w K mg base eu 10 fa fd ["_law_script"] (iX K):=by
 have e:=hfa.symm.trans (PySem.W.mg_of X G a44)
 cases e
 have T:Blt mg:=⟨PySem.W.mg_none_of X G z0,PySem.W.mg_none_of X G z1,PySem.W.mg_none_of X G z2,PySem.W.mg_none_of X G z3,PySem.W.mg_none_of X G z4,PySem.W.mg_none_of X G z5,PySem.W.mg_none_of X G z6,PySem.W.mg_none_of X G z7,PySem.W.mg_none_of X G z8,PySem.W.mg_none_of X G z9,PySem.W.mg_none_of X G z10,PySem.W.mg_none_of X G z11,PySem.W.mg_none_of X G z12,PySem.W.mg_none_of X G z13,PySem.W.mg_none_of X G z14,PySem.W.mg_none_of X G z15⟩
 have D0:=bG "row" d0 fun _ _ _ _ _ _ _=>rfl
 have D1:=bG "stair" d1 fun _ _ _ _ _ _ _=>rfl
 have D2:=bG "thing" d2 fun _ _ _ _ _ _ _=>rfl
 have D3:=je "thing" "low" "end" d3 fun _ _ _ _ _ _ _ _ _=>rfl
 have D4:=Am "base" "step" "once" "again" d4 fun _ _ _ _ _ _ _ _ _ _=>rfl
 have D5:=bG "thing" d5 fun _ _ _ _ _ _ _=>rfl
 have D6:=bG "thing" d6 fun _ _ _ _ _ _ _=>rfl
 have D7:=bG "thing" d7 fun _ _ _ _ _ _ _=>rfl
 have D8:=bG "stair" d8 fun _ _ _ _ _ _ _=>rfl
 have D9:=bG "_law_stair" d9 fun _ _ _ _ _ _ _=>rfl
 have D10:=bG "_law_found" d10 fun _ _ _ _ _ _ _=>rfl
 have D11:=je "_law_row" "_law_low" "_law_high" d11 fun _ _ _ _ _ _ _ _ _=>rfl
 have D12:=bG "_law_found" d12 fun _ _ _ _ _ _ _=>rfl
 have D13:=dm "_law_stair" "_law_far" d13 fun _ _ _ _ _ _ _ _=>rfl
 have D14:=bG "word" d14 fun _ _ _ _ _ _ _=>rfl
 have D15:=bG "word" d15 fun _ _ _ _ _ _ _=>rfl
 have D16:=bG "words" d16 fun _ _ _ _ _ _ _=>rfl
 have D17:=bG "text" d17 fun _ _ _ _ _ _ _=>rfl
 have D18:=bG "_law_stair" d18 fun _ _ _ _ _ _ _=>rfl
 have D19:=je "_law_cell_here" "_law_k" "_law_prime" d19 fun _ _ _ _ _ _ _ _ _=>rfl
 have D20:=je "_law_cell_here" "_law_widths" "_law_prime" d20 fun _ _ _ _ _ _ _ _ _=>rfl
 have D21:=dm "_law_cell_here" "_law_prime" d21 fun _ _ _ _ _ _ _ _=>rfl
 have D22:=dm "_law_script" "_law_k" d22 fun _ _ _ _ _ _ _ _=>rfl
 have D23:=dm "_law_many" "_law_first" d23 fun _ _ _ _ _ _ _ _=>rfl
 have D24:=bG "_law_thing" d24 fun _ _ _ _ _ _ _=>rfl
 have D25:=bG "way" d25 fun _ _ _ _ _ _ _=>rfl
 have D26:=bG "thing" d26 fun _ _ _ _ _ _ _=>rfl
 have D27:=bG "thing" d27 fun _ _ _ _ _ _ _=>rfl
 have D28:=dm "thing" "many" d28 fun _ _ _ _ _ _ _ _=>rfl
 have D29:=dm "thing" "many" d29 fun _ _ _ _ _ _ _ _=>rfl
 have D30:=dm "thing" "many" d30 fun _ _ _ _ _ _ _ _=>rfl
 have D31:=bG "thing" d31 fun _ _ _ _ _ _ _=>rfl
 have D32:=bG "thing" d32 fun _ _ _ _ _ _ _=>rfl
 have D33:=bG "house" d33 fun _ _ _ _ _ _ _=>rfl
 have D34:=bG "text" d34 fun _ _ _ _ _ _ _=>rfl
 have D35:=bG "text" d35 fun _ _ _ _ _ _ _=>rfl
 have D36:=bG "text" d36 fun _ _ _ _ _ _ _=>rfl
 have D37:=bG "_law_house_here" d37 fun _ _ _ _ _ _ _=>rfl
 have D38:=bG "_law_ways" d38 fun _ _ _ _ _ _ _=>rfl
 have D39:=dm "_law_cell_here" "_law_prime" d39 fun _ _ _ _ _ _ _ _=>rfl
 have D40:=dm "_law_cell_here" "_law_prime" d40 fun _ _ _ _ _ _ _ _=>rfl
 have D41:=dm "_law_cell_here" "_law_prime" d41 fun _ _ _ _ _ _ _ _=>rfl
 have D42:=dm "_law_cell_here" "_law_width" d42 fun _ _ _ _ _ _ _ _=>rfl
 have D43:=dm "_law_cell_here" "_law_prime" d43 fun _ _ _ _ _ _ _ _=>rfl
 refine⟨PySem.W.fnOf "law" "law" (eV eh) (dO eh) (aE eh) .none kV44 dc44 pm44 an44 cd44 ct44,fun s v=>.of_eq rfl,fun base KB GB=>?_⟩
 have XF:Xf K mg base gC fT:=vv KB GB hxf
 have C0:=@zv l.prog w K mg base D0 T
 have C1:CalX l.prog w K mg base "refuse_great_stair" 1 ["stair"] (nP K):=As D1 T ⟨_,PySem.W.mg_of X G v0⟩ ⟨_,PySem.W.mg_of X G v1⟩ XF
 have C2:=@xh l.prog w K mg base D2 T
 have C3:=@vp l.prog w K mg base D3 T C2
 have C4:=@vq l.prog w K mg base D4 T C3 C2
 have C5:=@vn l.prog w K mg base D5 T C4
 have C6:CalX l.prog w K mg base "refuse_no_stair" 5 ["thing"] (kG K):=Cm D6 T XF C5
 have C7:CalX l.prog w K mg base "refuse_bad_stair" 6 ["thing"] (kB K):=vE D7 T C1 C6
 have C8:CalX l.prog w K mg base "shown_stair" 7 ["stair"] (jv K):=wt D8 T C0 C7
 have C9:=@Cg l.prog w K mg base D9 T XF C8
 have C10:=@yj l.prog w K mg base D10 T
 have C11:=@zC l.prog w K mg base D11 T C10
 have C12:=@vB l.prog w K mg base D12 T C11 C10
 have C13:=@wL l.prog w K mg base D13 T C9 C12
 have C14:=@zp l.prog w K mg base D14 T ⟨_,PySem.W.mg_of X G v2⟩ ⟨_,PySem.W.mg_of X G v3⟩
 have C15:=@wU l.prog w K mg base D15 T C14
 have C16:=@xT l.prog w K mg base D16 T C15
 have C17:=@Ay l.prog w K mg base D17 T C5 C15 C16
 have C18:=@Cq l.prog w K mg base D18 T
 have C19:=@A6 l.prog w K mg base D19 T
 have C20:=@wJ l.prog w K mg base D20 T C19
 have C21:=@AU l.prog w K mg base D21 T C20
 have C22:=@BS l.prog w K mg base D22 T
 have C23:=@wK l.prog w K mg base D23 T
 have C24:=@Bv l.prog w K mg base D24 T C10
 have C25:=@BK l.prog w K mg base D25 T
 have C26:=@yE l.prog w K mg base D26 T
 have C27:=@Aj l.prog w K mg base D27 T ⟨_,PySem.W.mg_of X G x0,zo y0 w0⟩
 have C28:=@xx l.prog w K mg base D28 T C2
 have C29:=@yQ l.prog w K mg base D29 T C26 C27 C28
 have C30:=@AZ l.prog w K mg base D30 T ⟨_,PySem.W.mg_of X G v4⟩ C29
 have C31:=@zT l.prog w K mg base D31 T ⟨_,PySem.W.mg_of X G v5⟩ C30 C2
 have C32:=@Bo l.prog w K mg base D32 T C31
 have C33:=@zA l.prog w K mg base D33 T C25 C32
 have C34:=@vD l.prog w K mg base D34 T C15
 have C35:=@yo l.prog w K mg base D35 T C34
 have C36:=@Cj l.prog w K mg base D36 T C31 C35 C15
 have C37:=@BN l.prog w K mg base D37 T
 have C38:=@xC l.prog w K mg base D38 T
 have C39:=@wM l.prog w K mg base D39 T C38 C20
 have C40:=@Bj l.prog w K mg base D40 T C38 C20
 have C41:=@yV l.prog w K mg base D41 T C20
 have C42:=@xl l.prog w K mg base D42 T
 have C43:=@Cp l.prog w K mg base D43 T C39 C40 C41 C42 C20
 exact vC (oF (st:=eh) l44 c44 k44) T C13 C9 C17 C18 C12 C21 C22 C23 C24 C33 C36 C37 C20 C43 C8.cal
theorem walk{l:PySem.W.OpenLaw}{q:Program}{loose:List Str}{XP:(Str->Option Value)->Heap->Prop}{YP:World->Heap->Prop}{d:DefRec}{K:Params->CJ}(hn:l.most=some 63)(hdf:d.params.defaults=[])
  (hY:∀(w:World) (h:Heap),YP w h->(K w.params).In h)
  (F:∀(w:World) (mg:Str->Option Value) (fa:Addr) (h:Heap),(K w.params).In h->h.Ns mainGlobals mg->mg d.name=some (.ref fa) →
   ∃fd:FuncData,(∀(s:Shared) (u:Value),BindsTo s fd ⟨[u],[]⟩ [("_law_script",u)])/\∀base:Heap,(K w.params).In base->base.Ns mainGlobals mg->FnOk l.prog w (K w.params) mg base eu 10 fa fd ["_law_script"] (iX (K w.params))) :
  PySem.W.WalkO q loose XP YP l.row.toRowW d [] (fun f vs=>PySem.call f vs):=
 L2.yM (n:=63) (k:=10) (x:="_law_script") (CX:=fun _=>eu) (sp:=fun w=>iX (K w.params)) hn (by decide) hdf ⟨rfl,by decide,by decide⟩ hY F (fun _ _ a ns hl _ hS=>⟨a,ns,rfl,hS,hl,fun _=>rfl⟩) fun _ _ _ _ _ z=>z
end My
end
open PySem PySem.W PyProof.Rows
set_option maxRecDepth 100000 in
set_option maxHeartbeats 0 in
theorem PySem.Challenge.cw_stairrooms_k17_written_and_read_holds : PySem.Challenge.rw_stairrooms_k17_written_and_read.Holds := by
 refine My.top ?_
 k_fill
 refine My.walk (l := PySem.Challenge.rw_stairrooms_k17_written_and_read) rfl rfl (fun w h Y => by first | exact PySem.W.kIn_of Y | exact PySem.W.km_in_of Y) ?F
 case F =>
  intro w mg fa h KX G hmg
  have q := @My.dq _ _ _ KX G
  refine' My.all_mk KX G hmg (q ?a0 ?l0 ?c0 ?k0) (q ?a1 ?l1 ?c1 ?k1) (q ?a2 ?l2 ?c2 ?k2) (q ?a3 ?l3 ?c3 ?k3) (q ?a4 ?l4 ?c4 ?k4) (q ?a5 ?l5 ?c5 ?k5) (q ?a6 ?l6 ?c6 ?k6) (q ?a7 ?l7 ?c7 ?k7) (q ?a8 ?l8 ?c8 ?k8) (q ?a9 ?l9 ?c9 ?k9) (q ?a10 ?l10 ?c10 ?k10) (q ?a11 ?l11 ?c11 ?k11) (q ?a12 ?l12 ?c12 ?k12) (q ?a13 ?l13 ?c13 ?k13) (q ?a14 ?l14 ?c14 ?k14) (q ?a15 ?l15 ?c15 ?k15) (q ?a16 ?l16 ?c16 ?k16) (q ?a17 ?l17 ?c17 ?k17) (q ?a18 ?l18 ?c18 ?k18) (q ?a19 ?l19 ?c19 ?k19) (q ?a20 ?l20 ?c20 ?k20) (q ?a21 ?l21 ?c21 ?k21) (q ?a22 ?l22 ?c22 ?k22) (q ?a23 ?l23 ?c23 ?k23) (q ?a24 ?l24 ?c24 ?k24) (q ?a25 ?l25 ?c25 ?k25) (q ?a26 ?l26 ?c26 ?k26) (q ?a27 ?l27 ?c27 ?k27) (q ?a28 ?l28 ?c28 ?k28) (q ?a29 ?l29 ?c29 ?k29) (q ?a30 ?l30 ?c30 ?k30) (q ?a31 ?l31 ?c31 ?k31) (q ?a32 ?l32 ?c32 ?k32) (q ?a33 ?l33 ?c33 ?k33) (q ?a34 ?l34 ?c34 ?k34) (q ?a35 ?l35 ?c35 ?k35) (q ?a36 ?l36 ?c36 ?k36) (q ?a37 ?l37 ?c37 ?k37) (q ?a38 ?l38 ?c38 ?k38) (q ?a39 ?l39 ?c39 ?k39) (q ?a40 ?l40 ?c40 ?k40) (q ?a41 ?l41 ?c41 ?k41) (q ?a42 ?l42 ?c42 ?k42) (q ?a43 ?l43 ?c43 ?k43) ?a44 ?l44 ?c44 ?k44 ?z0 ?z1 ?z2 ?z3 ?z4 ?z5 ?z6 ?z7 ?z8 ?z9 ?z10 ?z11 ?z12 ?z13 ?z14 ?z15 ?v0 ?v1 ?v2 ?v3 ?v4 ?v5 ?x0 ?y0 ?w0 ?hxf
  case a0|l0|c0|k0|a1|l1|c1|k1|a2|l2|c2|k2|a3|l3|c3|k3|a4|l4|c4|k4|a5|l5|c5|k5|a6|l6|c6|k6|a7|l7|c7|k7|a8|l8|c8|k8|a9|l9|c9|k9|a10|l10|c10|k10|a11|l11|c11|k11|a12|l12|c12|k12|a13|l13|c13|k13|a14|l14|c14|k14|a15|l15|c15|k15|a16|l16|c16|k16|a17|l17|c17|k17|a18|l18|c18|k18|a19|l19|c19|k19|a20|l20|c20|k20|a21|l21|c21|k21|a22|l22|c22|k22|a23|l23|c23|k23|a24|l24|c24|k24|a25|l25|c25|k25|a26|l26|c26|k26|a27|l27|c27|k27|a28|l28|c28|k28|a29|l29|c29|k29|a30|l30|c30|k30|a31|l31|c31|k31|a32|l32|c32|k32|a33|l33|c33|k33|a34|l34|c34|k34|a35|l35|c35|k35|a36|l36|c36|k36|a37|l37|c37|k37|a38|l38|c38|k38|a39|l39|c39|k39|a40|l40|c40|k40|a41|l41|c41|k41|a42|l42|c42|k42|a43|l43|c43|k43|a44|l44|c44|k44|z0|z1|z2|z3|z4|z5|z6|z7|z8|z9|z10|z11|z12|z13|z14|z15|v0|v1|v2|v3|v4|v5=>k_is
  (case x0 => k_is); (case y0 => k_is); (case w0 => first | rfl | k_is)
  (case hxf => first | kernel_rfl | k_is)
