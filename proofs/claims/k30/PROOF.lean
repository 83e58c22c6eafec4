import PyProof.Rows.All
import Wide.All
import OpenK.AllK
import Wide.FinOn
import Lean
import PyProof.EqAt
import PyProof.EqKinds
import PyProof.TupleCall
import KE.KLam
import PySem.Challenge.RW_stairrooms_k30_whole_next_levels
set_option Elab.async false
namespace PySem.W.Fast
def tw7510876780533063307:=0
def tw7202536713510112722:=0
def tw9775477576787505727:=0
def tw7088528771483946522:=0
def tw9478813727029378433:=0
def tw11197206321084023391:=0
def tw11258306804293243132:=0
def tw3042810517636258726:=0
def tw15125771261956903258:=0
def tw3544651915260091173:=0
def tw3093781508513788219:=0
def tw14429984225472846677:=0
def tw4032797187871133914:=0
def tw6906642673584712280:=0
def tw14774234679712429206:=0
def tw6211967426479221364:=0
def tw2686718004561559855:=0
def tw8604979696160575008:=0
def tw10166892954511498249:=0
def tw12683310795314169836:=0
def tw4918694162171632466:=0
def tw16408023001231065620:=0
def tw11846370373574997029:=0
def tw14550693921475344484:=0
def tw3501889831259424984:=0
def tw13921919005729749812:=0
def tw12390782021942118942:=0
def tw13501672401922333513:=0
def tw8340926499216404060:=0
def tw13611136168108132581:=0
def tw1735571389945239771:=0
def tw1460478622569836974:=0
def tw18027755133952139252:=0
def tw13786455662358949411:=0
def tw12124443520851957044:=0
def tw902582806634263858:=0
def tw2696157109874119690:=0
def tw11655376856063916228:=0
def tw11030641428109492703:=0
def tw9248597171148506525:=0
def tw447717403241242290:=0
def tw15786528573266890262:=0
def tw12664327836493813462:=0
def tw8039774922555296384:=0
def tw7904445426397662059:=0
def tw684117499851941213:=0
def tw4997450903056089975:=0
def tw16843462989757039891:=0
def tw1057306937073154610:=0
def tw9878173891806150429:=0
def tw7875707854763748492:=0
def tw2904058922640873309:=0
def tw1754243070517289278:=0
def tw14832175709080873599:=0
def tw12441502783428931068:=0
def tw6658185936689682968:=0
def tw6181847661251503008:=0
def tw17375602352810135561:=0
def tw13809386149585982481:=0
def tw12678953225602555564:=0
def tw119775208399524090:=0
def tw9281662355237421915:=0
def tw705330452703051597:=0
def tw4672492687276399408:=0
def tw1921160878016633958:=0
def tw18038851775406917655:=0
def tw16840622159041910090:=0
def tw14292392306617517729:=0
def tw11971130579796114034:=0
def tw11198388801270196117:=0
def tw7240639191980452486:=0
def tw4817981600543833687:=0
def tw4307926830116509514:=0
def tw16826725409987885975:=0
def tw13298203722689827917:=0
def tw8047032804361144261:=0
def tw5581349078452510653:=0
def tw4355615645706949100:=0
def tw1897875410602398997:=0
def tw17357414001117552268:=0
def tw16980547499210933930:=0
def tw1304240117979556626:=0
def tw13021086612755893400:=0
def tw12249993202121903794:=0
def tw10154314827766144001:=0
def tw7750769465160294860:=0
def tw6714801024506940561:=0
def tw512557566824241540:=0
def tw439055297870408345:=0
def tw3427924564325372817:=0
def tw17843169823834903998:=0
def tw1703860651114587486:=0
def tw14876317631354250296:=0
def tw14397947794671477899:=0
def tw11858878876565515630:=0
def tw11701492411309977178:=0
def tw10760031201136348398:=0
def tw5442971307982108685:=0
def tw4532786408525356839:=0
def tw4202673366249849491:=0
def tw3797301031838899788:=0
def tw18101583386606535240:=0
def tw15860708213811878519:=0
def tw15729792075999087868:=0
def tw14800109303040266240:=0
def tw12632963454795662708:=0
def tw10602856759635532317:=0
def tw8612541938085228305:=0
def tw8487562230406468105:=0
def tw8377945894465552080:=0
def tw8229460734390689525:=0
def tw8089249423132065445:=0
def tw7341270039093922885:=0
def tw7134983793405793177:=0
def tw7115244209674446852:=0
def tw6329672369177362234:=0
def tw5819105399919881484:=0
def tw5140171473248983199:=0
def tw5010354932100547165:=0
def tw3866599564448483793:=0
def tw3104486758596841148:=0
def tw2342838551658309370:=0
def tw18032779900021213040:=0
def tw17571631200592639834:=0
def tw17065142239566038489:=0
def tw16988158499489311127:=0
def tw16964212798373946863:=0
def tw16743919102785911483:=0
def tw16283258727396688951:=0
def tw16245695487900975421:=0
def tw15104015179872336855:=0
def tw14775263502782431712:=0
def tw14670137783204244808:=0
def tw14585778381282314952:=0
def tw14221475358252599964:=0
def tw13135487405686255751:=0
def tw12996499756298277263:=0
def tw12357872333080808881:=0
def tw11787554532782738252:=0
def tw11339562753883754242:=0
def tw1069010634818593453:=0
def tw10035081181641441020:=0
def tw8035931760809384120:=0
def tw7848866751621661257:=0
def tw762384175361060421:=0
def tw6744984778823417519:=0
def tw5425565988235752197:=0
def tw18127141830633905074:=0
def tw17843839365795533554:=0
def tw17584191335013195612:=0
def tw17423125552162021742:=0
def tw17104333970416622323:=0
def tw1612923964453859806:=0
def tw15968237232650601322:=0
def tw1488503510874697304:=0
def tw10095913671755900038:=0
def tw7897135418779063302:=0
def tw7539763571100840771:=0
def tw6093179522131556990:=0
def tw5956051100702781606:=0
def tw5295854211047901153:=0
def tw4769826392853288355:=0
def tw4074507585887532813:=0
def tw3760063030202703356:=0
def tw3566807236516140644:=0
def tw3015604971527890583:=0
def tw16180315334032665911:=0
def tw15945904282836308387:=0
def tw15829181571673270705:=0
def tw15142431143280010732:=0
def tw14977234088687162302:=0
def tw1492062709326496596:=0
def tw13647187277582396961:=0
def tw12296552071639831032:=0
def tw11166862733661299840:=0
def tw7175792842613744815:=0
def tw6350474685870504171:=0
def tw3830783680494933951:=0
def tw3121732170634265723:=0
def tw2520694231678862498:=0
def tw193794278739742225:=0
def tw17716863462265859512:=0
def tw13587954947775276195:=0
def tw12261729195969336472:=0
def tw9834661911540460081:=0
def tw931510637493425866:=0
def tw8938549127931359579:=0
def tw8863156965792605256:=0
def tw8783073200307453229:=0
def tw8770029601138628478:=0
def tw8562296191053873827:=0
def tw8385567426930851361:=0
def tw8184033042858750843:=0
def tw7863108119856694670:=0
def tw7693350481814642131:=0
def tw7627118995241731642:=0
def tw720755081136891062:=0
def tw6704578965310311189:=0
def tw6393150591798677637:=0
def tw6252878086273825581:=0
def tw6008010531490865865:=0
def tw5190860397250508396:=0
def tw5051596291613938045:=0
def tw4992925186480290751:=0
def tw4933930183700603765:=0
def tw477595423994022719:=0
def tw4566636315000093172:=0
def tw4169430970946328830:=0
def tw3975676623463710300:=0
def tw397431815971221653:=0
def tw3941131271490555836:=0
def tw3725507860900426652:=0
def tw3717059985081176457:=0
def tw3711776433476670718:=0
def tw3465091326942903629:=0
def tw3299272117925849540:=0
def tw3268437569422444630:=0
def tw3258786278723069861:=0
def tw3096949930750721708:=0
def tw1980078614172103820:=0
def tw18334927389422029420:=0
def tw17994301212061070119:=0
def tw17990003072128590093:=0
def tw17925923492730016652:=0
def tw17831088686795452451:=0
def tw17628590533929976792:=0
def tw17415715754555401154:=0
def tw17405045028177135956:=0
def tw16821967185522334815:=0
def tw1682181479755940848:=0
def tw16661212229125270991:=0
def tw16575673167688372683:=0
def tw16503717402094505217:=0
def tw16221219022901355867:=0
def tw16164986634524919498:=0
def tw15924826414491783191:=0
def tw15641575440650329080:=0
def tw15565656631415577005:=0
def tw15291515778787918541:=0
def tw15269425654929456476:=0
def tw14882510809304047780:=0
def tw14849095896601040367:=0
def tw14836224472968703893:=0
def tw14650229311272632197:=0
def tw14560837491469231475:=0
def tw14324394720252608761:=0
def tw14322595565739780087:=0
def tw13817142068744991791:=0
def tw13769731409856085057:=0
def tw13732165248360646341:=0
def tw13385619842731796546:=0
def tw12650994420537281789:=0
def tw12340981958623863397:=0
def tw11892039915525360660:=0
def tw11860059332995364445:=0
def tw11788803944947964044:=0
def tw11612187849094769778:=0
def tw11137535781475439334:=0
def tw11040902395418374828:=0
def tw10846541316933110243:=0
def tw10785498421680218836:=0
def tw10500720501580190231:=0
def tw10150324261921262226:=0
def tw10121643642846045468:=0
def tw10053539800044614232:=0
def tw9816307224394526710:=0
def tw9602979466950630956:=0
def tw912290570786946579:=0
def tw8777541643666118068:=0
def tw8722415481117505015:=0
def tw8572175281459272771:=0
def tw8568187914498332850:=0
def tw8444893750286939596:=0
def tw8125407811402774585:=0
def tw7552210041123771490:=0
def tw684210181549580303:=0
def tw6340304130596135008:=0
def tw6169767553621521813:=0
def tw6158425238486604569:=0
def tw5920227957080817638:=0
def tw5096499008420852698:=0
def tw3612554134655720397:=0
def tw2567624805475646970:=0
def tw2093290091728733057:=0
def tw17908656721387608039:=0
def tw17795394019121955329:=0
def tw16219145617115034907:=0
def tw15414259988211055499:=0
def tw15186367229040268510:=0
def tw1488474676173749703:=0
def tw14415884991196681418:=0
def tw1428814744893504695:=0
def tw13746588304753895505:=0
def tw11551815002882820457:=0
def tw10424792985553544811:=0
def tw10017577030591726147:=0
def tw9930359092145622687:=0
def tw976709547398631384:=0
def tw974001917477778970:=0
def tw9591621326534694922:=0
def tw9590536906216307355:=0
def tw9578026534446552097:=0
def tw9254883793231693245:=0
def tw9119751986894142981:=0
def tw9002392303285804385:=0
def tw8338600121835276020:=0
def tw8186763794367992775:=0
def tw8037652997034423971:=0
def tw7956301941440062040:=0
def tw7393957277229836691:=0
def tw7259079589770855615:=0
def tw6942357351460751399:=0
def tw6878535200312667207:=0
def tw6429728187070590260:=0
def tw621812022307901172:=0
def tw5994711959094706394:=0
def tw5950158449063615346:=0
def tw590611807225418770:=0
def tw5821001088122574322:=0
def tw5717963241065829162:=0
def tw5533809914848052129:=0
def tw5430882940802126740:=0
def tw5350998768358884751:=0
def tw5019332986140449700:=0
def tw4869967250276580588:=0
def tw4855646995411632120:=0
def tw4797132809794432123:=0
def tw4337561567144917162:=0
def tw4256779784062091372:=0
def tw4138905410403352593:=0
def tw3855077825024126993:=0
def tw3436359320994789115:=0
def tw3415376743198261602:=0
def tw3220723017206680370:=0
def tw3182821167057557991:=0
def tw3017139974649574989:=0
def tw2904033067149887106:=0
def tw2780415966309772251:=0
def tw2448602276733661166:=0
def tw2308842233520690658:=0
def tw2248526150547823735:=0
def tw2217001567337907910:=0
def tw2187499721780371684:=0
def tw2045930578084102194:=0
def tw2020109458520273824:=0
def tw1901317781093569649:=0
def tw1856151083423349262:=0
def tw18324572440802094995:=0
def tw1818218476948158209:=0
def tw18159918767601648018:=0
def tw18133197322224867361:=0
def tw18066811921283522515:=0
def tw179189376934874584:=0
def tw17694846207451314135:=0
def tw17690871460500525271:=0
def tw17652695096001567504:=0
def tw17645572048654386869:=0
def tw17644514534155135092:=0
def tw17581992280946622230:=0
def tw17438179399263098937:=0
def tw17405974757215459542:=0
def tw17238752558760652402:=0
def tw17218974888202052536:=0
def tw17076493798685594974:=0
def tw17002439396945247550:=0
def tw16924412733494049589:=0
def tw1691102865124860179:=0
def tw16868688195037900307:=0
def tw16835956152608702361:=0
def tw16622475990643145580:=0
def tw16477329177891185698:=0
def tw1637453852661378490:=0
def tw16291882091215157828:=0
def tw15831574140416324556:=0
def tw15732654264858244716:=0
def tw15319796435752655959:=0
def tw15266785391687444539:=0
def tw15003257448840769609:=0
def tw14931363111589739018:=0
def tw14867130098325134529:=0
def tw14793259975867257014:=0
def tw1465564398378206461:=0
def tw14635225500592789833:=0
def tw13841191037290658594:=0
def tw1382559312744143635:=0
def tw13820470126673855253:=0
def tw13788262537284159298:=0
def tw13752025206567590305:=0
def tw13679643304169797691:=0
def tw13140385074510843379:=0
def tw12993445975515111361:=0
def tw12679859039530741841:=0
def tw11985937269989024962:=0
def tw119674054762100072:=0
def tw11801650391622900179:=0
def tw11687504721054253588:=0
def tw11665305186481523908:=0
def tw11644868132232139897:=0
def tw11605670760853518920:=0
def tw11560677996495128784:=0
def tw11469663846147530161:=0
def tw11383850339681254435:=0
def tw11365700717142005424:=0
def tw11364142691922409913:=0
def tw11362101791794971524:=0
def tw11296645311156999791:=0
def tw11282886037220131173:=0
def tw11029396596865941829:=0
def tw10769681086646498438:=0
def tw10698238366409207256:=0
def tw10263077061500514125:=0
end PySem.W.Fast
section
open PySem PySem.W PyProof.Rows
set_option maxRecDepth 100000 in
set_option maxHeartbeats 0 in
open_top My.top for PySem.Challenge.rw_stairrooms_k30_whole_next_levels
end
set_option linter.all false
set_option maxRecDepth 100000
set_option maxHeartbeats 4000000
open PySem renaming wpAny_bind→Dr
open PySem renaming wpAny_pure→Dt
open PySem.W renaming Frag→Du
open PySem.Heap renaming get?_push_of_some→Dv
open PySem.Heap renaming get?_push_size→Dw
open PySem.Heap renaming lt_size→Dx
open List renaming length_map→Dy
open List renaming getElem?_eq_getElem→Dz
open List renaming getElem?_map→DA
open List renaming mem_cons_of_mem→DB
open Array renaming length_toList→DC
open List renaming size_toArray→DD
open List renaming mem_cons_self→DE
open PySem.F renaming plainAttrs_list→DF
open List renaming getElem?_eq_some_iff→DG
open List renaming mem_of_getElem?→DH
open List renaming mem_singleton→DI
open Option renaming map_eq_some_iff→DJ
open Int renaming toNat_natCast→DK
open Int renaming toNat_of_nonneg→DL
open List renaming mem_cons→DM
open Bool renaming false_ne_true→DN
open List renaming map_append→DO
open List renaming length_append→DP
open Nat renaming ne_of_lt→DQ
open Nat renaming le_refl→DR
open PySem.F renaming slot_list_append→DS
open PySem.F renaming type_list_append→DT
open List renaming mem_append→DU
open List renaming getElem?_append_right→DV
open List renaming getElem?_append_left→DW
open List renaming getElem_mem→DX
open List renaming length_cons→DY
open List renaming take_length→DZ
open Nat renaming lt_of_lt_of_le→Ea
open Nat renaming le_trans→Eb
open List renaming not_mem_nil→Ec
open List renaming all_eq_true→Ed
open List renaming any_eq_true→Ee
open Bool renaming eq_iff_iff→Ef
open Bool renaming and_eq_true→Eg
noncomputable section
namespace L2
open PySem PySem.Spec PyProof.Rows
abbrev Key:=Sum Int Str
def gL:Key->Value->Bool
 | .inl k,v=>Value.isInt k v
 | .inr x,v=>Value.isStrOf x v
def Ab(w:World):Key->Int
 | .inl k=>hashInt k
 | .inr x=>hashStr w x
theorem eZ:∀{k:Key} {v:Value},gL k v=true->(∃i t,k=Sum.inl i/\v=Value.int i t)\/(∃x t,k=Sum.inr x/\v=Value.str x t)
 | .inl i,v,h=>by
  obtain⟨t,e⟩:=Value.isInt_shape (k:=i) (v:=v) h
  exact .inl ⟨i,t,rfl,e⟩
 | .inr x,v,h=>by
  obtain⟨t,e⟩:=Value.isStrOf_shape (x:=x) (v:=v) h
  exact .inr ⟨x,t,rfl,e⟩
theorem zB(i:Int)(t:Tok):gL (.inl i) (.int i t)=true:=by simp[gL,Value.isInt]
theorem BA(x:Str)(t:Tok):gL (.inr x) (.str x t)=true:=by simp[gL,Value.isStrOf]
theorem BM(a b:Int):decide ((Sum.inl a:Key)=Sum.inl b)=(a == b):=by
 by_cases e:a=b
 ·subst e;simp
 ·have h:¬(Sum.inl a:Key)=Sum.inl b:=fun q=>e (Sum.inl.inj q)
  rw[decide_eq_false h]
  exact(beq_eq_false_iff_ne.mpr e).symm
theorem Aq(a b:Str):decide ((Sum.inr a:Key)=Sum.inr b)=decide (a=b):=by
 by_cases e:a=b
 ·subst e;simp
 ·have h:¬(Sum.inr a:Key)=Sum.inr b:=fun q=>e (Sum.inr.inj q)
  rw[decide_eq_false h,decide_eq_false e]
theorem Bq(a:Int)(b:Str):decide ((Sum.inl a:Key)=Sum.inr b)=false:=decide_eq_false (fun q=>nomatch q)
theorem xA(a:Str)(b:Int):decide ((Sum.inr a:Key)=Sum.inl b)=false:=decide_eq_false (fun q=>nomatch q)
def bU(prog:Program)(w:World):PySem.KeyKind prog w Key where
 is:=gL
 hash:=Ab w
 inj:=fun v a b ha hb=>by
  rcases eZ ha with⟨i,t,rfl,rfl⟩ | ⟨x,t,rfl,rfl⟩
  ·rcases eZ hb with⟨j,u,rfl,e⟩ | ⟨y,u,rfl,e⟩
   ·injection e with e1 _;rw[e1]
   ·exact nomatch e
  ·rcases eZ hb with⟨j,u,rfl,e⟩ | ⟨y,u,rfl,e⟩
   ·exact nomatch e
   ·injection e with e1 _;rw[e1]
 byValue:=fun k v h=>by
  rcases eZ h with⟨i,t,rfl,rfl⟩ | ⟨x,t,rfl,rfl⟩<;>rfl
 pyHash:=fun hv h=>by
  rcases eZ hv with⟨i,t,rfl,rfl⟩ | ⟨x,t,rfl,rfl⟩
  ·exact wpAny_pyHash_int h
  ·exact wpAny_pyHash_str h
 eqBool:=fun hu hv h=>by
  rcases eZ hu with⟨i,t,rfl,rfl⟩ | ⟨x,t,rfl,rfl⟩
  ·rcases eZ hv with⟨j,u,rfl,rfl⟩ | ⟨y,u,rfl,rfl⟩
   ·rw[BM]at h;exact wpAny_eqBool_int h
   ·rw[Bq]at h;exact SeqAt.EqAt.int_str i t y u _ _ _ _ h
  ·rcases eZ hv with⟨j,u,rfl,rfl⟩ | ⟨y,u,rfl,rfl⟩
   ·rw[xA]at h;exact SeqAt.EqAt.str_int x t j u _ _ _ _ h
   ·rw[Aq]at h;exact wpAny_eqBool_str h
 «strs»:=fun k x t v h=>by
  rcases eZ h with⟨i,u,rfl,e⟩ | ⟨y,u,rfl,e⟩
  ·exact nomatch e
  ·injection e with e1 _
   subst e1
   cases v<;>rfl
theorem xp(prog:Program)(w:World)(i:Int)(t:Tok):(bU prog w).is (.inl i) (.int i t)=true:=zB i t
theorem lT(prog:Program)(w:World)(x:Str)(t:Tok):(bU prog w).is (.inr x) (.str x t)=true:=BA x t
end L2
namespace L2
open PySem PySem.Spec PyProof.Rows
inductive V where
 | non | bl (b:Bool) | int (i:Int) | str (x:Str) | byt (b:Array UInt8) | flt (b:UInt64) | ref (a:Addr) | ty (n:String)
 deriving DecidableEq
def RelV:V->Value->Prop
 | .non,u=>u=Value.none
 | .bl b,u=>u=Value.bool b
 | .int i,u=>∃t,u=Value.int i t
 | .str x,u=>∃t,u=Value.str x t
 | .byt b,u=>∃t,u=Value.bytes b t
 | .flt b,u=>∃t,u=Value.float b t
 | .ref a,u=>u=Value.ref a
 | .ty n,u=>u=Value.type n
abbrev Vals:List V->List Value->Prop:=Paired RelV
theorem Vals.length{xs:List V}{us:List Value}(r:Vals xs us):xs.length=us.length:=Paired.length r
theorem Vals.get:∀{xs:List V} {us:List Value} {i:Nat} {x:V},Vals xs us->xs[i]?=some x->∃u,us[i]?=some u/\RelV x u
 | _,_,_,_,.nil,e=>by simp at e
 | _,_,0,_,.cons r _,e=>by simp at e;subst e;exact⟨_,rfl,r⟩
 | _,_,i+1,x,.cons _ t,e=>by
  obtain⟨u,h1,h2⟩:=Vals.get (i:=i) (x:=x) t (by simpa using e)
  exact⟨u,by simpa using h1,h2⟩
theorem Vals.set{x:V}{u:Value}(r:RelV x u):∀{xs:List V} {us:List Value} (i:Nat),Vals xs us->Vals (xs.set i x) (us.set i u)
 | _,_,_,.nil=>.nil
 | _,_,0,.cons _ t=>.cons r t
 | _,_,i+1,.cons q t=>.cons q (Vals.set r i t)
theorem Vals.append:∀{xs ys:List V} {us ws:List Value},Vals xs us->Vals ys ws->Vals (xs++ys) (us++ws)
 | _,_,_,_,.nil,s=>s
 | _,_,_,_,.cons r t,s=>.cons r (Vals.append t s)
theorem Vals.take:∀{xs:List V} {us:List Value} (n:Nat),Vals xs us->Vals (xs.take n) (us.take n)
 | _,_,0,_=>.nil
 | _,_,_+1,.nil=>.nil
 | _,_,n+1,.cons r t=>.cons r (Vals.take n t)
theorem Vals.drop:∀{xs:List V} {us:List Value} (n:Nat),Vals xs us->Vals (xs.drop n) (us.drop n)
 | _,_,0,r=>r
 | _,_,_+1,.nil=>.nil
 | _,_,n+1,.cons _ t=>Vals.drop n t
def dF:Option V->Option Value->Prop
 | some v,some u=>RelV v u
 | none,none=>True
 | _,_=>False
def KV{κ:Type}:List (κ×V)->List (κ×Value)->Prop:=Paired fun(p:κ×V) (q:κ×Value)=>p.1=q.1/\RelV p.2 q.2
def kV:Key->V
 | .inl i=>.int i
 | .inr x=>.str x
inductive HO where
 /-- a list -/
 | lst (xs:List V)
 /-- a tuple (never changes) -/
 | tup (xs:List V)
 /-- a dict whose keys are ints and texts;one whose keys are tuples of ints and texts (the empty one is both) -/
 | dK (kvs:List (Key×V)) | dT (kvs:List (List Key×V))
 /-- a set of ints: its members,its size -/
 | set (S:Int->Bool) (n:Nat)
 /-- an instance of the class at C,its dict at dx,its attributes -/
 | ins (C dx:Addr) (fs:List (Str×V))
 /-- the dict of the instance at x -/
 | own (x:Addr)
 /-- the dict of an exception -/
 | xd (fs:List (Str×V))
 /-- a bound method,f of x -/
 | met (f x:Addr)
 /-- a range object lo,lo+1,.. below hi -/
 | rng (lo hi:Int)
 /-- a thing that is known to the object (the script;a dict while a loop walks it): read,never written while it is so -/
 | frz (o:Obj) (u:HO)
 /-- a code object's table -/
 | tbl (ps:Array Value)
 /-- any other thing,by what is true of its one object (a def of one's own: SetO a S n:=HO.ext fun h=>..) -/
 | ext (φ:Heap->Prop)
abbrev Hp:=Addr->Option HO
def upd(H:Hp)(a:Addr)(o:HO):Hp:=fun b=>if b=a then some o else H b
theorem aH{H:Hp}{a:Addr}{o:HO}:upd H a o a=some o:=by unfold upd;rw[if_pos rfl]
theorem aB{H:Hp}{a b:Addr}{o:HO}(h:b≠a):upd H a o b=H b:=by unfold upd;rw[if_neg h]
theorem dJ{H:Hp}{a b:Addr}{o u:HO}(h:H a=some o)(h':H b=some u)(d:o≠u):a≠b:=by
 intro e;subst e;rw[h]at h';exact d (Option.some.inj h')
theorem cw{H:Hp}{a b:Addr}{o:HO}(h:H a=some o)(h':H b=none):a≠b:=by
 intro e;subst e;rw[h]at h';cases h'
section
variable (P:Program) (w:World)
def bj(H:Hp)(h:Heap)(a:Addr):HO->Prop
 | .lst xs=>xs.length<=sizeLine/\∃(its:List Value) (n:Nat),Vals xs its/\h.get? a=some { cls:=.type "list",data:=.seq its.toArray n }
 | .tup xs=>xs.length<=sizeLine/\∃its:List Value,Vals xs its/\IsTup h a its.toArray
 | .dK kvs=>kvs.length<=sizeLine/\(a == sysModules)=false/\∃vs,KV kvs vs/\h.DictOf (bU P w) a vs
 | .dT kvs=>kvs.length<=sizeLine/\(a == sysModules)=false/\∃xs:List (List Key×Addr×Value),
   Paired (fun(p:List Key×V) (q:List Key×Addr×Value)=>p.1=q.1/\H q.2.1=some (.tup (p.1.map kV))/\RelV p.2 q.2.2) kvs xs ∧
   ∃o es ep,h.get? a=some o/\o.ExactDict/\o.data=.dict es ep/\es.toList=xs.map (entryOfKey (tupleKind (bU P w)))/\(xs.map (·.1)).Nodup
 | .set S n=>h.SetOf (intKind P w) a S n
 | .ins C dx fs=>H dx=some (.own a)/\fs.length<=1000/\dx≠a/\h.get? a=some (PySem.W.instObj C dx) ∧
   ∃mA,h.Ns1 dx mA/\(∀f,dF (fs.lookup f) (mA f))/\PySem.Within mA (fs.map (·.1))
 | .own _=>∃o,h.get? a=some o
 | .xd fs=>∃mA,h.Ns1 a mA/\∀f,dF (fs.lookup f) (mA f)
 | .rng lo hi=>∃t u v,h.get? a=some { cls:=.type "range",data:=.fields #[.int lo t,.int hi u,.int 1 v] }
 | .frz o u=>h.get? a=some o/\bj H h a u
 | .tbl ps=>h.get? a=some { cls:=.none,data:=.fields ps }
 | .met f x=>h.get? a=some (PySem.W.methodObj (.ref f) (.ref x))
 | .ext φ=>φ h/\(∃o,h.get? a=some o)/\∀h1 h2:Heap,φ h1->(∀o,h1.get? a=some o->h2.get? a=some o)->φ h2
def bh(H:Hp)(h:Heap):Prop:=∀a o,H a=some o->bj P w H h a o
end
section
variable {P:Program} {w:World} {H H':Hp} {h h':Heap} {a:Addr} {o:HO}
theorem bj.lt(x:bj P w H h a o):a<h.objs.size:=by
 cases o with
 | lst xs=>obtain⟨_,_,_,_,e⟩:=x;exact Dx e
 | tup xs=>obtain⟨_,_,_,p⟩:=x;exact p.lt
 | dK kvs=>obtain⟨_,_,_,_,o,_,_,e,_⟩:=x;exact Dx e
 | dT kvs=>obtain⟨_,_,_,_,o,_,_,e,_⟩:=x;exact Dx e
 | set S n=>obtain⟨o,_,_,_,e,_⟩:=x;exact Dx e
 | ins C dx fs=>obtain⟨_,_,_,e,_⟩:=x;exact Dx e
 | own y=>obtain⟨_,e⟩:=x;exact Dx e
 | xd fs=>obtain⟨_,⟨_,_,_,e,_⟩,_⟩:=x;exact Dx e
 | rng lo hi=>obtain⟨_,_,_,e⟩:=x;exact Dx e
 | frz ob u=>obtain⟨e,_⟩:=x;exact Dx e
 | tbl ps=>exact Dx (show h.get? a=some _ from x)
 | met f y=>exact Dx (show h.get? a=some _ from x)
 | ext φ=>obtain⟨_,⟨_,e⟩,_⟩:=x;exact Dx e
theorem Paired.mapP{α β:Type}{F G:α->β->Prop}:∀{l₁:List α} {l₂:List β},Paired F l₁ l₂->(∀a b,F a b->G a b)->Paired G l₁ l₂
 | _,_,.nil,_=>.nil
 | _,_,.cons r t,f=>.cons (f _ _ r) (Paired.mapP t f)
theorem bj.stay(x:bj P w H h a o)(k:∀b u,(b=a\/H b=some (.own a))->h.get? b=some u->h'.get? b=some u)
  (ho:∀b,H b=some (.own a)->H' b=some (.own a)) (ht:∀b xs,H b=some (.tup xs)->H' b=some (.tup xs)):bj P w H' h' a o:=by
 induction o with
 | lst xs=>obtain⟨z,its,n,r,e⟩:=x;exact⟨z,its,n,r,k _ _ (.inl rfl) e⟩
 | tup xs=>obtain⟨z,its,r,ob,e,c⟩:=x;exact⟨z,its,r,ob,k _ _ (.inl rfl) e,c⟩
 | dK kvs=>obtain⟨z,y,vs,r,ob,es,ep,e,c⟩:=x;exact⟨z,y,vs,r,ob,es,ep,k _ _ (.inl rfl) e,c⟩
 | dT kvs=>
  obtain⟨z,y,xs,r,ob,es,ep,e,c⟩:=x
  exact⟨z,y,xs,Paired.mapP r fun p q z=>⟨z.1,ht _ _ z.2.1,z.2.2⟩,ob,es,ep,k _ _ (.inl rfl) e,c⟩
 | set S n=>obtain⟨ob,es,ep,t,e,c⟩:=x;exact⟨ob,es,ep,t,k _ _ (.inl rfl) e,c⟩
 | ins C dx fs=>
  obtain⟨d,z,ne,e,mA,⟨od,es,ep,e2,c⟩,r⟩:=x
  exact⟨ho _ d,z,ne,k _ _ (.inl rfl) e,mA,⟨od,es,ep,k _ _ (.inr d) e2,c⟩,r⟩
 | own y=>obtain⟨ob,e⟩:=x;exact⟨ob,k _ _ (.inl rfl) e⟩
 | xd fs=>obtain⟨mA,⟨od,es,ep,e,c⟩,r⟩:=x;exact⟨mA,⟨od,es,ep,k _ _ (.inl rfl) e,c⟩,r⟩
 | rng lo hi=>obtain⟨t,u,v,e⟩:=x;exact⟨t,u,v,k _ _ (.inl rfl) e⟩
 | frz ob u ih=>obtain⟨e,q⟩:=x;exact⟨k _ _ (.inl rfl) e,ih q⟩
 | tbl ps=>
  have e:h.get? a=some { cls:=.none,data:=.fields ps }:=x
  show h'.get? a=some { cls:=.none,data:=.fields ps }
  exact k a _ (.inl rfl) e
 | met f y=>
  have e:h.get? a=some (PySem.W.methodObj (.ref f) (.ref y)):=x
  show h'.get? a=some (PySem.W.methodObj (.ref f) (.ref y))
  exact k a _ (.inl rfl) e
 | ext φ=>obtain⟨p,⟨o,e⟩,st⟩:=x;exact⟨st _ _ p fun o q=>k _ _ (.inl rfl) q,⟨o,k _ _ (.inl rfl) e⟩,st⟩
theorem bh.lt(x:bh P w H h)(e:H a=some o):a<h.objs.size:=(x a o e).lt
theorem bh.fresh(x:bh P w H h)(e:h.objs.size<=a):H a=none:=by
 cases q:H a with
 | none=>rfl
 | some u=>exact absurd (Ea (x.lt q) e) (Nat.lt_irrefl _)
theorem bh.kept(x:bh P w H h)(k:∀b u,h.get? b=some u->h'.get? b=some u):bh P w H h':=fun a o e=>
 (x a o e).stay (fun b u _ q=>k b u q) (fun _ q=>q) fun _ _ q=>q
theorem bh.laid(x:bh P w H h)(k:∀b u,h.get? b=some u->h'.get? b=some u)(hp:h.objs.size<=a)(new:bj P w (upd H a o) h' a o):bh P w (upd H a o) h':=fun b u e=>by
 have hn:=x.fresh hp
 by_cases hb:b=a
 ·subst hb;rw[aH]at e;cases e;exact new
 ·rw[aB hb]at e
  exact(x b u e).stay (fun c v _ q=>k c v q) (fun c q=>by rw[aB (cw q hn)];exact q) fun c xs q=>by rw[aB (cw q hn)];exact q
end
def Rd(H:Hp)(a:Addr)(u:HO):Prop:=H a=some u\/∃o,H a=some (.frz o u)
theorem Rd.ok{P:Program}{w:World}{H:Hp}{h:Heap}{a:Addr}{u:HO}(r:Rd H a u)(x:bh P w H h):bj P w H h a u:=by
 rcases r with r | ⟨o,r⟩
 ·exact x a u r
 ·obtain⟨_,q⟩:=x a _ r
  exact q
def i4:Option HO->Prop
 | some (.lst _)=>True
 | some (.dK _)=>True
 | some (.dT _)=>True
 | some (.set _ _)=>True
 | some (.ins _ _ _)=>True
 | some (.ext _)=>True
 | _=>False
section
variable {P:Program} {w:World} {H:Hp} {h h':Heap} {x e:Addr} {o':HO}
theorem bh.write(ok:bh P w H h)(mu:i4 (H x))(he:e=x\/H e=some (.own x))(k:∀b u,b≠e->h.get? b=some u->h'.get? b=some u)(heo:∃u,h'.get? e=some u)
  (new:bj P w (upd H x o') h' x o'):bh P w (upd H x o') h':=fun b u q=>by
 have nown:∀c y,H c=some (.own y)->c≠x:=fun c y r z=>by subst z;rw[r]at mu;exact mu
 have ntup:∀c xs,H c=some (.tup xs)->c≠x:=fun c xs r z=>by subst z;rw[r]at mu;exact mu
 by_cases hb:b=x
 ·subst hb;rw[aH]at q;cases q;exact new
 ·rw[aB hb]at q
  by_cases hbe:b=e
  ·have q':H b=some (.own x):=by
    rcases he with z | z
    ·exact absurd (hbe.trans z) hb
    ·rw[hbe];exact z
   rw[q]at q';cases q'
   obtain⟨v,hv⟩:=heo
   exact⟨v,by rw[hbe];exact hv⟩
  ·refine(ok b u q).stay (fun c v hc r=>k c v ?_ r) (fun c r=>by rw[aB (nown c b r)];exact r) fun c xs r=>by rw[aB (ntup c xs r)];exact r
   rcases hc with rfl | hc
   ·exact hbe
   ·rintro rfl
    rcases he with z | z
    ·exact nown c b hc z
    ·rw[hc]at z;cases z;exact hb rfl
end
structure Un(fs ex:List Addr)(H H':Hp)(h h':Heap):Prop where
 keep:∀b o,h.get? b=some o->H b=none->b∉fs->b∉ex->h'.get? b=some o
 slot:∀b o,h.get? b=some o->H b=none->b∈fs->b∉ex->∃sl,h'.get? b=some { o with slots:=sl }
 free:∀b o,h.get? b=some o->H b=none->b∉ex->H' b=none
 there:∀b o,h.get? b=some o->b∉ex->∃o',h'.get? b=some o'
 tups:∀b xs,H b=some (.tup xs)->H' b=some (.tup xs)
 frzs:∀b o u,H b=some (.frz o u)->H' b=some (.frz o u)
 tbls:∀b ps,H b=some (.tbl ps)->∃more,H' b=some (.tbl (ps++more))
section
variable {fs fs' ex ex':List Addr} {H H1 H2:Hp} {h h1 h2 h':Heap} {a x e:Addr} {o:HO}
theorem Un.any(u:Un fs ex H H1 h h1){b:Addr}{ob:Obj}(q:h.get? b=some ob)(n:H b=none)(hx:b∉ex):∃sl,h1.get? b=some { ob with slots:=sl }:=by
 by_cases hb:b∈fs
 ·exact u.slot b ob q n hb hx
 ·exact⟨ob.slots,u.keep b ob q n hb hx⟩
theorem Un.kept(k:∀b u,h.get? b=some u->h'.get? b=some u):Un fs ex H H h h':=
 ⟨fun b ob q _ _ _=>k b ob q,fun b ob q _ _ _=>⟨ob.slots,k b ob q⟩,fun _ _ _ n _=>n,fun b ob q _=>⟨ob,k b ob q⟩,fun _ _ q=>q,fun _ _ _ q=>q,fun _ ps q=>⟨#[],by rw[q];simp⟩⟩
theorem Un.refl:Un fs ex H H h h:=Un.kept fun _ _ q=>q
theorem Un.laid(k:∀b u,h.get? b=some u->h'.get? b=some u)(hp:h.objs.size<=a)(hn:H a=none):Un fs ex H (upd H a o) h h' where
 keep:=fun b u q _ _ _=>k b u q
 slot:=fun b u q _ _ _=>⟨u.slots,k b u q⟩
 free:=fun b u q n _=>by rw[aB (DQ (Ea (Dx q) hp))];exact n
 there:=fun b u q _=>⟨u,k b u q⟩
 tups:=fun b xs q=>by rw[aB (cw q hn)];exact q
 frzs:=fun b u xs q=>by rw[aB (cw q hn)];exact q
 tbls:=fun b ps q=>⟨#[],by rw[aB (cw q hn),q];simp⟩
theorem Un.write(mu:i4 (H x))(he:e=x\/H e=some (.own x))(k:∀b u,b≠e->h.get? b=some u->h'.get? b=some u)(heo:∃u,h'.get? e=some u):Un fs ex H (upd H x o) h h':=by
 have hx:∀b,H b=none->b≠x:=fun b n z=>by subst z;rw[n]at mu;exact mu
 have hb:∀b,H b=none->b≠e:=fun b n z=>by
  subst z
  rcases he with r | r
  ·exact hx b n r
  ·rw[n]at r;cases r
 have hm:∀b u,H b=some u->¬i4 (some u)->b≠x:=fun b u q nm z=>by subst z;rw[q]at mu;exact nm mu
 refine⟨fun b u q n _ _=>k b u (hb b n) q,fun b u q n _ _=>⟨u.slots,k b u (hb b n) q⟩,fun b u q n _=>by rw[aB (hx b n)];exact n,fun b u q _=>?_,
  fun b xs q=>by rw[aB (hm b _ q fun z=>z)];exact q,fun b u xs q=>by rw[aB (hm b _ q fun z=>z)];exact q,fun b ps q=>⟨#[],by rw[aB (hm b _ q fun z=>z),q];simp⟩⟩
 by_cases hbe:b=e
 ·subst hbe;exact heo
 ·exact⟨u,k b u hbe q⟩
end
def j6(h:Heap)(H:Hp):List Addr:=(List.range h.objs.size).filter fun a=>(H a).isSome
def eF(h:Heap)(H:Hp):Heap:=PySem.W.hideAll h (j6 h H)
theorem yA(h:Heap)(H:Hp):(eF h H).objs.size=h.objs.size:=PySem.W.hideAll_size _ _
theorem kr{h:Heap}{H:Hp}{b:Addr}{o:Obj}(e:h.get? b=some o)(n:H b=none):(eF h H).get? b=some o:=
 PySem.W.hideAll_get _ e fun hm=>by
  have q:(H b).isSome=true:=(List.mem_filter.mp hm).2
  rw[n]at q;simp at q
theorem BU{h:Heap}{H:Hp}{b:Addr}{o:Obj}(e:(eF h H).get? b=some o):h.get? b=some o/\H b=none:=by
 have e':h.get? b=some o:=PySem.W.of_hideAll (j6 h H) e
 refine⟨e',?_⟩
 cases q:H b with
 | none=>rfl
 | some x=>
  have hm:b∈j6 h H:=List.mem_filter.mpr ⟨List.mem_range.mpr (Dx e'),by simp[q]⟩
  have z:(eF h H).get? b=none:=PySem.W.hideAll_none (j6 h H) hm
  rw[z]at e;cases e
end L2
namespace L2
open PySem PySem.Spec PyProof.Rows
structure Mod(K:Du)(mg:Str->Option Value)(base:Heap):Prop where
 kin:K.In base
 glob:base.Ns mainGlobals mg
 blt:∃mb,base.Ns builtinsNs mb/\∀x:Str,x≠"__name__"->mb x=bootBuiltins x
 nolimit:base.NoLimit
structure Cx where
 prog:Program
 w:World
 K:Du
 mg:Str->Option Value
 base:Heap
 A:Around
 N:List Str
 s₀:Shared
 H₀:Hp
 env:Env
 outer:List Env
 stack:List Env
 ex:List Addr
 fn:Str->Bool
 calm:Bool
 pn:List (Addr×Obj)
 xe:Value->Shared->Prop
def cK(l:List Env):List Addr:=l.filterMap (·.frame)
abbrev Cx.fs(X:Cx):List Addr:=cK X.outer
def j9(sc:Scope)(x:Str):Prop:=sc.names.lookup x=some .local\/sc.names.lookup x=some .cell\/sc.names.lookup x=some .free
def Loc(sc:Scope)(x:Str):Prop:=sc.names.lookup x=some .local\/sc.names.lookup x=some .cell
def Look(env:Env)(h:Heap)(m:Str->Option Value)(x:Str)(u:Value):Prop:=
 (env.kindOf x=some .local/\m x=some u)\/((env.kindOf x=some .cell\/env.kindOf x=some .free)/\∃c,env.cells.lookup x=some c/\h.IsCell c (some u))
structure Cx.Ok(X:Cx):Prop where
 mod:Mod X.K X.mg X.base
 kind:X.env.scope.kind=.function
 glob:X.env.globals=mainGlobals
 blt:X.env.builtins=builtinsNs
 above:X.s₀.heap.objs.size<=X.env.locals
 inj:∀x y c,X.env.cells.lookup x=some c->X.env.cells.lookup y=some c->x=y
 has:∀x,(X.env.kindOf x=some .cell\/X.env.kindOf x=some .free)->∃c,X.env.cells.lookup x=some c
 cab:∀x c,X.fn x=true->X.env.cells.lookup x=some c->X.s₀.heap.objs.size<=c
 hd:X.calm=true->X.A.handled=none
 frames:X.A.frames=some X.stack
 stk:X.stack=X.outer\/(X.stack=X.env::X.outer/\X.env.frame=some X.env.locals)
 exf:∀b∈X.ex,b≠X.env.locals/\∀x c,X.env.cells.lookup x=some c->c≠b
 bs:∀b o,X.base.get? b=some o->X.s₀.heap.get? b=some o/\X.H₀ b=none
 bsz:X.base.objs.size<=X.s₀.heap.objs.size
 noex:∀b o,X.base.get? b=some o->b∉X.ex
 exfs:∀b∈X.ex,b∉X.fs
 funs:X.s₀.heap.FunFrames X.base X.outer
 frf:∀b∈X.fs,X.H₀ b=none
structure Inv(X:Cx)(pins:List (Addr×Obj))(σ:List (Option V))(H:Hp)(s:Shared):Prop where
 ok:X.Ok
 os:s.os=X.s₀.os
 bare:AllBare s.gens
 base:Un X.fs X.ex X.H₀ H X.s₀.heap s.heap
 loc:∃m,s.heap.Ns X.env.locals m/\∀(i:Nat) (x:Str) (v:V),X.N[i]?=some x->σ[i]?=some (some v)->j9 X.env.scope x->∃u,RelV v u/\Look X.env s.heap m x u
 cell:∀x c,X.env.cells.lookup x=some c->∃v,s.heap.IsCell c v
 free:H X.env.locals=none
 freeC:∀x c,X.env.cells.lookup x=some c->H c=none
 pin:∀p∈X.pn++pins,s.heap.get? p.1=some p.2/\H p.1=none/\p.1≠X.env.locals/\p.1∉X.fs/\∀v,p.2.data≠.cell v
 hok:bh X.prog X.w H s.heap
 len:σ.length=X.N.length
section
variable {X:Cx} {pins:List (Addr×Obj)} {σ:List (Option V)} {H H':Hp} {s:Shared} {h':Heap}
theorem Cx.Ok.nofr(ok:X.Ok){b:Addr}{o:Obj}(e:X.base.get? b=some o):b∉X.fs:=fun hb=>by
 have:=(ok.funs.mem hb).1
 rw[e]at this;cases this
theorem Inv.bs(I:Inv X pins σ H s):∀b o,X.base.get? b=some o->s.heap.get? b=some o/\H b=none:=fun b o e=>
 ⟨I.base.keep b o (I.ok.bs b o e).1 (I.ok.bs b o e).2 (I.ok.nofr e) (I.ok.noex b o e),I.base.free b o (I.ok.bs b o e).1 (I.ok.bs b o e).2 (I.ok.noex b o e)⟩
theorem Inv.bk(I:Inv X pins σ H s):∀b o,X.base.get? b=some o->s.heap.get? b=some o:=fun b o e=>(I.bs b o e).1
theorem Inv.mod(I:Inv X pins σ H s):Mod X.K X.mg X.base:=I.ok.mod
theorem Inv.kIn(I:Inv X pins σ H s):X.K.In s.heap:=I.ok.mod.kin.keeps I.bk
theorem Inv.lt(I:Inv X pins σ H s):X.env.locals<s.heap.objs.size:=let ⟨_,hn,_⟩:=I.loc;hn.lt
theorem Inv.sz(I:Inv X pins σ H s):X.s₀.heap.objs.size<=s.heap.objs.size:=Eb I.ok.above (Nat.le_of_lt I.lt)
theorem Inv.nofs(I:Inv X pins σ H s){a:Addr}(h:s.heap.objs.size<=a):a∉X.fs:=fun hb=>by
 obtain⟨_,o,ho,_⟩:=I.ok.funs.mem hb
 exact absurd (Ea (Dx ho) (Eb I.sz h)) (Nat.lt_irrefl _)
theorem Inv.cne(I:Inv X pins σ H s):∀x c,X.env.cells.lookup x=some c->c≠X.env.locals:=fun x c e z=>by
 obtain⟨v,o,ho,hd⟩:=I.cell x c e
 obtain⟨m,⟨o',es,ep,ho',hd',_⟩,_⟩:=I.loc
 rw[z,ho']at ho;cases ho;rw[hd']at hd;cases hd
theorem Inv.funs(I:Inv X pins σ H s):s.heap.FunFrames X.base X.outer:=by
 have all:∀(l:List Env),(∀b∈cK l,b∈X.fs)->X.s₀.heap.FunFrames X.base l->s.heap.FunFrames X.base l:=by
  intro l
  induction l with
  | nil=>intro _ _;trivial
  | cons env r ih=>
   intro hs hl
   obtain⟨hk,⟨L,o,hf,hn,ho,hd⟩,hr⟩:=hl
   have hL:L∈X.fs:=hs L (by unfold cK;rw[List.filterMap_cons,hf];exact DE)
   obtain⟨sl,e⟩:=I.base.slot L o ho (I.ok.frf L hL) hL fun z=>I.ok.exfs L z hL
   exact⟨hk,⟨L,_,hf,hn,e,hd⟩,ih (fun b hb=>hs b (by unfold cK;rw[List.filterMap_cons,hf];exact DB _ hb)) hr⟩
 exact all X.outer (fun _ hb=>hb) I.ok.funs
theorem Inv.stack(I:Inv X pins σ H s):s.heap.FunFrames X.base X.stack:=by
 rcases I.ok.stk with e | ⟨e,hf⟩
 ·rw[e];exact I.funs
 ·rw[e]
  obtain⟨m,hn,_⟩:=I.loc
  refine .cons (by rw[I.ok.kind];decide) hf hn ?_ I.funs
  exact Heap.get?_none_of_le (Eb I.ok.bsz I.ok.above)
theorem Inv.stkSub(I:Inv X pins σ H s):∀b∈cK X.stack,b∈X.env.locals::X.fs:=fun b hb=>by
 rcases I.ok.stk with e | ⟨e,hf⟩
 ·rw[e]at hb;exact DB _ hb
 ·rw[e]at hb
  unfold cK at hb
  rw[List.filterMap_cons,hf]at hb
  exact hb
theorem Inv.stkFree(I:Inv X pins σ H s):∀b∈cK X.stack,H b=none:=fun b hb=>by
 rcases DM.mp (I.stkSub b hb)with e | hb
 ·rw[e];exact I.free
 ·obtain⟨_,o,ho,_⟩:=I.ok.funs.mem hb
  exact I.base.free b o ho (I.ok.frf b hb) fun z=>I.ok.exfs b z hb
theorem Inv.step{g':Array GenState}{t':Nat}{d':Drawn}{ch:List Addr}(I:Inv X pins σ H s)
  (hch:∀b∈ch,(b∈X.ex\/X.s₀.heap.objs.size<=b)/\b≠X.env.locals/\(∀x c,X.env.cells.lookup x=some c->c≠b)/\∀p∈X.pn++pins,p.1≠b)
  (keep:∀b o,b≠X.env.locals->b∉X.fs->b∉ch->s.heap.get? b=some o->H b=none->h'.get? b=some o)
  (slot:∀b o,b≠X.env.locals->b∈X.fs->b∉ch->s.heap.get? b=some o->H b=none->∃sl,h'.get? b=some { o with slots:=sl }) (free:∀b o,b∉ch->s.heap.get? b=some o->H b=none->H' b=none)
  (there:∀b o,b∉ch->s.heap.get? b=some o->∃o',h'.get? b=some o')
  (tups:∀b xs,H b=some (.tup xs)->H' b=some (.tup xs)) (frzs:∀b o u,H b=some (.frz o u)->H' b=some (.frz o u)) (tbls:∀b ps,H b=some (.tbl ps)->∃more,H' b=some (.tbl (ps++more)))
  (ns:∀m,s.heap.Ns X.env.locals m->h'.Ns X.env.locals m) (hok:bh X.prog X.w H' h') (hg:AllBare g') :
  Inv X pins σ H' { s with heap:=h',gens:=g',drawn:=d',toks:=t' }:=by
 have neL:∀b o,X.s₀.heap.get? b=some o->b≠X.env.locals:=fun b o e=>DQ (Ea (Dx e) I.ok.above)
 have neC:∀b o,X.s₀.heap.get? b=some o->b∉X.ex->b∉ch:=fun b o e hx hb=>by
  rcases(hch b hb).1 with z | z
  ·exact hx z
  ·exact absurd (Ea (Dx e) z) (Nat.lt_irrefl _)
 have cellK:∀x c,X.env.cells.lookup x=some c->∀v,s.heap.IsCell c v->h'.IsCell c v:=fun x c e v ⟨o,ho,hd⟩=>by
  have nch:c∉ch:=fun z=>(hch c z).2.2.1 x c e rfl
  by_cases hc:c∈X.fs
  ·obtain⟨sl,q⟩:=slot c o (I.cne x c e) hc nch ho (I.freeC x c e)
   exact⟨_,q,hd⟩
  ·exact⟨o,keep c o (I.cne x c e) hc nch ho (I.freeC x c e),hd⟩
 refine⟨I.ok,I.os,hg,⟨fun b o e n hb hx=>?_,fun b o e n hb hx=>?_,fun b o e n hx=>?_,fun b o e hx=>?_,fun b xs e=>tups b xs (I.base.tups b xs e),fun b o xs e=>frzs b o xs (I.base.frzs b o xs e),fun b ps e=>?_⟩,?_,fun x c e=>?_,?_,fun x c e=>?_,fun p hp=>?_,hok,I.len⟩
 ·exact keep b o (neL b o e) hb (neC b o e hx) (I.base.keep b o e n hb hx) (I.base.free b o e n hx)
 ·obtain⟨sl,e1⟩:=I.base.slot b o e n hb hx
  obtain⟨sl',e2⟩:=slot b _ (neL b o e) hb (neC b o e hx) e1 (I.base.free b o e n hx)
  exact⟨sl',e2⟩
 ·obtain⟨o',e1⟩:=I.base.there b o e hx
  exact free b o' (neC b o e hx) e1 (I.base.free b o e n hx)
 ·obtain⟨o',e1⟩:=I.base.there b o e hx
  exact there b o' (neC b o e hx) e1
 ·obtain⟨m1,e1⟩:=I.base.tbls b ps e
  obtain⟨m2,e2⟩:=tbls b _ e1
  exact⟨m1++m2,by rw[e2,Array.append_assoc]⟩
 ·obtain⟨m,hn,hl⟩:=I.loc
  refine⟨m,ns m hn,fun i x v e1 e2 e3=>?_⟩
  obtain⟨u,r,l⟩:=hl i x v e1 e2 e3
  refine⟨u,r,?_⟩
  rcases l with l | ⟨k,c,e,z⟩
  ·exact .inl l
  ·exact .inr ⟨k,c,e,cellK x c e _ z⟩
 ·obtain⟨v,z⟩:=I.cell x c e
  exact⟨v,cellK x c e v z⟩
 ·obtain⟨m,⟨o,_,_,ho,_⟩,_⟩:=I.loc
  exact free _ o (fun z=>(hch _ z).2.1 rfl) ho I.free
 ·obtain⟨v,o,ho,hd⟩:=I.cell x c e
  exact free c o (fun z=>(hch c z).2.2.1 x c e rfl) ho (I.freeC x c e)
 ·obtain⟨e,n,ne,nf,d⟩:=I.pin p hp
  have nch:p.1∉ch:=fun z=>(hch p.1 z).2.2.2 p hp rfl
  exact⟨keep p.1 p.2 ne nf nch e n,free p.1 p.2 nch e n,ne,nf,d⟩
theorem Inv.un{t':Nat}(I:Inv X pins σ H s)(u:Un X.fs [] H H' s.heap h')(hok:bh X.prog X.w H' h'):Inv X pins σ H' { s with heap:=h',toks:=t' }:=by
 obtain⟨m,⟨o,es,ep,ho,r⟩,_⟩:=id I.loc
 obtain⟨sl,hL⟩:=u.any ho I.free (by simp)
 exact I.step (g':=s.gens) (d':=s.drawn) (ch:=[]) (fun _ z=>nomatch z) (fun b o _ hb _ e n=>u.keep b o e n hb (by simp)) (fun b o _ hb _ e n=>u.slot b o e n hb (by simp)) (fun b o _ e n=>u.free b o e n (by simp)) (fun b o _ e=>u.there b o e (by simp)) u.tups u.frzs u.tbls (fun m' hm=>by
  obtain⟨o',es',ep',ho',r'⟩:=hm
  rw[ho]at ho';cases ho'
  exact⟨_,es',ep',hL,r'⟩) hok I.bare
theorem Inv.call{g':Array GenState}{t':Nat}{d':Drawn}{ch:List Addr}(I:Inv X pins σ H s)(u:Un (cK X.stack) ch H H' s.heap h')(hok:bh X.prog X.w H' h')(hg:AllBare g')
  (hch:∀b∈ch,(b∈X.ex\/X.s₀.heap.objs.size<=b)/\b≠X.env.locals/\(∀x c,X.env.cells.lookup x=some c->c≠b)/\∀p∈X.pn++pins,p.1≠b) :
  Inv X pins σ H' { s with heap:=h',gens:=g',drawn:=d',toks:=t' }:=by
 obtain⟨m,⟨o,es,ep,ho,r⟩,_⟩:=id I.loc
 obtain⟨sl,hL⟩:=u.any ho I.free fun z=>(hch _ z).2.1 rfl
 exact I.step (ch:=ch) hch (fun b o hL hb hc e n=>u.keep b o e n (fun z=>(DM.mp (I.stkSub b z)).elim hL hb) hc) (fun b o _ _ hc e n=>u.any e n hc) (fun b o hc e n=>u.free b o e n hc) (fun b o hc e=>u.there b o e hc) u.tups u.frzs u.tbls (fun m' hm=>by
  obtain⟨o',es',ep',ho',r'⟩:=hm
  rw[ho]at ho';cases ho'
  exact⟨_,es',ep',hL,r'⟩) hok hg
theorem Inv.turned{t':Nat}{it:Addr}(I:Inv X pins σ H s)(k:∀b o,b≠it->s.heap.get? b=some o->h'.get? b=some o)(hn:H it=none)(hL:it≠X.env.locals)
  (h1:it∈X.ex\/X.s₀.heap.objs.size<=it) (h2:∀x c,X.env.cells.lookup x=some c->c≠it) (h3:∀p∈X.pn++pins,p.1≠it):Inv X pins σ H { s with heap:=h',toks:=t' }:=by
 have nit:∀b u,H b=some u->b≠it:=fun b u e z=>by rw[z,hn]at e;cases e
 refine I.step (g':=s.gens) (d':=s.drawn) (ch:=[it]) (fun b hb=>?_) (fun b o _ _ hc e _=>k b o (fun z=>hc (by simp[z])) e) (fun b o _ _ hc e _=>⟨o.slots,k b o (fun z=>hc (by simp[z])) e⟩) (fun _ _ _ _ n=>n)
  (fun b o hc e=>⟨o,k b o (fun z=>hc (by simp[z])) e⟩) (fun _ _ e=>e) (fun _ _ _ e=>e) (fun b ps e=>⟨#[],by rw[e];simp⟩) (fun m hm=>?_) (fun b u e=>?_) I.bare
 ·have e:b=it:=by simpa using hb
  subst e
  exact⟨h1,hL,h2,h3⟩
 ·obtain⟨o,es,ep,ho,r⟩:=hm
  exact⟨o,es,ep,k _ o (Ne.symm hL) ho,r⟩
 ·refine(I.hok b u e).stay (fun c v hc q=>k c v ?_ q) (fun _ q=>q) fun _ _ q=>q
  rcases hc with z | z
  ·rw[z];exact nit b u e
  ·exact nit c _ z
theorem Inv.tok(I:Inv X pins σ H s)(t:Nat):Inv X pins σ H { s with toks:=t }:=I.un (h':=s.heap) (t':=t) Un.refl I.hok
theorem Inv.kept{t':Nat}(I:Inv X pins σ H s)(k:∀b u,s.heap.get? b=some u->h'.get? b=some u):Inv X pins σ H { s with heap:=h',toks:=t' }:=I.un (Un.kept k) (I.hok.kept k)
theorem Inv.laid{a:Addr}{o:HO}{t':Nat}(I:Inv X pins σ H s)(k:∀b u,s.heap.get? b=some u->h'.get? b=some u)(hp:s.heap.objs.size<=a)(new:bj X.prog X.w (upd H a o) h' a o):
  Inv X pins σ (upd H a o) { s with heap:=h',toks:=t' }:=I.un (Un.laid k hp (I.hok.fresh hp)) (I.hok.laid k hp new)
theorem Inv.write{x e:Addr}{o:HO}{t':Nat}(I:Inv X pins σ H s)(mu:i4 (H x))(he:e=x\/H e=some (.own x))(k:∀b u,b≠e->s.heap.get? b=some u->h'.get? b=some u)(heo:∃u,h'.get? e=some u)
  (new:bj X.prog X.w (upd H x o) h' x o):Inv X pins σ (upd H x o) { s with heap:=h',toks:=t' }:=I.un (Un.write mu he k heo) (I.hok.write mu he k heo new)
theorem Inv.pins_of{pins':List (Addr×Obj)}(I:Inv X pins σ H s)(h:∀p∈pins',s.heap.get? p.1=some p.2/\H p.1=none/\p.1≠X.env.locals/\p.1∉X.fs/\∀v,p.2.data≠.cell v):Inv X pins' σ H s:=
 ⟨I.ok,I.os,I.bare,I.base,I.loc,I.cell,I.free,I.freeC,fun p hp=>(DU.mp hp).elim (fun z=>I.pin p (List.mem_append_left _ z)) (h p),I.hok,I.len⟩
theorem vd{N:List Str}(hN:N.Nodup){i j:Nat}{x:Str}(a:N[i]?=some x)(b:N[j]?=some x):i=j:=by
 obtain⟨h1,e1⟩:=DG.mp a
 obtain⟨h2,e2⟩:=DG.mp b
 exact(List.getElem_inj hN).mp (e1.trans e2.symm)
theorem qH{M:Model}{A:Around}{E:Value->Shared->Prop}{i:Nat}{x:Str}{v:V}{u:Value}{Q:Unit->Shared->Prop}(I:Inv X pins σ H s)(hN:X.N.Nodup)(hi:X.N[i]?=some x)(hx:Loc X.env.scope x)(r:RelV v u)
  (h:∀s',Inv X pins (σ.set i (some v)) H s'->(∃a,Heap.SameBut a s.heap s'.heap/\(a=X.env.locals\/X.env.cells.lookup x=some a))->Q () s') (hf:X.fn x=true\/X.env.scope.names.lookup x=some .local:=by first | exact .inl rfl | exact .inr rfl | assumption):wpAny M A (storeName X.env x u) Q E s:=by
 obtain⟨m,hn,hl⟩:=id I.loc
 have hcls:(X.env.scope.kind == .class || (X.env.scope.kind == .module && X.env.locals != X.env.globals))=false:=by rw[I.ok.kind];rfl
 have hiσ:i<σ.length:=by rw[I.len];exact(DG.mp hi).1
 have cne:=I.cne
 have tracked:∀{a:Addr} {h':Heap},(∃o,s.heap.get? a=some o/\H a=none)->Heap.SameBut a s.heap h'->bh X.prog X.w H h':=fun{a h'} ha hs b ob e=>by
  obtain⟨_,_,hfree⟩:=ha
  refine(I.hok b ob e).stay (fun c w' hc q=>(hs.2 c ?_).trans q) (fun _ q=>q) fun _ _ q=>q
  rintro rfl
  rcases hc with rfl | hc
  ·rw[hfree]at e;cases e
  ·rw[hfree]at hc;cases hc
 rcases hx with hk | hk
 ·refine wpAny_storeName_local hk hn (fun h' hn' hs=>?_) hcls
  obtain⟨oL,_,_,hoL,_⟩:=id hn
  refine h _ ⟨I.ok,I.os,I.bare,⟨fun b o e n hb hx=>?_,fun b o e n hb hx=>?_,I.base.free,fun b o e hx=>?_,I.base.tups,I.base.frzs,I.base.tbls⟩,⟨_,hn',fun j y v' e1 e2 e3=>?_⟩,fun y c e=>?_,I.free,I.freeC,fun p hp=>?_,tracked ⟨oL,hoL,I.free⟩ hs,by simpa using I.len⟩ ⟨_,hs,.inl rfl⟩
  ·exact(hs.2 b (DQ (Ea (Dx e) I.ok.above))).trans (I.base.keep b o e n hb hx)
  ·obtain⟨sl,e1⟩:=I.base.slot b o e n hb hx
   exact⟨sl,(hs.2 b (DQ (Ea (Dx e) I.ok.above))).trans e1⟩
  ·obtain⟨o',e1⟩:=I.base.there b o e hx
   exact⟨o',(hs.2 b (DQ (Ea (Dx e) I.ok.above))).trans e1⟩
  ·by_cases hj:j=i
   ·subst hj
    rw[hi]at e1;cases e1
    rw[List.getElem?_set_self hiσ]at e2
    cases e2
    exact⟨u,r,.inl ⟨hk,by simp⟩⟩
   ·rw[List.getElem?_set_ne (Ne.symm hj)]at e2
    obtain⟨u',r',q⟩:=hl j y v' e1 e2 e3
    refine⟨u',r',?_⟩
    rcases q with⟨k,e⟩ | ⟨k,c,e,z⟩
    ·refine .inl ⟨k,?_⟩
     have:y≠x:=fun e=>hj (vd hN e1 (e ▸ hi))
     simp[this,e]
    ·exact .inr ⟨k,c,e,z.sameBut hs (cne y c e)⟩
  ·obtain⟨w',z⟩:=I.cell y c e
   exact⟨w',z.sameBut hs (cne y c e)⟩
  ·obtain⟨e,n,ne,nf,d⟩:=I.pin p hp
   exact⟨(hs.2 p.1 ne).trans e,n,ne,nf,d⟩
 ·have hfn:X.fn x=true:=by
   rcases hf with z | z
   ·exact z
   ·rw[z]at hk;cases hk
  obtain⟨c,hc⟩:=I.ok.has x (.inl hk)
  obtain⟨w',z⟩:=I.cell x c hc
  refine wpAny_storeName_cell I.ok.kind hk hc z (fun h' hc' hs=>?_)
  obtain⟨oc,hoc,hocd⟩:=id z
  refine h { s with heap:=h' } ⟨I.ok,I.os,I.bare,⟨fun b o e n hb hx=>?_,fun b o e n hb hx=>?_,I.base.free,fun b o e hx=>?_,I.base.tups,I.base.frzs,I.base.tbls⟩,⟨m,hn.sameBut hs (Ne.symm (cne x c hc)),fun j y v' e1 e2 e3=>?_⟩,fun y c' e=>?_,I.free,I.freeC,fun p hp=>?_,tracked ⟨oc,hoc,I.freeC x c hc⟩ hs,by simpa using I.len⟩ ⟨c,hs,.inr hc⟩
  ·exact(hs.2 b (DQ (Ea (Dx e) (I.ok.cab x c hfn hc)))).trans (I.base.keep b o e n hb hx)
  ·obtain⟨sl,e1⟩:=I.base.slot b o e n hb hx
   exact⟨sl,(hs.2 b (DQ (Ea (Dx e) (I.ok.cab x c hfn hc)))).trans e1⟩
  ·obtain⟨o',e1⟩:=I.base.there b o e hx
   exact⟨o',(hs.2 b (DQ (Ea (Dx e) (I.ok.cab x c hfn hc)))).trans e1⟩
  ·by_cases hj:j=i
   ·subst hj
    rw[hi]at e1;cases e1
    rw[List.getElem?_set_self hiσ]at e2
    cases e2
    exact⟨u,r,.inr ⟨.inl hk,c,hc,hc'⟩⟩
   ·rw[List.getElem?_set_ne (Ne.symm hj)]at e2
    obtain⟨u',r',q⟩:=hl j y v' e1 e2 e3
    refine⟨u',r',?_⟩
    rcases q with q | ⟨k,c',e,z'⟩
    ·exact .inl q
    ·refine .inr ⟨k,c',e,z'.sameBut hs ?_⟩
     rintro rfl
     exact hj (vd hN e1 (I.ok.inj _ _ _ e hc ▸ hi))
  ·by_cases hcc:c'=c
   ·subst hcc;exact⟨_,hc'⟩
   ·obtain⟨w2,z2⟩:=I.cell y c' e
    exact⟨w2,z2.sameBut hs hcc⟩
  ·obtain⟨e,n,ne,nf,d⟩:=I.pin p hp
   refine⟨(hs.2 p.1 ?_).trans e,n,ne,nf,d⟩
   intro q
   rw[q,hoc]at e
   have q':oc=p.2:=Option.some.inj e
   exact d w' (by rw[←q'];exact hocd)
theorem iw{M:Model}{A:Around}{E:Value->Shared->Prop}{i:Nat}{x:Str}{v:V}{u:Value}{Q:Unit->Shared->Prop}(I:Inv X pins σ H s)(hN:X.N.Nodup)(hi:X.N[i]?=some x)(hx:Loc X.env.scope x)(r:RelV v u)
  (h:∀s',Inv X pins (σ.set i (some v)) H s'->Q () s') (hf:X.fn x=true\/X.env.scope.names.lookup x=some .local:=by first | exact .inl rfl | exact .inr rfl | assumption):wpAny M A (storeName X.env x u) Q E s:=
 qH I hN hi hx r (fun s' I' _=>h s' I') hf
theorem Inv.call'{s':Shared}{ch:List Addr}(I:Inv X pins σ H s)(ho:s'.os=s.os)(u:Un (cK X.stack) ch H H' s.heap s'.heap)(hok:bh X.prog X.w H' s'.heap)(hg:AllBare s'.gens)
  (hch:∀b∈ch,(b∈X.ex\/X.s₀.heap.objs.size<=b)/\b≠X.env.locals/\(∀x c,X.env.cells.lookup x=some c->c≠b)/\∀p∈X.pn++pins,p.1≠b):Inv X pins σ H' s':=by
 obtain⟨h',g',d',t',o'⟩:=s'
 have e:o'=s.os:=ho
 subst e
 exact I.call (g':=g') (t':=t') (d':=d') u hok hg hch
end
abbrev XK:=Value->Option Addr->Hp->Prop
abbrev St:=List (Option V)
abbrev VK:=V->Hp->Prop
abbrev TE:=St->Hp->VK->Prop
abbrev TT:=St->Hp->(Bool->Hp->Prop)->Prop
abbrev TA:=St->Hp->(List V->Hp->Prop)->Prop
structure Ends where
 nx:St->Hp->Prop
 rt:VK
 bk:St->Hp->Prop:=fun _ _=>False
 ct:St->Hp->Prop:=fun _ _=>False
abbrev TS:=Ends->St->Hp->Prop
def EP(X:Cx)(pins:List (Addr×Obj))(σ:St)(Q:VK)(u:Value)(s':Shared):Prop:=∃v H',Inv X pins σ H' s'/\RelV v u/\Q v H'
def TP(X:Cx)(pins:List (Addr×Obj))(σ:St)(Q:Bool->Hp->Prop)(b:Bool)(s':Shared):Prop:=∃H',Inv X pins σ H' s'/\Q b H'
def AP(X:Cx)(pins:List (Addr×Obj))(σ:St)(Q:List V->Hp->Prop)(us:List Value)(s':Shared):Prop:=∃vs H',Inv X pins σ H' s'/\Vals vs us/\Q vs H'
def SP(X:Cx)(pins:List (Addr×Obj))(D:Ends)(f:Flow)(s':Shared):Prop:=
 match f with
 | .next=>∃σ' H',Inv X pins σ' H' s'/\D.nx σ' H'
 | .brk=>∃σ' H',Inv X pins σ' H' s'/\D.bk σ' H'
 | .cont=>∃σ' H',Inv X pins σ' H' s'/\D.ct σ' H'
 | .ret u=>∃v σ' H',Inv X pins σ' H' s'/\RelV v u/\D.rt v H'
def PE(X:Cx)(e:Expr)(t:TE):Prop:=
 ∀(pins:List (Addr×Obj)) (s:Shared) (σ:St) (H:Hp) (Q:VK),Inv X pins σ H s->t σ H Q->wpAny (model X.prog X.w) X.A (eval e X.env) (EP X pins σ Q) X.xe s
def PT(X:Cx)(e:Expr)(t:TT):Prop:=
 ∀(pins:List (Addr×Obj)) (s:Shared) (σ:St) (H:Hp) (Q:Bool->Hp->Prop),Inv X pins σ H s->t σ H Q->wpAny (model X.prog X.w) X.A (isTrue e X.env (eval e X.env)) (TP X pins σ Q) X.xe s
def PW(X:Cx)(e:Expr)(t:TT):Prop:=
 ∀(whole:Sem Value) (pins:List (Addr×Obj)) (s:Shared) (σ:St) (H:Hp) (Q:Bool->Hp->Prop),Inv X pins σ H s->t σ H Q->wpAny (model X.prog X.w) X.A (isTrue e X.env whole) (TP X pins σ Q) X.xe s
theorem PW.pt{X:Cx}{e:Expr}{t:TT}(h:PW X e t):PT X e t:=h _
def PA(X:Cx)(es:List Expr)(t:TA):Prop:=
 ∀(pos:Pos) (pins:List (Addr×Obj)) (s:Shared) (σ:St) (H:Hp) (Q:List V->Hp->Prop),Inv X pins σ H s->t σ H Q->wpAny (model X.prog X.w) X.A (spliced (backTo pos (starEach es X.env))) (AP X pins σ Q) X.xe s
def PS(X:Cx)(st:Stmt)(t:TS):Prop:=
 ∀(pins:List (Addr×Obj)) (s:Shared) (σ:St) (H:Hp) (D:Ends),Inv X pins σ H s->t D σ H->wpAny (model X.prog X.w) X.A (exec st X.env) (SP X pins D) X.xe s
def cB(X:Cx)(st:List Stmt)(t:TS):Prop:=
 ∀(pins:List (Addr×Obj)) (s:Shared) (σ:St) (H:Hp) (D:Ends),Inv X pins σ H s->t D σ H->wpAny (model X.prog X.w) X.A (execs st X.env) (SP X pins D) X.xe s
theorem av{α:Type}{t:Sem α}{Q Q':α->Shared->Prop}{M:Model}{A:Around}{E:Value->Shared->Prop}{s:Shared}(h:wpAny M A t Q E s)(hQ:∀a s,Q a s->Q' a s):wpAny M A t Q' E s:=wpAny_mono h hQ fun _ _ x=>x
end L2
namespace L2
open PySem PySem.Spec PyProof.Rows
section
variable {X:Cx}
theorem bin{a b:Expr}{ta tb:TE}(ha:PE X a ta)(hb:PE X b tb){pins:List (Addr×Obj)}{s:Shared}{σ:St}{H:Hp}{R:V->V->Hp->Prop}(I:Inv X pins σ H s)(h:ta σ H fun x H1=>tb σ H1 fun y H2=>R x y H2)
  {α:Type} {Q:α->Shared->Prop} {f:Value->Value->Sem α}
  (hf:∀v u s2 x y H2,Inv X pins σ H2 s2->RelV x v->RelV y u->R x y H2->wpAny (model X.prog X.w) X.A (f v u) Q X.xe s2) :
  wpAny (model X.prog X.w) X.A (eval a X.env) (fun v s₁=>wpAny (model X.prog X.w) X.A (eval b X.env) (fun u s₂=>wpAny (model X.prog X.w) X.A (f v u) Q X.xe s₂) X.xe s₁) X.xe s:=by
 refine av (ha pins s σ H _ I h) fun v s1 ⟨x,H1,I1,r1,q1⟩=>?_
 refine av (hb pins s1 σ H1 _ I1 q1) fun u s2 ⟨y,H2,I2,r2,q2⟩=>?_
 exact hf v u s2 x y H2 I2 r1 r2 q2
def mL(i:Nat):TE:=fun σ H Q=>∃v,σ[i]?=some (some v)/\Q v H
def tC(v:V):TE:=fun _ H Q=>Q v H
theorem xg{i:Nat}{x:Str}{pos:Pos}(hN:X.N[i]?=some x)(hv:j9 X.env.scope x)(hd:(x == ("__debug__":Str))=false:=by decide)(hcd:(x == ("__classdict__":Str))=false:=by decide):PE X (.Name x pos) (mL i):=by
 intro pins s σ H Q I h
 obtain⟨v,e,h⟩:=h
 obtain⟨m,hn,hl⟩:=I.loc
 obtain⟨u,r,l⟩:=hl i x v hN e hv
 have fin:EP X pins σ Q u s:=⟨v,H,I,r,h⟩
 rcases l with⟨hk,hm⟩ | ⟨hk,c,hc,hcell⟩
 ·exact wpAny_Name (wpAny_loadName_local I.ok.kind hk hn hm fin) hd
 ·rcases hk with hk | hk
  ·exact wpAny_Name (wpAny_loadName_cell I.ok.kind hk hc hcell fin) hd
  ·exact wpAny_Name (wpAny_loadName_free I.ok.kind hk hc hcell fin hcd) hd
theorem ae{i j pos}:PE X (.Constant (.int i) j pos) (tC (.int i)):=fun _ _ _ H _ I h=>wpAny_Constant_int ⟨.int i,H,I.tok _,⟨_,rfl⟩,h⟩
theorem bC{b j pos}:PE X (.Constant (.bool b) j pos) (tC (.bl b)):=fun _ _ _ H _ I h=>Constant_bool ⟨.bl b,H,I,rfl,h⟩
theorem aS{x j pos}:PE X (.Constant (.str x) j pos) (tC (.str x)):=fun _ _ _ H _ I h=>Calls.Constant_str ⟨.str x,H,I.tok _,⟨_,rfl⟩,h⟩
def Gl(X:Cx)(x:Str):Prop:=X.env.kindOf x=some .globalImplicit
theorem ir{E:Value->Shared->Prop}{pins:List (Addr×Obj)}{s:Shared}{σ:St}{H:Hp}{x:Str}{u:Value}{pos:Pos}{Q:Value->Shared->Prop}(I:Inv X pins σ H s)(hg:Gl X x)(hm:X.mg x=some u)(h:Q u s)
  (hd:(x == ("__debug__":Str))=false:=by decide):wpAny (model X.prog X.w) X.A (eval (.Name x pos) X.env) Q E s:=
 Calls.Name_function_global I.ok.kind hg (Calls.loadGlobal_global (by rw[I.ok.glob];exact I.mod.glob.keeps I.bk) hm h) hd
theorem fX{E:Value->Shared->Prop}{pins:List (Addr×Obj)}{s:Shared}{σ:St}{H:Hp}{x:Str}{u:Value}{pos:Pos}{Q:Value->Shared->Prop}(I:Inv X pins σ H s)(hg:Gl X x)(hm:X.mg x=none)(hv:bootBuiltins x=some u)(h:Q u s)
  (hn:x≠"__name__":=by decide) (hd:(x == ("__debug__":Str))=false:=by decide):wpAny (model X.prog X.w) X.A (eval (.Name x pos) X.env) Q E s:=by
 obtain⟨mb,h1,h2⟩:=I.mod.blt
 exact Calls.Name_function_global I.ok.kind hg (Calls.loadGlobal_builtin (by rw[I.ok.glob];exact I.mod.glob.keeps I.bk) hm (by rw[I.ok.blt];exact h1.keeps I.bk) ((h2 x hn).trans hv) h) hd
theorem hZ{x:Str}{v:V}{u:Value}{pos:Pos}(hg:Gl X x)(hm:X.mg x=some u)(r:RelV v u)(hd:(x == ("__debug__":Str))=false:=by decide):PE X (.Name x pos) (tC v):=
 fun _ _ _ H _ I h=>ir I hg hm ⟨v,H,I,r,h⟩ hd
theorem cO{x:Str}{v:V}{u:Value}{pos:Pos}(hg:Gl X x)(hm:X.mg x=none)(hv:bootBuiltins x=some u)(r:RelV v u)(hn:x≠"__name__":=by decide)(hd:(x == ("__debug__":Str))=false:=by decide):PE X (.Name x pos) (tC v):=
 fun _ _ _ H _ I h=>fX I hg hm hv ⟨v,H,I,r,h⟩ hn hd
variable {a b:Expr} {ta tb:TE} {pos:Pos}
def PC(X:Cx)(op:CmpOp)(a b:Expr)(t:TE):Prop:=
 ∀(pins:List (Addr×Obj)) (s:Shared) (σ:St) (H:Hp) (Q:VK),Inv X pins σ H s->t σ H Q →
  wpAny (model X.prog X.w) X.A (eval a X.env) (fun v s₁=>wpAny (model X.prog X.w) X.A (eval b X.env) (fun u s₂=>wpAny (model X.prog X.w) X.A (compareOp op v u) (EP X pins σ Q) X.xe s₂) X.xe s₁) X.xe s
def tB(t:TE):TT:=fun σ H Q=>t σ H fun x H1=>∃c,x=.bl c/\Q c H1
theorem Bb{op:CmpOp}{t:TE}(h:PC X op a b t)(h1:behindInMarks op b=false:=by first | exact nobehind _ (by decide) (by decide) | rfl):PE X (.Compare a [op] [b] pos) t:=fun pins s σ H Q I hw=>wpAny_Compare1 (h pins s σ H Q I hw) h1
theorem nT{op:CmpOp}{t:TE}(h:PC X op a b t)(h1:behindInMarks op b=false:=by first | exact nobehind _ (by decide) (by decide) | rfl):PT X (.Compare a [op] [b] pos) (tB t):=by
 intro pins s σ H Q I hw
 refine wpAny_isTrue_Compare1 (av (h pins s σ H _ I hw) fun v s1 h1=>av h1 fun u s2 h2=>av h2 fun c s3 ⟨x,H1,I1,r1,q1⟩=>?_) h1
 obtain⟨d,rfl,q⟩:=q1
 cases r1
 exact wpAny_truthy_bool ⟨H1,I1,q⟩
theorem bo{e:Expr}{t:TE}(h:PE X e t)(he:∀whole,isTrue e X.env whole=(do let v ←whole;standAt e.pos;holding [v] (truthy v)):=by intro _;rfl):PT X e (tB t):=by
 intro pins s σ H Q I hw
 refine isTrue_plain (av (h pins s σ H _ I hw) fun v s1 ⟨x,H1,I1,r1,q1⟩=>?_) (he _)
 obtain⟨d,rfl,q⟩:=q1
 cases r1
 exact wpAny_truthy_bool ⟨H1,I1,q⟩
variable {tA tB':TT} {rest:List Expr}
def uO(t u:TT):TT:=fun σ H Q=>t σ H fun c H1=>if c=true then u σ H1 Q else Q false H1
def pF(t u:TT):TT:=fun σ H Q=>t σ H fun c H1=>if c=true then Q true H1 else u σ H1 Q
def oZ(t:TT):TT:=fun σ H Q=>t σ H fun c H1=>Q (!c) H1
theorem je(ha:PT X a tA):PW X (.BoolOp .And [a] pos) tA:=by
 intro wh pins s σ H Q I h
 refine isTrue_and (av (ha pins s σ H Q I h) fun c s1 e=>?_)
 cases c with
 | true=>exact isTrue_and_nil e
 | false=>exact e
theorem cY(ha:PT X a tA):PW X (.BoolOp .Or [a] pos) tA:=by
 intro wh pins s σ H Q I h
 refine isTrue_or (av (ha pins s σ H Q I h) fun c s1 e=>?_)
 cases c with
 | false=>exact isTrue_or_nil e
 | true=>exact e
theorem jj(ha:PT X a tA)(hb:PW X (.BoolOp .And (b::rest) pos) tB'):PW X (.BoolOp .And (a::b::rest) pos) (uO tA tB'):=by
 intro wh pins s σ H Q I h
 refine isTrue_and (av (ha pins s σ H _ I h) fun c s1 ⟨H1,I1,q1⟩=>?_)
 cases c with
 | true=>exact hb wh pins s1 σ H1 Q I1 q1
 | false=>exact⟨H1,I1,q1⟩
theorem cc(ha:PT X a tA)(hb:PW X (.BoolOp .Or (b::rest) pos) tB'):PW X (.BoolOp .Or (a::b::rest) pos) (pF tA tB'):=by
 intro wh pins s σ H Q I h
 refine isTrue_or (av (ha pins s σ H _ I h) fun c s1 ⟨H1,I1,q1⟩=>?_)
 cases c with
 | true=>exact⟨H1,I1,q1⟩
 | false=>exact hb wh pins s1 σ H1 Q I1 q1
theorem bL(ha:PT X a tA):PT X (.UnaryOp .Not a pos) (oZ tA):=by
 intro pins s σ H Q I h
 exact isTrue_not (ha pins s σ H (fun c H1=>Q (!c) H1) I h)
def vZ(ta tb:TE):TE:=fun σ H Q=>ta σ H fun x H1=>∃c,x=.bl c/\if c=true then tb σ H1 Q else Q (.bl false) H1
def v8(ta tb:TE):TE:=fun σ H Q=>ta σ H fun x H1=>∃c,x=.bl c/\if c=true then Q (.bl true) H1 else tb σ H1 Q
def vL(ta:TE):TE:=fun σ H Q=>ta σ H fun x H1=>∃c,x=.bl c/\Q (.bl (!c)) H1
theorem dM{op}{t:TE}(h:PE X a t):PE X (.BoolOp op [a] pos) t:=fun pins s σ H Q I hw=>BoolOp_one (h pins s σ H Q I hw)
theorem dH(ha:PE X a ta)(hb:PE X (.BoolOp .And (b::rest) pos) tb):PE X (.BoolOp .And (a::b::rest) pos) (vZ ta tb):=by
 intro pins s σ H Q I h
 refine BoolOp_and (av (ha pins s σ H _ I h) fun v s1 ⟨x,H1,I1,r1,q1⟩=>?_)
 obtain⟨c,rfl,q1⟩:=q1
 cases r1
 refine wpAny_truthy_bool ?_
 cases c with
 | true=>exact hb pins s1 σ H1 Q I1 q1
 | false=>exact⟨.bl false,H1,I1,rfl,q1⟩
theorem vH(ha:PE X a ta)(hb:PE X (.BoolOp .Or (b::rest) pos) tb):PE X (.BoolOp .Or (a::b::rest) pos) (v8 ta tb):=by
 intro pins s σ H Q I h
 refine BoolOp_or (av (ha pins s σ H _ I h) fun v s1 ⟨x,H1,I1,r1,q1⟩=>?_)
 obtain⟨c,rfl,q1⟩:=q1
 cases r1
 refine wpAny_truthy_bool ?_
 cases c with
 | false=>exact hb pins s1 σ H1 Q I1 q1
 | true=>exact⟨.bl true,H1,I1,rfl,q1⟩
theorem uq(ha:PE X a ta):PE X (.UnaryOp .Not a pos) (vL ta):=by
 intro pins s σ H Q I h
 refine UnaryOp_ (av (ha pins s σ H _ I h) fun v s1 ⟨x,H1,I1,r1,q1⟩=>?_)
 obtain⟨c,rfl,q1⟩:=q1
 cases r1
 exact not_of (wpAny_truthy_bool ⟨.bl (!c),H1,I1,rfl,q1⟩)
end
end L2
namespace L2
open PySem PySem.Spec PyProof.Rows
def ag(K:Du)(H:Hp)(a:Addr)(xs:List V):Prop:=
 Rd H a (.lst xs) ∨
  ∃(o:Obj) (its:Array Value) (n:Nat),K.lookup a=some o/\o.cls=.type "list"/\o.dict=none/\o.data=.seq its n/\its.size<=sizeLine/\Vals xs its.toList
def ah(K:Du)(H:Hp)(a:Addr)(xs:List V):Prop:=
 Rd H a (.tup xs) ∨
  ∃(o:Obj) (its:Array Value) (n:Nat),K.lookup a=some o/\o.cls=.type "tuple"/\o.data=.seq its n/\its.size<=sizeLine/\Vals xs its.toList
def zo:Value->Option V
 | .none=>some .non
 | .bool b=>some (.bl b)
 | .int i _=>some (.int i)
 | .str x _=>some (.str x)
 | .bytes b _=>some (.byt b)
 | .float b _=>some (.flt b)
 | .ref a=>some (.ref a)
 | .type n=>some (.ty n)
 | _=>none
theorem RelV.abs{x:V}{u:Value}(r:RelV x u):zo u=some x:=by
 cases x with
 | non=>cases r;rfl
 | bl _=>cases r;rfl
 | int _=>obtain⟨t,rfl⟩:=r;rfl
 | str _=>obtain⟨t,rfl⟩:=r;rfl
 | byt _=>obtain⟨t,rfl⟩:=r;rfl
 | flt _=>obtain⟨t,rfl⟩:=r;rfl
 | ref _=>cases r;rfl
 | ty _=>cases r;rfl
theorem RelV.inj{x y:V}{u:Value}(r:RelV x u)(q:RelV y u):x=y:=Option.some.inj (r.abs.symm.trans q.abs)
theorem Vals.inj:∀{xs ys:List V} {us:List Value},Vals xs us->Vals ys us->xs=ys
 | _,_,_,.nil,.nil=>rfl
 | _,_,_,.cons r t,.cons r' t'=>by rw[r.inj r',Vals.inj t t']
section
variable {X:Cx} {pins:List (Addr×Obj)} {σ:St} {H:Hp} {s:Shared} {a:Addr} {xs ys:List V}
theorem ag.of{K:Du}(h:H a=some (.lst xs)):ag K H a xs:=.inl (.inl h)
theorem ah.of{K:Du}(h:H a=some (.tup xs)):ah K H a xs:=.inl (.inl h)
theorem Inv.list(I:Inv X pins σ H s)(h:ag X.K H a xs):∃its:List Value,Vals xs its/\PlainL s.heap a its.toArray/\xs.length<=sizeLine:=by
 rcases h with h | ⟨o,its,n,hk,hc,hd,hs,hz,r⟩
 ·obtain⟨z,its,n,r,e⟩:=h.ok I.hok
  exact⟨its,r,⟨_,n,e,rfl,rfl,rfl⟩,z⟩
 ·refine⟨its.toList,r,⟨o,n,I.kIn a o hk,hc,hd,by simpa using hs⟩,?_⟩
  have e:=r.length
  simp only[DC]at e
  omega
theorem Inv.tuple(I:Inv X pins σ H s)(h:ah X.K H a xs):∃its:List Value,Vals xs its/\IsTup s.heap a its.toArray/\xs.length<=sizeLine:=by
 rcases h with h | ⟨o,its,n,hk,hc,hs,hz,r⟩
 ·obtain⟨z,its,r,p⟩:=h.ok I.hok
  exact⟨its,r,p,z⟩
 ·refine⟨its.toList,r,⟨o,I.kIn a o hk,hc,n,by simpa using hs⟩,?_⟩
  have e:=r.length
  simp only[DC]at e
  omega
theorem Inv.list_inj(I:Inv X pins σ H s)(h:ag X.K H a xs)(h':ag X.K H a ys):xs=ys:=by
 obtain⟨its,r,⟨o,n,e,_,_,d⟩,_⟩:=I.list h
 obtain⟨its',r',⟨o',n',e',_,_,d'⟩,_⟩:=I.list h'
 rw[e]at e';cases e'
 rw[d]at d'
 injection d' with d1 _
 have:its=its':=by simpa using congrArg Array.toList d1
 subst this
 exact r.inj r'
theorem Inv.tuple_inj(I:Inv X pins σ H s)(h:ah X.K H a xs)(h':ah X.K H a ys):xs=ys:=by
 obtain⟨its,r,⟨o,e,_,n,d⟩,_⟩:=I.tuple h
 obtain⟨its',r',⟨o',e',_,n',d'⟩,_⟩:=I.tuple h'
 rw[e]at e';cases e'
 rw[d]at d'
 injection d' with d1 _
 have:its=its':=by simpa using congrArg Array.toList d1
 subst this
 exact r.inj r'
end
abbrev Cx.wish(X:Cx)(E:Value->Shared->Prop):Cx:={ X with xe:=E }
abbrev Cx.nox(X:Cx):Cx:=X.wish fun _ _=>False
theorem Cx.Ok.wish{X:Cx}(ok:X.Ok)(E:Value->Shared->Prop):(X.wish E).Ok:=
 ⟨ok.mod,ok.kind,ok.glob,ok.blt,ok.above,ok.inj,ok.has,ok.cab,ok.hd,ok.frames,ok.stk,ok.exf,ok.bs,ok.bsz,ok.noex,ok.exfs,ok.funs,ok.frf⟩
theorem Cx.Ok.unwish{X:Cx}{E:Value->Shared->Prop}(ok:(X.wish E).Ok):X.Ok:=
 ⟨ok.mod,ok.kind,ok.glob,ok.blt,ok.above,ok.inj,ok.has,ok.cab,ok.hd,ok.frames,ok.stk,ok.exf,ok.bs,ok.bsz,ok.noex,ok.exfs,ok.funs,ok.frf⟩
section
variable {X:Cx} {pins:List (Addr×Obj)} {σ:St} {H:Hp} {s:Shared} {E:Value->Shared->Prop}
theorem Inv.wish(I:Inv X pins σ H s)(E:Value->Shared->Prop):Inv (X.wish E) pins σ H s:=⟨I.ok.wish E,I.os,I.bare,I.base,I.loc,I.cell,I.free,I.freeC,I.pin,I.hok,I.len⟩
theorem Inv.unwish(I:Inv (X.wish E) pins σ H s):Inv X pins σ H s:=⟨I.ok.unwish,I.os,I.bare,I.base,I.loc,I.cell,I.free,I.freeC,I.pin,I.hok,I.len⟩
theorem SP.unwish{D:Ends}{f:Flow}{s':Shared}(h:SP (X.wish E) pins D f s'):SP X pins D f s':=by
 cases f with
 | next=>obtain⟨σ',H',I,q⟩:=h;exact⟨σ',H',I.unwish,q⟩
 | brk=>obtain⟨σ',H',I,q⟩:=h;exact⟨σ',H',I.unwish,q⟩
 | cont=>obtain⟨σ',H',I,q⟩:=h;exact⟨σ',H',I.unwish,q⟩
 | ret u=>obtain⟨v,σ',H',I,r,q⟩:=h;exact⟨v,σ',H',I.unwish,r,q⟩
theorem cB.nox{st:List Stmt}{t:TS}(h:cB X.nox st t):cB X st t:=fun pins s σ H D I hw=>
 wpAny_mono (h pins s σ H D (I.wish _) hw) (fun _ _ q=>q.unwish) fun _ _ z=>False.elim z
end
section
variable {X:Cx} {st:Stmt} {rest:List Stmt} {t u:TS} {e:Expr} {te:TE} {pos:Pos}
def uc:TS:=fun D σ H=>D.nx σ H
def tj(t u:TS):TS:=fun D σ H=>t { D with nx:=u D } σ H
theorem aV:cB X [] uc:=fun _ _ σ H _ I h=>wpAny_execs_nil ⟨σ,H,I,h⟩
theorem aj(h1:PS X st t)(h2:cB X rest u):cB X (st::rest) (tj t u):=by
 intro pins s σ H D I h
 refine wpAny_execs_cons (av (h1 pins s σ H { D with nx:=u D } I h) fun f s1 q=>?_)
 cases f with
 | next=>
  obtain⟨σ',H',I',q⟩:=q
  exact h2 pins s1 σ' H' D I' q
 | ret v=>exact q
 | brk=>exact q
 | cont=>exact q
theorem ao(h1:PS X st t):cB X [st] t:=by
 intro pins s σ H D I h
 refine wpAny_execs_cons (av (h1 pins s σ H D I h) fun f s1 q=>?_)
 cases f with
 | next=>exact wpAny_execs_nil q
 | ret v=>exact q
 | brk=>exact q
 | cont=>exact q
theorem Inv.quiet{pins:List (Addr×Obj)}{σ:St}{H:Hp}{s:Shared}(I:Inv X pins σ H s):interactive X.env=false:=by simp[interactive,I.ok.kind]
def sA(te:TE):TS:=fun D σ H=>te σ H fun _ H1=>D.nx σ H1
theorem bA(he:PE X e te)(hs:swapsWith e none pos.line X.env=pure false:=by rfl):PS X (.Expr e pos) (sA te):=by
 intro pins s σ H D I h
 exact wpAny_Expr_any (av (he pins s σ H _ I h) fun v s1 ⟨x,H1,I1,r1,q1⟩=>⟨σ,H1,I1,q1⟩) I.quiet hs
def qN(te:TE):TS:=fun D σ H=>te σ H D.rt
theorem aE(he:PE X e te):PS X (.Return (some e) pos) (qN te):=by
 intro pins s σ H D I h
 exact wpAny_Return_some (av (he pins s σ H _ I h) fun v s1 ⟨x,H1,I1,r1,q1⟩=>⟨x,σ,H1,I1,r1,q1⟩)
def qh(c:TT)(t u:TS):TS:=fun D σ H=>c σ H fun b H1=>if b=true then t D σ H1 else u D σ H1
theorem bp{c:Expr}{a b:List Stmt}{tc:TT}(hc:PT X c tc)(ha:cB X a t)(hb:cB X b u):PS X (.If c a b pos) (qh tc t u):=by
 intro pins s σ H D I h
 refine wpAny_If (av (hc pins s σ H _ I h) fun d s1 ⟨H1,I1,q1⟩=>?_)
 cases d with
 | true=>exact ha pins s1 σ H1 D I1 q1
 | false=>exact hb pins s1 σ H1 D I1 q1
def AO:TS:=fun _ _ _=>False
theorem fR:PS X st AO:=fun _ _ _ _ _ _ h=>h.elim
end
abbrev TG:=V->St->Hp->(St->Hp->Prop)->Prop
abbrev dv:=List V->St->Hp->(St->Hp->Prop)->Prop
def PG(X:Cx)(target:Expr)(t:TG):Prop:=
 ∀(pins:List (Addr×Obj)) (s:Shared) (σ:St) (H:Hp) (v:V) (u:Value) (Q:St->Hp->Prop),Inv X pins σ H s->RelV v u->t v σ H Q →
  wpAny (model X.prog X.w) X.A (assign target X.env u) (fun _ s'=>∃σ' H',Inv X pins σ' H' s'/\Q σ' H') X.xe s
def gN(X:Cx)(ts:List Expr)(t:dv):Prop:=
 ∀(pins:List (Addr×Obj)) (s:Shared) (σ:St) (H:Hp) (vs:List V) (us:List Value) (Q:St->Hp->Prop),Inv X pins σ H s->Vals vs us->t vs σ H Q →
  wpAny (model X.prog X.w) X.A (assignInOrder ((assignEach ts X.env).map (·.2)) us) (fun _ s'=>∃σ' H',Inv X pins σ' H' s'/\Q σ' H') X.xe s
abbrev jv:=V->V->V->Hp->(Hp->Prop)->Prop
def pj(X:Cx)(t:jv):Prop:=
 ∀(pins:List (Addr×Obj)) (s:Shared) (σ:St) (H:Hp) (o i v:V) (ov iv u:Value) (Q:Hp->Prop),Inv X pins σ H s->RelV o ov->RelV i iv->RelV v u->t o i v H Q →
  wpAny (model X.prog X.w) X.A (setItem ov iv u) (fun _ s'=>∃H',Inv X pins σ H' s'/\Q H') X.xe s
abbrev iV:=V->V->Hp->VK->Prop
def mN(X:Cx)(op:Operator)(t:iV):Prop:=
 ∀(pins:List (Addr×Obj)) (s:Shared) (σ:St) (H:Hp) (x y:V) (v u:Value) (Q:VK),Inv X pins σ H s->RelV x v->RelV y u->t x y H Q →
  wpAny (model X.prog X.w) X.A (inplaceOp op v u) (EP X pins σ Q) X.xe s
section
variable {X:Cx} {pos:Pos}
def jl(i:Nat):TG:=fun v σ H Q=>Q (σ.set i (some v)) H
theorem aM{i:Nat}{x:Str}(hN:X.N.Nodup)(hi:X.N[i]?=some x)(hx:Loc X.env.scope x)(hf:X.fn x=true\/X.env.scope.names.lookup x=some .local:=by first | exact .inl rfl | exact .inr rfl | assumption):PG X (.Name x pos) (jl i):=by
 intro pins s σ H v u Q I r h
 exact wpAny_assign_Name (iw I hN hi hx r (fun s' I'=>⟨_,H,I',h⟩) hf)
def sW:dv:=fun vs σ H Q=>vs=[]/\Q σ H
def o6(t:TG)(u:dv):dv:=fun vs σ H Q=>∃v r,vs=v::r/\t v σ H fun σ' H'=>u r σ' H' Q
theorem fN:gN X [] sW:=by
 intro pins s σ H vs us Q I r h
 obtain⟨e,h⟩:=h
 subst e
 cases r
 exact assignInOrder_nil ⟨σ,H,I,h⟩
theorem cA{e:Expr}{es:List Expr}{t:TG}{u:dv}(h1:PG X e t)(h2:gN X es u)
  (hs:(assignEach (e::es) X.env).map (·.2)=assign e X.env::(assignEach es X.env).map (·.2):=by rfl):gN X (e::es) (o6 t u):=by
 intro pins s σ H vs us Q I r h
 obtain⟨v,vr,e1,h⟩:=h
 subst e1
 cases r with
 | cons r rr=>
  rw[hs]
  refine assignInOrder_cons (av (h1 pins s σ H _ _ _ I r h) fun _ s1 ⟨σ1,H1,I1,q1⟩=>?_)
  exact h2 pins s1 σ1 H1 _ _ Q I1 rr q1
def mT(K:Du)(n:Nat)(t:dv):TG:=fun v σ H Q=>∃a xs,v=.ref a/\ah K H a xs/\xs.length=n/\t xs σ H Q
theorem Dl{es:List Expr}{k:Nat}{t:dv}{n:Nat}(hc:X.calm=true)(h:gN X es t)
  (hn:(assignEach es X.env).length=n:=by rfl) (hst:(assignEach es X.env).findIdx? (·.1)=none:=by rfl):PG X (.Tuple es k pos) (mT X.K n t):=by
 intro pins s σ H v u Q I r hw
 obtain⟨a,xs,e1,hq,hl,hw⟩:=hw
 subst e1
 cases r
 obtain⟨its,rv,ht,hz⟩:=I.tuple hq
 refine assign_Tuple_tuple (I.ok.hd hc) ht (by simp[hn,←hl,rv.length]) hst fun h' hx=>?_
 have I1:Inv X pins σ H { s with heap:=h' }:=I.kept (t':=s.toks) fun b o e=>hx b o (DQ (Dx e)) e
 exact h pins _ σ H xs _ Q I1 (by simpa using rv) hw
def sY(to ti:TE)(t:jv):TG:=fun v σ H Q=>to σ H fun o H1=>ti σ H1 fun i H2=>t o i v H2 fun H3=>Q σ H3
theorem jf{o i:Expr}{to ti:TE}{t:jv}(ho:PE X o to)(hi:PE X i ti)(hs:pj X t)
  (ha:∀v,assign (.Subscript o i pos) X.env v=(do
   let ov ←holding [v] (eval o X.env)
   let iv ←holding [v,ov] (eval i X.env)
   standAt pos
   holding [v,ov,iv] (setItem ov iv v)
   release [v,ov,iv] []):=by intro _;rfl):PG X (.Subscript o i pos) (sY to ti t):=by
 intro pins s σ H v u Q I r h
 rw[ha]
 refine Dr (wpAny_holding (av (ho pins s σ H _ I h) fun ov s1 ⟨x,H1,I1,r1,q1⟩=>?_))
 refine Dr (wpAny_holding (av (hi pins s1 σ H1 _ I1 q1) fun iv s2 ⟨y,H2,I2,r2,q2⟩=>?_))
 refine Dr (wpAny_standAt (Dr (wpAny_holding (av (hs pins s2 σ H2 x y v ov iv u _ I2 r1 r2 r q2) fun _ s3 ⟨H3,I3,q3⟩=>?_))))
 exact wpAny_release ⟨σ,H3,I3,q3⟩
def jK(te:TE)(g:TG):TS:=fun D σ H=>te σ H fun x H1=>g x σ H1 D.nx
theorem fV{tg e:Expr}{te:TE}{g:TG}(he:PE X e te)(hg:PG X tg g)(hs:swapsWithSole [tg] e pos.line X.env=pure false:=by rfl)(hw:swappedStores [tg] e X.env=pure none:=by rfl)
  (h1:(assignEach [tg] X.env).map (·.2)=[assign tg X.env]:=by rfl):PS X (.Assign [tg] e pos) (jK te g):=by
 intro pins s σ H D I h
 refine wpAny_Assign_stores (av (he pins s σ H _ I h) fun v s1 ⟨x,H1,I1,r1,q1⟩=>?_) hs hw
 rw[h1]
 exact av (hg pins s1 σ H1 x v _ I1 r1 q1) fun _ s2 q=>q
theorem aF{i:Nat}{x:Str}{e:Expr}{te:TE}{pos':Pos}(hN:X.N.Nodup)(hi:X.N[i]?=some x)(hx:Loc X.env.scope x)(he:PE X e te)(hs:swapsWith e (some (.Name x pos')) pos.line X.env=pure false:=by rfl)(hf:X.fn x=true\/X.env.scope.names.lookup x=some .local:=by first | exact .inl rfl | exact .inr rfl | assumption):
  PS X (.Assign [.Name x pos'] e pos) (jK te (jl i)):=by
 intro pins s σ H D I h
 refine wpAny_Assign_Name (av (he pins s σ H _ I h) fun v s1 ⟨y,H1,I1,r1,q1⟩=>?_) hs
 exact iw I1 hN hi hx r1 (fun s2 I2=>⟨_,H1,I2,q1⟩) hf
def rM(i j:Nat)(ta:TA):TS:=fun D σ H=>ta σ H fun vs H1=>∃v w,vs=[v,w]/\D.nx ((σ.set i (some v)).set j (some w)) H1
theorem tu{i j:Nat}{x y:Str}{a b:Expr}{ta:TA}{px py pt:Pos}{kt k2 pt2}(hc:X.calm=true)(hN:X.N.Nodup)(hi:X.N[i]?=some x)(hj:X.N[j]?=some y)(hij:i≠j)
  (hx:X.env.scope.names.lookup x=some .local) (hy:X.env.scope.names.lookup y=some .local) (ha:PA X [a,b] ta)
  (hw:swappedStores [.Tuple [.Name x px,.Name y py] kt pt] (.Tuple [a,b] k2 pt2) X.env=pure (some [x,y]))
  (hs:swapsWithSole [.Tuple [.Name x px,.Name y py] kt pt] (.Tuple [a,b] k2 pt2) pos.line X.env=pure false:=by rfl) :
  PS X (.Assign [.Tuple [.Name x px,.Name y py] kt pt] (.Tuple [a,b] k2 pt2) pos) (rM i j ta):=by
 intro pins s σ H D I h
 rw[exec_Assign_arm]
 refine Dr (wpAny_standAt ?_)
 rw[hs]
 refine Dr (Dt ?_)
 rw[if_neg (by decide)]
 refine Dr (Tuple_ (av (ha _ pins s σ H _ I h) fun us s1 ⟨vs,H1,I1,r1,q1⟩=>?_))
 obtain⟨v,w,e1,q1⟩:=q1
 subst e1
 obtain⟨u1,u2,rfl,rv,rw'⟩:∃u1 u2,us=[u1,u2]/\RelV v u1/\RelV w u2:=by
  cases r1 with
  | cons p q=>
   cases q with
   | cons p' q'=>
    cases q'
    exact⟨_,_,rfl,p,p'⟩
 refine wpAny_newObj_type ?_ (by show 2<=sizeLine;decide)
 have I2:Inv X pins σ H1 { s1 with heap:=s1.heap.push { cls:=.type "tuple",data:=.seq [u1,u2].toArray } }:=I1.kept (t':=s1.toks) fun b o e=>Dv _ e
 rw[hw]
 refine Dr (Dt ?_)
 show wpAny (model X.prog X.w) X.A (do rule "assign.swapped-stores";let items ←unpackItems (.ref s1.heap.objs.size) 2 none;assignInOrder [fun v=>bindName X.env y v,fun v=>bindName X.env x v] items.reverse;pure Flow.next) _ _ _
 refine Dr (wpAny_rule (Dr (unpackItems_tuple (items:=#[u1,u2]) (I.ok.hd hc) (IsTup.new s1.heap _) fun h' hx'=>?_)))
 have I3:=I2.kept (h':=h') (t':=s1.toks) fun b o e=>hx' b o (DQ (Dx e)) e
 show wpAny _ _ (assignInOrder [fun v=>bindName X.env y v,fun v=>bindName X.env x v] [u2,u1] >>= fun _=>pure Flow.next) _ _ _
 refine Dr (assignInOrder_cons (wpAny_bindName (iw I3 hN hj (.inl hy) rw' (fun s2 I4=>?_) (.inr hy))))
 refine assignInOrder_cons (wpAny_bindName (iw I4 hN hi (.inl hx) rv (fun s3 I5=>assignInOrder_nil (Dt ?_)) (.inr hx)))
 rw[List.set_comm _ _ (Ne.symm hij)]at I5
 exact⟨_,H1,I5,q1⟩
def rK(i:Nat)(te:TE)(ti:iV):TS:=fun D σ H=>∃x,σ[i]?=some (some x)/\te σ H fun y H1=>ti x y H1 fun z H2=>D.nx (σ.set i (some z)) H2
theorem kE{i:Nat}{x:Str}{e:Expr}{te:TE}{op:Operator}{ti:iV}{pos':Pos}(hN:X.N.Nodup)(hi:X.N[i]?=some x)(hx:Loc X.env.scope x)(he:PE X e te)(ho:mN X op ti)(hf:X.fn x=true\/X.env.scope.names.lookup x=some .local:=by first | exact .inl rfl | exact .inr rfl | assumption):
  PS X (.AugAssign (.Name x pos') op e pos) (rK i te ti):=by
 intro pins s σ H D I h
 obtain⟨v,e1,h⟩:=h
 obtain⟨m,hn,hl⟩:=I.loc
 have vis:j9 X.env.scope x:=by rcases hx with k | k;exact .inl k;exact .inr (.inl k)
 obtain⟨u,r,l⟩:=hl i x v hi e1 vis
 refine wpAny_AugAssign_Name ?_
 have go:wpAny (model X.prog X.w) X.A (eval e X.env) (fun w s₂=>wpAny (model X.prog X.w) X.A (inplaceOp op u w) (fun r s₃=>wpAny (model X.prog X.w) X.A (storeName X.env x r) (fun _=>SP X pins D .next) X.xe s₃) X.xe s₂) X.xe s:=by
  refine av (he pins s σ H _ I h) fun w s1 ⟨y,H1,I1,r1,q1⟩=>?_
  refine av (ho pins s1 σ H1 v y u w _ I1 r r1 q1) fun z s2 ⟨zv,H2,I2,r2,q2⟩=>?_
  exact iw I2 hN hi hx r2 (fun s3 I3=>⟨_,H2,I3,q2⟩) hf
 rcases l with⟨hk,hm⟩ | ⟨hk,c,hc,hcell⟩
 ·exact wpAny_loadName_local I.ok.kind hk hn hm go
 ·rcases hk with hk | hk
  ·exact wpAny_loadName_cell I.ok.kind hk hc hcell go
  ·rcases hx with k | k
   ·have:X.env.scope.names.lookup x=some .free:=hk
    rw[k]at this;cases this
   ·have:X.env.scope.names.lookup x=some .free:=hk
    rw[k]at this;cases this
def mh(f:Int->Int->Int):iV:=fun x y H Q=>∃i j,x=.int i/\y=.int j/\Q (.int (f i j)) H
theorem tU:mN X .Add (mh fun i j=>i+j):=by
 intro pins s σ H x y v u Q I r1 r2 h
 obtain⟨i,j,e1,e2,q⟩:=h
 subst e1;subst e2
 obtain⟨t,rfl⟩:=r1
 obtain⟨t',rfl⟩:=r2
 exact iadd_int ⟨.int _,H,I.tok _,⟨_,rfl⟩,q⟩
theorem wV:mN X .Sub (mh fun i j=>i-j):=by
 intro pins s σ H x y v u Q I r1 r2 h
 obtain⟨i,j,e1,e2,q⟩:=h
 subst e1;subst e2
 obtain⟨t,rfl⟩:=r1
 obtain⟨t',rfl⟩:=r2
 exact isub_int ⟨.int _,H,I.tok _,⟨_,rfl⟩,q⟩
end
section
variable {X:Cx} {pos:Pos}
def Ci(c:TT)(tb:TS):TS:=fun D σ H=>∃W:Nat->St->Hp->Prop,(∃m,W m σ H)/\∀m σ H,W m σ H →
 c σ H fun b H1=>if b=true then ∃N:St->Hp->Prop,(∀σ' H',N σ' H'->∃m',m'<m/\W m' σ' H')/\tb { D with nx:=N,ct:=N,bk:=D.nx } σ H1 else D.nx σ H1
theorem xW{c:Expr}{body:List Stmt}{tc:TT}{tb:TS}(hp:PassesOwn (model X.prog X.w) X.A X.env X.xe)(hc:PT X c tc)(hb:cB X body tb):PS X (.While c body [] pos) (Ci tc tb):=by
 intro pins s σ H D I h
 obtain⟨W,⟨m0,w0⟩,turn⟩:=h
 refine wpAny_While (codeAny_whileLoop (fun n s'=>∃σ' H',Inv X pins σ' H' s'/\W n σ' H') ?_ m0 ⟨σ,H,I,w0⟩)
 rintro n s1 ⟨σ1,H1,I1,w1⟩
 refine wpAny_passesOwn hp (av (hc pins s1 σ1 H1 _ I1 (turn n σ1 H1 w1)) fun b s2 ⟨H2,I2,q2⟩=>?_)
 cases b with
 | true=>
  obtain⟨N,hN,q2⟩:=q2
  rw[if_pos rfl]
  refine wpAny_passesOwn hp (av (hb pins s2 σ1 H2 _ I2 q2) fun f s3 q3=>?_)
  cases f with
  | next=>
   obtain⟨σ3,H3,I3,n3⟩:=q3
   obtain⟨m',hm,w3⟩:=hN σ3 H3 n3
   exact⟨m',hm,σ3,H3,I3,w3⟩
  | cont=>
   obtain⟨σ3,H3,I3,n3⟩:=q3
   obtain⟨m',hm,w3⟩:=hN σ3 H3 n3
   exact⟨m',hm,σ3,H3,I3,w3⟩
  | brk=>exact q3
  | ret v=>exact q3
 | false=>
  rw[if_neg DN]
  exact wpAny_execs_nil ⟨σ1,H2,I2,q2⟩
end
structure It where
 go:Nat->Hp->Prop
 yld:Nat->Hp->V->Hp->Prop
 stop:Nat->Hp->Prop
def bT(X:Cx)(pins:List (Addr×Obj))(H:Hp)(b:Addr):Prop:=
 H b=none/\b≠X.env.locals/\b∉X.fs/\(b∈X.ex\/X.s₀.heap.objs.size<=b)/\(∀x c,X.env.cells.lookup x=some c->c≠b)/\∀p∈X.pn++pins,p.1≠b
theorem Inv.fpOk{X:Cx}{pins:List (Addr×Obj)}{σ:St}{H H':Hp}{s:Shared}{b:Addr}(I:Inv X pins σ H s)(hb:s.heap.objs.size<=b)(hn:H' b=none):bT X pins H' b:=by
 refine⟨hn,Nat.ne_of_gt (Ea I.lt hb),I.nofs hb,.inr (Eb I.sz hb),fun x c e z=>?_,fun p hp z=>?_⟩
 ·obtain⟨v,q⟩:=I.cell x c e
  exact absurd (Ea q.lt (by rw[z];exact hb)) (Nat.lt_irrefl _)
 ·exact absurd (Ea (Dx (I.pin p hp).1) (by rw[z];exact hb)) (Nat.lt_irrefl _)
structure Turn(P:Program)(w:World)(K:Du)(tg:Expr)(J:It)(fp:List Addr)(it:Addr)(tn:Nat->Heap->Prop):Prop where
 mem:it∈fp
 obj:∀i h,tn i h->∀b∈fp,∃o,h.get? b=some o/\∀v,o.data≠.cell v
 keep:∀i h h',tn i h->(∀b∈fp,∀o,h.get? b=some o->h'.get? b=some o)->tn i h'
 item:∀(X:Cx),X.prog=P->X.w=w->X.K=K->X.calm=true->∀(i:Nat) (pins:List (Addr×Obj)) (s:Shared) (σ:St) (H:Hp) (E:Value->Shared->Prop),Inv X pins σ H s->(∀b∈fp,bT X pins H b)->tn i s.heap->J.go i H →
  wpAny (model P w) X.A (pyNext (.ref it)) (fun r s1=>∃u,r=some u ∧
   wpAny (model P w) X.A (letOwnedTupleGo tg (.ref it) u) (fun _ s2=>∃x H',Inv X pins σ H' s2/\RelV x u/\J.yld i H x H'/\tn (i+1) s2.heap/\∀b∈fp,H' b=none) E s1) E s
 done:∀(X:Cx),X.prog=P->X.w=w->X.K=K->X.calm=true->∀(i:Nat) (pins:List (Addr×Obj)) (s:Shared) (σ:St) (H:Hp) (E:Value->Shared->Prop),Inv X pins σ H s->(∀b∈fp,bT X pins H b)->tn i s.heap->J.stop i H →
  wpAny (model P w) X.A (pyNext (.ref it)) (fun r s1=>r=none/\Inv X pins σ H s1) E s
 self:∀(A:Around) (i:Nat) (s:Shared) (Q:Value->Shared->Prop) (E:Value->Shared->Prop),tn i s.heap->Q (.ref it) s->wpAny (model P w) A (pyIter (.ref it)) Q E s
abbrev TI:=St->Hp->(It->Hp->Prop)->Prop
def lS(X:Cx)(pins:List (Addr×Obj))(σ:St)(tg:Expr)(R:It->Hp->Prop)(itv:Value)(s2:Shared):Prop:=
 ∃(it:Addr) (fp:List Addr) (tn:Nat->Heap->Prop) (J:It) (H':Hp),itv=.ref it/\Inv X pins σ H' s2/\Turn X.prog X.w X.K tg J fp it tn/\tn 0 s2.heap/\(∀b∈fp,bT X pins H' b)/\R J H'
def PI(X:Cx)(tg iter:Expr)(wi:TI):Prop:=
 ∀(pins:List (Addr×Obj)) (s:Shared) (σ:St) (H:Hp) (R:It->Hp->Prop),Inv X pins σ H s->wi σ H R →
  wpAny (model X.prog X.w) X.A (eval iter X.env) (fun v s1=>wpAny (model X.prog X.w) X.A (pyIter v) (lS X pins σ tg R) X.xe s1) X.xe s
theorem lQ {M : Model} {A : Around} {E : Value → Shared → Prop} {s : Shared} {tg : Expr} {it : Addr} {u : Value} {o : Obj} {n : String} {vs : Array Value} {Q : Unit → Shared → Prop} (ho : s.heap.get? it = some o) (hc : o.cls = .type n) (hd : o.data = .fields vs)
    (hn : ["enumerate", "zip", "dict_itemiterator", "dict_reverseitemiterator", "odict_iterator", "itertools.zip_longest", "itertools.pairwise"].contains n = false) (hQ : Q () s) : wpAny M A (letOwnedTupleGo tg (.ref it) u) Q E s := by
  unfold letOwnedTupleGo
  cases tg <;> first
    | exact Dt hQ
    | (cases u <;> first
        | exact Dt hQ
        | (refine Dr (wpAny_load ho ?_)
           rw [hc, hd]
           show wpAny M A (if (["enumerate", "zip", "dict_itemiterator", "dict_reverseitemiterator", "odict_iterator", "itertools.zip_longest", "itertools.pairwise"].contains n && vs[0]? == some (rawInt _)) = true then _ else _) Q E s
           rw [if_neg (by intro h; rw [hn, Bool.false_and] at h; cases h)]
           exact Dt hQ))
def cZ(K:Du)(a:Addr):It:=
 ⟨fun i H=>∃xs x,ag K H a xs/\xs[i]?=some x,fun i H x H'=>H'=H/\∀xs,ag K H a xs->xs[i]?=some x,fun i H=>∃xs,ag K H a xs/\xs.length<=i⟩
def cQ(K:Du)(a:Addr):It:=
 ⟨fun i H=>∃xs x,ah K H a xs/\xs[i]?=some x,fun i H x H'=>H'=H/\∀xs,ah K H a xs->xs[i]?=some x,fun i H=>∃xs,ah K H a xs/\xs.length<=i⟩
def dn(lo:Int)(n:Nat):It:=⟨fun i _=>i<n,fun i H x H'=>H'=H/\x=.int (lo+i),fun i _=>n<=i⟩
theorem zh{P:Program}{w:World}{K:Du}{tg:Expr}(a it:Addr):Turn P w K tg (cZ K a) [it] it (fun i h=>h.IsListIter it a i) where
 mem:=by simp
 obj:=fun i h st b hb=>by
  have e:b=it:=by simpa using hb
  subst e
  obtain⟨o,e,c,d⟩:=st
  exact⟨o,e,fun v z=>by rw[d]at z;cases z⟩
 keep:=fun i h h' st k=>st.at fun o e=>k it (by simp) o e
 item:=by
  intro X hP hw hK hc i pins s σ H E I hf st hg
  subst hP hw hK
  obtain⟨xs,x,hq,hx⟩:=hg
  obtain⟨its,rv,p,hz⟩:=I.list hq
  obtain⟨u,hu,ru⟩:=rv.get hx
  obtain⟨f0,f1,f2,f3,f4,f5⟩:=hf it (by simp)
  refine wpAny_pyNext_list_item st p.isList (x:=u) (by simpa using hu) fun h' st' sb=>?_
  have I1:Inv X pins σ H { s with heap:=h' }:=I.turned (t':=s.toks) (fun b o hb e=>(sb.2 b hb).trans e) f0 f1 f3 f4 f5
  obtain⟨o,e,c,d⟩:=id st'
  exact⟨u,rfl,lQ (s:={ s with heap:=h' }) e c d (by decide) ⟨x,H,I1,ru,⟨rfl,fun ys hy=>by rw[I.list_inj hy hq];exact hx⟩,st',fun b hb=>(hf b hb).1⟩⟩
 done:=by
  intro X hP hw hK hc i pins s σ H E I hf st hg
  subst hP hw hK
  obtain⟨xs,hq,hx⟩:=hg
  obtain⟨its,rv,p,hz⟩:=I.list hq
  obtain⟨f0,f1,f2,f3,f4,f5⟩:=hf it (by simp)
  have hl:=rv.length
  exact wpAny_pyNext_list_end (I.ok.hd hc) st p.isList (by simp;omega) fun h' eb=>⟨rfl,I.turned (t':=s.toks) (fun b o hb e=>eb b o hb e) f0 f1 f3 f4 f5⟩
 self:=fun _ _ _ _ _ st h=>wpAny_pyIter_listiter st h
theorem By{P:Program}{w:World}{K:Du}{tg:Expr}(a it:Addr):Turn P w K tg (cQ K a) [it] it (fun i h=>h.IsTupleIter it a i) where
 mem:=by simp
 obj:=fun i h st b hb=>by
  have e:b=it:=by simpa using hb
  subst e
  obtain⟨o,e,c,d⟩:=st
  exact⟨o,e,fun v z=>by rw[d]at z;cases z⟩
 keep:=fun i h h' st k=>st.at fun o e=>k it (by simp) o e
 item:=by
  intro X hP hw hK hc i pins s σ H E I hf st hg
  subst hP hw hK
  obtain⟨xs,x,hq,hx⟩:=hg
  obtain⟨its,rv,p,hz⟩:=I.tuple hq
  obtain⟨u,hu,ru⟩:=rv.get hx
  obtain⟨f0,f1,f2,f3,f4,f5⟩:=hf it (by simp)
  refine wpAny_pyNext_tuple_item st (show s.heap.IsTuple a its.toArray from p) (x:=u) (by simpa using hu) fun h' st' sb=>?_
  have I1:Inv X pins σ H { s with heap:=h' }:=I.turned (t':=s.toks) (fun b o hb e=>(sb.2 b hb).trans e) f0 f1 f3 f4 f5
  obtain⟨o,e,c,d⟩:=id st'
  exact⟨u,rfl,lQ (s:={ s with heap:=h' }) e c d (by decide) ⟨x,H,I1,ru,⟨rfl,fun ys hy=>by rw[I.tuple_inj hy hq];exact hx⟩,st',fun b hb=>(hf b hb).1⟩⟩
 done:=by
  intro X hP hw hK hc i pins s σ H E I hf st hg
  subst hP hw hK
  obtain⟨xs,hq,hx⟩:=hg
  obtain⟨its,rv,p,hz⟩:=I.tuple hq
  obtain⟨f0,f1,f2,f3,f4,f5⟩:=hf it (by simp)
  have hl:=rv.length
  exact wpAny_pyNext_tuple_end (I.ok.hd hc) st (show s.heap.IsTuple a its.toArray from p) (by simp;omega) fun h' eb=>⟨rfl,I.turned (t':=s.toks) (fun b o hb e=>eb b o hb e) f0 f1 f3 f4 f5⟩
 self:=fun _ _ _ _ _ st h=>wpAny_pyIter_tupleiter st h
theorem Cv{P:Program}{w:World}{K:Du}{tg:Expr}(it:Addr)(lo:Int)(n:Nat):Turn P w K tg (dn lo n) [it] it (fun i h=>IsRangeIter h it (lo+(i:Nat)*1) ((n:Int)-(i:Nat)) 1) where
 mem:=by simp
 obj:=fun i h st b hb=>by
  have e:b=it:=by simpa using hb
  subst e
  exact⟨_,st,fun v z=>by
   have z':Data.fields _=Data.cell v:=z
   cases z'⟩
 keep:=fun i h h' st k=>k it (by simp) _ st
 item:=by
  intro X hP hw hK hc i pins s σ H E I hf st hg
  subst hP hw hK
  obtain⟨f0,f1,f2,f3,f4,f5⟩:=hf it (by simp)
  have W:=Walks.range (prog:=X.prog) (w:=X.w) (I.ok.hd hc) it lo 1 n
  refine W.item i s _ _ hg st fun v h' tk hv st' kk=>?_
  obtain⟨t,rfl⟩:=hv
  have I1:Inv X pins σ H { s with heap:=h',toks:=tk }:=I.turned (fun b o hb e=>kk b o (by simpa using hb) e) f0 f1 f3 f4 f5
  refine⟨_,rfl,lQ (s:={ s with heap:=h',toks:=tk }) (n:="range_iterator") st' rfl rfl (by decide) ⟨.int (lo+i),H,I1,⟨t,?_⟩,⟨rfl,rfl⟩,st',fun b hb=>(hf b hb).1⟩⟩
  rw[Int.mul_one]
 done:=by
  intro X hP hw hK hc i pins s σ H E I hf st hg
  subst hP hw hK
  obtain⟨f0,f1,f2,f3,f4,f5⟩:=hf it (by simp)
  exact wpAny_pyNext_range_end (I.ok.hd hc) st (by have:n<=i:=hg;omega) fun h' eb=>⟨rfl,I.turned (t':=s.toks) (fun b o hb e=>eb b o hb e) f0 f1 f3 f4 f5⟩
 self:=fun _ _ _ _ _ st h=>wpAny_pyIter_rangeiter st h
end L2
namespace L2
open PySem PySem.Spec PyProof.Rows
section
variable {X:Cx} {tg:Expr}
def nZ(K:Du)(tl:TE):TI:=fun σ H R=>tl σ H fun x H1=>∃a,x=.ref a/\(∃xs,ag K H1 a xs)/\R (cZ K a) H1
def kK(K:Du)(tl:TE):TI:=fun σ H R=>tl σ H fun x H1=>∃a,x=.ref a/\(∃xs,ah K H1 a xs)/\R (cQ K a) H1
theorem yr{l:Expr}{tl:TE}(hl:PE X l tl):PI X tg l (nZ X.K tl):=by
 intro pins s σ H R I h
 refine av (hl pins s σ H _ I h) fun v s1 ⟨x,H1,I1,r1,q1⟩=>?_
 obtain⟨a,e,⟨xs,hq⟩,q⟩:=q1
 subst e
 cases r1
 obtain⟨its,rv,p,hz⟩:=I1.list hq
 refine wpAny_pyIter_list p.isList ?_
 refine⟨s1.heap.objs.size,[s1.heap.objs.size],_,_,H1,rfl,I1.kept (t':=s1.toks) fun b o e=>Dv _ e,zh a _,⟨_,Dw _ rfl,rfl,rfl⟩,fun b hb=>?_,q⟩
 have e:b=s1.heap.objs.size:=by simpa using hb
 subst e
 exact I1.fpOk (DR _) (I1.hok.fresh (DR _))
theorem xh{l:Expr}{tl:TE}(hl:PE X l tl):PI X tg l (kK X.K tl):=by
 intro pins s σ H R I h
 refine av (hl pins s σ H _ I h) fun v s1 ⟨x,H1,I1,r1,q1⟩=>?_
 obtain⟨a,e,⟨xs,hq⟩,q⟩:=q1
 subst e
 cases r1
 obtain⟨its,rv,p,hz⟩:=I1.tuple hq
 refine wpAny_pyIter_tuple (show s1.heap.IsTuple a its.toArray from p) ?_
 refine⟨s1.heap.objs.size,[s1.heap.objs.size],_,_,H1,rfl,I1.kept (t':=s1.toks) fun b o e=>Dv _ e,By a _,⟨_,Dw _ rfl,rfl,rfl⟩,fun b hb=>?_,q⟩
 have e:b=s1.heap.objs.size:=by simpa using hb
 subst e
 exact I1.fpOk (DR _) (I1.hok.fresh (DR _))
theorem tX{pins:List (Addr×Obj)}{σ:St}{H:Hp}{s:Shared}{R:It->Hp->Prop}{E:Value->Shared->Prop}{lo hi:Int}{t u v:Tok}{tk:Nat}(I:Inv X pins σ H s)(h1:-(2 ^ 62)<=lo)(h2:lo<2 ^ 62)(h3:-(2 ^ 62)<=hi)(h4:hi<2 ^ 62)
  (q:R (dn lo (hi-lo).toNat) H):wpAny (model X.prog X.w) X.A (pyIter (.ref s.heap.objs.size)) (lS X pins σ tg R) E { s with heap:=s.heap.push { cls:=.type "range",data:=.fields #[.int lo t,.int hi u,.int 1 v] },toks:=tk }:=by
 refine wpAny_pyIter_range (IsRange.new ..) (small_one h1 h2 h3 h4) ?_
 have I1:Inv X pins σ H { s with heap:=s.heap.push { cls:=.type "range",data:=.fields #[.int lo t,.int hi u,.int 1 v] },toks:=tk }:=I.kept fun b o e=>Dv _ e
 refine⟨(s.heap.push { cls:=.type "range",data:=.fields #[.int lo t,.int hi u,.int 1 v] }).objs.size,[(s.heap.push { cls:=.type "range",data:=.fields #[.int lo t,.int hi u,.int 1 v] }).objs.size],_,_,H,rfl,
  I1.kept (t':=tk) fun b o e=>Dv _ e,Cv _ lo (hi-lo).toNat,?_,fun b hb=>?_,q⟩
 ·have e1:lo+((0:Nat):Int)*1=lo:=by simp
  have e2:(((hi-lo).toNat:Nat):Int)-((0:Nat):Int)=Builtin.Range.rangeSize lo hi 1:=by rw[rangeSize_one];split<;>omega
  show IsRangeIter _ _ (lo+((0:Nat):Int)*1) ((((hi-lo).toNat:Nat):Int)-((0:Nat):Int)) 1
  rw[e1,e2]
  exact Dw _ rfl
 ·have e:b=(s.heap.push { cls:=.type "range",data:=.fields #[.int lo t,.int hi u,.int 1 v] }).objs.size:=by simpa using hb
  subst e
  exact I1.fpOk (DR _) (I1.hok.fresh (DR _))
def qQ(ta:TA):TI:=fun σ H R=>ta σ H fun vs H1=>∃j:Int,vs=[.int j]/\-(2 ^ 62)<=j/\j<2 ^ 62/\R (dn 0 j.toNat) H1
def pR(ta:TA):TI:=fun σ H R=>ta σ H fun vs H1=>∃i j:Int,vs=[.int i,.int j]/\(-(2 ^ 62)<=i/\i<2 ^ 62/\-(2 ^ 62)<=j/\j<2 ^ 62)/\R (dn i (j-i).toNat) H1
theorem bQ{a:Expr}{ta:TA}{p pos:Pos}(hg:Gl X "range")(hm:X.mg "range" = none)(ha:PA X [a] ta)(hs:starEach [a] X.env=[(false,eval a X.env)]:=by rfl):PI X tg (.Call (.Name "range" p) [a] [] pos) (qQ ta):=by
 intro pins s σ H R I h
 refine Call_ (fX I hg hm boot_range (PyProof.Rows.callWith_type1 (av (ha pos pins s σ H _ I h) fun us s1 ⟨vs,H1,I1,r1,q1⟩=>?_) hs rfl))
 obtain⟨j,e,q1,q2,q⟩:=q1
 subst e
 cases r1 with
 | cons r rr=>
  cases rr
  obtain⟨t,rfl⟩:=r
  exact call_range_1 (tX I1 (by omega) (by omega) q1 q2 (by simpa using q))
theorem um{a b:Expr}{ta:TA}{p pos:Pos}(hg:Gl X "range")(hm:X.mg "range" = none)(ha:PA X [a,b] ta)(hs:starEach [a,b] X.env=[(false,eval a X.env),(false,eval b X.env)]:=by rfl)(hs2:starEach [b] X.env=[(false,eval b X.env)]:=by rfl):
  PI X tg (.Call (.Name "range" p) [a,b] [] pos) (pR ta):=by
 intro pins s σ H R I h
 refine Call_ (fX I hg hm boot_range (PyProof.Rows.callWith_type1 (av (ha pos pins s σ H _ I h) fun us s1 ⟨vs,H1,I1,r1,q1⟩=>?_) (by rw[hs,hs2]) (by rw[hs2];rfl)))
 obtain⟨i,j,e,⟨q1,q2,q3,q4⟩,q⟩:=q1
 subst e
 cases r1 with
 | cons r rr=>
  cases rr with
  | cons r' rr=>
   cases rr
   obtain⟨t,rfl⟩:=r
   obtain⟨t',rfl⟩:=r'
   exact call_range_2 (tX I1 q1 q2 q3 q4 q)
def qL(wi:TI)(g:TG)(tb:TS):TS:=fun D σ H=>wi σ H fun J H1=>∃W:Nat->Nat->St->Hp->Prop,(∃m,W 0 m σ H1)/\∀i m σ H,W i m σ H →
 (J.stop i H/\D.nx σ H)\/(J.go i H/\∃N:St->Hp->Prop,(∀σ' H',N σ' H'->∃m',m'<m/\W (i+1) m' σ' H')/\∀x H',J.yld i H x H'->g x σ H' fun σ2 H2=>tb { D with nx:=N,ct:=N,bk:=D.nx } σ2 H2)
def fC(fp:List Addr)(h:Heap):List (Addr×Obj):=fp.filterMap fun b=>(h.get? b).map fun o=>(b,o)
theorem kR{fp:List Addr}{h:Heap}{b:Addr}{o:Obj}(hb:b∈fp)(e:h.get? b=some o):(b,o)∈fC fp h:=List.mem_filterMap.mpr ⟨b,hb,by rw[e];rfl⟩
theorem uM{fp:List Addr}{h:Heap}{p:Addr×Obj}(hp:p∈fC fp h):p.1∈fp/\h.get? p.1=some p.2:=by
 obtain⟨b,hb,e⟩:=List.mem_filterMap.mp hp
 cases q:h.get? b with
 | none=>rw[q]at e;cases e
 | some o=>
  rw[q]at e
  have e':(b,o)=p:=Option.some.inj e
  subst e'
  exact⟨hb,q⟩
theorem Inv.pinned{pins:List (Addr×Obj)}{σ:St}{H:Hp}{s:Shared}{fp:List Addr}(I:Inv X pins σ H s)(hf:∀b∈fp,bT X pins H b)(ho:∀b∈fp,∃o,s.heap.get? b=some o/\∀v,o.data≠.cell v):Inv X (pins++fC fp s.heap) σ H s:=
 I.pins_of fun p hp=>(DU.mp hp).elim (fun z=>I.pin p (List.mem_append_right _ z)) fun z=>by
  obtain⟨hb,e⟩:=uM z
  obtain⟨f0,f1,f2,_⟩:=hf p.1 hb
  obtain⟨o,e',d⟩:=ho p.1 hb
  rw[e]at e';cases e'
  exact⟨e,f0,f1,f2,d⟩
theorem Inv.unpinned{pins pl:List (Addr×Obj)}{σ:St}{H:Hp}{s:Shared}(I:Inv X (pins++pl) σ H s):Inv X pins σ H s:=I.pins_of fun p hp=>I.pin p (List.mem_append_right _ (List.mem_append_left _ hp))
theorem bJ{iter:Expr}{body:List Stmt}{wi:TI}{g:TG}{tb:TS}{pos:Pos}(hp:PassesOwn (model X.prog X.w) X.A X.env X.xe)(hc:X.calm=true)(hi:PI X tg iter wi)(hg:PG X tg g)(hb:cB X body tb)
  (hs:∀x,foldedSetIterable iter X.env x=pure x:=by intro _;rfl):PS X (.For tg iter body [] pos) (qL wi g tb):=by
 intro pins s σ H D I h
 refine wpAny_For (av (hi pins s σ H _ I h) fun v s1 h1=>av h1 fun itv s2 h2=>?_) hs
 obtain⟨it,fp,tn,J,H2,e,I2,T,st2,f2,W,⟨m0,w0⟩,turn⟩:=h2
 subst e
 -- what stays true of the iterator's objects through the loop
 have stat:∀{H':Hp},(∀b∈fp,H' b=none)->∀b∈fp,bT X pins H' b:=fun hn b hb=>⟨hn b hb,(f2 b hb).2⟩
 refine codeAny_forLoop_any (fun n s'=>∃i σ' H',Inv X pins σ' H' s'/\tn i s'.heap/\(∀b∈fp,H' b=none)/\W i n σ' H') ?_ m0 ⟨0,σ,H2,I2,st2,fun b hb=>(f2 b hb).1,w0⟩
 rintro n s3 ⟨i,σ3,H3,I3,st3,fr3,w3⟩
 rcases turn i n σ3 H3 w3 with⟨stop,qn⟩ | ⟨go,N,hN,step⟩
 ·refine wpAny_passesOwn hp (av (T.done X rfl rfl rfl hc i pins s3 σ3 H3 X.xe I3 (stat fr3) st3 stop) fun r s4 ⟨hr,I4⟩=>?_)
  subst hr
  exact wpAny_execs_nil ⟨σ3,H3,I4,qn⟩
 ·refine wpAny_passesOwn hp (av (T.item X rfl rfl rfl hc i pins s3 σ3 H3 X.xe I3 (stat fr3) st3 go) fun r s4 ⟨u,hr,h4⟩=>?_)
  subst hr
  refine wpAny_passesOwn hp (av h4 fun _ s5 ⟨x,H5,I5,r5,y5,st5,fr5⟩=>?_)
  have I5':=I5.pinned (stat fr5) (T.obj _ _ st5)
  refine wpAny_passesOwn hp (av (hg _ s5 σ3 H5 x u _ I5' r5 (step x H5 y5)) fun _ s6 ⟨σ6,H6,I6,q6⟩=>?_)
  refine wpAny_passesOwn hp (av (hb _ s6 σ6 H6 _ I6 q6) fun f s7 q7=>?_)
  have again:∀{σ7:St} {H7:Hp},Inv X (pins++fC fp s5.heap) σ7 H7 s7->N σ7 H7->∃m,m<n/\∃i σ' H',Inv X pins σ' H' s7/\tn i s7.heap/\(∀b∈fp,H' b=none)/\W i m σ' H':=fun{σ7 H7} I7 n7=>by
   obtain⟨m',hm,w7⟩:=hN σ7 H7 n7
   refine⟨m',hm,i+1,σ7,H7,I7.unpinned,T.keep _ _ _ st5 fun b hb o e=>(I7.pin (b,o) (List.mem_append_right _ (List.mem_append_right _ (kR hb e)))).1,fun b hb=>?_,w7⟩
   obtain⟨o,e,d⟩:=T.obj _ _ st5 b hb
   exact(I7.pin (b,o) (List.mem_append_right _ (List.mem_append_right _ (kR hb e)))).2.1
  cases f with
  | next=>obtain⟨σ7,H7,I7,n7⟩:=q7;exact again I7 n7
  | cont=>obtain⟨σ7,H7,I7,n7⟩:=q7;exact again I7 n7
  | brk=>obtain⟨σ7,H7,I7,q7⟩:=q7;exact⟨σ7,H7,I7.unpinned,q7⟩
  | ret v=>obtain⟨x7,σ7,H7,I7,r7,q7⟩:=q7;exact⟨x7,σ7,H7,I7.unpinned,r7,q7⟩
end
theorem BR{K:Du}{a:Addr}{xs:List V}{g:TG}{tb:TS}{D:Ends}{σ:St}{H:Hp}(Pv:Nat->St->Hp->Prop)(h0:Pv 0 σ H)(hl:∀i σ H,i<=xs.length->Pv i σ H->ag K H a xs)
  (hs:∀i x σ H,xs[i]?=some x->Pv i σ H->g x σ H fun σ2 H2=>tb { D with nx:=Pv (i+1),ct:=Pv (i+1),bk:=D.nx } σ2 H2) (hd:∀σ H,Pv xs.length σ H->D.nx σ H) :
  ∃W:Nat->Nat->St->Hp->Prop,(∃m,W 0 m σ H)/\∀i m σ H,W i m σ H →
   ((cZ K a).stop i H/\D.nx σ H)\/((cZ K a).go i H/\∃N:St->Hp->Prop,(∀σ' H',N σ' H'->∃m',m'<m/\W (i+1) m' σ' H')/\∀x H',(cZ K a).yld i H x H'->g x σ H' fun σ2 H2=>tb { D with nx:=N,ct:=N,bk:=D.nx } σ2 H2):=by
 refine⟨fun i m σ H=>m=xs.length-i/\i<=xs.length/\Pv i σ H,⟨xs.length,by simp,Nat.zero_le _,h0⟩,?_⟩
 rintro i m σ H ⟨rfl,hi,p⟩
 have q:=hl i σ H hi p
 by_cases hlt:i<xs.length
 ·refine .inr ⟨⟨xs,xs[i],q,by simp[hlt]⟩,Pv (i+1),fun σ' H' p'=>⟨xs.length-(i+1),by omega,rfl,hlt,p'⟩,fun x H' y=>?_⟩
  obtain⟨e,y⟩:=y
  subst e
  exact hs i x σ _ (y xs q) p
 ·have e:i=xs.length:=by omega
  subst e
  exact .inl ⟨⟨xs,q,DR _⟩,hd σ H p⟩
theorem xq{K:Du}{a:Addr}{xs:List V}{g:TG}{tb:TS}{D:Ends}{σ:St}{H:Hp}(Pv:Nat->St->Hp->Prop)(h0:Pv 0 σ H)(hl:∀i σ H,i<=xs.length->Pv i σ H->ah K H a xs)
  (hs:∀i x σ H,xs[i]?=some x->Pv i σ H->g x σ H fun σ2 H2=>tb { D with nx:=Pv (i+1),ct:=Pv (i+1),bk:=D.nx } σ2 H2) (hd:∀σ H,Pv xs.length σ H->D.nx σ H) :
  ∃W:Nat->Nat->St->Hp->Prop,(∃m,W 0 m σ H)/\∀i m σ H,W i m σ H →
   ((cQ K a).stop i H/\D.nx σ H)\/((cQ K a).go i H/\∃N:St->Hp->Prop,(∀σ' H',N σ' H'->∃m',m'<m/\W (i+1) m' σ' H')/\∀x H',(cQ K a).yld i H x H'->g x σ H' fun σ2 H2=>tb { D with nx:=N,ct:=N,bk:=D.nx } σ2 H2):=by
 refine⟨fun i m σ H=>m=xs.length-i/\i<=xs.length/\Pv i σ H,⟨xs.length,by simp,Nat.zero_le _,h0⟩,?_⟩
 rintro i m σ H ⟨rfl,hi,p⟩
 have q:=hl i σ H hi p
 by_cases hlt:i<xs.length
 ·refine .inr ⟨⟨xs,xs[i],q,by simp[hlt]⟩,Pv (i+1),fun σ' H' p'=>⟨xs.length-(i+1),by omega,rfl,hlt,p'⟩,fun x H' y=>?_⟩
  obtain⟨e,y⟩:=y
  subst e
  exact hs i x σ _ (y xs q) p
 ·have e:i=xs.length:=by omega
  subst e
  exact .inl ⟨⟨xs,q,DR _⟩,hd σ H p⟩
theorem Cz{lo:Int}{n:Nat}{g:TG}{tb:TS}{D:Ends}{σ:St}{H:Hp}(Pv:Nat->St->Hp->Prop)(h0:Pv 0 σ H)
  (hs:∀i σ H,i<n->Pv i σ H->g (.int (lo+i)) σ H fun σ2 H2=>tb { D with nx:=Pv (i+1),ct:=Pv (i+1),bk:=D.nx } σ2 H2) (hd:∀σ H,Pv n σ H->D.nx σ H) :
  ∃W:Nat->Nat->St->Hp->Prop,(∃m,W 0 m σ H)/\∀i m σ H,W i m σ H →
   ((dn lo n).stop i H/\D.nx σ H)\/((dn lo n).go i H/\∃N:St->Hp->Prop,(∀σ' H',N σ' H'->∃m',m'<m/\W (i+1) m' σ' H')/\∀x H',(dn lo n).yld i H x H'->g x σ H' fun σ2 H2=>tb { D with nx:=N,ct:=N,bk:=D.nx } σ2 H2):=by
 refine⟨fun i m σ H=>m=n-i/\i<=n/\Pv i σ H,⟨n,by simp,Nat.zero_le _,h0⟩,?_⟩
 rintro i m σ H ⟨rfl,hi,p⟩
 by_cases hlt:i<n
 ·refine .inr ⟨hlt,Pv (i+1),fun σ' H' p'=>⟨n-(i+1),by omega,rfl,hlt,p'⟩,fun x H' y=>?_⟩
  obtain⟨e,y⟩:=y
  subst e y
  exact hs i σ _ hlt p
 ·have e:i=n:=by omega
  subst e
  exact .inl ⟨DR _,hd σ H p⟩
end L2
namespace L2
open PySem PySem.Spec PyProof.Rows
abbrev R2:=V->V->Hp->VK->Prop
def bx(X:Cx)(f:Value->Value->Sem Value)(r:R2):Prop:=
 ∀(pins:List (Addr×Obj)) (s:Shared) (σ:St) (H:Hp) (x y:V) (v u:Value) (Q:VK),Inv X pins σ H s->RelV x v->RelV y u->r x y H Q →
  wpAny (model X.prog X.w) X.A (f v u) (EP X pins σ Q) X.xe s
def nj(X:Cx)(f:Value->Sem Value)(r:V->Hp->VK->Prop):Prop:=
 ∀(pins:List (Addr×Obj)) (s:Shared) (σ:St) (H:Hp) (x:V) (v:Value) (Q:VK),Inv X pins σ H s->RelV x v->r x H Q →
  wpAny (model X.prog X.w) X.A (f v) (EP X pins σ Q) X.xe s
def bO(X:Cx)(f:Value)(r:List V->Hp->VK->Prop):Prop:=
 ∀(pins:List (Addr×Obj)) (s:Shared) (σ:St) (H:Hp) (xs:List V) (us:List Value) (Q:VK),Inv X pins σ H s->Vals xs us->r xs H Q →
  wpAny (model X.prog X.w) X.A (call f us) (EP X pins σ Q) X.xe s
def gm(r:R2)(ta tb:TE):TE:=fun σ H Q=>ta σ H fun x H1=>tb σ H1 fun y H2=>r x y H2 Q
def ub(r:V->Hp->VK->Prop)(ta:TE):TE:=fun σ H Q=>ta σ H fun x H1=>r x H1 Q
def rI(C:Int->Int->Prop)(g:Int->Int->V):R2:=fun x y H Q=>∃i j,x=.int i/\y=.int j/\C i j/\Q (g i j) H
def eV(g:Int->Int->V):R2:=fun x y H Q=>∃i j,x=.int i/\y=.int j/\Q (g i j) H
def rU(g:Int->V):V->Hp->VK->Prop:=fun x H Q=>∃i,x=.int i/\Q (g i) H
section
variable {X:Cx} {a b c:Expr} {ta tb tc:TE} {pos:Pos}
theorem mz(ha:PE X a ta)(hb:PE X b tb){pins:List (Addr×Obj)}{s:Shared}{σ:St}{H:Hp}{R:V->V->Hp->Prop}(I:Inv X pins σ H s)
  (h:ta σ H fun x H1=>tb σ H1 fun y H2=>R x y H2) {Q:Value->Shared->Prop} {f:Value->Value->Sem Value}
  (hf:∀v u s2 x y H2,Inv X pins σ H2 s2->RelV x v->RelV y u->R x y H2->wpAny (model X.prog X.w) X.A (f v u) Q X.xe s2) :
  wpAny (model X.prog X.w) X.A (eval a X.env) (fun v s₁=>wpAny (model X.prog X.w) X.A (eval b X.env) (fun u s₂=>wpAny (model X.prog X.w) X.A (f v u) Q X.xe s₂) X.xe s₁) X.xe s:=by
 refine av (ha pins s σ H _ I h) fun v s1 ⟨x,H1,I1,r1,q1⟩=>?_
 refine av (hb pins s1 σ H1 _ I1 q1) fun u s2 ⟨y,H2,I2,r2,q2⟩=>?_
 exact hf v u s2 x y H2 I2 r1 r2 q2
theorem aq{op:Operator}{r:R2}(ho:bx X (binaryOp op) r)(ha:PE X a ta)(hb:PE X b tb):PE X (.BinOp a op b pos) (gm r ta tb):=by
 intro pins s σ H Q I h
 exact wpAny_BinOp (mz ha hb I h fun v u s2 x y H2 I2 rx ry q=>ho pins s2 σ H2 x y v u Q I2 rx ry q)
theorem ik{op:UnaryOp}{r:V->Hp->VK->Prop}(ho:nj X (unaryOp op) r)(ha:PE X a ta):PE X (.UnaryOp op a pos) (ub r ta):=by
 intro pins s σ H Q I h
 exact UnaryOp_ (av (ha pins s σ H _ I h) fun v s1 ⟨x,H1,I1,r1,q1⟩=>ho pins s1 σ H1 x v Q I1 r1 q1)
theorem jA{f:Value->Value->Sem Value}{C:Int->Int->Prop}{g:Int->Int->Int}
  (rule:∀(i j:Int) (t u:Tok) (s:Shared) (Q:Value->Shared->Prop) (E:Value->Shared->Prop),C i j->Q (.int (g i j) s.toks) { s with toks:=s.toks+1 }->wpAny (model X.prog X.w) X.A (f (.int i t) (.int j u)) Q E s) :
  bx X f (rI C fun i j=>.int (g i j)):=by
 intro pins s σ H x y v u Q I rx ry h
 obtain⟨i,j,rfl,rfl,hc,q⟩:=h
 obtain⟨t,rfl⟩:=rx
 obtain⟨t',rfl⟩:=ry
 exact rule i j t t' s _ _ hc ⟨.int (g i j),H,I.tok _,⟨_,rfl⟩,q⟩
theorem qw{f:Value->Value->Sem Value}{g:Int->Int->Int}
  (rule:∀(i j:Int) (t u:Tok) (s:Shared) (Q:Value->Shared->Prop) (E:Value->Shared->Prop),Q (.int (g i j) s.toks) { s with toks:=s.toks+1 }->wpAny (model X.prog X.w) X.A (f (.int i t) (.int j u)) Q E s) :
  bx X f (eV fun i j=>.int (g i j)):=by
 intro pins s σ H x y v u Q I rx ry h
 obtain⟨i,j,rfl,rfl,q⟩:=h
 obtain⟨t,rfl⟩:=rx
 obtain⟨t',rfl⟩:=ry
 exact rule i j t t' s _ _ ⟨.int (g i j),H,I.tok _,⟨_,rfl⟩,q⟩
theorem j5{f:Value->Value->Sem Value}{g:Int->Int->Bool}
  (rule:∀(i j:Int) (t u:Tok) (s:Shared) (Q:Value->Shared->Prop) (E:Value->Shared->Prop),Q (.bool (g i j)) s->wpAny (model X.prog X.w) X.A (f (.int i t) (.int j u)) Q E s) :
  bx X f (eV fun i j=>.bl (g i j)):=by
 intro pins s σ H x y v u Q I rx ry h
 obtain⟨i,j,rfl,rfl,q⟩:=h
 obtain⟨t,rfl⟩:=rx
 obtain⟨t',rfl⟩:=ry
 exact rule i j t t' s _ _ ⟨.bl (g i j),H,I,rfl,q⟩
def qU(i j:Int):Prop:=0<=j/\j<=1000000/\i.natAbs<2 ^ 64
def jQ(i j:Int):Prop:=(-(2 ^ 64)<i/\i<2 ^ 64)\/(-(2 ^ 64)<j/\j<2 ^ 64)
theorem jQ.ok{i j:Int}(h:jQ i j):IntMulOk i j:=by
 rcases h with⟨h1,h2⟩ | ⟨h1,h2⟩
 ·exact .of_left (intBits_le_64 h1 h2)
 ·exact .of_right (intBits_le_64 h1 h2)
theorem aT:bx X (binaryOp .Add) (eV fun i j=>.int (i+j)):=qw fun _ _ _ _ _ _ _ q=>add_int q
theorem cX:bx X (binaryOp .Sub) (eV fun i j=>.int (i-j)):=qw fun _ _ _ _ _ _ _ q=>sub_int q
theorem dR:bx X (binaryOp .Mult) (rI jQ fun i j=>.int (i*j)):=jA fun _ _ _ _ _ _ _ hc q=>mul_int q hc.ok
theorem cz:bx X (binaryOp .Mod) (rI (fun _ j=>0<j) fun i j=>.int (i % j)):=jA fun i j _ _ _ _ _ hc q=>by
 have h1:(0:Int)<j:=hc
 exact mod_int' (by omega) (by rw[Int.fmod_eq_emod_of_nonneg i (by omega)];exact q)
theorem iT:bx X (binaryOp .Pow) (rI qU fun i j=>.int (i ^ j.toNat)):=jA fun _ _ _ _ _ _ _ hc q=>pow_int_small hc.1 hc.2.1 hc.2.2 q
theorem zf{f:Value->Sem Value}{g:Int->Int}
  (rule:∀(i:Int) (t:Tok) (s:Shared) (Q:Value->Shared->Prop) (E:Value->Shared->Prop),Q (.int (g i) s.toks) { s with toks:=s.toks+1 }->wpAny (model X.prog X.w) X.A (f (.int i t)) Q E s) :
  nj X f (rU fun i=>.int (g i)):=by
 intro pins s σ H x v Q I rx h
 obtain⟨i,rfl,q⟩:=h
 obtain⟨t,rfl⟩:=rx
 exact rule i t s _ _ ⟨.int (g i),H,I.tok _,⟨_,rfl⟩,q⟩
theorem iH:nj X (unaryOp .USub) (rU fun i=>.int (-i)):=zf fun _ _ _ _ _ q=>neg_int q
end
def q9:V->V->Bool
 | .non,.non=>true | .non,.int _=>true | .int _,.non=>true | .non,.bl _=>true | .bl _,.non=>true | .non,.str _=>true | .str _,.non=>true
 | .int _,.int _=>true | .bl _,.bl _=>true | .str _,.str _=>true | .byt _,.byt _=>true
 | .int _,.str _=>true | .str _,.int _=>true | .bl _,.str _=>true | .str _,.bl _=>true
 | _,_=>false
def jM:R2:=fun x y H Q=>q9 x y=true/\Q (.bl (decide (x=y))) H
def oC:R2:=fun x y H Q=>q9 x y=true/\Q (.bl (!decide (x=y))) H
theorem tI{i j:Int}:decide (V.int i=V.int j)=(i == j):=by
 rw[Ef]
 simp
theorem my{i j:Bool}:decide (V.bl i=V.bl j)=(i == j):=by
 rw[Ef]
 simp
theorem iK{i j:Str}:decide (V.str i=V.str j)=(i == j):=by
 rw[Ef]
 simp
theorem qE{i j:Array UInt8}:decide (V.byt i=V.byt j)=(i.toList == j.toList):=by
 rw[Ef]
 cases i
 cases j
 simp
section
variable {X:Cx} {a b c:Expr} {ta tb tc:TE} {pos:Pos}
theorem bD{pins:List (Addr×Obj)}{σ:St}{H:Hp}{s:Shared}{Q:VK}{k k':Bool}(I:Inv X pins σ H s)(q:Q (.bl k) H)(e:k=k'):EP X pins σ Q (.bool k') s:=by
 subst e
 exact⟨.bl k,H,I,rfl,q⟩
theorem b9:bx X (compareOp .Eq) jM:=by
 intro pins s σ H x y v u Q I rx ry h
 obtain⟨hs,q⟩:=h
 cases x with
 | non=>
  cases rx
  cases y with
  | non=>cases ry;exact PySem.EqNone.eq_none_none (bD I q (by simp))
  | bl j=>cases ry;exact PySem.EqNone.eq_none_bool (bD I q (by simp))
  | int j=>obtain⟨t',rfl⟩:=ry;exact PySem.EqNone.eq_none_int (bD I q (by simp))
  | str j=>obtain⟨t',rfl⟩:=ry;exact PySem.EqNone.eq_none_str (bD I q (by simp))
  | _=>exact absurd (show false=true from hs) DN
 | bl i=>
  cases rx
  cases y with
  | non=>cases ry;exact PySem.EqNone.eq_bool_none (bD I q (by simp))
  | bl j=>cases ry;exact eq_bool (bD I q my)
  | str j=>obtain⟨t',rfl⟩:=ry;exact PySem.EqMixed.eq_bool_str (bD I q (by simp))
  | _=>exact absurd (show false=true from hs) DN
 | int i=>
  obtain⟨t,rfl⟩:=rx
  cases y with
  | non=>cases ry;exact PySem.EqNone.eq_int_none (bD I q (by simp))
  | int j=>obtain⟨t',rfl⟩:=ry;exact eq_int (bD I q tI)
  | str j=>obtain⟨t',rfl⟩:=ry;exact PySem.EqMixed.eq_int_str (bD I q (by simp))
  | _=>exact absurd (show false=true from hs) DN
 | str i=>
  obtain⟨t,rfl⟩:=rx
  cases y with
  | non=>cases ry;exact PySem.EqNone.eq_str_none (bD I q (by simp))
  | bl j=>cases ry;exact PySem.EqMixed.eq_str_bool (bD I q (by simp))
  | int j=>obtain⟨t',rfl⟩:=ry;exact PySem.EqMixed.eq_str_int (bD I q (by simp))
  | str j=>obtain⟨t',rfl⟩:=ry;exact eq_str (bD I q iK)
  | _=>exact absurd (show false=true from hs) DN
 | byt i=>
  obtain⟨t,rfl⟩:=rx
  cases y with
  | byt j=>obtain⟨t',rfl⟩:=ry;exact PySem.W.eq_bytes (bD I q qE)
  | _=>exact absurd (show false=true from hs) DN
 | _=>cases y<;>exact absurd (show false=true from hs) DN
theorem eX:bx X (compareOp .NotEq) oC:=by
 intro pins s σ H x y v u Q I rx ry h
 obtain⟨hs,q⟩:=h
 cases x with
 | non=>
  cases rx
  cases y with
  | non=>cases ry;exact PySem.EqNone.ne_none_none (bD I q (by simp))
  | bl j=>cases ry;exact PySem.EqNone.ne_none_bool (bD I q (by simp))
  | int j=>obtain⟨t',rfl⟩:=ry;exact PySem.EqNone.ne_none_int (bD I q (by simp))
  | str j=>obtain⟨t',rfl⟩:=ry;exact PySem.EqNone.ne_none_str (bD I q (by simp))
  | _=>exact absurd (show false=true from hs) DN
 | bl i=>
  cases rx
  cases y with
  | non=>cases ry;exact PySem.EqNone.ne_bool_none (bD I q (by simp))
  | bl j=>cases ry;exact ne_bool (bD I q (congrArg not my))
  | str j=>obtain⟨t',rfl⟩:=ry;exact PySem.EqMixed.ne_bool_str (bD I q (by simp))
  | _=>exact absurd (show false=true from hs) DN
 | int i=>
  obtain⟨t,rfl⟩:=rx
  cases y with
  | non=>cases ry;exact PySem.EqNone.ne_int_none (bD I q (by simp))
  | int j=>obtain⟨t',rfl⟩:=ry;exact ne_int (bD I q (congrArg not tI))
  | str j=>obtain⟨t',rfl⟩:=ry;exact PySem.EqMixed.ne_int_str (bD I q (by simp))
  | _=>exact absurd (show false=true from hs) DN
 | str i=>
  obtain⟨t,rfl⟩:=rx
  cases y with
  | non=>cases ry;exact PySem.EqNone.ne_str_none (bD I q (by simp))
  | bl j=>cases ry;exact PySem.EqMixed.ne_str_bool (bD I q (by simp))
  | int j=>obtain⟨t',rfl⟩:=ry;exact PySem.EqMixed.ne_str_int (bD I q (by simp))
  | str j=>obtain⟨t',rfl⟩:=ry;exact ne_str (bD I q (congrArg not iK))
  | _=>exact absurd (show false=true from hs) DN
 | byt i=>
  obtain⟨t,rfl⟩:=rx
  cases y with
  | byt j=>obtain⟨t',rfl⟩:=ry;exact PySem.W.ne_bytes (bD I q (congrArg not qE))
  | _=>exact absurd (show false=true from hs) DN
 | _=>cases y<;>exact absurd (show false=true from hs) DN
theorem dh:bx X (compareOp .Lt) (eV fun i j=>.bl (decide (i<j))):=j5 fun _ _ _ _ _ _ _ q=>lt_int q
theorem fZ:bx X (compareOp .LtE) (eV fun i j=>.bl (decide (i<=j))):=j5 fun _ _ _ _ _ _ _ q=>le_int q
theorem eL:bx X (compareOp .Gt) (eV fun i j=>.bl (decide (j<i))):=j5 fun _ _ _ _ _ _ _ q=>gt_int q
theorem mj:bx X (compareOp .GtE) (eV fun i j=>.bl (decide (j<=i))):=j5 fun _ _ _ _ _ _ _ q=>ge_int q
theorem aQ(b:Expr){op:CmpOp}(h:op≠.In:=by decide)(h2:op≠.NotIn:=by decide):behindInMarks op b=false:=by
 have e1:(op == CmpOp.In)=false:=by cases op<;>first | rfl | exact absurd rfl h
 have e2:(op == CmpOp.NotIn)=false:=by cases op<;>first | rfl | exact absurd rfl h2
 cases b<;>simp[behindInMarks,e1,e2]
theorem dU{op:CmpOp}{r:R2}(ho:bx X (compareOp op) r)(ha:PE X a ta)(hb:PE X b tb)(hm:behindInMarks op b=false):PE X (.Compare a [op] [b] pos) (gm r ta tb):=by
 intro pins s σ H Q I h
 exact wpAny_Compare1 (mz ha hb I h fun v u s2 x y H2 I2 rx ry q=>ho pins s2 σ H2 x y v u Q I2 rx ry q) hm
def kJ(t:TE):TT:=fun σ H Q=>t σ H fun x H'=>∃k,x=.bl k/\Q k H'
theorem aR{op:CmpOp}{r:R2}(ho:bx X (compareOp op) r)(ha:PE X a ta)(hb:PE X b tb)(hm:behindInMarks op b=false):PT X (.Compare a [op] [b] pos) (kJ (gm r ta tb)):=by
 intro pins s σ H Q I h
 refine wpAny_isTrue_Compare1 (av (ha pins s σ H _ I h) fun v s1 ⟨x,H1,I1,r1,q1⟩=>av (hb pins s1 σ H1 _ I1 q1) fun u s2 ⟨y,H2,I2,r2,q2⟩=>
  av (ho pins s2 σ H2 x y v u _ I2 r1 r2 q2) fun c s3 ⟨z,H3,I3,r3,k,e,q3⟩=>?_) hm
 subst e
 cases r3
 exact wpAny_truthy_bool ⟨H3,I3,q3⟩
def oh(r r':R2)(ta tb tc:TE):TE:=fun σ H Q=>ta σ H fun x H1=>tb σ H1 fun y H2=>r x y H2 fun z H3=>∃k,z=.bl k ∧
 (if k=true then tc σ H3 fun w' H4=>r' y w' H4 Q else Q (.bl false) H3)
theorem jD{op op':CmpOp}{r r':R2}(ho:bx X (compareOp op) r)(ho':bx X (compareOp op') r')(ha:PE X a ta)(hb:PE X b tb)(hc:PE X c tc)
  (hm:lastMarks [op,op'] [b,c]=false:=by with_unfolding_all rfl):PE X (.Compare a [op,op'] [b,c] pos) (oh r r' ta tb tc):=by
 intro pins s σ H Q I h
 refine Compare_chain (av (ha pins s σ H _ I h) fun v s1 ⟨x,H1,I1,r1,q1⟩=>chain_link (av (hb pins s1 σ H1 _ I1 q1) fun u s2 ⟨y,H2,I2,r2,q2⟩=>
  av (ho pins s2 σ H2 x y v u _ I2 r1 r2 q2) fun d s3 ⟨z,H3,I3,r3,k,e,q3⟩=>?_)) hm
 subst e
 cases r3
 refine wpAny_truthy_bool ?_
 cases k with
 | false=>exact ite_ff ⟨.bl false,H3,I3,rfl,q3⟩
 | true=>exact ite_tt (chain_last (av (hc pins s3 σ H3 _ I3 q3) fun w' s4 ⟨z',H4,I4,r4,q4⟩=>ho' pins s4 σ H4 y z' u w' Q I4 r2 r4 q4))
theorem Bz{op op':CmpOp}{r r':R2}(ho:bx X (compareOp op) r)(ho':bx X (compareOp op') r')(ha:PE X a ta)(hb:PE X b tb)(hc:PE X c tc)
  (hm:lastMarks [op,op'] [b,c]=false:=by with_unfolding_all rfl):PT X (.Compare a [op,op'] [b,c] pos) (kJ (oh r r' ta tb tc)):=by
 intro pins s σ H Q I h
 refine isTrue_chain (av (ha pins s σ H _ I h) fun v s1 ⟨x,H1,I1,r1,q1⟩=>test_link (av (hb pins s1 σ H1 _ I1 q1) fun u s2 ⟨y,H2,I2,r2,q2⟩=>
  av (ho pins s2 σ H2 x y v u _ I2 r1 r2 q2) fun d s3 ⟨z,H3,I3,r3,k,e,q3⟩=>?_)) hm
 subst e
 cases r3
 refine wpAny_truthy_bool ?_
 cases k with
 | false=>
  obtain⟨k',e',q'⟩:=q3
  cases e'
  exact ite_ff ⟨H3,I3,q'⟩
 | true=>
  refine ite_tt (test_last (av (hc pins s3 σ H3 _ I3 q3) fun w' s4 ⟨z',H4,I4,r4,q4⟩=>av (ho' pins s4 σ H4 y z' u w' _ I4 r2 r4 q4) fun d' s5 ⟨z2,H5,I5,r5,k2,e2,q5⟩=>?_))
  subst e2
  cases r5
  exact wpAny_truthy_bool ⟨H5,I5,q5⟩
theorem gj:(sizeLine:Nat)<2 ^ 63:=by rw[sizeLine_eq];decide
theorem vals1{x:V}{us:List Value}(r:Vals [x] us):∃u,us=[u]/\RelV x u:=by
 cases r with
 | cons r1 r2=>cases r2;exact⟨_,rfl,r1⟩
theorem vals2{x y:V}{us:List Value}(r:Vals [x,y] us):∃u w',us=[u,w']/\RelV x u/\RelV y w':=by
 cases r with
 | cons r1 r2=>
  cases r2 with
  | cons r3 r4=>cases r4;exact⟨_,_,rfl,r1,r3⟩
theorem Bi(hc:X.calm=true):bO X (.builtin "max") (fun xs H Q=>∃i j,xs=[.int i,.int j]/\Q (.int (if j>i then j else i)) H):=by
 intro pins s σ H xs us Q I r h
 obtain⟨i,j,rfl,q⟩:=h
 obtain⟨u,w',rfl,⟨t,rfl⟩,⟨t',rfl⟩⟩:=vals2 r
 refine max_two_ints (I.ok.hd hc) fun h' tk k=>⟨_,H,I.kept k,?_,q⟩
 by_cases hj:j>i
 ·rw[if_pos hj,if_pos hj];exact⟨_,rfl⟩
 ·rw[if_neg hj,if_neg hj];exact⟨_,rfl⟩
theorem AR(hc:X.calm=true):bO X (.builtin "min") (fun xs H Q=>∃i j,xs=[.int i,.int j]/\Q (.int (if j<i then j else i)) H):=by
 intro pins s σ H xs us Q I r h
 obtain⟨i,j,rfl,q⟩:=h
 obtain⟨u,w',rfl,⟨t,rfl⟩,⟨t',rfl⟩⟩:=vals2 r
 refine min_two_ints (I.ok.hd hc) fun h' tk k=>⟨_,H,I.kept k,?_,q⟩
 by_cases hj:j<i
 ·rw[if_pos hj,if_pos hj];exact⟨_,rfl⟩
 ·rw[if_neg hj,if_neg hj];exact⟨_,rfl⟩
end
end L2
namespace L2
open PySem PySem.Spec PyProof.Rows
structure ObjM(h:Heap)(x dx C:Addr)(mA:Str->Option Value):Prop where
 obj:h.get? x=some (PySem.W.instObj C dx)
 ns:h.Ns1 dx mA
 ne:dx≠x
theorem w4{h:Heap}{dx:Addr}{mA:Str->Option Value}(n:h.Ns1 dx mA):∃od,h.get? dx=some od/\∀name,PySem.W.lookIn name od=some (mA name):=by
 obtain⟨o,es,ep,ho,hd,hk,_,hm⟩:=n
 refine⟨o,ho,fun name=>?_⟩
 have e:=hm name
 unfold nsFind findBy at e
 rw[←Array.find?_toList]at e
 unfold PySem.W.lookIn
 rw[hd]
 dsimp only
 split
 ·rename_i y q
  rw[q]at e
  exact congrArg some e
 ·rename_i q
  rw[q]at e
  have a:es.toList.any (·.refKey)=false:=by
   rw[List.any_eq_false]
   intro y hy
   obtain⟨z,t,hkey⟩:=hk y (Array.mem_toList_iff.mp hy)
   simp[DictEntry.refKey,hkey]
  have a':¬es.toList.any (·.refKey)=true:=by rw[a];exact DN
  rw[if_neg a']
  exact congrArg some e
theorem ObjM.look{h:Heap}{x dx C:Addr}{mA:Str->Option Value}(I:ObjM h x dx C mA):∃od,PySem.W.InstAt h x (PySem.W.instObj C dx) C (some od)/\∀name,PySem.W.lookIn name od=some (mA name):=
 let ⟨od,ho,hl⟩:=w4 I.ns
 ⟨od,⟨I.obj,rfl,rfl,ho⟩,hl⟩
section
variable {prog:Program} {w:World} {A:Around} {E:Value->Shared->Prop} {s:Shared} {K:Du} {x dx C f:Addr} {mA:Str->Option Value} {name:Str} {v:Value}
end
theorem dF.some_of{v:V}{o:Option Value}(r:dF (some v) o):∃u,o=some u/\RelV v u:=by
 cases o with
 | none=>exact(show False from r).elim
 | some u=>exact⟨u,rfl,r⟩
section
variable {P:Program} {w:World} {H H':Hp} {h h':Heap} {a C dx:Addr} {fs fs':List (Str×V)}
theorem zP(hok:bh P w H h)(e:H a=some (.ins C dx fs)):∃mA,ObjM h a dx C mA/\(∀f,dF (fs.lookup f) (mA f))/\PySem.Within mA (fs.map (·.1))/\fs.length<=1000/\H dx=some (.own a):=by
 obtain⟨d,z,ne,ob,mA,n,r,q⟩:=(show bj P w H h a (.ins C dx fs)from hok a _ e)
 exact⟨mA,⟨ob,n,ne⟩,r,q,z,d⟩
end
structure Cls(K:Du)(C:Addr):Prop where
 pg:PySem.W.plainGet K C Str.empty=true
 hd:PySem.W.hasDictIn K C=true
 po:PySem.W.plainOver K C=true
 sa:PySem.W.findIn K (.ref C) "__setattr__" = some (some (.builtin "object.__setattr__"))
theorem Cls.get{K:Du}{C:Addr}(c:Cls K C)(f:Str):PySem.W.plainGet K C f=true:=c.pg
section
variable {X:Cx} {pins:List (Addr×Obj)} {σ:St} {H:Hp} {s:Shared} {a C dx:Addr} {fs:List (Str×V)} {f:Str} {v:V} {A:Around} {E:Value->Shared->Prop}
end
section
variable {X:Cx} {o e value:Expr} {f:Str} {pos pos' tpos:Pos} {ta tv:TE}
end
section
variable {X:Cx} {pins:List (Addr×Obj)} {σ:St} {H:Hp} {s:Shared} {A:Around} {E:Value->Shared->Prop} {Q:Value->Shared->Prop} {c:Value} {b:Bool}
inductive TyOf(K:Du)(H:Hp):V->Value->Prop where
 | non:TyOf K H .non (.type "NoneType")
 | bl (x:Bool):TyOf K H (.bl x) (.type "bool")
 | int (i:Int):TyOf K H (.int i) (.type "int")
 | str (x:Str):TyOf K H (.str x) (.type "str")
 | flt (x:UInt64):TyOf K H (.flt x) (.type "float")
 | lst {a:Addr} {xs:List V} (e:H a=some (.lst xs)):TyOf K H (.ref a) (.type "list")
 | frz {a:Addr} {o:Obj} {xs:List V} (e:H a=some (.frz o (.lst xs))):TyOf K H (.ref a) (.type "list")
 | tup {a:Addr} {xs:List V} (e:H a=some (.tup xs)):TyOf K H (.ref a) (.type "tuple")
 | dK {a:Addr} {kvs:List (Key×V)} (e:H a=some (.dK kvs)):TyOf K H (.ref a) (.type "dict")
 | dT {a:Addr} {kvs:List (List Key×V)} (e:H a=some (.dT kvs)):TyOf K H (.ref a) (.type "dict")
 | ins {a C dx:Addr} {fs:List (Str×V)} (e:H a=some (.ins C dx fs)) (cl:Cls K C) (ha:PySem.W.findIn K (.ref C) "__class__" = some (some (.builtin "object.__class__")))
   (hn:PySem.W.specialIn K (.builtin "object.__class__") "__get__" = some (some (.builtin "getset_descriptor.__get__"))) (htk:PySem.W.takesIn K (.builtin "object.__class__")=some true)
   (hm:PySem.W.mroIn K C (.type "object")=some true):TyOf K H (.ref a) (.ref C)
theorem zj{x:V}{u t:Value}(I:Inv X pins σ H s)(rx:RelV x u)(ty:TyOf X.K H x t)(e:PySem.W.kitOne X.K t c=some b)(h:∀tk,Q (.bool b) { s with toks:=tk }):
  wpAny (model X.prog X.w) A (call (.builtin "isinstance") [u,c]) Q E s:=by
 cases ty with
 | non=>cases(show u=Value.none from rx);exact PySem.W.kia_one PySem.W.kitx_none I.kIn True.intro e (fun z=>nomatch z) h
 | bl y=>cases(show u=Value.bool y from rx);exact PySem.W.kia_one PySem.W.kitx_bool I.kIn True.intro e (fun z=>nomatch z) h
 | int i=>obtain⟨t,q⟩:=(show ∃t,u=Value.int i t from rx);cases q;exact PySem.W.kia_one PySem.W.kitx_int I.kIn True.intro e (fun z=>nomatch z) h
 | str y=>obtain⟨t,q⟩:=(show ∃t,u=Value.str y t from rx);cases q;exact PySem.W.kia_one PySem.W.kitx_str I.kIn True.intro e (fun z=>nomatch z) h
 | flt y=>obtain⟨t,q⟩:=(show ∃t,u=Value.float y t from rx);cases q;exact PySem.W.kia_one PySem.W.kitx_float I.kIn True.intro e (fun z=>nomatch z) h
 | @lst a xs ea=>
  cases(show u=Value.ref a from rx)
  obtain⟨_,_,n,_,h1⟩:=(show bj X.prog X.w H s.heap a (.lst xs)from I.hok a _ ea)
  exact PySem.W.kia_one PySem.W.kitx_list I.kIn ⟨_,h1,rfl⟩ e (fun z=>nomatch z) h
 | @frz a ob xs ea=>
  cases(show u=Value.ref a from rx)
  obtain⟨_,_,_,n,_,h1⟩:=(show bj X.prog X.w H s.heap a (.frz ob (.lst xs))from I.hok a _ ea)
  exact PySem.W.kia_one PySem.W.kitx_list I.kIn ⟨_,h1,rfl⟩ e (fun z=>nomatch z) h
 | @tup a xs ea=>
  cases(show u=Value.ref a from rx)
  obtain⟨_,_,_,p⟩:=(show bj X.prog X.w H s.heap a (.tup xs)from I.hok a _ ea)
  obtain⟨o,h1,h2,_⟩:=p
  exact PySem.W.kia_one PySem.W.kitx_tuple I.kIn ⟨o,h1,h2⟩ e (fun z=>nomatch z) h
 | @dK a kvs ea=>
  cases(show u=Value.ref a from rx)
  obtain⟨_,_,vs,_,p⟩:=(show bj X.prog X.w H s.heap a (.dK kvs)from I.hok a _ ea)
  obtain⟨o,es,ep,h1,h2,_⟩:=p
  exact PySem.W.kia_one PySem.W.kitx_dict I.kIn ⟨o,h1,h2.1⟩ e (fun z=>nomatch z) h
 | @dT a kvs ea=>
  cases(show u=Value.ref a from rx)
  obtain⟨_,_,xs,_,o,es,ep,h1,h2,_⟩:=(show bj X.prog X.w H s.heap a (.dT kvs)from I.hok a _ ea)
  exact PySem.W.kia_one PySem.W.kitx_dict I.kIn ⟨o,h1,h2.1⟩ e (fun z=>nomatch z) h
 | @ins a C dx fs ea cl ha hn htk hm=>
  cases(show u=Value.ref a from rx)
  obtain⟨mA,O,_⟩:=zP I.hok ea
  obtain⟨od,J,_⟩:=O.look
  exact PySem.W.kia_one (PySem.W.kitx_own (cl.get _) cl.hd ha hn htk hm) I.kIn J e (fun z=>nomatch z) h
end
end L2
namespace L2
open PySem PySem.Spec PyProof.Rows
structure Room(k:Nat)(A:Around):Prop where
 hd:A.handled=none
 dp:A.depth+3*k+5<recursionLimit
 un:A.units+16*k+200<cLine
theorem Room.mono{j k:Nat}{A:Around}(r:Room k A)(h:j<=k):Room j A:=⟨r.hd,by have:=r.dp;omega,by have:=r.un;omega⟩
theorem Room.deeper{k:Nat}{A:Around}(r:Room (k+1) A)(env:Env):Room k (A.deeper env):=
 ⟨r.hd,by have:=r.dp;show A.depth+1+3*k+5<_;omega,by have:=r.un;show A.units+3+16*k+200<_;omega⟩
theorem Room.depth{k:Nat}{A:Around}(r:Room k A):A.depth<recursionLimit:=by have:=r.dp;omega
theorem Room.units{k:Nat}{A:Around}(r:Room k A):A.units+64<cLine:=by have:=r.un;omega
def ml:TA:=fun _ H Q=>Q [] H
def mS(ta:TE)(tr:TA):TA:=fun σ H Q=>ta σ H fun x H1=>tr σ H1 fun xs H2=>Q (x::xs) H2
section
variable {X:Cx} {e:Expr} {es:List Expr} {te:TE} {t:TA} {pos:Pos}
theorem af:PA X [] ml:=fun _ _ _ _ H Q I h=>Calls.spliced_nil ⟨[],H,I,.nil,h⟩
theorem aa(ha:PE X e te)(hr:PA X es t)(hs:starEach (e::es) X.env=(false,eval e X.env)::starEach es X.env:=by rfl):PA X (e::es) (mS te t):=by
 intro pos pins s σ H Q I h
 rw[hs]
 show wpAny _ _ (spliced ((false,eval e X.env)::backTo pos (starEach es X.env))) _ _ s
 refine Calls.spliced_cons (av (ha pins s σ H _ I h) fun u s1 ⟨x,H1,I1,r1,q1⟩=>?_)
 exact av (hr pos pins s1 σ H1 _ I1 q1) fun us s2 ⟨xs,H2,I2,r2,q2⟩=>⟨x::xs,H2,I2,.cons r1 r2,q2⟩
def oG(t:TA):TE:=fun σ H Q=>t σ H fun xs H1=>xs.length<=sizeLine/\∀p,H1 p=none->Q (.ref p) (upd H1 p (.tup xs))
def wb(t:TA):TE:=fun σ H Q=>t σ H fun xs H1=>xs.length<=sizeLine/\∀p,H1 p=none->Q (.ref p) (upd H1 p (.lst xs))
theorem bI{x1}(h:PA X es t):PE X (.Tuple es x1 pos) (oG t):=by
 intro pins s σ H Q I hq
 refine wpAny_Tuple_spliced (av (h pos pins s σ H _ I hq) fun us s1 ⟨xs,H1,I1,r,z,q⟩=>⟨by rw[←r.length];exact z,?_⟩)
 have hf:H1 s1.heap.objs.size=none:=I1.hok.fresh (DR _)
 refine⟨.ref s1.heap.objs.size,upd H1 s1.heap.objs.size (.tup xs),I1.laid (t':=s1.toks) (fun b u e=>Dv _ e) (DR _) ?_,rfl,q _ hf⟩
 exact⟨z,us,r,⟨_,Dw _ rfl,rfl,_,rfl⟩⟩
theorem bE(h:PA X es t):PE X (.List es pos) (wb t):=by
 intro pins s σ H Q I hq
 refine wpAny_List_spliced (av (h pos pins s σ H _ I hq) fun us s1 ⟨xs,H1,I1,r,z,q⟩=>⟨by rw[←r.length];exact z,?_⟩)
 have hf:H1 s1.heap.objs.size=none:=I1.hok.fresh (DR _)
 refine⟨.ref s1.heap.objs.size,upd H1 s1.heap.objs.size (.lst xs),I1.laid (t':=s1.toks) (fun b u e=>Dv _ e) (DR _) ?_,rfl,q _ hf⟩
 exact⟨z,us,0,r,Dw _ rfl⟩
end
abbrev Sp:=List V->Hp->VK->XK->Prop
abbrev eQ:=List Env->Hp->Shared->XK->Value->Shared->Prop
structure Env0(P:Program)(w:World)(K:Du)(mg:Str->Option Value)(base:Heap)(A:Around)(outer:List Env)(s:Shared)(H:Hp):Prop where
 frames:A.frames=some outer
 mod:Mod K mg base
 bs:∀b o,base.get? b=some o->s.heap.get? b=some o/\H b=none
 bsz:base.objs.size<=s.heap.objs.size
 funs:s.heap.FunFrames base outer
 frf:∀b∈cK outer,H b=none
 hok:bh P w H s.heap
 bare:AllBare s.gens
def CE(outer:List Env)(P:Program)(w:World)(H:Hp)(s:Shared)(Q:VK)(u:Value)(s':Shared):Prop:=
 ∃v H',s'.os=s.os/\AllBare s'.gens/\Un (cK outer) [] H H' s.heap s'.heap/\bh P w H' s'.heap/\RelV v u/\Q v H'
def CR(CX:eQ)(outer:List Env)(P:Program)(w:World)(H:Hp)(s:Shared)(Q:VK)(E:XK)(r:Result)(s':Shared):Prop:=
 match r with
 | .ok (.ret u)=>CE outer P w H s Q u s'
 | .ok _=>False
 | .error e=>CX outer H s E e s'
structure FnOk(P:Program)(w:World)(K:Du)(mg:Str->Option Value)(base:Heap)(CX:eQ)(k:Nat)(f:Addr)(fd:FuncData)(ps:List Str)(sp:Sp):Prop where
 len:∀vs H Q E,sp vs H Q E->vs.length=ps.length
 run:∀(A:Around) (outer:List Env) (s:Shared) (H:Hp) (args:Args) (us:List Value) (vs:List V) (Q:VK) (E:XK),Room k A->Env0 P w K mg base A outer s H->BindsTo s fd args (ps.zip us)->Vals vs us->sp vs H Q E →
  codeAny (model P w) A (.call (.ref f) args) (CR CX outer P w H s Q E) s
section
variable {X:Cx} {pins:List (Addr×Obj)} {σ:St} {H:Hp} {s s':Shared}
theorem Inv.env0(I:Inv X pins σ H s):Env0 X.prog X.w X.K X.mg X.base X.A X.stack s H:=
 ⟨I.ok.frames,I.ok.mod,I.bs,Eb I.ok.bsz I.sz,I.stack,I.stkFree,I.hok,I.bare⟩
theorem Inv.after{Q:VK}{u:Value}(I:Inv X pins σ H s)(h:CE X.stack X.prog X.w H s Q u s'):EP X pins σ Q u s':=by
 obtain⟨v,H',os,bare,un,hok,r,q⟩:=h
 obtain⟨hh,g,d,t,os'⟩:=s'
 obtain rfl:os'=s.os:=os
 exact⟨v,H',I.call (h':=hh) (g':=g) (d':=d) (t':=t) (ch:=[]) un hok bare (fun b z=>absurd z (by simp)),r,q⟩
end
def jJ(sp:Sp)(dvs:List V)(E:XK)(t:TA):TE:=fun σ H Q=>t σ H fun vs H1=>sp (vs++dvs) H1 Q E
def Binds(K:Du)(fd:FuncData)(ps:List Str)(ds:List Value):Prop:=
 ∀(s:Shared) (us:List Value),K.In s.heap->(us++ds).length=ps.length->BindsTo s fd ⟨us,[]⟩ (ps.zip (us++ds))
theorem Binds.all{K:Du}{fd:FuncData}{ps:List Str}(h:∀us:List Value,us.length=ps.length->bindArgs fd ⟨us,[]⟩=pure (ps.zip us)):Binds K fd ps []:=fun s us _ hl=>by
 rw[List.append_nil]at hl ⊢
 exact .of_eq (h us hl)
def Passes(CX:eQ)(X:Cx)(E:XK):Prop:=∀(pins:List (Addr×Obj)) (σ:St) (H:Hp) (s:Shared) (e:Value) (s':Shared),Inv X pins σ H s->CX X.stack H s E e s'->X.xe e s'
section
variable {X:Cx} {CX:eQ} {k:Nat} {f C:Addr} {fd:FuncData} {ps:List Str} {sp:Sp} {dvs:List V} {ds:List Value} {E:XK} {x m:Str} {p pos apos:Pos} {e o:Expr} {es:List Expr} {ta:TE} {t:TA}
theorem Bj{pins:List (Addr×Obj)}{σ:St}{H:Hp}{s:Shared}{Q:VK}{us:List Value}{vs:List V}(F:FnOk X.prog X.w X.K X.mg X.base CX k f fd ps sp)(hr:Room k X.A)(hb:Binds X.K fd ps ds)(hd:Vals dvs ds)(hx:Passes CX X E)
  (I:Inv X pins σ H s) (r:Vals vs us) (h:sp (vs++dvs) H Q E):wpAny (model X.prog X.w) X.A (call (.ref f) us) (EP X pins σ Q) X.xe s:=by
 have r2:Vals (vs++dvs) (us++ds):=r.append hd
 have hl:(us++ds).length=ps.length:=by rw[←r2.length];exact F.len _ _ _ _ h
 refine wpAny_call (codeAny_mono (F.run X.A X.stack s H ⟨us,[]⟩ (us++ds) (vs++dvs) Q E hr I.env0 (hb s us I.kIn hl) r2 h) fun r s' hq=>?_)
 cases r with
 | error e=>exact hx pins σ H s e s' I hq
 | ok fl=>
  cases fl with
  | ret u=>exact I.after hq
  | next=>exact False.elim hq
  | brk=>exact False.elim hq
  | cont=>exact False.elim hq
theorem wW(F:FnOk X.prog X.w X.K X.mg X.base CX k f fd ps sp)(hr:Room k X.A)(hg:Gl X x)(hm:X.mg x=some (.ref f))(hk:PySem.W.keepIn X.K (.ref f)=true)(hb:Binds X.K fd ps ds)(hd:Vals dvs ds)(hx:Passes CX X E)
  (ha:PA X (e::es) t) (hdb:(x == ("__debug__":Str))=false:=by decide) (he:starEach (e::es) X.env=(false,eval e X.env)::starEach es X.env:=by rfl) (hpl:(backTo pos (starEach es X.env)).any (·.1)=false:=by rfl) :
  PE X (.Call (.Name x p) (e::es) [] pos) (jJ sp dvs E t):=by
 intro pins s σ H Q I h
 refine wpAny_Call_Name_kw (ir I hg hm ?_ hdb)
 refine PySem.W.callWith_K (h₀:=X.base) I.ok.mod.kin hk (av (ha pos pins s σ H _ I h) fun us s1 ⟨vs,H1,I1,r,q⟩=>⟨I1.kIn,?_⟩) he hpl
 exact Bj F hr hb hd hx I1 r q
end
section
variable {X:Cx} {CX:eQ} {k:Nat} {f C:Addr} {fd:FuncData} {ps ks:List Str} {sp:Sp} {E:XK} {x m:Str} {p pos apos kpos:Pos} {e o:Expr} {es:List Expr} {kws:List Keyword} {te ta:TE} {t tk:TA} {nm:Option Str}
variable {g:List Value->List Value->List Value} {gV:List V->List V->List V}
end
structure FnScope(N P:List Str)(sc:Scope):Prop where
 kind:sc.kind=.function
 co:sc.isCoroutine=false
 gen:sc.isGenerator=false
 nd:N.Nodup
 pre:N.take P.length=P
 par:∀x∈P,sc.names.lookup x=some .local\/sc.names.lookup x=some .cell
 nofree:∀y∈sc.names,y.2≠.free
theorem sD{kindOf:Str->Option NameKind}{x:Str}:∀{binds:List (Str×Value)} {m:Str->Option Value},(∀v,(x,v)∉binds)->bindL kindOf binds m x=m x
 | [],_,_=>rfl
 | (n,v)::r,m,h=>by
  unfold bindL
  rw[sD fun w hw=>h w (DB _ hw)]
  split
  ·have:x≠n:=by rintro rfl;exact h v DE
   simp[this]
  ·rfl
theorem ua{kindOf:Str->Option NameKind}{x:Str}:∀{binds:List (Str×Value)} {m:Str->Option Value},(∀v,(x,v)∉binds)->bindC kindOf binds m x=m x
 | [],_,_=>rfl
 | (n,v)::r,m,h=>by
  unfold bindC
  rw[ua fun w hw=>h w (DB _ hw)]
  split
  ·rfl
  ·have:x≠n:=by rintro rfl;exact h v DE
   simp[this]
theorem m8{kindOf:Str->Option NameKind}{x:Str}{v:Value}:∀{P:List Str} {vs:List Value} {i:Nat} {m:Str->Option Value},P.Nodup->P[i]?=some x->vs[i]?=some v->kindOf x=some .local →
  bindL kindOf (P.zip vs) m x=some v
 | [],_,_,_,_,h,_,_=>by simp at h
 | _::_,[],_,_,_,_,h,_=>by simp at h
 | p::P,w::vs,0,m,nd,h1,h2,hk=>by
  simp at h1 h2;subst h1;subst h2
  show bindL kindOf ((p,w)::P.zip vs) m p=_
  unfold bindL
  rw[sD fun v hv=>(List.nodup_cons.mp nd).1 (List.of_mem_zip hv).1,if_pos hk]
  simp
 | p::P,w::vs,i+1,m,nd,h1,h2,hk=>by
  show bindL kindOf ((p,w)::P.zip vs) m x=_
  unfold bindL
  exact m8 (i:=i) (List.nodup_cons.mp nd).2 (by simpa using h1) (by simpa using h2) hk
theorem kG{kindOf:Str->Option NameKind}{x:Str}{v:Value}:∀{P:List Str} {vs:List Value} {i:Nat} {m:Str->Option Value},P.Nodup->P[i]?=some x->vs[i]?=some v->kindOf x≠some .local →
  bindC kindOf (P.zip vs) m x=some v
 | [],_,_,_,_,h,_,_=>by simp at h
 | _::_,[],_,_,_,_,h,_=>by simp at h
 | p::P,w::vs,0,m,nd,h1,h2,hk=>by
  simp at h1 h2;subst h1;subst h2
  show bindC kindOf ((p,w)::P.zip vs) m p=_
  unfold bindC
  rw[ua fun v hv=>(List.nodup_cons.mp nd).1 (List.of_mem_zip hv).1,if_neg hk]
  simp
 | p::P,w::vs,i+1,m,nd,h1,h2,hk=>by
  show bindC kindOf ((p,w)::P.zip vs) m x=_
  unfold bindC
  exact kG (i:=i) (List.nodup_cons.mp nd).2 (by simpa using h1) (by simpa using h2) hk
def start(N:List Str)(vs:List V):St:=vs.map some++List.replicate (N.length-vs.length) none
def fi(CX:eQ)(P:Program)(w:World)(K:Du)(mg:Str->Option Value)(base:Heap)(N:List Str)(qual:Str)(scope:Scope)(f:Addr)(cd:Value)(A:Around)(outer:List Env)(s:Shared)(H:Hp)(E:XK):Cx where
 prog:=P
 w:=w
 K:=K
 mg:=mg
 base:=base
 A:=A.deeper (envOfC qual scope s.heap.objs.size f cd)
 N:=N
 s₀:=s
 H₀:=H
 env:=envOfC qual scope s.heap.objs.size f cd
 outer:=outer
 stack:=envOfC qual scope s.heap.objs.size f cd::outer
 ex:=[]
 calm:=true
 fn:=fun _=>true
 pn:=[]
 xe:=fun e s'=>wpAny (model P w) (A.deeper (envOfC qual scope s.heap.objs.size f cd)) (leaving (envOfC qual scope s.heap.objs.size f cd) e) (fun _ s''=>CX outer H s E e s'') (fun e' s''=>CX outer H s E e' s'') s'
theorem rF{sc:Scope}{n:Nat}{x:Str}(h:sc.names.lookup x=some .cell):∃c,(cellsFrom n sc.names []).lookup x=some c:=by
 have q:=PySem.W.cellsFrom_some sc.names n [] (.inl h)
 exact Option.isSome_iff_exists.mp q
theorem Bn{CX:eQ}{P:Program}{w:World}{K:Du}{mg:Str->Option Value}{base:Heap}{N ps:List Str}{qual:Str}{scope:Scope}{f:Addr}{cd:Value}{A:Around}{outer:List Env}{s s1:Shared}{H:Hp}{E:XK}{us:List Value}{vs:List V}
  (S:FnScope N ps scope) (hd:A.handled=none) (e0:Env0 P w K mg base A outer s H) (hl:vs.length=ps.length) (r:Vals vs us)
  (x:InCallC s s.heap.objs.size (bindL (envOfC qual scope s.heap.objs.size f cd).kindOf (ps.zip us) fun _=>none) (cellsFrom (s.heap.objs.size+1) scope.names []) (bindC (envOfC qual scope s.heap.objs.size f cd).kindOf (ps.zip us) fun _=>none) s1) :
  Inv (fi CX P w K mg base N qual scope f cd A outer s H E) [] (start N vs) H s1:=by
 have hpl:ps.length<=N.length:=by have:=congrArg List.length S.pre;rw[List.length_take]at this;omega
 obtain⟨h1,tk,rfl,hk⟩:=x.done
 have noA:∀b:Addr,b∉(fi CX P w K mg base N qual scope f cd A outer s H E).ex:=fun b z=>absurd (show b∈([]:List Addr)from z) (by simp)
 refine⟨⟨e0.mod,S.kind,rfl,rfl,DR _,fun y z c h1 h2=>?_,fun y hy=>?_,fun y c _ h=>?_,fun _=>hd,Around.frames_deeper e0.frames,.inr ⟨rfl,rfl⟩,fun b z=>absurd z (noA b),e0.bs,e0.bsz,fun b _ _=>noA b,fun b z=>absurd z (noA b),e0.funs,e0.frf⟩,
  rfl,e0.bare,Un.kept hk,⟨_,x.toInCall.ns,fun i y v h1 h2 h3=>?_⟩,fun y c h=>⟨_,x.cell y c h⟩,e0.hok.fresh (DR _),fun y c h=>?_,fun p hp=>absurd (show p∈([]:List (Addr×Obj))from hp) (by simp),e0.hok.kept hk,?_⟩
 ·exact name_of_addr x.apart (PySem.mem_of_lookup h1) (PySem.mem_of_lookup h2)
 ·have hy:scope.names.lookup y=some .cell\/scope.names.lookup y=some .free:=hy
  rcases hy with hy | hy
  ·exact rF hy
  ·exact absurd rfl (S.nofree _ (PySem.mem_of_lookup hy))
 ·exact Nat.le_of_lt (x.above y c (PySem.mem_of_lookup h))
 ·have hi:i<vs.length:=by
   unfold start at h2
   by_cases hi:i<vs.length
   ·exact hi
   ·rw[DV (by simpa using hi)]at h2
    rw[List.getElem?_replicate]at h2
    split at h2<;>cases h2
  have ha:vs[i]?=some v:=by
   unfold start at h2
   rw[DW (by simpa using hi),DA]at h2
   cases e:vs[i]? with
   | none=>rw[e]at h2;cases h2
   | some a=>rw[e]at h2;cases h2;rfl
  obtain⟨u,hu,rv⟩:=r.get ha
  have hp:ps[i]?=some y:=by
   rw[←S.pre,List.getElem?_take_of_lt (by omega)];exact h1
  have ndP:ps.Nodup:=by rw[←S.pre];exact S.nd.sublist (List.take_sublist _ _)
  refine⟨u,rv,?_⟩
  rcases S.par y (DH hp)with k | k
  ·exact .inl ⟨k,m8 ndP hp hu k⟩
  ·obtain⟨c,e⟩:=rF (n:=s.heap.objs.size+1) k
   refine .inr ⟨.inl k,c,e,?_⟩
   have q:=x.cell y c e
   rw[kG ndP hp hu (by show scope.names.lookup y≠_;rw[k];decide)]at q
   exact q
 ·exact e0.hok.fresh (Nat.le_of_lt (x.above y c (PySem.mem_of_lookup h)))
 ·unfold start
  show _=N.length
  rw[DP,Dy,List.length_replicate]
  omega
theorem sE{CX:eQ}{P:Program}{w:World}{K:Du}{mg:Str->Option Value}{base:Heap}{k:Nat}{f:Addr}{name qual:Str}{params:Arguments}{body:List Stmt}{scope:Scope}{dV kV doc pm cdv ct oc:Value}{an od:Option Addr}
  {osl:Array (Option Value)} {N ps:List Str} {sp:Sp} (lk:K.lookup f=some ⟨oc,od,.func (PySem.W.fnOf name qual params body scope dV kV doc pm an cdv ct),osl⟩) (hcd:PySem.W.codeIn K cdv qual=true) (S:FnScope N ps scope)
  (len:∀vs H Q E,sp vs H Q E->vs.length=ps.length)
  (hbody:∀(A:Around) (outer:List Env) (s:Shared) (H:Hp) (vs:List V) (Q:VK) (E:XK),Room k (A.deeper (envOfC qual scope s.heap.objs.size f cdv))->sp vs H Q E →
   ∃t,cB (fi CX P w K mg base N qual scope f cdv A outer s H E) body t/\t { nx:=fun _ H'=>Q .non H',rt:=Q } (start N vs) H) :
  FnOk P w K mg base CX (k+1) f (PySem.W.fnOf name qual params body scope dV kV doc pm an cdv ct) ps sp:=by
 refine⟨len,fun A outer s H args us vs Q E hr e0 hb r hsp=>?_⟩
 have hl:=len _ _ _ _ hsp
 have KX:K.In s.heap:=e0.mod.kin.keeps fun b o e=>(e0.bs b o e).1
 have lim:s.heap.NoLimit:=e0.mod.nolimit.keeps fun b o e=>(e0.bs b o e).1
 have hkind:∀y∈ps.zip us,scope.names.lookup y.1=some .local\/(scope.names.lookup y.1=some .cell/\((cellsFrom (s.heap.objs.size+1) scope.names []).lookup y.1).isSome=true):=fun⟨n,v⟩ hy=>by
  rcases S.par n (List.of_mem_zip hy).1 with q | q
  ·exact .inl q
  ·exact .inr ⟨q,PySem.W.cellsFrom_some _ _ _ (.inl q)⟩
 refine codeAny_call_function hr.depth (KX _ _ lk) rfl S.co S.gen rfl (PySem.W.codeRec_of KX hcd) (hb _ _ _ _ ?_)
 refine wpAny_newFunctionEnv_cells S.kind hkind fun env he s1 x=>?_
 subst he
 refine⟨lim.keeps x.toInCall.keep,codeAny_func ?_⟩
 obtain⟨t,ht,hq⟩:=hbody A outer s H vs Q E (hr.deeper _) hsp
 have I:Inv (fi CX P w K mg base N qual scope f cdv A outer s H E) [] (start N vs) H s1:=Bn S hr.hd e0 hl r x
 refine wpAny_mono (ht [] s1 (start N vs) H _ I hq) (fun fl s' hs=>?_) fun e s' hs=>hs
 have fin:∀{σ':St} {H':Hp} {v:V} {u:Value},Inv (fi CX P w K mg base N qual scope f cdv A outer s H E) [] σ' H' s'->RelV v u->Q v H'->CE outer P w H s Q u s':=
  fun{σ' H' v u} J rv q=>⟨v,H',J.os,J.bare,J.base,J.hok,rv,q⟩
 cases fl with
 | ret u=>
  obtain⟨v,σ',H',J,rv,q⟩:=hs
  exact fin J rv q
 | next=>
  obtain⟨σ',H',J,q⟩:=hs
  exact fin (v:=V.non) (u:=Value.none) J rfl q
 | brk=>
  obtain⟨_,_,_,q⟩:=hs
  exact False.elim q
 | cont=>
  obtain⟨_,_,_,q⟩:=hs
  exact False.elim q
end L2
namespace L2
open PySem PySem.Spec PyProof.Rows
section
variable {X:Cx} {x:Str} {p pos:Pos} {e:Expr} {es:List Expr} {t:TA} {id T:String} {r:List V->Hp->VK->Prop}
def ke(r:List V->Hp->VK->Prop)(t:TA):TE:=fun σ H Q=>t σ H fun vs H1=>r vs H1 Q
theorem aW(hc:bO X (.builtin id) r)(hg:Gl X x)(hm:X.mg x=none)(hv:bootBuiltins x=some (.builtin id))(ha:PA X (e::es) t)(hn:x≠"__name__":=by decide)(hdb:(x == ("__debug__":Str))=false:=by decide)
  (he:starEach (e::es) X.env=(false,eval e X.env)::starEach es X.env:=by rfl) (hpl:(backTo pos (starEach es X.env)).any (·.1)=false:=by rfl):PE X (.Call (.Name x p) (e::es) [] pos) (ke r t):=by
 intro pins s σ H Q I h
 refine wpAny_Call_Name_kw (fX I hg hm hv ?_ hn hdb)
 exact PyProof.Rows.callWith_builtin1 (av (ha pos pins s σ H _ I h) fun us s1 ⟨vs,H1,I1,r1,q1⟩=>hc pins s1 σ H1 vs us Q I1 r1 q1) he hpl
theorem fD(hc:bO X (.type T) r)(hg:Gl X x)(hm:X.mg x=none)(hv:bootBuiltins x=some (.type T))(ha:PA X (e::es) t)(hn:x≠"__name__":=by decide)(hdb:(x == ("__debug__":Str))=false:=by decide)
  (he:starEach (e::es) X.env=(false,eval e X.env)::starEach es X.env:=by rfl) (hpl:(backTo pos (starEach es X.env)).any (·.1)=false:=by rfl):PE X (.Call (.Name x p) (e::es) [] pos) (ke r t):=by
 intro pins s σ H Q I h
 refine wpAny_Call_Name_kw (fX I hg hm hv ?_ hn hdb)
 exact PyProof.Rows.callWith_type1 (av (ha pos pins s σ H _ I h) fun us s1 ⟨vs,H1,I1,r1,q1⟩=>hc pins s1 σ H1 vs us Q I1 r1 q1) he hpl
end
end L2
namespace HT
open PySem PyProof.Rows
section
open PySem.SeqAt
open PySem.AutoSeq1 (wpAny_loadPart')
open PySem.MeetsSeq PySem.MeetsSeq2 PySem.MeetsSeq3
end
section
variable {prog:Program} {w:World} {A:Around} {E:Value->Shared->Prop} {s:Shared}
def aL(n d:Nat):Option Int->Nat
 | none=>d
 | some v=>if v<0 then(v+(n:Int)).toNat else min v.toNat n
theorem ny(n d:Nat):aL n d none=d:=rfl
theorem sr(n d k:Nat):aL n d (some (k:Int))=min k n:=by
 show(if(k:Int)<0 then((k:Int)+(n:Int)).toNat else min (k:Int).toNat n)=min k n
 rw[if_neg (by omega),DK]
theorem BV(n d:Nat)(hd:d<=n)(o:Option Int):aL n d o<=n:=by
 cases o with
 | none=>exact hd
 | some v=>
  show(if v<0 then(v+(n:Int)).toNat else min v.toNat n)<=n
  by_cases hv:v<0
  ·rw[if_pos hv];omega
  ·rw[if_neg hv];exact Nat.min_le_right _ _
theorem qr(v:Int)(n d:Nat):(if v<0 then max (v+(n:Int)) 0 else min v (n:Int))=((aL n d (some v):Nat):Int):=by
 show(if v<0 then max (v+(n:Int)) 0 else min v (n:Int))=(((if v<0 then(v+(n:Int)).toNat else min v.toNat n):Nat):Int)
 by_cases hv:v<0
 ·simp only[if_pos hv];omega
 ·simp only[if_neg hv];omega
theorem xI(lo hi:Option Int)(n:Nat):Builtin.Slice.sliceAdjust lo hi 1 (n:Int)=(((aL n 0 lo:Nat):Int),((aL n n hi:Nat):Int)):=by
 have h1:¬((1:Int)<0):=by omega
 unfold Builtin.Slice.sliceAdjust
 simp only[h1,if_false]
 refine Prod.ext ?_ ?_
 ·cases lo with
  | none=>rfl
  | some v=>exact qr v n 0
 ·cases hi with
  | none=>rfl
  | some v=>exact qr v n n
theorem CS(i j:Nat):Builtin.Slice.slicePlaces (i:Int) (j:Int) 1=j-i:=by
 unfold Builtin.Slice.slicePlaces
 have h1:(1:Int)>0:=by omega
 simp only[h1,if_true,Int.ediv_one]
 split<;>omega
theorem vy{v:Value}{o:Option Int}{Q:Option Int->Shared->Prop}(p:IsPart v o)(h:Q o s):wpAny (model prog w) A (Builtin.Slice.slicePartIndex v) Q E s:=by
 cases p with
 | none=>exact slicePart_none h
 | int i t=>exact slicePart_int h
theorem tD{sl:Addr}{vl vu:Value}{lo hi:Option Int}{n:Nat}{Q:Int×Int×Nat->Shared->Prop}(hs:s.heap.IsSliceOf sl vl vu .none)(pl:IsPart vl lo)(pu:IsPart vu hi)
  (h:Q (((aL n 0 lo:Nat):Int),1,aL n n hi-aL n 0 lo) s):wpAny (model prog w) A (Builtin.Slice.sliceApplied (.ref sl) (pure (n:Int))) Q E s:=by
 obtain⟨os,hos,hcs,hds⟩:=id hs
 unfold Builtin.Slice.sliceApplied Builtin.Slice.sliceFields
 refine Dr (Dr (wpAny_field hos hds (x:=vl) rfl (Dr (wpAny_field hos hds (x:=vu) rfl (Dr (wpAny_field hos hds (x:=.none) rfl (Dt ?_)))))))
 refine Dr (slicePart_none ?_)
 show wpAny _ _ (if((1:Int) == 0)=true then _ else _) _ _ s
 rw[if_neg (by decide)]
 refine Dr (vy pl (Dr (vy pu (Dr (Dt ?_)))))
 show wpAny _ _ (match Builtin.Slice.sliceAdjust lo hi 1 (n:Int)with | (lo,hi)=>pure (lo,(1:Int),Builtin.Slice.slicePlaces lo hi 1)) _ _ s
 rw[xI lo hi n]
 show wpAny _ _ (pure (((aL n 0 lo:Nat):Int),(1:Int),Builtin.Slice.slicePlaces ((aL n 0 lo:Nat):Int) ((aL n n hi:Nat):Int) 1)) _ _ s
 rw[CS]
 exact Dt h
theorem Bg(xs:Array Value)(i k:Nat):((List.range k).filterMap fun(m:Nat)=>xs[((i:Int)+(m:Int)*1).toNat]?).toArray=((xs.toList.drop i).take k).toArray:=by
 have e:(fun(m:Nat)=>xs[((i:Int)+(m:Int)*1).toNat]?)=fun m=>xs[i+m]?:=by
  funext m
  have:((i:Int)+(m:Int)*1).toNat=i+m:=by omega
  rw[this]
 rw[e]
 have:=pick_run xs i k
 rw[List.filterMap_map]at this
 have e2:((fun x=>xs[x]?)∘fun x=>i+x)=fun m=>xs[i+m]?:=rfl
 rw[e2]at this
 rw[this]
theorem Cy{t sl:Addr}{items:Array Value}{vl vu:Value}{lo hi:Option Int}{Q:Value->Shared->Prop}(ht:IsTup s.heap t items)(hs:s.heap.IsSliceOf sl vl vu .none)(pl:IsPart vl lo)(pu:IsPart vu hi)
  (hw:¬(aL items.size 0 lo=0/\aL items.size items.size hi=items.size))
  (h:Q (.ref s.heap.objs.size) { s with heap:=s.heap.push { cls:=.type "tuple",data:=.seq ((items.toList.drop (aL items.size 0 lo)).take (aL items.size items.size hi-aL items.size 0 lo)).toArray } })
  (hsz:items.size<=sizeLine):wpAny (model prog w) A (getItem (.ref t) (.ref sl)) Q E s:=by
 have htake:sizeOk (.seq ((items.toList.drop (aL items.size 0 lo)).take (aL items.size items.size hi-aL items.size 0 lo)).toArray):=by
  show((items.toList.drop (aL items.size 0 lo)).take (aL items.size items.size hi-aL items.size 0 lo)).toArray.size<=sizeLine
  rw[DD,List.length_take,List.length_drop,DC]
  omega
 have hj:aL items.size items.size hi<=items.size:=BV _ _ (DR _) hi
 obtain⟨os,hos,hcs,hds⟩:=id hs
 have hTs:s.TypeIs (.ref sl) "slice":=⟨os,hos,hcs⟩
 unfold getItem
 try with_reducible refine wpAny_holding ?_
 first | refine Dr (Dt ?_) | skip
 refine Dr (wpAny_sequenceKey ht.typeIs (by decide) ?_)
 refine Dr (wpAny_callSpecial?_slot (name:=Str.ofString "__getitem__") ht.typeIs PyProof.Rows.slot_tuple_getitem
  (wpAny_call_entry PyProof.Rows.slot_tuple_getitem ht.typeIs entry_tuple_getitem ?_ (args_tuple_getitem _ _)))
 show wpAny _ _ (Builtin.Tuple.tupleItemsOf (.ref t) >>= _) _ _ s
 refine Dr (tupleItemsOf_ ht ?_)
 refine Dr (wpAny_typeOf hTs ?_)
 rw[if_pos (by decide)]
 refine Dr (tD hs pl pu ?_)
 have hno:¬((((aL items.size 0 lo:Nat):Int) == 0 && (1:Int) == 1 && (aL items.size items.size hi-aL items.size 0 lo) == items.size)=true):=by
  intro q
  rw[Eg,Eg]at q
  have q1:((aL items.size 0 lo:Nat):Int)=0:=eq_of_beq q.1.1
  have q2:aL items.size items.size hi-aL items.size 0 lo=items.size:=eq_of_beq q.2
  exact hw ⟨by omega,by omega⟩
 show wpAny _ _ (if(((aL items.size 0 lo:Nat):Int) == 0 && (1:Int) == 1 && (aL items.size items.size hi-aL items.size 0 lo) == items.size)=true then _ else _) _ _ s
 rw[if_neg hno,Bg]
 first
  | exact Dr (m:=Builtin.Tuple.tupleExact _) (wpAny_newObj_type (Dt ⟨_,rfl,Dt h⟩) htake)
  | exact Dr (m:=Builtin.Tuple.tupleExact _) (wpAny_newObj_type (Dr (Dt (Dt ⟨_,rfl,Dt h⟩))) htake)
  | exact Dr (Dr (m:=Builtin.Tuple.tupleExact _) (wpAny_newObj_type (Dt (Dt ⟨_,rfl,Dt h⟩)) htake))
  | exact Dr (Dr (m:=Builtin.Tuple.tupleExact _) (wpAny_newObj_type (Dt ⟨_,rfl,Dt h⟩) htake))
end
end HT
namespace L2
open PySem PySem.Spec PyProof.Rows
abbrev TO:=St->Hp->(Option Int->Hp->Prop)->Prop
def PO(X:Cx)(e:Option Expr)(t:TO):Prop:=
 ∀(pins:List (Addr×Obj)) (s:Shared) (σ:St) (H:Hp) (Q:Option Int->Hp->Prop),Inv X pins σ H s->t σ H Q →
  wpAny (model X.prog X.w) X.A (evalPart e X.env) (fun u s'=>∃o H',Inv X pins σ H' s'/\IsPart u o/\Q o H') X.xe s
def uW:TO:=fun _ H Q=>Q none H
def qB(t:TE):TO:=fun σ H Q=>t σ H fun x H1=>∃i,x=.int i/\Q (some i) H1
theorem intsAre_of{ns:List Int}:∀{us:List Value},Vals (ns.map V.int) us->IntsAre us ns:=by
 induction ns with
 | nil=>intro us r;rw[List.map_nil]at r;cases r;exact .nil
 | cons n ns ih=>
  intro us r
  rw[List.map_cons]at r
  cases r with
  | cons r1 r2=>
   obtain⟨t,e⟩:=r1
   subst e
   exact .cons n t (ih r2)
section
variable {X:Cx} {e:Expr} {te:TE} {lo hi:Option Expr} {tl th:TO} {pos p2:Pos}
theorem iR:PO X none uW:=by
 intro pins s σ H Q I h
 rw[evalPart_none]
 exact Dt ⟨none,H,I,.none,h⟩
theorem fu(h:PE X e te):PO X (some e) (qB te):=by
 intro pins s σ H Q I hw
 rw[evalPart_some]
 refine av (h pins s σ H _ I hw) fun u s1 ⟨x,H1,I1,r1,q1⟩=>?_
 obtain⟨i,rfl,q⟩:=q1
 obtain⟨t,rfl⟩:=r1
 exact⟨some i,H1,I1,.int i t,q⟩
def iL(X:Cx)(r:V->Option Int->Option Int->Hp->VK->Prop):Prop:=
 ∀(pins:List (Addr×Obj)) (s:Shared) (σ:St) (H:Hp) (x:V) (v vl vu:Value) (lo hi:Option Int) (sl:Addr) (Q:VK),Inv X pins σ H s->RelV x v->s.heap.IsSliceOf sl vl vu .none->IsPart vl lo->IsPart vu hi->r x lo hi H Q →
  ∃T id,typeLookup (.type T) "__getitem__" = pure (some (.builtin id))/\s.TypeIs v T/\wpAny (model X.prog X.w) X.A (getItem v (.ref sl)) (EP X pins σ Q) X.xe s
def qP(r:V->Option Int->Option Int->Hp->VK->Prop)(te:TE)(tl th:TO):TE:=fun σ H Q=>te σ H fun x H1=>tl σ H1 fun l H2=>th σ H2 fun u H3=>r x l u H3 Q
theorem gW{r:V->Option Int->Option Int->Hp->VK->Prop}(hr:iL X r)(he:PE X e te)(hl:PO X lo tl)(hu:PO X hi th):PE X (.Subscript e (.Slice lo hi none p2) pos) (qP r te tl th):=by
 intro pins s σ H Q I h
 refine Subscript_ (av (he pins s σ H _ I h) fun v s1 ⟨x,H1,I1,r1,q1⟩=>?_)
 refine wpAny_Slice (av (hl pins s1 σ H1 _ I1 q1) fun vl s2 ⟨l,H2,I2,pl,q2⟩=>av (hu pins s2 σ H2 _ I2 q2) fun vu s3 ⟨u,H3,I3,pu,q3⟩=>?_)
 rw[evalPart_none]
 refine Dt ?_
 have I4:Inv X pins σ H3 { s3 with heap:=s3.heap.push { cls:=.type "slice",data:=.fields #[vl,vu,.none] } }:=I3.kept (t':=s3.toks) fun b ob q=>Dv _ q
 obtain⟨T,id,hT,ht,hg⟩:=hr pins { s3 with heap:=s3.heap.push { cls:=.type "slice",data:=.fields #[vl,vu,.none] } } σ H3 x v vl vu l u s3.heap.objs.size Q I4 r1 (Heap.IsSliceOf.new ..) pl pu q3
 show wpAny (model X.prog X.w) X.A (subscriptTail e (.Slice lo hi none p2) v (.ref s3.heap.objs.size)) (EP X pins σ Q) X.xe { s3 with heap:=s3.heap.push { cls:=.type "slice",data:=.fields #[vl,vu,.none] } }
 exact tail_any (ops:=[.ref s3.heap.objs.size,v]) ht hT hg (by with_unfolding_all rfl)
def bX(xs:List V)(lo hi:Option Int):List V:=(xs.drop (HT.aL xs.length 0 lo)).take (HT.aL xs.length xs.length hi-HT.aL xs.length 0 lo)
theorem uY(xs:List V)(lo hi:Option Int):(bX xs lo hi).length<=xs.length:=by
 unfold bX
 rw[List.length_take,List.length_drop]
 omega
def AZ(K:Du):V->Option Int->Option Int->Hp->VK->Prop:=fun x lo hi H Q=>∃a xs,x=.ref a/\ah K H a xs ∧
 ¬(HT.aL xs.length 0 lo=0/\HT.aL xs.length xs.length hi=xs.length)/\∀p,H p=none->Q (.ref p) (upd H p (.tup (bX xs lo hi)))
theorem BO:iL X (AZ X.K):=by
 intro pins s σ H x v vl vu lo hi sl Q I rx hs pl pu h
 obtain⟨a,xs,rfl,hx,hw,q⟩:=h
 cases rx
 obtain⟨its,r,ht,hz⟩:=I.tuple hx
 have hlen:its.toArray.size=xs.length:=by rw[DD];exact r.length.symm
 refine⟨"tuple",_,PyProof.Rows.slot_tuple_getitem.lookup,ht.typeIs,?_⟩
 refine HT.Cy ht hs pl pu (by rw[hlen];exact hw) ?_ (by rw[hlen];exact hz)
 rw[hlen]
 refine⟨.ref s.heap.objs.size,_,I.laid (t':=s.toks) (o:=.tup (bX xs lo hi)) (fun b ob q=>Dv _ q) (DR _) ?_,rfl,q _ (I.hok.fresh (DR _))⟩
 exact⟨Eb (uY xs lo hi) hz,_,(r.drop (HT.aL xs.length 0 lo)).take (HT.aL xs.length xs.length hi-HT.aL xs.length 0 lo),IsTup.new _ _⟩
end
end L2
namespace L2
open PySem PySem.Spec PyProof.Rows
def ee(n:Nat)(i:Int):Option Nat:=if 0<=i then(if i<n then some i.toNat else none)else if -(n:Int)<=i then some (i+n).toNat else none
def bt{α:Type}(xs:List α)(i:Int):Option α:=(ee xs.length i).bind fun j=>xs[j]?
theorem rf{n:Nat}{i:Int}{j:Nat}(h:ee n i=some j):seqIndex? i n=some j/\j<n/\-(n:Int)<=i/\i<n:=by
 unfold ee at h
 by_cases h0:0<=i
 ·rw[if_pos h0]at h
  by_cases h1:i<n
  ·rw[if_pos h1]at h
   have e:i.toNat=j:=Option.some.inj h
   exact⟨by rw[seqIndex_of h0 h1,e],by omega,by omega,h1⟩
  ·rw[if_neg h1]at h;cases h
 ·rw[if_neg h0]at h
  by_cases h1:-(n:Int)<=i
  ·rw[if_pos h1]at h
   have e:(i+n).toNat=j:=Option.some.inj h
   exact⟨by rw[seqIndex_neg (by omega) h1,e],by omega,h1,by omega⟩
  ·rw[if_neg h1]at h;cases h
theorem lV{α:Type}{xs:List α}{i:Int}{v:α}(h:bt xs i=some v):∃j,seqIndex? i xs.length=some j/\xs[j]?=some v/\j<xs.length/\-(xs.length:Int)<=i/\i<xs.length:=by
 unfold bt at h
 cases e:ee xs.length i with
 | none=>rw[e]at h;cases h
 | some j=>
  rw[e]at h
  obtain⟨h1,h2,h3,h4⟩:=rf e
  exact⟨j,h1,h,h2,h3,h4⟩
theorem eW{α:Type}{xs:List α}{j:Nat}{v:α}(h:xs[j]?=some v):bt xs (j:Int)=some v:=by
 have hj:j<xs.length:=(DG.mp h).1
 have e:ee xs.length (j:Int)=some j:=by
  unfold ee
  rw[if_pos (by omega),if_pos (by omega)];simp
 unfold bt;rw[e];exact h
def CN(b:Expr):Prop:=∀o i,subscripted b false o i=operate [o,i] (getItem o i)
def gG(X:Cx)(r:R2):Prop:=
 ∀(value slice:Expr) (pins:List (Addr×Obj)) (s:Shared) (σ:St) (H:Hp) (x y:V) (v u:Value) (Q:VK),Inv X pins σ H s->RelV x v->RelV y u->r x y H Q →
  subscripted slice false v u=operate [v,u] (getItem v u)->wpAny (model X.prog X.w) X.A (subscriptTail value slice v u) (EP X pins σ Q) X.xe s
def iA(X:Cx)(id:String)(r:V->List V->Hp->VK->Prop):Prop:=
 ∀(pins:List (Addr×Obj)) (s:Shared) (σ:St) (H:Hp) (x:V) (xs:List V) (v:Value) (us:List Value) (Q:VK),Inv X pins σ H s->RelV x v->Vals xs us->r x xs H Q →
  wpAny (model X.prog X.w) X.A (call (.builtin id) (v::us)) (EP X pins σ Q) X.xe s
section
variable {X:Cx} {a b:Expr} {ta tb:TE} {pos:Pos}
theorem ai{r:R2}(hr:gG X r)(ha:PE X a ta)(hb:PE X b tb)(hs:CN b):PE X (.Subscript a b pos) (gm r ta tb):=by
 intro pins s σ H Q I h
 exact Subscript_ (mz ha hb I h fun v u s2 x y H2 I2 rx ry q=>hr a b pins s2 σ H2 x y v u Q I2 rx ry q (hs _ _))
def oR(K:Du):R2:=fun x y H Q=>∃p xs i v,x=.ref p/\y=.int i/\ag K H p xs/\bt xs i=some v/\Q v H
def kx(K:Du):R2:=fun x y H Q=>∃p xs i v,x=.ref p/\y=.int i/\ah K H p xs/\bt xs i=some v/\Q v H
def Dg:R2:=fun x y H Q=>∃z i c,x=.str z/\y=.int i/\z.length<=sizeLine/\bt z.cps.toList i=some c/\Q (.str ⟨#[c]⟩) H
theorem zV:gG X (oR X.K):=by
 intro value slice pins s σ H x y v u Q I rx ry h hs
 obtain⟨p,xs,i,z,rfl,rfl,hq,he,q⟩:=h
 cases rx
 obtain⟨t,rfl⟩:=ry
 obtain⟨its,r,pl,hz⟩:=I.list hq
 obtain⟨j,h1,h2,h3,h4,h5⟩:=lV he
 obtain⟨w,ew,rw'⟩:=r.get h2
 have hl:=r.length
 have hn:=gj
 have fin:EP X pins σ Q w s:=⟨z,H,I,rw',q⟩
 by_cases h0:0<=i
 ·have hj:i.toNat=j:=by
   rw[seqIndex_of h0 h5]at h1
   exact Option.some.inj h1
  exact item_listR pl.isList h0 (by omega) (by rw[hj];simpa using ew) fin hs
 ·have hj:(i+(its.toArray.size:Int)).toNat=j:=by
   rw[seqIndex_neg (by omega) h4]at h1
   rw[DD,←hl]
   exact Option.some.inj h1
  exact subscriptTail_builtinR (x:=w) pl.isList.typeIs slot_list_getitem.lookup
   (wpAny_getItem_list_neg (Q:=fun r s'=>r=w/\EP X pins σ Q r s') pl.isList (by omega) (by rw[DD]<;>omega) (by omega) (by rw[hj];simpa using ew) ⟨rfl,fin⟩) hs
theorem Dk:gG X (kx X.K):=by
 intro value slice pins s σ H x y v u Q I rx ry h hs
 obtain⟨p,xs,i,z,rfl,rfl,hq,he,q⟩:=h
 cases rx
 obtain⟨t,rfl⟩:=ry
 obtain⟨its,r,pl,hz⟩:=I.tuple hq
 obtain⟨j,h1,h2,h3,h4,h5⟩:=lV he
 obtain⟨w,ew,rw'⟩:=r.get h2
 have hl:=r.length
 have hn:=gj
 have fin:EP X pins σ Q w s:=⟨z,H,I,rw',q⟩
 exact subscriptTail_builtinR (x:=w) pl.typeIs slot_tuple_getitem.lookup
  (getItem_tuple (j:=j) (Q:=fun r s'=>r=w/\EP X pins σ Q r s') pl (by omega) (by omega) (by rw[DD,←hl];exact h1) (by simpa using ew) ⟨rfl,fin⟩) hs
theorem uQ:gG X Dg:=by
 intro value slice pins s σ H x y v u Q I rx ry h hs
 obtain⟨z,i,c,rfl,rfl,hz,he,q⟩:=h
 obtain⟨t,rfl⟩:=rx
 obtain⟨t',rfl⟩:=ry
 obtain⟨j,h1,h2,h3,h4,h5⟩:=lV he
 have hl:z.cps.toList.length=z.length:=by simp[Str.length]
 rw[hl]at h1 h4 h5
 have hn:=gj
 exact tail_any (typeIs_str s z t) slot_str_getitem.lookup (getItem_str (c:=c) (by
  have e1:decide (i < -(2 ^ 63:Int))=false:=decide_eq_false (by omega)
  have e2:decide (i ≥ 2 ^ 63)=false:=decide_eq_false (by omega)
  rw[e1,e2,Bool.or_false]) (by rw[h1];simpa using h2) ⟨.str ⟨#[c]⟩,H,I.tok _,⟨_,rfl⟩,q⟩) hs
theorem Bc(its:List Value)(n j:Nat)(u:Value):Obj.mapSeq (·.setIfInBounds j u) { cls:=.type "list",data:=.seq its.toArray n }={ cls:=.type "list",data:=.seq (its.set j u).toArray n }:=by
 simp[Obj.mapSeq]
theorem Inv.lst{pins:List (Addr×Obj)}{σ:St}{H:Hp}{s:Shared}{p:Addr}{xs:List V}(I:Inv X pins σ H s)(h:H p=some (.lst xs)):
  ∃(its:List Value) (n:Nat),Vals xs its/\s.heap.get? p=some { cls:=.type "list",data:=.seq its.toArray n }/\xs.length<=sizeLine:=by
 obtain⟨z,its,n,r,e⟩:=I.hok p _ h
 exact⟨its,n,r,e,z⟩
theorem Inv.lstUpd{pins:List (Addr×Obj)}{σ:St}{H:Hp}{s:Shared}{p:Addr}{xs ys:List V}{its its':List Value}{n n':Nat}{f:Obj->Obj}(I:Inv X pins σ H s)(h:H p=some (.lst xs))
  (ho:s.heap.get? p=some { cls:=.type "list",data:=.seq its.toArray n }) (hf:f { cls:=.type "list",data:=.seq its.toArray n }={ cls:=.type "list",data:=.seq its'.toArray n' }) (r:Vals ys its') (hz:ys.length<=sizeLine) (t:Nat) :
  Inv X pins σ (upd H p (.lst ys)) { s with heap:=s.heap.update p f,toks:=t }:=by
 have e:(s.heap.update p f).get? p=some { cls:=.type "list",data:=.seq its'.toArray n' }:=by
  rw[Heap.get?_update_self f ho (by rw[hf]<;>rfl),hf]
 refine I.write (x:=p) (e:=p) (by rw[h];trivial) (.inl rfl) (fun b u hb q=>(Heap.get?_update_other _ _ (Ne.symm hb)).trans q) ⟨_,e⟩ ?_
 exact⟨hz,its',n',r,e⟩
def vk:V->V->V->Hp->(Hp->Prop)->Prop:=fun o i v H Q=>∃p xs k j,o=.ref p/\i=.int k/\H p=some (.lst xs)/\ee xs.length k=some j/\Q (upd H p (.lst (xs.set j v)))
theorem set_list:pj X vk:=by
 intro pins s σ H o i v ov iv u Q I ro ri rv h
 obtain⟨p,xs,k,j,rfl,rfl,hp,hj,q⟩:=h
 cases ro
 obtain⟨t,rfl⟩:=ri
 obtain⟨its,n,r,ho,hz⟩:=I.lst hp
 obtain⟨h1,h2,h3,h4⟩:=rf hj
 have hl:=r.length
 have hn:=gj
 have I':Inv X pins σ (upd H p (.lst (xs.set j v))) { s with heap:=s.heap.update p (Obj.mapSeq (·.setIfInBounds j u)) }:=
  I.lstUpd hp ho (Bc its n j u) (r.set rv j) (by rw[List.length_set];exact hz) s.toks
 by_cases h0:0<=k
 ·have hk:k.toNat=j:=by
   rw[seqIndex_of h0 h4]at h1
   exact Option.some.inj h1
  exact PySem.W.ki_setAt ho h0 (by omega) (by rw[DD,←hl];exact h4) (by rw[hk];exact⟨_,I',q⟩)
 ·have hk:(k+(its.toArray.size:Int)).toNat=j:=by
   rw[seqIndex_neg (by omega) h3]at h1
   rw[DD,←hl]
   exact Option.some.inj h1
  exact PySem.W.ki_setBack ho (by omega) (by rw[DD,←hl];exact h3) (by omega) (by rw[hk];exact⟨_,I',q⟩)
theorem BC(lo hi:Option Int)(n:Nat):(sliceBounds lo hi none n).1=((HT.aL n 0 lo:Nat):Int)/\(sliceBounds lo hi none n).2.1=((HT.aL n n hi:Nat):Int)/\(sliceBounds lo hi none n).2.2=1:=by
 refine⟨?_,?_,rfl⟩
 ·cases lo with
  | none=>simp[sliceBounds,HT.aL]
  | some i=>
   simp only[sliceBounds,HT.aL,Option.getD_none,show (1:Int)>0 by decide,if_true]
   by_cases h:i<0
   ·simp only[h,if_true]<;>omega
   ·simp only[h,if_false]<;>omega
 ·cases hi with
  | none=>simp[sliceBounds,HT.aL]
  | some i=>
   simp only[sliceBounds,HT.aL,Option.getD_none,show (1:Int)>0 by decide,if_true]
   by_cases h:i<0
   ·simp only[h,if_true]<;>omega
   ·simp only[h,if_false]<;>omega
theorem CB(its:List Value)(lo hi:Option Int):slicePick its.toArray lo hi none=((its.drop (HT.aL its.length 0 lo)).take (HT.aL its.length its.length hi-HT.aL its.length 0 lo)).toArray:=by
 obtain⟨h1,h2,h3⟩:=BC lo hi its.toArray.size
 unfold slicePick
 rw[h1,h2,h3]
 simp only[sliceRange_one,pick_run,DD]<;>rfl
def mZ(K:Du):V->Option Int->Option Int->Hp->VK->Prop:=fun x lo hi H Q=>∃a xs,x=.ref a/\ag K H a xs/\∀p,H p=none->Q (.ref p) (upd H p (.lst (bX xs lo hi)))
theorem Ak:iL X (mZ X.K):=by
 intro pins s σ H x v vl vu lo hi sl Q I rx hs pl pu h
 obtain⟨a,xs,rfl,hx,q⟩:=h
 cases rx
 obtain⟨its,r,ht,hz⟩:=I.list hx
 have hlen:=r.length
 refine⟨"list",_,slot_list_getitem.lookup,ht.isList.typeIs,?_⟩
 refine wpAny_getItem_list_slice ht.isList hs pl pu .none (by simp) ?_ (by rw[DD]<;>omega)
 rw[CB,←hlen]
 refine⟨.ref s.heap.objs.size,_,I.laid (t':=s.toks) (o:=.lst (bX xs lo hi)) (fun b ob q=>Dv _ q) (DR _) ?_,rfl,q _ (I.hok.fresh (DR _))⟩
 exact⟨Eb (uY xs lo hi) hz,_,0,(r.drop (HT.aL xs.length 0 lo)).take (HT.aL xs.length xs.length hi-HT.aL xs.length 0 lo),Dw _ rfl⟩
def dX:V->Bool
 | .non=>true
 | .bl _=>true
 | .int _=>true
 | .str _=>true
 | _=>false
def fj:V->V->Bool
 | .non,.non=>true
 | .bl a,.bl b=>a == b
 | .bl a,.int b=>(if a then 1 else 0) == b
 | .int a,.bl b=>a == (if b then 1 else 0)
 | .int a,.int b=>a == b
 | .str a,.str b=>a == b
 | _,_=>false
theorem zI{A:Around}{s:Shared}{y x:V}{u v:Value}(ry:RelV y u)(rx:RelV x v)(fy:dX y=true)(fx:dX x=true):SeqAt.EqAt A s u v (fj y x):=by
 cases y with
 | non=>
  cases ry
  cases x with
  | non=>cases rx;exact SeqAt.EqAt.same _
  | bl b=>cases rx;exact SeqAt.EqAt.none_bool b
  | int b=>obtain⟨t,rfl⟩:=rx;exact SeqAt.EqAt.none_int b t
  | str b=>obtain⟨t,rfl⟩:=rx;exact SeqAt.EqAt.none_str b t
  | _=>exact absurd (show false=true from fx) DN
 | bl a=>
  cases ry
  cases x with
  | non=>cases rx;exact SeqAt.EqAt.bool_none a
  | bl b=>cases rx;exact SeqAt.EqAt.bool_bool a b
  | int b=>obtain⟨t,rfl⟩:=rx;exact SeqAt.EqAt.bool_int a b t
  | str b=>obtain⟨t,rfl⟩:=rx;exact SeqAt.EqAt.bool_str a b t
  | _=>exact absurd (show false=true from fx) DN
 | int a=>
  obtain⟨t',rfl⟩:=ry
  cases x with
  | non=>cases rx;exact SeqAt.EqAt.int_none a t'
  | bl b=>cases rx;exact SeqAt.EqAt.int_bool a t' b
  | int b=>obtain⟨t,rfl⟩:=rx;exact SeqAt.EqAt.int_int a t' b t
  | str b=>obtain⟨t,rfl⟩:=rx;exact SeqAt.EqAt.int_str a t' b t
  | _=>exact absurd (show false=true from fx) DN
 | str a=>
  obtain⟨t',rfl⟩:=ry
  cases x with
  | non=>cases rx;exact SeqAt.EqAt.str_none a t'
  | bl b=>cases rx;exact SeqAt.EqAt.str_bool a t' b
  | int b=>obtain⟨t,rfl⟩:=rx;exact SeqAt.EqAt.str_int a t' b t
  | str b=>obtain⟨t,rfl⟩:=rx;exact SeqAt.EqAt.str_str a t' b t
  | _=>exact absurd (show false=true from fx) DN
 | _=>exact absurd (show false=true from fy) DN
def fg(x:V)(u:Value):Bool:=match u with
 | .none=>fj .non x
 | .bool b=>fj (.bl b) x
 | .int i _=>fj (.int i) x
 | .str z _=>fj (.str z) x
 | _=>false
theorem wI{x y:V}{u:Value}(r:RelV y u)(f:dX y=true):fg x u=fj y x:=by
 cases y with
 | non=>cases r;rfl
 | bl b=>cases r;rfl
 | int i=>obtain⟨t,rfl⟩:=r;rfl
 | str z=>obtain⟨t,rfl⟩:=r;rfl
 | _=>exact absurd (show false=true from f) DN
theorem oj{x:V}:∀{xs:List V} {us:List Value},Vals xs us->xs.all dX=true->us.any (fg x)=xs.any fun y=>fj y x
 | _,_,.nil,_=>rfl
 | y::xs,u::us,.cons r t,f=>by
  rw[List.all_cons,Eg]at f
  rw[List.any_cons,List.any_cons,wI r f.1,oj t f.2]
theorem m6{A:Around}{s:Shared}{x:V}{v:Value}(rx:RelV x v)(fx:dX x=true):∀{xs:List V} {us:List Value},Vals xs us->xs.all dX=true->∀u∈us,SeqAt.EqAt A s u v (fg x u)
 | _,_,.nil,_=>fun u hu=>by cases hu
 | y::xs,u::us,.cons r t,f=>fun u' hu=>by
  rw[List.all_cons,Eg]at f
  rcases DM.mp hu with rfl | hu
  ·rw[wI r f.1];exact zI r rx f.1 fx
  ·exact m6 rx fx t f.2 u' hu
def ie(x:V)(xs:List V):Bool:=xs.any fun y=>fj y x
def nM(K:Du)(neg:Bool):R2:=fun x y H Q=>∃p xs,y=.ref p/\(ag K H p xs\/ah K H p xs)/\dX x=true/\xs.all dX=true/\Q (.bl (if neg then !ie x xs else ie x xs)) H
theorem y9:bx X (compareOp .In) (nM X.K false):=by
 intro pins s σ H x y v u Q I rx ry h
 obtain⟨p,xs,rfl,hq,fx,fs,q⟩:=h
 cases ry
 rcases hq with hq | hq
 ·obtain⟨its,r,pl,hz⟩:=I.list hq
  refine SeqAt.in_listAt (fg x) pl.isList (fun w hw=>m6 rx fx r fs w (by simpa using hw)) ⟨.bl _,H,I,rfl,?_⟩
  rw[show its.toArray.any (fg x)=its.any (fg x) by simp,oj r fs]
  exact q
 ·obtain⟨its,r,pl,hz⟩:=I.tuple hq
  refine SeqAt.in_tupleAt (fg x) pl (fun w hw=>m6 rx fx r fs w (by simpa using hw)) ⟨.bl _,H,I,rfl,?_⟩
  rw[show its.toArray.any (fg x)=its.any (fg x) by simp,oj r fs]
  exact q
theorem yL:bO X (.builtin "len") (fun xs H Q=>∃p ys,xs=[.ref p]/\(ag X.K H p ys\/ah X.K H p ys)/\Q (.int ys.length) H):=by
 intro pins s σ H xs us Q I r h
 obtain⟨p,ys,rfl,hq,q⟩:=h
 obtain⟨u,rfl,rx⟩:=vals1 r
 cases rx
 have hn:=gj
 rcases hq with hq | hq
 ·obtain⟨its,r',pl,hz⟩:=I.list hq
  have hlen:=r'.length
  exact Calls.call_len_list pl.isList (by simp only[DD]<;>omega) ⟨.int ys.length,H,I.tok _,⟨s.toks+1,by rw[DD,hlen]⟩,q⟩
 ·obtain⟨its,r',pl,hz⟩:=I.tuple hq
  have hlen:=r'.length
  exact len_tuple pl (by simp only[DD]<;>omega) ⟨.int ys.length,H,I.tok _,⟨s.toks+1,by rw[DD,hlen]⟩,q⟩
theorem B6:bO X (.builtin "len") (fun xs H Q=>∃z,xs=[.str z]/\z.length<=sizeLine/\Q (.int z.length) H):=by
 intro pins s σ H xs us Q I r h
 obtain⟨z,rfl,hz,q⟩:=h
 obtain⟨u,rfl,t,rfl⟩:=vals1 r
 have hn:=gj
 exact len_str (by omega) ⟨.int z.length,H,I.tok _,⟨_,rfl⟩,q⟩
theorem zd:bO X (.type "list") (fun xs H Q=>∃p ys,xs=[.ref p]/\(ag X.K H p ys\/ah X.K H p ys)/\∀l,H l=none->Q (.ref l) (upd H l (.lst ys))):=by
 intro pins s σ H xs us Q I r h
 obtain⟨p,ys,rfl,hq,q⟩:=h
 obtain⟨u,rfl,rx⟩:=vals1 r
 cases rx
 have fin:∀(its:List Value),Vals ys its->ys.length<=sizeLine->∀(h':Heap) (c':Nat),(∀b o',s.heap.get? b=some o'->h'.get? b=some o') →
   h'.get? s.heap.objs.size=some { cls:=.type "list",dict:=none,data:=.seq its.toArray c',slots:=#[] }->EP X pins σ Q (.ref s.heap.objs.size) { s with heap:=h' }:=fun its r' hz h' c' kp e=>
  ⟨.ref s.heap.objs.size,_,I.laid (t':=s.toks) kp (DR _) (show bj X.prog X.w _ h' _ (.lst ys)from⟨hz,its,c',r',e⟩),rfl,q _ (I.hok.fresh (DR _))⟩
 rcases hq with hq | hq
 ·obtain⟨its,r',pl,hz⟩:=I.list hq
  have hlen:=r'.length
  obtain⟨o,ho,hc,n,hd⟩:=pl.isList
  exact call_list_seq p (.inl rfl) ho hc hd (fun h' c' kp e=>fin its r' hz h' c' kp e) (by simp only[DD]<;>omega)
 ·obtain⟨its,r',pl,hz⟩:=I.tuple hq
  have hlen:=r'.length
  obtain⟨o,ho,hc,n,hd⟩:=pl
  exact call_list_seq p (.inr rfl) ho hc hd (fun h' c' kp e=>fin its r' hz h' c' kp e) (by simp only[DD]<;>omega)
theorem Ar:bO X (.type "tuple") (fun xs H Q=>∃p ys,xs=[.ref p]/\((ag X.K H p ys/\∀l,H l=none->Q (.ref l) (upd H l (.tup ys)))\/(ah X.K H p ys/\Q (.ref p) H))):=by
 intro pins s σ H xs us Q I r h
 obtain⟨p,ys,rfl,h⟩:=h
 obtain⟨u,rfl,rx⟩:=vals1 r
 cases rx
 rcases h with⟨hq,q⟩ | ⟨hq,q⟩
 ·obtain⟨its,r',pl,hz⟩:=I.list hq
  have hlen:=r'.length
  refine call_tuple_list pl.isList (fun h' kp=>?_) (by simp only[DD]<;>omega)
  have I1:Inv X pins σ H { s with heap:=h' }:=I.kept (t':=s.toks) kp
  have I2:Inv X pins σ (upd H h'.objs.size (.tup ys)) { s with heap:=h'.push { cls:=.type "tuple",data:=.seq its.toArray } }:=
   I1.laid (t':=s.toks) (fun b o e=>Dv _ e) (DR _) (show bj X.prog X.w _ _ _ (.tup ys)from⟨hz,its,r',IsTup.new _ _⟩)
  exact⟨.ref h'.objs.size,_,I2,rfl,q _ (I1.hok.fresh (DR _))⟩
 ·obtain⟨its,r',pl,hz⟩:=I.tuple hq
  exact call_tuple_same pl ⟨.ref p,H,I,rfl,q⟩
def fS(K:Du)(T:String)(x:V)(H:Hp):Prop:=match x with
 | .str _=>T = "str"
 | .int _=>T = "int"
 | .ref p=>(T = "list"/\∃xs,ag K H p xs)\/(T = "tuple"/\∃o,K.lookup p=some o/\o.cls=.type "tuple"/\o.dict=none) ∨
   (T = "dict"/\((∃kvs,H p=some (.dK kvs))\/∃kvs,H p=some (.dT kvs)))\/(T = "set"/\∃S n,H p=some (.set S n))
 | _=>False
theorem qp{pins:List (Addr×Obj)}{σ:St}{H:Hp}{s:Shared}{T:String}{x:V}{v:Value}(I:Inv X pins σ H s)(r:RelV x v)(ty:fS X.K T x H):
  s.TypeIs v T/\∀a,v=.ref a->∃ob,s.heap.get? a=some ob/\ob.dict=none:=by
 cases x with
 | str z=>
  obtain⟨t,rfl⟩:=r
  cases(show T = "str" from ty)
  exact⟨typeIs_str s z t,fun _ e=>nomatch e⟩
 | int i=>
  obtain⟨t,rfl⟩:=r
  cases(show T = "int" from ty)
  exact⟨typeIs_int s i t,fun _ e=>nomatch e⟩
 | ref p=>
  cases r
  rcases ty with⟨rfl,xs,hq⟩ | ⟨rfl,o,hk,hc,hd⟩ | ⟨rfl,hk⟩ | ⟨rfl,S,n,hk⟩
  ·obtain⟨its,_,pl,_⟩:=I.list hq
   refine⟨pl.isList.typeIs,fun a e=>?_⟩
   cases e
   obtain⟨o,n,e,c,hd,_⟩:=pl
   exact⟨o,e,hd⟩
  ·refine⟨⟨o,I.kIn p o hk,hc⟩,fun a e=>?_⟩
   cases e
   exact⟨o,I.kIn _ o hk,hd⟩
  ·have z:∃o,s.heap.get? p=some o/\o.ExactDict:=by
    rcases hk with⟨kvs,hk⟩ | ⟨kvs,hk⟩
    ·obtain⟨_,_,_,_,o,_,_,e,ex,_⟩:=I.hok p _ hk
     exact⟨o,e,ex⟩
    ·obtain⟨_,_,_,_,o,_,_,e,ex,_⟩:=I.hok p _ hk
     exact⟨o,e,ex⟩
   obtain⟨o,e,ex⟩:=z
   refine⟨⟨o,e,ex.1⟩,fun a e2=>?_⟩
   cases e2
   exact⟨o,e,ex.2.1⟩
  ·obtain⟨o,_,_,_,e,ex,_⟩:=I.hok p _ hk
   refine⟨⟨o,e,ex.1⟩,fun a e2=>?_⟩
   cases e2
   exact⟨o,e,ex.2.1⟩
 | _=>exact False.elim ty
def kZ(K:Du)(T:String)(r:V->List V->Hp->VK->Prop)(to:TE):TE:=fun σ H Q=>to σ H fun x H1=>fS K T x H1/\r x [] H1 Q
def nG(K:Du)(T:String)(r:V->List V->Hp->VK->Prop)(to:TE)(t:TA):TE:=fun σ H Q=>to σ H fun x H1=>fS K T x H1/\t σ H1 fun xs H2=>r x xs H2 Q
variable {o e:Expr} {es:List Expr} {to:TE} {t:TA} {name:Str} {apos cpos:Pos} {T id:String} {r:V->List V->Hp->VK->Prop}
theorem CZ(pa:PlainAttrs T)(slot:Slot T name id)(hty:typeOf (.builtin id)=pure (.type "method_descriptor"))(hm:iA X id r)(ho:PE X o to)
  (hbase:attributeBase o name X.env (eval o X.env)=eval o X.env:=by rfl) (hline:(apos.endLine == cpos.line)=true:=by rfl):PE X (.Call (.Attribute o name apos) [] [] cpos) (kZ X.K T r to):=by
 intro pins s σ H Q I h
 refine wpAny_Call_method0_late hbase hline (av (ho pins s σ H _ I h) fun v s1 ⟨x,H1,I1,r1,ty,q1⟩=>?_)
 obtain⟨h1,h2⟩:=qp I1 r1 ty
 exact⟨T,id,pa,slot,hty,h1,h2,Calls.callWith_builtin rfl (PySem.evalArgs_none (hm pins s1 σ H1 x [] v [] Q I1 r1 .nil q1))⟩
theorem B9(pa:PlainAttrs T)(slot:Slot T name id)(hty:typeOf (.builtin id)=pure (.type "method_descriptor"))(hm:iA X id r)(ho:PE X o to)(ha:PA X (e::es) t)
  (hbase:attributeBase o name X.env (eval o X.env)=eval o X.env:=by rfl)
  (hfew:((backTo cpos (starEach (e::es) X.env)).all (fun x=>!x.1) && (backToKw cpos (keywordEach [] X.env)).all (fun x=>x.1.isSome)
   && decide ((e::es).length+([]:List Keyword).length+(if([]:List Keyword).isEmpty then 0 else 1)<30))=true:=by rfl)
  (hline:(apos.endLine == cpos.line)=true:=by rfl) (hs:starEach (e::es) X.env=(false,eval e X.env)::starEach es X.env:=by rfl) (hplain:(backTo cpos (starEach es X.env)).any (·.1)=false:=by rfl) :
  PE X (.Call (.Attribute o name apos) (e::es) [] cpos) (nG X.K T r to t):=by
 intro pins s σ H Q I h
 refine wpAny_Call_method_late hbase hfew hline rfl (av (ho pins s σ H _ I h) fun v s1 ⟨x,H1,I1,r1,ty,q1⟩=>?_)
 obtain⟨h1,h2⟩:=qp I1 r1 ty
 refine⟨T,id,pa,slot,hty,h1,h2,?_⟩
 have hA:=ha cpos pins s1 σ H1 _ I1 q1
 rw[hs]at hA ⊢
 refine Calls.callWith_builtin (by show(false || (backTo cpos (starEach es X.env)).any (·.1))=false;rw[hplain]<;>rfl) (Calls.evalArgs_plain ?_)
 exact av hA fun us s2 ⟨vs,H2,I2,r2,q2⟩=>hm pins s2 σ H2 x vs v us Q I2 r1 r2 q2
end
end L2
namespace L2
open PySem PySem.Spec PyProof.Rows
def nL(X:Cx)(id:String)(r:V->List V->Hp->VK->Prop):Prop:=
 ∀(pins:List (Addr×Obj)) (s:Shared) (σ:St) (H:Hp) (x:V) (xs:List V) (v:Value) (us:List Value) (Q:VK),Inv X pins σ H s->RelV x v->Vals xs us->r x xs H Q →
  wpAny (model X.prog X.w) X.A (call (.builtin id) (v::us)) (EP X pins σ Q) X.xe s
theorem Vals.one:∀{x:V} {us:List Value},Vals [x] us->∃u,us=[u]/\RelV x u
 | _,_,.cons r .nil=>⟨_,rfl,r⟩
theorem Vals.zero:∀{us:List Value},Vals [] us->us=[]
 | _,.nil=>rfl
theorem Vals.dropLast{xs:List V}{us:List Value}(h:Vals xs us):Vals xs.dropLast us.dropLast:=by
 induction h with
 | nil=>exact .nil
 | cons r t ih=>
  cases t with
  | nil=>exact .nil
  | cons q t'=>exact .cons r ih
theorem Vals.rep{xs:List V}{us:List Value}(h:Vals xs us):∀k:Nat,Vals (List.replicate k xs).flatten (List.replicate k us).flatten
 | 0=>.nil
 | k+1=>by
  rw[List.replicate_succ,List.replicate_succ,List.flatten_cons,List.flatten_cons]
  exact Vals.append h (Vals.rep h k)
theorem wK{α:Type}(l:List α):l.eraseIdx (l.length-1)=l.dropLast:=by
 induction l with
 | nil=>rfl
 | cons a r ih=>
  cases r with
  | nil=>rfl
  | cons b r=>
   have e:(a::b::r).length-1=((b::r).length-1)+1:=by
    have h1:(a::b::r).length=r.length+2:=rfl
    have h2:(b::r).length=r.length+1:=rfl
    omega
   rw[e,List.eraseIdx_cons_succ,ih]
   all_goals rfl
theorem foldl_rep(its:List Value):∀(k:Nat) (acc:List Value),
  List.foldl (fun x1 x2=>x1++x2) acc.toArray (List.replicate k its.toArray)=(acc++(List.replicate k its).flatten).toArray
 | 0,acc=>by simp
 | k+1,acc=>by
  have e:acc.toArray++its.toArray=(acc++its).toArray:=by simp
  have e2:(acc++its)++(List.replicate k its).flatten=acc++(List.replicate (k+1) its).flatten:=by
   rw[List.replicate_succ,List.flatten_cons,List.append_assoc]
  rw[←e2,←foldl_rep its k (acc++its),←e,List.replicate_succ,List.foldl_cons]
section
variable {X:Cx} {pins:List (Addr×Obj)} {σ:St} {H:Hp} {s:Shared} {l b:Addr} {xs ys zs:List V}
theorem Inv.lset{its its':List Value}{n:Nat}{f:Array Value->Array Value}{t':Nat}(I:Inv X pins σ H s)(hH:H l=some (.lst xs))
  (e:s.heap.get? l=some { cls:=.type "list",data:=.seq its.toArray n }) (hf:f its.toArray=its'.toArray) (hv:Vals ys its') (hz:ys.length<=sizeLine) :
  Inv X pins σ (upd H l (.lst ys)) { s with heap:=s.heap.update l (Obj.mapSeq f),toks:=t' }:=by
 have q:=PySem.IsL.update e f
 rw[hf]at q
 refine I.write (x:=l) (e:=l) (by rw[hH];exact trivial) (.inl rfl) (fun b' u hb hu=>(Heap.get?_update_other s.heap (Obj.mapSeq f) (Ne.symm hb)).trans hu) ⟨_,q⟩ ?_
 exact⟨hz,its',_,hv,q⟩
theorem Inv.lnew{its:List Value}{t':Nat}(I:Inv X pins σ H s)(hv:Vals ys its)(hz:ys.length<=sizeLine):
  Inv X pins σ (upd H s.heap.objs.size (.lst ys)) { s with heap:=s.heap.push { cls:=.type "list",data:=.seq its.toArray },toks:=t' }:=
 I.laid (fun _ _ q=>Dv _ q) (DR _) ⟨hz,its,0,hv,Dw _ rfl⟩
theorem Inv.fresh(I:Inv X pins σ H s):H s.heap.objs.size=none:=I.hok.fresh (DR _)
theorem Inv.lstM(I:Inv X pins σ H s)(hH:H l=some (.lst xs)):xs.length<=sizeLine/\∃(its:List Value) (n:Nat),Vals xs its/\xs.length=its.length/\s.heap.get? l=some { cls:=.type "list",data:=.seq its.toArray n }:=by
 obtain⟨z,its,n,r,e⟩:=I.hok l _ hH
 exact⟨z,its,n,r,r.length,e⟩
theorem qX{n:Nat}(h:n<=sizeLine):Builtin.List.listTooLong n=false:=by
 unfold Builtin.List.listTooLong
 exact decide_eq_false (by omega)
end
section
variable {X:Cx}
def sR:V->List V->Hp->VK->Prop:=fun x vs H Q=>∃l xs y,x=.ref l/\vs=[y]/\H l=some (.lst xs)/\xs.length<sizeLine/\Q .non (upd H l (.lst (xs++[y])))
theorem bY:nL X "list.append" sR:=by
 intro pins s σ H x vs v us Q I rx rv h
 obtain⟨l,xs,y,rfl,rfl,hH,hz,q⟩:=h
 cases rx
 obtain⟨u,rfl,ru⟩:=rv.one
 obtain⟨z,its,n,r,hl,e⟩:=I.lstM hH
 refine call_meets F.slot_list_append ⟨_,e,rfl⟩ F.entry_list_append (F.args_list_append_2 _ _) (PySem.list_append l its.toArray n u (by rw[DD];omega)) ⟨e,?_⟩
 refine⟨.non,_,I.lset (its':=its++[u]) hH e (by simp) (r.append (.cons ru .nil)) ?_,rfl,q⟩
 rw[DP,List.length_singleton]
 omega
def zk:V->List V->Hp->VK->Prop:=fun x vs H Q=>∃l b xs zs,x=.ref l/\vs=[.ref b]/\H l=some (.lst xs)/\H b=some (.lst zs)/\xs.length+zs.length<=sizeLine/\Q .non (upd H l (.lst (xs++zs)))
theorem xn:nL X "list.extend" zk:=by
 intro pins s σ H x vs v us Q I rx rv h
 obtain⟨l,b,xs,zs,rfl,rfl,hH,hB,hz,q⟩:=h
 cases rx
 obtain⟨u,rfl,ru⟩:=rv.one
 cases ru
 obtain⟨z,its,n,r,hl,e⟩:=I.lstM hH
 obtain⟨z2,its2,n2,r2,hl2,e2⟩:=I.lstM hB
 have hsz:its.toArray.size+its2.toArray.size<=sizeLine:=by rw[DD,DD];omega
 have hlong:¬(!its.toArray.isEmpty && Builtin.List.listTooLong (its.toArray.size+its2.toArray.size))=true:=by
  rw[qX hsz,Bool.and_false]
  exact DN
 refine call_meets F.slot_list_extend ⟨_,e,rfl⟩ F.entry_list_extend (F.args_list_extend_2 _ _)
  (AutoSeq1.list_extend_list_list_0 l its.toArray n b its2.toArray n2 hlong (by rw[DD];omega) (by omega)) ⟨e,e2,?_⟩
 refine⟨.non,_,I.lset (its':=its++its2) hH e (by simp) (r.append r2) ?_,rfl,q⟩
 rw[DP]
 omega
def zw:V->List V->Hp->VK->Prop:=fun x vs H Q=>∃l xs y,x=.ref l/\vs=[]/\H l=some (.lst xs)/\xs[xs.length-1]?=some y/\Q y (upd H l (.lst xs.dropLast))
theorem Bl:nL X "list.pop" zw:=by
 intro pins s σ H x vs v us Q I rx rv h
 obtain⟨l,xs,y,rfl,rfl,hH,hy,q⟩:=h
 cases rx
 have hus:=rv.zero
 subst hus
 obtain⟨z,its,n,r,hl,e⟩:=I.lstM hH
 obtain⟨u,hu,ru⟩:=r.get hy
 have hy':its.toArray[its.toArray.size-1]?=some u:=by
  show its.toArray[its.length-1]?=some u
  rw[←Array.getElem?_toList,←hl]
  exact hu
 refine call_meets F.slot_list_pop ⟨_,e,rfl⟩ F.entry_list_pop (F.args_list_pop_1 _) (MeetsSeq.list_pop_last l its.toArray n u hy' (by rw[DD];omega)) ⟨e,?_⟩
 refine⟨y,_,I.lset (its':=its.dropLast) hH e ?_ r.dropLast ?_,ru,q⟩
 ·show its.toArray.eraseIdxIfInBounds (its.toArray.size-1)=its.dropLast.toArray
  rw[DD,List.eraseIdxIfInBounds_toArray,wK]
 ·rw[List.length_dropLast]
  omega
def sq:R2:=fun x y H Q=>∃l b xs zs,x=.ref l/\y=.ref b/\H l=some (.lst xs)/\H b=some (.lst zs)/\xs.length+zs.length<=sizeLine/\∀p,H p=none->Q (.ref p) (upd H p (.lst (xs++zs)))
theorem i9:bx X (binaryOp .Add) sq:=by
 intro pins s σ H x y v u Q I rx ry h
 obtain⟨l,b,xs,zs,rfl,rfl,hH,hB,hz,q⟩:=h
 cases rx
 cases ry
 obtain⟨z,its,n,r,hl,e⟩:=I.lstM hH
 obtain⟨z2,its2,n2,r2,hl2,e2⟩:=I.lstM hB
 refine PySem.P.add_list e e2 ?_ (by rw[DD,DD];omega)
 have ea:its.toArray++its2.toArray=(its++its2).toArray:=by simp
 rw[ea]
 exact⟨.ref _,_,I.lnew (t':=s.toks) (r.append r2) (by rw[DP];omega),rfl,q _ I.fresh⟩
def vK:R2:=fun x y H Q=>∃l k xs,x=.ref l/\y=.int k/\H l=some (.lst xs)/\-(2 ^ 63)<=k/\k<2 ^ 63/\xs.length*k.toNat<=sizeLine ∧
 ∀p,H p=none->Q (.ref p) (upd H p (.lst (List.replicate k.toNat xs).flatten))
theorem len_rep{α:Type}(xs:List α)(k:Nat):(List.replicate k xs).flatten.length=k*xs.length:=by
 induction k with
 | zero=>simp
 | succ k ih=>rw[List.replicate_succ,List.flatten_cons,DP,ih,Nat.succ_mul,Nat.add_comm]
theorem oK:bx X (binaryOp .Mult) vK:=by
 intro pins s σ H x y v u Q I rx ry h
 obtain⟨l,k,xs,rfl,rfl,hH,h1,h2,hz,q⟩:=h
 cases rx
 obtain⟨t,rfl⟩:=ry
 obtain⟨z,its,n,r,hl,e⟩:=I.lstM hH
 have hlen:its.toArray.size*k.toNat<=sizeLine:=by rw[DD,←hl];exact hz
 have hcap:¬its.toArray.size*k.toNat>(2 ^ 63-1) / 8:=by
  have:(sizeLine:Nat)<=(2 ^ 63-1) / 8:=by decide
  omega
 have hfit:¬(!Builtin.List.listFitsIndex k)=true:=by
  rw[fitsIndex_both h1 h2]
  exact DN
 have hlong:¬Builtin.List.listTooLong (its.toArray.size*k.toNat)=true:=by
  rw[qX hlen]
  exact DN
 have hnew:List.foldl (fun x1 x2=>x1++x2) #[] (List.replicate (if its.toArray.isEmpty=true then 0 else k.toNat) its.toArray)=(List.replicate k.toNat its).flatten.toArray:=by
  have f0:∀m:Nat,List.foldl (fun x1 x2=>x1++x2) #[] (List.replicate m its.toArray)=(List.replicate m its).flatten.toArray:=fun m=>by
   have:=foldl_rep its m []
   rw[List.nil_append]at this
   exact this
  rw[f0]
  cases its with
  | nil=>simp
  | cons a r'=>rw[if_neg (by simp)]
 refine wpAny_binaryOp_repeat_ref (T:="list") (U:="int") (by decide) ⟨_,e,rfl⟩ (fun s'=>typeIs_int s' k t) noFill_list_mul F.fills_int_mul F.slot_int_rmul repeat_list F.slot_int_index.lookup
  (call_meets F.slot_int_rmul (typeIs_int s k t) F.entry_int_rmul (F.args_int_rmul_2 _ _) (int___rmul___int_list k t l its.toArray n)
   ⟨e,rfl,⟨_,e,rfl⟩,call_meets F.slot_list_mul ⟨_,e,rfl⟩ F.entry_list_mul (F.args_list_mul_2 _ _) (AutoListH.list___mul___list_int_3 l its.toArray n k t hfit hcap hlong) ⟨e,?_⟩⟩)
 rw[hnew]
 exact⟨.ref _,_,I.lnew (t':=s.toks) (r.rep k.toNat) (by rw[len_rep,Nat.mul_comm];exact hz),rfl,q _ I.fresh⟩
end
section
variable {prog:Program} {w:World} {A:Around} {E:Value->Shared->Prop} {s:Shared}
end
section
variable {X:Cx}
end
end L2
namespace Att
open PySem PySem.W PySem.Calls PyProof.Rows
theorem CM{P:Params}{h:Heap}:∀(ns:List Int) (vs:List Value),WellAll P h vs (ns.map WData.int)->IntsAre vs ns:=by
 intro ns
 induction ns with
 | nil=>
  intro vs w
  rw[List.map_nil]at w
  cases w
  exact .nil
 | cons n ns ih=>
  intro vs w
  rw[List.map_cons]at w
  cases w with
  | cons a b=>
   cases a
   exact .cons _ _ (ih _ b)
theorem yM{l:OpenLaw}{n:Nat}(hn:l.most=some n){P:Params}{h:Heap}{args:List WData}{vals:List Value}
  (hpre:l.row.toRowW.claim.pre args=true) (hwl:WellAll P h vals args) :
  ∃a vs ns,vals=[Value.ref a]/\args=[WData.list (ns.map WData.int)]/\h.get? a=some { cls:=.type "list",data:=.seq vs.toArray }/\IntsAre vs ns/\ns.length<=n:=by
 have hsh:WShape.hasAll [] args [.list .int]=true:=(pre_splitW hpre).1
 have hc:l.pre.holds [] { args:=args }=true:=(pre_splitW hpre).2
 obtain⟨d,r,rfl,h1,h2⟩:=hasAllW_cons hsh
 obtain rfl:=hasAllW_nil h2
 obtain⟨xs,rfl,h3⟩:=hasW_list h1
 obtain⟨ns,rfl⟩:=items_int h3
 have hlen:ns.length<=n:=by
  unfold OpenLaw.pre at hc
  have h4:(WTm.not (.lt (.lit (.int (n:Int))) (.len (.arg 0)))).holds [] { args:=[.list (ns.map .int)] }=true:=by
   have h4:=(holds_andW hc).1
   rw[hn]at h4
   exact h4
  have h5:=condW_of h4 (w_not (w_lt w_lit (w_len_list (w_arg rfl))))
  rw[Dy]at h5
  refine Nat.le_of_not_lt fun q=>?_
  have q':(n:Int)<((ns.length:Nat):Int):=by omega
  first
   | (rw[decide_eq_true q']at h5;exact absurd h5 (by decide))
   | (simp at h5;omega)
 cases hwl with
 | cons w1 w2=>
  cases w2
  cases w1 with
  | list ho hall=>exact⟨_,_,ns,rfl,rfl,ho,CM ns _ hall,hlen⟩
theorem yF(l:OpenLaw)(args:List WData):l.row.toRowW.claim.post args (.bool true) args=true:=
 postW_of (r:=l.row.toRowW) (X:=(true == true))
  (show WShape.has [] (.bool true) .bool=true by first | rfl | decide | simp [WShape.has,WShape.arms,WShape.armsAll])
  (show(WTm.eq .res (.lit (.bool true))).value [] { args:=args,res:=some (.bool true),after:=args }=some (.bool (true == true))from w_eq_bool (w_res rfl) w_lit) rfl
theorem Bt{l:OpenLaw}{n:Nat}{q:Program}{loose:List Str}{XP:(Str->Option Value)->Heap->Prop}{YP:World->Heap->Prop}{d:DefRec}
  (hn:l.most=some n) (hdf:d.params.defaults=[])
  (call:∀(w:World) (s₀ s₁:Shared) (mg mb:Str->Option Value) (fa:Addr) (o:Obj) (pm cd doc:Value) (a:Addr) (vs:List Value) (ns:List Int),
   Ground q loose [] XP w s₀ mg mb s₁.heap->YP w s₁.heap →
   s₁.heap.get? fa=some o->o.data=.func (docDef d.name d.params d.body d.scope pm cd doc)->s₁.heap.CodeRec cd d.name->mg d.name=some (.ref fa) →
   s₁.heap.get? a=some { cls:=.type "list",data:=.seq vs.toArray }->IntsAre vs ns->ns.length<=n->s₁.gens = #[] →
   codeAny (model l.prog w) callerA (.call (.ref fa) ⟨[.ref a],[]⟩) (fun r s'=>r=.ok (.ret (.bool true))/\OldK s₁.heap s'.heap/\s'.os=s₁.os/\AllBare s'.gens) s₁) :
  WalkO q loose XP YP l.row.toRowW d [] (fun f vs=>PySem.call f vs):=by
 intro w s₀ s₁ mg mb G Y fa o pm cd doc dV kV ho hd hcd hD hmg hg args vals as hpre hlay hrd hwl hlo
 obtain rfl:dV=.none:=Dflts.none hD hdf
 obtain rfl:kV=.none:=Dflts.noKw hD
 obtain⟨a,vs,ns,rfl,rfl,hobj,hints,hlen⟩:=yM hn hpre hwl
 refine enter_call (codeAny_mono (call w s₀ s₁ mg mb fa o pm cd doc a vs ns G Y ho (fd_plain hd) hcd hmg hobj hints hlen hg) fun r s' hq=>?_)
 obtain⟨rfl,h2,h3,h4⟩:=hq
 exact⟨.inl ⟨.bool true,.bool true,[],rfl,fun _=>rfl,.bool true,yF l _,fun _=>⟨List.Pairwise.nil,fun _ hm=>(nomatch hm)⟩⟩,h2,h3,h4⟩
section
variable {prog:Program} {w:World} {A:Around} {E:Value->Shared->Prop} {s:Shared} {K:Frag}
end
end Att
namespace L2
open PySem PySem.Spec PyProof.Rows
theorem se:∀{vs:List Value} {ns:List Int},IntsAre vs ns->Vals (ns.map V.int) vs
 | _,_,.nil=>.nil
 | _,_,.cons n t h=>.cons ⟨t,rfl⟩ (se h)
end L2
namespace L2
open PySem PySem.Spec PyProof.Rows
end L2
namespace L2
open PySem PySem.Spec PyProof.Rows
def fm(s:Stmt):Arguments:=match s with
 | .FunctionDef _ a _ _ _ _ _ _ _ _=>a
 | _=>{ posonlyargs:=[],args:=[],vararg:=none,kwonlyargs:=[],kw_defaults:=[],kwarg:=none,defaults:=[] }
def ef(s:Stmt):List Stmt:=match s with
 | .FunctionDef _ _ b _ _ _ _ _ _ _=>b
 | _=>[]
def aI(s:Stmt):Scope:=match s with
 | .FunctionDef _ _ _ _ _ _ sc _ _ _=>sc
 | _=>{ kind:=.function,names:=[],isGenerator:=false,isCoroutine:=false }
abbrev dk:eQ:=fun _ _ _ _ _ _=>False
abbrev E0:XK:=fun _ _ _=>False
theorem zF{X:Cx}:Passes dk X E0:=fun _ _ _ _ _ _ _ h=>h.elim
structure Fun(K:Du)(x qual:Str)(st:Stmt)(f:Addr)(fd:FuncData):Prop where
 ex:∃(oc:Value) (od:Option Addr) (kV doc pm:Value) (an:Option Addr) (cdv ct:Value) (osl:Array (Option Value)),
  fd=PySem.W.fnOf x qual (fm st) (ef st) (aI st) .none kV doc pm an cdv ct/\K.lookup f=some ⟨oc,od,.func fd,osl⟩/\PySem.W.codeIn K cdv qual=true
 kp:PySem.W.keepIn K (.ref f)=true
section
variable {P:Program} {w:World} {K:Du} {mg:Str->Option Value} {base:Heap}
theorem Fun.ok{x qual:Str}{st:Stmt}{f:Addr}{fd:FuncData}{N ps:List Str}{k:Nat}{sp:Sp}(F:Fun K x qual st f fd)(S:FnScope N ps (aI st))(len:∀vs H Q E,sp vs H Q E->vs.length=ps.length)
  (hbody:∀(cdv:Value) (A:Around) (outer:List Env) (s:Shared) (H:Hp) (vs:List V) (Q:VK) (E:XK),Room k (A.deeper (envOfC qual (aI st) s.heap.objs.size f cdv))->sp vs H Q E →
   ∃t,cB (fi dk P w K mg base N qual (aI st) f cdv A outer s H E).nox (ef st) t/\t { nx:=fun _ H'=>Q .non H',rt:=Q } (start N vs) H):FnOk P w K mg base dk (k+1) f fd ps sp:=by
 obtain⟨oc,od,kV,doc,pm,an,cdv,ct,osl,rfl,lk,hcd⟩:=F.ex
 refine sE lk hcd S len fun A outer s H vs Q E hr hsp=>?_
 obtain⟨t,h,q⟩:=hbody cdv A outer s H vs Q E hr hsp
 exact⟨t,h.nox,q⟩
theorem Fun.binds{x qual:Str}{st:Stmt}{f:Addr}{fd:FuncData}{ps:List Str}(F:Fun K x qual st f fd)
  (h:∀(kV doc pm:Value) (an:Option Addr) (cdv ct:Value) (us:List Value),us.length=ps.length->bindArgs (PySem.W.fnOf x qual (fm st) (ef st) (aI st) .none kV doc pm an cdv ct) ⟨us,[]⟩=pure (ps.zip us)):Binds K fd ps []:=by
 obtain⟨oc,od,kV,doc,pm,an,cdv,ct,osl,rfl,lk,hcd⟩:=F.ex
 exact .all (h kV doc pm an cdv ct)
theorem sQ{x qual:Str}{st:Stmt}{f:Addr}{oc:Value}{od an:Option Addr}{osl:Array (Option Value)}{kV doc pm cdv ct:Value}(l:K.lookup f=some ⟨oc,od,.func (PySem.W.fnOf x qual (fm st) (ef st) (aI st) .none kV doc pm an cdv ct),osl⟩)
  (c:PySem.W.codeIn K cdv qual=true) (k:PySem.W.keepIn K (.ref f)=true):Fun K x qual st f (PySem.W.fnOf x qual (fm st) (ef st) (aI st) .none kV doc pm an cdv ct):=⟨⟨oc,od,kV,doc,pm,an,cdv,ct,osl,rfl,l,c⟩,k⟩
end
theorem fF{A:Around}{k:Nat}(hr:Room k A):A.units+1<cLine:=Nat.lt_of_le_of_lt (Nat.add_le_add_left (by decide:1<=64) _) hr.units
section
variable {X:Cx}
theorem pv(i:Nat){x:Str}{pos:Pos}(hN:X.N[i]?=some x:=by rfl)(hv:j9 X.env.scope x:=by first | exact Or.inl rfl | exact Or.inr (Or.inl rfl) | exact Or.inr (Or.inr rfl))(hd:(x == ("__debug__":Str))=false:=by decide)
  (hcd:(x == ("__classdict__":Str))=false:=by decide):PE X (.Name x pos) (mL i):=xg hN hv hd hcd
end
theorem aA{A B:Prop}(h:B):if false=true then A else B:=by
 rw[if_neg DN]
 exact h
theorem aG{A B:Prop}(h:A):if true=true then A else B:=by
 rw[if_pos rfl]
 exact h
theorem eJ{c A B:Prop}[Decidable c](h1:c->A)(h2:¬c->B):if c then A else B:=by
 by_cases h:c
 ·rw[if_pos h]
  exact h1 h
 ·rw[if_neg h]
  exact h2 h
end L2
namespace L2
open PySem PySem.Spec PyProof.Rows
structure Blk where
 s:Shared
 H:Hp
 fp:List Addr
 C:Addr
def cP(names:List (Str×NameKind))(cells:List (Str×Addr)):List (Str×Addr):=
 names.foldl (fun acc p=>if p.2 == .free then(p.1,(cells.lookup p.1).getD 0)::acc else acc) []
def Ad(sc out:Scope):Bool:=sc.names.all fun p=>p.2 != .cell && (p.2 != .local || sc.names.lookup p.1 == some .local) && (p.2 != .free || out.names.lookup p.1 == some .cell || out.names.lookup p.1 == some .free)
def jy(sc:Scope)(N:List Str)(js:List Nat):Bool:=js.all fun j=>decide (j<N.length) && (sc.names.lookup (N.getD j "") == some .free)
def cW(n:Nat)(js:List Nat)(σ:St):St:=List.replicate n none++js.map fun j=>(σ[j]?).join
theorem jH(cells:List (Str×Addr)):∀(names:List (Str×NameKind)) (acc:List (Str×Addr)) (x:Str) (c:Addr),
  (names.foldl (fun acc p=>if p.2 == .free then(p.1,(cells.lookup p.1).getD 0)::acc else acc) acc).lookup x=some c →
  ((x,NameKind.free)∈names/\c=(cells.lookup x).getD 0)\/acc.lookup x=some c
 | [],acc,x,c,h=>.inr h
 | (n,k)::r,acc,x,c,h=>by
  rw[List.foldl_cons]at h
  rcases jH cells r _ x c h with⟨h1,h2⟩ | h1
  ·exact .inl ⟨DB _ h1,h2⟩
  ·cases hk:(k == NameKind.free)with
   | false=>
    simp only[hk]at h1
    exact .inr h1
   | true=>
    simp only[hk,if_true]at h1
    rw[List.lookup_cons]at h1
    cases hx:(x == n)with
    | false=>rw[hx]at h1;exact .inr h1
    | true=>
     rw[hx]at h1
     have e1:x=n:=by simpa using hx
     have e2:k=.free:=by simpa using hk
     subst e1 e2
     exact .inl ⟨DE,(Option.some.inj h1).symm⟩
theorem uK(cells:List (Str×Addr)):∀(names:List (Str×NameKind)) (acc:List (Str×Addr)) (x:Str),
  ((x,NameKind.free)∈names\/(acc.lookup x).isSome=true)->((names.foldl (fun acc p=>if p.2 == .free then(p.1,(cells.lookup p.1).getD 0)::acc else acc) acc).lookup x).isSome=true
 | [],acc,x,h=>by
  rcases h with h | h
  ·simp at h
  ·exact h
 | (n,k)::r,acc,x,h=>by
  rw[List.foldl_cons]
  apply uK cells r
  rcases h with h | h
  ·rcases DM.mp h with e | h
   ·right
    cases e
    simp[List.lookup_cons]
   ·exact .inl h
  ·right
   cases hk:(k == NameKind.free)with
   | false=>simpa[hk]using h
   | true=>
    simp only[hk,if_true,List.lookup_cons]
    cases hx:(x == n)with
    | true=>rfl
    | false=>exact h
theorem kz{env:Env}{sc:Scope}(h:∀p∈sc.names,p.2=.free->∃c,env.cells.lookup p.1=some c):closureFor sc env=pure (cP sc.names env.cells):=by
 have go:∀(names:List (Str×NameKind)) (acc:List (Str×Addr)),(∀p∈names,p.2=NameKind.free->∃c,env.cells.lookup p.1=some c) →
   (forIn names acc fun(p:Str×NameKind) (r:List (Str×Addr))=>(match p with | (name,kind)=>if(kind == NameKind.free)=true then do let c ←cellOf env name;pure (ForInStep.yield ((name,c)::r))else pure (ForInStep.yield r):Sem _)) =
   pure (names.foldl (fun acc p=>if p.2 == .free then(p.1,(env.cells.lookup p.1).getD 0)::acc else acc) acc):=by
  intro names
  induction names with
  | nil=>intro acc _;rfl
  | cons p r ih=>
   intro acc hp
   obtain⟨n,k⟩:=p
   rw[List.forIn_cons,List.foldl_cons]
   cases hk:(k == NameKind.free)with
   | false=>
    simp only[hk,Bool.false_eq_true,if_false]
    exact ih acc fun q hq=>hp q (DB _ hq)
   | true=>
    obtain⟨c,hc⟩:=hp (n,k) DE (by simpa using hk)
    have e:cellOf env n=pure c:=by
     unfold cellOf
     rw[show env.cells.lookup n=some c from hc]
    simp only[hk,if_true,e]
    have hc':env.cells.lookup n=some c:=hc
    rw[hc']
    exact ih _ fun q hq=>hp q (DB _ hq)
 unfold closureFor cP
 have:=go sc.names [] h
 simp only[this]
 rfl
def iO(X:Cx)(ifs:List Expr)(t:TT):Prop:=
 ∀(pins:List (Addr×Obj)) (s:Shared) (σ:St) (H:Hp) (Q:Bool->Hp->Prop),Inv X pins σ H s->t σ H Q →
  wpAny (model X.prog X.w) X.A (forIn ifs true fun c r=>if r=true then do let ok ←isTrue c X.env (eval c X.env);pure (ForInStep.yield ok)else pure (ForInStep.yield r)) (TP X pins σ Q) X.xe s
def rJ:TT:=fun _ H Q=>Q true H
theorem du{X:Cx}:iO X [] rJ:=fun _ _ _ H _ I h=>wpAny_tests_nil ⟨H,I,h⟩
theorem dG{X:Cx}{c:Expr}{t:TT}(h:PT X c t):iO X [c] t:=fun pins s σ H Q I hq=>wpAny_tests_one (h pins s σ H Q I hq)
theorem zl{prog:Program}{w:World}{A:Around}{R:Result->Shared->Prop}{t0:Shared}{elt tgt iter:Expr}{ifs:List Expr}{sc:Scope}{ps:Pos}{itv acc:Value}{ce:Env}(Wd:Nat->Shared->Prop)
  (step:∀k t,Wd k t->wpAny (model prog w) A (pyNext itv) (fun got t1=>
   match got with
   | none=>R (.ok .next) t1
   | some u=>wpAny (model prog w) A (letOwnedTupleGo tgt itv u) (fun _ t2=>wpAny (model prog w) A (assign tgt ce u) (fun _ t3=>
     wpAny (model prog w) A (forIn ifs true fun c r=>if r=true then do let ok ←isTrue c ce (eval c ce);pure (ForInStep.yield ok)else pure (ForInStep.yield r)) (fun yes t4=>
      if yes=true then wpAny (model prog w) A (eval elt ce) (fun val t5=>wpAny (model prog w) A (call (.builtin "list.append") [acc,val]) (fun _ t6=>∃m,m<k/\Wd m t6) (fun _ _=>False) t5) (fun _ _=>False) t4
      else ∃m,m<k/\Wd m t4) (fun _ _=>False) t3) (fun _ _=>False) t2) (fun _ _=>False) t1) (fun _ _=>False) t)
  (k0:Nat) (start:Wd k0 t0):codeAny (model prog w) A (.compLoop (.ListComp elt [⟨tgt,iter,ifs,0⟩] sc ps) 0 itv acc ce) R t0:=by
 refine codeAny_loop rfl Wd (fun k t hW=>?turn) k0 start
 case turn=>
  have nox:∀{α:Type} {m:Sem α} {Q:α->Shared->Prop} {E:Value->Shared->Prop} {z:Shared},wpAny (model prog w) A m Q (fun _ _=>False) z->wpAny (model prog w) A m Q E z:=fun h=>wpAny_mono h (fun _ _ q=>q) fun _ _ f=>f.elim
  show wpAny _ A ((compTurn (.ListComp elt [⟨tgt,iter,ifs,0⟩] sc ps) 0 itv acc ce).onRaise (fun x=>do noteFrame x ce;theTreesLotGoes x)) _ _ t
  apply wpAny_noted
  rw[compTurn_list]
  refine Dr (wpAny_standAt (Dr (nox (wpAny_mono (step k t hW) (fun got t1 h1=>?_) fun _ _ f=>f))))
  cases got with
  | none=>exact Dt h1
  | some u=>
   refine Dr (nox (wpAny_mono h1 (fun _ t2 h2=>?_) fun _ _ f=>f))
   refine Dr (nox (wpAny_mono h2 (fun _ t3 h3=>?_) fun _ _ f=>f))
   refine Dr (nox (wpAny_mono h3 (fun yes t4 h4=>?_) fun _ _ f=>f))
   cases yes with
   | false=>
    rw[if_neg DN]at h4
    exact Dt ⟨rfl,h4⟩
   | true=>
    rw[if_pos rfl]at h4
    refine Dr (Dr (nox (wpAny_mono h4 (fun val t5 h5=>?_) fun _ _ f=>f)))
    exact Dr (nox (wpAny_mono h5 (fun _ t6 h6=>Dt (Dt ⟨rfl,h6⟩)) fun _ _ f=>f))
section
variable {X:Cx} {pins:List (Addr×Obj)} {σ:St} {H:Hp} {s:Shared}
def dN(its:List Value)(n:Nat):Obj:={ cls:=.type "list",data:=.seq its.toArray n }
theorem Dn{sc out:Scope}(h:Ad sc out=true){p:Str×NameKind}(hp:p∈sc.names)(hf:p.2=.free):out.names.lookup p.1=some .cell\/out.names.lookup p.1=some .free:=by
 have:=Ed.mp h p hp
 simp only[hf,Eg,Bool.or_eq_true,beq_iff_eq,bne_iff_ne,ne_eq,not_true,false_or]at this
 exact this.2
theorem ju{sc:Scope}{env:Env}{x:Str}:∀{names:List (Str×NameKind)} {k:NameKind},(names.map fun(p:Str×NameKind)=>match p with | (n,k)=>if(k == NameKind.free && env.scope.kind == .function && env.kindOf n == some .cell)then(n,NameKind.cell)else(n,k)).lookup x=some k →
  ∃k',names.lookup x=some k'/\(k'=k\/(k'=.free/\k=.cell))
 | [],_,h=>by simp at h
 | (n,q)::r,k,h=>by
  rw[List.map_cons]at h
  rw[List.lookup_cons]
  cases hx:(x == n)with
  | true=>
   refine⟨q,rfl,?_⟩
   by_cases hc:(q == NameKind.free && env.scope.kind == .function && env.kindOf n == some .cell)=true
   ·simp only[hc,if_true,List.lookup_cons,hx]at h
    right
    simp only[Eg,beq_iff_eq]at hc
    exact⟨hc.1.1,(Option.some.inj h).symm⟩
   ·left
    have h2:List.lookup x ((n,q)::(r.map fun(p:Str×NameKind)=>match p with | (n,k)=>if(k == NameKind.free && env.scope.kind == .function && env.kindOf n == some .cell)then(n,NameKind.cell)else(n,k)))=some k:=by
     have h3:=h
     dsimp only at h3
     rw[if_neg hc]at h3
     exact h3
    rw[List.lookup_cons,hx]at h2
    exact Option.some.inj h2
  | false=>
   have:List.lookup x (r.map fun(p:Str×NameKind)=>match p with | (n,k)=>if(k == NameKind.free && env.scope.kind == .function && env.kindOf n == some .cell)then(n,NameKind.cell)else(n,k))=some k:=by
    by_cases hc:(q == NameKind.free && env.scope.kind == .function && env.kindOf n == some .cell)=true
    ·simpa only[hc,if_true,List.lookup_cons,hx]using h
    ·dsimp only at h
     rw[if_neg hc,List.lookup_cons,hx]at h
     exact h
   exact ju (sc:=sc) this
theorem gE{names:List (Str×NameKind)}{x:Str}{k:NameKind}(h:names.lookup x=some k):(x,k)∈names:=PySem.mem_of_lookup h
theorem uC{sc:Scope}{x:Str}{cells:List (Str×Addr)}(h:(x,NameKind.free)∈sc.names):∃c,(cP sc.names cells).lookup x=some c:=
 Option.isSome_iff_exists.mp (uK cells sc.names [] x (.inl h))
theorem Inv.stk_lt(I:Inv X pins σ H s){b:Addr}(hb:b∈cK X.stack):b<s.heap.objs.size:=by
 rcases DM.mp (I.stkSub b hb)with e | h
 ·rw[e];exact I.lt
 ·obtain⟨_,o,ho,_⟩:=I.ok.funs.mem h
  exact Ea (Dx ho) I.sz
theorem Inv.cell_lt(I:Inv X pins σ H s){x:Str}{c:Addr}(h:X.env.cells.lookup x=some c):c<s.heap.objs.size:=by
 obtain⟨v,q⟩:=I.cell x c h
 exact q.lt
theorem Inv.pin_lt(I:Inv X pins σ H s){p:Addr×Obj}(h:p∈X.pn++pins):p.1<s.heap.objs.size:=Dx (I.pin p h).1
theorem vz{n:Nat}{js:List Nat}{i:Nat}{v:V}(h:(cW n js σ)[i]?=some (some v)):∃k j,i=n+k/\js[k]?=some j/\σ[j]?=some (some v):=by
 unfold cW at h
 by_cases hi:i<n
 ·rw[DW (by simpa using hi),List.getElem?_replicate]at h
  split at h<;>cases h
 ·rw[DV (by simpa using Nat.le_of_not_lt hi),List.length_replicate,DA]at h
  cases e:js[i-n]? with
  | none=>rw[e]at h;cases h
  | some j=>
   rw[e]at h
   refine⟨i-n,j,by omega,e,?_⟩
   have h':(σ[j]?).join=some v:=by simpa using h
   cases q:σ[j]? with
   | none=>rw[q]at h';cases h'
   | some o=>
    rw[q]at h'
    have:o=some v:=h'
    rw[this]
def fP(J:It)(n:Nat)(js:List Nat)(g:TG)(tc:TT)(te:TE)(σ:St)(H:Hp)(Q:VK):Prop:=
 ∃W:Nat->Nat->List V->Hp->Prop,(∃m,W 0 m [] H)/\∀i m ys H',W i m ys H' →
  (J.stop i H'/\∀p,H' p=none->Q (.ref p) (upd H' p (.lst ys))) ∨
  (J.go i H'/\ys.length<sizeLine/\∃N:List V->Hp->Prop,(∀ys' H2,N ys' H2->∃m',m'<m/\W (i+1) m' ys' H2)/\∀x H2,J.yld i H' x H2->g x (cW n js σ) H2 fun σ2 H3=>tc σ2 H3 fun b H4=>
   if b=true then te σ2 H4 fun v H5=>N (ys++[v]) H5 else N ys H4)
def ou(n:Nat)(js:List Nat)(wi:TI)(g:TG)(tc:TT)(te:TE):TE:=fun σ H Q=>wi σ H fun J H1=>fP J n js g tc te σ H1 Q
structure TurnAt(X:Cx)(tg:Expr)(J:It)(fp:List Addr)(it:Addr)(tn:Nat->Heap->Prop):Prop where
 obj:∀i h,tn i h->∀b∈fp,∃o,h.get? b=some o/\∀v,o.data≠.cell v
 keep:∀i h h',tn i h->(∀b∈fp,∀o,h.get? b=some o->h'.get? b=some o)->tn i h'
 item:∀(i:Nat) (pins:List (Addr×Obj)) (s:Shared) (σ:St) (H:Hp) (E:Value->Shared->Prop),Inv X pins σ H s->(∀b∈fp,bT X pins H b)->tn i s.heap->J.go i H →
  wpAny (model X.prog X.w) X.A (pyNext (.ref it)) (fun r s1=>∃u,r=some u ∧
   wpAny (model X.prog X.w) X.A (letOwnedTupleGo tg (.ref it) u) (fun _ s2=>∃x H',Inv X pins σ H' s2/\RelV x u/\J.yld i H x H'/\tn (i+1) s2.heap/\∀b∈fp,H' b=none) E s1) E s
 done:∀(i:Nat) (pins:List (Addr×Obj)) (s:Shared) (σ:St) (H:Hp) (E:Value->Shared->Prop),Inv X pins σ H s->(∀b∈fp,bT X pins H b)->tn i s.heap->J.stop i H →
  wpAny (model X.prog X.w) X.A (pyNext (.ref it)) (fun r s1=>r=none/\Inv X pins σ H s1) E s
 self:∀(A:Around) (i:Nat) (s:Shared) (Q:Value->Shared->Prop) (E:Value->Shared->Prop),tn i s.heap->Q (.ref it) s->wpAny (model X.prog X.w) A (pyIter (.ref it)) Q E s
theorem Turn.at_{Y:Cx}{tg:Expr}{J:It}{fp:List Addr}{it:Addr}{tn:Nat->Heap->Prop}(T:Turn Y.prog Y.w Y.K tg J fp it tn)(hc:Y.calm=true):TurnAt Y tg J fp it tn:=⟨T.obj,T.keep,T.item Y rfl rfl rfl hc,T.done Y rfl rfl rfl hc,T.self⟩
end
theorem gy{K:Du}{a:Addr}{xs:List V}{n:Nat}{js:List Nat}{g:TG}{tc:TT}{te:TE}{Q:VK}{σ:St}{H:Hp}(Pv:Nat->List V->Hp->Prop)(hz:xs.length<=sizeLine)(h0:Pv 0 [] H)(hl:∀i ys H,i<=xs.length->Pv i ys H->ag K H a xs/\ys.length<=i)
  (hs:∀i x ys H,xs[i]?=some x->Pv i ys H->g x (cW n js σ) H fun σ2 H3=>tc σ2 H3 fun b H4=>if b=true then te σ2 H4 fun v H5=>Pv (i+1) (ys++[v]) H5 else Pv (i+1) ys H4)
  (hd:∀ys H p,Pv xs.length ys H->H p=none->Q (.ref p) (upd H p (.lst ys))):fP (cZ K a) n js g tc te σ H Q:=by
 refine⟨fun i m ys H=>m=xs.length-i/\i<=xs.length/\Pv i ys H,⟨xs.length,by simp,Nat.zero_le _,h0⟩,?_⟩
 rintro i m ys H ⟨rfl,hi,p⟩
 have q:=hl i ys H hi p
 by_cases hlt:i<xs.length
 ·refine .inr ⟨⟨xs,xs[i],q.1,by simp[hlt]⟩,by have:=q.2;omega,Pv (i+1),fun ys' H' p'=>⟨xs.length-(i+1),by omega,rfl,hlt,p'⟩,fun x H' y=>?_⟩
  obtain⟨e,y⟩:=y
  subst e
  exact hs i x ys _ (y xs q.1) p
 ·have e:i=xs.length:=by omega
  subst e
  exact .inl ⟨⟨xs,q.1,DR _⟩,fun p' hp=>hd ys H p' p hp⟩
theorem ig{K:Du}{a:Addr}{xs:List V}{n:Nat}{js:List Nat}{g:TG}{tc:TT}{te:TE}{Q:VK}{σ:St}{H:Hp}(Pv:Nat->List V->Hp->Prop)(hz:xs.length<=sizeLine)(h0:Pv 0 [] H)(hl:∀i ys H,i<=xs.length->Pv i ys H->ah K H a xs/\ys.length<=i)
  (hs:∀i x ys H,xs[i]?=some x->Pv i ys H->g x (cW n js σ) H fun σ2 H3=>tc σ2 H3 fun b H4=>if b=true then te σ2 H4 fun v H5=>Pv (i+1) (ys++[v]) H5 else Pv (i+1) ys H4)
  (hd:∀ys H p,Pv xs.length ys H->H p=none->Q (.ref p) (upd H p (.lst ys))):fP (cQ K a) n js g tc te σ H Q:=by
 refine⟨fun i m ys H=>m=xs.length-i/\i<=xs.length/\Pv i ys H,⟨xs.length,by simp,Nat.zero_le _,h0⟩,?_⟩
 rintro i m ys H ⟨rfl,hi,p⟩
 have q:=hl i ys H hi p
 by_cases hlt:i<xs.length
 ·refine .inr ⟨⟨xs,xs[i],q.1,by simp[hlt]⟩,by have:=q.2;omega,Pv (i+1),fun ys' H' p'=>⟨xs.length-(i+1),by omega,rfl,hlt,p'⟩,fun x H' y=>?_⟩
  obtain⟨e,y⟩:=y
  subst e
  exact hs i x ys _ (y xs q.1) p
 ·have e:i=xs.length:=by omega
  subst e
  exact .inl ⟨⟨xs,q.1,DR _⟩,fun p' hp=>hd ys H p' p hp⟩
theorem dC{lo:Int}{N n:Nat}{js:List Nat}{g:TG}{tc:TT}{te:TE}{Q:VK}{σ:St}{H:Hp}(Pv:Nat->List V->Hp->Prop)(hz:N<=sizeLine)(h0:Pv 0 [] H)(hl:∀i ys H,i<=N->Pv i ys H->ys.length<=i)
  (hs:∀i ys H,i<N->Pv i ys H->g (.int (lo+i)) (cW n js σ) H fun σ2 H3=>tc σ2 H3 fun b H4=>if b=true then te σ2 H4 fun v H5=>Pv (i+1) (ys++[v]) H5 else Pv (i+1) ys H4)
  (hd:∀ys H p,Pv N ys H->H p=none->Q (.ref p) (upd H p (.lst ys))):fP (dn lo N) n js g tc te σ H Q:=by
 refine⟨fun i m ys H=>m=N-i/\i<=N/\Pv i ys H,⟨N,by simp,Nat.zero_le _,h0⟩,?_⟩
 rintro i m ys H ⟨rfl,hi,p⟩
 have q:=hl i ys H hi p
 by_cases hlt:i<N
 ·refine .inr ⟨hlt,by omega,Pv (i+1),fun ys' H' p'=>⟨N-(i+1),by omega,rfl,hlt,p'⟩,fun x H' y=>?_⟩
  obtain⟨e,y⟩:=y
  subst e y
  exact hs i ys _ hlt p
 ·have e:i=N:=by omega
  subst e
  exact .inl ⟨DR _,fun p' hp=>hd ys H p' p hp⟩
end L2
namespace L2
open PySem PySem.Spec PyProof.Rows
structure Cal(P:Program)(w:World)(K:Du)(mg:Str->Option Value)(base:Heap)(x:Str)(k:Nat)(ps:List Str)(sp:Sp):Prop where
 ex:∃(f:Addr) (fd:FuncData),mg x=some (.ref f)/\PySem.W.keepIn K (.ref f)=true/\Binds K fd ps []/\FnOk P w K mg base dk k f fd ps sp
structure Dfn(K:Du)(mg:Str->Option Value)(x:Str)(st:Stmt)(ps:List Str):Prop where
 ex:∃(f:Addr) (fd:FuncData),mg x=some (.ref f)/\Fun K x x st f fd/\Binds K fd ps []
section
variable {P:Program} {w:World} {K:Du} {mg:Str->Option Value} {base:Heap}
theorem Dfn.ok{x:Str}{st:Stmt}{N ps:List Str}{k:Nat}{sp:Sp}(D:Dfn K mg x st ps)(S:FnScope N ps (aI st))(len:∀vs H Q E,sp vs H Q E->vs.length=ps.length)
  (hbody:∀(X:Cx) (hX:∃f cdv A outer s H E,X=(fi dk P w K mg base N x (aI st) f cdv A outer s H E).nox/\Room k X.A) (H:Hp) (vs:List V) (Q:VK) (E:XK),sp vs H Q E →
   ∃t,cB X (ef st) t/\t { nx:=fun _ H'=>Q .non H',rt:=Q } (start N vs) H):Cal P w K mg base x (k+1) ps sp:=by
 obtain⟨f,fd,hm,F,hb⟩:=D.ex
 exact⟨f,fd,hm,F.kp,hb,F.ok S len fun cdv A outer s H vs Q E hr h=>hbody _ ⟨f,cdv,A,outer,s,H,E,rfl,hr⟩ H vs Q E h⟩
end
section
variable {X:Cx}
theorem aC{x:Str}{k j:Nat}{ps:List Str}{sp:Sp}{e:Expr}{es:List Expr}{t:TA}{p pos:Pos}(C:Cal X.prog X.w X.K X.mg X.base x j ps sp)(hr:Room k X.A)(ha:PA X (e::es) t)(hjk:j<=k:=by decide)(hg:Gl X x:=by rfl)(hdb:(x == ("__debug__":Str))=false:=by decide)
  (he:starEach (e::es) X.env=(false,eval e X.env)::starEach es X.env:=by rfl) (hpl:(backTo pos (starEach es X.env)).any (·.1)=false:=by rfl) :
  PE X (.Call (.Name x p) (e::es) [] pos) (jJ sp [] E0 t):=by
 obtain⟨f,fd,hm,hk,hb,F⟩:=C.ex
 exact wW F (hr.mono hjk) hg hm hk hb .nil zF ha hdb he hpl
theorem vq:bx X (binaryOp .FloorDiv) (rI (fun _ j=>0<j/\j<2 ^ 64) fun i j=>.int (i / j)):=jA fun i j _ _ _ _ _ hc q=>by
 have h1:(0:Int)<j:=hc.1
 have h2:j<2 ^ 64:=hc.2
 refine floordiv_int (by omega) (by rw[Int.fdiv_eq_ediv_of_nonneg i (by omega)];exact q) (.inl (PyProof.noPylong_of_log2 ?_))
 have h0:j.natAbs≠0:=by omega
 have h64:j.natAbs<2 ^ 64:=by omega
 have:=(Nat.log2_lt h0).mpr h64
 omega
def eG(H:Hp):V->String->Prop
 | .non,n=>n = "NoneType"
 | .bl _,n=>n = "bool"
 | .int _,n=>n = "int"
 | .str _,n=>n = "str"
 | .ref a,n=>(n = "list"/\∃xs,H a=some (.lst xs))\/(n = "tuple"/\∃xs,H a=some (.tup xs))
 | _,_=>False
theorem eG.ty{K:Du}{H:Hp}{x:V}{n:String}(h:eG H x n):TyOf K H x (.type n):=by
 cases x with
 | non=>cases(show n = "NoneType" from h);exact .non
 | bl b=>cases(show n = "bool" from h);exact .bl b
 | int i=>cases(show n = "int" from h);exact .int i
 | str z=>cases(show n = "str" from h);exact .str z
 | ref a=>
  rcases h with⟨rfl,xs,e⟩ | ⟨rfl,xs,e⟩
  ·exact .lst e
  ·exact .tup e
 | _=>exact False.elim h
def g8:String->String->Option Bool
 | "NoneType","tuple"=>some false | "NoneType","int"=>some false | "NoneType","bool"=>some false | "NoneType","list"=>some false | "NoneType","str"=>some false
 | "bool","tuple"=>some false | "bool","int"=>some true | "bool","bool"=>some true | "bool","list"=>some false | "bool","str"=>some false
 | "int","tuple"=>some false | "int","int"=>some true | "int","bool"=>some false | "int","list"=>some false | "int","str"=>some false
 | "str","tuple"=>some false | "str","int"=>some false | "str","bool"=>some false | "str","list"=>some false | "str","str"=>some true
 | "list","tuple"=>some false | "list","int"=>some false | "list","bool"=>some false | "list","list"=>some true | "list","str"=>some false
 | "tuple","tuple"=>some true | "tuple","int"=>some false | "tuple","bool"=>some false | "tuple","list"=>some false | "tuple","str"=>some false
 | _,_=>none
theorem zL{K:Du}{n T:String}{b:Bool}(h:g8 n T=some b):PySem.W.kitOne K (.type n) (.type T)=some b:=by
 unfold g8 at h
 split at h<;>first
  | (cases h;kernel_rfl)
  | cases h
def vf:List V->Hp->VK->Prop:=fun xs H Q=>∃x n T b,xs=[x,.ty T]/\eG H x n/\g8 n T=some b/\Q (.bl b) H
theorem cS:bO X (.builtin "isinstance") vf:=by
 intro pins s σ H xs us Q I r h
 obtain⟨x,n,T,b,rfl,hk,hb,q⟩:=h
 obtain⟨u,w',rfl,r1,r2⟩:=vals2 r
 cases(show w'=Value.type T from r2)
 exact zj I r1 hk.ty (zL hb) fun tk=>⟨.bl b,H,I.tok tk,rfl,q⟩
def kh(K:Du):List V->Hp->VK->Prop:=fun xs H Q=>∃p ys,xs=[.ref p]/\(ag K H p ys\/ah K H p ys)/\Q (.int ys.length) H
theorem yD:bO X (.builtin "len") (kh X.K):=yL
def kB(K:Du):List V->Hp->VK->Prop:=fun xs H Q=>∃p ys,xs=[.ref p]/\((ag K H p ys/\∀l,H l=none->Q (.ref l) (upd H l (.tup ys)))\/(ah K H p ys/\Q (.ref p) H))
theorem CV:bO X (.type "tuple") (kB X.K):=Ar
def rO(K:Du):List V->Hp->VK->Prop:=fun xs H Q=>∃p ys,xs=[.ref p]/\(ag K H p ys\/ah K H p ys)/\∀l,H l=none->Q (.ref l) (upd H l (.lst ys))
theorem Bo:bO X (.type "list") (rO X.K):=zd
def o4:List V->Hp->VK->Prop:=fun xs H Q=>∃i j,xs=[.int i,.int j]/\Q (.int (if j>i then j else i)) H
theorem vW(hc:X.calm=true):bO X (.builtin "max") o4:=Bi hc
def sP:List V->Hp->VK->Prop:=fun xs H Q=>∃i j,xs=[.int i,.int j]/\Q (.int (if j<i then j else i)) H
theorem Ca(hc:X.calm=true):bO X (.builtin "min") sP:=AR hc
end
end L2
namespace L2
open PySem PySem.Spec PyProof.Rows
def Ext(H H':Hp):Prop:=∀b o,H b=some o->H' b=some o
theorem Ext.rfl'(H:Hp):Ext H H:=fun _ _ h=>h
theorem Ext.trans{H H1 H2:Hp}(a:Ext H H1)(b:Ext H1 H2):Ext H H2:=fun x o h=>b x o (a x o h)
theorem Ext.none{H H':Hp}(e:Ext H H'){l:Addr}(h:H' l=Option.none):H l=Option.none:=by
 cases q:H l with
 | none=>rfl
 | some o=>rw[e l o q]at h;cases h
section
variable {X:Cx} (K:Du)
theorem aJ(h:X.K=K:=by rfl):gG X (oR K):=by subst h;exact zV
theorem ay(h:X.K=K:=by rfl):gG X (kx K):=by subst h;exact Dk
theorem iz(h:X.K=K:=by rfl):iL X (mZ K):=by subst h;exact Ak
theorem jW(h:X.K=K:=by rfl):bx X (compareOp .In) (nM K false):=by subst h;exact y9
theorem cF(h:X.K=K:=by rfl):bO X (.builtin "len") (kh K):=by subst h;exact yD
theorem iD(h:X.K=K:=by rfl):bO X (.type "tuple") (kB K):=by subst h;exact CV
theorem CJ(h:X.K=K:=by rfl):bO X (.type "list") (rO K):=by subst h;exact Bo
theorem cJ{tg l:Expr}{tl:TE}(hl:PE X l tl)(h:X.K=K:=by rfl):PI X tg l (nZ K tl):=by subst h;exact yr hl
theorem fH{tg l:Expr}{tl:TE}(hl:PE X l tl)(h:X.K=K:=by rfl):PI X tg l (kK K tl):=by subst h;exact xh hl
theorem gY{es:List Expr}{k:Nat}{t:dv}{n:Nat}{pos:Pos}(hc:X.calm=true)(hg:gN X es t)(h:X.K=K:=by rfl)
  (hn:(assignEach es X.env).length=n:=by rfl) (hst:(assignEach es X.env).findIdx? (·.1)=none:=by rfl):PG X (.Tuple es k pos) (mT K n t):=by subst h;exact Dl hc hg hn hst
theorem bN{o e:Expr}{es:List Expr}{to:TE}{t:TA}{name:Str}{apos cpos:Pos}{T id:String}{r:V->List V->Hp->VK->Prop}(pa:PlainAttrs T)(slot:Slot T name id)(hty:typeOf (.builtin id)=pure (.type "method_descriptor"))(hm:iA X id r)(ho:PE X o to)(ha:PA X (e::es) t)(h:X.K=K:=by rfl)
  (hbase:attributeBase o name X.env (eval o X.env)=eval o X.env:=by rfl)
  (hfew:((backTo cpos (starEach (e::es) X.env)).all (fun x=>!x.1) && (backToKw cpos (keywordEach [] X.env)).all (fun x=>x.1.isSome)
   && decide ((e::es).length+([]:List Keyword).length+(if([]:List Keyword).isEmpty then 0 else 1)<30))=true:=by rfl)
  (hline:(apos.endLine == cpos.line)=true:=by rfl) (hs:starEach (e::es) X.env=(false,eval e X.env)::starEach es X.env:=by rfl) (hplain:(backTo cpos (starEach es X.env)).any (·.1)=false:=by rfl) :
  PE X (.Call (.Attribute o name apos) (e::es) [] cpos) (nG K T r to t):=by subst h;exact B9 pa slot hty hm ho ha hbase hfew hline hs hplain
end
def uN(ns:List Int):TA:=fun _ H Q=>Q (ns.map V.int) H
inductive IntsE:List Expr->List Int->Prop
 | n:IntsE [] []
 | c {i j pos es ns}:IntsE es ns->IntsE (.Constant (.int i) j pos::es) (i::ns)
theorem i5{X:Cx}{es:List Expr}{ns:List Int}(h:IntsE es ns):PA X es (uN ns):=by
 induction h with
 | n=>exact af
 | @c i j pos es ns _ ih=>
  intro p pins s σ H Q I hq
  exact aa (e:=.Constant (.int i) j pos) ae ih rfl p pins s σ H Q I hq
theorem rd_ints{σ:St}{H:Hp}{ns:List Int}{R:List V->Hp->Prop}(h:R (ns.map V.int) H):uN ns σ H R:=h
def lj(c:TT)(t u:TS):TS:=fun D σ H=>∃R:St->Hp->Prop,(c σ H fun b H1=>if b=true then t { D with nx:=R } σ H1 else u { D with nx:=R } σ H1)/\∀σ' H',R σ' H'->D.nx σ' H'
theorem de{X:Cx}{c:Expr}{a b:List Stmt}{tc:TT}{t u:TS}{pos:Pos}(hc:PT X c tc)(ha:cB X a t)(hb:cB X b u):PS X (.If c a b pos) (lj tc t u):=by
 intro pins s σ H D I h
 obtain⟨R,h,hR⟩:=h
 refine av (bp hc ha hb pins s σ H { D with nx:=R } I h) fun f s1 q=>?_
 cases f with
 | next=>
  obtain⟨σ',H',I',q⟩:=q
  exact⟨σ',H',I',hR σ' H' q⟩
 | ret v=>exact q
 | brk=>exact q
 | cont=>exact q
def u9(K:Du):V->Hp->(It->Hp->Prop)->Prop:=fun x H R=>∃a,x=.ref a/\(∃xs,ag K H a xs)/\R (cZ K a) H
def sH(K:Du):V->Hp->(It->Hp->Prop)->Prop:=fun x H R=>∃a,x=.ref a/\(∃xs,ah K H a xs)/\R (cQ K a) H
def rV:List V->Hp->(It->Hp->Prop)->Prop:=fun vs H R=>∃j:Int,vs=[.int j]/\-(2 ^ 62)<=j/\j<2 ^ 62/\R (dn 0 j.toNat) H
def va:List V->Hp->(It->Hp->Prop)->Prop:=fun vs H R=>∃i j:Int,vs=[.int i,.int j]/\(-(2 ^ 62)<=i/\i<2 ^ 62/\-(2 ^ 62)<=j/\j<2 ^ 62)/\R (dn i (j-i).toNat) H
def jE(J:It)(g:TG)(tb:TS)(D:Ends)(σ:St)(H:Hp):Prop:=∃W:Nat->Nat->St->Hp->Prop,(∃m,W 0 m σ H)/\∀i m σ H,W i m σ H →
 (J.stop i H/\D.nx σ H)\/(J.go i H/\∃N:St->Hp->Prop,(∀σ' H',N σ' H'->∃m',m'<m/\W (i+1) m' σ' H')/\∀x H',J.yld i H x H'->g x σ H' fun σ2 H2=>tb { D with nx:=N,ct:=N,bk:=D.nx } σ2 H2)
theorem forL{K:Du}{a:Addr}{xs:List V}{g:TG}{tb:TS}{D:Ends}{σ:St}{H:Hp}(Pv:Nat->St->Hp->Prop)(h0:Pv 0 σ H)(hl:∀i σ H,i<=xs.length->Pv i σ H->ag K H a xs)
  (hs:∀i x σ H,xs[i]?=some x->Pv i σ H->g x σ H fun σ2 H2=>tb ⟨Pv (i+1),D.rt,D.nx,Pv (i+1)⟩ σ2 H2) (hd:∀σ H,Pv xs.length σ H->D.nx σ H):jE (cZ K a) g tb D σ H:=BR Pv h0 hl hs hd
theorem oE{K:Du}{a:Addr}{xs:List V}{g:TG}{tb:TS}{D:Ends}{σ:St}{H:Hp}(Pv:Nat->St->Hp->Prop)(h0:Pv 0 σ H)(hl:∀i σ H,i<=xs.length->Pv i σ H->ah K H a xs)
  (hs:∀i x σ H,xs[i]?=some x->Pv i σ H->g x σ H fun σ2 H2=>tb ⟨Pv (i+1),D.rt,D.nx,Pv (i+1)⟩ σ2 H2) (hd:∀σ H,Pv xs.length σ H->D.nx σ H):jE (cQ K a) g tb D σ H:=xq Pv h0 hl hs hd
theorem forR{lo:Int}{n:Nat}{g:TG}{tb:TS}{D:Ends}{σ:St}{H:Hp}(Pv:Nat->St->Hp->Prop)(h0:Pv 0 σ H)
  (hs:∀i σ H,i<n->Pv i σ H->g (.int (lo+i)) σ H fun σ2 H2=>tb ⟨Pv (i+1),D.rt,D.nx,Pv (i+1)⟩ σ2 H2) (hd:∀σ H,Pv n σ H->D.nx σ H):jE (dn lo n) g tb D σ H:=Cz Pv h0 hs hd
def eA(H:Hp)(o:HO)(R:VK):Prop:=∀p,H p=none->R (.ref p) (upd H p o)
section
variable {K:Du} {D:Ends} {σ:St} {H:Hp} {Q:VK} {ta tb tc te:TE} {t u:TS} {c c':TT}
theorem rd_seq(h:t ⟨u D,D.rt,D.bk,D.ct⟩ σ H):tj t u D σ H:=h
theorem rd_next(h:D.nx σ H):uc D σ H:=h
theorem rd_ret(h:te σ H D.rt):qN te D σ H:=h
theorem rd_asg{g:TG}(h:te σ H fun x H1=>g x σ H1 D.nx):jK te g D σ H:=h
theorem rd_drop(h:te σ H fun _ H1=>D.nx σ H1):sA te D σ H:=h
theorem rd_ifS(h:c σ H fun b H1=>if b=true then t D σ H1 else u D σ H1):qh c t u D σ H:=h
theorem hV(R:St->Hp->Prop)(h:c σ H fun b H1=>if b=true then t ⟨R,D.rt,D.bk,D.ct⟩ σ H1 else u ⟨R,D.rt,D.bk,D.ct⟩ σ H1)(k:∀σ' H',R σ' H'->D.nx σ' H'):lj c t u D σ H:=⟨R,h,k⟩
theorem fk(h:c σ H fun b H1=>if b=true then t D σ H1 else u D σ H1):lj c t u D σ H:=⟨D.nx,h,fun _ _ h=>h⟩
theorem rd_name{i:Nat}{v:V}{R:St->Hp->Prop}(h:R (σ.set i (some v)) H):jl i v σ H R:=h
theorem rd_var{i:Nat}{v:V}(e:σ[i]?=some (some v))(h:Q v H):mL i σ H Q:=⟨v,e,h⟩
theorem rd_c{v:V}(h:Q v H):tC v σ H Q:=h
theorem rd_op{r:R2}(h:ta σ H fun x H1=>tb σ H1 fun y H2=>r x y H2 Q):gm r ta tb σ H Q:=h
theorem rd_un{r:V->Hp->VK->Prop}(h:ta σ H fun x H1=>r x H1 Q):ub r ta σ H Q:=h
theorem rd_CB{r:List V->Hp->VK->Prop}{a:TA}(h:a σ H fun vs H1=>r vs H1 Q):ke r a σ H Q:=h
theorem rd_cons{a:TA}{R:List V->Hp->Prop}(h:ta σ H fun x H1=>a σ H1 fun xs H2=>R (x::xs) H2):mS ta a σ H R:=h
theorem rd_nil{R:List V->Hp->Prop}(h:R [] H):ml σ H R:=h
theorem rd_test{R:Bool->Hp->Prop}(h:te σ H fun x H'=>∃k,x=.bl k/\R k H'):kJ te σ H R:=h
theorem rd_B{R:Bool->Hp->Prop}(h:te σ H fun x H'=>∃k,x=.bl k/\R k H'):tB te σ H R:=h
theorem rd_exb{b:Bool}{R:Bool->Prop}(h:R b):∃k,V.bl b=V.bl k/\R k:=⟨b,rfl,h⟩
theorem rd_not{R:Bool->Hp->Prop}(h:c σ H fun b H1=>R (!b) H1):oZ c σ H R:=h
theorem rd_and{R:Bool->Hp->Prop}(h:c σ H fun b H1=>if b=true then c' σ H1 R else R false H1):uO c c' σ H R:=h
theorem rd_or{R:Bool->Hp->Prop}(h:c σ H fun b H1=>if b=true then R true H1 else c' σ H1 R):pF c c' σ H R:=h
theorem rd_andV(h:ta σ H fun x H1=>∃k,x=.bl k/\if k=true then tb σ H1 Q else Q (.bl false) H1):vZ ta tb σ H Q:=h
theorem rd_orV(h:ta σ H fun x H1=>∃k,x=.bl k/\if k=true then Q (.bl true) H1 else tb σ H1 Q):v8 ta tb σ H Q:=h
theorem rd_notV(h:ta σ H fun x H1=>∃k,x=.bl k/\Q (.bl (!k)) H1):vL ta σ H Q:=h
theorem rd_yes{R:Bool->Hp->Prop}(h:R true H):rJ σ H R:=h
theorem rd_I0{g:Int->Int->V}{i j:Int}(h:Q (g i j) H):eV g (.int i) (.int j) H Q:=⟨i,j,rfl,rfl,h⟩
theorem rd_I{C:Int->Int->Prop}{g:Int->Int->V}{i j:Int}(hc:C i j)(h:Q (g i j) H):rI C g (.int i) (.int j) H Q:=⟨i,j,rfl,rfl,hc,h⟩
theorem rd_U{g:Int->V}{i:Int}(h:Q (g i) H):rU g (.int i) H Q:=⟨i,rfl,h⟩
theorem rd_EqI{i j:Int}(h:Q (.bl (decide (i=j))) H):jM (.int i) (.int j) H Q:=⟨rfl,by
 have e:decide (V.int i=V.int j)=decide (i=j):=by rw[Ef];simp
 rw[e];exact h⟩
theorem rd_NeI{i j:Int}(h:Q (.bl (!decide (i=j))) H):oC (.int i) (.int j) H Q:=⟨rfl,by
 have e:decide (V.int i=V.int j)=decide (i=j):=by rw[Ef];simp
 rw[e];exact h⟩
theorem rd_EqB{i j:Bool}(h:Q (.bl (i == j)) H):jM (.bl i) (.bl j) H Q:=⟨rfl,by rw[my];exact h⟩
theorem aK{p:Addr}{xs:List V}{i:Int}{v:V}(e:ag K H p xs)(a:bt xs i=some v)(h:Q v H):oR K (.ref p) (.int i) H Q:=⟨p,xs,i,v,rfl,rfl,e,a,h⟩
theorem az{p:Addr}{xs:List V}{i:Int}{v:V}(e:ah K H p xs)(a:bt xs i=some v)(h:Q v H):kx K (.ref p) (.int i) H Q:=⟨p,xs,i,v,rfl,rfl,e,a,h⟩
theorem eo{p:Addr}{xs:List V}(e:ag K H p xs)(h:Q (.int xs.length) H):kh K [.ref p] H Q:=⟨p,xs,rfl,.inl e,h⟩
theorem gU{p:Addr}{xs:List V}(e:ah K H p xs)(h:Q (.int xs.length) H):kh K [.ref p] H Q:=⟨p,xs,rfl,.inr e,h⟩
theorem iB{p:Addr}{xs:List V}(e:ag K H p xs)(h:eA H (.tup xs) Q):kB K [.ref p] H Q:=⟨p,xs,rfl,.inl ⟨e,h⟩⟩
theorem cV{x:V}{n T:String}{b:Bool}(hk:eG H x n)(hb:g8 n T=some b)(h:Q (.bl b) H):vf [x,.ty T] H Q:=⟨x,n,T,b,rfl,hk,hb,h⟩
theorem rd_max2{i j:Int}(h:Q (.int (if j>i then j else i)) H):o4 [.int i,.int j] H Q:=⟨i,j,rfl,h⟩
theorem rd_min2{i j:Int}(h:Q (.int (if j<i then j else i)) H):sP [.int i,.int j] H Q:=⟨i,j,rfl,h⟩
theorem rd_call{sp:Sp}{a:TA}{E:XK}(h:a σ H fun vs H1=>sp (vs++[]) H1 Q E):jJ sp [] E a σ H Q:=h
theorem rd_BM{T:String}{r:V->List V->Hp->VK->Prop}{a:TA}(h:te σ H fun x H1=>fS K T x H1/\a σ H1 fun xs H2=>r x xs H2 Q):nG K T r te a σ H Q:=h
theorem rd_tup{a:TA}(h:a σ H fun xs H1=>xs.length<=sizeLine/\eA H1 (.tup xs) Q):oG a σ H Q:=h
theorem rd_lst{a:TA}(h:a σ H fun xs H1=>xs.length<=sizeLine/\eA H1 (.lst xs) Q):wb a σ H Q:=h
theorem rd_sl{r:V->Option Int->Option Int->Hp->VK->Prop}{tl th:TO}(h:te σ H fun x H1=>tl σ H1 fun l H2=>th σ H2 fun v H3=>r x l v H3 Q):qP r te tl th σ H Q:=h
theorem rd_noPart{R:Option Int->Hp->Prop}(h:R none H):uW σ H R:=h
theorem rd_part{R:Option Int->Hp->Prop}(h:te σ H fun x H1=>∃i,x=.int i/\R (some i) H1):qB te σ H R:=h
theorem rd_exi{i:Int}{R:Int->Prop}(h:R i):∃k,V.int i=V.int k/\R k:=⟨i,rfl,h⟩
theorem rd_chain{r r':R2}(h:ta σ H fun x H1=>tb σ H1 fun y H2=>r x y H2 fun z H3=>∃k,z=.bl k/\(if k=true then tc σ H3 fun w' H4=>r' y w' H4 Q else Q (.bl false) H3)):oh r r' ta tb tc σ H Q:=h
theorem rd_comp{n:Nat}{js:List Nat}{wi:TI}{g:TG}(h:wi σ H fun J H1=>fP J n js g c te σ H1 Q):ou n js wi g c te σ H Q:=h
theorem rd_iL{R:It->Hp->Prop}(h:te σ H fun x H1=>u9 K x H1 R):nZ K te σ H R:=h
theorem rd_iT{R:It->Hp->Prop}(h:te σ H fun x H1=>sH K x H1 R):kK K te σ H R:=h
theorem cI{p:Addr}{xs:List V}{R:It->Hp->Prop}(e:ag K H p xs)(h:R (cZ K p) H):u9 K (.ref p) H R:=⟨p,rfl,⟨xs,e⟩,h⟩
theorem ft{p:Addr}{xs:List V}{R:It->Hp->Prop}(e:ah K H p xs)(h:R (cQ K p) H):sH K (.ref p) H R:=⟨p,rfl,⟨xs,e⟩,h⟩
theorem rd_i1{a:TA}{R:It->Hp->Prop}(h:a σ H fun vs H1=>rV vs H1 R):qQ a σ H R:=h
theorem bS{j:Int}{R:It->Hp->Prop}(h1:-(2 ^ 62)<=j/\j<2 ^ 62)(h:R (dn 0 j.toNat) H):rV [.int j] H R:=⟨j,rfl,h1.1,h1.2,h⟩
theorem rd_i2{a:TA}{R:It->Hp->Prop}(h:a σ H fun vs H1=>va vs H1 R):pR a σ H R:=h
theorem vA{i j:Int}{R:It->Hp->Prop}(h1:-(2 ^ 62)<=i/\i<2 ^ 62/\-(2 ^ 62)<=j/\j<2 ^ 62)(h:R (dn i (j-i).toNat) H):va [.int i,.int j] H R:=⟨i,j,rfl,h1,h⟩
theorem rd_for{wi:TI}{g:TG}(h:wi σ H fun J H1=>jE J g t D σ H1):qL wi g t D σ H:=h
theorem bV{l:Addr}{xs:List V}{y:V}(e:H l=some (.lst xs))(hz:xs.length<sizeLine)(h:Q .non (upd H l (.lst (xs++[y])))):sR (.ref l) [y] H Q:=⟨l,xs,y,rfl,rfl,e,hz,h⟩
theorem df{p:Addr}{xs:List V}(e:ag K H p xs):fS K "list" (.ref p) H:=.inl ⟨rfl,xs,e⟩
theorem rd_sub{to ti:TE}{w:jv}{v:V}{R:St->Hp->Prop}(h:to σ H fun o H1=>ti σ H1 fun i H2=>w o i v H2 fun H3=>R σ H3):sY to ti w v σ H R:=h
theorem iq{p:Addr}{xs:List V}{k:Int}{j:Nat}{v:V}{R:Hp->Prop}(e:H p=some (.lst xs))(a:ee xs.length k=some j)(h:R (upd H p (.lst (xs.set j v)))):vk (.ref p) (.int k) v H R:=⟨p,xs,k,j,rfl,rfl,e,a,h⟩
theorem f6{n:Nat}{g:dv}{a:Addr}{xs:List V}{R:St->Hp->Prop}(e:ah K H a xs)(hl:xs.length=n)(h:g xs σ H R):mT K n g (.ref a) σ H R:=⟨a,xs,rfl,e,hl,h⟩
theorem rd_gcons{g:TG}{gs:dv}{v:V}{r:List V}{R:St->Hp->Prop}(h:g v σ H fun σ' H'=>gs r σ' H' R):o6 g gs (v::r) σ H R:=⟨v,r,rfl,h⟩
theorem rd_gnil{R:St->Hp->Prop}(h:R σ H):sW [] σ H R:=⟨rfl,h⟩
theorem jg{l b:Addr}{xs zs:List V}(e1:H l=some (.lst xs))(e2:H b=some (.lst zs))(hz:xs.length+zs.length<=sizeLine)(h:eA H (.lst (xs++zs)) Q):sq (.ref l) (.ref b) H Q:=⟨l,b,xs,zs,rfl,rfl,e1,e2,hz,h⟩
theorem mD{l:Addr}{k:Int}{xs:List V}(e:H l=some (.lst xs))(hk:0<=k/\k<10 ^ 6)(hz:xs.length*k.toNat<=sizeLine)(h:eA H (.lst (List.replicate k.toNat xs).flatten) Q):vK (.ref l) (.int k) H Q:=
 ⟨l,k,xs,rfl,rfl,e,by omega,by omega,hz,h⟩
theorem iM{a:Addr}{xs:List V}{lo hi:Option Int}(e:ag K H a xs)(h:eA H (.lst (bX xs lo hi)) Q):mZ K (.ref a) lo hi H Q:=⟨a,xs,rfl,e,h⟩
theorem jU{neg:Bool}{x:V}{p:Addr}{xs:List V}(e:ag K H p xs\/ah K H p xs)(f:dX x=true)(fs:xs.all dX=true)(h:Q (.bl (if neg then !ie x xs else ie x xs)) H):nM K neg x (.ref p) H Q:=⟨p,xs,rfl,e,f,fs,h⟩
theorem cj{o:HO}{R:VK}(h:∀p H',Ext H H'->H' p=some o->H p=none->R (.ref p) H'):eA H o R:=fun p hp=>
 h p _ (fun b u e=>by rw[aB (cw e hp)];exact e) aH hp
theorem aZ{p:Addr}{o:HO}(hp:H p=none):Ext H (upd H p o):=fun b u e=>by rw[aB (cw e hp)];exact e
theorem ag.ext{H':Hp}{p:Addr}{xs:List V}(e:Ext H H')(h:ag K H p xs):ag K H' p xs:=by
 rcases h with(h | ⟨o,h⟩) | h
 ·exact .inl (.inl (e _ _ h))
 ·exact .inl (.inr ⟨o,e _ _ h⟩)
 ·exact .inr h
end
theorem dI{α:Type}{xs:List α}{i:Int}{v:α}(h0:0<=i)(h:xs[i.toNat]?=some v):bt xs i=some v:=by
 have:=eW h
 rwa [DL h0]at this
theorem iW{n:Nat}{i:Int}(h0:0<=i)(h:i<n):ee n i=some i.toNat:=by unfold ee;rw[if_pos h0,if_pos h]
end L2
namespace L2
open PySem PySem.Spec PyProof.Rows
def dE:V->PyData->Prop
 | .non,.none=>True
 | .bl b,.bool c=>b=c
 | .int i,.int j=>i=j
 | .str x,.str y=>x=y/\(PyData.str y).canLay0=true
 | _,_=>False
def aU(H:Hp):Nat->V->PyData->Prop
 | 0,x,d=>dE x d
 | n+1,x,d=>dE x d\/∃a xs ds,x=.ref a/\((H a=some (.tup xs)/\d=.tuple ds)\/(H a=some (.lst xs)/\d=.list ds))/\Paired (aU H n) xs ds
section
variable {X:Cx} {pins:List (Addr×Obj)} {σ:St} {H:Hp} {s:Shared}
theorem dE.reads{x:V}{d:PyData}{u:Value}(h:dE x d)(r:RelV x u):∃as,Reads s.heap u d as:=by
 cases x with
 | non=>cases d<;>first | exact False.elim h | (cases r;exact⟨_,.none⟩)
 | bl b=>cases d<;>first | exact False.elim h | (cases(show b=_ from h);cases r;exact⟨_,.bool _⟩)
 | int i=>cases d<;>first | exact False.elim h | (cases(show i=_ from h);obtain⟨t,rfl⟩:=r;exact⟨_,.int _ t⟩)
 | str z=>cases d<;>first | exact False.elim h | (cases(show z=_/\_ from h).1;obtain⟨t,rfl⟩:=r;exact⟨_,.str _ t⟩)
 | _=>cases d<;>exact False.elim h
theorem dE.lay{x:V}{d:PyData}(h:dE x d):d.canLay0=true/\d.depth=0:=by
 cases x<;>cases d<;>first | exact False.elim h | exact ⟨rfl,rfl⟩ | exact ⟨h.2,rfl⟩
theorem nN{R:V->PyData->Prop}(ih:∀{x:V} {d:PyData} {u:Value},R x d->RelV x u->∃as,Reads s.heap u d as):∀{xs:List V} {ds:List PyData} {us:List Value},Paired R xs ds->Vals xs us->∃as,ReadsAll s.heap us ds as
 | _,_,_,.nil,.nil=>⟨_,.nil⟩
 | _,_,_,.cons h t,.cons r rt=>by
  obtain⟨as,ha⟩:=ih h r
  obtain⟨bs,hb⟩:=nN ih t rt
  exact⟨_,.cons ha hb⟩
theorem aU.reads(I:Inv X pins σ H s):∀(n:Nat) {x:V} {d:PyData} {u:Value},aU H n x d->RelV x u->∃as,Reads s.heap u d as
 | 0,_,_,_,h,r=>dE.reads h r
 | n+1,x,d,u,h,r=>by
  rcases h with h | ⟨a,xs,ds,rfl,hh,hp⟩
  ·exact dE.reads h r
  ·cases r
   rcases hh with⟨e,rfl⟩ | ⟨e,rfl⟩
   ·obtain⟨its,rv,⟨o,ho,hc,k,hd⟩,_⟩:=I.tuple (ah.of e)
    obtain⟨as,ha⟩:=nN (fun{x d u}=>aU.reads I n) hp rv
    exact⟨_,.tuple ho hc hd (by simpa using ha)⟩
   ·obtain⟨its,k,rv,ho,_⟩:=I.lst e
    obtain⟨as,ha⟩:=nN (fun{x d u}=>aU.reads I n) hp rv
    exact⟨_,.list ho rfl rfl (by simpa using ha)⟩
theorem i6{R:V->PyData->Prop}{m:Nat}(ih:∀{x:V} {d:PyData},R x d->d.canLay0=true/\d.depth<=m):∀{xs:List V} {ds:List PyData},Paired R xs ds->PyData.canLayAll0 ds=true/\PyData.depthAll ds<=m
 | _,_,.nil=>⟨rfl,Nat.zero_le _⟩
 | _,_,.cons h t=>by
  obtain⟨h1,h2⟩:=ih h
  obtain⟨h3,h4⟩:=i6 ih t
  refine⟨?_,?_⟩
  ·simp only[PyData.canLayAll0,h1,h3,Bool.and_self]
  ·simp only[PyData.depthAll]
   exact Nat.max_le.mpr ⟨h2,h4⟩
theorem aU.lay:∀(n:Nat) {x:V} {d:PyData},aU H n x d->d.canLay0=true/\d.depth<=n
 | 0,_,_,h=>⟨(dE.lay h).1,Nat.le_of_eq (dE.lay h).2⟩
 | n+1,x,d,h=>by
  rcases h with h | ⟨a,xs,ds,rfl,hh,hp⟩
  ·exact⟨(dE.lay h).1,by rw[(dE.lay h).2];exact Nat.zero_le _⟩
  ·obtain⟨h1,h2⟩:=i6 (fun{x d}=>aU.lay n) hp
   rcases hh with⟨e,rfl⟩ | ⟨e,rfl⟩
   ·exact⟨h1,Nat.succ_le_succ h2⟩
   ·exact⟨h1,Nat.succ_le_succ h2⟩
def rW(neg:Bool):R2:=fun x y H Q=>∃n m d e,aU H n x d/\aU H m y e/\n<=50/\Q (.bl (if neg then !PyData.eqv d e else PyData.eqv d e)) H
theorem Dp{k:Nat}(hr:Room k X.A):bx X (compareOp .Eq) (rW false):=by
 intro pins s σ H x y v u Q I rx ry h
 obtain⟨n,m,d,e,h1,h2,hn,q⟩:=h
 obtain⟨as,ra⟩:=aU.reads I n h1 rx
 obtain⟨bs,rb⟩:=aU.reads I m h2 ry
 have l1:=aU.lay n h1
 have l2:=aU.lay m h2
 have hu:=hr.units
 have hm:min d.depth e.depth<=50:=Eb (Nat.min_le_left _ _) (Eb l1.2 hn)
 exact SeqAt.compareEq_reads ra rb l1.1 l2.1 (by omega) ⟨.bl _,H,I,rfl,q⟩
theorem oP{k:Nat}(hr:Room k X.A):bx X (compareOp .NotEq) (rW true):=by
 intro pins s σ H x y v u Q I rx ry h
 obtain⟨n,m,d,e,h1,h2,hn,q⟩:=h
 obtain⟨as,ra⟩:=aU.reads I n h1 rx
 obtain⟨bs,rb⟩:=aU.reads I m h2 ry
 have l1:=aU.lay n h1
 have l2:=aU.lay m h2
 have hu:=hr.units
 have hm:min d.depth e.depth<=50:=Eb (Nat.min_le_left _ _) (Eb l1.2 hn)
 exact SeqAt.compareNe_reads ra rb l1.1 l2.1 (by omega) ⟨.bl _,H,I,rfl,q⟩
end
end L2
namespace L2
open PySem PySem.Spec PyProof.Rows
def zE(K:Du):List V->Hp->VK->Prop:=fun xs H Q=>∃(p:Addr) (bs:List Bool),xs=[.ref p]/\ag K H p (bs.map V.bl)/\Q (.bl (bs.all id)) H
theorem me:∀{bs:List Bool} {us:List Value},Vals (bs.map V.bl) us->us=bs.map Value.bool
 | [],_,r=>by cases r;rfl
 | b::bs,_,r=>by
  cases r with
  | cons r t=>cases r;rw[me t];rfl
theorem all_range(bs:List Bool):((List.range bs.length).all fun i=>bs.getD i false)=bs.all id:=by
 rw[Ef,Ed,Ed]
 constructor
 ·intro h b hb
  obtain⟨i,hi,e⟩:=List.mem_iff_getElem.mp hb
  have:=h i (List.mem_range.mpr hi)
  rw[List.getD_eq_getElem?_getD,Dz hi]at this
  rw[←e]
  exact this
 ·intro h i hi
  have hi':=List.mem_range.mp hi
  rw[List.getD_eq_getElem?_getD,Dz hi']
  exact h _ (DX hi')
theorem iY{X:Cx}(K:Du)(hc:X.calm=true)(hK:X.K=K:=by rfl):bO X (.builtin "all") (zE K):=by
 subst hK
 intro pins s σ H xs us Q I r h
 obtain⟨p,bs,rfl,hq,q⟩:=h
 obtain⟨u,rfl,rx⟩:=vals1 r
 cases rx
 obtain⟨its,rv,pl,hz⟩:=I.list hq
 have eb:=me rv
 have hne:p≠s.heap.objs.size:=DQ (by obtain⟨o,n,e,_⟩:=pl;exact Dx e)
 refine call_all_walk (wpAny_pyIter_list pl.isList ?_)
 have I1:Inv X pins σ H { s with heap:=s.heap.push { cls:=.type "list_iterator",data:=.fields #[.ref p,.int 0 0] } }:=I.kept (t':=s.toks) fun b o e=>Dv _ e
 have hf:=I.fpOk (H':=H) (DR s.heap.objs.size) I.fresh
 refine⟨s.heap.objs.size,_,_,_,_,_,(fun i=>bs.getD i false),rfl,Walks.list (A:=X.A.in1) (I.ok.hd hc) _ p hne its.toArray,⟨⟨_,Dw _ rfl,rfl,rfl⟩,?_⟩,?_,fun h' tk hk=>?_⟩
 ·exact pl.isList.push _
 ·intro i v s' Q' E' hv hQ
  rw[eb]at hv
  have hv':(bs.map Value.bool)[i]?=some v:=by simpa using hv
  rw[DA]at hv'
  cases eg:bs[i]? with
  | none=>rw[eg]at hv';cases hv'
  | some b=>
   rw[eg]at hv'
   cases hv'
   have eb':bs.getD i false=b:=by rw[List.getD_eq_getElem?_getD,eg];rfl
   have hQ':Q' (bs.getD i false) s':=hQ
   rw[eb']at hQ'
   exact wpAny_truthy_bool hQ'
 ·obtain⟨f0,f1,f2,f3,f4,f5⟩:=hf
  have hl:=rv.length
  rw[Dy]at hl
  refine⟨.bl (bs.all id),H,I1.turned (it:=s.heap.objs.size) (fun b o hb e=>hk b o (by simpa using hb) e) f0 f1 f3 f4 f5,?_,q⟩
  show Value.bool _=Value.bool _
  rw[DD,←hl,all_range]
end L2
namespace L2
open PySem PySem.Spec PyProof.Rows
def pI(c:TT)(tb:TS):TS:=fun D σ H=>∃(W:Nat->St->Hp->Prop) (R:St->Hp->Prop),(∃m,W m σ H)/\(∀m σ H,W m σ H →
 c σ H fun b H1=>if b=true then ∃N:St->Hp->Prop,(∀σ' H',N σ' H'->∃m',m'<m/\W m' σ' H')/\tb ⟨N,D.rt,R,N⟩ σ H1 else R σ H1)/\∀σ H,R σ H->D.nx σ H
theorem f7{X:Cx}{pos:Pos}{c:Expr}{body:List Stmt}{tc:TT}{tb:TS}(hp:PassesOwn (model X.prog X.w) X.A X.env X.xe)(hc:PT X c tc)(hb:cB X body tb):PS X (.While c body [] pos) (pI tc tb):=by
 intro pins s σ H D I h
 obtain⟨W,R,w0,hs,hR⟩:=h
 refine av (xW hp hc hb pins s σ H { D with nx:=R } I ⟨W,w0,hs⟩) fun f s1 q=>?_
 cases f with
 | next=>
  obtain⟨σ',H',I',q⟩:=q
  exact⟨σ',H',I',hR σ' H' q⟩
 | ret v=>exact q
 | brk=>exact q
 | cont=>exact q
section
variable {D:Ends} {σ:St} {H:Hp} {Q:VK} {te:TE} {t:TS} {c:TT}
theorem gQ(W:Nat->St->Hp->Prop)(R:St->Hp->Prop)(m:Nat)(h0:W m σ H)(hs:∀m σ H,W m σ H->c σ H fun b H1=>if b=true then ∃N:St->Hp->Prop,(∀σ' H',N σ' H'->∃m',m'<m/\W m' σ' H')/\t ⟨N,D.rt,R,N⟩ σ H1 else R σ H1)(k:∀σ H,R σ H->D.nx σ H):pI c t D σ H:=⟨W,R,⟨m,h0⟩,hs,k⟩
theorem rd_aug{i:Nat}{ti:iV}{x:V}(e:σ[i]?=some (some x))(h:te σ H fun y H1=>ti x y H1 fun z H2=>D.nx (σ.set i (some z)) H2):rK i te ti D σ H:=⟨x,e,h⟩
theorem rd_ipI{f:Int->Int->Int}{i j:Int}(h:Q (.int (f i j)) H):mh f (.int i) (.int j) H Q:=⟨i,j,rfl,rfl,h⟩
end
section
variable {prog:Program} {w:World} {A:Around} {E:Value->Shared->Prop} {s:Shared}
theorem yZ{it t:Addr}{i:Nat}{ys:Array Value}{x:Value}{Q:Value->Shared->Prop}(gi:s.heap.IsTupleIter it t i)(gt:s.heap.IsTuple t ys)(gx:ys[i]?=some x)
  (q:∀h',h'.IsTupleIter it t (i+1)->Heap.SameBut it s.heap h'->Q x { s with heap:=h' }):wpAny (model prog w) A (Builtin.SmallTypes.nextOf (.ref it)) Q E s:=by
 obtain⟨u,gu,gc,gd⟩:=id gi
 obtain⟨v,gv,_,k,gk⟩:=gt
 unfold Builtin.SmallTypes.nextOf
 refine Dr (wpAny_callSpecial?_slot (name:=Str.ofString "__next__") gi.typeIs F.slot_tuple_iterator_next (wpAny_call_entry F.slot_tuple_iterator_next gi.typeIs F.entry_tuple_iterator_next ?_ (F.args_tuple_iterator_next_1 _)))
 show wpAny _ _ (field (Value.ref it) 0 >>= _) _ _ s
 refine Dr (wpAny_field gu gd (x:=Value.ref t) rfl ?_)
 show wpAny _ _ (if(Value.ref t == Value.none)=true then _ else _) _ _ s
 rw[if_neg (show ¬(Value.ref t == Value.none)=true from DN)]
 show wpAny _ _ (field (Value.ref it) 1 >>= _) _ _ s
 refine Dr (wpAny_field gu gd (x:=Value.int i 0) rfl ?_)
 show wpAny _ _ (seqItems? (Value.ref t) >>= _) _ _ s
 refine Dr (wpAny_seqItems gv gk ?_)
 simp only[DK,gx]
 refine Dr (wpAny_setField gu gd (by simp) (Dt ⟨x,rfl,Dt (q _ ?_ (Heap.SameBut.update ..))⟩))
 exact⟨_,Heap.get?_update_self _ gu (Obj.isFreed_of_fields (Obj.data_mapFields gd _)),(Obj.cls_mapFields ..).trans gc,by rw[Obj.data_mapFields gd];simp[rawInt]⟩
theorem B4{it t:Addr}{i:Nat}{ys:Array Value}{Q:Value->Shared->Prop}(hA:A.handled=none)(gi:s.heap.IsTupleIter it t i)(gt:s.heap.IsTuple t ys)(gx:ys[i]?=none)
  (q:∀h' e,Heap.ExtBut it s.heap h'->(∃o,h'.get? e=some o/\o.cls=.type "StopIteration")->E (.ref e) { s with heap:=h' }):wpAny (model prog w) A (Builtin.SmallTypes.nextOf (.ref it)) Q E s:=by
 obtain⟨u,gu,gc,gd⟩:=id gi
 obtain⟨v,gv,_,k,gk⟩:=gt
 unfold Builtin.SmallTypes.nextOf
 refine Dr (wpAny_callSpecial?_slot (name:=Str.ofString "__next__") gi.typeIs F.slot_tuple_iterator_next (wpAny_call_entry F.slot_tuple_iterator_next gi.typeIs F.entry_tuple_iterator_next ?_ (F.args_tuple_iterator_next_1 _)))
 show wpAny _ _ (field (Value.ref it) 0 >>= _) _ _ s
 refine Dr (wpAny_field gu gd (x:=Value.ref t) rfl ?_)
 show wpAny _ _ (if(Value.ref t == Value.none)=true then _ else _) _ _ s
 rw[if_neg (show ¬(Value.ref t == Value.none)=true from DN)]
 show wpAny _ _ (field (Value.ref it) 1 >>= _) _ _ s
 refine Dr (wpAny_field gu gd (x:=Value.int i 0) rfl ?_)
 show wpAny _ _ (seqItems? (Value.ref t) >>= _) _ _ s
 refine Dr (wpAny_seqItems gv gk ?_)
 simp only[DK,gx]
 refine Dr (wpAny_rule (Dr (wpAny_setField gu gd (by simp) ?_)))
 show wpAny _ _ (newExc (Value.type "StopIteration") [] >>= _) _ _ _
 refine Dr ?_
 simp only[newExc,newTuple]
 refine Dr (wpAny_newObj_type (hd:=by size_fits) ?_)
 refine Dr (m:=firstArgMember _ _) (wpAny_of_eq (a:=Value.none) (by first | rfl | (unfold firstArgMember;rfl)) ?_)
 refine wpAny_newObj_type (hd:=by size_fits) ?_
 simp only[raiseNew]
 refine Dr (wpAny_handled ?_)
 first | rw [show Around.handled A.in1=none from hA] | rw [hA]
 refine Dr (Dt (wpAny_throw ?_))
 exact q _ _ (((Heap.SameBut.update ..).extBut.push _).push _) ⟨_,Dw _ rfl,rfl⟩
end
structure Sub(P:Program)(w:World)(K:Du)(J:It)(it:Addr)(tn:Nat->Heap->Prop):Prop where
 obj:∀i h,tn i h->∃o,h.get? it=some o/\∀v,o.data≠.cell v
 keep:∀i h h',tn i h->(∀o,h.get? it=some o->h'.get? it=some o)->tn i h'
 item:∀(X:Cx),X.prog=P->X.w=w->X.K=K->∀(A:Around) (i:Nat) (pins:List (Addr×Obj)) (s:Shared) (σ:St) (H:Hp) (Q:Value->Shared->Prop) (E:Value->Shared->Prop),Inv X pins σ H s->bT X pins H it->tn i s.heap->J.go i H →
  (∀x u h',Inv X pins σ H { s with heap:=h' }->RelV x u->J.yld i H x H->tn (i+1) h'->Heap.SameBut it s.heap h'->Q u { s with heap:=h' })->wpAny (model P w) A (Builtin.SmallTypes.nextOf (.ref it)) Q E s
 done:∀(X:Cx),X.prog=P->X.w=w->X.K=K->∀(A:Around),A.handled=none->∀(i:Nat) (pins:List (Addr×Obj)) (s:Shared) (σ:St) (H:Hp) (Q:Value->Shared->Prop) (E:Value->Shared->Prop),Inv X pins σ H s->bT X pins H it->tn i s.heap->J.stop i H →
  (∀h' e,Heap.ExtBut it s.heap h'->(∃o,h'.get? e=some o/\o.cls=.type "StopIteration")->E (.ref e) { s with heap:=h' })->wpAny (model P w) A (Builtin.SmallTypes.nextOf (.ref it)) Q E s
theorem uL{P:Program}{w:World}{K:Du}(a it:Addr):Sub P w K (cZ K a) it (fun i h=>h.IsListIter it a i) where
 obj:=fun i h st=>by
  obtain⟨o,e,c,d⟩:=st
  exact⟨o,e,fun v z=>by rw[d]at z;cases z⟩
 keep:=fun i h h' st k=>st.at k
 item:=by
  intro X hP hw hK A i pins s σ H Q E I hf st hg hQ
  subst hP hw hK
  obtain⟨xs,x,hq,hx⟩:=hg
  obtain⟨its,rv,p,hz⟩:=I.list hq
  obtain⟨u,hu,ru⟩:=rv.get hx
  obtain⟨f0,f1,f2,f3,f4,f5⟩:=hf
  exact wpAny_nextOf_list_item st p.isList (x:=u) (by simpa using hu) fun h' st' sb=>hQ x u h' (I.turned (t':=s.toks) (it:=it) (fun b o hb e=>(sb.2 b hb).trans e) f0 f1 f3 f4 f5) ru ⟨rfl,fun ys hy=>by rw[I.list_inj hy hq];exact hx⟩ st' sb
 done:=by
  intro X hP hw hK A hA i pins s σ H Q E I hf st hg hE
  subst hP hw hK
  obtain⟨xs,hq,hx⟩:=hg
  obtain⟨its,rv,p,hz⟩:=I.list hq
  have hl:=rv.length
  exact wpAny_nextOf_list_end hA st p.isList (by simp;omega) hE
theorem qC{P:Program}{w:World}{K:Du}(a it:Addr):Sub P w K (cQ K a) it (fun i h=>h.IsTupleIter it a i) where
 obj:=fun i h st=>by
  obtain⟨o,e,c,d⟩:=st
  exact⟨o,e,fun v z=>by rw[d]at z;cases z⟩
 keep:=fun i h h' st k=>st.at k
 item:=by
  intro X hP hw hK A i pins s σ H Q E I hf st hg hQ
  subst hP hw hK
  obtain⟨xs,x,hq,hx⟩:=hg
  obtain⟨its,rv,p,hz⟩:=I.tuple hq
  obtain⟨u,hu,ru⟩:=rv.get hx
  obtain⟨f0,f1,f2,f3,f4,f5⟩:=hf
  exact yZ st (show s.heap.IsTuple a its.toArray from p) (x:=u) (by simpa using hu) fun h' st' sb=>hQ x u h' (I.turned (t':=s.toks) (it:=it) (fun b o hb e=>(sb.2 b hb).trans e) f0 f1 f3 f4 f5) ru ⟨rfl,fun ys hy=>by rw[I.tuple_inj hy hq];exact hx⟩ st' sb
 done:=by
  intro X hP hw hK A hA i pins s σ H Q E I hf st hg hE
  subst hP hw hK
  obtain⟨xs,hq,hx⟩:=hg
  obtain⟨its,rv,p,hz⟩:=I.tuple hq
  have hl:=rv.length
  exact B4 hA st (show s.heap.IsTuple a its.toArray from p) (by simp;omega) hE
def gM(J1 J2:It):It:=⟨fun i H=>J1.go i H/\J2.go i H,fun i H x H'=>∃p u v,x=.ref p/\H p=none/\H'=upd H p (.tup [u,v])/\J1.yld i H u H/\J2.yld i H v H,fun i H=>J1.stop i H\/(J1.go i H/\J2.stop i H)⟩
structure Apart(z TI TO i1 i2:Addr):Prop where
 a:TI≠z
 b:TO≠z
 c:i1≠z
 d:i2≠z
 e:TI≠TO
 f:TI≠i1
 g:TI≠i2
 h:TO≠i1
 i:TO≠i2
 j:i1≠i2
section
variable {X:Cx} {pins:List (Addr×Obj)} {σ:St} {H:Hp} {s:Shared}
theorem Inv.same{it:Addr}{k h':Heap}(I:Inv X pins σ H { s with heap:=k })(f:bT X pins H it)(b:Heap.ExtBut it k h'):Inv X pins σ H { s with heap:=h' }:=by
 obtain⟨f0,f1,f2,f3,f4,f5⟩:=f
 exact Inv.turned (s:={ s with heap:=k }) (t':=s.toks) (it:=it) I (fun c o hb e=>b c o hb e) f0 f1 f3 f4 f5
theorem CW{J1 J2:It}{z TI TO i1 i2:Addr}{t1 t2:Nat->Heap->Prop}{A:Around}{E:Value->Shared->Prop}{a b:Value}{i:Nat}{Q:Value->Shared->Prop}(S1:Sub X.prog X.w X.K J1 i1 t1)(S2:Sub X.prog X.w X.K J2 i2 t2)(N:Apart z TI TO i1 i2)
  (I:Inv X pins σ H s) (hf:∀b∈[z,TI,TO,i1,i2],bT X pins H b) (gz:IsZip s.heap z TI TO .none) (gI:IsPair s.heap TI (.ref i1) (.ref i2)) (gO:IsPair s.heap TO a b) (g1:t1 i s.heap) (g2:t2 i s.heap) (go1:J1.go i H) (go2:J2.go i H)
  (q:∀x y h',Inv X pins σ (upd H s.heap.objs.size (.tup [x,y])) { s with heap:=h' }->J1.yld i H x H->J2.yld i H y H->IsZip h' z TI TO (rawInt s.heap.objs.size)->IsPair h' TI (.ref i1) (.ref i2)->(∃a b,IsPair h' TO a b)->t1 (i+1) h'->t2 (i+1) h'->Q (.ref s.heap.objs.size) { s with heap:=h' }) :
  wpAny (model X.prog X.w) A (Builtin.«zip.__next__» ⟨[.ref z],[]⟩) (fun fin s'=>∃v,fin=.done (.ret v)/\Q v s') E s:=by
 have fz:=hf z (by simp)
 have fO:=hf TO (by simp)
 have f1:=hf i1 (by simp)
 have f2:=hf i2 (by simp)
 show wpAny _ _ (field (Value.ref z) 2 >>= _) _ _ _
 refine Dr (wpAny_field gz rfl (x:=Value.bool false) rfl ?_)
 show wpAny _ _ (field (Value.ref z) 3 >>= _) _ _ _
 refine Dr (wpAny_field gz rfl (x:=Value.ref TI) rfl ?_)
 refine Dr (wpAny_seqItems gI rfl ?_)
 show wpAny _ _ (Builtin.SmallTypes.ownedTupleIsFree (Value.ref z) >>= _) _ _ _
 refine Dr ?_
 unfold Builtin.SmallTypes.ownedTupleIsFree
 refine Dr (wpAny_field gz rfl (x:=Value.none) rfl (Dt ?_))
 simp only[if_true]
 refine Dr (wpAny_rule ?_)
 refine Dr (wpAny_field gz rfl (x:=Value.ref TO) rfl ?_)
 refine Dr (wpAny_setField_rec gz (by simp) fun k1 gz1 b1=>?_)
 replace gz1:IsZip k1 z TI TO .ellipsis:=gz1
 have s1:=b1.1
 replace b1:=b1.extBut
 have I1:Inv X pins σ H { s with heap:=k1 }:=Inv.same (show Inv X pins σ H { s with heap:=s.heap }from I) fz b1
 refine Dr ?_
 simp only[List.zipIdx_cons,List.zipIdx_nil,List.forIn_cons,List.forIn_nil]
 refine Dr (Dr (wpAny_onRaise ?_))
 show wpAny _ _ (Builtin.SmallTypes.nextOf (Value.ref i1) >>= _) _ _ _
 refine Dr (S1.item X rfl rfl rfl _ i pins _ σ H _ _ I1 f1 (S1.keep i _ _ g1 fun o e=>b1 _ _ N.c e) go1 fun x ux k2 I2 rx yx t12 b2=>Dt ?_)
 replace I2:Inv X pins σ H { s with heap:=k2 }:=I2
 have s2:=b2.1
 replace b2:=b2.extBut
 have gO2:IsPair k2 TO a b:=b2 _ _ N.h (b1 _ _ N.b gO)
 refine Dr (wpAny_seqItems gO2 rfl ?_)
 refine Dr (wpAny_updateSeq_pair gO2 fun k3 gO3 b3=>?_)
 replace gO3:IsPair k3 TO ux b:=gO3
 have s3:=b3.1
 replace b3:=b3.extBut
 have I3:Inv X pins σ H { s with heap:=k3 }:=Inv.same I2 fO b3
 refine Dr (wpAny_letGo (Dt ?_))
 refine Dr (Dr (wpAny_onRaise ?_))
 show wpAny _ _ (Builtin.SmallTypes.nextOf (Value.ref i2) >>= _) _ _ _
 refine Dr (S2.item X rfl rfl rfl _ i pins _ σ H _ _ I3 f2 (S2.keep i _ _ g2 fun o e=>b3 _ _ (Ne.symm N.i) (b2 _ _ (Ne.symm N.j) (b1 _ _ N.d e))) go2 fun y uy k4 I4 ry yy t24 b4=>Dt ?_)
 replace I4:Inv X pins σ H { s with heap:=k4 }:=I4
 have s4:=b4.1
 replace b4:=b4.extBut
 have gO4:IsPair k4 TO ux b:=b4 _ _ N.i gO3
 refine Dr (wpAny_seqItems gO4 rfl ?_)
 refine Dr (wpAny_updateSeq_pair gO4 fun k5 gO5 b5=>?_)
 replace gO5:IsPair k5 TO ux uy:=gO5
 have s5:=b5.1
 replace b5:=b5.extBut
 have I5:Inv X pins σ H { s with heap:=k5 }:=Inv.same I4 fO b5
 refine Dr (wpAny_letGo (Dt (Dt ?_)))
 refine Dr (wpAny_seqItems gO5 rfl ?_)
 refine Dr (wpAny_newTuple ?_)
 have sz:k5.objs.size=s.heap.objs.size:=by rw[s5,s4,s3,s2,s1]
 have gz5:IsZip k5 z TI TO .ellipsis:=b5 _ _ (Ne.symm N.b) (b4 _ _ (Ne.symm N.d) (b3 _ _ (Ne.symm N.b) (b2 _ _ (Ne.symm N.c) gz1)))
 have gI5:IsPair k5 TI (.ref i1) (.ref i2):=b5 _ _ N.e (b4 _ _ N.g (b3 _ _ N.e (b2 _ _ N.f (b1 _ _ N.a gI))))
 have t15:t1 (i+1) k5:=S1.keep _ _ _ (S1.keep _ _ _ (S1.keep _ _ _ t12 fun o e=>b3 _ _ (Ne.symm N.h) e) fun o e=>b4 _ _ N.j e) fun o e=>b5 _ _ (Ne.symm N.h) e
 have t25:t2 (i+1) k5:=S2.keep _ _ _ t24 fun o e=>b5 _ _ (Ne.symm N.i) e
 have lz:z<k5.objs.size:=Dx gz5
 have I6:Inv X pins σ (upd H k5.objs.size (.tup [x,y])) { s with heap:=k5.push { cls:=.type "tuple",data:=.seq #[ux,uy] } }:=
  I5.laid (t':=s.toks) (o:=.tup [x,y]) (fun b ob e=>Dv _ e) (DR _) ⟨by show 2<=sizeLine;decide,[ux,uy],.cons rx (.cons ry .nil),IsTup.new _ _⟩
 have fz6:bT X pins (upd H k5.objs.size (.tup [x,y])) z:=by
  obtain⟨c0,c1,c2,c3,c4,c5⟩:=fz
  exact⟨by rw[aB (DQ lz)];exact c0,c1,c2,c3,c4,c5⟩
 show wpAny _ _ (Builtin.SmallTypes.ownedTupleHandOut (Value.ref z) (Value.ref k5.objs.size) >>= _) _ _ _
 refine Dr ?_
 unfold Builtin.SmallTypes.ownedTupleHandOut
 have gz6:IsZip (k5.push { cls:=.type "tuple",data:=.seq #[ux,uy] }) z TI TO .ellipsis:=Dv _ gz5
 refine Dr (wpAny_setField_rec gz6 (by simp) fun k7 gz7 b7=>?_)
 replace gz7:IsZip k7 z TI TO (rawInt k5.objs.size):=gz7
 replace b7:=b7.extBut
 have I7:Inv X pins σ (upd H k5.objs.size (.tup [x,y])) { s with heap:=k7 }:=Inv.same I6 fz6 b7
 refine wpAny_setField_rec gz7 (by simp) fun k8 gz8 b8=>?_
 replace gz8:IsZip k8 z TI TO (rawInt k5.objs.size):=gz8
 replace b8:=b8.extBut
 have I8:Inv X pins σ (upd H k5.objs.size (.tup [x,y])) { s with heap:=k8 }:=Inv.same I7 fz6 b8
 have up:∀b o,b≠z->k5.get? b=some o->k8.get? b=some o:=fun b o ne e=>b8 _ _ ne (b7 _ _ ne (Dv _ e))
 rw[sz]at I8 gz8
 refine Dt ⟨_,rfl,?_⟩
 show Q (.ref k5.objs.size) _
 rw[sz]
 exact q x y k8 I8 yx yy gz8 (up _ _ N.a gI5) ⟨_,_,up _ _ N.b gO5⟩ (S1.keep _ _ _ t15 fun o e=>up _ o N.c e) (S2.keep _ _ _ t25 fun o e=>up _ o N.d e)
theorem BZ{J1 J2:It}{z TI TO i1 i2:Addr}{t1 t2:Nat->Heap->Prop}{A:Around}{E:Value->Shared->Prop}{a b:Value}{i:Nat}{Q:Fin->Shared->Prop}(hA:A.handled=none)(S1:Sub X.prog X.w X.K J1 i1 t1)(S2:Sub X.prog X.w X.K J2 i2 t2)(N:Apart z TI TO i1 i2)
  (I:Inv X pins σ H s) (hf:∀b∈[z,TI,TO,i1,i2],bT X pins H b) (gz:IsZip s.heap z TI TO .none) (gI:IsPair s.heap TI (.ref i1) (.ref i2)) (gO:IsPair s.heap TO a b) (g1:t1 i s.heap) (g2:t2 i s.heap) (st:J1.stop i H\/(J1.go i H/\J2.stop i H))
  (q:∀h' e,Inv X pins σ H { s with heap:=h' }->(∃o,h'.get? e=some o/\o.cls=.type "StopIteration")->E (.ref e) { s with heap:=h' }) :
  wpAny (model X.prog X.w) A (Builtin.«zip.__next__» ⟨[.ref z],[]⟩) Q E s:=by
 have fz:=hf z (by simp)
 have fO:=hf TO (by simp)
 have f1:=hf i1 (by simp)
 have f2:=hf i2 (by simp)
 show wpAny _ _ (field (Value.ref z) 2 >>= _) _ _ _
 refine Dr (wpAny_field gz rfl (x:=Value.bool false) rfl ?_)
 show wpAny _ _ (field (Value.ref z) 3 >>= _) _ _ _
 refine Dr (wpAny_field gz rfl (x:=Value.ref TI) rfl ?_)
 refine Dr (wpAny_seqItems gI rfl ?_)
 show wpAny _ _ (Builtin.SmallTypes.ownedTupleIsFree (Value.ref z) >>= _) _ _ _
 refine Dr ?_
 unfold Builtin.SmallTypes.ownedTupleIsFree
 refine Dr (wpAny_field gz rfl (x:=Value.none) rfl (Dt ?_))
 simp only[if_true]
 refine Dr (wpAny_rule ?_)
 refine Dr (wpAny_field gz rfl (x:=Value.ref TO) rfl ?_)
 refine Dr (wpAny_setField_rec gz (by simp) fun k1 gz1 b1=>?_)
 replace gz1:IsZip k1 z TI TO .ellipsis:=gz1
 replace b1:=b1.extBut
 have I1:Inv X pins σ H { s with heap:=k1 }:=Inv.same (show Inv X pins σ H { s with heap:=s.heap }from I) fz b1
 refine Dr ?_
 simp only[List.zipIdx_cons,List.zipIdx_nil,List.forIn_cons,List.forIn_nil]
 refine Dr (Dr (wpAny_onRaise ?_))
 show wpAny _ _ (Builtin.SmallTypes.nextOf (Value.ref i1) >>= _) _ _ _
 have t11:t1 i k1:=S1.keep i _ _ g1 fun o e=>b1 _ _ N.c e
 rcases st with st | ⟨go,st⟩
 ·refine Dr (S1.done X rfl rfl rfl _ hA i pins _ σ H _ _ I1 f1 t11 st fun k2 e b2 he=>?_)
  obtain⟨oe,hoe,hce⟩:=he
  have gz2:IsZip k2 z TI TO .ellipsis:=b2 _ _ (Ne.symm N.c) gz1
  have I2:Inv X pins σ H { s with heap:=k2 }:=Inv.same I1 f1 b2
  have ne:e≠z:=fun x=>by subst x;rw[gz2]at hoe;cases hoe;simp at hce
  exact wpAny_setField_rec gz2 (by simp) fun k3 _ b3=>q k3 e (Inv.same I2 fz b3.extBut) ⟨oe,b3.extBut _ _ ne hoe,hce⟩
 ·refine Dr (S1.item X rfl rfl rfl _ i pins _ σ H _ _ I1 f1 t11 go fun x ux k2 I2 rx yx t12 b2=>Dt ?_)
  replace I2:Inv X pins σ H { s with heap:=k2 }:=I2
  replace b2:=b2.extBut
  have gO2:IsPair k2 TO a b:=b2 _ _ N.h (b1 _ _ N.b gO)
  refine Dr (wpAny_seqItems gO2 rfl ?_)
  refine Dr (wpAny_updateSeq_pair gO2 fun k3 gO3 b3=>?_)
  replace b3:=b3.extBut
  have I3:Inv X pins σ H { s with heap:=k3 }:=Inv.same I2 fO b3
  refine Dr (wpAny_letGo (Dt ?_))
  refine Dr (Dr (wpAny_onRaise ?_))
  show wpAny _ _ (Builtin.SmallTypes.nextOf (Value.ref i2) >>= _) _ _ _
  refine Dr (S2.done X rfl rfl rfl _ hA i pins _ σ H _ _ I3 f2 (S2.keep i _ _ g2 fun o e=>b3 _ _ (Ne.symm N.i) (b2 _ _ (Ne.symm N.j) (b1 _ _ N.d e))) st fun k4 e b4 he=>?_)
  obtain⟨oe,hoe,hce⟩:=he
  have gz4:IsZip k4 z TI TO .ellipsis:=b4 _ _ (Ne.symm N.d) (b3 _ _ (Ne.symm N.b) (b2 _ _ (Ne.symm N.c) gz1))
  have I4:Inv X pins σ H { s with heap:=k4 }:=Inv.same I3 f2 b4
  have ne:e≠z:=fun x=>by subst x;rw[gz4]at hoe;cases hoe;simp at hce
  exact wpAny_setField_rec gz4 (by simp) fun k5 _ b5=>q k5 e (Inv.same I4 fz b5.extBut) ⟨oe,b5.extBut _ _ ne hoe,hce⟩
end
theorem BX{P:Program}{w:World}{K:Du}{elts:List Expr}{kk:Nat}{ps:Pos}{J1 J2:It}{z TI TO i1 i2:Addr}{t1 t2:Nat->Heap->Prop}(S1:Sub P w K J1 i1 t1)(S2:Sub P w K J2 i2 t2)(N:Apart z TI TO i1 i2):
  Turn P w K (.Tuple elts kk ps) (gM J1 J2) [z,TI,TO,i1,i2] z (fun i h=>IsZip h z TI TO .none/\IsPair h TI (.ref i1) (.ref i2)/\(∃a b,IsPair h TO a b)/\t1 i h/\t2 i h) where
 mem:=by simp
 obj:=fun i h st b hb=>by
  obtain⟨gz,gI,⟨a,c,gO⟩,g1,g2⟩:=st
  simp only[DM,Ec,or_false]at hb
  rcases hb with rfl | rfl | rfl | rfl | rfl
  ·exact⟨_,gz,fun v e=>by cases(show Data.fields _=Data.cell v from e)⟩
  ·exact⟨_,gI,fun v e=>by cases(show Data.seq _ _=Data.cell v from e)⟩
  ·exact⟨_,gO,fun v e=>by cases(show Data.seq _ _=Data.cell v from e)⟩
  ·exact S1.obj _ _ g1
  ·exact S2.obj _ _ g2
 keep:=fun i h h' st k=>by
  obtain⟨gz,gI,⟨a,c,gO⟩,g1,g2⟩:=st
  exact⟨k z (by simp) _ gz,k TI (by simp) _ gI,⟨a,c,k TO (by simp) _ gO⟩,S1.keep _ _ _ g1 fun o e=>k i1 (by simp) o e,S2.keep _ _ _ g2 fun o e=>k i2 (by simp) o e⟩
 item:=by
  intro X hP hw hK hc i pins s σ H E I hf st hg
  subst hP hw hK
  obtain⟨gz,gI,⟨a,c,gO⟩,g1,g2⟩:=st
  have gT:s.TypeIs (.ref z) "zip":=⟨_,gz,rfl⟩
  unfold pyNext
  refine Dr (wpAny_attempt (wpAny_callSpecial?_slot (name:=Str.ofString "__next__") gT F.slot_zip_next (wpAny_call_entry F.slot_zip_next gT F.entry_zip_next
   (CW S1 S2 N I hf gz gI gO g1 g2 hg.1 hg.2 fun x y h' I' yx yy gz' gI' gO' g1' g2'=>Dt ⟨_,rfl,?_⟩) (F.args_zip_next_1 _))))
  have lt:∀b∈[z,TI,TO,i1,i2],b≠s.heap.objs.size:=fun b hb=>by
   obtain⟨f0,f1,f2,f3,f4,f5⟩:=hf b hb
   simp only[DM,Ec,or_false]at hb
   rcases hb with rfl | rfl | rfl | rfl | rfl
   ·exact DQ (Dx gz)
   ·exact DQ (Dx gI)
   ·exact DQ (Dx gO)
   ·obtain⟨o,e,_⟩:=S1.obj _ _ g1;exact DQ (Dx e)
   ·obtain⟨o,e,_⟩:=S2.obj _ _ g2;exact DQ (Dx e)
  have fz:bT X pins (upd H s.heap.objs.size (.tup [x,y])) z:=by
   obtain⟨c0,c1,c2,c3,c4,c5⟩:=hf z (by simp)
   exact⟨by rw[aB (lt z (by simp))];exact c0,c1,c2,c3,c4,c5⟩
  obtain⟨a',c',gO'⟩:=gO'
  refine wpAny_letOwnedTupleGo_zip (s:={ s with heap:=h' }) gz' fun k gk bk=>?_
  refine⟨.ref s.heap.objs.size,upd H s.heap.objs.size (.tup [x,y]),Inv.same I' fz bk.extBut,rfl,⟨_,x,y,rfl,I.hok.fresh (DR _),rfl,yx,yy⟩,
   ⟨gk,bk.extBut _ _ N.a gI',⟨_,_,bk.extBut _ _ N.b gO'⟩,S1.keep _ _ _ g1' fun o e=>bk.extBut _ _ N.c e,S2.keep _ _ _ g2' fun o e=>bk.extBut _ _ N.d e⟩,fun b hb=>?_⟩
  rw[aB (lt b hb)]
  exact(hf b hb).1
 done:=by
  intro X hP hw hK hc i pins s σ H E I hf st hg
  subst hP hw hK
  obtain⟨gz,gI,⟨a,c,gO⟩,g1,g2⟩:=st
  have gT:s.TypeIs (.ref z) "zip":=⟨_,gz,rfl⟩
  unfold pyNext
  refine Dr (wpAny_attempt (wpAny_callSpecial?_slot (name:=Str.ofString "__next__") gT F.slot_zip_next (wpAny_call_entry F.slot_zip_next gT F.entry_zip_next
   (BZ (I.ok.hd hc) S1 S2 N I hf gz gI gO g1 g2 hg fun h' e I' he=>?_) (F.args_zip_next_1 _))))
  obtain⟨o,ho,hc'⟩:=he
  refine Dr (wpAny_isInstance (s:={ s with heap:=h' }) (T:="StopIteration") (b:=true) ⟨o,ho,hc'⟩ isSubtype_stop ?_)
  exact Dt ⟨rfl,I'⟩
 self:=fun _ _ _ _ _ st h=>wpAny_pyIter_zip st.1 h
abbrev jY(h:Heap)(a:Addr):Heap:=h.push { cls:=.type "tuple_iterator",data:=.fields #[.ref a,.int 0 0] }
abbrev ka(h:Heap)(a b:Addr):Heap:=(jY h a).push { cls:=.type "tuple_iterator",data:=.fields #[.ref b,.int 0 0] }
abbrev jr(h:Heap)(a b:Addr):Heap:=(ka h a b).push { cls:=.type "tuple",data:=.seq #[.ref h.objs.size,.ref (jY h a).objs.size] }
abbrev jZ(h:Heap)(a b:Addr):Heap:=(jr h a b).push { cls:=.type "tuple",data:=.seq #[.none,.none] }
abbrev g7(h:Heap)(a b:Addr):Heap:=(jZ h a b).push { cls:=.type "zip",data:=.fields #[.none,.bool false,.bool false,.ref (ka h a b).objs.size,.ref (jr h a b).objs.size] }
theorem A1(a b:Addr)(xs ys:Array Value):Meets (Builtin.«zip.__new__» ⟨[.type "zip",.ref a,.ref b],[]⟩) (fun _ R s=>s.heap.IsTuple a xs/\s.heap.IsTuple b ys/\R (.ok (.ret (.ref (jZ s.heap a b).objs.size))) { s with heap:=g7 s.heap a b }):=
 .of_wp fun prog w A R s q=>by
  obtain⟨hp,g,d,tk,os⟩:=s;obtain⟨ga,gb,q⟩:=q
  have hsub:=sub_zip
  have gA:Heap.IsTuple (Shared.heap ⟨hp,g,d,tk,os⟩) a xs:=ga
  have gB:Heap.IsTuple (Shared.heap ⟨hp.push { cls:=.type "tuple_iterator",data:=.fields #[.ref a,.int 0 0] },g,d,tk,os⟩) b ys:=Heap.IsTuple.push gb _
  wp_walk using wpAny_pyIter_tuple gA,wpAny_pyIter_tuple gB
  exact⟨_,rfl,q⟩
theorem xM{prog:Program}{w:World}{A:Around}{E:Value->Shared->Prop}{s:Shared}{a b:Addr}{xs ys:Array Value}{Q:Value->Shared->Prop}(ga:s.heap.IsTuple a xs)(gb:s.heap.IsTuple b ys)
  (q:∀h',IsZip h' (s.heap.objs.size+4) (s.heap.objs.size+2) (s.heap.objs.size+3) .none->IsPair h' (s.heap.objs.size+2) (.ref s.heap.objs.size) (.ref (s.heap.objs.size+1))->IsPair h' (s.heap.objs.size+3) .none .none →
   h'.IsTupleIter s.heap.objs.size a 0->h'.IsTupleIter (s.heap.objs.size+1) b 0->(∀c o,s.heap.get? c=some o->h'.get? c=some o)->Q (.ref (s.heap.objs.size+4)) { s with heap:=h' }) :
  wpAny (model prog w) A (call (.type "zip") [.ref a,.ref b]) Q E s:=by
 refine callType_new F.called_zip (by decide) (F.typeCall_zip_2 _ _) (F.newCall_zip_2 _ _) (fun ob=>F.args_object_init_3 ob _ _) F.entry_zip_new (A1 a b xs ys) ⟨ga,gb,?_⟩
 have n1:(jY s.heap a).objs.size=s.heap.objs.size+1:=Heap.size_push ..
 have n2:(ka s.heap a b).objs.size=s.heap.objs.size+2:=by rw[Heap.size_push,n1]
 have n3:(jr s.heap a b).objs.size=s.heap.objs.size+3:=by rw[Heap.size_push,n2]
 have n4:(jZ s.heap a b).objs.size=s.heap.objs.size+4:=by rw[Heap.size_push,n3]
 have k5:(g7 s.heap a b).get? (jZ s.heap a b).objs.size=some _:=Dw _ rfl
 have k4:(g7 s.heap a b).get? (jr s.heap a b).objs.size=some _:=Dv _ (Dw _ rfl)
 have k3:(g7 s.heap a b).get? (ka s.heap a b).objs.size=some _:=Dv _ (Dv _ (Dw _ rfl))
 have k2:(g7 s.heap a b).get? (jY s.heap a).objs.size=some _:=Dv _ (Dv _ (Dv _ (Dw _ rfl)))
 have k1:(g7 s.heap a b).get? s.heap.objs.size=some _:=Dv _ (Dv _ (Dv _ (Dv _ (Dw _ rfl))))
 show _/\_
 rw[n2,n3,n4]at k5
 rw[n1,n2]at k3
 rw[n3]at k4
 rw[n1]at k2
 rw[n4]
 exact⟨⟨_,k5,rfl⟩,q _ k5 k3 k4 ⟨_,k1,rfl,rfl⟩ ⟨_,k2,rfl,rfl⟩ fun c o x=>Dv _ (Dv _ (Dv _ (Dv _ (Dv _ x))))⟩
section
variable {K:Du} {σ:St} {H:Hp} {Q:VK}
def nF(K:Du):List V->Hp->(It->Hp->Prop)->Prop:=fun vs H R=>∃a b xs ys,vs=[.ref a,.ref b]/\((ah K H a xs/\ah K H b ys/\R (gM (cQ K a) (cQ K b)) H)\/(ag K H a xs/\ag K H b ys/\R (gM (cZ K a) (cZ K b)) H))
def wo(K:Du)(ta:TA):TI:=fun σ H R=>ta σ H fun vs H1=>nF K vs H1 R
theorem y4{X:Cx}{elts:List Expr}{kk:Nat}{ps:Pos}(K:Du){a b:Expr}{ta:TA}{p pos:Pos}(hg:Gl X "zip")(hm:X.mg "zip" = none)(ha:PA X [a,b] ta)(hK:X.K=K:=by rfl)(hs:starEach [a,b] X.env=[(false,eval a X.env),(false,eval b X.env)]:=by rfl)(hs2:starEach [b] X.env=[(false,eval b X.env)]:=by rfl):
  PI X (.Tuple elts kk ps) (.Call (.Name "zip" p) [a,b] [] pos) (wo K ta):=by
 subst hK
 intro pins s σ H R I h
 refine Call_ (fX I hg hm PyProof.Rows.boot_zip (PyProof.Rows.callWith_type1 (av (ha pos pins s σ H _ I h) fun us s1 ⟨vs,H1,I1,r1,q1⟩=>?_) (by rw[hs,hs2]) (by rw[hs2];rfl)))
 obtain⟨l,m,xs,ys,e,q1⟩:=q1
 subst e
 cases r1 with
 | cons r rr=>
  cases rr with
  | cons r' rr=>
   cases rr
   cases r
   cases r'
   have mk:∀{J1 J2:It} {t1 t2:Nat->Heap->Prop},Sub X.prog X.w X.K J1 s1.heap.objs.size t1->Sub X.prog X.w X.K J2 (s1.heap.objs.size+1) t2->∀h',IsZip h' (s1.heap.objs.size+4) (s1.heap.objs.size+2) (s1.heap.objs.size+3) .none->IsPair h' (s1.heap.objs.size+2) (.ref s1.heap.objs.size) (.ref (s1.heap.objs.size+1)) →
     IsPair h' (s1.heap.objs.size+3) .none .none->t1 0 h'->t2 0 h'->(∀c o,s1.heap.get? c=some o->h'.get? c=some o)->R (gM J1 J2) H1->wpAny (model X.prog X.w) X.A (pyIter (.ref (s1.heap.objs.size+4))) (lS X pins σ (.Tuple elts kk ps) R) X.xe { s1 with heap:=h' }:=by
    intro J1 J2 t1 t2 S1 S2 h' gz gI gO g1 g2 k q
    refine wpAny_pyIter_zip (s:={ s1 with heap:=h' }) gz ?_
    have N:Apart (s1.heap.objs.size+4) (s1.heap.objs.size+2) (s1.heap.objs.size+3) s1.heap.objs.size (s1.heap.objs.size+1):=by
     constructor<;>(intro h;have h':@Eq Nat _ _:=h;omega)
    refine⟨s1.heap.objs.size+4,[s1.heap.objs.size+4,s1.heap.objs.size+2,s1.heap.objs.size+3,s1.heap.objs.size,s1.heap.objs.size+1],_,_,H1,rfl,I1.kept (t':=s1.toks) k,BX S1 S2 N,⟨gz,gI,⟨_,_,gO⟩,g1,g2⟩,fun b hb=>?_,q⟩
    have le:@LE.le Nat _ s1.heap.objs.size b:=by
     simp only[DM,Ec,or_false]at hb
     rcases hb with rfl | rfl | rfl | rfl | rfl
     ·exact Nat.le_add_right _ _
     ·exact Nat.le_add_right _ _
     ·exact Nat.le_add_right _ _
     ·exact DR _
     ·exact Nat.le_add_right _ _
    exact I1.fpOk le (I1.hok.fresh le)
   rcases q1 with⟨ga,gb,q⟩ | ⟨ga,gb,q⟩
   ·obtain⟨its,_,p1,_⟩:=I1.tuple ga
    obtain⟨its2,_,p2,_⟩:=I1.tuple gb
    exact xM (show s1.heap.IsTuple l its.toArray from p1) (show s1.heap.IsTuple m its2.toArray from p2) fun h' gz gI gO g1 g2 k=>mk (qC l _) (qC m _) h' gz gI gO g1 g2 k q
   ·obtain⟨its,_,p1,_⟩:=I1.list ga
    obtain⟨its2,_,p2,_⟩:=I1.list gb
    exact call_zip_2 p1.isList p2.isList fun h' gz gI gO g1 g2 _ k=>mk (uL l _) (uL m _) h' gz gI gO g1 g2 k q
theorem rd_zip{a:TA}{R:It->Hp->Prop}(h:a σ H fun vs H1=>nF K vs H1 R):wo K a σ H R:=h
theorem BK{a b:Addr}{xs ys:List V}{R:It->Hp->Prop}(ha:ah K H a xs)(hb:ah K H b ys)(h:R (gM (cQ K a) (cQ K b)) H):nF K [.ref a,.ref b] H R:=⟨a,b,xs,ys,rfl,.inl ⟨ha,hb,h⟩⟩
theorem AG{a b:Addr}{xs ys:List V}{n:Nat}{js:List Nat}{g:TG}{tc:TT}{te:TE}(Pv:Nat->List V->Hp->Prop)(hz:xs.length<=sizeLine)(h0:Pv 0 [] H)(hl:∀i zs H,Pv i zs H->ah K H a xs/\ah K H b ys/\zs.length<=i)
  (hs:∀i u v zs H p H',xs[i]?=some u->ys[i]?=some v->Pv i zs H->Ext H H'->H' p=some (.tup [u,v])->H p=none->g (.ref p) (cW n js σ) H' fun σ2 H3=>tc σ2 H3 fun b H4=>if b=true then te σ2 H4 fun v H5=>Pv (i+1) (zs++[v]) H5 else Pv (i+1) zs H4)
  (hd:∀zs H p,Pv (min xs.length ys.length) zs H->H p=none->Q (.ref p) (upd H p (.lst zs))):fP (gM (cQ K a) (cQ K b)) n js g tc te σ H Q:=by
 refine⟨fun i m zs H=>m=min xs.length ys.length-i/\i<=min xs.length ys.length/\Pv i zs H,⟨min xs.length ys.length,by simp,Nat.zero_le _,h0⟩,?_⟩
 rintro i m zs H ⟨rfl,hi,p⟩
 obtain⟨qa,qb,ql⟩:=hl i zs H p
 by_cases hlt:i<min xs.length ys.length
 ·have hx:i<xs.length:=by omega
  have hy:i<ys.length:=by omega
  refine .inr ⟨⟨⟨xs,xs[i],qa,by simp[hx]⟩,⟨ys,ys[i],qb,by simp[hy]⟩⟩,by omega,Pv (i+1),fun zs' H' p'=>⟨min xs.length ys.length-(i+1),by omega,rfl,hlt,p'⟩,fun x H' y=>?_⟩
  obtain⟨pp,u,v,rfl,hn,rfl,yu,yv⟩:=y
  exact hs i u v zs H pp _ (yu.2 xs qa) (yv.2 ys qb) p (aZ hn) aH hn
 ·have e:i=min xs.length ys.length:=by omega
  refine .inl ⟨?_,fun p' hp=>hd zs H p' (e ▸ p) hp⟩
  by_cases h:xs.length<=i
  ·exact .inl ⟨xs,qa,h⟩
  ·exact .inr ⟨⟨xs,xs[i]'(by omega),qa,Dz (by omega)⟩,⟨ys,qb,by omega⟩⟩
end
theorem zR{prog:Program}{w:World}{A:Around}{E:Value->Shared->Prop}{s:Shared}{t sl:Addr}{ys:Array Value}{vl vu:Value}{lo hi:Option Int}{Q:Value->Shared->Prop}(gt:IsTup s.heap t ys)(gs:s.heap.IsSliceOf sl vl vu .none)(pl:IsPart vl lo)(pu:IsPart vu hi)
  (gw:HT.aL ys.size 0 lo=0/\HT.aL ys.size ys.size hi=ys.size) (q:Q (.ref t) s):wpAny (model prog w) A (getItem (.ref t) (.ref sl)) Q E s:=by
 obtain⟨u,gu,gc,gd⟩:=id gs
 have gT:s.TypeIs (.ref sl) "slice":=⟨u,gu,gc⟩
 unfold getItem
 try with_reducible refine wpAny_holding ?_
 first | refine Dr (Dt ?_) | skip
 refine Dr (wpAny_sequenceKey gt.typeIs (by decide) ?_)
 refine Dr (wpAny_callSpecial?_slot (name:=Str.ofString "__getitem__") gt.typeIs PyProof.Rows.slot_tuple_getitem (wpAny_call_entry PyProof.Rows.slot_tuple_getitem gt.typeIs entry_tuple_getitem ?_ (args_tuple_getitem _ _)))
 show wpAny _ _ (Builtin.Tuple.tupleItemsOf (Value.ref t) >>= _) _ _ s
 refine Dr (tupleItemsOf_ gt ?_)
 refine Dr (wpAny_typeOf gT ?_)
 rw[if_pos (by decide)]
 refine Dr (HT.tD gs pl pu ?_)
 show wpAny _ _ (if(((HT.aL ys.size 0 lo:Nat):Int) == 0 && (1:Int) == 1 && (HT.aL ys.size ys.size hi-HT.aL ys.size 0 lo) == ys.size)=true then _ else _) _ _ s
 rw[if_pos (by rw[gw.1,gw.2];simp)]
 show wpAny _ _ (Builtin.Tuple.tupleIsExact (Value.ref t) >>= _) _ _ s
 unfold Builtin.Tuple.tupleIsExact
 refine Dr (Dr (wpAny_typeOf gt.typeIs (Dt ?_)))
 rw[if_pos (by decide)]
 refine Dr (wpAny_rule ?_)
 exact Dt ⟨_,rfl,Dt q⟩
def wB:V->Option Int->Option Int->Hp->VK->Prop:=fun x lo hi H Q=>∃a xs,x=.ref a/\H a=some (.tup xs)/\∀p H',Ext H H'->H' p=some (.tup (bX xs lo hi))->Q (.ref p) H'
theorem Bv{X:Cx}:iL X wB:=by
 intro pins s σ H x v vl vu lo hi sl Q I rx hs pl pu h
 obtain⟨a,xs,rfl,hx,q⟩:=h
 by_cases gw:HT.aL xs.length 0 lo=0/\HT.aL xs.length xs.length hi=xs.length
 ·cases rx
  obtain⟨its,r,ht,hz⟩:=I.tuple (ah.of hx)
  have hlen:its.toArray.size=xs.length:=by rw[DD];exact r.length.symm
  refine⟨"tuple",_,PyProof.Rows.slot_tuple_getitem.lookup,ht.typeIs,?_⟩
  refine zR ht hs pl pu (by rw[hlen];exact gw) ⟨.ref a,H,I,rfl,q a H (Ext.rfl' H) ?_⟩
  have:bX xs lo hi=xs:=by
   unfold bX
   rw[gw.1,gw.2,List.drop_zero,Nat.sub_zero,DZ]
  rw[this]
  exact hx
 ·exact BO pins s σ H (.ref a) v vl vu lo hi sl Q I rx hs pl pu ⟨a,xs,rfl,ah.of hx,gw,fun p hp=>q p _ (aZ hp) aH⟩
theorem An{H:Hp}{Q:VK}{a:Addr}{xs:List V}{lo hi:Option Int}(e:H a=some (.tup xs))(h:∀p H',Ext H H'->H' p=some (.tup (bX xs lo hi))->Q (.ref p) H'):wB (.ref a) lo hi H Q:=⟨a,xs,rfl,e,h⟩
end L2
namespace L2
open PySem PySem.Spec PyProof.Rows
mutual
inductive LitE:Expr->TE->Prop
 | non {j pos}:LitE (.Constant .none j pos) (tC .non)
 | bl {b j pos}:LitE (.Constant (.bool b) j pos) (tC (.bl b))
 | int {i j pos}:LitE (.Constant (.int i) j pos) (tC (.int i))
 | str {x j pos}:LitE (.Constant (.str x) j pos) (tC (.str x))
 | tup {es ta k pos}:LitsE es ta->LitE (.Tuple es k pos) (oG ta)
inductive LitsE:List Expr->TA->Prop
 | nil:LitsE [] ml
 | cons {e te es ta}:LitE e te->LitsE es ta->LitsE (e::es) (mS te ta)
end
end L2
namespace L2
open PySem PySem.Spec PyProof.Rows
def eP(c:Addr)(q:Str):HO:=.ext fun h=>h.CodeRec (.ref c) q
theorem xP{P:Program}{w:World}{H:Hp}{h:Heap}{c:Addr}{q:Str}(r:h.CodeRec (.ref c) q):bj P w H h c (eP c q):=by
 refine⟨r,?_,fun h1 h2 r1 k=>?_⟩
 ·obtain⟨c',o,vs,t,e,g,_⟩:=r
  cases e
  exact⟨o,g⟩
 ·obtain⟨c',o,vs,t,e,g,d⟩:=r1
  cases e
  exact⟨c,o,vs,t,rfl,k o g,d⟩
section
variable {X:Cx} {pins:List (Addr×Obj)} {σ:St} {H:Hp} {s:Shared}
end
section
variable {X:Cx} {pins:List (Addr×Obj)} {σ:St} {H:Hp} {s:Shared}
end
end L2
namespace L2
open PySem PySem.Spec PyProof.Rows
structure Tab(K:Du)(mg:Str->Option Value)(base:Heap)(x:Str)(c T:Addr):Prop where
 tin:PySem.W.tabIn K x=some (c,T)
 hd:PySem.W.CodeHd base c T
 blt:base.BuiltinsAt mg T
 gl:mainGlobals≠T
 kin:K.In base
 ns:base.Ns mainGlobals mg
section
variable {P:Program} {w:World} {K:Du} {mg:Str->Option Value} {base:Heap}
theorem wY{x:Str}{c T f:Addr}{o:Obj}{fd:FuncData}(ht:PySem.W.tabIn K x=some (c,T))(KX:K.In base)(G:base.Ns mainGlobals mg)(hm:mg x=some (.ref f))(lk:K.lookup f=some o)(hd:o.data=.func fd):fd.code=.ref c:=by
 unfold PySem.W.tabIn at ht
 split at ht
 ·rename_i f' hf
  have e1:=PySem.W.mg_of KX G hf
  rw[hm]at e1
  cases e1
  split at ht
  ·rename_i hfo
   rw[lk]at hfo
   cases hfo
   cases hd
   split at ht
   ·rename_i c2 hc
    split at ht
    ·split at ht
     ·cases ht;exact hc
     ·cases ht
    ·cases ht
   ·cases ht
  ·cases ht
 ·cases ht
theorem Dfn.okL{x:Str}{st:Stmt}{N ps:List Str}{k:Nat}{sp:Sp}{c T:Addr}(D:Dfn K mg x st ps)(B:Tab K mg base x c T)(S:FnScope N ps (aI st))(len:∀vs H Q E,sp vs H Q E->vs.length=ps.length)
  (hbody:∀(X:Cx) (hX:∃f A outer s H E,X=(fi dk P w K mg base N x (aI st) f (.ref c) A outer s H E).nox/\Room k X.A) (H:Hp) (vs:List V) (Q:VK) (E:XK),sp vs H Q E →
   ∃t,cB X (ef st) t/\t { nx:=fun _ H'=>Q .non H',rt:=Q } (start N vs) H):Cal P w K mg base x (k+1) ps sp:=by
 obtain⟨f,fd,hm,F,hb⟩:=D.ex
 refine⟨f,fd,hm,F.kp,hb,?_⟩
 obtain⟨oc,od,kV,doc,pm,an,cdv,ct,osl,rfl,lk,hcd⟩:=F.ex
 have e:cdv=.ref c:=wY B.tin B.kin B.ns hm lk rfl
 subst e
 refine sE lk hcd S len fun A outer s H vs Q E hr hsp=>?_
 obtain⟨t,h,q⟩:=hbody _ ⟨f,A,outer,s,H,E,rfl,hr⟩ H vs Q E hsp
 exact⟨t,h.nox,q⟩
end
def qx(tabs:List (Addr×Addr))(H:Hp):Prop:=∀q∈tabs,H q.2=some (.tbl #[])
theorem xa{P:Program}{w:World}{K:Du}{mg mb:Str->Option Value}{k:Nat}{fa a:Addr}{fd:FuncData}{x:Str}{sp:Sp}{s₁:Shared}{vs:List Value}{ns:List Int}{tabs:List (Addr×Addr)}
  (KX:K.In s₁.heap) (hK:PySem.W.noTabs K=true) (hT:PySem.W.TabsAt tabs s₁.heap) (hns:s₁.heap.Ns mainGlobals mg) (hb:s₁.heap.Ns builtinsNs mb) (hbb:∀x:Str,x≠"__name__"->mb x=bootBuiltins x) (hlim:s₁.heap.NoLimit)
  (hbm:∃bm ob,mg "__builtins__" = some (.ref bm)/\bm≠builtinsNs/\s₁.heap.get? bm=some ob/\ob.cls=.type "module"/\ob.dict=some builtinsNs/\ob.data=.plain) (hg:s₁.gens = #[])
  (ha:s₁.heap.get? a=some { cls:=.type "list",data:=.seq vs.toArray }) (hi:IntsAre vs ns) (hl:ns.length<=sizeLine) (hr:Room k callerA)
  (F:∀base:Heap,K.In base->base.Ns mainGlobals mg->(∀q∈tabs,PySem.W.CodeHd base q.1 q.2/\base.BuiltinsAt mg q.2/\mainGlobals≠q.2)->FnOk P w K mg base dk k fa fd [x] sp) (hbind:∀(s:Shared) (u:Value),BindsTo s fd ⟨[u],[]⟩ [(x,u)])
  (hsp:∀H:Hp,qx tabs H->ag K H a (ns.map V.int)->sp [.ref a] H (fun v _=>v=.bl true) fun _ _ _=>False) :
  codeAny (model P w) callerA (.call (.ref fa) ⟨[.ref a],[]⟩) (fun r s'=>r=.ok (.ret (.bool true))/\OldK s₁.heap s'.heap/\s'.os=s₁.os/\AllBare s'.gens) s₁:=by
 have rv:=se hi
 have lenV:=hi.length
 have na:∀q∈tabs,a≠q.2:=fun q hq z=>by
  have:=(hT q hq).2
  rw[←z,ha]at this
  cases this
 have noT:∀{b:Addr} {o:Obj},s₁.heap.get? b=some o->o≠PySem.W.tabObj #[]->b∉tabs.map (·.2):=fun{b o} e n hm=>by
  obtain⟨q,hq,rfl⟩:=List.mem_map.mp hm
  have:=(hT q hq).2
  rw[e]at this
  exact n (Option.some.inj this)
 have core:∀H:Hp,qx tabs H->ag K H a (ns.map V.int)->bh P w H s₁.heap->(∀b,H b≠none->b=a\/b∈tabs.map (·.2))->(H a≠none->K.lookup a=none/\∃o xs,H a=some (.frz o (.lst xs))) →
   codeAny (model P w) callerA (.call (.ref fa) ⟨[.ref a],[]⟩) (fun r s'=>r=.ok (.ret (.bool true))/\OldK s₁.heap s'.heap/\s'.os=s₁.os/\AllBare s'.gens) s₁:=by
  intro H hO hS hok hA hKa
  have free:∀{b:Addr} {o:Obj},s₁.heap.get? b=some o->o≠PySem.W.tabObj #[]->b≠a->H b=none:=fun{b o} e n nb=>by
   cases q:H b with
   | none=>rfl
   | some u=>
    rcases hA b (by rw[q];simp)with z | z
    ·exact absurd z nb
    ·exact absurd z (noT e n)
  have nsK:∀{b:Addr} {m:Str->Option Value},s₁.heap.Ns b m->(eF s₁.heap H).Ns b m:=fun{b m} ⟨o,es,ep,e,d,r⟩=>⟨o,es,ep,kr e (free e (fun z=>by rw[z]at d;cases d) fun z=>by rw[z,ha]at e;cases e;cases(show Data.seq vs.toArray _=Data.dict es ep from d)),d,r⟩
  have hKb:K.In (eF s₁.heap H):=fun b o e=>kr (KX b o e) (by
   by_cases z:b=a
   ·subst z
    cases q:H b with
    | none=>rfl
    | some u=>
     have:=(hKa (by rw[q];simp)).1
     rw[this]at e
     cases e
   ·refine free (KX b o e) (fun z2=>?_) z
    have h2:=Ed.mp hK (b,o) (PySem.W.mem_of_lookupK e)
    subst z2
    exact absurd (show false=true from h2) DN)
  have hM:Mod K mg (eF s₁.heap H):=⟨hKb,nsK hns,⟨mb,nsK hb,hbb⟩,let ⟨mc,h1,h2⟩:=hlim;⟨mc,nsK h1,h2⟩⟩
  have e0:Env0 P w K mg (eF s₁.heap H) callerA [] s₁ H:=⟨rfl,hM,fun b o e=>BU e,Nat.le_of_eq (yA _ _),trivial,fun b hb=>absurd (show b∈([]:List Addr)from hb) (by simp),hok,.of_eq hg⟩
  have tabsB:∀q∈tabs,PySem.W.CodeHd (eF s₁.heap H) q.1 q.2/\(eF s₁.heap H).BuiltinsAt mg q.2/\mainGlobals≠q.2:=fun q hq=>by
   refine⟨?_,?_,?_⟩
   ·obtain⟨o,us,file,tf,flags,tg,inF,text,tt,e,hc,r⟩:=(hT q hq).1
    exact⟨o,us,file,tf,flags,tg,inF,text,tt,kr e (free e (fun z=>by rw[z]at hc;cases hc) fun z=>by rw[z,ha]at e;cases e;simp at hc),hc,r⟩
   ·obtain⟨bm,ob,a1,a2,a3,a4,a5⟩:=hbm
    refine⟨bm,ob,a1,a2,fun z=>?_,fun z=>?_,kr a3 (free a3 (fun z=>by rw[z]at a4;cases a4) fun z=>by rw[z,ha]at a3;cases a3;simp at a4),a4,a5⟩
    ·obtain⟨o,es,ep,e,d,_⟩:=hns
     rw[←z,a3]at e
     cases e
     rw[a5.2]at d
     cases d
    ·have:=(hT q hq).2
     rw[←z,a3]at this
     cases this
     cases a4
   ·intro z
    obtain⟨o,es,ep,e,d,_⟩:=hns
    have:=(hT q hq).2
    rw[←z,e]at this
    cases this
    cases d
  refine codeAny_mono ((F _ hKb (nsK hns) tabsB).run callerA [] s₁ H ⟨[.ref a],[]⟩ [.ref a] [.ref a] _ _ hr e0 (hbind s₁ (.ref a)) (.cons rfl .nil) (hsp H hO hS)) fun r s' h=>?_
  cases r with
  | error e=>exact False.elim h
  | ok fl=>
   cases fl with
   | next=>exact False.elim h
   | brk=>exact False.elim h
   | cont=>exact False.elim h
   | ret u=>
    obtain⟨v,H',os,bare,un,hok',r',q⟩:=h
    have q':v=.bl true:=q
    subst q'
    obtain rfl:u=Value.bool true:=r'
    have keep:∀b o,s₁.heap.get? b=some o->b∉tabs.map (·.2)->s'.heap.get? b=some o:=fun b o e nt=>by
     cases q:H b with
     | none=>exact un.keep b o e q (by intro z;exact absurd (show b∈([]:List Addr)from z) (by simp)) (by simp)
     | some u=>
      rcases hA b (by rw[q];simp)with z | z
      ·subst z
       obtain⟨_,ob,xs,z⟩:=hKa (by rw[q];simp)
       have z2:=un.frzs b ob _ z
       obtain⟨e1,_⟩:=hok b _ z
       obtain⟨e2,_⟩:=hok' b _ z2
       rw[e]at e1;cases e1
       exact e2
      ·exact absurd z nt
    have grown:∀q∈tabs,∃more,s'.heap.get? q.2=some (PySem.W.tabObj (#[]++more)):=fun q hq=>by
     obtain⟨more,e⟩:=un.tbls q.2 _ (hO q hq)
     exact⟨more,hok' q.2 _ e⟩
    refine⟨rfl,⟨fun b o e=>?_,fun b o e=>?_⟩,os,bare⟩
    ·by_cases hm:b∈tabs.map (·.2)
     ·obtain⟨q,hq,rfl⟩:=List.mem_map.mp hm
      obtain⟨more,g⟩:=grown q hq
      have e2:=(hT q hq).2
      rw[e]at e2
      cases e2
      exact .inr (.inl ⟨((hT q hq).1.tab (hT q hq).2).isCodeTable,rfl,#[],more,rfl,g⟩)
     ·exact .inl (keep b o e hm)
    ·by_cases hm:b∈tabs.map (·.2)
     ·obtain⟨q,hq,rfl⟩:=List.mem_map.mp hm
      obtain⟨more,g⟩:=grown q hq
      exact⟨_,g⟩
     ·exact⟨o,keep b o e hm⟩
 have hTok:∀(H:Hp) b,b∈tabs.map (·.2)->bj P w H s₁.heap b (.tbl #[]):=fun H b hm=>by
  obtain⟨q,hq,rfl⟩:=List.mem_map.mp hm
  exact(hT q hq).2
 cases hk:K.lookup a with
 | some o=>
  have e:=KX a o hk
  rw[ha]at e
  cases e
  have at_:∀b,(if b∈tabs.map (·.2)then some (HO.tbl #[])else none)=(none:Option HO)\/b∈tabs.map (·.2):=fun b=>by
   by_cases hb:b∈tabs.map (·.2)
   ·exact .inr hb
   ·exact .inl (if_neg hb)
  have nota:a∉tabs.map (·.2):=fun hm=>by
   obtain⟨q,hq,e⟩:=List.mem_map.mp hm
   exact na q hq e.symm
  refine core (fun b=>if b∈tabs.map (·.2)then some (.tbl #[])else none) (fun q hq=>if_pos (List.mem_map.mpr ⟨q,hq,rfl⟩)) (.inr ⟨_,vs.toArray,_,hk,rfl,rfl,rfl,by rw[DD,lenV];exact hl,by simpa using rv⟩) (fun b u z=>?_) (fun b z=>?_) fun z=>absurd (if_neg nota) z
  ·by_cases hb:b∈tabs.map (·.2)
   ·have z':=(if_pos hb).symm.trans z
    cases z'
    exact hTok _ b hb
   ·have z':=(if_neg hb).symm.trans z
    cases z'
  ·rcases at_ b with h | h
   ·exact absurd h z
   ·exact .inr h
 | none=>
  have nota:a∉tabs.map (·.2):=fun hm=>by
   obtain⟨q,hq,e⟩:=List.mem_map.mp hm
   exact na q hq e.symm
  refine core (fun b=>if b=a then some (.frz { cls:=.type "list",data:=.seq vs.toArray } (.lst (ns.map V.int)))else if b∈tabs.map (·.2)then some (.tbl #[])else none) (fun q hq=>?_) (.inl (.inr ⟨{ cls:=.type "list",data:=.seq vs.toArray },if_pos rfl⟩)) (fun b u z=>?_) (fun b z=>?_) fun _=>⟨hk,_,_,if_pos rfl⟩
  ·show(if q.2=a then _ else _)=_
   rw[if_neg (Ne.symm (na q hq)),if_pos (List.mem_map.mpr ⟨q,hq,rfl⟩)]
  ·by_cases hb:b=a
   ·have z':=(if_pos hb).symm.trans z
    cases z'
    subst hb
    exact⟨ha,by rw[Dy];exact hl,vs,_,rv,ha⟩
   ·have z':=(if_neg hb).symm.trans z
    by_cases hb2:b∈tabs.map (·.2)
    ·have z2:=(if_pos hb2).symm.trans z'
     cases z2
     exact hTok _ b hb2
    ·have z2:=(if_neg hb2).symm.trans z'
     cases z2
  ·by_cases hb:b=a
   ·exact .inl hb
   ·by_cases hb2:b∈tabs.map (·.2)
    ·exact .inr hb2
    ·exact absurd ((if_neg hb).trans (if_neg hb2)) z
theorem ya{l:PySem.W.OpenLaw}{n k:Nat}{q:Program}{loose:List Str}{XP:(Str->Option Value)->Heap->Prop}{YP:World->Heap->Prop}{d:DefRec}{K:Params->Du}{sp:World->Sp}{x:Str}(xs:List Str)
  (hn:l.most=some n) (hn2:n<=sizeLine) (hdf:d.params.defaults=[]) (hr:Room k callerA)
  (hY:∀(w:World) (h:Heap),YP w h->(K w.params).In h) (hK:∀w:World,PySem.W.noTabs (K w.params)=true) (hrec:∀y∈xs,((recsOf q).find? (fun e=>e.name == y)).isSome=true) (htab:∀(w:World),∀y∈xs,(PySem.W.tabIn (K w.params) y).isSome=true)
  (F:∀(w:World) (mg:Str->Option Value) (fa:Addr) (h:Heap),(K w.params).In h->h.Ns mainGlobals mg->mg d.name=some (.ref fa) →
   ∃fd:FuncData,(∀(s:Shared) (u:Value),BindsTo s fd ⟨[u],[]⟩ [(x,u)]) ∧
    ∀base:Heap,(K w.params).In base->base.Ns mainGlobals mg->(∀y∈xs,∃c T,Tab (K w.params) mg base y c T)->FnOk l.prog w (K w.params) mg base dk k fa fd [x] (sp w))
  (hsp:∀(w:World) (H:Hp) (a:Addr) (ns:List Int),ns.length<=n->(∀y∈xs,∀c T,PySem.W.tabIn (K w.params) y=some (c,T)->H T=some (.tbl #[]))->ag (K w.params) H a (ns.map V.int)->sp w [.ref a] H (fun v _=>v=.bl true) fun _ _ _=>False) :
  PySem.W.WalkO q loose XP YP l.row.toRowW d [] (fun f vs=>PySem.call f vs):=by
 refine Att.Bt hn hdf fun w s₀ s₁ mg mb fa o pm cd doc a vs ns G Y ho hd hcd hmg hobj hints hlen hg=>?_
 have KX:=hY w _ Y
 obtain⟨fd,hb,hF⟩:=F w mg fa _ KX G.T.g hmg
 have hT:PySem.W.TabsAt (xs.filterMap (PySem.W.tabIn (K w.params))) s₁.heap:=fun p hp=>by
  obtain⟨y,hy,e⟩:=List.mem_filterMap.mp hp
  obtain⟨dr,er⟩:=Option.isSome_iff_exists.mp (hrec y hy)
  exact PySem.W.tab_of G.T KX er e
 refine xa KX (hK w) hT G.T.g G.T.b G.T.builtins G.T.nolimit G.T.bmain hg hobj hints (Eb hlen hn2) hr (fun base kb nb tb=>hF base kb nb fun y hy=>?_) hb fun H hO hS=>hsp w H a ns hlen (fun y hy c T e=>hO (c,T) (List.mem_filterMap.mpr ⟨y,hy,e⟩)) hS
 obtain⟨⟨c,T⟩,e⟩:=Option.isSome_iff_exists.mp (htab w y hy)
 obtain⟨h1,h2,h3⟩:=tb (c,T) (List.mem_filterMap.mpr ⟨y,hy,e⟩)
 exact⟨c,T,e,h1,h2,h3,kb,nb⟩
end L2
namespace L2
open PySem PySem.Spec PyProof.Rows
section
variable {prog:Program} {w:World} {A:Around} {E:Value->Shared->Prop}
theorem t9{it l:Addr}{ys:Array Value}(ne:l≠it):∀(n i:Nat) (s:Shared) (Q:List Value->Shared->Prop),s.heap.IsListIter it l i->s.heap.IsList l ys->i+n<=ys.size →
  (∀h',h'.IsListIter it l (i+n)->Heap.SameBut it s.heap h'->Q ((ys.toList.drop i).take n) { s with heap:=h' })->wpAny (model prog w) A (draw (.ref it) n) Q E s
 | 0,i,s,Q,gi,_,_,q=>by
  show wpAny _ _ (pure []) Q E s
  exact Dt (by simpa using q s.heap gi (Heap.SameBut.refl ..))
 | n+1,i,s,Q,gi,gl,le,q=>by
  have lt:i<ys.size:=by omega
  show wpAny _ _ (pyNext (Value.ref it) >>= _) Q E s
  refine Dr (wpAny_pyNext_list_item gi gl (x:=ys[i]) (by simp[lt]) fun k1 g1 b1=>?_)
  refine Dr (wpAny_holding (t9 ne n (i+1) _ _ g1 (gl.extBut b1.extBut ne) (by omega) fun k2 g2 b2=>Dt ?_))
  have e:ys.toList.drop i=ys[i]::ys.toList.drop (i+1):=by simp[List.drop_eq_getElem_cons,lt]
  have:=q k2 (by rw[show i+(n+1)=i+1+n by omega];exact g2) (b1.trans b2)
  rw[e,List.take_succ_cons]at this
  exact this
theorem Ap{s:Shared}{l:Addr}{ys:Array Value}{Q:List Value->Shared->Prop}(hA:A.handled=none)(gl:s.heap.IsList l ys)
  (q:∀h',Heap.ExtBut s.heap.objs.size s.heap h'->Q ys.toList { s with heap:=h' }):wpAny (model prog w) A (unpackItems (.ref l) ys.size none) Q E s:=by
 have lt:l≠s.heap.objs.size:=by obtain⟨o,e,_⟩:=gl;exact DQ (Dx e)
 unfold unpackItems
 refine Dr ?_
 unfold notIterableAtAll
 refine Dr (wpAny_specialOf gl.typeIs slot_list_iter.lookup ?_)
 refine Dt ?_
 simp only[Bool.false_eq_true,if_false]
 refine Dr (wpAny_holding (wpAny_pyIter_list gl ?_))
 refine Dr (wpAny_holding (t9 lt ys.size 0 _ _ ⟨_,Dw _ rfl,rfl,rfl⟩ (gl.push _) (by omega) fun k1 g1 b1=>?_))
 rw[show List.take ys.size (List.drop 0 ys.toList)=ys.toList by rw[List.drop_zero];exact List.take_of_length_le (by simp),if_neg (by simp)]
 refine Dr (wpAny_holding (wpAny_pyNext_list_end hA g1 ((gl.push _).extBut b1.extBut lt) (by simp) fun k2 b2=>?_))
 simp only[Option.isSome_none,Bool.false_eq_true,if_false]
 exact Dt (q k2 fun b o nb e=>b2 b o nb (b1.extBut b o nb (Dv _ e)))
theorem BY{s:Shared}{env:Env}{es:List Expr}{k:Nat}{pos:Pos}{l:Addr}{ys:Array Value}{Q:Unit->Shared->Prop}(hA:A.handled=none)(gl:s.heap.IsList l ys)(hn:(assignEach es env).length=ys.size)(hst:(assignEach es env).findIdx? (·.1)=none)
  (h:∀h',Heap.ExtBut s.heap.objs.size s.heap h'->wpAny (model prog w) A (assignInOrder ((assignEach es env).map (·.2)) ys.toList) Q E { s with heap:=h' }):wpAny (model prog w) A (assign (.Tuple es k pos) env (.ref l)) Q E s:=by
 rw[arm_assign_Tuple]
 refine Dr (wpAny_standAt ?_)
 unfold unpack
 rw[hn,hst]
 exact Dr (wpAny_holding (Ap hA gl h))
end
section
variable {X:Cx} {pos:Pos}
def vE(K:Du)(n:Nat)(t:dv):TG:=fun v σ H Q=>∃a xs,v=.ref a/\ag K H a xs/\xs.length=n/\t xs σ H Q
theorem wN{es:List Expr}{k:Nat}{t:dv}{n:Nat}(K:Du)(hc:X.calm=true)(h:gN X es t)(hK:X.K=K:=by rfl)
  (hn:(assignEach es X.env).length=n:=by rfl) (hst:(assignEach es X.env).findIdx? (·.1)=none:=by rfl):PG X (.Tuple es k pos) (vE K n t):=by
 subst hK
 intro pins s σ H v u Q I r hw
 obtain⟨a,xs,e1,hq,hl,hw⟩:=hw
 subst e1
 cases r
 obtain⟨its,rv,ht,hz⟩:=I.list hq
 refine BY (I.ok.hd hc) ht.isList (by simp[hn,←hl,rv.length]) hst fun h' hx=>?_
 have I1:Inv X pins σ H { s with heap:=h' }:=I.kept (t':=s.toks) fun b o e=>hx b o (DQ (Dx e)) e
 exact h pins _ σ H xs _ Q I1 (by simpa using rv) hw
end
theorem AV{K:Du}{σ:St}{H:Hp}{n:Nat}{g:dv}{a:Addr}{xs:List V}{R:St->Hp->Prop}(e:ag K H a xs)(hl:xs.length=n)(h:g xs σ H R):vE K n g (.ref a) σ H R:=⟨a,xs,rfl,e,hl,h⟩
theorem rd_par{i j:Nat}{ta:TA}{D:Ends}{σ:St}{H:Hp}(h:ta σ H fun vs H1=>∃v w,vs=[v,w]/\D.nx ((σ.set i (some v)).set j (some w)) H1):rM i j ta D σ H:=h
theorem rd_par2{v w:V}{R:V->V->Prop}(h:R v w):∃a b,[v,w]=[a,b]/\R a b:=⟨v,w,rfl,h⟩
def Et(H H':Hp):Prop:=∀b o,H b=some o->(∀ps,o≠.tbl ps)->H' b=some o
theorem Ext.et{H H':Hp}(e:Ext H H'):Et H H':=fun b o h _=>e b o h
theorem Et.trans{H H1 H2:Hp}(a:Et H H1)(b:Et H1 H2):Et H H2:=fun x o h n=>b x o (a x o h n) n
def dj(K:Du)(x q:Str)(line col:Nat)(H:Hp):Prop:=∀c T,PySem.W.tabIn K x=some (c,T) →
 H T=some (.tbl #[])\/∃c',H T=some (.tbl #[rawInt line,rawInt col,.ref c'])/\H c'=some (eP c' q)
theorem dj.ext{K:Du}{x q:Str}{line col:Nat}{H H':Hp}(e:Ext H H')(h:dj K x q line col H):dj K x q line col H':=fun c T ht=>by
 rcases h c T ht with h | ⟨c',h1,h2⟩
 ·exact .inl (e _ _ h)
 ·exact .inr ⟨c',e _ _ h1,e _ _ h2⟩
end L2
namespace L2
open PySem PySem.Spec PyProof.Rows
section
variable {κ:Type} [DecidableEq κ]
def bB(kvs:List (κ×V))(k:κ):Option V:=(kvs.find? fun kv=>decide (kv.1=k)).map (·.2)
def putK(kvs:List (κ×V))(k:κ)(v:V):List (κ×V):=
 if(kvs.any fun kv=>decide (kv.1=k))=true then kvs.map (fun kv=>if kv.1=k then(kv.1,v)else kv)else kvs++[(k,v)]
theorem jR{p:κ×V}{r:List (κ×V)}{k:κ}(e:p.1=k):bB (p::r) k=some p.2:=by simp[bB,List.find?_cons,e]
theorem ja{p:κ×V}{r:List (κ×V)}{k:κ}(e:¬p.1=k):bB (p::r) k=bB r k:=by simp[bB,List.find?_cons,e]
theorem nW(k:κ):∀kvs:List (κ×V),(kvs.any fun kv=>decide (kv.1=k))=(bB kvs k).isSome
 | []=>rfl
 | p::r=>by
  rw[List.any_cons]
  by_cases e:p.1=k
  ·simp only[jR e,decide_eq_true e,Bool.true_or,Option.isSome_some]
  ·rw[ja e,decide_eq_false e,Bool.false_or];exact nW k r
theorem mY(kvs:List (κ×V))(k:κ)(v:V):(putK kvs k v).length<=kvs.length+1:=by
 unfold putK
 split
 ·rw[Dy];omega
 ·rw[DP,DY,List.length_nil];omega
theorem oX{kvs:List (κ×V)}{k:κ}(v:V)(h:bB kvs k=none):putK kvs k v=kvs++[(k,v)]:=by
 unfold putK
 rw[nW,h]
 exact if_neg (by decide)
theorem dF.isSome_eq{o:Option V}{u:Option Value}(r:dF o u):o.isSome=u.isSome:=by
 cases o with
 | none=>cases u with
  | none=>rfl
  | some _=>exact(show False from r).elim
 | some _=>cases u with
  | none=>exact(show False from r).elim
  | some _=>rfl
theorem KV.val{kvs:List (κ×V)}{vs:List (κ×Value)}(r:KV kvs vs)(k:κ):dF (bB kvs k) (valueAt vs k):=by
 unfold KV at r
 induction r with
 | nil=>exact True.intro
 | @cons p q ps qs h t ih=>
  obtain⟨h1,h2⟩:=h
  by_cases e:p.1=k
  ·have e':q.1=k:=h1.symm.trans e
   have b:valueAt (q::qs) k=some q.2:=by simp[valueAt,List.find?_cons,e']
   rw[jR e,b];exact h2
  ·have e':¬q.1=k:=fun z=>e (h1.trans z)
   have b:valueAt (q::qs) k=valueAt qs k:=by simp[valueAt,List.find?_cons,e']
   rw[ja e,b];exact ih
theorem KV.any{kvs:List (κ×V)}{vs:List (κ×Value)}(r:KV kvs vs)(k:κ):(kvs.any fun kv=>decide (kv.1=k))=vs.any fun kv=>decide (kv.1=k):=by
 unfold KV at r
 induction r with
 | nil=>rfl
 | cons h t ih=>rw[List.any_cons,List.any_cons,ih,h.1]
theorem KV.repl{kvs:List (κ×V)}{vs:List (κ×Value)}(r:KV kvs vs)(k:κ){y:V}{u:Value}(ry:RelV y u):
  KV (kvs.map fun kv=>if kv.1=k then(kv.1,y)else kv) (vs.map fun kv=>if kv.1=k then(kv.1,u)else kv):=by
 unfold KV at r ⊢
 induction r with
 | nil=>exact .nil
 | @cons p q ps qs h t ih=>
  rw[List.map_cons,List.map_cons]
  refine .cons ?_ ih
  obtain⟨h1,h2⟩:=h
  by_cases e:p.1=k
  ·rw[if_pos e,if_pos (h1.symm.trans e)];exact⟨h1,ry⟩
  ·rw[if_neg e,if_neg (fun z=>e (h1.trans z))];exact⟨h1,h2⟩
theorem KV.put{kvs:List (κ×V)}{vs:List (κ×Value)}(r:KV kvs vs)(k:κ){y:V}{u:Value}(ry:RelV y u):KV (putK kvs k y) (stored vs k u):=by
 unfold putK stored
 rw[r.any k]
 by_cases e:(vs.any fun kv=>decide (kv.1=k))=true
 ·rw[if_pos e,if_pos e];exact r.repl k ry
 ·rw[if_neg e,if_neg e];exact Paired.snoc r ⟨rfl,ry⟩
theorem KV.keys{kvs:List (κ×V)}{vs:List (κ×Value)}(r:KV kvs vs):kvs.map (·.1)=vs.map (·.1):=by
 unfold KV at r
 induction r with
 | nil=>rfl
 | cons h t ih=>rw[List.map_cons,List.map_cons,ih,h.1]
theorem KV.length{kvs:List (κ×V)}{vs:List (κ×Value)}(r:KV kvs vs):kvs.length=vs.length:=Paired.length r
end
theorem fG{P:Program}{w:World}{k:Key}{u:Value}(r:RelV (kV k) u):(bU P w).is k u=true:=by
 cases k with
 | inl i=>obtain⟨t,e⟩:=(show ∃t,u=Value.int i t from r);subst e;exact xp P w i t
 | inr x=>obtain⟨t,e⟩:=(show ∃t,u=Value.str x t from r);subst e;exact lT P w x t
theorem mM{P:Program}{w:World}:∀{ks:List Key} {us:List Value},Vals (ks.map kV) us->ItemsAre (bU P w) ks us
 | [],_,r=>by rw[List.map_nil]at r;cases r;exact .nil
 | k::ks,_,r=>by
  rw[List.map_cons]at r
  cases r with
  | cons h t=>exact .cons (fG h) (mM t)
abbrev KT(H:Hp):List (List Key×V)->List (List Key×Addr×Value)->Prop:=Paired fun p q=>p.1=q.1/\H q.2.1=some (.tup (p.1.map kV))/\RelV p.2 q.2.2
theorem KT.val{H:Hp}{kvs:List (List Key×V)}{xs:List (List Key×Addr×Value)}(r:KT H kvs xs)(k:List Key):dF (bB kvs k) ((atKey xs k).map (·.2)):=by
 induction r with
 | nil=>exact True.intro
 | @cons p q ps qs h t ih=>
  obtain⟨h1,_,h2⟩:=h
  by_cases e:p.1=k
  ·have e':q.1=k:=h1.symm.trans e
   have b:atKey (q::qs) k=some q.2:=by simp[atKey,List.find?_cons,e']
   rw[jR e,b];exact h2
  ·have e':¬q.1=k:=fun z=>e (h1.trans z)
   have b:atKey (q::qs) k=atKey qs k:=by simp[atKey,List.find?_cons,e']
   rw[ja e,b];exact ih
theorem KT.repl{H:Hp}{kvs:List (List Key×V)}{xs:List (List Key×Addr×Value)}(r:KT H kvs xs)(k:List Key){y:V}{u:Value}(ry:RelV y u):
  KT H (kvs.map fun kv=>if kv.1=k then(kv.1,y)else kv) (xs.map (putAt k u)):=by
 induction r with
 | nil=>exact .nil
 | @cons p q ps qs h t ih=>
  rw[List.map_cons,List.map_cons]
  refine .cons ?_ ih
  obtain⟨h1,h2,h3⟩:=h
  unfold putAt
  by_cases e:p.1=k
  ·rw[if_pos e,if_pos (h1.symm.trans e)];exact⟨h1,h2,ry⟩
  ·rw[if_neg e,if_neg (fun z=>e (h1.trans z))];exact⟨h1,h2,h3⟩
theorem KT.put{H:Hp}{kvs:List (List Key×V)}{xs:List (List Key×Addr×Value)}(r:KT H kvs xs)(k:List Key){b:Addr}{y:V}{u:Value}(hb:H b=some (.tup (k.map kV)))(ry:RelV y u):
  KT H (putK kvs k y) (storedH xs k b u):=by
 have e:(kvs.any fun kv=>decide (kv.1=k))=(atKey xs k).isSome:=by
  rw[nW,(r.val k).isSome_eq,Option.isSome_map]
 unfold putK storedH
 rw[e]
 by_cases q:(atKey xs k).isSome=true
 ·rw[if_pos q,if_pos q];exact r.repl k ry
 ·rw[if_neg q,if_neg q];exact Paired.snoc r ⟨rfl,hb,ry⟩
theorem KT.keeps{H H':Hp}{kvs:List (List Key×V)}{xs:List (List Key×Addr×Value)}(r:KT H kvs xs)(ht:∀b ys,H b=some (.tup ys)->H' b=some (.tup ys)):KT H' kvs xs:=
 Paired.mapP r fun _ _ z=>⟨z.1,ht _ _ z.2.1,z.2.2⟩
section
variable {P:Program} {w:World} {H:Hp} {h:Heap} {a:Addr}
theorem rd{u:HO}(ok:bh P w H h)(e:Rd H a u):bj P w H h a u:=e.ok ok
theorem i7{kvs:List (Key×V)}(ok:bh P w H h)(e:Rd H a (.dK kvs)):kvs.length<=sizeLine/\(a == sysModules)=false/\∃vs,KV kvs vs/\h.DictOf (bU P w) a vs:=
 show bj P w H h a (.dK kvs)from rd ok e
theorem vj{kvs:List (Key×V)}(ok:bh P w H h)(e:H a=some (.dK kvs)):kvs.length<=sizeLine/\(a == sysModules)=false/\∃vs,KV kvs vs/\h.DictOf (bU P w) a vs:=i7 ok (.inl e)
theorem gZ{ks:List Key}(ok:bh P w H h)(e:H a=some (.tup (ks.map kV))):(tupleKind (bU P w)).is h ks a:=by
 obtain⟨_,its,r,o,h1,h2,n,h3⟩:=(show bj P w H h a (.tup (ks.map kV))from ok a _ e)
 exact⟨o,its.toArray,n,h1,h2,h3,by simpa using mM r⟩
theorem ij{kvs:List (List Key×V)}(ok:bh P w H h)(e:Rd H a (.dT kvs)):kvs.length<=sizeLine/\(a == sysModules)=false ∧
  ∃xs,KT H kvs xs/\h.DictOfH (tupleKind (bU P w)) a xs:=by
 obtain⟨z,y,xs,r,o,es,ep,h1,h2,h3,h4,h5⟩:=(show bj P w H h a (.dT kvs)from rd ok e)
 refine⟨z,y,xs,r,o,es,ep,h1,h2,h3,h4,fun x hx=>?_,h5⟩
 have all:∀{l:List (List Key×V)} {m:List (List Key×Addr×Value)},KT H l m->∀x∈m,(tupleKind (bU P w)).is h x.1 x.2.1:=by
  intro l m q
  induction q with
  | nil=>intro x hx;exact nomatch hx
  | @cons p q ps qs hq t ih=>
   intro x hx
   rcases DM.mp hx with e | hx
   ·subst e
    exact gZ ok (by rw[←hq.1];exact hq.2.1)
   ·exact ih x hx
 exact all r x hx
theorem vo{kvs:List (List Key×V)}(ok:bh P w H h)(e:H a=some (.dT kvs)):kvs.length<=sizeLine/\(a == sysModules)=false ∧
  ∃xs,KT H kvs xs/\h.DictOfH (tupleKind (bU P w)) a xs:=ij ok (.inl e)
end
def cC(H:Hp)(a:Addr)(y:V)(r:Option V):Prop:=
 (∃kvs k,Rd H a (.dK kvs)/\y=kV k/\r=bB kvs k)\/∃kvs k b,Rd H a (.dT kvs)/\y=.ref b/\H b=some (.tup (k.map kV))/\r=bB kvs k
def fL(H:Hp)(a:Addr)(y v:V)(H':Hp):Prop:=
 (∃kvs k,H a=some (.dK kvs)/\y=kV k/\kvs.length<sizeLine/\H'=upd H a (.dK (putK kvs k v))) ∨
 ∃kvs k b,H a=some (.dT kvs)/\y=.ref b/\H b=some (.tup (k.map kV))/\kvs.length<sizeLine/\H'=upd H a (.dT (putK kvs k v))
theorem cC.k{H:Hp}{a:Addr}{kvs:List (Key×V)}{k:Key}(e:H a=some (.dK kvs)):cC H a (kV k) (bB kvs k):=.inl ⟨kvs,k,.inl e,rfl,rfl⟩
theorem cC.t{H:Hp}{a b:Addr}{kvs:List (List Key×V)}{k:List Key}(e:H a=some (.dT kvs))(eb:H b=some (.tup (k.map kV))):cC H a (.ref b) (bB kvs k):=.inr ⟨kvs,k,b,.inl e,rfl,eb,rfl⟩
theorem fL.t{H:Hp}{a b:Addr}{kvs:List (List Key×V)}{k:List Key}{v:V}(e:H a=some (.dT kvs))(eb:H b=some (.tup (k.map kV)))(hl:kvs.length<sizeLine):
  fL H a (.ref b) v (upd H a (.dT (putK kvs k v))):=.inr ⟨kvs,k,b,e,rfl,eb,hl,rfl⟩
section
variable {X:Cx} {pins:List (Addr×Obj)} {σ:St} {H:Hp} {s:Shared} {a:Addr} {y v:V} {u r:Value} {o:Option V} {A:Around} {E:Value->Shared->Prop}
theorem Inv.big(I:Inv X pins σ H s):sysModules<s.heap.objs.size:=by
 have h:mainGlobals<s.heap.objs.size:=(I.mod.glob.keeps I.bk).lt
 exact Nat.lt_trans (by decide) h
theorem B0{Q:Value->Shared->Prop}(hu:A.units+1<cLine)(I:Inv X pins σ H s)(g:cC H a y (some v))(ry:RelV y u)(h:∀w' s',Inv X pins σ H s'->RelV v w'->Q w' s'):
  wpAny (model X.prog X.w) A (getItem (.ref a) u) Q E s:=by
 rcases g with⟨kvs,k,e,ey,l⟩ | ⟨kvs,k,b,e,ey,eb,l⟩
 ·subst ey
  obtain⟨z,hd,vs,rel,dd⟩:=i7 I.hok e
  obtain⟨w',hw,rw'⟩:=dF.some_of (v:=v) (o:=valueAt vs k) (by rw[l];exact rel.val k)
  exact wpAny_getItem_of (fG ry) dd.mapOf hw (h w' _ (I.tok _) rw')
 ·subst ey
  cases(show u=Value.ref b from ry)
  obtain⟨z,hd,xs,rel,dd⟩:=ij I.hok e
  obtain⟨w',hw,rw'⟩:=dF.some_of (v:=v) (o:=(atKey xs k).map (·.2)) (by rw[l];exact rel.val k)
  obtain⟨p,hp,hp2⟩:=DJ.mp hw
  refine wpAny_getItem_heap (tupleKind_room_in1 hu) (gZ I.hok eb) dd hp ?_
  rw[hp2]
  exact h w' _ (I.tok _) rw'
theorem AI{Q:Value->Shared->Prop}(hu:A.units+1<cLine)(I:Inv X pins σ H s)(g:cC H a y o)(ry:RelV y u)(h:∀s',Inv X pins σ H s'->Q (.bool o.isSome) s'):
  wpAny (model X.prog X.w) A (compareOp .In u (.ref a)) Q E s:=by
 rcases g with⟨kvs,k,e,ey,l⟩ | ⟨kvs,k,b,e,ey,eb,l⟩
 ·subst ey
  obtain⟨z,hd,vs,rel,dd⟩:=i7 I.hok e
  refine wpAny_in_of (fG ry) hd dd.mapOf ?_
  rw[←(rel.val k).isSome_eq,←l]
  exact h _ (I.tok _)
 ·subst ey
  cases(show u=Value.ref b from ry)
  obtain⟨z,hd,xs,rel,dd⟩:=ij I.hok e
  refine wpAny_in_heap (tupleKind_room_in1 hu) (gZ I.hok eb) hd dd ?_
  have q:=(rel.val k).isSome_eq
  rw[Option.isSome_map]at q
  rw[←q,←l]
  exact h _ (I.tok _)
theorem Ah{Q:Value->Shared->Prop}(hu:A.units+1<cLine)(I:Inv X pins σ H s)(g:cC H a y o)(ry:RelV y u)(h:∀s',Inv X pins σ H s'->Q (.bool (!o.isSome)) s'):
  wpAny (model X.prog X.w) A (compareOp .NotIn u (.ref a)) Q E s:=by
 rcases g with⟨kvs,k,e,ey,l⟩ | ⟨kvs,k,b,e,ey,eb,l⟩
 ·subst ey
  obtain⟨z,hd,vs,rel,dd⟩:=i7 I.hok e
  refine wpAny_notIn_of (fG ry) hd dd.mapOf ?_
  rw[←(rel.val k).isSome_eq,←l]
  exact h _ (I.tok _)
 ·subst ey
  cases(show u=Value.ref b from ry)
  obtain⟨z,hd,xs,rel,dd⟩:=ij I.hok e
  refine wpAny_notIn_heap (tupleKind_room_in1 hu) (gZ I.hok eb) hd dd ?_
  have q:=(rel.val k).isSome_eq
  rw[Option.isSome_map]at q
  rw[←q,←l]
  exact h _ (I.tok _)
theorem jN{h':Heap}{t':Nat}{ob:HO}(I:Inv X pins σ H s)(mu:i4 (H a))(hs:Heap.SameBut a s.heap h')(he:∃q,h'.get? a=some q)(new:bj X.prog X.w (upd H a ob) h' a ob):
  Inv X pins σ (upd H a ob) { s with heap:=h',toks:=t' }:=
 I.write (x:=a) (e:=a) mu (.inl rfl) (fun b q hb z=>(hs.2 b hb).trans z) he new
theorem vX{P:Program}{w:World}{H':Hp}{h':Heap}{kvs:List (Key×V)}{vs:List (Key×Value)}(z:kvs.length<=sizeLine)(hd:(a == sysModules)=false)(rel:KV kvs vs)(dd:h'.DictOf (bU P w) a vs):
  bj P w H' h' a (.dK kvs):=⟨z,hd,vs,rel,dd⟩
theorem AM{H':Hp}{Q:Unit->Shared->Prop}(hu:A.units+1<cLine)(I:Inv X pins σ H s)(g:fL H a y v H')(ry:RelV y u)(rv:RelV v r)(h:∀s',Inv X pins σ H' s'->Q () s'):
  wpAny (model X.prog X.w) A (setItem (.ref a) u r) Q E s:=by
 rcases g with⟨kvs,k,e,ey,l,eH⟩ | ⟨kvs,k,b,e,ey,eb,l,eH⟩
 ·subst ey eH
  obtain⟨z,hd,vs,rel,dd⟩:=vj I.hok e
  have hz:vs.length<=sizeLine:=by rw[←rel.length];exact z
  have hl:(putK kvs k v).length<=sizeLine:=by have:=mY kvs k v;omega
  refine wpAny_setItem_pairs (hsz:=hz) (fG ry) dd fun h' dd' hs=>h _ ?_
  have he:∃q,h'.get? a=some q:=let ⟨q,_,_,hq,_⟩:=dd';⟨q,hq⟩
  exact jN I (by rw[e];exact True.intro) hs he (vX hl hd (rel.put k rv) dd')
 ·subst ey eH
  cases(show u=Value.ref b from ry)
  obtain⟨z,hd,xs,rel,dd⟩:=vo I.hok e
  have hz:xs.length<=sizeLine:=by rw[←Paired.length rel];exact z
  have hl:(putK kvs k v).length<=sizeLine:=by have:=mY kvs k v;omega
  refine wpAny_setItem_heap (hsz:=hz) (tupleKind_room_in1 hu) (gZ I.hok eb) dd fun h' dd' hs=>h _ ?_
  obtain⟨q,es,ep,hq,h2,h3,h4,_,h5⟩:=dd'
  refine jN I (by rw[e];exact True.intro) hs ⟨q,hq⟩ ⟨hl,hd,_,(rel.put k eb rv).keeps fun c ys ec=>?_,q,es,ep,hq,h2,h3,h4,h5⟩
  rw[aB (dJ ec e (fun z=>nomatch z))]
  exact ec
end
section
variable {X:Cx} {pins:List (Addr×Obj)} {σ:St} {H:Hp} {s:Shared} {a:Addr} {kvs:List (Key×V)} {k:Key} {u:Value} {A:Around} {E:Value->Shared->Prop}
end
def n8(i:Expr):Prop:=∀ov iv,subscripted i false ov iv=operate [ov,iv] (getItem ov iv)
theorem vS{prog:Program}{w:World}{A:Around}{E:Value->Shared->Prop}{s:Shared}{env:Env}{value slice:Expr}{pos:Pos}{T id:String}{Q:Value->Shared->Prop}
  (hl:typeLookup (.type T) "__getitem__" = pure (some (.builtin id))) (hs:n8 slice)
  (h:wpAny (model prog w) A (eval value env) (fun o s₁=>wpAny (model prog w) A (eval slice env) (fun i s₂=>s₂.TypeIs o T/\wpAny (model prog w) A (getItem o i) Q E s₂) E s₁) E s) :
  wpAny (model prog w) A (eval (.Subscript value slice pos) env) Q E s:=by
 refine Subscript_ (wpAny_mono h (fun o s₁ h₁=>wpAny_mono h₁ (fun i s₂ h₂=>?_) fun _ _ x=>x) fun _ _ x=>x)
 obtain⟨hT,h₂⟩:=h₂
 unfold subscriptTail
 refine Dr ?_
 rw[getitemInPython_of_ne hT.not_modules]
 refine Dr (wpAny_specialOf hT hl ?_)
 have fin:wpAny (model prog w) A (subscripted slice false o i) (fun r s₃=>wpAny (model prog w) A (letTemporaryGo value o r >>= fun _=>pure r) Q E s₃) E s₂:=by
  rw[hs o i]
  exact wpAny_operating (wpAny_mono h₂ (fun r s₃ h₃=>Dr (wpAny_letTemporaryGo (Dt h₃))) fun _ _ x=>x)
 first
  | exact Dt (Dr fin)
  | exact Dr (Dt (Dr fin))
  | exact Dr fin
theorem B5{X:Cx}{pins:List (Addr×Obj)}{σ:St}{H:Hp}{s:Shared}{a:Addr}{y:V}{o:Option V}(I:Inv X pins σ H s)(g:cC H a y o):s.TypeIs (.ref a) "dict":=by
 rcases g with⟨kvs,k,e,_,_⟩ | ⟨kvs,k,b,e,_,_,_⟩
 ·obtain⟨_,_,vs,_,dd⟩:=i7 I.hok e
  exact dd.typeIs
 ·obtain⟨_,_,xs,_,dd⟩:=ij I.hok e
  exact dd.typeIs
def pH(td ty:TE):TE:=fun σ H Q=>td σ H fun x H1=>ty σ H1 fun y H2=>∃a v,x=.ref a/\cC H2 a y (some v)/\Q v H2
def u5(ty td:TE):TE:=fun σ H Q=>ty σ H fun y H1=>td σ H1 fun x H2=>∃a o,x=.ref a/\cC H2 a y o/\Q (.bl o.isSome) H2
def pC(ty td:TE):TE:=fun σ H Q=>ty σ H fun y H1=>td σ H1 fun x H2=>∃a o,x=.ref a/\cC H2 a y o/\Q (.bl (!o.isSome)) H2
def uz(td ty tv:TE):TS:=fun D σ H=>tv σ H fun v H1=>td σ H1 fun x H2=>ty σ H2 fun y H3=>∃a H4,x=.ref a/\fL H3 a y v H4/\D.nx σ H4
section
variable {X:Cx} {o i e value:Expr} {pos pos' tpos:Pos} {td ty tv:TE}
theorem A4(hu:X.A.units+1<cLine)(ho:PE X o td)(hi:PE X i ty)(hs:n8 i):PE X (.Subscript o i pos) (pH td ty):=by
 intro pins s σ H Q I h
 refine vS PySem.F.slot_dict_getitem.lookup hs (av (ho pins s σ H _ I h) fun u s1 ⟨x,H1,I1,rx,q1⟩=>av (hi pins s1 σ H1 _ I1 q1) fun iv s2 ⟨y,H2,I2,ry,a,v,ex,g,q2⟩=>?_)
 subst ex
 obtain rfl:u=Value.ref a:=rx
 exact⟨B5 I2 g,B0 hu I2 g ry fun w' s3 I3 rw'=>⟨v,H2,I3,rw',q2⟩⟩
theorem zD(hu:X.A.units+1<cLine)(hi:PE X i ty)(ho:PE X o td):PC X .In i o (u5 ty td):=by
 intro pins s σ H Q I h
 refine av (hi pins s σ H _ I h) fun iv s1 ⟨y,H1,I1,ry,q1⟩=>av (ho pins s1 σ H1 _ I1 q1) fun u s2 ⟨x,H2,I2,rx,a,ov,ex,g,q2⟩=>?_
 subst ex
 obtain rfl:u=Value.ref a:=rx
 exact AI hu I2 g ry fun s3 I3=>⟨.bl ov.isSome,H2,I3,rfl,q2⟩
theorem tR(hu:X.A.units+1<cLine)(hi:PE X i ty)(ho:PE X o td):PC X .NotIn i o (pC ty td):=by
 intro pins s σ H Q I h
 refine av (hi pins s σ H _ I h) fun iv s1 ⟨y,H1,I1,ry,q1⟩=>av (ho pins s1 σ H1 _ I1 q1) fun u s2 ⟨x,H2,I2,rx,a,ov,ex,g,q2⟩=>?_
 subst ex
 obtain rfl:u=Value.ref a:=rx
 exact Ah hu I2 g ry fun s3 I3=>⟨.bl (!ov.isSome),H2,I3,rfl,q2⟩
theorem wD(hu:X.A.units+1<cLine)(ho:PE X o td)(hi:PE X i ty)(hv:PE X value tv)(hs:swapsWith value (some (.Subscript o i pos')) pos.line X.env=pure false):
  PS X (.Assign [.Subscript o i pos'] value pos) (uz td ty tv):=by
 intro pins s σ H D I h
 refine wpAny_Assign_Subscript (av (hv pins s σ H _ I h) fun r s1 ⟨v,H1,I1,rv,q1⟩=>av (ho pins s1 σ H1 _ I1 q1) fun u s2 ⟨x,H2,I2,rx,q2⟩=>av (hi pins s2 σ H2 _ I2 q2) fun iv s3 ⟨y,H3,I3,ry,a,H4,ex,g,q3⟩=>?_) hs
 subst ex
 obtain rfl:u=Value.ref a:=rx
 exact AM hu I3 g ry rv fun s4 I4=>⟨σ,H4,I4,q3⟩
end
theorem xw{P:Program}{w:World}{H:Hp}(h:Heap)(hb:sysModules<h.objs.size):bj P w H (h.push { cls:=.type "dict",data:=.dict #[] }) h.objs.size (.dK []):=
 ⟨Nat.zero_le _,beq_eq_false_iff_ne.mpr (Ne.symm (DQ hb)),[],.nil,Heap.DictOf.new h⟩
theorem xl{P:Program}{w:World}{H:Hp}(h:Heap)(hb:sysModules<h.objs.size):bj P w H (h.push { cls:=.type "dict",data:=.dict #[] }) h.objs.size (.dT []):=
 ⟨Nat.zero_le _,beq_eq_false_iff_ne.mpr (Ne.symm (DQ hb)),[],.nil,_,#[],0,Dw _ rfl,⟨rfl,rfl,rfl⟩,rfl,rfl,List.nodup_nil⟩
section
variable {X:Cx} {pos:Pos}
end
def jt:List (TE×TE)->St->Hp->(List (V×V)->Hp->Prop)->Prop
 | [],_,H,Q=>Q [] H
 | (tk,tv)::r,σ,H,Q=>tk σ H fun x H1=>tv σ H1 fun y H2=>jt r σ H2 fun ps H3=>Q ((x,y)::ps) H3
abbrev VV:List (V×V)->List (Value×Value)->Prop:=Paired fun p q=>RelV p.1 q.1/\RelV p.2 q.2
def jV(X:Cx)(pos:Pos)(keys:List (Option Expr))(values:List Expr)(trs:List (TE×TE)):Prop:=
 ∀(pins:List (Addr×Obj)) (s:Shared) (σ:St) (H:Hp) (Q:List (V×V)->Hp->Prop),Inv X pins σ H s->jt trs σ H Q →
  wpAny (model X.prog X.w) X.A (evalPairs (pairTrees keys values X.env pos)) (fun vs s'=>∃ps H',Inv X pins σ H' s'/\VV ps vs/\Q ps H') X.xe s
theorem Bk{X:Cx}{pos:Pos}:jV X pos [] [] []:=fun pins s σ H Q I h=>pairTrees_nil_walk ⟨[],H,I,.nil,h⟩
theorem lR{X:Cx}{pos:Pos}{k v:Expr}{ks:List (Option Expr)}{vs:List Expr}{tk tv:TE}{trs:List (TE×TE)}(hk:PE X k tk)(hv:PE X v tv)(hr:jV X pos ks vs trs):
  jV X pos (some k::ks) (v::vs) ((tk,tv)::trs):=fun pins s σ H Q I h=>
 pairTrees_cons_walk (av (hk pins s σ H _ I h) fun u s1 ⟨x,H1,I1,rx,q1⟩=>av (hv pins s1 σ H1 _ I1 q1) fun w2 s2 ⟨y,H2,I2,ry,q2⟩=>
  av (hr pins s2 σ H2 _ I2 q2) fun ws s3 ⟨ps,H3,I3,rel,q3⟩=>⟨(x,y)::ps,H3,I3,.cons ⟨rx,ry⟩ rel,q3⟩)
def eS(kvs more:List (Key×V)):List (Key×V):=more.foldl (fun acc kv=>putK acc kv.1 kv.2) kvs
theorem KV.merge:∀{more:List (Key×V)} {rs:List (Key×Value)} {kvs:List (Key×V)} {vs:List (Key×Value)},KV more rs->KV kvs vs->KV (eS kvs more) (merged vs rs):=by
 intro more rs kvs vs r
 unfold KV at r
 induction r generalizing kvs vs with
 | nil=>intro q;exact q
 | @cons p q ps qs h t ih=>
  intro r0
  have e:KV (putK kvs p.1 p.2) (stored vs q.1 q.2):=by
   have:=r0.put p.1 h.2
   rw[←h.1];exact this
  exact ih e
theorem pN:∀(more kvs:List (Key×V)),(eS kvs more).length<=kvs.length+more.length
 | [],kvs=>by show kvs.length<=kvs.length+0;omega
 | p::r,kvs=>by
  have h1:=pN r (putK kvs p.1 p.2)
  have h2:=mY kvs p.1 p.2
  show(eS (putK kvs p.1 p.2) r).length<=_
  rw[DY];omega
theorem vi{P:Program}{w:World}:∀{kvs:List (Key×V)} {ws:List (Value×Value)},VV (kvs.map fun kv=>(kV kv.1,kv.2)) ws->∃rs,Carries (bU P w) ws rs/\KV kvs rs
 | [],_,r=>by rw[List.map_nil]at r;cases r;exact⟨[],True.intro,.nil⟩
 | p::kvs,_,r=>by
  rw[List.map_cons]at r
  cases r with
  | @cons a b as bs h t=>
   obtain⟨rs,c,q⟩:=vi (P:=P) (w:=w) t
   obtain⟨b1,b2⟩:=b
   exact⟨(p.1,b2)::rs,⟨fG h.1,rfl,c⟩,.cons ⟨rfl,h.2⟩ q⟩
def oY(trs:List (TE×TE)):TE:=fun σ H Q=>∀p,H p=none->jt trs σ (upd H p (.dK [])) fun ps H2=>H2 p=some (.dK [])/\∃kvs:List (Key×V),ps=kvs.map (fun kv=>(kV kv.1,kv.2))/\kvs.length<=15/\Q (.ref p) (upd H2 p (.dK (eS [] kvs)))
theorem B8{X:Cx}{pos:Pos}{keys:List (Option Expr)}{values:List Expr}{trs:List (TE×TE)}(h:jV X pos keys values trs)(hall:keys.all (·.isSome)=true)(hl:keys.length=values.length)(h0:keys≠[])
  (h15:keys.length<=15):PE X (.Dict keys values pos) (oY trs):=by
 intro pins s σ H Q I q
 have hn:=I.hok.fresh (DR s.heap.objs.size)
 have I1:=I.laid (a:=s.heap.objs.size) (o:=.dK []) (h':=s.heap.push { cls:=.type "dict",data:=.dict #[] }) (t':=s.toks) (fun _ _ q=>Dv _ q) (DR _) (xw s.heap I.big)
 refine wpAny_Dict_walk (knd:=bU X.prog X.w) hall hl h0 h15 (av (h pins _ σ _ _ I1 (q _ hn)) fun ws s2 ⟨ps,H2,I2,rel,e,kvs,ep,lk,q2⟩=>?_)
 subst ep
 obtain⟨rs,c,rk⟩:=vi (P:=X.prog) (w:=X.w) rel
 obtain⟨z,hd,vs0,r0,dd⟩:=vj I2.hok e
 cases r0
 refine⟨rs,c,dd,fun h' dd' hs=>⟨.ref s.heap.objs.size,_,?_,rfl,q2⟩⟩
 have hz:(eS [] kvs).length<=sizeLine:=by
  have h1:=pN kvs []
  rw[List.length_nil]at h1
  rw[sizeLine_eq];omega
 have he:∃q,h'.get? s.heap.objs.size=some q:=let ⟨q,_,_,hq,_⟩:=dd';⟨q,hq⟩
 exact jN I2 (by rw[e];exact True.intro) hs he (vX hz hd (rk.merge .nil) dd')
section
variable {X:Cx} {pins:List (Addr×Obj)} {σ:St} {H:Hp} {s:Shared} {a:Addr} {y d:V} {u r:Value} {o:Option V} {A:Around} {E:Value->Shared->Prop}
end
section
variable {X:Cx} {o e f:Expr} {apos cpos:Pos} {td ty tx:TE}
end
section
variable {X:Cx} {pins:List (Addr×Obj)} {σ:St} {H:Hp} {s:Shared} {a:Addr} {kvs:List (Key×V)} {A:Around} {E:Value->Shared->Prop}
end
section
variable {X:Cx} {pins:List (Addr×Obj)} {σ:St} {H:Hp} {s:Shared} {a:Addr} {y:V} {u:Value} {A:Around} {E:Value->Shared->Prop}
end
end L2
namespace L2
open PySem PySem.Spec PyProof.Rows
section
variable {X:Cx}
end
section
variable {κ:Type} [DecidableEq κ]
end
end L2
namespace L2
open PySem PySem.Spec PyProof.Rows
section
variable {prog:Program} {w:World} {A:Around} {E:Value->Shared->Prop} {s:Shared} {dd:Option Addr}
end
section
variable {M:Model} {A:Around} {E:Value->Shared->Prop} {s:Shared} {dd:Option Addr}
end
end L2
namespace L2
open PySem PySem.Spec PyProof.Rows
section
variable {P:Program} {w:World} {K:Du} {mg:Str->Option Value} {base:Heap} {N:List Str} {qual:Str} {scope:Scope} {f:Addr} {cd:Value} {A:Around} {outer:List Env} {s₀:Shared} {H₀:Hp} {E:XK}
end
end L2
namespace L2
open PySem PySem.Spec PyProof.Rows
section
variable {prog:Program} {w:World} {A:Around} {E:Value->Shared->Prop} {K:Du} {x D:Addr} {ox:Obj} {s:Shared}
end
section
variable {X:Cx} {pins:List (Addr×Obj)} {σ:St} {H:Hp} {s:Shared} {x:Addr} {oe:Obj}
end
section
variable {P:Program} {w:World} {K:Du} {mg:Str->Option Value} {base:Heap} {N:List Str} {qual:Str} {scope:Scope} {f:Addr} {cd:Value} {A:Around} {outer:List Env} {s₀:Shared} {H₀:Hp} {E:XK}
end
section
end
section
variable {P:Program} {w:World} {K:Du} {mg:Str->Option Value} {base:Heap} {N:List Str} {qual:Str} {scope:Scope} {f:Addr} {cd:Value} {A:Around} {outer:List Env} {s₀:Shared} {H₀:Hp} {E:XK}
end
section
variable {K:Du} {D:Ends} {σ:St} {H:Hp} {Q:VK} {E:XK} {C x:Addr}
end
section
variable {K:Du} {D:Ends} {σ:St} {H:Hp} {E:St->XK} {C:Addr} {i:Nat} {t u tb:Ends->(St->XK)->St->Hp->Prop} {ts:Addr->Addr->Option Addr->TS} {c:TT}
end
end L2
namespace Tb
open PySem
end Tb
namespace Tb
open PySem
theorem jX{xs:Array Nat}(h:xs.toList.Pairwise (· < ·)){a b x y:Nat}(ha:xs[a]?=some x)(hb:xs[b]?=some y)(hab:a<b):x<y:=by
 obtain⟨h1,e1⟩:=Array.getElem?_eq_some_iff.mp ha
 obtain⟨h2,e2⟩:=Array.getElem?_eq_some_iff.mp hb
 have:=List.pairwise_iff_getElem.mp h a b (by simpa using h1) (by simpa using h2) hab
 simp only[Array.getElem_toList]at this
 rw[e1,e2]at this
 exact this
theorem mr(xs:Array Nat)(j:Nat)(hs:xs.toList.Pairwise (· < ·)):∀fuel lo hi,hi-lo<=fuel->lo<=hi->hi<=xs.size->(∀k x,k<lo->xs[k]?=some x->x<j)->(∀k x,hi<=k->xs[k]?=some x->j<=x) →
  SetTable.below.go xs j fuel lo hi<=xs.size/\(∀k x,k<SetTable.below.go xs j fuel lo hi->xs[k]?=some x->x<j)/\(∀k x,SetTable.below.go xs j fuel lo hi<=k->xs[k]?=some x->j<=x)
 | 0,lo,hi,h1,h2,h3,h4,h5=>by
  have:lo=hi:=by omega
  subst this
  exact⟨h3,h4,h5⟩
 | fuel+1,lo,hi,h1,h2,h3,h4,h5=>by
  unfold SetTable.below.go
  by_cases hlt:lo<hi
  ·rw[if_pos hlt]
   dsimp only
   have hm:(lo+hi) / 2<xs.size:=by omega
   have em:xs[(lo+hi) / 2]?=some xs[(lo+hi) / 2]:=getElem?_pos xs _ hm
   have eg:xs.getD ((lo+hi) / 2) j=xs[(lo+hi) / 2]:=by
    rw[Array.getD_eq_getD_getElem?,em]
    rfl
   rw[eg]
   by_cases hc:xs[(lo+hi) / 2]<j
   ·rw[if_pos hc]
    refine mr xs j hs fuel _ _ (by omega) (by omega) h3 (fun k x hk ek=>?_) h5
    rcases Nat.lt_or_ge k ((lo+hi) / 2)with a | a
    ·have:=jX hs ek em a
     omega
    ·have:k=(lo+hi) / 2:=by omega
     subst this
     rw[em]at ek
     cases ek
     exact hc
   ·rw[if_neg hc]
    refine mr xs j hs fuel _ _ (by omega) (by omega) (by omega) h4 (fun k x hk ek=>?_)
    rcases Nat.lt_or_ge ((lo+hi) / 2) k with a | a
    ·have:=jX hs em ek a
     omega
    ·have:k=(lo+hi) / 2:=by omega
     subst this
     rw[em]at ek
     cases ek
     omega
  ·rw[if_neg hlt]
   have:lo=hi:=by omega
   subst this
   exact⟨h3,h4,h5⟩
theorem jw{xs:Array Nat}(hs:xs.toList.Pairwise (· < ·))(j:Nat):SetTable.below xs j<=xs.size/\(∀k x,k<SetTable.below xs j->xs[k]?=some x->x<j)/\(∀k x,SetTable.below xs j<=k->xs[k]?=some x->j<=x):=
 mr xs j hs xs.size 0 xs.size (by omega) (Nat.zero_le _) (DR _) (fun k x hk=>by omega) (fun k x hk e=>by
  have:=(Array.getElem?_eq_some_iff.mp e).1
  omega)
theorem slot_mem{t:SetTable}(hs:t.place.toList.Pairwise (· < ·)){j i:Nat}(h:t.place[i]?=some j):t.slot j=.live i:=by
 obtain⟨h1,h2,h3⟩:=jw hs j
 have e:SetTable.below t.place j=i:=by
  have hi:=(Array.getElem?_eq_some_iff.mp h).1
  rcases Nat.lt_or_ge i (SetTable.below t.place j)with a | a
  ·have:=h2 i j a h
   omega
  ·rcases Nat.lt_or_ge (SetTable.below t.place j) i with b | b
   ·have eb:t.place[SetTable.below t.place j]?=some t.place[SetTable.below t.place j]:=getElem?_pos t.place _ (by omega)
    have c1:=h3 _ _ (DR _) eb
    have c2:=jX hs eb h b
    omega
   ·omega
 unfold SetTable.slot
 dsimp only
 rw[e,h,if_pos (beq_self_eq_true _)]
theorem Br{α:Type}(xs:Array α)(p:Nat)(x:α):(SetTable.insertAt xs p x).toList=xs.toList.take p++(x::xs.toList.drop p):=by
 unfold SetTable.insertAt
 rw[Array.toList_append,Array.toList_push,Array.toList_extract,Array.toList_extract]
 show List.take (p-0) (xs.toList.drop 0)++[x]++List.take (xs.size-p) (xs.toList.drop p)=_
 rw[List.take_of_length_le (l:=xs.toList.drop p) (by rw[List.length_drop,DC];exact DR _),List.append_assoc]
 rfl
theorem yV{xs:Array Nat}(hs:xs.toList.Pairwise (· < ·)){j:Nat}(hn:j∉xs.toList):(SetTable.insertAt xs (SetTable.below xs j) j).toList.Pairwise (· < ·):=by
 obtain⟨h1,h2,h3⟩:=jw hs j
 rw[Br]
 have hs':=hs
 rw[←List.take_append_drop (SetTable.below xs j) xs.toList,List.pairwise_append]at hs'
 rw[List.pairwise_append,List.pairwise_cons]
 refine⟨hs'.1,⟨fun y hy=>?_,hs'.2.1⟩,fun x hx y hy=>?_⟩
 ·obtain⟨k,hk,e⟩:=List.mem_iff_getElem.mp hy
  rw[List.length_drop,DC]at hk
  rw[List.getElem_drop,Array.getElem_toList]at e
  have ex:xs[SetTable.below xs j+k]?=some y:=by
   rw[getElem?_pos xs _ (by omega),e]
  have:=h3 _ _ (by omega) ex
  have ne:y≠j:=fun z=>hn (by rw[←z];exact Array.mem_toList_iff.mpr (Array.mem_of_getElem? ex))
  omega
 ·have hxj:x<j:=by
   obtain⟨k,hk,e⟩:=List.mem_iff_getElem.mp hx
   rw[List.length_take,DC]at hk
   rw[List.getElem_take,Array.getElem_toList]at e
   exact h2 k x (by omega) (by rw[getElem?_pos xs _ (by omega),e])
  rcases DM.mp hy with rfl | hy
  ·exact hxj
  ·exact hs'.2.2 x hx y hy
theorem zY{t:SetTable}(hs:t.place.toList.Pairwise (· < ·)){j:Nat}(h:j∈t.place.toList):∃i,t.slot j=.live i/\t.place[i]?=some j:=by
 obtain⟨i,hi⟩:=List.getElem?_of_mem h
 rw[Array.getElem?_toList]at hi
 exact⟨i,slot_mem hs hi,hi⟩
theorem BB{t:SetTable}(hs:t.place.toList.Pairwise (· < ·)){j:Nat}(h:t.slot j=.empty):j∉t.place.toList:=fun hm=>by
 obtain⟨i,e,_⟩:=zY hs hm
 rw[h]at e
 cases e
theorem oo{α:Type}(es:Array α):∀(l:List Nat),(∀i∈l,i<es.size)->∀n:Nat,(l.filterMap (es[·]?))[n]?=(l[n]?).bind (es[·]?)
 | [],_,n=>by simp
 | x::l,h,n=>by
  have hx:=h x DE
  have e:(x::l).filterMap (es[·]?)=es[x]::l.filterMap (es[·]?):=by
   rw[List.filterMap_cons]
   simp[hx]
  rw[e]
  cases n with
  | zero=>simp[hx]
  | succ n=>simpa using oo es l (fun i hi=>h i (DB _ hi)) n
end Tb
namespace L2
open PySem PySem.Spec PyProof.Rows
section
variable {P:Program} {w:World} {A:Around} {E:Value->Shared->Prop} {s:Shared} {K:Type} [DecidableEq K] {knd:KeyKind P w K}
end
section
variable {P:Program} {w:World} {A:Around} {E:Value->Shared->Prop} {s:Shared}
end
section
variable {P:Program} {w:World} {A:Around} {I:Addr} {fp wr:List Addr} {G:Array GenState->Array GenState->Prop} {n:Nat} {Pz:Nat->Value->Prop} {St:Nat->Shared->Prop}
end
end L2
namespace L2
open PySem PySem.Spec PyProof.Rows
section
variable {P:Program} {w:World} {A:Around} {E:Value->Shared->Prop} {s:Shared}
abbrev cb(led:Bool):Obj:={ cls:=.type "set",dict:=none,data:=.set #[] 0 (.fresh 0 0 led) }
end
end L2
namespace L2
open PySem PySem.Spec PyProof.Rows
namespace SF
theorem za:entryFor table "set.__iter__" = some Builtin.«frozenset.__iter__»:=entryFor_alias (id':="frozenset.__iter__") (by kernel_rfl) rfl (by decide +kernel) (by kernel_rfl)
theorem Cm(a:Value):argsOk "set.__iter__" ⟨[a],[]⟩:=by unfold argsOk;kernel_rfl
theorem slot_next:Slot "set_iterator" "__next__" "set_iterator.__next__":=
 .of (owner:="set_iterator") (n:="__next__") (by rw[typeLookup_type,builtinLookup_eq_fast];kernel_rfl) (by decide +kernel) (by decide +kernel) (by decide +kernel)
  (by first | exact .inl (by decide +kernel) | exact .inr (by decide +kernel)) (by rw[isSubtype_type];kernel_rfl)
theorem entry_next:entryFor table "set_iterator.__next__" = some Builtin.«set_iterator.__next__»:=entryFor_of_fast (by kernel_rfl)
theorem args_next(a:Value):argsOk "set_iterator.__next__" ⟨[a],[]⟩:=by unfold argsOk;kernel_rfl
theorem vB:Slot "set_iterator" "__iter__" "set_iterator.__iter__":=
 .of (owner:="set_iterator") (n:="__iter__") (by rw[typeLookup_type,builtinLookup_eq_fast];kernel_rfl) (by decide +kernel) (by decide +kernel) (by decide +kernel)
  (by first | exact .inl (by decide +kernel) | exact .inr (by decide +kernel)) (by rw[isSubtype_type];kernel_rfl)
theorem wO:entryFor table "set_iterator.__iter__" = some Builtin.«dict_keyiterator.__iter__»:=entryFor_alias (id':="dict_keyiterator.__iter__") (by kernel_rfl) rfl (by decide +kernel) (by kernel_rfl)
theorem wR(a:Value):argsOk "set_iterator.__iter__" ⟨[a],[]⟩:=by unfold argsOk;kernel_rfl
end SF
section
variable {P:Program} {w:World} {A:Around} {E:Value->Shared->Prop} {s:Shared}
theorem Ck{n:Nat}{Q:Nat->Shared->Prop}(hn:n≠0)(h:∀i d,i<n->Q i { s with drawn:=d }):wpAny (model P w) A (choose .order n) Q E s:=fun Γ p hΓ=>by
 unfold choose
 rw[Sem.wp_choose]
 exact⟨hn,by rw[Sem.wp_pure];exact h _ _ (Nat.mod_lt _ (Nat.pos_of_ne_zero hn))⟩
theorem kP{α:Type}:∀{l:List α} {i:Nat} (h:i<l.length),(l[i]::l.eraseIdx i).Perm l
 | [],i,h=>by cases h
 | x::l,0,h=>.refl _
 | x::l,i+1,h=>by
  have:=kP (l:=l) (i:=i) (Nat.lt_of_succ_lt_succ h)
  exact(List.Perm.swap _ _ _).trans (this.cons x)
theorem pX{α:Type}:∀(n:Nat) (xs:List α) (s:Shared) {Q:List α->Shared->Prop},n=xs.length->(∀ys d,ys.Perm xs->Q ys { s with drawn:=d })->wpAny (model P w) A (drawOrder n xs) Q E s
 | 0,xs,s,Q,hn,h=>by
  obtain rfl:=List.length_eq_zero_iff.mp hn.symm
  unfold drawOrder
  exact Dt (h [] s.drawn (.refl _))
 | n+1,[],s,Q,hn,h=>by cases hn
 | n+1,x::xs,s,Q,hn,h=>by
  unfold drawOrder
  refine Dr (Ck (by simp) fun i d hi=>?_)
  have e:(x::xs)[i]?=some (x::xs)[i]:=Dz hi
  rw[e]
  dsimp only
  refine Dr (pX n _ { s with drawn:=d } (by rw[List.length_eraseIdx_of_lt hi,←hn];rfl) fun ys d' hp=>Dt (h _ d' ?_))
  exact(List.Perm.cons _ hp).trans (kP hi)
theorem qo{α:Type}(next:Nat->Nat):∀(fuel k:Nat) (left:List α) (out:Array α),fuel=left.length->(pickOrder.go next fuel k left out).toList.Perm (out.toList++left)
 | 0,k,left,out,h=>by
  obtain rfl:=List.length_eq_zero_iff.mp h.symm
  unfold pickOrder.go
  rw[List.append_nil]
 | fuel+1,k,left,out,h=>by
  unfold pickOrder.go
  have hlt:next k % left.length<left.length:=Nat.mod_lt _ (by omega)
  rw[Dz hlt]
  dsimp only
  refine(qo next fuel (k+1) _ _ (by rw[List.length_eraseIdx_of_lt hlt];omega)).trans ?_
  rw[Array.toList_push,List.append_assoc]
  exact(kP hlt).append_left _
theorem jo{α:Type}(next:Nat->Nat)(xs:Array α):(pickOrder next xs).toList.Perm xs.toList:=by
 have:=qo next xs.size 0 xs.toList #[] (by simp)
 rw[List.nil_append]at this
 exact this
end
end L2
namespace L2
open PySem PySem.Spec PyProof.Rows
section
variable {P:Program} {w:World} {A:Around} {E:Value->Shared->Prop} {s:Shared}
abbrev bM(a:Addr)(first:Value)(i n ep:Nat):Obj:={ cls:=.type "set_iterator",data:=.fields #[first,rawInt i,.ref a,rawInt n,rawInt ep] }
theorem lB{it:Addr}{h1:Heap}{Q:Option Value->Shared->Prop}(hh:A.handled=none)(he:Heap.ExtBut it s.heap h1)(hQ:∀h',Heap.ExtBut it s.heap h'->Q none { s with heap:=h' }):
  wpAny (model P w) A.in1 (newExc (.type "StopIteration") [] >>= raiseNew) (fun r s'=>∃v,r=Fin.done (.ret v)/\wpAny (model P w) A (pure (some v)) Q E s') (fun e s'=>wpAny (model P w) A (do if ←isInstance e (.type "StopIteration")then pure none else throw e) Q E s') { s with heap:=h1 }:=by
 refine Dr ?_
 simp only[newExc,newTuple]
 refine Dr (wpAny_newObj_type ?_ (by size_fits))
 refine Dr (m:=firstArgMember _ _) (wpAny_of_eq (a:=Value.none) (by first | rfl | (simp only[firstArgMember];rfl)) ?_)
 refine wpAny_newObj_type ?_ (by size_fits)
 simp only[raiseNew]
 refine Dr (wpAny_handled ?_)
 rw[show A.in1.handled=none from hh]
 refine Dr (Dt (wpAny_throw ?_))
 refine Dr (wpAny_isInstance (T:="StopIteration") (b:=true) ⟨_,Dw _ rfl,rfl⟩ isSubtype_stop ?_)
 exact Dt (hQ _ ((he.push _).push _))
theorem ic{it a:Addr}{first x:Value}{i n ep k:Nat}{f':Array Value}{h:Heap}(ho:h.get? it=some (bM a first i n ep))(hf:(#[first,rawInt i,.ref a,rawInt n,rawInt ep]:Array Value).setIfInBounds k x=f'):
  (h.update it (Obj.mapFields (·.setIfInBounds k x))).get? it=some { cls:=.type "set_iterator",data:=.fields f' }:=by
 have:=Heap.get?_update_self (Obj.mapFields (·.setIfInBounds k x)) ho (Obj.isFreed_of_fields (Obj.data_mapFields rfl _))
 rw[this,←hf]
 rfl
theorem AL{it a:Addr}{i ep:Nat}{o:Obj}{es:Array (Int×Value)}{t:SetTable}{Q:Option Value->Shared->Prop}(hT:w.params.followText "set-order" = true)(hit:s.heap.get? it=some (bM a (rawInt 0) i es.size ep))(ho:s.heap.get? a=some o)(hd:o.data=.set es ep t)(hf:t.fits es.size=true)
  {x:Int×Value} (hx:(pickOrder (w.params.setOrder a ep) es)[i]?=some x) (hQ:∀h',h'.get? it=some (bM a (rawInt 0) (i+1) es.size ep)->Heap.SameBut it s.heap h'->Q (some x.2) { s with heap:=h' }):wpAny (model P w) A (pyNext (.ref it)) Q E s:=by
 have T:s.TypeIs (.ref it) "set_iterator":=⟨_,hit,rfl⟩
 unfold pyNext
 refine Dr (wpAny_attempt (wpAny_callSpecial?_slot (name:=Str.ofString "__next__") T SF.slot_next (wpAny_call_entry SF.slot_next T SF.entry_next ?_ (SF.args_next _))))
 show wpAny _ _ (fieldsOf (.ref it) >>= _) _ _ s
 refine Dr (wpAny_fieldsOf hit rfl ?_)
 show wpAny _ _ (setEntries a >>= _) _ _ s
 unfold setEntries
 refine Dr (Dr (wpAny_setState_of ho hd hf (Dt ?_)))
 rw[if_neg (by simp)]
 show wpAny _ _ (setNext a 0 _ _ >>= _) _ _ s
 unfold setNext
 refine Dr (Dr (wpAny_setState_of ho hd hf ?_))
 dsimp only
 unfold setsByText
 refine Dr (Dr (wpAny_askSetting (Dt ?_)))
 rw[show (model P w).w.params.followText "set-order" = true from hT]
 simp only[if_true]
 rw[if_neg (by simp)]
 unfold setWalk
 refine Dr (Dr (wpAny_setState_of ho hd hf ?_))
 dsimp only
 unfold setsByText
 refine Dr (Dr (wpAny_askSetting (Dt ?_)))
 rw[show (model P w).w.params.followText "set-order" = true from hT]
 simp only[if_true]
 refine Dr (wpAny_askSetting (Dt ?_))
 rw[DK]
 have hx':(pickOrder ((model P w).w.params.setOrder a ep) es)[i]?=some x:=hx
 rw[hx']
 refine Dt ?_
 dsimp only[Option.map_some,Option.map_none]
 refine Dr (wpAny_setField hit rfl (by simp) ?_)
 have e1:=ic (k:=0) (x:=rawInt (0:Nat)) hit rfl
 have e1':(s.heap.update it (Obj.mapFields (·.setIfInBounds 0 (rawInt (0:Nat))))).get? it=some (bM a (rawInt 0) i es.size ep):=e1
 refine Dr (wpAny_setField (s:={ s with heap:=s.heap.update it (Obj.mapFields (·.setIfInBounds 0 (rawInt (0:Nat)))) }) e1' rfl (by simp) ?_)
 have e2:=ic (k:=1) (x:=rawInt ((i:Int)+1)) e1' rfl
 refine Dt ⟨_,rfl,Dt (hQ _ ?_ ((Heap.SameBut.update ..).trans (Heap.SameBut.update ..)))⟩
 exact e2
theorem ym{it a:Addr}{i ep:Nat}{o:Obj}{es:Array (Int×Value)}{t:SetTable}{Q:Option Value->Shared->Prop}(hh:A.handled=none)(hT:w.params.followText "set-order" = true)(hit:s.heap.get? it=some (bM a (rawInt 0) i es.size ep))(ho:s.heap.get? a=some o)(hd:o.data=.set es ep t)(hf:t.fits es.size=true)
  (hx:(pickOrder (w.params.setOrder a ep) es)[i]?=none) (hQ:∀h',Heap.ExtBut it s.heap h'->Q none { s with heap:=h' }):wpAny (model P w) A (pyNext (.ref it)) Q E s:=by
 have T:s.TypeIs (.ref it) "set_iterator":=⟨_,hit,rfl⟩
 unfold pyNext
 refine Dr (wpAny_attempt (wpAny_callSpecial?_slot (name:=Str.ofString "__next__") T SF.slot_next (wpAny_call_entry SF.slot_next T SF.entry_next ?_ (SF.args_next _))))
 show wpAny _ _ (fieldsOf (.ref it) >>= _) _ _ s
 refine Dr (wpAny_fieldsOf hit rfl ?_)
 show wpAny _ _ (setEntries a >>= _) _ _ s
 unfold setEntries
 refine Dr (Dr (wpAny_setState_of ho hd hf (Dt ?_)))
 rw[if_neg (by simp)]
 show wpAny _ _ (setNext a 0 _ _ >>= _) _ _ s
 unfold setNext
 refine Dr (Dr (wpAny_setState_of ho hd hf ?_))
 dsimp only
 unfold setsByText
 refine Dr (Dr (wpAny_askSetting (Dt ?_)))
 rw[show (model P w).w.params.followText "set-order" = true from hT]
 simp only[if_true]
 rw[if_neg (by simp)]
 unfold setWalk
 refine Dr (Dr (wpAny_setState_of ho hd hf ?_))
 dsimp only
 unfold setsByText
 refine Dr (Dr (wpAny_askSetting (Dt ?_)))
 rw[show (model P w).w.params.followText "set-order" = true from hT]
 simp only[if_true]
 refine Dr (wpAny_askSetting (Dt ?_))
 rw[DK]
 have hx':(pickOrder ((model P w).w.params.setOrder a ep) es)[i]?=none:=hx
 rw[hx']
 refine Dt ?_
 dsimp only[Option.map_some,Option.map_none]
 refine Dr (wpAny_setField hit rfl (by simp) ?_)
 exact lB (s:=s) (it:=it) hh (Heap.SameBut.update ..).extBut hQ
theorem CL{it a:Addr}{i ep:Nat}{o:Obj}{es:Array (Int×Value)}{t:SetTable}{Q:Option Value->Shared->Prop}{T0:Addr}{ys:List Nat}(hT0:s.heap.get? T0=some (seqObj "tuple" (ys.map fun(i:Nat)=>rawInt i).toArray 0))(hit:s.heap.get? it=some (bM a (.ref T0) i es.size ep))(ho:s.heap.get? a=some o)(hd:o.data=.set es ep t)(hf:t.fits es.size=true)
  {y:Nat} {x:Int×Value} (hy:ys[i]?=some y) (hx:es[y]?=some x) (hQ:∀h',h'.get? it=some (bM a (.ref T0) (i+1) es.size ep)->Heap.SameBut it s.heap h'->Q (some x.2) { s with heap:=h' }):wpAny (model P w) A (pyNext (.ref it)) Q E s:=by
 have T:s.TypeIs (.ref it) "set_iterator":=⟨_,hit,rfl⟩
 unfold pyNext
 refine Dr (wpAny_attempt (wpAny_callSpecial?_slot (name:=Str.ofString "__next__") T SF.slot_next (wpAny_call_entry SF.slot_next T SF.entry_next ?_ (SF.args_next _))))
 show wpAny _ _ (fieldsOf (.ref it) >>= _) _ _ s
 refine Dr (wpAny_fieldsOf hit rfl ?_)
 show wpAny _ _ (setEntries a >>= _) _ _ s
 unfold setEntries
 refine Dr (Dr (wpAny_setState_of ho hd hf (Dt ?_)))
 rw[if_neg (by simp)]
 show wpAny _ _ (seqItems? (.ref T0) >>= _) _ _ s
 refine Dr (wpAny_seqItems hT0 rfl ?_)
 dsimp only
 rw[DK]
 have hpl:((ys.map fun(i:Nat)=>rawInt i).toArray:Array Value)[i]?=some (rawInt y):=by
  rw[List.getElem?_toArray,DA,hy]
  rfl
 rw[hpl]
 show wpAny _ _ (setNextDrawn a _ _ >>= _) _ _ s
 unfold setNextDrawn
 refine Dr (Dr (wpAny_setState_of ho hd hf ?_))
 dsimp only
 rw[if_neg (by simp)]
 simp only[DK]
 rw[hx]
 refine Dt ?_
 refine Dr (wpAny_setField hit rfl (by simp) ?_)
 have e2:=ic (k:=1) (x:=rawInt ((i:Int)+1)) hit rfl
 exact Dt ⟨_,rfl,Dt (hQ _ e2 (Heap.SameBut.update ..))⟩
theorem wU{it a:Addr}{i ep:Nat}{o:Obj}{es:Array (Int×Value)}{t:SetTable}{Q:Option Value->Shared->Prop}{T0:Addr}{ys:List Nat}(hh:A.handled=none)(hT0:s.heap.get? T0=some (seqObj "tuple" (ys.map fun(i:Nat)=>rawInt i).toArray 0))(hit:s.heap.get? it=some (bM a (.ref T0) i es.size ep))(ho:s.heap.get? a=some o)(hd:o.data=.set es ep t)(hf:t.fits es.size=true)
  (hy:ys[i]?=none) (hQ:∀h',Heap.ExtBut it s.heap h'->Q none { s with heap:=h' }):wpAny (model P w) A (pyNext (.ref it)) Q E s:=by
 have T:s.TypeIs (.ref it) "set_iterator":=⟨_,hit,rfl⟩
 unfold pyNext
 refine Dr (wpAny_attempt (wpAny_callSpecial?_slot (name:=Str.ofString "__next__") T SF.slot_next (wpAny_call_entry SF.slot_next T SF.entry_next ?_ (SF.args_next _))))
 show wpAny _ _ (fieldsOf (.ref it) >>= _) _ _ s
 refine Dr (wpAny_fieldsOf hit rfl ?_)
 show wpAny _ _ (setEntries a >>= _) _ _ s
 unfold setEntries
 refine Dr (Dr (wpAny_setState_of ho hd hf (Dt ?_)))
 rw[if_neg (by simp)]
 show wpAny _ _ (seqItems? (.ref T0) >>= _) _ _ s
 refine Dr (wpAny_seqItems hT0 rfl ?_)
 dsimp only
 rw[DK]
 have hpl:((ys.map fun(i:Nat)=>rawInt i).toArray:Array Value)[i]?=none:=by
  rw[List.getElem?_toArray,DA,hy]
  rfl
 rw[hpl]
 refine Dr (wpAny_setField hit rfl (by simp) ?_)
 have e1:=ic (k:=0) (x:=rawInt 0) hit rfl
 have e1':(s.heap.update it (Obj.mapFields (·.setIfInBounds 0 (rawInt 0)))).get? it=some (bM a (rawInt 0) i es.size ep):=e1
 refine Dr (wpAny_setField (s:={ s with heap:=s.heap.update it (Obj.mapFields (·.setIfInBounds 0 (rawInt 0))) }) e1' rfl (by simp) ?_)
 exact lB (s:=s) (it:=it) hh ((Heap.SameBut.update ..).trans (Heap.SameBut.update ..)).extBut hQ
theorem mU{it a:Addr}{first:Value}{i n ep:Nat}{Q:Value->Shared->Prop}(hit:s.heap.get? it=some (bM a first i n ep))(h:Q (.ref it) s):wpAny (model P w) A (pyIter (.ref it)) Q E s:=by
 have T:s.TypeIs (.ref it) "set_iterator":=⟨_,hit,rfl⟩
 refine wpAny_pyIter_slot T SF.vB (wpAny_call_entry SF.vB T SF.wO ?_ (SF.wR _))
 show wpAny _ _ (ret (.ref it)) _ _ s
 exact Dt ⟨_,rfl,"set_iterator",_,T,SF.slot_next.lookup,h⟩
theorem Bh(hh:A.handled=none)(hT:w.params.followText "set-order" = true)(I a:Addr)(hne:a≠I){o:Obj}{es:Array (Int×Value)}{ep:Nat}{t:SetTable}(hd:o.data=.set es ep t)(hf:t.fits es.size=true):
  Walks P w A I [I,a] [I] es.size (fun i v=>∃x,(pickOrder (w.params.setOrder a ep) es)[i]?=some x/\v=x.2) (fun i h=>h.get? I=some (bM a (rawInt 0) i es.size ep)/\h.get? a=some o) where
 sub:=fun b hb=>by simp at hb;simp[hb]
 frame:=fun _ _ _ st hk=>⟨hk I (by simp) _ st.1,hk a (by simp) _ st.2⟩
 item:=fun i s Q E hi st hQ=>by
  have hl:(pickOrder (w.params.setOrder a ep) es).size=es.size:=by
   rw[←DC,(jo _ es).length_eq,DC]
  have hx:=getElem?_pos (pickOrder (w.params.setOrder a ep) es) i (by omega)
  refine AL hT st.1 st.2 hd hf hx fun h' hit' sb=>?_
  exact hQ _ h' s.toks ⟨_,hx,rfl⟩ ⟨hit',(sb.2 a hne).trans st.2⟩ fun b o hb e=>sb.extBut b o (fun h=>hb (by simp[h])) e
 done:=fun s Q E st hQ=>by
  have hl:(pickOrder (w.params.setOrder a ep) es).size=es.size:=by
   rw[←DC,(jo _ es).length_eq,DC]
  exact ym hh hT st.1 st.2 hd hf (Array.getElem?_eq_none (by omega)) fun h' he'=>hQ h' s.toks fun b o hb e=>he' b o (fun h=>hb (by simp[h])) e
 self:=fun _ _ _ _ st hQ=>mU st.1 hQ
theorem BG(hh:A.handled=none)(I a T0:Addr)(hne:a≠I)(hneT:T0≠I){o:Obj}{es:Array (Int×Value)}{ep:Nat}{t:SetTable}{ys:List Nat}(hd:o.data=.set es ep t)(hf:t.fits es.size=true)(hy:ys.Perm (List.range es.size)):
  Walks P w A I [I,a,T0] [I] es.size (fun i v=>∃y x,ys[i]?=some y/\es[y]?=some x/\v=x.2) (fun i h=>h.get? I=some (bM a (.ref T0) i es.size ep)/\h.get? a=some o/\h.get? T0=some (seqObj "tuple" (ys.map fun(i:Nat)=>rawInt i).toArray 0)) where
 sub:=fun b hb=>by simp at hb;simp[hb]
 frame:=fun _ _ _ st hk=>⟨hk I (by simp) _ st.1,hk a (by simp) _ st.2.1,hk T0 (by simp) _ st.2.2⟩
 item:=fun i s Q E hi st hQ=>by
  have hl:ys.length=es.size:=by rw[hy.length_eq,List.length_range]
  have hyi:=Dz (l:=ys) (i:=i) (by omega)
  have hlt:ys[i]<es.size:=List.mem_range.mp (hy.mem_iff.mp (DX (by omega)))
  have hx:=getElem?_pos es ys[i] hlt
  refine CL st.2.2 st.1 st.2.1 hd hf hyi hx fun h' hit' sb=>?_
  exact hQ _ h' s.toks ⟨_,_,hyi,hx,rfl⟩ ⟨hit',(sb.2 a hne).trans st.2.1,(sb.2 T0 hneT).trans st.2.2⟩ fun b o hb e=>sb.extBut b o (fun h=>hb (by simp[h])) e
 done:=fun s Q E st hQ=>by
  have hl:ys.length=es.size:=by rw[hy.length_eq,List.length_range]
  exact wU hh st.2.2 st.1 st.2.1 hd hf (List.getElem?_eq_none (by omega)) fun h' he'=>hQ h' s.toks fun b o hb e=>he' b o (fun h=>hb (by simp[h])) e
 self:=fun _ _ _ _ st hQ=>mU st.1 hQ
end
end L2
namespace PyProof.Rows
open PySem
section
variable {prog:Program} {w:World} {A:Around} {E:Value->Shared->Prop} {s:Shared} {κ:SortKind} {X:Keyed->Prop}
open Classical in
end
end PyProof.Rows
namespace L2
open PySem PySem.Spec PyProof.Rows
section
variable {P:Program} {w:World} {A:Around} {E:Value->Shared->Prop} {s:Shared}
theorem AN:Slot "set" "__len__" "set.__len__":=
 .of (owner:="set") (n:="__len__") (by rw[typeLookup_type,builtinLookup_eq_fast];kernel_rfl) (by decide +kernel) (by decide +kernel) (by decide +kernel)
  (by first | exact .inl (by decide +kernel) | exact .inr (by decide +kernel)) (by rw[isSubtype_type];kernel_rfl)
theorem sub_set_set:isSubtype (.type "set") (.type "set")=pure true:=by rw[isSubtype_type];kernel_rfl
theorem split_len:splitId "set.__len__" = some ("set","__len__"):=by kernel_rfl
theorem CA{a:Addr}{Q:Bool->Shared->Prop}(T:s.TypeIs (.ref a) "set")(h:Q false s):wpAny (model P w) A (Builtin.List.listLengthHint (.ref a)) Q E s:=by
 unfold Builtin.List.listLengthHint
 refine Dr (wpAny_specialOf T AN.lookup ?_)
 dsimp only
 rw[split_len]
 dsimp only
 refine Dr (wpAny_isInstance (T:="set") (b:=true) T sub_set_set ?_)
 simp only[Bool.not_true,Bool.false_eq_true,if_false]
 rw[if_pos (by first | rfl | decide +kernel | kernel_rfl)]
 refine Dr (wpAny_typeOf T ?_)
 exact Dt h
end
end L2
namespace L2
open PySem PySem.Spec PyProof.Rows
section
variable {P:Program} {w:World} {A:Around} {E:Value->Shared->Prop} {s:Shared}
open Classical in
end
end L2
namespace L2
open PySem PySem.Spec PyProof.Rows
section
variable {P:Program} {w:World}
end
section
variable {X:Cx} {pins:List (Addr×Obj)} {σ:St} {H:Hp} {s:Shared}
theorem Inv.dr(I:Inv X pins σ H s)(d:Drawn):Inv X pins σ H { s with drawn:=d }:=⟨I.ok,I.os,I.bare,I.base,I.loc,I.cell,I.free,I.freeC,I.pin,I.hok,I.len⟩
end
section
variable {X:Cx}
end
end L2
namespace L2
open PySem PySem.Spec PyProof.Rows
section
variable {X:Cx} {pins:List (Addr×Obj)} {σ:St} {H:Hp} {s:Shared}
theorem Inv.turnedNew{h':Heap}{L:List Addr}{o:HO}{t':Nat}(I:Inv X pins σ H s)(k:∀b u,b∉L->s.heap.get? b=some u->h'.get? b=some u)(f:∀b∈L,bT X pins H b)
  (new:bj X.prog X.w (upd H s.heap.objs.size o) h' s.heap.objs.size o):Inv X pins σ (upd H s.heap.objs.size o) { s with heap:=h',toks:=t' }:=by
 have hn:H s.heap.objs.size=none:=I.hok.fresh (DR _)
 have nin:∀b u,H b=some u->b∉L:=fun b u e z=>by
  rw[(f b z).1]at e
  cases e
 have up:∀b u,H b=some u->upd H s.heap.objs.size o b=some u:=fun b u e=>by
  rw[aB (cw e hn)]
  exact e
 refine I.step (g':=s.gens) (d':=s.drawn) (ch:=L) (fun b hb=>?_) (fun b u _ _ hc e _=>k b u hc e) (fun b u _ _ hc e _=>⟨u.slots,k b u hc e⟩) (fun b u _ e n=>?_) (fun b u hc e=>⟨u,k b u hc e⟩) (fun b xs e=>up b _ e) (fun b u v e=>up b _ e) (fun b ps e=>⟨#[],by rw[up b _ e];simp⟩) (fun m hm=>?_) (fun b u e=>?_) I.bare
 ·obtain⟨f0,f1,f2,f3,f4,f5⟩:=f b hb
  exact⟨f3,f1,f4,f5⟩
 ·rw[aB (DQ (Dx e))]
  exact n
 ·obtain⟨u,es,ep,hu,r⟩:=hm
  exact⟨u,es,ep,k _ u (fun z=>(f _ z).2.1 rfl) hu,r⟩
 ·by_cases hb:b=s.heap.objs.size
  ·subst hb
   rw[aH]at e
   cases e
   exact new
  ·rw[aB hb]at e
   refine(I.hok b u e).stay (fun c v hc q=>k c v ?_ q) (fun c q=>up c _ q) fun c xs q=>up c _ q
   rcases hc with z | z
   ·rw[z];exact nin b u e
   ·exact nin c _ z
end
open AutoSeq1 (wpAny_loadPart')in
section
variable {K:Du} {σ:St} {H:Hp} {Q:VK}
end
section
variable {X:Cx}
def ly(neg:Bool):R2:=fun x y H Q=>∃n p xs d ds,aU H n x d/\y=.ref p/\H p=some (.lst xs)/\Paired (aU H n) xs ds/\n<=50/\Q (.bl (if neg then !(ds.any fun e=>PyData.eqv e d)else ds.any fun e=>PyData.eqv e d)) H
theorem Dm{k:Nat}(hr:Room k X.A):bx X (compareOp .In) (ly false):=by
 intro pins s σ H x y v u Q I rx ry h
 obtain⟨n,p,xs,d,ds,h1,rfl,h2,h3,hn,q⟩:=h
 have h4:aU H (n+1) (.ref p) (.list ds):=.inr ⟨p,xs,ds,rfl,.inr ⟨h2,rfl⟩,h3⟩
 obtain⟨as,ra⟩:=aU.reads I n h1 rx
 obtain⟨bs,rb⟩:=aU.reads I (n+1) h4 ry
 have l1:=aU.lay n h1
 have l2:=i6 (fun{x d}=>aU.lay (H:=H) n) h3
 have hu:=hr.units
 have hm:min (PyData.depthAll ds) d.depth<=50:=Eb (Nat.min_le_right _ _) (Eb l1.2 hn)
 exact SeqAt.in_list_reads rb ra l2.1 l1.1 (by omega) ⟨.bl _,H,I,rfl,q⟩
theorem tp{k:Nat}(hr:Room k X.A):bx X (compareOp .NotIn) (ly true):=by
 intro pins s σ H x y v u Q I rx ry h
 obtain⟨n,p,xs,d,ds,h1,rfl,h2,h3,hn,q⟩:=h
 have h4:aU H (n+1) (.ref p) (.list ds):=.inr ⟨p,xs,ds,rfl,.inr ⟨h2,rfl⟩,h3⟩
 obtain⟨as,ra⟩:=aU.reads I n h1 rx
 obtain⟨bs,rb⟩:=aU.reads I (n+1) h4 ry
 have l1:=aU.lay n h1
 have l2:=i6 (fun{x d}=>aU.lay (H:=H) n) h3
 have hu:=hr.units
 have hm:min (PyData.depthAll ds) d.depth<=50:=Eb (Nat.min_le_right _ _) (Eb l1.2 hn)
 exact SeqAt.notIn_list_reads rb ra l2.1 l1.1 (by omega) ⟨.bl _,H,I,rfl,q⟩
theorem vJ{neg:Bool}{n:Nat}{x:V}{p:Addr}{xs:List V}{d:PyData}{ds:List PyData}{H:Hp}{Q:VK}(h1:aU H n x d)(h2:H p=some (.lst xs))(h3:Paired (aU H n) xs ds)(hn:n<=50)(q:Q (.bl (if neg then !(ds.any fun e=>PyData.eqv e d)else ds.any fun e=>PyData.eqv e d)) H):ly neg x (.ref p) H Q:=
 ⟨n,p,xs,d,ds,h1,rfl,h2,h3,hn,q⟩
end
end L2
namespace L2
open PySem PySem.Spec PyProof.Rows
abbrev Row3:=Str×Tok×Value
def j8(w:World)(e:Row3):DictEntry:=⟨PyData.keyHash w.params e.1,.str e.1 e.2.1,e.2.2⟩
def gh(w:World)(l:List Row3)(ep:Nat):Obj:={ cls:=.type "dict",dict:=none,data:=.dict (l.map (j8 w)).toArray ep,slots:=#[] }
structure GDict(w:World)(K:Du)(a:Addr)(kvs:List (Key×V)):Prop where
 has:∃l ep,K.lookup a=some (gh w l ep)/\KV kvs (l.map fun e=>((Sum.inr e.1:Key),e.2.2))
 nd:(kvs.map (·.1)).Nodup
 sm:(a == sysModules)=false
theorem qG{P:Program}{w:World}:∀l:List Row3,Pairs (bU P w) (l.map (j8 w)) (l.map fun e=>((Sum.inr e.1:Key),e.2.2))
 | []=>.nil
 | e::l=>.cons (lT P w e.1 e.2.1) rfl (qG l)
theorem A8{P:Program}{w:World}(l:List Row3):KeysOf (bU P w) (l.map (j8 w)).toArray:=fun e he=>by
 have he':e∈l.map (j8 w):=by simpa using he
 obtain⟨x,_,rfl⟩:=List.mem_map.mp he'
 exact⟨.inr x.1,lT P w x.1 x.2.1,rfl⟩
theorem GDict.at{X:Cx}{pins:List (Addr×Obj)}{σ:St}{H:Hp}{s:Shared}{a:Addr}{kvs:List (Key×V)}(D:GDict X.w X.K a kvs)(I:Inv X pins σ H s):∃vs,KV kvs vs/\s.heap.DictOf (bU X.prog X.w) a vs:=by
 obtain⟨l,ep,hl,r⟩:=D.has
 refine⟨_,r,gh X.w l ep,_,ep,I.kIn _ _ hl,⟨rfl,rfl,rfl⟩,rfl,A8 l,qG l,?_⟩
 rw[←r.keys]
 exact D.nd
section
variable {X:Cx} {x:Str} {a:Addr} {kvs:List (Key×V)} {i:Expr} {ty:TE} {p pos:Pos}
def tG(kvs:List (Key×V))(ty:TE):TE:=fun σ H Q=>ty σ H fun y H1=>∃k v,y=kV k/\bB kvs k=some v/\Q v H1
def pU(neg:Bool)(kvs:List (Key×V))(ty:TE):TE:=fun σ H Q=>ty σ H fun y H1=>∃k,y=kV k/\Q (.bl (if neg then !(bB kvs k).isSome else(bB kvs k).isSome)) H1
theorem zx(hg:Gl X x)(hm:X.mg x=some (.ref a))(D:GDict X.w X.K a kvs)(hi:PE X i ty)(hs:n8 i)(hd:(x == ("__debug__":Str))=false:=by decide):PE X (.Subscript (.Name x p) i pos) (tG kvs ty):=by
 intro pins s σ H Q I h
 refine vS PySem.F.slot_dict_getitem.lookup hs (ir I hg hm (av (hi pins s σ H _ I h) fun iv s2 ⟨y,H2,I2,ry,k,v,ey,hv,q⟩=>?_) hd)
 subst ey
 obtain⟨vs,rel,dd⟩:=D.at I2
 obtain⟨w',hw,rw'⟩:=dF.some_of (v:=v) (o:=valueAt vs k) (by rw[←hv];exact rel.val k)
 exact⟨dd.typeIs,wpAny_getItem_of (fG ry) dd.mapOf hw ⟨v,H2,I2.tok _,rw',q⟩⟩
theorem BD(hg:Gl X x)(hm:X.mg x=some (.ref a))(D:GDict X.w X.K a kvs)(hi:PE X i ty)(hd:(x == ("__debug__":Str))=false:=by decide):PC X .In i (.Name x p) (pU false kvs ty):=by
 intro pins s σ H Q I h
 refine av (hi pins s σ H _ I h) fun iv s1 ⟨y,H1,I1,ry,k,ey,q⟩=>ir I1 hg hm ?_ hd
 subst ey
 obtain⟨vs,rel,dd⟩:=D.at I1
 refine wpAny_in_of (fG ry) D.sm dd.mapOf ?_
 rw[←(rel.val k).isSome_eq]
 exact⟨.bl (bB kvs k).isSome,H1,I1.tok _,rfl,q⟩
theorem rd_gget{σ:St}{H:Hp}{Q:VK}(h:ty σ H fun y H1=>∃k v,y=kV k/\bB kvs k=some v/\Q v H1):tG kvs ty σ H Q:=h
theorem rd_gin{neg:Bool}{σ:St}{H:Hp}{Q:VK}(h:ty σ H fun y H1=>∃k,y=kV k/\Q (.bl (if neg then !(bB kvs k).isSome else(bB kvs k).isSome)) H1):pU neg kvs ty σ H Q:=h
theorem xG{R:V->Prop}{z:Str}{v:V}(hv:bB kvs (.inr z)=some v)(h:R v):∃k v,V.str z=kV k/\bB kvs k=some v/\R v:=⟨.inr z,v,rfl,hv,h⟩
def tH:R2:=fun x y H Q=>∃a b,x=.str a/\y=.str b/\Q (.bl (!decide (b.cps.toList<a.cps.toList))) H
theorem vw:bx X (compareOp .LtE) tH:=by
 intro pins s σ H x y v u Q I rx ry h
 obtain⟨a,b,rfl,rfl,q⟩:=h
 obtain⟨t,rfl⟩:=rx
 obtain⟨t',rfl⟩:=ry
 exact PySem.P.le_str ⟨.bl _,H,I,rfl,q⟩
theorem rd_leS{a b:Str}{H:Hp}{Q:VK}(h:Q (.bl (!decide (b.cps.toList<a.cps.toList))) H):tH (.str a) (.str b) H Q:=⟨a,b,rfl,rfl,h⟩
theorem nA{α β:Type}{f g:α->Option β}:∀{l:List α},(∀x∈l,f x=g x)->l.filterMap f=l.filterMap g
 | [],_=>rfl
 | x::l,h=>by
  rw[List.filterMap_cons,List.filterMap_cons,h x DE,nA fun y hy=>h y (DB _ hy)]
theorem w9(n:Nat)(xs:List Value)(h:xs.length=n):(List.range n).filterMap (fun i:Nat=>xs[((n:Int)-1+(i:Int)*(-1)).toNat]?)=xs.reverse:=by
 refine List.ext_getElem? fun i=>?_
 have e:(List.range n).filterMap (fun i:Nat=>xs[((n:Int)-1+(i:Int)*(-1)).toNat]?)=(List.range n).map (fun i:Nat=>xs.reverse.getD i .none):=by
  rw[←List.filterMap_eq_map]
  refine nA fun i hi=>?_
  have hi:=List.mem_range.mp hi
  have:((n:Int)-1+(i:Int)*(-1)).toNat=n-1-i:=by omega
  rw[this,Function.comp_apply,List.getD_eq_getElem?_getD,List.getElem?_reverse (by omega),h,Dz (show n-1-i<xs.length by omega)]
  rfl
 rw[e,DA]
 by_cases hi:i<n
 ·rw[Dz (by simpa using hi),Dz (by simpa[h]using hi)]
  simp[List.getD_eq_getElem?_getD,h,hi]
 ·rw[List.getElem?_eq_none (by simpa using hi),List.getElem?_eq_none (by simpa[h]using hi)]
  rfl
theorem yW(its:List Value):slicePick its.toArray none none (some (-1))=its.reverse.toArray:=by
 unfold slicePick
 have e:sliceBounds none none (some (-1)) its.toArray.size=((its.length:Int)-1,-1,-1):=by
  unfold sliceBounds
  simp
 rw[e]
 refine congrArg List.toArray ?_
 rw[←w9 its.length its rfl]
 unfold sliceRange
 simp only
 rw[if_neg (by decide),List.filterMap_map]
 have el:(if(its.length:Int)-1 > -1 then((its.length:Int)-1 - -1 - -1-1) / - -1 else 0).toNat=its.length:=by
  rw[show (- -1:Int)=1 by decide,Int.ediv_one]
  split<;>omega
 rw[el]
 refine nA fun i hi=>?_
 rw[Function.comp_apply,show (its.length:Int)-1 + -1*(i:Int)=(its.length:Int)-1+(i:Int) * -1 by omega]
 simp
theorem Vals.rev{xs:List V}{us:List Value}(r:Vals xs us):Vals xs.reverse us.reverse:=by
 induction r with
 | nil=>exact .nil
 | cons h t ih=>
  rw[List.reverse_cons,List.reverse_cons]
  exact Vals.append ih (.cons h .nil)
def mK(K:Du):V->Hp->VK->Prop:=fun x H Q=>∃a xs,x=.ref a/\ag K H a xs/\eA H (.lst xs.reverse) Q
def pz(K:Du)(te:TE)(ts:TO):TE:=fun σ H Q=>te σ H fun x H1=>ts σ H1 fun k H2=>k=some (-1)/\mK K x H2 Q
theorem BI{e st:Expr}{te:TE}{ts:TO}{p2:Pos}(K:Du)(he:PE X e te)(hs:PO X (some st) ts)(hK:X.K=K:=by rfl):PE X (.Subscript e (.Slice none none (some st) p2) pos) (pz K te ts):=by
 subst hK
 intro pins s σ H Q I h
 refine Subscript_ (av (he pins s σ H _ I h) fun v s1 ⟨x,H1,I1,r1,q1⟩=>?_)
 refine wpAny_Slice ?_
 rw[evalPart_none]
 refine Dt (Dt ?_)
 refine av (hs pins s1 σ H1 _ I1 q1) fun vs s2 ⟨k,H2,I2,pk,q2⟩=>?_
 obtain⟨rfl,a,xs,rfl,hx,q⟩:=q2
 cases pk with
 | int i tk=>
 cases r1
 have I3:Inv X pins σ H2 { s2 with heap:=s2.heap.push { cls:=.type "slice",data:=.fields #[.none,.none,.int (-1) tk] } }:=I2.kept (t':=s2.toks) fun b ob q=>Dv _ q
 obtain⟨its,r,ht,hz⟩:=I3.list hx
 have hlen:=r.length
 show wpAny (model X.prog X.w) X.A (subscriptTail e (.Slice none none (some st) p2) (.ref a) (.ref s2.heap.objs.size)) (EP X pins σ Q) X.xe { s2 with heap:=s2.heap.push { cls:=.type "slice",data:=.fields #[.none,.none,.int (-1) tk] } }
 refine tail_any (ops:=[.ref a,.ref s2.heap.objs.size]) ht.isList.typeIs slot_list_getitem.lookup (wpAny_getItem_list_slice ht.isList (Heap.IsSliceOf.new ..) .none .none (.int (-1) tk) (by decide) ?_ (by rw[DD];omega)) (by with_unfolding_all rfl)
 rw[yW]
 exact⟨.ref _,_,I3.laid (t':=s2.toks) (o:=.lst xs.reverse) (fun b ob e=>Dv _ e) (DR _) ⟨by rw[List.length_reverse];exact hz,_,0,r.rev,Dw _ rfl⟩,rfl,q _ (I3.hok.fresh (DR _))⟩
theorem rd_revL{K:Du}{te:TE}{ts:TO}{σ:St}{H:Hp}{Q:VK}(h:te σ H fun x H1=>ts σ H1 fun k H2=>k=some (-1)/\mK K x H2 Q):pz K te ts σ H Q:=h
theorem Au{K:Du}{H:Hp}{Q:VK}{a:Addr}{xs:List V}(e:ag K H a xs)(h:eA H (.lst xs.reverse) Q):mK K (.ref a) H Q:=⟨a,xs,rfl,e,h⟩
theorem rd_disp{trs:List (TE×TE)}{σ:St}{H:Hp}{Q:VK}(h:∀p,H p=none->jt trs σ (upd H p (.dK [])) fun ps H2=>H2 p=some (.dK [])/\∃kvs:List (Key×V),ps=kvs.map (fun kv=>(kV kv.1,kv.2))/\kvs.length<=15/\Q (.ref p) (upd H2 p (.dK (eS [] kvs)))):oY trs σ H Q:=h
theorem rd_dget{td:TE}{σ:St}{H:Hp}{Q:VK}(h:td σ H fun x H1=>ty σ H1 fun y H2=>∃a v,x=.ref a/\cC H2 a y (some v)/\Q v H2):pH td ty σ H Q:=h
end
end L2
namespace L2
open PySem PySem.Spec PyProof.Rows
section
variable {prog:Program} {w:World} {A:Around} {E:Value->Shared->Prop} {s:Shared} {r d:Addr}
end
section
variable {X:Cx}
def uw(tk tv:TE):TE:=fun σ H Q=>∀p,H p=none->tk σ (upd H p (.dT [])) fun x H1=>tv σ H1 fun v H2=>∃b k,x=.ref b/\H2 b=some (.tup (List.map kV k))/\H2 p=some (.dT [])/\Q (.ref p) (upd H2 p (.dT [(k,v)]))
theorem qF{ek ev:Expr}{tk tv:TE}{pos:Pos}(hu:X.A.units+1<cLine)(hk:PE X ek tk)(hv:PE X ev tv):PE X (.Dict [some ek] [ev] pos) (uw tk tv):=by
 intro pins s σ H Q I q
 have hn:=I.hok.fresh (DR s.heap.objs.size)
 have I1:=I.laid (a:=s.heap.objs.size) (o:=.dT []) (h':=s.heap.push { cls:=.type "dict",data:=.dict #[] }) (t':=s.toks) (fun _ _ q=>Dv _ q) (DR _) (xl s.heap I.big)
 refine wpAny_Dict_any rfl rfl (by simp) (by simp) ?_
 refine pairTrees_cons_walk (av (hk pins _ σ _ _ I1 (q _ hn)) fun u s1 ⟨x,H1,I1,rx,q1⟩=>av (hv pins s1 σ H1 _ I1 q1) fun w2 s2 ⟨v,H2,I2,ry,q2⟩=>pairTrees_nil_walk ?_)
 obtain⟨b,k,rfl,hb,e,q3⟩:=q2
 cases(show u=Value.ref b from rx)
 obtain⟨z,hd,xs,rel,dd⟩:=vo I2.hok e
 have hz:xs.length<=sizeLine:=by rw[←Paired.length rel];exact Nat.zero_le _
 unfold storeAll
 rw[List.forIn_cons]
 refine Dr (Dr (wpAny_dictSet_heap (hsz:=hz) (show(tupleKind (bU X.prog X.w)).room X.A from Nat.lt_of_succ_lt hu) (gZ I2.hok hb) dd fun h' dd' hs=>Dt ?_))
 dsimp only
 rw[List.forIn_nil]
 refine Dt ⟨.ref s.heap.objs.size,_,?_,rfl,q3⟩
 obtain⟨q,es,ep,hq,h2,h3,h4,_,h5⟩:=dd'
 refine jN I2 (by rw[e];exact True.intro) hs ⟨q,hq⟩ ⟨by rw[sizeLine_eq];simp,hd,_,(rel.put k hb ry).keeps fun c ys ec=>?_,q,es,ep,hq,h2,h3,h4,h5⟩
 rw[aB (dJ ec e (fun z=>nomatch z))]
 exact ec
theorem rd_disp1{tk tv:TE}{σ:St}{H:Hp}{Q:VK}(h:∀p,H p=none->tk σ (upd H p (.dT [])) fun x H1=>tv σ H1 fun v H2=>∃b k,x=.ref b/\H2 b=some (.tup (List.map kV k))/\H2 p=some (.dT [])/\Q (.ref p) (upd H2 p (.dT [(k,v)]))):uw tk tv σ H Q:=h
theorem rd_din{ty td:TE}{σ:St}{H:Hp}{Q:VK}(h:ty σ H fun y H1=>td σ H1 fun x H2=>∃a o,x=.ref a/\cC H2 a y o/\Q (.bl o.isSome) H2):u5 ty td σ H Q:=h
theorem rd_dnin{ty td:TE}{σ:St}{H:Hp}{Q:VK}(h:ty σ H fun y H1=>td σ H1 fun x H2=>∃a o,x=.ref a/\cC H2 a y o/\Q (.bl (!o.isSome)) H2):pC ty td σ H Q:=h
theorem rd_dput{td ty tv:TE}{D:Ends}{σ:St}{H:Hp}(h:tv σ H fun v H1=>td σ H1 fun x H2=>ty σ H2 fun y H3=>∃a H4,x=.ref a/\fL H3 a y v H4/\D.nx σ H4):uz td ty tv D σ H:=h
end
end L2
namespace L2
open PySem PySem.Spec PyProof.Rows
section
variable {X:Cx}
end
end L2
namespace L2
open PySem PySem.Spec PyProof.Rows
section
variable {X:Cx} {tg:Expr}
end
section
variable {prog:Program} {w:World} {A:Around} {E:Value->Shared->Prop} {s:Shared}
end
section
variable {X:Cx} {tg:Expr}
end
end L2
namespace L2
open PySem PySem.Spec PyProof.Rows
section
variable {X:Cx}
theorem Cs(K:Du){o:Expr}{to:TE}{name:Str}{apos cpos:Pos}{T id:String}{r:V->List V->Hp->VK->Prop}(pa:PlainAttrs T)(slot:Slot T name id)(hty:typeOf (.builtin id)=pure (.type "method_descriptor"))(hm:iA X id r)(ho:PE X o to)(h:X.K=K:=by rfl)
  (hbase:attributeBase o name X.env (eval o X.env)=eval o X.env:=by rfl) (hline:(apos.endLine == cpos.line)=true:=by rfl):PE X (.Call (.Attribute o name apos) [] [] cpos) (kZ K T r to):=by
 subst h
 exact CZ pa slot hty hm ho hbase hline
end
theorem rd_bm0{K:Du}{T:String}{r:V->List V->Hp->VK->Prop}{to:TE}{σ:St}{H:Hp}{Q:VK}(h:to σ H fun x H1=>fS K T x H1/\r x [] H1 Q):kZ K T r to σ H Q:=h
def xj(K:Du):List V->Hp->VK->Prop:=fun xs H Q=>∃(p:Addr) (bs:List Bool),xs=[.ref p]/\ag K H p (bs.map V.bl)/\Q (.bl (bs.any id)) H
theorem any_range(bs:List Bool):((List.range bs.length).any fun i=>bs.getD i false)=bs.any id:=by
 rw[Ef,Ee,Ee]
 constructor
 ·rintro⟨i,hi,h⟩
  have hi':=List.mem_range.mp hi
  rw[List.getD_eq_getElem?_getD,Dz hi']at h
  exact⟨_,DX hi',h⟩
 ·rintro⟨b,hb,h⟩
  obtain⟨i,hi,e⟩:=List.mem_iff_getElem.mp hb
  refine⟨i,List.mem_range.mpr hi,?_⟩
  rw[List.getD_eq_getElem?_getD,Dz hi,e]
  exact h
theorem Ac{X:Cx}(K:Du)(hc:X.calm=true)(hK:X.K=K:=by rfl):bO X (.builtin "any") (xj K):=by
 subst hK
 intro pins s σ H xs us Q I r h
 obtain⟨p,bs,rfl,hq,q⟩:=h
 obtain⟨u,rfl,rx⟩:=vals1 r
 cases rx
 obtain⟨its,rv,pl,hz⟩:=I.list hq
 have eb:=me rv
 have hne:p≠s.heap.objs.size:=DQ (by obtain⟨o,n,e,_⟩:=pl;exact Dx e)
 refine call_any_walk (wpAny_pyIter_list pl.isList ?_)
 have I1:Inv X pins σ H { s with heap:=s.heap.push { cls:=.type "list_iterator",data:=.fields #[.ref p,.int 0 0] } }:=I.kept (t':=s.toks) fun b o e=>Dv _ e
 have hf:=I.fpOk (H':=H) (DR s.heap.objs.size) I.fresh
 refine⟨s.heap.objs.size,_,_,_,_,_,(fun i=>bs.getD i false),rfl,Walks.list (A:=X.A.in1) (I.ok.hd hc) _ p hne its.toArray,⟨⟨_,Dw _ rfl,rfl,rfl⟩,?_⟩,?_,fun h' tk hk=>?_⟩
 ·exact pl.isList.push _
 ·intro i v s' Q' E' hv hQ
  rw[eb]at hv
  have hv':(bs.map Value.bool)[i]?=some v:=by simpa using hv
  rw[DA]at hv'
  cases eg:bs[i]? with
  | none=>rw[eg]at hv';cases hv'
  | some b=>
   rw[eg]at hv'
   cases hv'
   have eb':bs.getD i false=b:=by rw[List.getD_eq_getElem?_getD,eg];rfl
   have hQ':Q' (bs.getD i false) s':=hQ
   rw[eb']at hQ'
   exact wpAny_truthy_bool hQ'
 ·obtain⟨f0,f1,f2,f3,f4,f5⟩:=hf
  have hl:=rv.length
  rw[Dy]at hl
  refine⟨.bl (bs.any id),H,I1.turned (it:=s.heap.objs.size) (fun b o hb e=>hk b o (by simpa using hb) e) f0 f1 f3 f4 f5,?_,q⟩
  show Value.bool _=Value.bool _
  rw[DD,←hl,any_range]
end L2
namespace L2
open PySem PySem.Spec PyProof.Rows
section
variable {X:Cx}
end
section
variable {X:Cx}
end
end L2
namespace L2
open PySem PySem.Spec PyProof.Rows
section
variable {X:Cx}
end
end L2
namespace L2
open PySem PySem.Spec PyProof.Rows
section
variable {P:Program} {w:World} {K:Du} {mg:Str->Option Value} {base:Heap}
end
section
variable {X:Cx}
end
end L2
namespace L2
open PySem PySem.Spec PyProof.Rows
abbrev cU(w:World):Bool:=!w.params.followText "set-order"
theorem xC(t:SetTable)(es:Array (Int×Value))(h:Int)(x:Value):(layNew t es h x).2.1.led=t.led:=by
 unfold layNew
 split
 ·show((t.put _).1.orStandIn _).led=t.led
  unfold SetTable.orStandIn
  split<;>rfl
 ·rfl
theorem x9{mask finger moves:Nat}{led plain:Bool}{hs:Array Int}{t:SetTable}{o:Array Nat}(h:SetTable.laid mask finger moves led plain hs=some (t,o)):t.led=led/\t.plain=plain:=by
 unfold SetTable.laid at h
 cases e:SetTable.layClean mask hs with
 | none=>rw[e]at h;cases h
 | some ow=>
  rw[e]at h
  cases h
  exact⟨rfl,rfl⟩
theorem yH(t:SetTable)(es:Array (Int×Value))(n:Nat):(relayAll t es n).2.1.led=t.led/\(t.plain=false->(relayAll t es n).2.1.plain=false):=by
 unfold relayAll
 split
 ·rename_i t' o e
  have:=x9 e
  dsimp only
  split
  ·exact⟨this.1,fun h=>this.2.trans h⟩
  ·exact⟨rfl,fun _=>rfl⟩
 ·exact⟨rfl,fun _=>rfl⟩
section
variable {P:Program} {w:World} {A:Around} {E:Value->Shared->Prop} {s:Shared}
end
section
variable {P:Program} {w:World} {A:Around} {E:Value->Shared->Prop} {s:Shared}
theorem xT(a:Value){Q₁:Value->Shared->Prop}(h:Q₁ (.ref s.heap.objs.size) { s with heap:=s.heap.push (cb (cU w)) }):
  codeAny (model P w) A (.call (.builtin "set.__new__") ⟨[.type "set",a],[]⟩) (wants Q₁ E) s:=by
 refine codeAny_of_tree ?_
 show wpAny _ A.in1 (do checkBuiltinCall "set.__new__" ⟨[.type "set",a],[]⟩;again (.builtin "set.__new__" ⟨[.type "set",a],[]⟩)) _ _ s
 refine Dr (wpAny_of_eq (F.newCall_set_1 a) (Dt ⟨plainId_quiet F.plain_set_new _,codeAny_builtin F.entry_set_new ?_⟩))
 rw[Around.under_plainId F.plain_set_new _]
 unfold Builtin.«set.__new__» Builtin.Frozenset.newClass
 have hsub:=sub_set_self
 obtain⟨hp,g,d,tk,os⟩:=s
 dsimp only
 wp_walk
 refine wpAny_askSetting (Dt ?_)
 dsimp only
 simp only[newObj]
 refine Dr (wpAny_alloc (Dt ?_))
 exact Dt h
end
end L2
namespace L2
open PySem PySem.Spec PyProof.Rows
section
variable {P:Program} {w:World} {A:Around} {E:Value->Shared->Prop} {s:Shared}
end
end L2
namespace L2
open PySem PySem.Spec PyProof.Rows
section
variable {X:Cx} {pins:List (Addr×Obj)} {σ:St} {H:Hp} {s:Shared}
end
section
variable {X:Cx}
end
end L2
namespace L2
open PySem PySem.Spec PyProof.Rows
section
variable {P:Program} {w:World} {A:Around} {E:Value->Shared->Prop} {s:Shared}
end
section
variable {X:Cx}
end
end L2
namespace L2
open PySem PySem.Spec PyProof.Rows
section
variable {X:Cx}
end
end L2
namespace L2
open PySem PySem.Spec PyProof.Rows
section
variable {X:Cx} {pins:List (Addr×Obj)} {σ:St} {H:Hp} {s:Shared}
end
section
variable {X:Cx}
end
end L2
namespace L2
open PySem PySem.Spec PyProof.Rows
section
variable {X:Cx}
end
end L2
namespace L2
open PySem PySem.Spec PyProof.Rows
end L2
namespace L2
open PySem PySem.Spec PyProof.Rows
section
variable {X:Cx} {x:Addr} {oe:Obj}
end
end L2
namespace L2
open PySem PySem.Spec PyProof.Rows
section
variable {prog:Program} {w:World} {A:Around} {E:Value->Shared->Prop} {s:Shared} {dd:Option Addr}
end
section
variable {X:Cx} {x:Addr} {oe:Obj}
end
end L2
namespace L2
open PySem PySem.Spec PyProof.Rows
section
variable {X:Cx}
end
end L2
namespace L2
open PySem PySem.Spec PyProof.Rows
section
variable {prog:Program} {w:World} {A:Around} {E:Value->Shared->Prop} {K:Du} {x D:Addr} {ox:Obj} {h:Heap} {g:Array GenState} {dr:Drawn} {t:Nat} {os:OsState}
variable {nm q:Str} {N:Addr} {bs bm bmB:List Value} {sn:List Str} {sub:List Value} {ab:Bool} {col:Option Bool} {dd:Option Addr} {k0 k1 k2 k3 k5:Option Value} {newId:String} {name:Str} {v:Value}
end
section
variable {prog:Program} {w:World} {A:Around} {E:Value->Shared->Prop} {h:Heap} {g:Array GenState} {d:Drawn} {t:Nat} {os:OsState}
variable {nm q:Str} {C N:Addr} {bs bm bmB:List Value} {hdct:Bool} {sn:List Str} {sub:List Value} {ab:Bool} {col:Option Bool} {dd:Option Addr} {k0 k1 k2 k3 k5:Option Value} {B newId initId:String} {K:Du}
end
section
variable {P:Program} {w:World} {A:Around} {E:Value->Shared->Prop} {K:Du} {s:Shared} {e C:Addr} {oe:Obj} {v:Value}
end
section
variable {M:Model} {A:Around} {E:Value->Shared->Prop} {env:Env} {nm q:Str} {C N:Addr} {bs bm bmB:List Value} {hdct:Bool} {sn:List Str} {sub:List Value} {ab:Bool} {col:Option Bool} {dd:Option Addr} {k0 k1 k2 k3 k5:Option Value} {newId:String}
end
section
variable {prog:Program} {w:World} {A:Around} {E:Value->Shared->Prop} {s:Shared} {env:Env} {K:Du} {nm q:Str} {C N:Addr} {bs bm bmB:List Value} {hdct:Bool} {sn:List Str} {sub:List Value} {ab:Bool} {col:Option Bool} {dd:Option Addr} {k0 k1 k2 k3 k5:Option Value} {B newId initId:String}
end
section
variable {P:Program} {w:World} {K:Du} {mg:Str->Option Value} {base:Heap} {N:List Str} {qual:Str} {scope:Scope} {f:Addr} {cd:Value} {A:Around} {outer:List Env} {s₀:Shared} {H₀:Hp} {E:XK}
end
end L2
namespace L2
open PySem PySem.Spec PyProof.Rows
section
variable {P:Program} {w:World} {K:Du} {mg:Str->Option Value} {base:Heap}
end
section
variable {Y:Cx} {x:Addr} {oe:Obj}
end
end L2
namespace L2
open PySem PySem.Spec PyProof.Rows
section
variable {prog:Program} {w:World} {A:Around} {E:Value->Shared->Prop} {K:Du} {x D:Addr} {ox:Obj} {od:Option Obj} {name:Str} {v:Value}
end
section
variable {X:Cx} {x D:Addr} {oe:Obj} {da:Option Addr}
end
end L2
namespace L2
open PySem PySem.Spec PyProof.Rows
section
variable {P:Program} {w:World} {A:Around} {E:Value->Shared->Prop} {s:Shared}
theorem uh(k:Int)(tk:Tok):(PySem.intKind P w).is k (.int k tk)=true:=by
 show Value.isInt k (.int k tk)=true
 simp[Value.isInt]
end
theorem uA:∀{vs:List Value} {zs:List Int},IntsAre vs zs->∀(i:Nat) (v:Value),vs[i]?=some v->∃z t,v=.int z t/\zs[i]?=some z
 | _,_,.nil,i,v,h=>by simp at h
 | _,_,.cons z t _,0,v,h=>by cases h;exact⟨z,t,rfl,rfl⟩
 | _,_,.cons z t r,i+1,v,h=>uA r i v h
theorem zA{D ds:List Int}(hd:D.Nodup)(hs:∀k∈D,k∈ds)(hl:ds.length=D.length):ds.Perm D:=by
 induction D generalizing ds with
 | nil=>
  rw[List.length_nil,List.length_eq_zero_iff]at hl
  subst hl
  exact .refl _
 | cons d D ih=>
  have hm:=hs d DE
  have p1:=List.perm_cons_erase hm
  have hd':=List.nodup_cons.mp hd
  refine p1.trans ((ih hd'.2 (fun k hk=>?_) ?_).cons d)
  ·refine(List.mem_erase_of_ne ?_).mpr (hs k (DB _ hk))
   rintro rfl
   exact hd'.1 hk
  ·rw[List.length_erase_of_mem hm,hl]
   rfl
section
variable {P:Program} {w:World} {A:Around} {E:Value->Shared->Prop} {s:Shared}
theorem wg:∀{l:List (Int×Value)},ElemsOf (PySem.intKind P w) l->∃ds,IntsAre (l.map (·.2)) ds/\∀e∈l,∀k,(PySem.intKind P w).is k e.2=true->k∈ds
 | [],_=>⟨[],.nil,fun e he=>by cases he⟩
 | e::l,h=>by
  obtain⟨ds,h1,h2⟩:=wg (l:=l) fun x hx=>h x (DB _ hx)
  obtain⟨⟨k,hk,_⟩,_⟩:=h e DE
  obtain⟨t,ht⟩:=Value.isInt_shape (k:=k) hk
  refine⟨k::ds,?_,fun x hx k' hk'=>?_⟩
  ·rw[List.map_cons,ht]
   exact .cons k t h1
  ·rcases DM.mp hx with rfl | hx
   ·rw[ht]at hk'
    obtain⟨u,hu⟩:=Value.isInt_shape (k:=k') (v:=.int k t) hk'
    cases hu
    exact DE
   ·exact DB _ (h2 x hx k' hk')
end
end L2
namespace L2
open PySem PySem.Spec PyProof.Rows
section
variable {P:Program} {w:World} {A:Around} {E:Value->Shared->Prop} {s:Shared}
end
theorem uR:∀{us:List Value} {zs:List Int},IntsAre us zs->Vals (zs.map V.int) us
 | _,_,.nil=>.nil
 | _,_,.cons z t r=>.cons ⟨t,rfl⟩ (uR r)
section
variable {X:Cx}
end
end L2
namespace L2
open PySem PySem.Spec PyProof.Rows
section
variable {prog:Program} {w:World} {A:Around} {E:Value->Shared->Prop} {s:Shared}
end
section
variable {prog:Program} {w:World} {A:Around} {E:Value->Shared->Prop} {s:Shared}
end
section
variable {X:Cx}
end
end L2
namespace L2
open PySem PySem.Spec PyProof.Rows
theorem fM{x:Str}{c:Addr}:∀(names:List (Str×NameKind)) (n:Nat) (acc:List (Str×Addr)),(cellsFrom n names acc).lookup x=some c->acc.lookup x=some c\/(n<=c/\(x,NameKind.cell)∈names)
 | [],_,_,h=>.inl h
 | (y,k)::r,n,acc,h=>by
  unfold cellsFrom at h
  by_cases hk:(k == NameKind.cell)=true
  ·rw[if_pos hk]at h
   have hk':k=.cell:=by simpa using hk
   subst hk'
   rcases fM r (n+1) ((y,n)::acc) h with h | ⟨h1,h2⟩
   ·rw[List.lookup_cons]at h
    cases hb:x == y with
    | true=>
     rw[hb]at h
     cases h
     rw[beq_iff_eq.mp hb]
     exact .inr ⟨DR _,DE⟩
    | false=>rw[hb]at h;exact .inl h
   ·exact .inr ⟨Nat.le_of_succ_le h1,DB _ h2⟩
  ·rw[if_neg hk]at h
   rcases fM r n acc h with h | ⟨h1,h2⟩
   ·exact .inl h
   ·exact .inr ⟨h1,DB _ h2⟩
theorem j1{x y:Str}{c:Addr}:∀(names:List (Str×NameKind)) (n:Nat) (acc:List (Str×Addr)),(∀x c,acc.lookup x=some c->@LT.lt Nat _ c n)->(∀x y c,acc.lookup x=some c->acc.lookup y=some c->x=y)->(cellsFrom n names acc).lookup x=some c->(cellsFrom n names acc).lookup y=some c->x=y
 | [],_,_,_,hi,h1,h2=>hi _ _ _ h1 h2
 | (z,k)::r,n,acc,hb,hi,h1,h2=>by
  unfold cellsFrom at h1 h2
  by_cases hk:(k == NameKind.cell)=true
  ·rw[if_pos hk]at h1 h2
   refine j1 r (n+1) ((z,n)::acc) (fun x c h=>?_) (fun x y c h1 h2=>?_) h1 h2
   ·rw[List.lookup_cons]at h
    cases e:x == z with
    | true=>rw[e]at h;cases h;exact Nat.lt_succ_self _
    | false=>rw[e]at h;exact Nat.lt_succ_of_lt (hb x c h)
   ·rw[List.lookup_cons]at h1 h2
    cases e1:x == z with
    | true=>
     rw[e1]at h1
     cases h1
     cases e2:y == z with
     | true=>rw[beq_iff_eq.mp e1,beq_iff_eq.mp e2]
     | false=>rw[e2]at h2;exact absurd (hb _ _ h2) (Nat.lt_irrefl _)
    | false=>
     rw[e1]at h1
     cases e2:y == z with
     | true=>rw[e2]at h2;cases h2;exact absurd (hb _ _ h1) (Nat.lt_irrefl _)
     | false=>rw[e2]at h2;exact hi _ _ _ h1 h2
  ·rw[if_neg hk]at h1 h2
   exact j1 r n acc hb hi h1 h2
theorem oF{x:Str}{c:Addr}:∀(names:List (Str×NameKind)) (h:Heap) (acc:List (Str×Addr)),(cellsFrom h.objs.size names acc).lookup x=some c->acc.lookup x=some c\/(pushCells h names).IsCell c none
 | [],_,_,e=>.inl e
 | (y,k)::r,h,acc,e=>by
  unfold cellsFrom at e
  unfold pushCells
  by_cases hk:(k == NameKind.cell)=true
  ·rw[if_pos hk]at e ⊢
   rw[←Heap.size_push h { cls:=.type "cell",data:=.cell none }]at e
   rcases oF r (h.push { cls:=.type "cell",data:=.cell none }) ((y,h.objs.size)::acc) e with e | e
   ·rw[List.lookup_cons]at e
    cases hb:x == y with
    | true=>
     rw[hb]at e
     cases e
     exact .inr ⟨_,pushCells_keeps _ _ _ _ (Dw _ rfl),rfl⟩
    | false=>rw[hb]at e;exact .inl e
   ·exact .inr e
  ·rw[if_neg hk]at e ⊢
   exact oF r h acc e
section
variable {M:Model} {A:Around} {E:Value->Shared->Prop} {s:Shared}
theorem Ai{scope:Scope}{globals:Addr}{closure:List (Str×Addr)}{qual:Str}{func:Option Addr}{code:Value}{outer:Env}{builtins:Addr}{Q:Env->Shared->Prop}
  (hQ:Q (newEnv scope s.heap.objs.size globals (cellsFrom (s.heap.objs.size+1) scope.names closure) qual func code (some outer) builtins) { s with heap:=pushCells (s.heap.push { cls:=.type "dict",data:=.dict #[] }) scope.names }) :
  wpAny M A (newFunctionEnv scope globals closure [] qual func code (some outer) builtins) Q E s:=by
 simp only[newFunctionEnv,Option.isSome_some,if_true]
 refine Dr (wpAny_alloc ?_)
 refine Dr (wpAny_layCells _ (fun name kind cells=>by cases hkc:kind == NameKind.cell<;>simp[hkc]) _ _ _ _ ?_)
 rw[show ({ s with heap:=s.heap.push { cls:=.type "dict",data:=.dict #[] } }:Shared).heap.objs.size=s.heap.objs.size+1 from Heap.size_push ..]
 refine Dr ?_
 rw[List.forIn_nil]
 exact Dt (Dt hQ)
end
def fY(X:Cx)(sc:Scope)(C:Addr):List (Str×Addr):=cellsFrom (Nat.succ C) sc.names (cP sc.names X.env.cells)
def cn(X:Cx)(sc:Scope)(own:List Str)(js:List Nat)(z:Blk):Cx where
 prog:=X.prog
 w:=X.w
 K:=X.K
 mg:=X.mg
 base:=X.base
 A:=X.A
 N:=own++js.map fun j=>X.N.getD j ""
 s₀:=z.s
 H₀:=z.H
 env:=compEnvC sc (fY X sc z.C) z.C X.env
 outer:=X.stack
 stack:=X.stack
 ex:=z.fp
 fn:=fun x=>sc.names.lookup x == some .cell
 calm:=X.calm
 pn:=[]
 xe:=fun _ _=>False
def dw(sc out:Scope):Bool:=sc.names.all fun p=>(p.2 != .cell || sc.names.lookup p.1 == some .cell) && (p.2 != .local || sc.names.lookup p.1 == some .local) && (p.2 != .free || out.names.lookup p.1 == some .cell || out.names.lookup p.1 == some .free) && (p.2 != .free || sc.names.lookup p.1 == some .free)
theorem j2{sc out:Scope}(h:dw sc out=true){p:Str×NameKind}(hp:p∈sc.names)(hf:p.2=.free):out.names.lookup p.1=some .cell\/out.names.lookup p.1=some .free:=by
 have:=Ed.mp h p hp
 simp[hf]at this
 exact this.1
theorem xN{sc out:Scope}(h:dw sc out=true){x:Str}(hp:(x,NameKind.free)∈sc.names)(h2:sc.names.lookup x=some .cell):False:=by
 have:=Ed.mp h _ hp
 simp[h2]at this
theorem CH{sc out:Scope}(h:dw sc out=true){p:Str×NameKind}(hp:p∈sc.names)(hf:p.2=.cell):sc.names.lookup p.1=some .cell:=by
 have:=Ed.mp h p hp
 simp[hf]at this
 exact this
theorem uJ{sc out:Scope}(h:dw sc out=true){p:Str×NameKind}(hp:p∈sc.names)(hf:p.2=.local):sc.names.lookup p.1=some .local:=by
 have:=Ed.mp h p hp
 simp[hf]at this
 exact this
section
variable {X:Cx} {pins:List (Addr×Obj)} {σ:St} {H:Hp} {s:Shared}
theorem iZ(ok:X.Ok){sc:Scope}(hb:dw sc X.env.scope=true){x:Str}{c:Addr}(h:(cP sc.names X.env.cells).lookup x=some c):X.env.cells.lookup x=some c:=by
 rcases jH X.env.cells sc.names [] x c h with⟨h1,h2⟩ | h1
 ·obtain⟨d,hd⟩:=ok.has x (j2 hb h1 rfl)
  rw[hd]at h2 ⊢
  rw[h2]
  rfl
 ·simp at h1
theorem ib(ok:X.Ok){sc:Scope}(hb:dw sc X.env.scope=true){C:Addr}{x:Str}{c:Addr}(h:(fY X sc C).lookup x=some c):X.env.cells.lookup x=some c\/(@LT.lt Nat _ C c/\sc.names.lookup x=some .cell):=by
 rcases fM _ _ _ h with h | ⟨h1,h2⟩
 ·exact .inl (iZ ok hb h)
 ·exact .inr ⟨h1,CH hb h2 rfl⟩
theorem kN{sc:Scope}{x:Str}{C:Addr}(h:(x,NameKind.free)∈sc.names):∃c,(fY X sc C).lookup x=some c:=by
 obtain⟨c,hc⟩:=uC (cells:=X.env.cells) h
 exact Option.isSome_iff_exists.mp (PySem.W.cellsFrom_some sc.names _ _ (.inr (by rw[hc];rfl)))
theorem AJ(I:Inv X pins σ H s){sc:Scope}(hb:dw sc X.env.scope=true){x:Str}{c:Addr}(h:(cP sc.names X.env.cells).lookup x=some c):@LT.lt Nat _ c s.heap.objs.size:=I.cell_lt (iZ I.ok hb h)
theorem yS(I:Inv X pins σ H s){sc:Scope}{own:List Str}{js:List Nat}{fp:List Addr}{C:Nat}(hk:sc.kind=.function)(hb:dw sc X.env.scope=true)
  (hfp:∀b∈fp,bT X pins H b) (hC:s.heap.objs.size<=C) (hlt:∀b∈fp,b<s.heap.objs.size):(cn X sc own js ⟨s,H,fp,C⟩).Ok where
 mod:=I.ok.mod
 kind:=hk
 glob:=I.ok.glob
 blt:=I.ok.blt
 above:=hC
 inj:=fun x y c h1 h2=>j1 sc.names _ _ (fun x c e=>Nat.lt_succ_of_le (Eb (Nat.le_of_lt (AJ I hb e)) hC)) (fun x y c e1 e2=>I.ok.inj x y c (iZ I.ok hb e1) (iZ I.ok hb e2)) h1 h2
 has:=fun x hx=>by
  have hx':(relabel sc X.env).names.lookup x=some .cell\/(relabel sc X.env).names.lookup x=some .free:=hx
  have go:∀k,(relabel sc X.env).names.lookup x=some k->(k=.cell\/k=.free)->∃c,(fY X sc C).lookup x=some c:=fun k h hkk=>by
   obtain⟨k',h1,h2⟩:=ju (sc:=sc) (env:=X.env) h
   have m:=gE h1
   rcases h2 with h2 | ⟨h2,_⟩
   ·subst h2
    rcases hkk with e | e
    ·rw[e]at h1;exact Option.isSome_iff_exists.mp (PySem.W.cellsFrom_some sc.names _ _ (.inl h1))
    ·rw[e]at m;exact kN m
   ·rw[h2]at m;exact kN m
  rcases hx' with h | h
  ·exact go _ h (.inl rfl)
  ·exact go _ h (.inr rfl)
 cab:=fun x c h e=>by
  have hx:sc.names.lookup x=some .cell:=by simpa[cn]using h
  have e':(fY X sc C).lookup x=some c:=e
  rcases fM _ _ _ e' with e1 | ⟨e1,_⟩
  ·rcases jH X.env.cells sc.names [] x c e1 with⟨h1,_⟩ | h1
   ·exact(xN hb h1 hx).elim
   ·simp at h1
  ·exact Eb hC (Nat.le_of_succ_le e1)
 hd:=I.ok.hd
 frames:=I.ok.frames
 stk:=.inl rfl
 exf:=fun b hb'=>⟨DQ (Ea (hlt b hb') hC),fun x c e=>by
  rcases ib I.ok hb (C:=C) e with e | ⟨e,_⟩
  ·exact(hfp b hb').2.2.2.2.1 x c e
  ·exact Nat.ne_of_gt (Nat.lt_trans (Ea (hlt b hb') hC) e)⟩
 bs:=I.bs
 bsz:=Eb I.ok.bsz I.sz
 noex:=fun b o e hb'=>by
  rcases(hfp b hb').2.2.2.1 with z | z
  ·exact I.ok.noex b o e z
  ·exact absurd (Ea (Dx e) (Eb I.ok.bsz z)) (Nat.lt_irrefl _)
 exfs:=fun b hb' hm=>by
  rcases DM.mp (I.stkSub b hm)with e | h
  ·exact(hfp b hb').2.1 e
  ·exact(hfp b hb').2.2.1 h
 funs:=I.stack
 frf:=I.stkFree
theorem yQ(I:Inv X pins σ H s){sc:Scope}{own:List Str}{js:List Nat}{fp:List Addr}{C D:Nat}{h1:Heap}{tk:Nat}{o:Obj}{m:Str->Option Value}(hk:sc.kind=.function)(hb:dw sc X.env.scope=true)(hj:jy sc X.N js=true)
  (hfp:∀b∈fp,bT X pins H b) (hlt:∀b∈fp,b<s.heap.objs.size) (hD:D=s.heap.objs.size) (hC:C=s.heap.objs.size+1) (old:∀b o,s.heap.get? b=some o->h1.get? b=some o)
  (hDo:h1.get? D=some o) (hod:∀v,o.data≠.cell v) (hm:h1.Ns C m) (hcl:∀x c,(fY X sc C).lookup x=some c->(cP sc.names X.env.cells).lookup x=some c\/h1.IsCell c none) :
  Inv (cn X sc own js ⟨s,H,fp,C⟩) [(D,o)] (cW own.length js σ) H { s with heap:=h1,toks:=tk } where
 ok:=yS I hk hb hfp (show @LE.le Nat _ s.heap.objs.size C by omega) hlt
 os:=rfl
 bare:=I.bare
 base:=Un.kept old
 loc:=by
  refine⟨m,hm,fun i x v e1 e2 e3=>?_⟩
  obtain⟨k,j,rfl,ej,es⟩:=vz e2
  have e1':(own++js.map fun j=>X.N.getD j "")[own.length+k]?=some x:=e1
  rw[DV (by omega),Nat.add_sub_cancel_left,DA,ej]at e1'
  have ex:X.N.getD j "" = x:=by simpa using e1'
  have hjj:=Ed.mp hj j (DH ej)
  simp only[Eg,decide_eq_true_eq,beq_iff_eq]at hjj
  have exN:X.N[j]?=some x:=by
   rw[←ex,List.getD_eq_getElem?_getD,Dz hjj.1]
   rfl
  have hfree:sc.names.lookup x=some .free:=by rw[←ex];exact hjj.2
  have hmem:=gE hfree
  have hout:=j2 hb hmem rfl
  obtain⟨m0,hn0,hl0⟩:=I.loc
  obtain⟨u,r,l⟩:=hl0 j x v exN es (by rcases hout with z | z;exact .inr (.inl z);exact .inr (.inr z))
  refine⟨u,r,?_⟩
  obtain⟨c,hc⟩:=kN (X:=X) (C:=C) hmem
  have hc':X.env.cells.lookup x=some c:=by
   rcases ib I.ok hb hc with e | ⟨_,e⟩
   ·exact e
   ·rw[hfree]at e;cases e
  have hcell:s.heap.IsCell c (some u):=by
   rcases l with⟨z,_⟩ | ⟨_,c',e',q⟩
   ·have z':X.env.scope.names.lookup x=some .local:=z
    rcases hout with w | w<;>(rw[z']at w;cases w)
   ·rw[hc']at e';cases e';exact q
  have hcell1:h1.IsCell c (some u):=by
   obtain⟨oc,ho,hd⟩:=hcell
   exact⟨oc,old c oc ho,hd⟩
  right
  refine⟨?_,c,hc,hcell1⟩
  have e3':(relabel sc X.env).names.lookup x=some .local\/(relabel sc X.env).names.lookup x=some .cell\/(relabel sc X.env).names.lookup x=some .free:=e3
  rcases e3' with z | z
  ·obtain⟨k',z1,z2⟩:=ju (sc:=sc) (env:=X.env) z
   rw[hfree]at z1
   rcases z2 with z2 | ⟨_,z2⟩
   ·rw[z2]at z1;cases z1
   ·cases z2
  ·exact z
 cell:=fun x c e=>by
  rcases hcl x c e with e | e
  ·obtain⟨v,oc,ho,hd⟩:=I.cell x c (iZ I.ok hb e)
   exact⟨v,oc,old c oc ho,hd⟩
  ·exact⟨none,e⟩
 free:=I.hok.fresh (show @LE.le Nat _ s.heap.objs.size C by omega)
 freeC:=fun x c e=>by
  rcases ib I.ok hb (C:=C) e with e | ⟨e,_⟩
  ·exact I.freeC x c e
  ·exact I.hok.fresh (show @LE.le Nat _ s.heap.objs.size c by omega)
 pin:=fun p hp=>by
  have e:p=(D,o):=by simpa[cn]using hp
  subst e
  refine⟨hDo,I.hok.fresh (show @LE.le Nat _ s.heap.objs.size D by omega),?_,fun z=>?_,hod⟩
  ·exact DQ (show @LT.lt Nat _ D C by omega)
  ·have h9:@LT.lt Nat _ D s.heap.objs.size:=I.stk_lt (b:=D) z
   omega
 hok:=I.hok.kept old
 len:=by
  show(cW own.length js σ).length=(own++js.map fun j=>X.N.getD j "").length
  simp[cW]
theorem sf{elt tg iter:Expr}{ifs:List Expr}{sc:Scope}{pos:Pos}{own:List Str}{js:List Nat}{g:TG}{tc:TT}{te:TE}{J:It}{it:Addr}{fp:List Addr}{tn:Nat->Heap->Prop}{RR:Value->Addr->Result->Shared->Prop}{E:Value->Shared->Prop}
  {Q:VK} {W:Nat->Nat->List V->Hp->Prop} (hk:sc.kind=.function) (hb:dw sc X.env.scope=true) (hj:jy sc X.N js=true)
  (hg:∀C,PG (cn X sc own js ⟨s,H,fp,C⟩) tg g) (ht:∀C,iO (cn X sc own js ⟨s,H,fp,C⟩) ifs tc) (he:∀C,PE (cn X sc own js ⟨s,H,fp,C⟩) elt te)
  (I:Inv X pins σ H s) (T:∀C,TurnAt (cn X sc own js ⟨s,H,fp,C⟩) tg J fp it tn) (st:tn 0 s.heap) (hfp:∀b∈fp,bT X pins H b) (w0:∃m,W 0 m [] H)
  (turn:∀i m ys H',W i m ys H'->(J.stop i H'/\∀p,H' p=none->Q (.ref p) (upd H' p (.lst ys))) ∨
   (J.go i H'/\ys.length<sizeLine/\∃N:List V->Hp->Prop,(∀ys' H2,N ys' H2->∃m',m'<m/\W (i+1) m' ys' H2)/\∀x H2,J.yld i H' x H2->g x (cW own.length js σ) H2 fun σ2 H3=>tc σ2 H3 fun b H4=>
    if b=true then te σ2 H4 fun v H5=>N (ys++[v]) H5 else N ys H4))
  (fin:∀D C s' ys H',H' D=none->Inv X pins σ (upd H' D (.lst ys)) s'->bT X pins (upd H' D (.lst ys)) C->(∃m,s'.heap.Ns C m)->s.heap.objs.size<=C->Q (.ref D) (upd H' D (.lst ys))->RR (.ref D) C (.ok .next) s') :
  wpAny (model X.prog X.w) X.A (newList []) (fun acc s₃=>wpAny (model X.prog X.w) X.A (newFunctionEnv sc X.env.globals (cP sc.names X.env.cells) [] X.env.qual none .none (some X.env)) (fun cenv s₄=>
   codeAny (model X.prog X.w) X.A (.compStart (.ListComp elt [⟨tg,iter,ifs,0⟩] sc pos) 0 (.ref it) acc { cenv with scope:=relabel sc X.env }) (RR acc cenv.locals) s₄) E s₃) E s:=by
 have hlt:∀b∈fp,b<s.heap.objs.size:=fun b hb'=>by
  obtain⟨o,e,_⟩:=(T 0).obj 0 s.heap st b hb'
  exact Dx e
 refine wpAny_newObj_type (Ai ?_)
 dsimp only
 generalize hH2:s.heap.push { cls:=.type "list",dict:=none,data:=.seq ([]:List Value).toArray }=H2 at *
 have hCs:H2.objs.size=s.heap.objs.size+1:=by rw[←hH2,Heap.size_push]
 have hns₁:(pushCells (H2.push { cls:=.type "dict",data:=.dict #[] }) sc.names).Ns H2.objs.size (fun _=>none):=(Heap.Ns.new H2 (.type "dict")).keeps (pushCells_keeps _ _)
 have hcl₁:∀x c,(fY X sc H2.objs.size).lookup x=some c->(cP sc.names X.env.cells).lookup x=some c\/(pushCells (H2.push { cls:=.type "dict",data:=.dict #[] }) sc.names).IsCell c none:=fun x c e=>by
  have e':(cellsFrom (H2.objs.size+1) sc.names (cP sc.names X.env.cells)).lookup x=some c:=e
  rw[←Heap.size_push H2 { cls:=.type "dict",data:=.dict #[] }]at e'
  exact oF _ _ _ e'
 have old:∀b o,s.heap.get? b=some o->(pushCells (H2.push { cls:=.type "dict",data:=.dict #[] }) sc.names).get? b=some o:=fun b o e=>pushCells_keeps _ _ b o (Dv _ (hH2 ▸ Dv _ e))
 have hDo:(pushCells (H2.push { cls:=.type "dict",data:=.dict #[] }) sc.names).get? s.heap.objs.size=some (dN [] 0):=pushCells_keeps _ _ _ _ (Dv _ (hH2 ▸ Dw _ rfl))
 generalize pushCells (H2.push { cls:=.type "dict",data:=.dict #[] }) sc.names=h₁ at *
 generalize hCe:H2.objs.size=C at *
 have below:∀b:Nat,b<s.heap.objs.size->b≠C:=fun b hb'=>by omega
 generalize hDe:s.heap.objs.size=D at *
 -- the loop's word
 let Y:Cx:=cn X sc own js ⟨s,H,fp,C⟩
 have J0:Inv Y [(D,dN [] 0)] (cW own.length js σ) H { s with heap:=h₁ }:=
  yQ I hk hb hj hfp (by rw[hDe];exact hlt) hDe.symm (by rw[hDe];exact hCs) old hDo (fun v z=>by cases z) hns₁ hcl₁
 have ndC:@Ne Nat D C:=by omega
 have statF:∀{P':List (Addr×Obj)} {H':Hp},(∀b∈fp,H' b=none)->(∀p∈P',p.1∉fp)->∀b∈fp,bT Y P' H' b:=fun{P' H'} hn hp b hb'=>by
  obtain⟨f0,f1,f2,f3,f4,f5⟩:=hfp b hb'
  refine⟨hn b hb',fun z=>below b (hlt b hb') z,fun z=>?_,.inl hb',fun x c e=>?_,fun p hp' z=>?_⟩
  ·rcases DM.mp (I.stkSub b z)with e | h
   ·exact f1 e
   ·exact f2 h
  ·rcases ib I.ok hb (C:=C) e with e | ⟨e,_⟩
   ·exact f4 x c e
   ·have h9:@LT.lt Nat _ b s.heap.objs.size:=by rw[hDe];exact hlt b hb'
    exact Nat.ne_of_gt (show @LT.lt Nat _ b c by omega)
  ·have:p∈P':=by simpa[Y,cn]using hp'
   exact hp p this (by rw[z];exact hb')
 have Dfp:D∉fp:=fun z=>by have h9:@LT.lt Nat _ D D:=hlt D z;omega
 have st1:tn 0 h₁:=(T 0).keep 0 s.heap h₁ st fun b _ o e=>old b o e
 have loop:∀s₃:Shared,s₃={ s with heap:=h₁ } →
   codeAny (model X.prog X.w) X.A (.compLoop (.ListComp elt [⟨tg,iter,ifs,0⟩] sc pos) 0 (.ref it) (.ref D) Y.env) (RR (.ref D) C) s₃:=by
  rintro s₃ rfl
  obtain⟨m0,w0⟩:=w0
  refine zl (fun n s'=>∃i ys its q H',Inv Y [(D,dN its q)] (cW own.length js σ) H' s'/\Vals ys its/\ys.length<=sizeLine/\tn i s'.heap/\(∀b∈fp,H' b=none)/\W i n ys H') ?_ m0
   ⟨0,[],[],0,H,J0,.nil,Nat.zero_le _,st1,fun b hb'=>(hfp b hb').1,w0⟩
  rintro n s3 ⟨i,ys,its,q,H3,I3,rv,hz,st3,fr3,w3⟩
  have pD:∀p∈[(D,dN its q)],p.1∉fp:=fun p hp=>by
   have e:p=(D,dN its q):=by simpa using hp
   rw[e];exact Dfp
  rcases turn i n ys H3 w3 with⟨stop,qn⟩ | ⟨go,hlen,N,hN,step⟩
  ·-- the end
   refine av ((T C).done i _ s3 _ H3 _ I3 (statF fr3 pD) st3 stop) fun r s4 ⟨hr,I4⟩=>?_
   subst hr
   show RR (.ref D) C (.ok .next) s4
   have hDp:=I4.pin (D,dN its q) (List.mem_append_right _ (DI.mpr rfl))
   have hD4:s4.heap.get? D=some (dN its q):=hDp.1
   have nD:H3 D=none:=hDp.2.1
   have U:Un (cK X.stack) fp H H3 s.heap s4.heap:=I4.base
   have neD:∀b o,s.heap.get? b=some o->b≠D:=fun b o e=>DQ (by have h9:@LT.lt Nat _ b s.heap.objs.size:=Dx e;omega)
   have neDH:∀b o,H b=some o->b≠D:=fun b o e=>DQ (by have h9:@LT.lt Nat _ b s.heap.objs.size:=I.hok.lt e;omega)
   have U2:Un (cK X.stack) fp H (upd H3 D (.lst ys)) s.heap s4.heap:=
    ⟨U.keep,U.slot,fun b o e n hx=>by rw[aB (neD b o e)];exact U.free b o e n hx,U.there,fun b xs e=>by rw[aB (neDH b _ e)];exact U.tups b xs e,
     fun b o u e=>by rw[aB (neDH b _ e)];exact U.frzs b o u e,fun b ps e=>by rw[aB (neDH b _ e)];exact U.tbls b ps e⟩
   have hok2:bh X.prog X.w (upd H3 D (.lst ys)) s4.heap:=fun b o e=>by
    by_cases hb':b=D
    ·subst hb'
     rw[aH]at e
     cases e
     exact⟨hz,its,q,rv,hD4⟩
    ·rw[aB hb']at e
     exact(I4.hok b o e).stay (fun c u _ z=>z) (fun c z=>by rw[aB (cw z nD)];exact z) fun c xs z=>by rw[aB (cw z nD)];exact z
   have IX:Inv X pins σ (upd H3 D (.lst ys)) s4:=I.call' (ch:=fp) I4.os U2 hok2 I4.bare fun b hb'=>by
    obtain⟨f0,f1,f2,f3,f4,f5⟩:=hfp b hb'
    exact⟨f3,f1,f4,f5⟩
   obtain⟨m4,hn4,_⟩:=I4.loc
   have nC:H3 C=none:=I4.free
   refine fin D C s4 ys H3 nD IX ?_ ⟨m4,hn4⟩ (show @LE.le Nat _ D C by omega) (qn D nD)
   refine⟨by rw[aB (Ne.symm ndC)];exact nC,?_,?_,?_,?_,?_⟩
   ·have h9:@LT.lt Nat _ X.env.locals s.heap.objs.size:=I.lt
    exact Nat.ne_of_gt (show @LT.lt Nat _ X.env.locals C by omega)
   ·exact I.nofs (show @LE.le Nat _ s.heap.objs.size C by omega)
   ·right
    have h9:@LE.le Nat _ X.s₀.heap.objs.size s.heap.objs.size:=I.sz
    exact(show @LE.le Nat _ X.s₀.heap.objs.size C by omega)
   ·intro x c e
    have h9:@LT.lt Nat _ c s.heap.objs.size:=I.cell_lt e
    exact DQ (show @LT.lt Nat _ c C by omega)
   ·intro p hp
    have h9:@LT.lt Nat _ p.1 s.heap.objs.size:=I.pin_lt hp
    exact DQ (show @LT.lt Nat _ p.1 C by omega)
  ·-- a turn
   refine av ((T C).item i _ s3 _ H3 _ I3 (statF fr3 pD) st3 go) fun r s4 ⟨u,hr,h4⟩=>?_
   subst hr
   refine av h4 fun _ s5 ⟨x,H5,I5,r5,y5,st5,fr5⟩=>?_
   have I5':=I5.pinned (statF fr5 pD) ((T 0).obj _ _ st5)
   refine av (hg _ _ s5 _ H5 x u _ I5' r5 (step x H5 y5)) fun _ s6 ⟨σ6,H6,I6,q6⟩=>?_
   refine av (ht _ _ s6 σ6 H6 _ I6 q6) fun ok s7 ⟨H7,I7,q7⟩=>?_
   have back:∀{s':Shared} {σ':St} {H':Hp} {ys':List V} {its':List Value} {q':Nat},Inv Y ([(D,dN its' q')]++fC fp s5.heap) σ' H' s'->Vals ys' its'->ys'.length<=sizeLine->N ys' H' →
     ∃m,m<n/\∃i ys its q H',Inv Y [(D,dN its q)] (cW own.length js σ) H' s'/\Vals ys its/\ys.length<=sizeLine/\tn i s'.heap/\(∀b∈fp,H' b=none)/\W i m ys H':=by
    intro s' σ' H' ys' its' q' I' rv' hz' nn
    obtain⟨m',hm,w'⟩:=hN ys' H' nn
    have hpin:∀b∈fp,∀o,s5.heap.get? b=some o->s'.heap.get? b=some o/\H' b=none:=fun b hb' o e=>by
     have:=I'.pin (b,o) (List.mem_append_right _ (List.mem_append_right _ (kR hb' e)))
     exact⟨this.1,this.2.1⟩
    refine⟨m',hm,i+1,ys',its',q',H',?_,rv',hz',(T 0).keep _ _ _ st5 fun b hb' o e=>(hpin b hb' o e).1,fun b hb'=>?_,w'⟩
    ·have I'':=I'.unpinned
     obtain⟨mm,hmm,_⟩:=id I''.loc
     refine⟨I''.ok,I''.os,I''.bare,I''.base,⟨mm,hmm,fun k x v e1 e2 e3=>?_⟩,I''.cell,I''.free,I''.freeC,I''.pin,I''.hok,?_⟩
     ·-- the captured names: their cells are as they were at the block's beginning
      obtain⟨m1,hn1,hl1⟩:=J0.loc
      obtain⟨u1,r1,l1⟩:=hl1 k x v e1 e2 e3
      refine⟨u1,r1,?_⟩
      obtain⟨k',j,rfl,ej,es⟩:=vz e2
      have e1':(own++js.map fun j=>X.N.getD j "")[own.length+k']?=some x:=e1
      rw[DV (by omega),Nat.add_sub_cancel_left,DA,ej]at e1'
      have ex:X.N.getD j "" = x:=by simpa using e1'
      have hjj:=Ed.mp hj j (DH ej)
      simp only[Eg,decide_eq_true_eq,beq_iff_eq]at hjj
      have hfree:sc.names.lookup x=some .free:=by rw[←ex];exact hjj.2
      rcases l1 with⟨z,zz⟩ | ⟨z,c,e,zz⟩
      ·-- a captured name is no local one
       exfalso
       obtain⟨k2,z1,z2⟩:=ju (sc:=sc) (env:=X.env) (show(relabel sc X.env).names.lookup x=some .local from z)
       rw[hfree]at z1
       rcases z2 with z2 | ⟨_,z2⟩
       ·rw[z2]at z1;cases z1
       ·cases z2
      ·refine .inr ⟨z,c,e,?_⟩
       have hcs:X.env.cells.lookup x=some c:=by
        rcases ib I.ok hb (C:=C) e with e | ⟨_,e⟩
        ·exact e
        ·rw[hfree]at e;cases e
       obtain⟨ov,oc,hoc,hdc⟩:=I.cell x c hcs
       have hoc1:=old c oc hoc
       obtain⟨oz,hoz,hdz⟩:=zz
       have hoz':h₁.get? c=some oz:=hoz
       rw[hoc1]at hoz'
       cases hoz'
       have cnf:c∉fp:=fun z'=>(hfp c z').2.2.2.2.1 x c hcs rfl
       obtain⟨sl,hh⟩:=I''.base.any hoc (I.freeC x c hcs) cnf
       exact⟨_,hh,hdz⟩
     ·show(cW own.length js σ).length=_
      exact J0.len
    ·obtain⟨o,e,d⟩:=(T 0).obj _ _ st5 b hb'
     exact(hpin b hb' o e).2
   cases ok with
   | false=>
    rw[if_neg DN]at q7 ⊢
    exact back I7 rv hz q7
   | true=>
    rw[if_pos rfl]at q7 ⊢
    refine av (he _ _ s7 σ6 H7 _ I7 q7) fun xv s8 ⟨v,H8,I8,r8,q8⟩=>?_
    have hDp:=I8.pin (D,dN its q) (List.mem_append_right _ (List.mem_append_left _ (DI.mpr rfl)))
    have hD8:s8.heap.get? D=some { cls:=.type "list",data:=.seq its.toArray q }:=hDp.1
    have hl:=rv.length
    refine call_meets F.slot_list_append ⟨_,hD8,rfl⟩ F.entry_list_append (F.args_list_append_2 _ _) (PySem.list_append D its.toArray q xv (by rw[DD];omega)) ⟨hD8,?_⟩
    have qq:=PySem.IsL.update hD8 (fun a=>a.push xv)
    have eqs:its.toArray.push xv=(its++[xv]).toArray:=by simp
    rw[eqs]at qq
    obtain⟨q2,hq2⟩:∃q2,(s8.heap.update D (Obj.mapSeq fun a=>a.push xv)).get? D=some (dN (its++[xv]) q2):=⟨_,qq⟩
    -- without the pin of D,the record turns,then it is pinned again
    have I8a:Inv Y (fC fp s5.heap) σ6 H8 s8:=I8.pins_of fun p hp=>I8.pin p (List.mem_append_right _ (List.mem_append_right _ hp))
    have nD8:H8 D=none:=hDp.2.1
    have I9:Inv Y (fC fp s5.heap) σ6 H8 { s8 with heap:=s8.heap.update D (Obj.mapSeq fun a=>a.push xv),toks:=s8.toks }:=by
     refine I8a.turned (it:=D) (fun b o hb' e=>(Heap.get?_update_other s8.heap (Obj.mapSeq fun a=>a.push xv) (Ne.symm hb')).trans e) nD8 ndC (.inr (show @LE.le Nat _ s.heap.objs.size D by omega)) (fun x c e=>?_) fun p hp=>?_
     ·rcases ib I.ok hb (C:=C) e with e | ⟨e,_⟩
      ·have h9:@LT.lt Nat _ c s.heap.objs.size:=I.cell_lt e
       exact DQ (show @LT.lt Nat _ c D by omega)
      ·exact Nat.ne_of_gt (show @LT.lt Nat _ D c by omega)
     ·have hp':p∈fC fp s5.heap:=by simpa[Y,cn]using hp
      obtain⟨h1,_⟩:=uM hp'
      exact fun z=>Dfp (z ▸ h1)
    refine back (ys':=ys++[v]) (its':=its++[xv]) (q':=q2) (I9.pins_of fun p hp=>?_) (rv.append (.cons r8 .nil)) (by rw[DP,List.length_singleton];omega) q8
    rcases DU.mp hp with hp | hp
    ·have e:p=(D,dN (its++[xv]) q2):=by simpa using hp
     subst e
     refine⟨hq2,nD8,ndC,fun z=>?_,fun v z=>by cases z⟩
     have h9:@LT.lt Nat _ D s.heap.objs.size:=I.stk_lt (b:=D) z
     omega
    ·exact I9.pin p (List.mem_append_right _ hp)
 exact codeAny_compStart_list (loop _ rfl) ((T 0).self X.A 0 { s with heap:=h₁ } _ _ st1 (loop _ rfl))
theorem cE{elt tg iter:Expr}{ifs:List Expr}{sc:Scope}{pos:Pos}(own:List Str)(js:List Nat){wi:TI}{g:TG}{tc:TT}{te:TE}(hi:PI X tg iter wi)(hg:∀z,PG (cn X sc own js z) tg g)(ht:∀z,iO (cn X sc own js z) ifs tc)
  (he:∀z,PE (cn X sc own js z) elt te) (hc:X.calm=true:=by rfl) (hk:sc.kind=.function:=by rfl) (hb:dw sc X.env.scope=true:=by rfl) (hj:jy sc X.N js=true:=by rfl)
  (hs:∀x,foldedSetIterable iter X.env x=pure x:=by intro _;rfl):PE X (.ListComp elt [⟨tg,iter,ifs,0⟩] sc pos) (ou own.length js wi g tc te):=by
 intro pins s σ H Q I h
 rw[eval_ListComp]
 refine wpAny_comprehension_free (use:=none) rfl hs (kz fun p hp hf=>I.ok.has p.1 (j2 hb hp hf)) hk (fun p hp hl=>uJ hb hp hl) (av (hi pins s σ H _ I h) fun v s1 h1=>av h1 fun itv s2 h2=>?_)
 obtain⟨it,fp,tn,J,H2,e,I2,T,st2,f2,W,w0,turn⟩:=h2
 subst e
 refine sf (RR:=fun acc C=>compPost (model X.prog X.w) X.A X.xe none (EP X pins σ Q) acc C) hk hb hj (fun _=>hg _) (fun _=>ht _) (fun _=>he _) I2 (fun C=>Turn.at_ (Y:=cn X sc own js ⟨_,_,_,C⟩) T hc) st2 f2 w0 turn ?_
 intro D C s' ys H' nD I' hC ⟨m,hm⟩ _ q
 refine⟨m,hm,fun h' hs'=>?_⟩
 obtain⟨f0,f1,f2,f3,f4,f5⟩:=hC
 exact⟨.ref D,_,I'.turned (t':=s'.toks) (it:=C) (fun b o hb' e=>(hs'.2 b hb').trans e) f0 f1 f3 f4 f5,rfl,q⟩
end
end L2
namespace L2
open PySem PySem.Spec PyProof.Rows
def cL(c:Addr)(o:Obj):HO:=.ext fun h=>h.get? c=some o
theorem BS{P:Program}{w:World}{H:Hp}{h:Heap}{c:Addr}{o:Obj}(r:h.get? c=some o):bj P w H h c (cL c o):=⟨r,⟨o,r⟩,fun h1 h2 r1 k=>k o r1⟩
def bF(cs:List (Addr×Obj))(H:Hp):Hp:=fun b=>match cs.lookup b with | some o=>some (cL b o) | none=>H b
def aY(cs:List (Addr×Obj))(H:Hp):Hp:=fun b=>match cs.lookup b with | some _=>none | none=>H b
section
variable {cs:List (Addr×Obj)} {H H':Hp} {b:Addr} {o:Obj} {P:Program} {w:World} {h h':Heap} {fs ex:List Addr}
theorem dO(q:cs.lookup b=some o):bF cs H b=some (cL b o):=by unfold bF;rw[q]
theorem cH(q:cs.lookup b=none):bF cs H b=H b:=by unfold bF;rw[q]
theorem fW(q:cs.lookup b=some o):aY cs H b=none:=by unfold aY;rw[q]
theorem cq(q:cs.lookup b=none):aY cs H b=H b:=by unfold aY;rw[q]
theorem Bf{u:HO}(q:aY cs H b=some u):cs.lookup b=none/\H b=some u:=by
 cases e:cs.lookup b with
 | none=>rw[cq e]at q;exact⟨rfl,q⟩
 | some o=>rw[fW e]at q;cases q
theorem mO{u:HO}(hc:∀b o,cs.lookup b=some o->H b=none)(q:H b=some u):bF cs H b=some u:=by
 cases e:cs.lookup b with
 | none=>rw[cH e];exact q
 | some o=>rw[hc b o e]at q;cases q
theorem tL(hok:bh P w H h)(hc:∀b o,cs.lookup b=some o->h.get? b=some o)(hn:∀b o,cs.lookup b=some o->H b=none):bh P w (bF cs H) h:=fun b u e=>by
 cases q:cs.lookup b with
 | some o=>rw[dO q]at e;cases e;exact BS (hc b o q)
 | none=>
  rw[cH q]at e
  exact(hok b u e).stay (fun d v _ g=>g) (fun d hd=>mO hn hd) fun d xs hd=>mO hn hd
theorem ue(hok:bh P w H h)(hc:∀b o,cs.lookup b=some o->H b=some (cL b o)):bh P w (aY cs H) h:=fun b u e=>by
 obtain⟨q,e⟩:=Bf e
 have nt:∀d x,H d=some x->(∀f,x≠.ext f)->aY cs H d=some x:=fun d x hd nx=>by
  cases z:cs.lookup d with
  | none=>rw[cq z];exact hd
  | some o'=>rw[hc d o' z]at hd;cases hd;exact absurd rfl (nx _)
 exact(hok b u e).stay (fun d v _ g=>g) (fun d hd=>nt d _ hd fun f z=>by cases z) fun d xs hd=>nt d _ hd fun f z=>by cases z
theorem yp(u:Un fs ex (bF cs H) H' h h')(hok':bh P w H' h')(hc:∀b o,cs.lookup b=some o->h.get? b=some o)(hn:∀b o,cs.lookup b=some o->H b=none)(hc':∀b o,cs.lookup b=some o->H' b=some (cL b o)):Un fs ex H (aY cs H') h h' where
 keep:=fun b o e n nf nx=>by
  cases q:cs.lookup b with
  | none=>exact u.keep b o e (by rw[cH q];exact n) nf nx
  | some o'=>
   rw[hc b o' q]at e
   cases e
   exact(hok' b _ (hc' b _ q)).1
 slot:=fun b o e n nf nx=>by
  cases q:cs.lookup b with
  | none=>exact u.slot b o e (by rw[cH q];exact n) nf nx
  | some o'=>
   rw[hc b o' q]at e
   cases e
   exact⟨_,(hok' b _ (hc' b _ q)).1⟩
 free:=fun b o e n nx=>by
  cases q:cs.lookup b with
  | none=>rw[cq q];exact u.free b o e (by rw[cH q];exact n) nx
  | some o'=>exact fW q
 there:=u.there
 tups:=fun b xs e=>by
  cases q:cs.lookup b with
  | none=>rw[cq q];exact u.tups b xs (by rw[cH q];exact e)
  | some o'=>rw[hn b o' q]at e;cases e
 frzs:=fun b o x e=>by
  cases q:cs.lookup b with
  | none=>rw[cq q];exact u.frzs b o x (by rw[cH q];exact e)
  | some o'=>rw[hn b o' q]at e;cases e
 tbls:=fun b ps e=>by
  cases q:cs.lookup b with
  | none=>rw[cq q];exact u.tbls b ps (by rw[cH q];exact e)
  | some o'=>rw[hn b o' q]at e;cases e
theorem yb(u:Un fs ex (aY cs H) H' h h')(hc:∀b o,cs.lookup b=some o->H b=some (cL b o)):Un fs ex H (bF cs H') h h' where
 keep:=fun b o e n nf nx=>by
  cases q:cs.lookup b with
  | none=>exact u.keep b o e (by rw[cq q];exact n) nf nx
  | some o'=>rw[hc b o' q]at n;cases n
 slot:=fun b o e n nf nx=>by
  cases q:cs.lookup b with
  | none=>exact u.slot b o e (by rw[cq q];exact n) nf nx
  | some o'=>rw[hc b o' q]at n;cases n
 free:=fun b o e n nx=>by
  cases q:cs.lookup b with
  | none=>rw[cH q];exact u.free b o e (by rw[cq q];exact n) nx
  | some o'=>rw[hc b o' q]at n;cases n
 there:=u.there
 tups:=fun b xs e=>by
  cases q:cs.lookup b with
  | none=>rw[cH q];exact u.tups b xs (by rw[cq q];exact e)
  | some o'=>rw[hc b o' q]at e;cases e
 frzs:=fun b o x e=>by
  cases q:cs.lookup b with
  | none=>rw[cH q];exact u.frzs b o x (by rw[cq q];exact e)
  | some o'=>rw[hc b o' q]at e;cases e
 tbls:=fun b ps e=>by
  cases q:cs.lookup b with
  | none=>rw[cH q];exact u.tbls b ps (by rw[cq q];exact e)
  | some o'=>rw[hc b o' q]at e;cases e
end
structure FunR(P:Program)(w:World)(K:Du)(mg:Str->Option Value)(base:Heap)(k:Nat)(f:Addr)(pre:Hp->Prop)(R:List V->Hp->VK->Prop):Prop where
 at_:∀H h,bh P w H h->pre H->PySem.W.FnAt f h
 run:∀(A:Around) (outer:List Env) (s:Shared) (H:Hp) (us:List Value) (vs:List V) (Q:VK),Room k A->Env0 P w K mg base A outer s H->pre H->Vals vs us->R vs H Q →
  codeAny (model P w) A (.call (.ref f) ⟨us,[]⟩) (CR dk outer P w H s Q E0) s
def s9(P:Program)(w:World)(K:Du)(mg:Str->Option Value)(base:Heap)(k:Nat)(tf:TE)(ta:TA):TE:=fun σ H Q=>tf σ H fun fv H1=>∃f pre R,fv=.ref f/\FunR P w K mg base k f pre R/\pre H1/\ta σ H1 fun vs H2=>pre H2/\R vs H2 Q
theorem pA{X:Cx}{P:Program}{w:World}{K:Du}{mg:Str->Option Value}{base:Heap}{k:Nat}{x:Str}{p pos:Pos}{e:Expr}{es:List Expr}{tf:TE}{ta:TA}{A0:Around}(hr:Room k A0)(hf:PE X (.Name x p) tf)(ha:PA X (e::es) ta)(hA:X.A=A0:=by rfl)(hP:X.prog=P:=by rfl)(hw:X.w=w:=by rfl)(hK:X.K=K:=by rfl)(hm:X.mg=mg:=by rfl)(hB:X.base=base:=by rfl)
  (he:starEach (e::es) X.env=(false,eval e X.env)::starEach es X.env:=by rfl) (hpl:(backTo pos (starEach es X.env)).any (·.1)=false:=by rfl):PE X (.Call (.Name x p) (e::es) [] pos) (s9 P w K mg base k tf ta):=by
 subst hA
 subst hP
 subst hw
 subst hK
 subst hm
 subst hB
 intro pins s σ H Q I h
 refine wpAny_Call_Name_kw (av (hf pins s σ H _ I h) fun fv s1 ⟨v,H1,I1,r1,⟨f,pre,R,ev,F,hp,q1⟩⟩=>?_)
 subst ev
 cases r1
 refine PySem.W.callWith_F (first:=[]) (F.at_ _ _ I1.hok hp) (av (ha pos pins s1 σ H1 _ I1 q1) fun us s2 ⟨vs,H2,I2,r2,⟨hp2,q2⟩⟩=>?_) he hpl
 refine⟨F.at_ _ _ I2.hok hp2,?_⟩
 refine wpAny_call (codeAny_mono (F.run X.A X.stack s2 H2 us vs Q hr I2.env0 hp2 r2 q2) fun r s' hq=>?_)
 cases r with
 | error e=>exact False.elim hq
 | ok fl=>
  cases fl with
  | ret u=>exact I2.after hq
  | next=>exact False.elim hq
  | brk=>exact False.elim hq
  | cont=>exact False.elim hq
structure Cap where
 n:Str
 c:Addr
 o:Obj
 v:V
abbrev cellsOf(cp:List Cap):List (Addr×Obj):=cp.map fun e=>(e.c,e.o)
structure CapAt(X:Cx)(σ:St)(h:Heap)(js:List Nat)(cp:List Cap):Prop where
 len:cp.length=js.length
 at_:∀(i j:Nat) (e:Cap),js[i]?=some j->cp[i]?=some e->X.N[j]?=some e.n/\X.env.cells.lookup e.n=some e.c/\σ[j]?=some (some e.v)/\h.get? e.c=some e.o/\∃u,e.o.data=.cell (some u)/\RelV e.v u
theorem fo{cp:List Cap}{b:Addr}{o:Obj}(h:(cellsOf cp).lookup b=some o):∃e∈cp,e.c=b/\e.o=o:=by
 have hm:(b,o)∈cellsOf cp:=by
  have go:∀{l:List (Addr×Obj)},l.lookup b=some o->(b,o)∈l:=by
   intro l
   induction l with
   | nil=>intro h;cases h
   | cons x r ih=>
    intro h
    obtain⟨y,z⟩:=x
    rw[List.lookup_cons]at h
    cases hb:b == y with
    | true=>rw[hb]at h;cases h;rw[beq_iff_eq.mp hb];exact DE
    | false=>rw[hb]at h;exact DB _ (ih h)
  exact go h
 obtain⟨e,he,eq⟩:=List.mem_map.mp hm
 cases eq
 exact⟨e,he,rfl,rfl⟩
theorem zQ{cp:List Cap}{e:Cap}(h:e∈cp):∃o,(cellsOf cp).lookup e.c=some o:=by
 induction cp with
 | nil=>cases h
 | cons x r ih=>
  show ∃o,List.lookup e.c ((x.c,x.o)::cellsOf r)=some o
  rw[List.lookup_cons]
  cases hb:e.c == x.c with
  | true=>exact⟨_,rfl⟩
  | false=>
   rcases DM.mp h with rfl | h
   ·simp at hb
   ·exact ih h
def ki(sc:Scope)(N:List Str)(js:List Nat):Bool:=js.all fun j=>decide (j<N.length) && (sc.names.lookup (N.getD j "") == some .cell)
section
variable {X:Cx} {pins:List (Addr×Obj)} {σ:St} {H:Hp} {s:Shared}
theorem Inv.capAt(I:Inv X pins σ H s):∀{js:List Nat},ki X.env.scope X.N js=true->(∀j∈js,∃v,σ[j]?=some (some v))->∃cp,CapAt X σ s.heap js cp
 | [],_,_=>⟨[],rfl,fun i j e h=>by simp at h⟩
 | j::js,hj,hv=>by
  have hj2:(decide (j<X.N.length) && (X.env.scope.names.lookup (X.N.getD j "") == some .cell))=true/\ki X.env.scope X.N js=true:=by
   simpa[ki]using hj
  obtain⟨cp,hcp⟩:=I.capAt (js:=js) hj2.2 fun i hi=>hv i (DB _ hi)
  obtain⟨v,ev⟩:=hv j DE
  have h1:=hj2.1
  simp only[Eg,decide_eq_true_eq,beq_iff_eq]at h1
  have eN:X.N[j]?=some (X.N.getD j ""):=by
   rw[List.getD_eq_getElem?_getD,Dz h1.1]
   rfl
  obtain⟨m,hn,hl⟩:=I.loc
  obtain⟨u,r,l⟩:=hl j _ v eN ev (.inr (.inl h1.2))
  rcases l with⟨z,_⟩ | ⟨_,c,hc,o,ho,hd⟩
  ·have z':X.env.scope.names.lookup (X.N.getD j "")=some .local:=z
   rw[h1.2]at z'
   cases z'
  ·refine⟨⟨X.N.getD j "",c,o,v⟩::cp,by simp[hcp.len],fun i k e h2 h3=>?_⟩
   cases i with
   | zero=>
    cases h2
    cases h3
    exact⟨eN,hc,ev,ho,u,hd,r⟩
   | succ i=>
    simp at h2 h3
    exact hcp.at_ i k e h2 h3
theorem CapAt.mem{js:List Nat}{cp:List Cap}{h:Heap}(C:CapAt X σ h js cp){e:Cap}(he:e∈cp):X.env.cells.lookup e.n=some e.c/\h.get? e.c=some e.o/\∃u,e.o.data=.cell (some u)/\RelV e.v u:=by
 obtain⟨i,hi⟩:=List.getElem?_of_mem he
 have hl:i<js.length:=by rw[←C.len];exact(DG.mp hi).1
 obtain⟨_,h2,_,h4,h5⟩:=C.at_ i _ e (Dz hl) hi
 exact⟨h2,h4,h5⟩
theorem CQ{k:Nat}{f:Addr}{fd:FuncData}{ps:List Str}{sp:Sp}{Q:VK}{us:List Value}{vs:List V}{js:List Nat}{cp:List Cap}(F:FnOk X.prog X.w X.K X.mg X.base dk k f fd ps sp)(hr:Room k X.A)(hb:Binds X.K fd ps [])
  (I:Inv X pins σ H s) (C:CapAt X σ s.heap js cp) (hfn:∀e∈cp,X.fn e.n=true) (r:Vals vs us)
  (h:sp vs (bF (cellsOf cp) H) (fun v H'=>(∀b o,(cellsOf cp).lookup b=some o->H' b=some (cL b o))/\Q v (aY (cellsOf cp) H')) E0):wpAny (model X.prog X.w) X.A (call (.ref f) us) (EP X pins σ Q) X.xe s:=by
 have hc:∀b o,(cellsOf cp).lookup b=some o->s.heap.get? b=some o:=fun b o e=>by
  obtain⟨x,hx,rfl,rfl⟩:=fo e
  exact(C.mem hx).2.1
 have hn:∀b o,(cellsOf cp).lookup b=some o->H b=none:=fun b o e=>by
  obtain⟨x,hx,rfl,rfl⟩:=fo e
  exact I.freeC _ _ (C.mem hx).1
 have hab:∀b o,(cellsOf cp).lookup b=some o->X.s₀.heap.objs.size<=b:=fun b o e=>by
  obtain⟨x,hx,rfl,rfl⟩:=fo e
  exact I.ok.cab _ _ (hfn x hx) (C.mem hx).1
 have e0:=I.env0
 have e1:Env0 X.prog X.w X.K X.mg X.base X.A X.stack s (bF (cellsOf cp) H):=by
  refine⟨e0.frames,e0.mod,fun b o e=>⟨(e0.bs b o e).1,?_⟩,e0.bsz,e0.funs,fun b hb'=>?_,tL e0.hok hc hn,e0.bare⟩
  ·cases q:(cellsOf cp).lookup b with
   | none=>rw[cH q];exact(e0.bs b o e).2
   | some o'=>exact absurd (Ea (Dx (I.ok.bs b o e).1) (hab b o' q)) (Nat.lt_irrefl _)
  ·cases q:(cellsOf cp).lookup b with
   | none=>rw[cH q];exact e0.frf b hb'
   | some o'=>
    exfalso
    rcases DM.mp (I.stkSub b hb')with z | z
    ·obtain⟨m,⟨ob,es,ep,ho,hd,_⟩,_⟩:=I.loc
     obtain⟨x,hx,rfl,rfl⟩:=fo q
     obtain⟨_,g,u,hu,_⟩:=C.mem hx
     rw[←z,g]at ho
     cases ho
     rw[hu]at hd
     cases hd
    ·obtain⟨_,ob,ho,_⟩:=I.ok.funs.mem z
     exact absurd (Ea (Dx ho) (hab b o' q)) (Nat.lt_irrefl _)
 have hl:us.length=ps.length:=by rw[←r.length];exact F.len _ _ _ _ h
 refine wpAny_call (codeAny_mono (F.run X.A X.stack s (bF (cellsOf cp) H) ⟨us,[]⟩ us vs _ E0 hr e1 (by have:=hb s us I.kIn (by simpa using hl);rw[List.append_nil]at this;exact this) r h) fun r s' hq=>?_)
 cases r with
 | error e=>exact False.elim hq
 | ok fl=>
  cases fl with
  | ret u=>
   obtain⟨v,H',os,bare,un,hok,rv,hc',q⟩:=hq
   exact I.after ⟨v,aY (cellsOf cp) H',os,bare,yp un hok hc hn hc',ue hok hc',rv,q⟩
  | next=>exact False.elim hq
  | brk=>exact False.elim hq
  | cont=>exact False.elim hq
def iE(sp:Sp)(js:List Nat)(cells:List (Str×Addr))(N:List Str)(ta:TA):TE:=fun σ H Q=>ta σ H fun vs H1=>(∀j∈js,∃v,σ[j]?=some (some v)) ∧
 ∀cp:List Cap,cp.length=js.length->(∀(i j:Nat) (e:Cap),js[i]?=some j->cp[i]?=some e->N[j]?=some e.n/\cells.lookup e.n=some e.c/\σ[j]?=some (some e.v)/\H1 e.c=none/\∃u,e.o.data=.cell (some u)/\RelV e.v u) →
  sp vs (bF (cellsOf cp) H1) (fun v H'=>(∀b o,(cellsOf cp).lookup b=some o->H' b=some (cL b o))/\Q v (aY (cellsOf cp) H')) E0
theorem oD{x:Str}{k j:Nat}{ps:List Str}{sp:Sp}{e:Expr}{es:List Expr}{t:TA}{p pos:Pos}(js:List Nat)(C:Cal X.prog X.w X.K X.mg X.base x j ps sp)(hr:Room k X.A)(ha:PA X (e::es) t)(hjk:j<=k:=by decide)(hg:Gl X x:=by rfl)(hdb:(x == ("__debug__":Str))=false:=by decide)
  (hj:ki X.env.scope X.N js=true:=by rfl) (hfn:∀y,X.fn y=true:=by intro _;rfl)
  (he:starEach (e::es) X.env=(false,eval e X.env)::starEach es X.env:=by rfl) (hpl:(backTo pos (starEach es X.env)).any (·.1)=false:=by rfl) :
  PE X (.Call (.Name x p) (e::es) [] pos) (iE sp js X.env.cells X.N t):=by
 obtain⟨f,fd,hm,hk,hb,F⟩:=C.ex
 intro pins s σ H Q I h
 refine wpAny_Call_Name_kw (ir I hg hm ?_ hdb)
 refine PySem.W.callWith_K (h₀:=X.base) I.ok.mod.kin hk (av (ha pos pins s σ H _ I h) fun us s1 ⟨vs,H1,I1,r,hv,q⟩=>⟨I1.kIn,?_⟩) he hpl
 obtain⟨cp,hcp⟩:=I1.capAt hj hv
 refine CQ F (hr.mono hjk) hb I1 hcp (fun e _=>hfn _) r (q cp hcp.len fun i j e h1 h2=>?_)
 obtain⟨a1,a2,a3,_,a5⟩:=hcp.at_ i j e h1 h2
 exact⟨a1,a2,a3,I1.freeC _ _ a2,a5⟩
end
end L2
namespace L2
open PySem PySem.Spec PyProof.Rows
def eh(f c:Addr)(q:Str)(params:Arguments)(body:Expr)(scope:Scope)(cl:List (Str×Addr)):HO:=.ext fun h=>∃pm ctv,h.get? f=some (PySem.W.kla_obj "<lambda>" q params body scope cl pm c ctv)
theorem rC{P:Program}{w:World}{H:Hp}{h:Heap}{f c:Addr}{q:Str}{params:Arguments}{body:Expr}{scope:Scope}{cl:List (Str×Addr)}{pm ctv:Value}(r:h.get? f=some (PySem.W.kla_obj "<lambda>" q params body scope cl pm c ctv)):bj P w H h f (eh f c q params body scope cl):=
 ⟨⟨pm,ctv,r⟩,⟨_,r⟩,fun h1 h2 ⟨a,b,g⟩ k=>⟨a,b,k _ g⟩⟩
def iN(sc:Scope):Bool:=sc.names.all fun p=>sc.names.lookup p.1 == some p.2
def kD(sc out:Scope):Bool:=sc.names.all fun p=>p.2 != .free || out.names.lookup p.1 == some .cell || out.names.lookup p.1 == some .free
theorem qZ{sc:Scope}(h:iN sc=true){p:Str×NameKind}(hp:p∈sc.names):sc.names.lookup p.1=some p.2:=by simpa using Ed.mp h p hp
theorem tE{sc out:Scope}(h:kD sc out=true){p:Str×NameKind}(hp:p∈sc.names)(hf:p.2=.free):out.names.lookup p.1=some .cell\/out.names.lookup p.1=some .free:=by
 have:=Ed.mp h p hp
 simp[hf]at this
 exact this
structure ClOk(sc:Scope)(cells cl:List (Str×Addr)):Prop where
 one:iN sc=true
 fr:∀x c,cl.lookup x=some c->sc.names.lookup x=some .free/\cells.lookup x=some c
 has:∀x,sc.names.lookup x=some .free->∃c,cl.lookup x=some c
 inj:∀x y c,cl.lookup x=some c->cl.lookup y=some c->x=y
theorem wZ{X:Cx}(ok:X.Ok){sc:Scope}(hsc:iN sc=true)(ho:kD sc X.env.scope=true):ClOk sc X.env.cells (cP sc.names X.env.cells):=by
 have fr:∀x c,(cP sc.names X.env.cells).lookup x=some c->sc.names.lookup x=some .free/\X.env.cells.lookup x=some c:=fun x c h=>by
  rcases jH X.env.cells sc.names [] x c h with⟨h1,h2⟩ | h1
  ·obtain⟨d,hd⟩:=ok.has x (tE ho h1 rfl)
   refine⟨qZ hsc h1,?_⟩
   rw[hd]at h2 ⊢
   rw[h2]
   rfl
  ·simp at h1
 exact⟨hsc,fr,fun x h=>uC (gE h),fun x y c h1 h2=>ok.inj x y c (fr x c h1).2 (fr y c h2).2⟩
section
variable {X:Cx} {pins:List (Addr×Obj)} {σ:St} {H:Hp} {s:Shared}
theorem zg{cl:List (Str×Addr)}{P c f:Addr}{ps more:Array Value}{q:Str}{params:Arguments}{body:Expr}{scope:Scope}{pm ctv:Value}{h':Heap}{tk:Nat}(I:Inv X pins σ H s)(hP:H P=some (.tbl ps))(b:Heap.ExtBut P s.heap h')(hc:s.heap.objs.size<=c)(hcf:c<f)(gP:h'.get? P=some { cls:=.none,data:=.fields (ps++more) })
  (gc:h'.CodeRec (.ref c) q) (gf:h'.get? f=some (PySem.W.kla_obj "<lambda>" q params body scope cl pm c ctv)) :
  Inv X pins σ (upd (upd (upd H P (.tbl (ps++more))) c (eP c q)) f (eh f c q params body scope cl)) { s with heap:=h',toks:=tk }:=by
 have hf:@LE.le Nat _ s.heap.objs.size f:=Eb hc (Nat.le_of_lt hcf)
 have nc:H c=none:=I.hok.fresh hc
 have nf:H f=none:=I.hok.fresh hf
 have cf:f≠c:=Nat.ne_of_gt hcf
 have Pc:c≠P:=fun z=>by rw[z,hP]at nc;cases nc
 have Pf:f≠P:=fun z=>by rw[z,hP]at nf;cases nf
 have old:∀b o,H b=some o->b≠P->upd (upd (upd H P (.tbl (ps++more))) c (eP c q)) f (eh f c q params body scope cl) b=some o:=fun b o e n=>by
  rw[aB (cw e nf),aB (cw e nc),aB n];exact e
 have nP:∀b,H b=none->b≠P:=fun b e z=>by rw[z,hP]at e;cases e
 refine I.un ⟨fun b' o e n _ _=>b b' o (nP b' n) e,fun b' o e n _ _=>⟨o.slots,b b' o (nP b' n) e⟩,fun b' o e n _=>?_,fun b' o e _=>?_,fun b' xs e=>old b' _ e (fun z=>by rw[z,hP]at e;cases e),fun b' o u e=>old b' _ e (fun z=>by rw[z,hP]at e;cases e),fun b' qs e=>?_⟩ fun b' u e=>?_
 ·have lt:@LT.lt Nat _ b' s.heap.objs.size:=Dx e
  rw[aB (DQ (Ea lt hf)),aB (DQ (Ea lt hc)),aB (nP b' n)];exact n
 ·by_cases z:b'=P
  ·rw[z];exact⟨_,gP⟩
  ·exact⟨o,b b' o z e⟩
 ·by_cases z:b'=P
  ·subst z
   rw[hP]at e
   cases e
   exact⟨more,by rw[aB (Ne.symm Pf),aB (Ne.symm Pc),aH]⟩
  ·exact⟨#[],by rw[old b' _ e z];simp⟩
 ·by_cases z:b'=f
  ·subst z
   rw[aH]at e
   cases e
   exact rC gf
  ·rw[aB z]at e
   by_cases z2:b'=c
   ·subst z2
    rw[aH]at e
    cases e
    exact xP gc
   ·rw[aB z2]at e
    by_cases z3:b'=P
    ·subst z3
     rw[aH]at e
     cases e
     exact gP
    ·rw[aB z3]at e
     refine(I.hok b' u e).stay (fun d v hd g=>b d v ?_ g) (fun d hd=>old d _ hd (fun y=>by rw[y,hP]at hd;cases hd)) fun d xs hd=>old d _ hd (fun y=>by rw[y,hP]at hd;cases hd)
     rcases hd with rfl | hd
     ·exact z3
     ·exact fun y=>by rw[y,hP]at hd;cases hd
end
def mw(P:Addr)(pos:Pos)(q:Str)(params:Arguments)(body:Expr)(scope:Scope)(cells:List (Str×Addr))(H:Hp)(Q:VK):Prop:=∀cl,ClOk scope cells cl →
 (H P=some (.tbl #[])/\∀f c,H c=none->H f=none->c≠P->f≠P->f≠c->Q (.ref f) (upd (upd (upd H P (.tbl #[rawInt pos.line,rawInt pos.col,.ref c])) c (eP c q)) f (eh f c q params body scope cl))) ∨
 ∃c,H P=some (.tbl #[rawInt pos.line,rawInt pos.col,.ref c])/\H c=some (eP c q)/\∀f,H f=none->Q (.ref f) (upd H f (eh f c q params body scope cl))
def qg(P:Addr)(pos:Pos)(q:Str)(params:Arguments)(body:Expr)(scope:Scope)(cells:List (Str×Addr)):TE:=fun _ H Q=>mw P pos q params body scope cells H Q
theorem m9{X:Cx}{params:Arguments}{body:Expr}{scope:Scope}{pos:Pos}{c P:Addr}(hcode:X.env.code=.ref c)(hgl:X.env.globals=mainGlobals)(C:PySem.W.CodeHd X.base c P)(hB:X.base.BuiltinsAt X.mg P)(hgP:mainGlobals≠P)(hsc:iN scope=true)(hout:kD scope X.env.scope=true)
  (hd0:params.defaults=[]) (hk0:params.kw_defaults=[]):PE X (.Lambda params body scope pos) (qg P pos (X.env.qual ++ "<lambda>") params body scope X.env.cells):=by
 intro pins s σ H Q I h
 rw[arm_eval_Lambda,PySem.defaultsOf_eq,hk0,hd0]
 refine Dr (Dt (Dr (wpAny_holding (Dt ?_))))
 have hcl:closureFor scope X.env=pure (cP scope.names X.env.cells):=kz fun p hp hf=>I.ok.has p.1 (tE hout hp hf)
 have h:=h _ (wZ I.ok hsc hout)
 have C':PySem.W.CodeHd s.heap c P:=C.keeps fun b o e=>(I.bs b o e).1
 have hg:s.heap.Ns mainGlobals X.mg:=by
  obtain⟨o,es,ep,e,r⟩:=I.ok.mod.glob
  exact⟨o,es,ep,(I.bs _ _ e).1,r⟩
 have hb:s.heap.BuiltinsAt X.mg P:=by
  obtain⟨bm,o,a1,a2,a3,a4,a5,a6⟩:=hB
  exact⟨bm,o,a1,a2,a3,a4,(I.bs _ _ a5).1,a6⟩
 rcases h with⟨hP,q⟩ | ⟨c',hP,hc',q⟩
 ·have gP:s.heap.get? P=some (PySem.W.tabObj #[]):=I.hok P _ hP
  refine PySem.W.kla_makeFunction hcl hgl hg hcode C' gP trivial rfl hgP hb fun c' ctv h' tk hx hge hlt hrec htb=>?_
  have nc:H c'=none:=I.hok.fresh hge
  have hf:@LE.le Nat _ s.heap.objs.size h'.objs.size:=Eb hge (Nat.le_of_lt hlt)
  have nf:H h'.objs.size=none:=I.hok.fresh hf
  have lP:@LT.lt Nat _ P s.heap.objs.size:=Dx gP
  have J:=zg (cl:=cP scope.names X.env.cells) (tk:=tk) (f:=h'.objs.size) (h':=h'.push (PySem.W.kla_obj "<lambda>" (X.env.qual ++ "<lambda>") params body scope (cP scope.names X.env.cells) ((X.mg "__name__").getD .none) c' ctv)) (more:=#[rawInt pos.line,rawInt pos.col,.ref c']) I hP (fun b o n e=>Dv _ (hx b o n e)) hge hlt (Dv _ htb) (hrec.push _) (Dw _ rfl)
  rw[Array.empty_append]at J
  exact⟨.ref h'.objs.size,_,J,rfl,q _ c' nc nf (Nat.ne_of_gt (Ea lP hge)) (Nat.ne_of_gt (Ea lP hf)) (Nat.ne_of_gt hlt)⟩
 ·have gP:s.heap.get? P=some (PySem.W.tabObj #[rawInt pos.line,rawInt pos.col,.ref c']):=I.hok P _ hP
  refine PySem.W.kla_makeFunctionHit (cv:=.ref c') hcl hgl hg hcode C' gP trivial (by simp[codeAmong,rawInt]) hb fun ctv h' tk hx hge=>?_
  exact⟨.ref h'.objs.size,_,I.laid (t':=tk) (o:=eh h'.objs.size c' (X.env.qual ++ "<lambda>") params body scope (cP scope.names X.env.cells)) (fun b o e=>Dv _ (hx b o e)) hge (rC (Dw _ rfl)),rfl,q _ (I.hok.fresh hge)⟩
theorem ma{cells:List (Str×Addr)}{K:Du}{x q:Str}{params:Arguments}{body:Expr}{scope:Scope}{H:Hp}{Q:VK}{c T:Addr}{pos:Pos}(ht:dj K x q pos.line pos.col H)(e:PySem.W.tabIn K x=some (c,T))
  (h:∀f c' cl H',ClOk scope cells cl->Et H H'->dj K x q pos.line pos.col H'->(∀y q2 l2 k2,(∀c2 T2,PySem.W.tabIn K y=some (c2,T2)->T2≠T)->dj K y q2 l2 k2 H->dj K y q2 l2 k2 H')->H' f=some (eh f c' q params body scope cl)->H' c'=some (eP c' q)->Q (.ref f) H'):mw T pos q params body scope cells H Q:=by
 intro cl hcl
 rcases ht c T e with hT | ⟨c',hT,hc'⟩
 ·refine .inl ⟨hT,fun f c' nc nf cT fT fc=>?_⟩
  have old:∀b o,H b=some o->b≠T->upd (upd (upd H T (.tbl #[rawInt pos.line,rawInt pos.col,.ref c'])) c' (eP c' q)) f (eh f c' q params body scope cl) b=some o:=fun b o hb n=>by
   rw[aB (cw hb nf),aB (cw hb nc),aB n]
   exact hb
  refine h f c' cl _ hcl (fun b o hb n=>old b o hb fun z=>by rw[z,hT]at hb;cases hb;exact n _ rfl) (fun c2 T2 e2=>.inr ⟨c',?_,?_⟩) (fun y q2 l2 k2 hn hy c2 T2 e2=>?_) aH ?_
  ·rw[e]at e2
   cases e2
   rw[aB (Ne.symm fT),aB (Ne.symm cT),aH]
  ·rw[aB (Ne.symm fc),aH]
  ·rcases hy c2 T2 e2 with g | ⟨c3,g1,g2⟩
   ·exact .inl (old _ _ g (hn c2 T2 e2))
   ·exact .inr ⟨c3,old _ _ g1 (hn c2 T2 e2),old _ _ g2 fun z=>by rw[z,hT]at g2;cases g2⟩
  ·rw[aB (Ne.symm fc),aH]
 ·refine .inr ⟨c',hT,hc',fun f nf=>?_⟩
  have ex:Ext H (upd H f (eh f c' q params body scope cl)):=aZ nf
  exact h f c' cl _ hcl ex.et (dj.ext ex ht) (fun y q2 l2 k2 _ hy=>hy.ext ex) aH (ex _ _ hc')
theorem lD{P:Addr}{pos:Pos}{q:Str}{params:Arguments}{body:Expr}{scope:Scope}{cells:List (Str×Addr)}{σ:St}{H:Hp}{Q:VK}(h:mw P pos q params body scope cells H Q):qg P pos q params body scope cells σ H Q:=h
end L2
namespace L2
open PySem PySem.Spec PyProof.Rows
theorem iJ{x:Str}{c:Addr}:∀(names:List (Str×NameKind)) (n:Nat) (a acc:List (Str×Addr)),(cellsFrom n names (a++acc)).lookup x=some c->acc.lookup x=some c\/(cellsFrom n names a).lookup x=some c
 | [],_,a,acc,h=>by
  unfold cellsFrom at h ⊢
  rw[List.lookup_append]at h
  cases q:a.lookup x with
  | none=>rw[q]at h;exact .inl h
  | some d=>rw[q]at h;exact .inr h
 | (y,k)::r,n,a,acc,h=>by
  unfold cellsFrom at h ⊢
  by_cases hk:(k == NameKind.cell)=true
  ·rw[if_pos hk]at h ⊢
   exact iJ r (n+1) ((y,n)::a) acc h
  ·rw[if_neg hk]at h ⊢
   exact iJ r n a acc h
structure InL(s₀:Shared)(L:Addr)(m:Str->Option Value)(own:List (Str×Addr))(cm:Str->Option Value)(s:Shared):Prop where
 same:∃h' tk,s={ s₀ with heap:=h',toks:=tk }
 ns:s.heap.Ns L m
 keep:∀b o,s₀.heap.get? b=some o->s.heap.get? b=some o
 fresh:s₀.heap.objs.size<=L
 cell:∀n c,own.lookup n=some c->s.heap.IsCell c (cm n)
 apart:own.Pairwise fun x y=>x.2≠y.2
 above:∀n c,(n,c)∈own->L<c
section
variable {M:Model} {A:Around} {E:Value->Shared->Prop} {s₀ s:Shared} {m cm:Str->Option Value} {env:Env} {own:List (Str×Addr)}
theorem InL.st{n:Str}{v:Value}{Q:Unit->Shared->Prop}(x:InL s₀ env.locals m own cm s)(hk:env.scope.kind=.function)(hl:env.kindOf n=some .local)
  (h:∀s',InL s₀ env.locals (fun y=>if y=n then some v else m y) own cm s'->Q () s'):wpAny M A (storeName env n v) Q E s:=by
 refine wpAny_storeName_local hl x.ns (fun h' hn' hs'=>h _ ⟨?_,hn',fun b o e=>?_,x.fresh,fun k c hc=>?_,x.apart,x.above⟩) (by rw[hk];rfl)
 ·obtain⟨h₁,tk,rfl⟩:=x.same
  exact⟨h',_,rfl⟩
 ·exact hs'.extBut b o (DQ (Ea (Dx e) x.fresh)) (x.keep b o e)
 ·exact(x.cell k c hc).sameBut hs' (Nat.ne_of_gt (x.above k c (PySem.mem_of_lookup hc)))
theorem InL.stC{n:Str}{c:Addr}{v:Value}{Q:Unit->Shared->Prop}(x:InL s₀ env.locals m own cm s)(hk:env.scope.kind=.function)(hl:env.kindOf n=some .cell)
  (hc:env.cells.lookup n=some c) (ho:own.lookup n=some c)
  (h:∀s',InL s₀ env.locals m own (fun y=>if y=n then some v else cm y) s'->Q () s'):wpAny M A (storeName env n v) Q E s:=by
 have hLc:=x.above n c (PySem.mem_of_lookup ho)
 refine wpAny_storeName_cell hk hl hc (x.cell n c ho) fun h' hc' hs'=>h _ ⟨?_,x.ns.sameBut hs' (DQ hLc),fun b o e=>?_,x.fresh,fun k c' hk'=>?_,x.apart,x.above⟩
 ·obtain⟨h₁,tk,rfl⟩:=x.same
  exact⟨h',_,rfl⟩
 ·exact hs'.extBut b o (DQ (Nat.lt_trans (Ea (Dx e) x.fresh) hLc)) (x.keep b o e)
 ·by_cases hkn:k=n
  ·subst hkn
   rw[ho]at hk';cases hk'
   simpa using hc'
  ·rw[if_neg hkn]
   exact(x.cell k c' hk').sameBut hs' fun e=>hkn (name_of_addr x.apart (PySem.mem_of_lookup hk') (e ▸ PySem.mem_of_lookup ho))
theorem InL.binds(f:Str×Value->PUnit->Sem (ForInStep PUnit))(hf:∀n v u,f (n,v) u=(do storeName env n v;pure (.yield ⟨⟩)))(hk:env.scope.kind=.function):
  ∀(binds:List (Str×Value)) (m cm:Str->Option Value) (s:Shared) (Q:PUnit->Shared->Prop),InL s₀ env.locals m own cm s →
   (∀x∈binds,env.kindOf x.1=some .local\/(env.kindOf x.1=some .cell/\∃c,env.cells.lookup x.1=some c/\own.lookup x.1=some c)) →
   (∀s',InL s₀ env.locals (bindL env.kindOf binds m) own (bindC env.kindOf binds cm) s'->Q ⟨⟩ s')->wpAny M A (forIn binds ⟨⟩ f) Q E s
 | [],m,cm,s,Q,x,_,h=>by rw[List.forIn_nil];exact Dt (h s x)
 | (n,v)::r,m,cm,s,Q,x,hkind,h=>by
  rw[List.forIn_cons,hf]
  have hr:∀y∈r,env.kindOf y.1=some .local\/(env.kindOf y.1=some .cell/\∃c,env.cells.lookup y.1=some c/\own.lookup y.1=some c):=fun y hy=>hkind y (DB _ hy)
  rcases hkind (n,v) DE with hl | ⟨hl,c,hc,ho⟩
  ·refine Dr (Dr (InL.st x hk hl fun s' x'=>Dt (InL.binds f hf hk r _ _ s' Q x' hr fun s'' x''=>h s'' ?_)))
   unfold bindL bindC;rw[if_pos hl,if_pos hl];exact x''
  ·have hnl:¬env.kindOf n=some .local:=by rw[hl];decide
   refine Dr (Dr (InL.stC x hk hl hc ho fun s' x'=>Dt (InL.binds f hf hk r _ _ s' Q x' hr fun s'' x''=>h s'' ?_)))
   unfold bindL bindC;rw[if_neg hnl,if_neg hnl];exact x''
end
def dZ(q:Str)(scope:Scope)(L f:Addr)(cd:Value)(cl:List (Str×Addr)):Env:=
 { scope:=scope,locals:=L,globals:=mainGlobals,cells:=cellsFrom (L+1) scope.names cl,qual:=q ++ ".<locals>.",func:=some f,code:=cd,frame:=some L,builtins:=builtinsNs }
section
variable {M:Model} {A:Around} {E:Value->Shared->Prop} {s:Shared}
theorem CY {scope : Scope} {cl : List (Str × Addr)} {binds : List (Str × Value)} {q : Str} {f : Addr} {cd : Value} {Q : Env → Shared → Prop} (hk : scope.kind = .function) (hsc : iN scope = true) (hcl : ∀ x c, cl.lookup x = some c → scope.names.lookup x = some .free)
    (hkind : ∀ x ∈ binds, scope.names.lookup x.1 = some .local ∨ scope.names.lookup x.1 = some .cell)
    (hQ : ∀ s', InL s s.heap.objs.size (bindL (dZ q scope s.heap.objs.size f cd cl).kindOf binds fun _ => none) (cellsFrom (s.heap.objs.size + 1) scope.names []) (bindC (dZ q scope s.heap.objs.size f cd cl).kindOf binds fun _ => none) s' → Q (dZ q scope s.heap.objs.size f cd cl) s') :
    wpAny M A (newFunctionEnv scope mainGlobals cl binds (q ++ ".<locals>.") (some f) cd none builtinsNs) Q E s := by
  simp only [newFunctionEnv, Option.isSome_none, Bool.false_eq_true, if_false]
  refine Dr (wpAny_alloc ?_)
  refine Dr (wpAny_layCells _ (fun name kind cells => by cases hkc : kind == NameKind.cell <;> simp [hkc]) _ _ _ _ ?_)
  have ok := cellsFrom_ok scope.names (s.heap.push { cls := .type "frame", data := .dict #[] }) (s.heap.objs.size + 1) [] ⟨fun _ _ hm => (nomatch hm), List.Pairwise.nil⟩ (by rw [Heap.size_push]; exact DR _)
  rw [Heap.size_push] at ok
  rw [show ({ s with heap := s.heap.push { cls := .type "frame", data := .dict #[] } } : Shared).heap.objs.size = s.heap.objs.size + 1 from Heap.size_push ..]
  refine Dr (InL.binds (s₀ := s) (env := dZ q scope s.heap.objs.size f cd cl) (own := cellsFrom (s.heap.objs.size + 1) scope.names [])
    _ (fun _ _ _ => rfl) hk binds (fun _ => none) (fun _ => none) _ _
    ⟨⟨_, _, rfl⟩, (Heap.Ns.new s.heap (.type "frame")).keeps (pushCells_keeps _ _), fun b o e => pushCells_keeps _ _ b o (Dv _ e), DR _,
      fun n c hc => (ok.empty n c (PySem.mem_of_lookup hc)).1, ok.apart, fun n c hm => (ok.empty n c hm).2⟩
    (fun x hx => ?_) fun s' x => Dt (hQ s' x))
  rcases hkind x hx with h | h
  · exact .inl h
  · obtain ⟨c, hc⟩ := Option.isSome_iff_exists.mp (PySem.W.cellsFrom_some scope.names (s.heap.objs.size + 1) cl (.inl h))
    rcases iJ scope.names (s.heap.objs.size + 1) [] cl hc with h2 | h2
    · rw [hcl _ _ h2] at h; cases h
    · exact .inr ⟨h, c, hc, h2⟩
end
def iF(P:Program)(w:World)(K:Du)(mg:Str->Option Value)(base:Heap)(N:List Str)(q:Str)(scope:Scope)(f:Addr)(cd:Value)(cl:List (Str×Addr))(A:Around)(outer:List Env)(s:Shared)(H:Hp):Cx where
 prog:=P
 w:=w
 K:=K
 mg:=mg
 base:=base
 A:=A.deeper (dZ q scope s.heap.objs.size f cd cl)
 N:=N
 s₀:=s
 H₀:=H
 env:=dZ q scope s.heap.objs.size f cd cl
 outer:=outer
 stack:=dZ q scope s.heap.objs.size f cd cl::outer
 ex:=[]
 calm:=true
 fn:=fun x=>scope.names.lookup x == some .cell
 pn:=[]
 xe:=fun _ _=>False
structure Caps(H:Hp)(cl:List (Str×Addr))(cp:List Cap):Prop where
 at_:∀e∈cp,cl.lookup e.n=some e.c/\H e.c=some (cL e.c e.o)/\∃u,e.o.data=.cell (some u)/\RelV e.v u
 all:∀x c,cl.lookup x=some c->∃e∈cp,e.n=x/\e.c=c
theorem Caps.ext{H H':Hp}(e:Ext H H'){cl:List (Str×Addr)}{cp:List Cap}(h:Caps H cl cp):Caps H' cl cp:=⟨fun x hx=>⟨(h.at_ x hx).1,e _ _ (h.at_ x hx).2.1,(h.at_ x hx).2.2⟩,h.all⟩
theorem Caps.look{H:Hp}{cl:List (Str×Addr)}{cp:List Cap}(h:Caps H cl cp):∀b o,(cellsOf cp).lookup b=some o->H b=some (cL b o):=fun b o e=>by
 obtain⟨x,hx,rfl,rfl⟩:=fo e
 exact(h.at_ x hx).2.1
structure LamSc(ps:List Str)(sc:Scope):Prop where
 kind:sc.kind=.function
 co:sc.isCoroutine=false
 gen:sc.isGenerator=false
 nd:ps.Nodup
 par:∀x∈ps,sc.names.lookup x=some .local\/sc.names.lookup x=some .cell
theorem Cw{P:Program}{w:World}{K:Du}{mg:Str->Option Value}{base:Heap}{ps:List Str}{q:Str}{scope:Scope}{f:Addr}{cd:Value}{cl cells:List (Str×Addr)}{cp:List Cap}{A:Around}{outer:List Env}{s s1:Shared}{H:Hp}{us:List Value}{vs:List V}
  (S:LamSc ps scope) (C:ClOk scope cells cl) (hcp:Caps H cl cp) (hd:A.handled=none) (e0:Env0 P w K mg base A outer s H) (hl:vs.length=ps.length) (r:Vals vs us)
  (x:InL s s.heap.objs.size (bindL (dZ q scope s.heap.objs.size f cd cl).kindOf (ps.zip us) fun _=>none) (cellsFrom (s.heap.objs.size+1) scope.names []) (bindC (dZ q scope s.heap.objs.size f cd cl).kindOf (ps.zip us) fun _=>none) s1) :
  Inv (iF P w K mg base (ps++cp.map (·.n)) q scope f cd cl A outer s (aY (cellsOf cp) H)) [] (vs.map some++cp.map fun e=>some e.v) (aY (cellsOf cp) H) s1:=by
 obtain⟨h1,tk,rfl⟩:=x.same
 have hk:=x.keep
 have noA:∀b:Addr,b∉(iF P w K mg base (ps++cp.map (·.n)) q scope f cd cl A outer s (aY (cellsOf cp) H)).ex:=fun b z=>absurd (show b∈([]:List Addr)from z) (by simp)
 have nn:∀b,H b=none->aY (cellsOf cp) H b=none:=fun b hb=>by
  cases z:(cellsOf cp).lookup b with
  | none=>rw[cq z];exact hb
  | some o=>exact fW z
 have obj:∀e∈cp,s.heap.get? e.c=some e.o:=fun e he=>(e0.hok _ _ (hcp.at_ e he).2.1).1
 have clt:∀y c,cl.lookup y=some c->@LT.lt Nat _ c s.heap.objs.size:=fun y c h=>by
  obtain⟨e,he,_,rfl⟩:=hcp.all y c h
  exact Dx (obj e he)
 have cinC:∀y c,cl.lookup y=some c->aY (cellsOf cp) H c=none:=fun y c h=>by
  obtain⟨e,he,_,rfl⟩:=hcp.all y c h
  obtain⟨o,ho⟩:=zQ he
  exact fW ho
 have hfr:∀y,scope.names.lookup y=some .free->∃c,cl.lookup y=some c/\(cellsFrom (s.heap.objs.size+1) scope.names cl).lookup y=some c:=fun y hy=>by
  obtain⟨c,hc⟩:=C.has y hy
  obtain⟨c',hc'⟩:=Option.isSome_iff_exists.mp (PySem.W.cellsFrom_some scope.names (s.heap.objs.size+1) cl (x:=y) (.inr (by rw[hc];rfl)))
  rcases fM _ _ _ hc' with h | ⟨_,h⟩
  ·rw[hc]at h;cases h;exact⟨c,hc,hc'⟩
  ·have:=qZ C.one h
   rw[hy]at this
   cases this
 refine⟨⟨e0.mod,S.kind,rfl,rfl,DR _,fun y z c h1 h2=>?_,fun y hy=>?_,fun y c h hc=>?_,fun _=>hd,Around.frames_deeper e0.frames,.inr ⟨rfl,rfl⟩,fun b z=>absurd z (noA b),fun b o e=>⟨(e0.bs b o e).1,nn b (e0.bs b o e).2⟩,e0.bsz,fun b _ _=>noA b,fun b z=>absurd z (noA b),e0.funs,fun b hb=>nn b (e0.frf b hb)⟩,
  rfl,e0.bare,Un.kept hk,⟨_,x.ns,fun i y v h1 h2 h3=>?_⟩,fun y c h=>?_,nn _ (e0.hok.fresh (DR _)),fun y c h=>?_,fun p hp=>absurd (show p∈([]:List (Addr×Obj))from hp) (by simp),(ue e0.hok hcp.look).kept hk,?_⟩
 ·exact j1 scope.names _ _ (fun x c e=>Nat.lt_succ_of_lt (clt x c e)) C.inj h1 h2
 ·have hy:scope.names.lookup y=some .cell\/scope.names.lookup y=some .free:=hy
  rcases hy with hy | hy
  ·exact Option.isSome_iff_exists.mp (PySem.W.cellsFrom_some scope.names _ _ (.inl hy))
  ·obtain⟨c,_,h⟩:=hfr y hy
   exact⟨c,h⟩
 ·have hy:scope.names.lookup y=some .cell:=by simpa[iF]using h
  have hc':(cellsFrom (s.heap.objs.size+1) scope.names cl).lookup y=some c:=hc
  rcases fM _ _ _ hc' with h2 | ⟨h2,_⟩
  ·rw[(C.fr y c h2).1]at hy;cases hy
  ·exact Nat.le_of_succ_le h2
 ·by_cases hi:i<vs.length
  ·have ha:vs[i]?=some v:=by
    rw[DW (by simpa using hi),DA]at h2
    cases e:vs[i]? with
    | none=>rw[e]at h2;cases h2
    | some a=>rw[e]at h2;cases h2;rfl
   obtain⟨u,hu,rv⟩:=r.get ha
   have hp:ps[i]?=some y:=by
    have h1':(ps++cp.map (·.n))[i]?=some y:=h1
    rw[DW (by omega)]at h1'
    exact h1'
   refine⟨u,rv,?_⟩
   rcases S.par y (DH hp)with k | k
   ·exact .inl ⟨k,m8 S.nd hp hu k⟩
   ·obtain⟨c,e⟩:=Option.isSome_iff_exists.mp (PySem.W.cellsFrom_some scope.names (s.heap.objs.size+1) cl (.inl k))
    refine .inr ⟨.inl k,c,e,?_⟩
    rcases iJ scope.names (s.heap.objs.size+1) [] cl e with h4 | h4
    ·rw[(C.fr y c h4).1]at k;cases k
    ·have qq:=x.cell y c h4
     rw[kG S.nd hp hu (by show scope.names.lookup y≠_;rw[k];decide)]at qq
     exact qq
  ·have h1':(ps++cp.map (·.n))[i]?=some y:=h1
   rw[DV (by omega),DA]at h1'
   rw[DV (by simpa using Nat.le_of_not_lt hi),Dy,DA]at h2
   rw[hl]at h2
   cases he:cp[i-ps.length]? with
   | none=>rw[he]at h2;cases h2
   | some e=>
    rw[he]at h1' h2
    cases h1'
    cases h2
    have hm:=DH he
    obtain⟨a1,a2,u,hu,rv⟩:=hcp.at_ e hm
    have hf:=(C.fr _ _ a1).1
    obtain⟨c,b1,b2⟩:=hfr e.n hf
    rw[a1]at b1
    cases b1
    exact⟨u,rv,.inr ⟨.inr hf,e.c,b2,e.o,hk _ _ (obj e hm),hu⟩⟩
 ·have h':(cellsFrom (s.heap.objs.size+1) scope.names cl).lookup y=some c:=h
  rcases iJ scope.names (s.heap.objs.size+1) [] cl h' with h2 | h2
  ·obtain⟨e,he,_,rfl⟩:=hcp.all y c h2
   obtain⟨_,_,u,hu,_⟩:=hcp.at_ e he
   exact⟨some u,e.o,hk _ _ (obj e he),hu⟩
  ·exact⟨_,x.cell y c h2⟩
 ·have h':(cellsFrom (s.heap.objs.size+1) scope.names cl).lookup y=some c:=h
  rcases fM _ _ _ h' with h2 | ⟨h2,_⟩
  ·exact cinC y c h2
  ·exact nn c (e0.hok.fresh (Nat.le_of_succ_le h2))
 ·show(vs.map some++cp.map fun e=>some e.v).length=(ps++cp.map (·.n)).length
  simp[hl]
def fQ(f c:Addr)(q:Str)(params:Arguments)(body:Expr)(scope:Scope)(cl:List (Str×Addr))(cp:List Cap)(H:Hp):Prop:=H f=some (eh f c q params body scope cl)/\H c=some (eP c q)/\Caps H cl cp
theorem fQ.ext{H H':Hp}(e:Ext H H'){f c:Addr}{q:Str}{params:Arguments}{body:Expr}{scope:Scope}{cl:List (Str×Addr)}{cp:List Cap}(h:fQ f c q params body scope cl cp H):fQ f c q params body scope cl cp H':=⟨e _ _ h.1,e _ _ h.2.1,h.2.2.ext e⟩
theorem CG{P:Program}{w:World}{K:Du}{mg:Str->Option Value}{base:Heap}{k:Nat}{f c:Addr}{q:Str}{params:Arguments}{body:Expr}{scope:Scope}{cl cells:List (Str×Addr)}{cp:List Cap}{ps:List Str}{R:List V->Hp->VK->Prop}(I:Hp->Prop)
  (S:LamSc ps scope) (C:ClOk scope cells cl) (bind:∀(pm cv ctv:Value) (us:List Value),us.length=ps.length->bindArgs (PySem.W.kla_fn "<lambda>" q params body scope cl pm cv ctv) ⟨us,[]⟩=pure (ps.zip us))
  (hR:∀vs H Q,R vs H Q->vs.length=ps.length)
  (hbody:∀(A:Around) (outer:List Env) (s:Shared) (H:Hp) (vs:List V) (Q:VK),Room k (A.deeper (dZ q scope s.heap.objs.size f (.ref c) cl))->fQ f c q params body scope cl cp H->I H->R vs H Q →
   ∃te,PE (iF P w K mg base (ps++cp.map (·.n)) q scope f (.ref c) cl A outer s (aY (cellsOf cp) H)) body te/\te (vs.map some++cp.map fun e=>some e.v) (aY (cellsOf cp) H) fun v H'=>(∀b o,(cellsOf cp).lookup b=some o->H' b=none)->Q v (bF (cellsOf cp) H')) :
  FunR P w K mg base (k+1) f (fun H=>fQ f c q params body scope cl cp H/\I H) R:=by
 refine⟨fun H h hok hp=>?_,fun A outer s H us vs Q hr e0 hp r hq=>?_⟩
 ·obtain⟨⟨pm,ctv,gf⟩,_⟩:=hok f _ hp.1.1
  exact⟨_,_,_,_,gf⟩
 ·obtain⟨⟨hf,hc,hcp⟩,hI⟩:=id hp
  obtain⟨⟨pm,ctv,gf⟩,_⟩:=e0.hok f _ hf
  obtain⟨gc,_⟩:=e0.hok c _ hc
  have lim:s.heap.NoLimit:=e0.mod.nolimit.keeps fun b o e=>(e0.bs b o e).1
  have hl:=hR vs H Q hq
  refine PySem.W.kla_callFunE hr.depth gf rfl S.co S.gen rfl gc ?_
  rw[bind _ _ _ us (by rw[←r.length];exact hl)]
  refine Dt ?_
  refine CY (q:=q) (f:=f) (cd:=.ref c) S.kind C.one (fun x c h=>(C.fr x c h).1) (fun z hz=>?_) fun s1 z=>?_
  ·exact S.par z.1 (List.of_mem_zip hz).1
  refine⟨lim.keeps z.keep,PySem.W.kla_codeExpr ?_⟩
  have J:=Cw S C hcp hr.hd e0 hl r z
  obtain⟨te,ht,hq'⟩:=hbody A outer s H vs Q (hr.deeper _) hp.1 hI hq
  refine wpAny_mono (ht [] s1 _ _ _ J hq') (fun u s' ⟨v,H',J',rv,q'⟩=>?_) fun e s' hs=>hs.elim
  have obj:∀b o,(cellsOf cp).lookup b=some o->s.heap.get? b=some o:=fun b o e=>(e0.hok _ _ (hcp.look b o e)).1
  have nfs:∀b o,(cellsOf cp).lookup b=some o->b∉cK outer:=fun b o e hb=>by
   have:=e0.frf b hb
   rw[hcp.look b o e]at this
   cases this
  have un:Un (cK outer) [] (aY (cellsOf cp) H) H' s.heap s'.heap:=J'.base
  exact⟨v,bF (cellsOf cp) H',J'.os,J'.bare,yb un hcp.look,tL J'.hok (fun b o e=>un.keep b o (obj b o e) (fW e) (nfs b o e) (by simp)) (fun b o e=>un.free b o (obj b o e) (fW e) (by simp)),rv,q' fun b o e=>un.free b o (obj b o e) (fW e) (by simp)⟩
end L2
namespace L2
open PySem PySem.Spec PyProof.Rows
section
variable {X:Cx}
def yJ:V->List V->Hp->VK->Prop:=fun x vs H Q=>∃(n:Nat) (p:Addr) (xs:List V) (a:V) (d:PyData) (ds:List PyData) (j:Nat),x=.ref p/\vs=[a]/\aU H n a d/\H p=some (.lst xs)/\Paired (aU H n) xs ds/\n<=50/\(∃e,ds[j]?=some e/\PyData.eqv e d=true)/\(∀m e,m<j->ds[m]?=some e->PyData.eqv e d=false)/\j<2 ^ 32/\Q (.int (j:Int)) H
theorem Cb{k:Nat}{A0:Around}(hr:Room k A0)(hA:X.A=A0:=by rfl):iA X "list.index" yJ:=by
 subst hA
 intro pins s σ H x xs v us Q I rx rv h
 obtain⟨n,p,ys,a,d,ds,j,rfl,rfl,h1,h2,h3,hn,⟨e,hj,he⟩,hno,hjs,q⟩:=h
 cases rx
 obtain⟨u,rfl,ru⟩:=rv.one
 have h4:aU H (n+1) (.ref p) (.list ds):=.inr ⟨p,ys,ds,rfl,.inr ⟨h2,rfl⟩,h3⟩
 obtain⟨as,ra⟩:=aU.reads I n h1 ru
 obtain⟨bs,rb⟩:=aU.reads I (n+1) h4 rfl
 have l1:=aU.lay n h1
 have l2:=i6 (fun{x d}=>aU.lay (H:=H) n) h3
 have hu:=hr.units
 have hm:min (PyData.depthAll ds) d.depth<=50:=Eb (Nat.min_le_right _ _) (Eb l1.2 hn)
 obtain⟨_,its,nn,rvv,gt⟩:=I.hok p _ h2
 cases rb with
 | list g1 g2 g3 g4=>
  rw[gt]at g1
  cases g1
  cases g3
  have mp:=SeqAt.readsAll_map ds _ _ l2.1 g4
  have hlen:its.length=ds.length:=by rw[←mp,Dy]
  have hjl:j<ds.length:=(DG.mp hj).1
  have hsz:j<its.toArray.size:=by rw[DD];omega
  have hat:∀m (hm:m<its.toArray.size),ds[m]?=some (SeqAt.readOf s.heap its.toArray[m]):=fun m hm=>by
   have hm':m<its.length:=by simpa using hm
   rw[←mp,DA]
   simp[hm']
  refine call_meets PySem.F.slot_list_index ⟨_,gt,rfl⟩ PySem.F.entry_list_index (PySem.F.args_list_index_2 _ _) (SeqAt.list_indexAt p its.toArray nn none #[] u (fun y=>PyData.eqv (SeqAt.readOf s.heap y) d) j hsz (by omega) ?_ ?_)
   ⟨gt,SeqAt.items_eqAt g4 ra l2.1 l1.1 (by omega),?_⟩
  ·have:=hat j hsz
   rw[hj]at this
   cases this
   exact he
  ·intro m hm hmj
   exact hno m _ hmj (hat m hm)
  ·exact⟨.int _,H,I.tok _,⟨_,rfl⟩,q⟩
end
end L2
namespace L2
open PySem PySem.Spec PyProof.Rows
theorem AQ{P:Program}{w:World}{A:Around}(hA:A.handled=none)(it t:Addr)(ne:t≠it)(ys:Array Value):Draws P w A it [it,t] ys.size (fun i v=>ys[i]?=some v) (fun i h=>h.IsListIter it t i/\h.IsList t ys) where
 live:=fun i h st=>by
  obtain⟨⟨o,ho,_⟩,_⟩:=st
  exact⟨o,ho⟩
 frame:=fun i h h' st k=>by
  obtain⟨⟨o,ho,r⟩,⟨u,hu,q⟩⟩:=st
  exact⟨⟨o,k it (by simp) o ho,r⟩,⟨u,k t (by simp) u hu,q⟩⟩
 item:=fun i s Q E hi st hQ=>wpAny_nextOf_list_item st.1 st.2 (x:=ys[i]) (by simp[hi]) fun h' gi sb=>hQ _ h' s.toks (by simp[hi]) ⟨gi,by
  obtain⟨u,hu,q⟩:=st.2
  exact⟨u,(sb.2 t ne).trans hu,q⟩⟩ sb
 done:=fun s Q E st hE=>wpAny_nextOf_list_end hA st.1 st.2 (by simp) hE
abbrev jG(h:Heap)(a:Addr):Heap:=h.push { cls:=.type "list_iterator",data:=.fields #[.ref a,.int 0 0] }
abbrev kY(h:Heap)(a:Addr):Heap:=(jG h a).push { cls:=.type "enumerate",data:=.fields #[.none,.bool false,.ref h.objs.size,rawInt 0,.none,.none] }
open AutoSeq1 (wpAny_loadPart')in
theorem zO(a:Addr)(ys:Array Value)(ob:Obj):Meets (Builtin.«enumerate.__new__» ⟨[.type "enumerate",.ref a],[]⟩) (fun _ R s=>s.heap.get? a=some ob/\s.heap.IsList a ys/\R (.ok (.ret (.ref (jG s.heap a).objs.size))) { s with heap:=kY s.heap a }):=
 .of_wp fun prog w A R s q=>by
  obtain⟨hp,g,d,tk,os⟩:=s
  obtain⟨ga,gt,q⟩:=q
  have hsub:=sub_enumerate
  obtain⟨o,go,gc,n,gd⟩:=id gt
  obtain⟨c0,d0,dt,sl⟩:=o
  simp only at gc gd
  subst gc gd
  have gT:Heap.IsList (Shared.heap ⟨hp,g,d,tk,os⟩) a ys:=gt
  wp_walk using wpAny_loadPart' go
  refine wpAny_stack_any fun st=>Dt ?_
  split
  ·rename_i c _ _ _ _ _
   cases(c == Value.type "enumerate")<;>(wp_walk using wpAny_loadPart' go,wpAny_pyIter_list gT;exact⟨_,rfl,q⟩)
  ·wp_walk using wpAny_loadPart' go,wpAny_pyIter_list gT
   exact⟨_,rfl,q⟩
theorem AK{prog:Program}{w:World}{A:Around}{E:Value->Shared->Prop}{s:Shared}{a:Addr}{ys:Array Value}{Q:Value->Shared->Prop}(gt:s.heap.IsList a ys)
  (q:∀h',IsEnum h' (s.heap.objs.size+1) s.heap.objs.size 0 .none->h'.IsListIter s.heap.objs.size a 0->(∀c o,s.heap.get? c=some o->h'.get? c=some o)->Q (.ref (s.heap.objs.size+1)) { s with heap:=h' }) :
  wpAny (model prog w) A (call (.type "enumerate") [.ref a]) Q E s:=by
 obtain⟨o,go,r⟩:=id gt
 refine callType_new F.called_enumerate (by decide) (F.typeCall_enumerate_1 _) (F.newCall_enumerate_1 _) (fun ob=>F.args_object_init_2 ob _) F.entry_enumerate_new (zO a ys o) ⟨go,gt,?_⟩
 have n1:(jG s.heap a).objs.size=s.heap.objs.size+1:=Heap.size_push ..
 have k2:(kY s.heap a).get? (jG s.heap a).objs.size=some _:=Dw _ rfl
 have k1:(kY s.heap a).get? s.heap.objs.size=some _:=Dv _ (Dw _ rfl)
 show _/\_
 rw[n1]at k2 ⊢
 exact⟨⟨_,k2,rfl⟩,q _ k2 ⟨_,k1,rfl,rfl⟩ fun c o x=>Dv _ (Dv _ x)⟩
def kq(K:Du)(a:Addr):It:=⟨(cZ K a).go,fun i H x H'=>∃p v,x=.ref p/\H p=none/\H'=upd H p (.tup [.int i,v])/\(cZ K a).yld i H v H,(cZ K a).stop⟩
theorem BJ{P:Program}{w:World}{K:Du}{elts:List Expr}{kk:Nat}{ps:Pos}(a e it:Addr)(ne:e≠it):Turn P w K (.Tuple elts kk ps) (kq K a) [e,it] e (fun i h=>(∃old,IsEnum h e it i old)/\h.IsListIter it a i) where
 mem:=by simp
 obj:=fun i h st b hb=>by
  obtain⟨⟨old,ge⟩,o,go,gc,gd⟩:=st
  rcases DM.mp hb with rfl | hb
  ·exact⟨_,ge,fun v z=>by cases(show Data.fields _=Data.cell v from z)⟩
  ·cases DI.mp hb
   exact⟨o,go,fun v z=>by rw[gd]at z;cases z⟩
 keep:=fun i h h' st k=>by
  obtain⟨⟨old,ge⟩,gi⟩:=st
  exact⟨⟨old,k e (by simp) _ ge⟩,gi.at fun o z=>k it (by simp) o z⟩
 item:=by
  intro X hP hw hK hc i pins s σ H E I hf st hg
  subst hP hw hK
  obtain⟨⟨old,ge⟩,gi⟩:=st
  obtain⟨xs,x,hq,hx⟩:=hg
  obtain⟨its,rv,p,hz⟩:=I.list hq
  obtain⟨u,hu,ru⟩:=rv.get hx
  have hi:i<its.toArray.size:=by
   have:=(DG.mp hu).1
   simpa using this
  have hA:X.A.in1.handled=none:=I.ok.hd hc
  have hta:a≠it:=fun z=>by
   obtain⟨o,ho,hcl,_⟩:=p.isList
   obtain⟨o',ho',hcl',_⟩:=gi
   rw[z,ho']at ho
   cases ho
   rw[hcl]at hcl'
   exact absurd (Value.type.inj hcl') (by decide)
  have hea:e∉[it,a]:=fun z=>by
   rcases DM.mp z with z | z
   ·exact ne z
   ·cases DI.mp z
    obtain⟨o,ho,hcl,_⟩:=p.isList
    rw[ge]at ho
    cases ho
    exact absurd (Value.type.inj hcl) (by decide)
  refine wpAny_pyNext_enum_itemD (AQ hA it a hta its.toArray) ge ⟨gi,show s.heap.IsList a its.toArray from p.isList⟩ hi ne hea fun y h' tk hy geo gs gT gz gk=>⟨_,rfl,?_⟩
  have ey:y=u:=by
   have:its[i]?=some y:=by simpa using hy
   rw[hu]at this
   exact(Option.some.inj this).symm
  subst ey
  have lt:∀b∈[e,it],b≠s.heap.objs.size:=fun b hb=>by
   rcases DM.mp hb with rfl | hb
   ·exact DQ (Dx ge)
   ·cases DI.mp hb
    obtain⟨o,ho,_⟩:=gi
    exact DQ (Dx ho)
  have I1:Inv X pins σ (upd H s.heap.objs.size (.tup [.int i,x])) { s with heap:=h',toks:=tk+1 }:=
   Inv.turnedNew (L:=[e,it]) I (fun b o hb z=>gk b o (fun q=>hb (by simp[q])) (fun q=>hb (by simp[q])) z) hf ⟨by show 2<=sizeLine;decide,[.int i tk,y],.cons ⟨tk,rfl⟩ (.cons ru .nil),⟨_,gT,rfl,_,rfl⟩⟩
  have fe:bT X pins (upd H s.heap.objs.size (.tup [.int i,x])) e:=by
   obtain⟨c0,c1,c2,c3,c4,c5⟩:=hf e (by simp)
   exact⟨by rw[aB (lt e (by simp))];exact c0,c1,c2,c3,c4,c5⟩
  refine wpAny_letOwnedTupleGo_enum (s:={ s with heap:=h',toks:=tk+1 }) geo fun k gk' bk=>?_
  refine⟨.ref s.heap.objs.size,upd H s.heap.objs.size (.tup [.int i,x]),Inv.same (s:={ s with heap:=h',toks:=tk+1 }) (k:=h') I1 fe bk.extBut,rfl,⟨_,x,rfl,I.hok.fresh (DR _),rfl,rfl,fun zs hzs=>by rw[I.list_inj hzs hq];exact hx⟩,⟨⟨y,by simpa using gk'⟩,gs.1.at fun o z=>bk.extBut it o (Ne.symm ne) z⟩,fun b hb=>?_⟩
  rw[aB (lt b hb)]
  exact(hf b hb).1
 done:=by
  intro X hP hw hK hc i pins s σ H E I hf st hg
  subst hP hw hK
  obtain⟨⟨old,ge⟩,gi⟩:=st
  obtain⟨xs,hq,hx⟩:=hg
  obtain⟨its,rv,p,hz⟩:=I.list hq
  have hA:X.A.in1.handled=none:=I.ok.hd hc
  have gT:s.TypeIs (.ref e) "enumerate":=⟨_,ge,rfl⟩
  have hl:=rv.length
  unfold pyNext
  refine Dr (wpAny_attempt (wpAny_callSpecial?_slot (name:=Str.ofString "__next__") gT F.slot_enumerate_next (wpAny_call_entry F.slot_enumerate_next gT F.entry_enumerate_next ?_ (F.args_enumerate_next_1 _))))
  show wpAny _ _ (field (Value.ref e) 2 >>= _) _ _ _
  refine Dr (wpAny_field ge rfl (x:=Value.ref it) rfl ?_)
  refine Dr (wpAny_nextOf_list_end hA gi (show s.heap.IsList a its.toArray from p.isList) (by simp;omega) fun h' x he hx'=>?_)
  obtain⟨o,ho,hc'⟩:=hx'
  refine Dr (wpAny_isInstance (s:={ s with heap:=h' }) (T:="StopIteration") (b:=true) ⟨o,ho,hc'⟩ isSubtype_stop ?_)
  exact Dt ⟨rfl,Inv.same (k:=s.heap) I (hf it (by simp)) he⟩
 self:=fun _ _ _ _ _ st h=>by
  obtain⟨⟨old,ge⟩,_⟩:=st
  exact wpAny_pyIter_enum ge h
section
variable {K:Du} {σ:St} {H:Hp} {Q:VK}
def nJ(K:Du):List V->Hp->(It->Hp->Prop)->Prop:=fun vs H R=>∃a xs,vs=[.ref a]/\ag K H a xs/\R (kq K a) H
def rY(K:Du)(ta:TA):TI:=fun σ H R=>ta σ H fun vs H1=>nJ K vs H1 R
theorem yn{X:Cx}{elts:List Expr}{kk:Nat}{ps:Pos}(K:Du){a:Expr}{ta:TA}{p pos:Pos}(hg:Gl X "enumerate")(hm:X.mg "enumerate" = none)(ha:PA X [a] ta)(hK:X.K=K:=by rfl)(hs:starEach [a] X.env=[(false,eval a X.env)]:=by rfl):
  PI X (.Tuple elts kk ps) (.Call (.Name "enumerate" p) [a] [] pos) (rY K ta):=by
 subst hK
 intro pins s σ H R I h
 refine Call_ (fX I hg hm PyProof.Rows.boot_enumerate (PyProof.Rows.callWith_type1 (av (ha pos pins s σ H _ I h) fun us s1 ⟨vs,H1,I1,r1,q1⟩=>?_) (by rw[hs];rfl) rfl))
 obtain⟨l,xs,e,hq,q⟩:=q1
 subst e
 obtain⟨u,rfl,rx⟩:=vals1 r1
 cases rx
 obtain⟨its,_,p1,_⟩:=I1.list hq
 refine AK (show s1.heap.IsList l its.toArray from p1.isList) fun h' ge gi k=>?_
 refine wpAny_pyIter_enum (s:={ s1 with heap:=h' }) ge ?_
 refine⟨s1.heap.objs.size+1,[s1.heap.objs.size+1,s1.heap.objs.size],_,_,H1,rfl,I1.kept (t':=s1.toks) k,BJ l (s1.heap.objs.size+1) s1.heap.objs.size (fun z=>by have z':@Eq Nat _ _:=z;omega),⟨⟨_,ge⟩,gi⟩,fun b hb=>?_,q⟩
 have le:@LE.le Nat _ s1.heap.objs.size b:=by
  rcases DM.mp hb with rfl | hb
  ·exact Nat.le_add_right _ _
  ·cases DI.mp hb
   exact DR _
 exact I1.fpOk le (I1.hok.fresh le)
theorem xc{a:TA}{R:It->Hp->Prop}(h:a σ H fun vs H1=>nJ K vs H1 R):rY K a σ H R:=h
theorem A7{a:Addr}{xs:List V}{R:It->Hp->Prop}(ha:ag K H a xs)(h:R (kq K a) H):nJ K [.ref a] H R:=⟨a,xs,rfl,ha,h⟩
theorem zK{a:Addr}{xs:List V}{n:Nat}{js:List Nat}{g:TG}{tc:TT}{te:TE}(Pv:Nat->List V->Hp->Prop)(hz:xs.length<=sizeLine)(h0:Pv 0 [] H)(hl:∀i zs H,Pv i zs H->ag K H a xs/\zs.length<=i)
  (hs:∀i u zs H p H',xs[i]?=some u->Pv i zs H->Ext H H'->H' p=some (.tup [.int i,u])->H p=none->g (.ref p) (cW n js σ) H' fun σ2 H3=>tc σ2 H3 fun b H4=>if b=true then te σ2 H4 fun v H5=>Pv (i+1) (zs++[v]) H5 else Pv (i+1) zs H4)
  (hd:∀zs H p,Pv xs.length zs H->H p=none->Q (.ref p) (upd H p (.lst zs))):fP (kq K a) n js g tc te σ H Q:=by
 refine⟨fun i m zs H=>m=xs.length-i/\i<=xs.length/\Pv i zs H,⟨xs.length,by simp,Nat.zero_le _,h0⟩,?_⟩
 rintro i m zs H ⟨rfl,hi,p⟩
 obtain⟨qa,ql⟩:=hl i zs H p
 by_cases hlt:i<xs.length
 ·refine .inr ⟨⟨xs,xs[i],qa,by simp[hlt]⟩,by omega,Pv (i+1),fun zs' H' p'=>⟨xs.length-(i+1),by omega,rfl,hlt,p'⟩,fun x H' y=>?_⟩
  obtain⟨pp,u,rfl,hn,rfl,yu⟩:=y
  exact hs i u zs H pp _ (yu.2 xs qa) p (aZ hn) aH hn
 ·have e:i=xs.length:=by omega
  exact .inl ⟨⟨xs,qa,by omega⟩,fun p' hp=>hd zs H p' (e ▸ p) hp⟩
end
end L2
namespace L2
open PySem PySem.Spec PyProof.Rows
section
variable {X:Cx}
end
end L2
namespace L2.Og.Tb
open PySem
def nx(m i:Nat):Nat:=(i*5+1) % (m+1)
def it(m:Nat):Nat->Nat->Nat
 | 0,i=>i
 | n+1,i=>it m n (nx m i)
theorem jP(m:Nat):∀a b i,it m (a+b) i=it m b (it m a i)
 | 0,b,i=>by rw[Nat.zero_add];rfl
 | a+1,b,i=>by rw[Nat.succ_add];exact jP m a b (nx m i)
def nS(m:Nat):Nat->Nat->List Nat
 | 0,_=>[]
 | n+1,i=>i::nS m n (nx m i)
theorem qJ{m:Nat}:∀{n i j:Nat},j∈nS m n i->∃k,k<n/\it m k i=j
 | 0,_,_,h=>by cases h
 | n+1,i,j,h=>by
  rcases DM.mp h with rfl | h
  ·exact⟨0,Nat.succ_pos _,rfl⟩
  ·obtain⟨k,hk,e⟩:=qJ h
   exact⟨k+1,Nat.succ_lt_succ hk,e⟩
def good(m:Nat):Bool:=(List.range (m+1)).all (fun j=>(nS m (m+1) 0).contains j) && it m (m+1) 0 == 0
theorem AB:good 7=true:=by decide +kernel
theorem yf:good 31=true:=by decide +kernel
theorem zZ:good 127=true:=by decide +kernel
theorem xK:good 511=true:=by decide +kernel
def Mask(m:Nat):Prop:=m=7\/m=31\/m=127\/m=511
theorem Mask.good{m:Nat}(h:Mask m):good m=true:=by
 rcases h with rfl | rfl | rfl | rfl
 ·exact AB
 ·exact yf
 ·exact zZ
 ·exact xK
theorem uB{m:Nat}(h:Mask m){j:Nat}(hj:j<=m):∃k,k<=m/\it m k 0=j:=by
 have:=h.good
 unfold Tb.good at this
 rw[Eg,Ed]at this
 have h1:=this.1 j (List.mem_range.mpr (by omega))
 rw[List.contains_iff_mem]at h1
 obtain⟨k,hk,e⟩:=qJ h1
 exact⟨k,by omega,e⟩
theorem round0{m:Nat}(h:Mask m):it m (m+1) 0=0:=by
 have:=h.good
 unfold Tb.good at this
 rw[Eg]at this
 exact eq_of_beq this.2
theorem reach{m:Nat}(h:Mask m){i j:Nat}(hi:i<=m)(hj:j<=m):∃k,k<=m/\it m k i=j:=by
 obtain⟨a,ha,ea⟩:=uB h hi
 obtain⟨b,hb,eb⟩:=uB h hj
 rcases Nat.lt_or_ge b a with hlt | hge
 ·refine⟨m+1-a+b,by omega,?_⟩
  rw[←ea,←jP,show a+(m+1-a+b)=(m+1)+b by omega,jP,round0 h]
  exact eb
 ·refine⟨b-a,by omega,?_⟩
  rw[←ea,←jP,show a+(b-a)=b by omega]
  exact eb
def lp(m:Nat):Nat->Nat×Nat->Nat×Nat
 | 0,s=>s
 | n+1,s=>lp m n (SetTable.leap m s.1 s.2)
theorem oA(m:Nat):∀n s,lp m (n+1) s=SetTable.leap m (lp m n s).1 (lp m n s).2
 | 0,s=>rfl
 | n+1,s=>by
  show lp m (n+1) (SetTable.leap m s.1 s.2)=_
  rw[oA m n]
  rfl
theorem tY(m:Nat):∀n s,(lp m n s).2=s.2 / 32 ^ n
 | 0,s=>by simp[lp]
 | n+1,s=>by
  rw[oA m n s]
  show(lp m n s).2 / 32=_
  rw[tY m n s,Nat.div_div_eq_div_mul,Nat.pow_succ]
theorem uZ(m:Nat):∀n s,s.1<=m->(lp m n s).1<=m
 | 0,s,h=>h
 | n+1,s,h=>by
  rw[oA m n s]
  show(_ % (m+1))<=m
  have:=Nat.mod_lt ((lp m n s).1*5+1+(lp m n s).2 / 32) (show 0<m+1 by omega)
  omega
theorem uG(m:Nat):∀n i,(lp m n (i,0)).1=it m n i
 | 0,i=>rfl
 | n+1,i=>by
  show(lp m n (SetTable.leap m i 0)).1=it m n (nx m i)
  have:SetTable.leap m i 0=(nx m i,0):=rfl
  rw[this]
  exact uG m n _
theorem uP(m:Nat):∀a b s,lp m (a+b) s=lp m b (lp m a s)
 | 0,b,s=>by rw[Nat.zero_add];rfl
 | a+1,b,s=>by rw[Nat.succ_add];exact uP m a b _
theorem pE{m:Nat}(h:Mask m){i p j:Nat}(hi:i<=m)(hp:p<2 ^ 64)(hj:j<=m):∃n,n<=m+13/\(lp m n (i,p)).1=j:=by
 have hz:(lp m 13 (i,p)).2=0:=by
  rw[tY]
  exact Nat.div_eq_of_lt (Ea hp (by decide))
 obtain⟨k,hk,e⟩:=reach h (uZ m 13 (i,p) hi) hj
 refine⟨13+k,by omega,?_⟩
 rw[uP]
 have:lp m 13 (i,p)=((lp m 13 (i,p)).1,0):=by rw[←hz]
 rw[this,uG]
 exact e
theorem wz(h:Int):SetTable.bits h<2 ^ 64:=by
 unfold SetTable.bits
 have h1:=Int.emod_lt_of_pos h (show(0:Int)<2 ^ 64 by decide)
 have h2:=Int.emod_nonneg h (show(2:Int) ^ 64≠0 by decide)
 omega
def cx(t:SetTable):Nat->SetTable.Probe->SetTable.Probe
 | 0,p=>p
 | n+1,p=>cx t n (t.advance p)
theorem mR(t:SetTable):∀a b p,cx t (a+b) p=cx t b (cx t a p)
 | 0,b,p=>by rw[Nat.zero_add];rfl
 | a+1,b,p=>by rw[Nat.succ_add];exact mR t a b _
def at_(t:SetTable)(s:Nat×Nat):SetTable.Probe:={ j:=s.1,more:=SetTable.runEnd t.mask s.1-s.1,i:=s.1,perturb:=s.2,dummy:=none }
theorem uo(t:SetTable):∀(r:Nat) (p:SetTable.Probe),p.more=r->cx t (r+1) p={ p with j:=(SetTable.leap t.mask p.i p.perturb).1,more:=SetTable.runEnd t.mask (SetTable.leap t.mask p.i p.perturb).1-(SetTable.leap t.mask p.i p.perturb).1,i:=(SetTable.leap t.mask p.i p.perturb).1,perturb:=(SetTable.leap t.mask p.i p.perturb).2 }
 | 0,p,h=>by
  show t.advance p=_
  unfold SetTable.advance
  rw[if_neg (by omega)]
 | r+1,p,h=>by
  show cx t (r+1) (t.advance p)=_
  have e:t.advance p={ p with j:=p.j+1,more:=p.more-1 }:=by
   unfold SetTable.advance
   rw[if_pos (by omega)]
  rw[e,uo t r _ (by show p.more-1=r;omega)]
theorem AW(t:SetTable)(s:Nat×Nat):∃k,k<=10/\cx t k (at_ t s)=at_ t (SetTable.leap t.mask s.1 s.2):=by
 refine⟨SetTable.runEnd t.mask s.1-s.1+1,?_,?_⟩
 ·unfold SetTable.runEnd
  split<;>omega
 ·exact(uo t (SetTable.runEnd t.mask s.1-s.1) (at_ t s) rfl).trans rfl
theorem sN(t:SetTable):∀(n:Nat) (s:Nat×Nat),∃k,k<=10*n/\cx t k (at_ t s)=at_ t (lp t.mask n s)
 | 0,s=>⟨0,DR _,rfl⟩
 | n+1,s=>by
  obtain⟨k1,h1,e1⟩:=AW t s
  obtain⟨k2,h2,e2⟩:=sN t n (SetTable.leap t.mask s.1 s.2)
  refine⟨k1+k2,by omega,?_⟩
  rw[mR,e1,e2]
  rfl
theorem Aw(t:SetTable)(h:Int):t.probeStart h=at_ t (SetTable.bits h % (t.mask+1),SetTable.bits h):=rfl
theorem zW{t:SetTable}(hm:Mask t.mask){j:Nat}(hj:j<=t.mask)(h:Int):∃K,K<10*SetTable.turns t.mask/\(cx t K (t.probeStart h)).j=j:=by
 have h1:SetTable.bits h % (t.mask+1)<=t.mask:=by
  have:=Nat.mod_lt (SetTable.bits h) (show 0<t.mask+1 by omega)
  omega
 obtain⟨n,hn,e⟩:=pE hm h1 (wz h) hj
 obtain⟨K,hK,eK⟩:=sN t n (SetTable.bits h % (t.mask+1),SetTable.bits h)
 refine⟨K,by unfold SetTable.turns;omega,?_⟩
 rw[Aw,eK]
 exact e
theorem pV{t:SetTable}{j i:Nat}(h:t.slot j=.live i):t.place[i]?=some j:=by
 unfold SetTable.slot at h
 dsimp only at h
 split at h
 ·rename_i hq
  cases h
  exact eq_of_beq hq
 ·split at h<;>cases h
theorem pJ(j:Nat):SetTable.has #[] j=false:=rfl
theorem vb{t:SetTable}(hd:t.dummies = #[])(j:Nat):t.slot j=.empty\/∃i,t.slot j=.live i:=by
 unfold SetTable.slot
 dsimp only
 split
 ·exact .inr ⟨_,rfl⟩
 ·rw[hd,pJ]
  exact .inl rfl
theorem tZ:∀(n:Nat) (l:List Nat),(∀j,j<n->j∈l)->n<=l.length
 | 0,l,_=>Nat.zero_le _
 | n+1,l,h=>by
  have hn:=h n (Nat.lt_succ_self n)
  have:=tZ n (l.erase n) fun j hj=>(List.mem_erase_of_ne (by omega)).mpr (h j (by omega))
  rw[List.length_erase_of_mem hn]at this
  have:0<l.length:=List.length_pos_of_mem hn
  omega
theorem Be{t:SetTable}(hd:t.dummies = #[])(h:t.place.size<=t.mask):∃j,j<=t.mask/\t.slot j=.empty:=by
 rcases Classical.em (∃j,j<=t.mask/\t.slot j=.empty)with h1 | h1
 ·exact h1
 ·exfalso
  have:=tZ (t.mask+1) t.place.toList fun j hj=>by
   rcases vb hd j with h2 | ⟨i,h2⟩
   ·exact absurd ⟨j,by omega,h2⟩ h1
   ·have:=pV h2
    rw[←Array.getElem?_toList]at this
    exact DH this
  rw[DC]at this
  omega
theorem lb(t:SetTable):∀n p,(cx t n p).dummy=p.dummy
 | 0,p=>rfl
 | n+1,p=>by
  show(cx t n (t.advance p)).dummy=_
  rw[lb t n]
  unfold SetTable.advance
  split<;>rfl
theorem Cp{t:SetTable}(hd:t.dummies = #[])(hash:Nat->Int)(h:Int):∀(K fuel:Nat) (p:SetTable.Probe),K<fuel->p.dummy=none->t.slot (cx t K p).j=.empty →
  (∃j,SetTable.probe.go t hash h fuel p=some (.empty j none))\/∃k j i,k<K/\SetTable.probe.go t hash h fuel p=some (.candidate j i (cx t (k+1) p))/\t.slot j=.live i:=by
 intro K
 induction K with
 | zero=>
  intro fuel p hf hp hs
  obtain⟨f,rfl⟩:∃f,fuel=f+1:=⟨fuel-1,by omega⟩
  refine .inl ⟨p.j,?_⟩
  have hs':t.slot p.j=.empty:=hs
  unfold SetTable.probe.go
  rw[hs']
  dsimp only
  rw[hp]
 | succ K ih=>
  intro fuel p hf hp hs
  obtain⟨f,rfl⟩:∃f,fuel=f+1:=⟨fuel-1,by omega⟩
  unfold SetTable.probe.go
  rcases vb hd p.j with h1 | ⟨i,h1⟩
  ·rw[h1]
   dsimp only
   rw[hp]
   exact .inl ⟨p.j,rfl⟩
  ·rw[h1]
   dsimp only
   by_cases hq:(hash i == h)=true
   ·rw[if_pos hq]
    exact .inr ⟨0,p.j,i,Nat.succ_pos _,rfl,h1⟩
   ·rw[if_neg hq]
    have hp':(t.advance p).dummy=none:=by
     have:=lb t 1 p
     rw[hp]at this
     exact this
    rcases ih f (t.advance p) (by omega) hp' hs with⟨j,e⟩ | ⟨k,j,i',hk,e,hl⟩
    ·exact .inl ⟨j,e⟩
    ·exact .inr ⟨k+1,j,i',by omega,e,hl⟩
theorem qK{α:Type}:∀{l:List (Option α)} {j:Nat} {k:α},l[j]?=some none->((l.set j (some k)).filterMap id).Perm (k::l.filterMap id)
 | [],j,k,h=>by cases h
 | x::l,0,k,h=>by
  have:x=none:=by simpa using h
  subst this
  exact .refl _
 | x::l,j+1,k,h=>by
  have h':l[j]?=some none:=by simpa using h
  have ih:=qK (k:=k) h'
  cases x with
  | none=>exact ih
  | some y=>exact(List.Perm.cons y ih).trans (.swap _ _ _)
theorem xo{α:Type}(l:List (Option α)):(l.filterMap id).length+(l.filter (·.isNone)).length=l.length:=by
 induction l with
 | nil=>rfl
 | cons x l ih=>
  cases x<;>simp at ih ⊢<;>omega
theorem yh{m:Nat}(hm:Mask m)(owner:Array (Option Nat))(hz:owner.size=m+1){j:Nat}(hj:owner[j]?=some none):∀(fuel n i p:Nat),i<=m->n<fuel->(lp m n (i,p)).1=j →
  ∃j',SetTable.layClean.free m owner fuel i p=some j'/\owner[j']?=some none:=by
 intro fuel
 induction fuel with
 | zero=>intro n i p _ h;omega
 | succ fuel ih=>
  intro n i p hi hn he
  unfold SetTable.layClean.free
  split
  ·rename_i k hk
   have h1:=List.find?_some hk
   have h2:=List.mem_range.mp (List.mem_of_find?_eq_some hk)
   refine⟨i+k,rfl,?_⟩
   have hb:i+k<owner.size:=by
    rw[hz]
    unfold SetTable.runEnd at h2
    split at h2<;>omega
   rw[Array.getElem?_eq_getElem hb]
   have:owner.getD (i+k) (some 0)=owner[i+k]:=by
    rw[Array.getD_eq_getD_getElem?,Array.getElem?_eq_getElem hb]
    rfl
   rw[this]at h1
   congr 1
   cases hq:owner[i+k]with
   | none=>rfl
   | some y=>rw[hq]at h1;cases h1
  ·rename_i hk
   cases n with
   | zero=>
    exfalso
    have h0:i=j:=he
    have:=List.find?_eq_none.mp hk 0 (List.mem_range.mpr (by unfold SetTable.runEnd;split<;>omega))
    rw[Nat.add_zero,h0,Array.getD_eq_getD_getElem?,hj]at this
    simp at this
   | succ n=>
    have:=uZ m 1 (i,p) hi
    exact ih n (SetTable.leap m i p).1 (SetTable.leap m i p).2 this (by omega) he
def kc(mask:Nat)(acc:Option (Array (Option Nat)×Nat))(h:Int):Option (Array (Option Nat)×Nat):=do
 let (owner,k) ←acc
 let j ←SetTable.layClean.free mask owner (SetTable.turns mask) (SetTable.bits h % (mask+1)) (SetTable.bits h)
 pure (owner.setIfInBounds j (some k),k+1)
theorem yq{l:List (Option Nat)}(h:(l.filterMap id).length<l.length):∃j:Nat,l[j]?=some none:=by
 have:=xo l
 have h1:0<(l.filter (·.isNone)).length:=by omega
 obtain⟨x,hx⟩:=List.exists_mem_of_length_pos h1
 obtain⟨hx1,hx2⟩:=List.mem_filter.mp hx
 have:x=none:=by cases x<;>simp_all
 subst this
 obtain⟨j,hj⟩:=List.getElem?_of_mem hx1
 exact⟨j,hj⟩
theorem uk{m:Nat}(hm:Mask m):∀(hs:List Int) (owner:Array (Option Nat)) (k:Nat),owner.size=m+1->(owner.toList.filterMap id).Perm (List.range k)->k+hs.length<=m →
  ∃owner',hs.foldl (kc m) (some (owner,k))=some (owner',k+hs.length)/\owner'.size=m+1/\(owner'.toList.filterMap id).Perm (List.range (k+hs.length))
 | [],owner,k,h1,h2,h3=>⟨owner,rfl,h1,h2⟩
 | h::hs,owner,k,h1,h2,h3=>by
  rw[DY]at h3 ⊢
  have hlt:(owner.toList.filterMap id).length<owner.toList.length:=by
   rw[h2.length_eq,List.length_range,DC,h1]
   omega
  obtain⟨j,hj⟩:=yq hlt
  rw[Array.getElem?_toList]at hj
  have hjm:j<=m:=by
   have:=(Array.getElem?_eq_some_iff.mp hj).1
   omega
  have hi:SetTable.bits h % (m+1)<=m:=by
   have:=Nat.mod_lt (SetTable.bits h) (show 0<m+1 by omega)
   omega
  obtain⟨n,hn,en⟩:=pE hm hi (wz h) hjm
  obtain⟨j',e',hj'⟩:=yh hm owner h1 hj (SetTable.turns m) n _ _ hi (by unfold SetTable.turns;omega) en
  have step:kc m (some (owner,k)) h=some (owner.setIfInBounds j' (some k),k+1):=by
   unfold kc
   simp[e']
  rw[List.foldl_cons,step]
  have hp:((owner.setIfInBounds j' (some k)).toList.filterMap id).Perm (List.range (k+1)):=by
   rw[Array.toList_setIfInBounds]
   rw[←Array.getElem?_toList]at hj'
   refine(qK hj').trans ?_
   rw[List.range_succ]
   exact(List.Perm.cons k h2).trans (List.perm_append_comm (l₁:=[k]) (l₂:=List.range k))
  obtain⟨o',f1,f2,f3⟩:=uk hm hs (owner.setIfInBounds j' (some k)) (k+1) (by simpa using h1) hp (by omega)
  exact⟨o',by rw[f1];congr 2;omega,f2,by rw[show k+(hs.length+1)=k+1+hs.length by omega];exact f3⟩
theorem zm(t:SetTable){hashes:Array Int}{wanted m:Nat}(hm:Mask m)(hw:SetTable.sizeAbove wanted-1=m)(hn:hashes.size<=m):
  ∃t' order,t.relaid hashes wanted=some (t',order)/\t'.place.size=hashes.size/\t'.dummies = #[]/\t'.mask=m/\order.toList.Perm (List.range hashes.size):=by
 obtain⟨o',f1,f2,f3⟩:=uk hm hashes.toList (Array.replicate (m+1) none) 0 (by simp) (by simp) (by rw[DC];omega)
 rw[DC,Nat.zero_add]at f1 f3
 have hlay:SetTable.layClean m hashes=some o':=by
  show(hashes.foldl (kc m) (some (Array.replicate (m+1) none,0))).map (·.1)=some o'
  rw[←Array.foldl_toList,f1]
  rfl
 have hsnd:((List.range (m+1)).filterMap fun j=>(o'.getD j none).map (j,·)).map (·.2)=o'.toList.filterMap id:=by
  rw[List.map_filterMap]
  have:o'.toList=(List.range (m+1)).map fun j=>o'.getD j none:=by
   apply List.ext_getElem
   ·rw[DC,Dy,List.length_range,f2]
   ·intro i h1 h2
    rw[DC]at h1
    simp[h1]
  rw[this,List.filterMap_map]
  congr 1
  funext j
  show((o'.getD j none).map (j,·)).map (·.2)=o'.getD j none
  cases o'.getD j none<;>rfl
 have hrel:t.relaid hashes wanted=some (({ mask:=m,place:=(((List.range (m+1)).filterMap fun j=>(o'.getD j none).map (j,·)).map (·.1)).toArray,dummies:=#[],finger:=t.finger,led:=t.led,moves:=t.movedTo m,plain:=t.plain }:SetTable),(((List.range (m+1)).filterMap fun j=>(o'.getD j none).map (j,·)).map (·.2)).toArray):=by
  unfold SetTable.relaid
  rw[hw]
  unfold SetTable.laid
  rw[hlay]
  rfl
 refine⟨_,_,hrel,?_,rfl,rfl,?_⟩
 ·show(((List.range (m+1)).filterMap fun j=>(o'.getD j none).map (j,·)).map (·.1)).toArray.size=_
  rw[DD,Dy]
  have:=congrArg List.length hsnd
  rw[Dy,f3.length_eq,List.length_range]at this
  exact this
 ·show(((List.range (m+1)).filterMap fun j=>(o'.getD j none).map (j,·)).map (·.2)).toArray.toList.Perm _
  rw[List.toList_toArray,hsnd]
  exact f3
theorem lH{α:Type}(xs:Array α)(p:Nat)(x:α):(SetTable.insertAt xs p x).size=xs.size+1:=by
 unfold SetTable.insertAt
 simp
 omega
theorem zT{α:Type}{xs:Array α}{p:Nat}{x e:α}(h:e∈(SetTable.insertAt xs p x).toList):e=x\/e∈xs.toList:=by
 unfold SetTable.insertAt at h
 simp only[Array.toList_append,Array.toList_push,Array.toList_extract,DU,DI]at h
 rcases h with(h | h) | h
 ·exact .inr (List.mem_of_mem_take (by simpa using h))
 ·exact .inl h
 ·exact .inr (List.mem_of_mem_drop (List.mem_of_mem_take h))
theorem zc:SetTable.sizeAbove 20-1=31:=by decide +kernel
theorem Ae:SetTable.sizeAbove 76-1=127:=by decide +kernel
theorem BN:SetTable.sizeAbove 308-1=511:=by decide +kernel
end L2.Og.Tb
namespace L2.Og
open PySem PySem.Spec PyProof.Rows
section
variable {P:Program} {w:World} {A:Around} {E:Value->Shared->Prop} {s:Shared} {K:Type} [DecidableEq K] {knd:KeyKind P w K}
theorem uF{ks:List K}{vs:List Value}(h:ItemsAre knd ks vs):∀v∈vs,∀b,v≠.ref b:=fun v hv b e=>by
 have:=h.byValue v hv
 subst e
 cases this
theorem xu(n:Nat){v:Value}(h:∀b,v≠.ref b):ofAClassStatement n v=pure false:=by
 cases v with
 | ref b=>exact absurd rfl (h b)
 | _=>unfold ofAClassStatement;rfl
theorem sS{ks:List K}{b:Addr}{Q:Bool->Shared->Prop}(hk:IsTupleKey knd s.heap ks b)(h:Q false s):wpAny (model P w) A (ofAClassStatement 8 (.ref b)) Q E s:=by
 have hT:=hk.typeIs
 obtain⟨o,items,n,ho,hc,hd,hi⟩:=hk
 unfold ofAClassStatement
 refine Dr (wpAny_typeOf hT ?_)
 dsimp only
 refine Dr (Dt ?_)
 simp only[Bool.not_true,Bool.false_eq_true,if_false]
 refine Dr (wpAny_seqItems ho hd ?_)
 dsimp only
 refine Dr ?_
 rw[←Array.forIn_toList]
 refine wpAny_forIn_list _ (fun rest r s'=>r.1=none/\s'=s/\∀v∈rest,∀b,v≠.ref b) _ ?_ ?_ _ _ ⟨rfl,rfl,uF hi⟩
 ·rintro v rest r s' ⟨hr,rfl,hall⟩
  rw[xu _ (hall v DE)]
  refine Dr (Dt ?_)
  simp only[Bool.false_eq_true,if_false]
  exact Dt ⟨rfl,rfl,fun u hu=>hall u (DB _ hu)⟩
 ·rintro⟨r1,r2⟩ s' ⟨hr,rfl,_⟩
  simp only at hr
  subst hr
  exact Dt h
theorem Cg{ks:List K}{b:Addr}{l:List Value}{Q:Bool->Shared->Prop}(hk:IsTupleKey knd s.heap ks b)(hl:∀y∈l,∃b' k',y=.ref b'/\IsTupleKey knd s.heap k' b')(h:Q false s):wpAny (model P w) A (searchCouldBeSeen (.ref b) l) Q E s:=by
 unfold searchCouldBeSeen
 refine Dr ?_
 refine wpAny_forIn_list _ (fun rest r s'=>r.1=none/\s'=s/\∀y∈rest,∃b' k',y=.ref b'/\IsTupleKey knd s.heap k' b') _ ?_ ?_ _ _ ⟨rfl,rfl,hl⟩
 ·rintro v rest r s' ⟨hr,rfl,hall⟩
  obtain⟨b',k',rfl,hk'⟩:=hall v DE
  have next:∀y∈rest,∃b' k',y=.ref b'/\IsTupleKey knd s'.heap k' b':=fun y hy=>hall y (DB _ hy)
  dsimp only
  split
  ·exact Dt ⟨rfl,rfl,next⟩
  ·refine Dr (wpAny_eqIsQuiet_tuple hk ?_)
   simp only[Bool.not_true,Bool.false_eq_true,if_false]
   refine Dr (wpAny_eqIsQuiet_tuple hk' ?_)
   simp only[Bool.not_true,Bool.false_eq_true,if_false]
   refine Dr (sS hk ?_)
   simp only[Bool.false_eq_true,if_false]
   refine Dr (sS hk' ?_)
   simp only[Bool.false_eq_true,if_false]
   exact Dt ⟨rfl,rfl,next⟩
 ·rintro⟨r1,r2⟩ s' ⟨hr,rfl,_⟩
  simp only at hr
  subst hr
  exact Dt h
theorem Bu{a b:Addr}{k:List K}{h:Int}{o:Obj}{es:Array (Int×Value)}{ep:Nat}{t:SetTable}(hu:A.units<cLine)(hk:IsTupleKey knd s.heap k b)(ho:s.heap.get? a=some o)(hd:o.data=.set es ep t)(hf:t.fits es.size=true)(hm:Tb.Mask t.mask)(hdm:t.dummies = #[])
  (hall:∀e∈es.toList,∃b' k',e.2=.ref b'/\IsTupleKey knd s.heap k' b'/\k'≠k) {Q:SetFound->Shared->Prop} (hQ:∀j,Q (.free j false) s) :
  ∀(K fuel:Nat) (stand:Option SetTable.Probe),K<fuel->K<10*SetTable.turns t.mask->(stand.getD (t.probeStart h)).dummy=none->t.slot (Tb.cx t K (stand.getD (t.probeStart h))).j=.empty →
   wpAny (model P w) A (setSearchFrom a (.ref b) h true fuel stand) Q E s:=by
 intro K
 induction K using Nat.strongRecOn with
 | ind K ih=>
  intro fuel stand hfu hK hdu hs
  obtain⟨f,rfl⟩:∃f,fuel=f+1:=⟨fuel-1,by omega⟩
  unfold setSearchFrom
  refine Dr (wpAny_setState_of ho hd hf ?_)
  dsimp only
  have hg:t.gaveWay=false:=by
   unfold SetTable.gaveWay
   rcases hm with e | e | e | e<;>rw[e]<;>rfl
  have hsz:t.place.size=es.size:=by
   simp only[SetTable.fits,Eg,beq_iff_eq]at hf
   exact hf.1
  have hsm:t.sameMemory t.moves t.mask=some true:=by
   unfold SetTable.sameMemory
   rw[if_pos (beq_self_eq_true _)]
  rw[hg]
  simp only[Bool.false_eq_true,if_false]
  generalize hr:t.probe _ h (stand.getD (t.probeStart h))=r
  obtain⟨g,hr⟩:∃g,SetTable.probe.go t g h (10*SetTable.turns t.mask) (stand.getD (t.probeStart h))=r:=⟨_,hr⟩
  rcases Tb.Cp hdm g h K _ _ hK hdu hs with⟨j,e⟩ | ⟨k',j,i,hk',e,hl⟩
  ·rw[e]at hr
   subst hr
   exact Dt (hQ j)
  ·rw[e]at hr
   subst hr
   have hpl:=Tb.pV hl
   have hi:i<es.size:=by
    rw[←hsz]
    exact(Array.getElem?_eq_some_iff.mp hpl).1
   have hmem:es[i]∈es.toList:=by simp
   obtain⟨b',k2,hy,hk2,hne⟩:=hall _ hmem
   have hes:es[i]?=some (es[i].1,.ref b'):=by
    rw[Array.getElem?_eq_getElem hi,←hy]
   have hst:∀y∈((es.filter fun x=>x.1 == h).toList.map fun x=>x.2),∃b' k',y=Value.ref b'/\IsTupleKey knd s.heap k' b':=fun y hy=>by
    obtain⟨e0,he0,rfl⟩:=List.mem_map.mp hy
    have he1:e0∈es.toList:=by
     have:=Array.mem_toList_iff.mp he0
     exact Array.mem_toList_iff.mpr (Array.mem_filter.mp this).1
    obtain⟨b3,k3,h1,h2,_⟩:=hall e0 he1
    exact⟨b3,k3,h1,h2⟩
   have again:wpAny (model P w) A (setSearchFrom a (.ref b) h true f (some (Tb.cx t (k'+1) (stand.getD (t.probeStart h))))) Q E s:=by
    refine ih (K-(k'+1)) (by omega) f _ (by omega) (by omega) ?_ ?_
    ·show(Tb.cx t (k'+1) _).dummy=none
     rw[Tb.lb]
     exact hdu
    ·show t.slot (Tb.cx t (K-(k'+1)) (Tb.cx t (k'+1) _)).j=_
     rw[←Tb.mR,show k'+1+(K-(k'+1))=K by omega]
     exact hs
   have same:isSame (Value.ref b') (Value.ref b')=pure true:=by
    unfold isSame
    simp
   dsimp only
   cases hled:t.led
   ·simp only[Bool.not_false,if_true]
    refine Dr (Cg hk hst ?_)
    simp only[Bool.false_eq_true,if_false]
    rw[hes]
    dsimp only
    refine Dr (wpAny_holding (wpAny_eqBool_tuple hu hk2 hk ?_))
    rw[decide_eq_false hne]
    refine Dr (wpAny_setState_of ho hd hf ?_)
    dsimp only
    simp only[Bool.and_false,Bool.false_eq_true,if_false,hsm,if_true,hl,hes,same]
    exact Dr (Dt (Dr (Dt again)))
   ·simp only[Bool.not_true,Bool.false_eq_true,if_false]
    rw[hes]
    dsimp only
    refine Dr (wpAny_holding (wpAny_eqBool_tuple hu hk2 hk ?_))
    rw[decide_eq_false hne]
    refine Dr (wpAny_setState_of ho hd hf ?_)
    dsimp only
    simp only[Bool.and_false,Bool.false_eq_true,if_false,hsm,if_true,hl,hes,same]
    exact Dr (Dt (Dr (Dt again)))
def eB(knd:KeyKind P w K)(h:Heap)(a:Addr)(ks:List (List K)):Prop:=
 ∃o es ep t,h.get? a=some o/\o.ExactSet/\o.data=.set es ep t/\t.place.size=es.size/\t.dummies = #[]/\Tb.Mask t.mask/\es.size*5<t.mask*3/\es.size=ks.length/\∀e∈es.toList,∃b k,e.2=.ref b/\k∈ks/\IsTupleKey knd h k b
theorem mW{h h':Heap}{a b:Addr}{k:List K}{o:Obj}{es:Array (Int×Value)}{ep:Nat}{t:SetTable}(hk:IsTupleKey knd h k b)(ho:h.get? a=some o)(hd:o.data=.set es ep t)(hs:Heap.SameBut a h h'):IsTupleKey knd h' k b:=by
 obtain⟨o',items,n,ho',hc,hd',hi⟩:=hk
 have hne:b≠a:=by
  rintro rfl
  rw[ho]at ho'
  cases ho'
  rw[hd]at hd'
  cases hd'
 exact⟨o',items,n,(hs.2 b hne).trans ho',hc,hd',hi⟩
theorem Dc(n:Nat){v:Value}(h:∀b,v≠.ref b):∃c,hashByValue n v=pure c:=by
 cases v with
 | ref b=>exact absurd rfl (h b)
 | _=>exact⟨_,by cases n<;>unfold hashByValue<;>rfl⟩
theorem ye{ks:List K}{b:Addr}{Q:Bool->Shared->Prop}(hk:IsTupleKey knd s.heap ks b)(h:∀c,Q c s):wpAny (model P w) A (hashByValue 8 (.ref b)) Q E s:=by
 have hT:=hk.typeIs
 obtain⟨o,items,n,ho,hc,hd,hi⟩:=hk
 unfold hashByValue
 refine Dr (wpAny_specialOf hT F.slot_tuple_hash.lookup ?_)
 dsimp only
 refine Dr (wpAny_seqItems ho hd ?_)
 dsimp only[Option.getD_some]
 refine Dr ?_
 rw[←Array.forIn_toList]
 refine wpAny_forIn_list _ (fun rest r s'=>(r.1=none\/∃c,r.1=some c)/\s'=s/\∀v∈rest,∀b,v≠.ref b) _ ?_ ?_ _ _ ⟨.inl rfl,rfl,uF hi⟩
 ·rintro v rest r s' ⟨hr,rfl,hall⟩
  obtain⟨c,hc'⟩:=Dc 7 (hall v DE)
  rw[hc']
  refine Dr (Dt ?_)
  cases c
  ·show wpAny _ _ (pure (ForInStep.done (some false,()))) _ _ _
   exact Dt (Dt (h false))
  ·simp only[Bool.not_true,Bool.false_eq_true,if_false]
   exact Dt ⟨.inl rfl,rfl,fun u hu=>hall u (DB _ hu)⟩
 ·rintro⟨r1,r2⟩ s' ⟨hr,rfl,_⟩
  simp only at hr
  rcases hr with rfl | ⟨c,rfl⟩
  ·exact Dt (h true)
  ·exact Dt (h c)
theorem yI{α:Type}{es:Array α}{order:Array Nat}(h:order.toList.Perm (List.range es.size)):(order.filterMap (es[·]?)).size=es.size/\∀e∈(order.filterMap (es[·]?)).toList,e∈es.toList:=by
 have key:∀l:List Nat,(∀i∈l,i<es.size)->(l.filterMap (es[·]?)).length=l.length/\∀e∈l.filterMap (es[·]?),e∈es.toList:=by
  intro l
  induction l with
  | nil=>intro _;exact⟨rfl,fun e he=>by cases he⟩
  | cons x l ih=>
   intro hl
   obtain⟨i1,i2⟩:=ih fun i hi=>hl i (DB _ hi)
   have hx:=hl x DE
   have e:(x::l).filterMap (es[·]?)=es[x]::l.filterMap (es[·]?):=by
    rw[List.filterMap_cons]
    simp[hx]
   rw[e]
   refine⟨by rw[DY,DY,i1],fun y hy=>?_⟩
   rcases DM.mp hy with rfl | hy
   ·simp
   ·exact i2 y hy
 have hlt:∀i∈order.toList,i<es.size:=fun i hi=>List.mem_range.mp (h.mem_iff.mp hi)
 obtain⟨k1,k2⟩:=key order.toList hlt
 rw[Array.toList_filterMap]
 refine⟨?_,k2⟩
 rw[←DC,Array.toList_filterMap,k1,h.length_eq,List.length_range]
theorem Ay{a:Addr}{o:Obj}{es es1:Array (Int×Value)}{ep n:Nat}{t t1:SetTable}{ks1:List (List K)}{Q:Bool->Shared->Prop}(ho:s.heap.get? a=some o)(hex:o.ExactSet)(hd:o.data=.set es ep t)(hs1:es1.size=n+1)(hp1:t1.place.size=es1.size)(hdm1:t1.dummies = #[])
  (hm1:Tb.Mask t1.mask) (hfull:n*5<t1.mask*3) (hn:n<200) (hlen:ks1.length=n+1) (hall1:∀e∈es1.toList,∃b k,e.2=.ref b/\k∈ks1/\IsTupleKey knd s.heap k b)
  (h:∀h',Heap.SameBut a s.heap h'->eB knd h' a ks1->Q true { s with heap:=h' }) :
  wpAny (model P w) A (do
   storeSet a es1 t1
   if(!false && t1.tooFull)=true then do
    setRelay a (SetTable.grown (n+1))
    pure true
   else pure true) Q E s:=by
 have hline:n+1<=sizeLine:=Eb (show n+1<=1000 by omega) (by decide)
 refine Dr (wpAny_storeSet_of ho hd ?_ (by omega))
 have ho1:(s.heap.update a (Obj.putSet es1 t1)).get? a=some { o with data:=.set es1 (ep+1) t1 }:=by
  have:=Heap.get?_update_self (Obj.putSet es1 t1) ho (by rw[putSet_of es1 t1 hd];rfl)
  rw[putSet_of es1 t1 hd]at this
  exact this
 have hsb1:=Heap.SameBut.update s.heap a (Obj.putSet es1 t1)
 generalize s.heap.update a (Obj.putSet es1 t1)=h1 at ho1 hsb1
 have hall2:∀e∈es1.toList,∃b k,e.2=.ref b/\k∈ks1/\IsTupleKey knd h1 k b:=fun e he=>by
  obtain⟨b,k,z1,z2,z3⟩:=hall1 e he
  exact⟨b,k,z1,z2,mW z3 ho hd hsb1⟩
 have hfill:t1.fill=n+1:=by
  unfold SetTable.fill
  rw[hdm1,hp1,hs1]
  rfl
 by_cases hq:t1.tooFull=true
 ·rw[hq]
  simp only[Bool.not_false,Bool.and_self,if_true]
  have hq':t1.mask*3<=(n+1)*5:=by
   unfold SetTable.tooFull at hq
   rw[hfill]at hq
   simpa using hq
  obtain⟨m,hm,hw,hmn,hlt⟩:∃m,Tb.Mask m/\SetTable.sizeAbove (SetTable.grown (n+1))-1=m/\n+1<=m/\(n+1)*5<m*3/\SetTable.sizeAbove (SetTable.grown (n+1))<=sizeLine:=by
   have hg:SetTable.grown (n+1)=(n+1)*4:=by
    unfold SetTable.grown
    rw[if_neg (by omega)]
   rw[hg]
   rcases hm1 with e | e | e | e<;>rw[e]at hfull hq'
   ·obtain rfl:n=4:=by omega
    exact⟨31,.inr (.inl rfl),Tb.zc,by omega,by omega,by decide +kernel⟩
   ·obtain rfl:n=18:=by omega
    exact⟨127,.inr (.inr (.inl rfl)),Tb.Ae,by omega,by omega,by decide +kernel⟩
   ·obtain rfl:n=76:=by omega
    exact⟨511,.inr (.inr (.inr rfl)),Tb.BN,by omega,by omega,by decide +kernel⟩
   ·omega
  have hfit1:t1.fits es1.size=true:=by
   simp only[SetTable.fits,Eg,beq_iff_eq,decide_eq_true_eq]
   refine⟨hp1,?_⟩
   rw[hfill]
   rcases hm1 with e | e | e | e<;>omega
  obtain⟨t2,order,hrel,hp2,hd2,hm2,hperm⟩:=Tb.zm t1 (hashes:=es1.map (·.1)) hm hw (by rw[Array.size_map];omega)
  rw[Array.size_map]at hp2 hperm
  obtain⟨r1,r2⟩:=yI hperm
  refine Dr ?_
  unfold setRelay
  refine Dr (wpAny_setState_of (s:={ s with heap:=h1 }) ho1 rfl hfit1 ?_)
  dsimp only
  rw[if_neg (Nat.not_lt.mpr hlt.2),hrel]
  refine Dr ?_
  show wpAny _ _ (do
   if(order.filterMap (es1[·]?)).size != es1.size then unsupported "internal:set-table-lost-an-element"
   pure (order.filterMap (es1[·]?),t2)) _ _ _
  rw[r1]
  simp only[bne_self_eq_false,Bool.false_eq_true,if_false]
  refine Dt ?_
  dsimp only
  refine wpAny_storeSet_of (s:={ s with heap:=h1 }) ho1 rfl ?_ (by rw[r1];omega)
  have ho2:(h1.update a (Obj.putSet (order.filterMap (es1[·]?)) t2)).get? a=some { o with data:=.set (order.filterMap (es1[·]?)) (ep+1+1) t2 }:=by
   have:=Heap.get?_update_self (Obj.putSet (order.filterMap (es1[·]?)) t2) ho1 (by rw[putSet_of _ _ (o:={ o with data:=.set es1 (ep+1) t1 }) rfl];rfl)
   rw[putSet_of _ _ (o:={ o with data:=.set es1 (ep+1) t1 }) rfl]at this
   exact this
  have hsb2:=Heap.SameBut.update h1 a (Obj.putSet (order.filterMap (es1[·]?)) t2)
  refine Dt (h _ (hsb1.trans hsb2) ⟨_,_,_,t2,ho2,hex,rfl,by rw[r1];exact hp2,hd2,by rw[hm2];exact hm,by rw[r1,hm2,hs1];exact hlt.1,by rw[r1,hs1,hlen],fun e he=>?_⟩)
  obtain⟨b,k,z1,z2,z3⟩:=hall2 e (r2 e he)
  exact⟨b,k,z1,z2,mW z3 ho1 rfl hsb2⟩
 ·have hq0:t1.tooFull=false:=by simpa using hq
  rw[hq0]
  simp only[Bool.and_false,Bool.false_eq_true,if_false]
  have hq':(n+1)*5<t1.mask*3:=by
   unfold SetTable.tooFull at hq0
   rw[hfill]at hq0
   simpa using hq0
  exact Dt (h h1 hsb1 ⟨_,es1,_,t1,ho1,hex,rfl,hp1,hdm1,hm1,by rw[hs1];exact hq',by rw[hs1,hlen],hall2⟩)
theorem xV{a b:Addr}{k:List K}{ks:List (List K)}{hsh:Int}{Q:Bool->Shared->Prop}(hu:A.units<cLine)(hk:IsTupleKey knd s.heap k b)(hS:eB knd s.heap a ks)(hnew:k∉ks)(hsz:ks.length<200)
  (h:∀h',Heap.SameBut a s.heap h'->eB knd h' a (k::ks)->Q true { s with heap:=h' }):wpAny (model P w) A (setAddHashed a (.ref b) hsh) Q E s:=by
 obtain⟨o,es,ep,t,ho,hex,hd,hp,hdm,hm,hfull,hlen,hall⟩:=hS
 have hle:es.size<=t.mask:=by omega
 have hf:t.fits es.size=true:=by
  simp only[SetTable.fits,Eg,beq_iff_eq,decide_eq_true_eq]
  refine⟨hp,?_⟩
  unfold SetTable.fill
  rw[hdm,hp]
  simpa using hle
 obtain⟨j0,hj0,hs0⟩:=Tb.Be hdm (by rw[hp];exact hle)
 obtain⟨N,hN,eN⟩:=Tb.zW hm hj0 hsh
 have hall':∀e∈es.toList,∃b' k',e.2=.ref b'/\IsTupleKey knd s.heap k' b'/\k'≠k:=fun e he=>by
  obtain⟨b',k',h1,h2,h3⟩:=hall e he
  exact⟨b',k',h1,h3,fun z=>hnew (z ▸ h2)⟩
 unfold setAddHashed setAddHashedIn
 refine wpAny_holding (Dr (wpAny_setState_of ho hd hf ?_))
 dsimp only
 have hsc:byScan (.ref b) es=false:=rfl
 rw[hsc]
 simp only[Bool.false_eq_true,if_false]
 unfold setSearch
 have hturn:10*SetTable.turns t.mask<100000:=by
  unfold SetTable.turns
  rcases hm with e | e | e | e<;>rw[e]<;>decide
 refine Dr (Bu hu hk ho hd hf hm hdm hall' (fun j=>?_) N 100000 none (by omega) hN rfl (by show t.slot (Tb.cx t N (t.probeStart hsh)).j=_;rw[eN];exact hs0))
 dsimp only
 refine Dr (wpAny_setState_of ho hd hf ?_)
 dsimp only
 have hput:(t.put j).1.place.size=es.size+1/\(t.put j).1.dummies = #[]/\(t.put j).1.mask=t.mask:=by
  refine⟨?_,?_,rfl⟩
  ·show(SetTable.insertAt t.place (SetTable.below t.place j) j).size=_
   rw[Tb.lH,hp]
  ·show(if SetTable.has t.dummies j=true then _ else t.dummies) = #[]
   rw[hdm,Tb.pJ]
   rfl
 have hins:∀e∈(SetTable.insertAt es (t.put j).2 (hsh,Value.ref b)).toList,∃b' k',e.2=.ref b'/\k'∈k::ks/\IsTupleKey knd s.heap k' b':=fun e he=>by
  rcases Tb.zT he with rfl | he
  ·exact⟨b,k,rfl,DE,hk⟩
  ·obtain⟨b',k',z1,z2,z3⟩:=hall e he
   exact⟨b',k',z1,DB _ z2,z3⟩
 have fin:∀c:Bool,wpAny (model P w) A (do
   storeSet a (SetTable.insertAt es (t.put j).2 (hsh,Value.ref b)) (if c=true then(t.put j).1 else{ (t.put j).1 with plain:=false })
   if(!false && (if c=true then(t.put j).1 else{ (t.put j).1 with plain:=false }).tooFull)=true then do
    setRelay a (SetTable.grown (es.size+1))
    pure true
   else pure true) Q E s:=fun c=>by
  refine Ay (ks1:=k::ks) ho hex hd (Tb.lH _ _ _) ?_ ?_ ?_ ?_ (by omega) (by rw[DY,hlen]) hins h
  ·rw[Tb.lH]
   cases c<;>exact hput.1
  ·cases c<;>exact hput.2.1
  ·cases c<;>exact hm
  ·cases c<;>exact hfull
 cases hpl:(t.put j).1.plain
 ·simp only[Bool.false_eq_true,if_false]
  exact Dr (Dt (fin true))
 ·simp only[if_true]
  exact Dr (ye hk fin)
end
section
variable {P:Program} {w:World} {A:Around} {K:Type} [DecidableEq K] {knd:KeyKind P w K} {I:Addr} {fp wr:List Addr} {G:Array GenState->Array GenState->Prop} {n:Nat} {Pz:Nat->Value->Prop} {St:Nat->Shared->Prop}
theorem eB.moved{h h':Heap}{a:Addr}{ks:List (List K)}{wr:List Addr}(hS:eB knd h a ks)(hk:∀b o,b∉wr->h.get? b=some o->h'.get? b=some o)(ha:a∉wr)(hw:∀b∈wr,∀o,h.get? b=some o->∃vs,o.data=.fields vs):eB knd h' a ks:=by
 obtain⟨o,es,ep,t,ho,hex,hd,h1,h2,h3,h4,h5,hall⟩:=hS
 refine⟨o,es,ep,t,hk a o ha ho,hex,hd,h1,h2,h3,h4,h5,fun e he=>?_⟩
 obtain⟨b,k,z1,z2,o',items,m,ho',hc,hd',hi⟩:=hall e he
 refine⟨b,k,z1,z2,o',items,m,hk b o' (fun hb=>?_) ho',hc,hd',hi⟩
 obtain⟨vs,hv⟩:=hw b hb o' ho'
 rw[hd']at hv
 cases hv
theorem zC(W:WalksS P w A.in1 I fp wr G n Pz St)(S:Addr)(hS:S∉fp)(hu:A.in1.units<cLine)(bs:List Addr)(kk:List (List K))(hnk:kk.length=n)(hnd:kk.Nodup)(hsz:n<200)
  (hval:∀i v,Pz i v->∃b,v=.ref b/\bs[i]?=some b) (hwr:∀i s,St i s->∀b∈wr,∀o,s.heap.get? b=some o->∃vs,o.data=.fields vs) {R:Result->Shared->Prop} :
  ∀(m i:Nat) (s:Shared),n-i=m->i<=n->St i s->eB knd s.heap S (kk.take i).reverse->(∀(j:Nat) (b:Addr) (k:List K),bs[j]?=some b->kk[j]?=some k->IsTupleKey knd s.heap k b) →
   (∀s',Moved (S::wr) G s s'->eB knd s'.heap S kk.reverse->R (.ok (.ret .none)) s') →
   codeAny (model P w) A (.builtin "set.update.loop" ⟨[.ref S,.ref I],[]⟩) R s:=by
 have hSw:S∉wr:=fun z=>hS (W.sub _ z)
 have more:∀b∈wr,b∈S::wr:=fun b z=>DB _ z
 intro m
 induction m with
 | zero=>
  intro i s hm hi hst hset hkeys hR
  obtain rfl:i=n:=by omega
  refine codeAny_builtin F.entry_set_update_loop ?_
  rw[Around.under_plainId F.plain_set_update_loop _]
  show wpAny _ A.in1 (pyNext (.ref I) >>= _) _ _ s
  refine Dr (W.done s _ _ hst fun s' mv=>?_)
  rw[←hnk,DZ]at hset
  exact Dt (hR s' (mv.mono more) (hset.moved mv.heap hSw (hwr _ s hst)))
 | succ m ih=>
  intro i s hm hi hst hset hkeys hR
  have hlt:i<n:=by omega
  refine codeAny_builtin F.entry_set_update_loop ?_
  rw[Around.under_plainId F.plain_set_update_loop _]
  show wpAny _ A.in1 (pyNext (.ref I) >>= _) _ _ s
  refine Dr (W.item i s _ _ hlt hst fun v s' hP hst' mv=>?_)
  obtain⟨b,rfl,hb⟩:=hval i v hP
  have hki:kk[i]?=some kk[i]:=Dz (by omega)
  have hset':=hset.moved mv.heap hSw (hwr _ s hst)
  have hkeys':∀(j:Nat) (b:Addr) (k:List K),bs[j]?=some b->kk[j]?=some k->IsTupleKey knd s'.heap k b:=fun j b k e1 e2=>by
   obtain⟨o',items,q,ho',hc,hd',hi'⟩:=hkeys j b k e1 e2
   refine⟨o',items,q,mv.heap b o' (fun hbw=>?_) ho',hc,hd',hi'⟩
   obtain⟨vs,hv⟩:=hwr _ s hst b hbw o' ho'
   rw[hd']at hv
   cases hv
  show wpAny _ A.in1 (holding [Value.ref b] (setAdd S (.ref b)) >>= _) _ _ s'
  refine Dr (wpAny_holding ?_)
  unfold setAdd
  refine wpAny_holding (Dr (wpAny_pyHash_tuple hu (hkeys' i b _ hb hki) ?_))
  have hnew:kk[i]∉(kk.take i).reverse:=by
   rw[List.mem_reverse]
   intro z
   obtain⟨q,hq,e⟩:=List.mem_iff_getElem.mp z
   rw[List.length_take]at hq
   rw[List.getElem_take]at e
   have:=(List.getElem_inj hnd).mp e
   omega
  have htk:(kk.take (i+1)).reverse=kk[i]::(kk.take i).reverse:=by
   rw[List.take_add_one,hki,List.reverse_append]
   rfl
  refine xV (s:={ s' with toks:=s'.toks+(kk[i].length+1) }) hu (hkeys' i b _ hb hki) hset' hnew (by rw[List.length_reverse,List.length_take];omega) fun h' sb hset2=>?_
  obtain⟨oS,esS,epS,tS,hoS,_,hdS,_⟩:=id hset'
  refine Dt ⟨plainId_quiet F.plain_set_update_loop _,ih (i+1) _ (by omega) hlt (W.frame _ s' _ _ hst' (Nat.le_add_right _ _) fun c hc o e=>?_) (by rw[htk];exact hset2) (fun j c k e1 e2=>mW (hkeys' j c k e1 e2) hoS hdS sb) fun s'' mv2 hS2=>?_⟩
  ·rw[sb.2 c (fun z:c=S=>hS (z ▸ hc))]
   exact e
  ·refine hR s'' (Moved.trans W.gtrans ((mv.mono more).then_heap (Nat.le_add_right _ _) fun c o hc e=>?_) mv2) hS2
   rw[sb.2 c (fun z:c=S=>hc (by rw[z];exact DE))]
   exact e
end
end L2.Og
namespace L2.Og
open PySem PySem.Spec PyProof.Rows
section
variable {P:Program} {w:World} {A:Around} {E:Value->Shared->Prop} {s:Shared} {K:Type} [DecidableEq K] {knd:KeyKind P w K}
abbrev cb(led:Bool):Obj:={ cls:=.type "set",dict:=none,data:=.set #[] 0 (.fresh 0 0 led) }
def vO(knd:KeyKind P w K)(s:Shared)(kk:List (List K))(h':Heap):Prop:=
 eB knd h' s.heap.objs.size kk.reverse/\∀b o,b<s.heap.objs.size->s.heap.get? b=some o->h'.get? b=some o
theorem Al:isSubtype (.type "tuple") (.type "frozenset")=pure false:=by
 rw[isSubtype_type]
 kernel_rfl
theorem A2{t:Addr}{ys:Array Value}{bs:List Addr}{kk:List (List K)}{Q:Value->Shared->Prop}(hA:A.handled=none)(hu:A.units+5<cLine)(gt:s.heap.IsTuple t ys)(hb:ys.toList=bs.map Value.ref)
  (hn:kk.length=ys.size) (hnd:kk.Nodup) (hz:ys.size<200) (hkey:∀(j:Nat) (b:Addr) (k:List K),bs[j]?=some b->kk[j]?=some k->IsTupleKey knd s.heap k b)
  (h:∀(h':Heap) (tk:Nat),vO knd s kk h'->Q (.ref s.heap.objs.size) { s with heap:=h',toks:=tk }):wpAny (model P w) A (call (.type "set") [.ref t]) Q E s:=by
 have x1:=F.called_set.notType
 have x2:=F.called_set.canCreate
 have x3:=F.typeCall_set_1 (.ref t)
 have x4:=F.called_set.made
 have x5:=F.called_set.sub
 obtain⟨c,tl,x6⟩:=F.called_set.mro
 refine wpAny_call (codeAny_of_tree ?_)
 show wpAny _ _ (callAny (.type "set") _) _ _ _
 refine Dt ⟨Code.quiet_builtin _ (by decide +kernel),codeAny_builtin F.entry_type_call ?_⟩
 rw[Around.under_plain (weight_type_call_type "set" [.ref t] []) rfl]
 repeat (any_goals (first | assumption | wp_step))
 refine codeAny_mono (code_set_new_1 (.ref t) (E:=E) (Q₁:=fun v s1=>∃led,v=.ref s.heap.objs.size/\s1={ s with heap:=s.heap.push (cb led) }) fun led=>⟨led,rfl,rfl⟩) fun r s1 hr=>?_
 cases r with
 | error e=>exact hr
 | ok fl=>
  cases fl with
  | ret v=>
   obtain⟨led,rfl,rfl⟩:=hr
   have gS:(s.heap.push (cb led)).get? s.heap.objs.size=some (cb led):=Dw _ rfl
   have hT:Shared.TypeIs { s with heap:=s.heap.push (cb led) } (.ref s.heap.objs.size) "set":=⟨_,gS,rfl⟩
   have x7:=F.called_set.init.lookup
   have x8:=F.called_set.init.bind (.ref s.heap.objs.size)
   repeat (any_goals (first | assumption | wp_step))
   refine codeAny_mono (codeAny_call_builtin (R:=wants (fun r s2=>r=.none/\∃h' tk,s2={ s with heap:=h',toks:=tk }/\vO knd s kk h') E) F.called_set.init.plain F.entry_set_init (check_set_init_1 hT ?_)) fun r2 s2 hr2=>?_
   ·have g1:(s.heap.push (cb led)).IsTuple t ys:=gt.push _
    have hlt:t<s.heap.objs.size:=by
     obtain⟨o,ho,_⟩:=gt
     exact Dx ho
    obtain⟨ol,hol,hcl,nl,hdl⟩:=id g1
    obtain⟨c0,d0,dt,sl⟩:=ol
    simp only at hcl hdl
    subst hcl hdl
    have y1:=F.sub_tuple_set
    have y2:=Al
    have y3:(Value.type "tuple" == Value.type "dict")=false:=by decide
    unfold Builtin.«set.__init__» noKeywords Builtin.Frozenset.updateFrom
    generalize hit:pyIter=PI
    wp_walk
    subst hit
    refine wpAny_pyIter_tuple g1 ?_
    refine Dr (wpAny_runValue ?_)
    have e1:(s.heap.push (cb led)).objs.size=s.heap.objs.size+1:=Heap.size_push _ _
    have hA3:A.in1.in1.in1.handled=none:=by simp[hA]
    have hne:t≠(s.heap.push (cb led)).objs.size:=by
     rw[e1]
     exact DQ (Nat.lt_succ_of_lt hlt)
    have hSf:s.heap.objs.size∉[(s.heap.push (cb led)).objs.size,t]:=by
     intro z
     rcases DM.mp z with z | z
     ·rw[e1]at z
      exact DQ (Nat.lt_succ_self _) z
     ·exact Nat.ne_of_gt hlt (DI.mp z)
    have hbs:∀i:Nat,ys[i]?=(bs[i]?).map Value.ref:=fun i=>by
     rw[←Array.getElem?_toList,hb,DA]
    refine zC (knd:=knd) ((Walks.tuple hA3 _ t hne ys).toS) s.heap.objs.size hSf (by simp only[Around.in1_units];omega) bs kk hn hnd hz (fun i v hv=>?_) (fun i s' hs b hb' o ho=>?_) (ys.size-0) 0 _ (by omega) (Nat.zero_le _) ⟨⟨_,Dw _ rfl,rfl,rfl⟩,g1.push _⟩ ⟨cb led,#[],0,_,Dv _ gS,⟨rfl,rfl,rfl⟩,rfl,rfl,rfl,  .inl rfl,(show 0*5<7*3 by decide),rfl,fun e he=>by simp at he⟩ (fun j b k e1 e2=>?_) fun s' mv hS'=>?_
    ·have hv':ys[i]?=some v:=hv
     rw[hbs i]at hv'
     obtain⟨b,e,rfl⟩:=DJ.mp hv'
     exact⟨b,rfl,e⟩
    ·cases DI.mp hb'
     obtain⟨o',ho',_,hd'⟩:=hs.1
     rw[ho']at ho
     cases ho
     exact⟨_,hd'⟩
    ·obtain⟨o,items,q,ho,r⟩:=hkey j b k e1 e2
     exact⟨o,items,q,Dv _ (Dv _ ho),r⟩
    ·obtain⟨h',g',d',tk',os'⟩:=s'
     have q1:g'=s.gens:=mv.gens
     have q2:d'=s.drawn:=mv.drawn
     have q3:os'=s.os:=mv.os
     subst q1 q2 q3
     show wpAny _ _ _ _ _ _
     refine Dt ?_
     show wpAny _ _ (ret Value.none) _ _ _
     refine Dt ⟨rfl,h',tk',rfl,hS',fun b o hb e=>mv.heap b o (fun z=>?_) (Dv _ (Dv _ e))⟩
     rcases DM.mp z with z | z
     ·exact DQ hb z
     ·have z:=DI.mp z
      rw[e1]at z
      exact DQ (Nat.lt_succ_of_lt hb) z
   ·cases r2 with
    | error e=>exact hr2
    | ok f2=>
     cases f2 with
     | ret r=>
      obtain⟨rfl,h',tk,rfl,hS'⟩:=hr2
      repeat (any_goals (first | assumption | wp_step))
      exact h _ _ hS'
     | _=>exact hr2.elim
  | _=>exact hr.elim
end
end L2.Og
namespace L2.Og
open PySem PySem.Spec PyProof.Rows
def gF(a:Addr)(n:Nat):HO:=.ext fun h=>∃o es ep t,h.get? a=some o/\o.ExactSet/\o.data=.set es ep t/\t.fits es.size=true/\es.size=n
theorem A3{P:Program}{w:World}{H:Hp}{h:Heap}{a:Addr}{ks:List (List Key)}(S:eB (bU P w) h a ks):bj P w H h a (gF a ks.length):=by
 obtain⟨o,es,ep,t,ho,hex,hd,hp,hdm,hm,hfull,hlen,_⟩:=S
 refine⟨⟨o,es,ep,t,ho,hex,hd,?_,hlen⟩,⟨o,ho⟩,fun h1 h2 z k=>?_⟩
 ·simp only[SetTable.fits,Eg,beq_iff_eq,decide_eq_true_eq]
  refine⟨hp,?_⟩
  unfold SetTable.fill
  rw[hdm,hp]
  have:es.size<=t.mask:=by omega
  simpa using this
 ·obtain⟨o',es',ep',t',ho',r⟩:=z
  exact⟨o',es',ep',t',k _ ho',r⟩
def bZ(H:Hp)(p:Addr)(kk:List (List Key)):Prop:=∃bs:List Addr,H p=some (.tup (bs.map V.ref))/\bs.length=kk.length/\∀(j:Nat) (b:Addr) (k:List Key),bs[j]?=some b->kk[j]?=some k->H b=some (.tup (k.map kV))
theorem sT:∀{bs:List Addr} {us:List Value},Vals (bs.map V.ref) us->us=bs.map Value.ref
 | [],_,.nil=>rfl
 | b::bs,_,.cons r t=>by
  rw[List.map_cons,←sT (bs:=bs) t]
  exact congrArg (· :: _) r
section
variable {X:Cx}
def wj:List V->Hp->VK->Prop:=fun xs H Q=>∃p kk,xs=[.ref p]/\bZ H p kk/\kk.Nodup/\kk.length<200/\∀l,H l=none->Q (.ref l) (upd H l (gF l kk.length))
theorem call_setT{k:Nat}(hr:Room k X.A):bO X (.type "set") wj:=by
 intro pins s σ H xs us Q I r h
 obtain⟨p,kk,rfl,⟨bs,h1,h2,h3⟩,hnd,hz,q⟩:=h
 obtain⟨u,rfl,rx⟩:=vals1 r
 cases rx
 obtain⟨_,its,rv,gt⟩:=I.hok p _ h1
 have ei:=sT rv
 subst ei
 have hu:=hr.units
 have hA:=hr.hd
 refine A2 (knd:=bU X.prog X.w) (kk:=kk) (bs:=bs) hA (by omega) (show s.heap.IsTuple p _ from gt) rfl (by simp[h2]) hnd (by simp[h2];exact hz) (fun j b k e1 e2=>?_) fun h' tk hm=>?_
 ·obtain⟨_,is,rk,o,ho,hc,n,hd⟩:=I.hok b _ (h3 j b k e1 e2)
  exact⟨o,_,n,ho,hc,hd,mM rk⟩
 ·have hok:=A3 (H:=upd H s.heap.objs.size (gF s.heap.objs.size kk.length)) hm.1
  rw[List.length_reverse]at hok
  exact⟨.ref s.heap.objs.size,_,I.laid (t':=tk) (fun b o e=>hm.2 b o (Dx e) e) (DR _) hok,rfl,q _ (I.hok.fresh (DR _))⟩
def pM:List V->Hp->VK->Prop:=fun xs H Q=>∃p n,xs=[.ref p]/\H p=some (gF p n)/\n<200/\Q (.int n) H
theorem call_lenSet:bO X (.builtin "len") pM:=by
 intro pins s σ H xs us Q I r h
 obtain⟨p,n,rfl,hp,hn,q⟩:=h
 obtain⟨u,rfl,rx⟩:=vals1 r
 cases rx
 obtain⟨⟨o,es,ep,t,ho,hex,hd,hf,hs⟩,_⟩:=I.hok p _ hp
 refine call_len_set ho hex hd hf (by omega) ⟨.int n,H,I.tok _,⟨s.toks+1,by rw[hs]⟩,q⟩
theorem rd_setOf{H:Hp}{Q:VK}{p:Addr}{kk:List (List Key)}(h:bZ H p kk)(hnd:kk.Nodup)(hz:kk.length<200)(q:∀l H',Ext H H'->H' l=some (gF l kk.length)->Q (.ref l) H'):wj [.ref p] H Q:=
 ⟨p,kk,rfl,h,hnd,hz,fun l hl=>q l _ (aZ hl) aH⟩
theorem rd_lenSet{H:Hp}{Q:VK}{p:Addr}{n:Nat}(h:H p=some (gF p n))(hn:n<200)(q:Q (.int n) H):pM [.ref p] H Q:=⟨p,n,rfl,h,hn,q⟩
end
end L2.Og
namespace L2.Ti
open PySem PySem.Spec PyProof.Rows
def dy(t:SetTable):Prop:=t.dummies = #[]/\t.place.toList.Pairwise (· < ·)
theorem j4(t:SetTable)(n:Nat):dy (t.standIn n):=⟨rfl,by
 show(Array.range n).toList.Pairwise _
 rw[Array.toList_range]
 exact List.pairwise_lt_range⟩
theorem AU{mask finger moves:Nat}{led plain:Bool}{hashes:Array Int}{t':SetTable}{order:Array Nat}(h:SetTable.laid mask finger moves led plain hashes=some (t',order)):dy t':=by
 unfold SetTable.laid at h
 obtain⟨owner,_,h⟩:=Option.bind_eq_some_iff.mp h
 have h:=Option.some.inj h
 have h1:=(congrArg Prod.fst h).symm
 dsimp only at h1
 subst h1
 refine⟨rfl,?_⟩
 show(List.map (fun x:Nat×Nat=>x.1) (List.filterMap (fun j=>Option.map (fun x=>(j,x)) (owner.getD j none)) (List.range (mask+1)))).Pairwise (· < ·)
 rw[List.pairwise_map,List.pairwise_filterMap]
 refine List.Pairwise.imp ?_ (List.pairwise_lt_range (n:=mask+1))
 intro a b hab x hx y hy
 obtain⟨u,_,rfl⟩:=DJ.mp hx
 obtain⟨v,_,rfl⟩:=DJ.mp hy
 exact hab
theorem zq(t:SetTable)(es:Array (Int×Value))(wanted:Nat):dy (relayAll t es wanted).2.1:=by
 unfold relayAll
 cases h:t.relaid (es.map (·.1)) wanted with
 | none=>exact j4 _ _
 | some x=>
  obtain⟨t',order⟩:=x
  dsimp only
  split
  ·exact AU h
  ·exact j4 _ _
theorem yj{t:SetTable}(hd:t.dummies = #[])(j:Nat):t.slot j≠.dummy:=by
 unfold SetTable.slot
 dsimp only
 split
 ·intro z;cases z
 ·rw[hd]
  rw[if_neg (by unfold SetTable.has;simp)]
  intro z;cases z
theorem ph{t:SetTable}(hd:t.dummies = #[])(hash:Nat->Int)(h:Int):∀(fuel:Nat) (p:SetTable.Probe) (j:Nat) (d:Option Nat),p.dummy=none->SetTable.probe.go t hash h fuel p=some (.empty j d)->d=none/\t.slot j=.empty
 | 0,p,j,d,_,e=>by
  unfold SetTable.probe.go at e
  cases e
 | fuel+1,p,j,d,hp,e=>by
  unfold SetTable.probe.go at e
  cases hs:t.slot p.j with
  | empty=>
   rw[hs]at e
   cases e
   exact⟨hp,hs⟩
  | dummy=>exact absurd hs (yj hd _)
  | live i=>
   rw[hs]at e
   dsimp only at e
   split at e
   ·cases e
   ·refine ph hd hash h fuel _ j d ?_ e
    unfold SetTable.advance
    split<;>exact hp
theorem AD{t:SetTable}(hi:dy t){j:Nat}(h:t.slot j=.empty):dy (t.put j).1:=by
 refine⟨?_,Tb.yV hi.2 (Tb.BB hi.2 h)⟩
 show(if SetTable.has t.dummies j then _ else t.dummies) = #[]
 rw[hi.1,if_neg (by unfold SetTable.has;simp)]
theorem yK{t:SetTable}(hi:dy t)(es:Array (Int×Value))(h:Int)(x:Value):dy (layNew t es h x).2.1:=by
 unfold layNew
 cases hf:t.freeSlot h with
 | none=>exact j4 _ _
 | some y=>
  obtain⟨slot,wd⟩:=y
  dsimp only
  show dy ((t.put slot).1.orStandIn _)
  unfold SetTable.orStandIn
  split
  ·refine AD hi ?_
   unfold SetTable.freeSlot at hf
   split at hf
   ·rename_i j d hpr
    obtain⟨rfl,h2⟩:=ph hi.1 _ _ _ _ _ _ (show(t.probeStart h).dummy=none from rfl) hpr
    cases hf
    exact h2
   ·cases hf
  ·exact j4 _ _
theorem below_at{xs:Array Nat}(hs:xs.toList.Pairwise (· < ·)){i j:Nat}(h:xs[i]?=some j):SetTable.below xs (j+1)=i+1:=by
 obtain⟨h1,h2,h3⟩:=Tb.jw hs (j+1)
 have hi:i<SetTable.below xs (j+1):=by
  rcases Nat.lt_or_ge i (SetTable.below xs (j+1))with z | z
  ·exact z
  ·have:=h3 i j z h
   omega
 rcases Nat.lt_or_ge (i+1) (SetTable.below xs (j+1))with z | z
 ·have hx:xs[i+1]?=some xs[i+1]:=getElem?_pos xs (i+1) (by omega)
  have a:=h2 (i+1) _ z hx
  have b:=Tb.jX hs h hx (Nat.lt_succ_self i)
  omega
 ·omega
theorem Am{xs:Array Nat}(hs:xs.toList.Pairwise (· < ·)):SetTable.below xs 0=0:=by
 obtain⟨h1,h2,h3⟩:=Tb.jw hs 0
 rcases Nat.eq_zero_or_pos (SetTable.below xs 0)with z | z
 ·exact z
 ·have:=h2 0 _ z (getElem?_pos xs 0 (by omega))
  omega
section
variable {P:Program} {w:World} {A:Around} {E:Value->Shared->Prop} {s:Shared}
theorem yU{it a:Addr}{i ep slot:Nat}{o:Obj}{es:Array (Int×Value)}{t:SetTable}{Q:Option Value->Shared->Prop}(hT:w.params.followText "set-order" = false)(hit:s.heap.get? it=some (bM a (rawInt (slot:Int)) i es.size ep))(ho:s.heap.get? a=some o)(hd:o.data=.set es ep t)(hf:t.fits es.size=true)(h1:(!t.plain && decide (es.size>1))=false)(hl:t.led=true)
  {x:Int×Value} {j:Nat} (hx:es[SetTable.below t.place slot]?=some x) (hj:t.place[SetTable.below t.place slot]?=some j) (hQ:∀h',h'.get? it=some (bM a (rawInt ((j+1:Nat):Int)) (i+1) es.size ep)->Heap.SameBut it s.heap h'->Q (some x.2) { s with heap:=h' }):wpAny (model P w) A (pyNext (.ref it)) Q E s:=by
 have T:s.TypeIs (.ref it) "set_iterator":=⟨_,hit,rfl⟩
 unfold pyNext
 refine Dr (wpAny_attempt (wpAny_callSpecial?_slot (name:=Str.ofString "__next__") T SF.slot_next (wpAny_call_entry SF.slot_next T SF.entry_next ?_ (SF.args_next _))))
 show wpAny _ _ (fieldsOf (.ref it) >>= _) _ _ s
 refine Dr (wpAny_fieldsOf hit rfl ?_)
 show wpAny _ _ (setEntries a >>= _) _ _ s
 unfold setEntries
 refine Dr (Dr (wpAny_setState_of ho hd hf (Dt ?_)))
 rw[if_neg (by simp)]
 show wpAny _ _ (setNext a slot _ _ >>= _) _ _ s
 unfold setNext
 refine Dr (Dr (wpAny_setState_of ho hd hf ?_))
 dsimp only
 unfold setsByText
 refine Dr (Dr (wpAny_askSetting (Dt ?_)))
 rw[show (model P w).w.params.followText "set-order" = false from hT]
 simp only[Bool.false_eq_true,if_false]
 have hdr:¬((!t.plain && decide (es.size>1))=true):=by
  rw[h1]
  exact DN
 split
 ·rename_i hh
  exact absurd hh hdr
 ·refine Dr ?_
  show wpAny _ _ (if(!t.led && !es.isEmpty)=true then unsupported _ else pure ()) _ _ _
  rw[if_neg (by rw[hl];exact DN)]
  refine Dt (Dt ?_)
  rw[hx,hj]
  dsimp only
  refine Dr (wpAny_setField hit rfl (by simp) ?_)
  have e1':(s.heap.update it (Obj.mapFields (·.setIfInBounds 0 (rawInt ((j+1:Nat):Int))))).get? it=some (bM a (rawInt ((j+1:Nat):Int)) i es.size ep):=ic (k:=0) (x:=rawInt ((j+1:Nat):Int)) hit rfl
  refine Dr (wpAny_setField (s:={ s with heap:=s.heap.update it (Obj.mapFields (·.setIfInBounds 0 (rawInt ((j+1:Nat):Int)))) }) e1' rfl (by simp) ?_)
  have e2:=ic (k:=1) (x:=rawInt ((i:Int)+1)) e1' rfl
  refine Dt ⟨_,rfl,Dt (hQ _ ?_ ((Heap.SameBut.update ..).trans (Heap.SameBut.update ..)))⟩
  exact e2
theorem yz{it a:Addr}{i ep slot:Nat}{o:Obj}{es:Array (Int×Value)}{t:SetTable}{Q:Option Value->Shared->Prop}(hh:A.handled=none)(hT:w.params.followText "set-order" = false)(hit:s.heap.get? it=some (bM a (rawInt (slot:Int)) i es.size ep))(ho:s.heap.get? a=some o)(hd:o.data=.set es ep t)(hf:t.fits es.size=true)(h1:(!t.plain && decide (es.size>1))=false)(hl:t.led=true)
  (hx:es[SetTable.below t.place slot]?=none) (hQ:∀h',Heap.ExtBut it s.heap h'->Q none { s with heap:=h' }):wpAny (model P w) A (pyNext (.ref it)) Q E s:=by
 have T:s.TypeIs (.ref it) "set_iterator":=⟨_,hit,rfl⟩
 unfold pyNext
 refine Dr (wpAny_attempt (wpAny_callSpecial?_slot (name:=Str.ofString "__next__") T SF.slot_next (wpAny_call_entry SF.slot_next T SF.entry_next ?_ (SF.args_next _))))
 show wpAny _ _ (fieldsOf (.ref it) >>= _) _ _ s
 refine Dr (wpAny_fieldsOf hit rfl ?_)
 show wpAny _ _ (setEntries a >>= _) _ _ s
 unfold setEntries
 refine Dr (Dr (wpAny_setState_of ho hd hf (Dt ?_)))
 rw[if_neg (by simp)]
 show wpAny _ _ (setNext a slot _ _ >>= _) _ _ s
 unfold setNext
 refine Dr (Dr (wpAny_setState_of ho hd hf ?_))
 dsimp only
 unfold setsByText
 refine Dr (Dr (wpAny_askSetting (Dt ?_)))
 rw[show (model P w).w.params.followText "set-order" = false from hT]
 simp only[Bool.false_eq_true,if_false]
 have hdr:¬((!t.plain && decide (es.size>1))=true):=by
  rw[h1]
  exact DN
 split
 ·rename_i hh
  exact absurd hh hdr
 ·refine Dr ?_
  show wpAny _ _ (if(!t.led && !es.isEmpty)=true then unsupported _ else pure ()) _ _ _
  rw[if_neg (by rw[hl];exact DN)]
  refine Dt (Dt ?_)
  rw[hx]
  dsimp only
  refine Dr (wpAny_setField hit rfl (by simp) ?_)
  exact lB (s:=s) (it:=it) hh (Heap.SameBut.update ..).extBut hQ
theorem xY(hh:A.handled=none)(hT:w.params.followText "set-order" = false)(I a:Addr)(hne:a≠I){o:Obj}{es:Array (Int×Value)}{ep:Nat}{t:SetTable}(hd:o.data=.set es ep t)(hf:t.fits es.size=true)(h1:(!t.plain && decide (es.size>1))=false)(hl:t.led=true)(hp:t.place.size=es.size)(hinc:t.place.toList.Pairwise (· < ·)):
  Walks P w A I [I,a] [I] es.size (fun i v=>∃x,es[i]?=some x/\v=x.2) (fun i h=>(∃slot:Nat,h.get? I=some (bM a (rawInt (slot:Int)) i es.size ep)/\SetTable.below t.place slot=i)/\h.get? a=some o) where
 sub:=fun b hb=>by simp at hb;simp[hb]
 frame:=fun _ _ _ st hk=>by
  obtain⟨⟨slot,h1,h2⟩,h3⟩:=st
  exact⟨⟨slot,hk I (by simp) _ h1,h2⟩,hk a (by simp) _ h3⟩
 item:=fun i s Q E hi st hQ=>by
  obtain⟨⟨slot,q1,q2⟩,q3⟩:=st
  have hx:=getElem?_pos es i hi
  have hj:=getElem?_pos t.place i (by omega)
  refine yU hT q1 q3 hd hf h1 hl (by rw[q2];exact hx) (by rw[q2];exact hj) fun h' hit' sb=>?_
  refine hQ _ h' s.toks ⟨_,hx,rfl⟩ ⟨⟨_,hit',?_⟩,(sb.2 a hne).trans q3⟩ fun b o hb e=>sb.extBut b o (fun h=>hb (by simp[h])) e
  exact below_at hinc hj
 done:=fun s Q E st hQ=>by
  obtain⟨⟨slot,q1,q2⟩,q3⟩:=st
  exact yz hh hT q1 q3 hd hf h1 hl (by rw[q2];exact Array.getElem?_eq_none (DR _)) fun h' he'=>hQ h' s.toks fun b o hb e=>he' b o (fun h=>hb (by simp[h])) e
 self:=fun i s Q E st hQ=>by
  obtain⟨⟨slot,q1,q2⟩,q3⟩:=st
  exact mU q1 hQ
theorem zN{a:Addr}{o:Obj}{es:Array (Int×Value)}{ep:Nat}{t:SetTable}{Q:Value->Shared->Prop}(ho:s.heap.get? a=some o)(hex:o.ExactSet)(hd:o.data=.set es ep t)(hf:t.fits es.size=true)(hsz:es.size<=sizeLine)
  (hT:w.params.followText "set-order" = true\/(!t.plain && decide (es.size>1))=false->Q (.ref s.heap.objs.size) { s with heap:=s.heap.push (bM a (rawInt 0) 0 es.size ep) })
  (hD:∀(ys:List Nat) d,ys.Perm (List.range es.size)->Q (.ref (s.heap.objs.size+1)) { s with heap:=(s.heap.push (seqObj "tuple" (ys.map fun(i:Nat)=>rawInt i).toArray 0)).push (bM a (.ref s.heap.objs.size) 0 es.size ep),drawn:=d }) :
  wpAny (model P w) A (pyIter (.ref a)) Q E s:=by
 have T:s.TypeIs (.ref a) "set":=⟨o,ho,hex.1⟩
 refine wpAny_pyIter_slot T F.slot_set_iter (wpAny_call_entry F.slot_set_iter T SF.za ?_ (SF.Cm _))
 show wpAny _ _ (Builtin.Frozenset.sizeOf a >>= _) _ _ s
 unfold Builtin.Frozenset.sizeOf setEntries
 refine Dr (Dr (Dr (wpAny_setState_of ho hd hf (Dt (Dt ?_)))))
 show wpAny _ _ (setDrawn a >>= _) _ _ s
 unfold setDrawn
 refine Dr (Dr (wpAny_setState_of ho hd hf ?_))
 dsimp only
 unfold setsByText
 refine Dr (Dr (wpAny_askSetting (Dt (Dt ?_))))
 by_cases hq:(!(w.params.followText "set-order") && (!t.plain && decide (es.size>1)))=true
 ·rw[if_pos (by exact hq)]
  refine Dr (pX _ _ s (by rw[List.length_range]) fun ys d hp=>?_)
  have hyl:ys.length=es.size:=by rw[hp.length_eq,List.length_range]
  simp only[newTuple]
  refine Dr (wpAny_newObj_type ?_ (by show(List.map _ ys).toArray.size<=sizeLine;rw[DD,Dy,hyl];exact hsz))
  unfold setEpoch
  refine Dr (Dr (wpAny_setState_of (s:={ s with heap:=s.heap.push (seqObj "tuple" (ys.map fun(i:Nat)=>rawInt i).toArray 0),drawn:=d }) (Dv _ ho) hd hf (Dt ?_)))
  simp only[newFields]
  have hs1:(s.heap.push (seqObj "tuple" (ys.map fun(i:Nat)=>rawInt i).toArray 0)).objs.size=s.heap.objs.size+1:=Heap.size_push _ _
  refine Dr (wpAny_newObj_type (Dt ⟨_,rfl,"set_iterator",_,⟨_,Dw _ rfl,rfl⟩,SF.slot_next.lookup,?_⟩) (by size_fits))
  have:=hD ys d hp
  rw[←hs1]at this
  exact this
 ·rw[if_neg (by exact hq)]
  refine Dr (Dt ?_)
  unfold setEpoch
  refine Dr (Dr (wpAny_setState_of ho hd hf (Dt ?_)))
  simp only[newFields]
  refine Dr (wpAny_newObj_type (Dt ⟨_,rfl,"set_iterator",_,⟨_,Dw _ rfl,rfl⟩,SF.slot_next.lookup,?_⟩) (by size_fits))
  refine hT ?_
  cases hf':w.params.followText "set-order" with
  | true=>exact .inl rfl
  | false=>
   rw[hf',Bool.not_false,Bool.true_and]at hq
   exact .inr (Bool.eq_false_iff.mpr hq)
theorem y7{a:Addr}{o:Obj}{es:Array (Int×Value)}{ep:Nat}{t:SetTable}{Q:Value->Shared->Prop}(hA:A.handled=none)(ho:s.heap.get? a=some o)(hex:o.ExactSet)(hd:o.data=.set es ep t)(hf:t.fits es.size=true)(hled:t.led=cU w)(hp:t.place.size=es.size)(hinc:t.place.toList.Pairwise (· < ·))(hsz:es.size<=sizeLine)
  (h:∀(I:Addr) (h1:Heap) d (fp:List Addr) (Pz:Nat->Value->Prop) (St:Nat->Heap->Prop),Walks P w A I fp [I] es.size Pz St->St 0 h1->s.heap.objs.size<=I->(∀c∈fp,c=a\/s.heap.objs.size<=c)->(∀b o',s.heap.get? b=some o'->h1.get? b=some o')->(∀acc:Array Value,acc.size=es.size->(∀i v,acc[i]?=some v->Pz i v)->acc.toList.Perm (es.toList.map (·.2)))->Q (.ref I) { s with heap:=h1,drawn:=d }):wpAny (model P w) A (pyIter (.ref a)) Q E s:=by
 have hlt:a<s.heap.objs.size:=Dx ho
 have inOrder:∀{xs:Array (Int×Value)} {acc:Array Value},acc.size=xs.size->(∀i v,acc[i]?=some v->∃x:Int×Value,xs[i]?=some x/\v=x.2)->acc.toList=xs.toList.map (·.2):=fun{xs acc} e1 e2=>by
  apply List.ext_getElem
  ·rw[DC,Dy,DC,e1]
  ·intro i q1 q2
   rw[DC]at q1
   obtain⟨x,hx,hv⟩:=e2 i acc[i] (getElem?_pos acc i q1)
   rw[Array.getElem_toList,hv,List.getElem_map,Array.getElem_toList]
   obtain⟨_,e⟩:=Array.getElem?_eq_some_iff.mp hx
   rw[e]
 refine zN ho hex hd hf hsz (fun hT=>?_) (fun ys d hq=>?_)
 ·have hfp:∀c∈[s.heap.objs.size,a],c=a\/s.heap.objs.size<=c:=fun c hc=>by
   rcases DM.mp hc with z | z
   ·exact .inr (Nat.le_of_eq z.symm)
   ·exact .inl (DI.mp z)
  have g1:(s.heap.push (bM a (rawInt 0) 0 es.size ep)).get? s.heap.objs.size=some (bM a (rawInt 0) 0 es.size ep):=Dw _ rfl
  have g2:=Dv (bM a (rawInt 0) 0 es.size ep) ho
  cases hq:w.params.followText "set-order" with
  | true=>
   refine h _ _ s.drawn _ _ _ (Bh hA hq s.heap.objs.size a (DQ hlt) hd hf) ⟨g1,g2⟩ (DR _) hfp (fun b o' e=>Dv _ e) fun acc a1 a2=>?_
   have hl:(pickOrder (w.params.setOrder a ep) es).size=es.size:=by
    rw[←DC,(jo _ es).length_eq,DC]
   rw[inOrder (a1.trans hl.symm) a2]
   exact(jo (w.params.setOrder a ep) es).map (·.2)
  | false=>
   have hl:t.led=true:=by
    rw[hled]
    show(!w.params.followText "set-order")=true
    rw[hq]
    rfl
   refine h _ _ s.drawn _ _ _ (xY hA hq s.heap.objs.size a (DQ hlt) hd hf (hT.resolve_left (by rw[hq];decide)) hl hp hinc) ⟨⟨0,g1,Am hinc⟩,g2⟩ (DR _) hfp (fun b o' e=>Dv _ e) fun acc a1 a2=>?_
   rw[inOrder a1 a2]
 ·have hs2:(s.heap.push (seqObj "tuple" (ys.map fun(i:Nat)=>rawInt i).toArray 0)).objs.size=s.heap.objs.size+1:=Heap.size_push _ _
  have g1:((s.heap.push (seqObj "tuple" (ys.map fun(i:Nat)=>rawInt i).toArray 0)).push (bM a (.ref s.heap.objs.size) 0 es.size ep)).get? (s.heap.objs.size+1)=some (bM a (.ref s.heap.objs.size) 0 es.size ep):=by
   rw[←hs2]
   exact Dw _ rfl
  refine h _ _ d _ _ _ (BG hA (s.heap.objs.size+1) a s.heap.objs.size (DQ (Nat.lt_succ_of_lt hlt)) (DQ (Nat.lt_succ_self _)) hd hf hq) ⟨g1,Dv _ (Dv _ ho),Dv _ (Dw _ rfl)⟩ (Nat.le_succ _) (fun c hc=>?_) (fun b o' e=>Dv _ (Dv _ e)) fun acc h1 h2=>?_
  ·rcases DM.mp hc with z | z
   ·exact .inr (by rw[z];exact Nat.le_succ _)
   ·rcases DM.mp z with z | z
    ·exact .inl z
    ·exact .inr (Nat.le_of_eq (DI.mp z).symm)
  ·have hyl:ys.length=es.size:=by rw[hq.length_eq,List.length_range]
   have e0:acc.toList=(ys.filterMap (es[·]?)).map (·.2):=by
    apply List.ext_getElem?
    intro i
    rw[DA,Tb.oo es ys (fun y hy=>List.mem_range.mp (hq.mem_iff.mp hy))]
    by_cases q1:i<acc.size
    ·have e1:=getElem?_pos acc i q1
     obtain⟨y,x,hy,hx,hv⟩:=h2 i acc[i] e1
     have e2:acc.toList[i]?=some acc[i]:=by rw[Array.getElem?_toList];exact e1
     rw[e2,hy,Option.bind_some,hx,hv]
     rfl
    ·have e2:acc.toList[i]?=none:=List.getElem?_eq_none (by rw[DC];omega)
     rw[e2,List.getElem?_eq_none (by rw[hyl,←h1];omega)]
     rfl
   rw[e0]
   refine List.Perm.map _ ?_
   have e3:(List.range es.size).filterMap (es[·]?)=es.toList:=by
    apply List.ext_getElem?
    intro n
    have e4:es.toList[n]?=es[n]?:=Array.getElem?_toList
    rw[e4,Tb.oo es _ (fun i hi=>List.mem_range.mp hi)]
    by_cases hn:n<es.size
    ·rw[List.getElem?_range hn]
     rfl
    ·have e5:(List.range es.size)[n]?=none:=List.getElem?_eq_none (by rw[List.length_range];omega)
     rw[e5,Array.getElem?_eq_none (by omega)]
     rfl
   rw[←e3]
   exact hq.filterMap _
theorem CU{a:Addr}{o:Obj}{es:Array (Int×Value)}{ep:Nat}{t:SetTable}{Q:List Value->Shared->Prop}(hA:A.handled=none)(ho:s.heap.get? a=some o)(hex:o.ExactSet)(hd:o.data=.set es ep t)(hf:t.fits es.size=true)(hled:t.led=cU w)(hp:t.place.size=es.size)
  (hinc:t.place.toList.Pairwise (· < ·)) (hsz:es.size<=sizeLine) (hQ:∀(h':Heap) (tk:Nat) d (vs:List Value),vs.Perm (es.toList.map (·.2))->s.toks<=tk->s.heap.objs.size<h'.objs.size->(∀b o,b<s.heap.objs.size->s.heap.get? b=some o->h'.get? b=some o)->Q vs { s with heap:=h',toks:=tk,drawn:=d }):wpAny (model P w) A (collect (.ref a)) Q E s:=by
 have hlt:a<s.heap.objs.size:=Dx ho
 unfold collect
 refine Dr (wpAny_runValue (codeAny_builtin F.entry_proto_collect ?_))
 rw[Around.under_plainId F.plain_proto_collect _]
 show wpAny _ A.in1 (newList [] >>= fun l=>again (.builtin "list.__iadd__" ⟨[l,.ref a],[]⟩)) _ _ s
 refine Dr (wpAny_newObj_type ?_)
 refine Dt ⟨plainId_quiet F.plain_list_iadd _,codeAny_builtin F.entry_list_iadd ?_⟩
 rw[Around.under_plainId F.plain_list_iadd _]
 show wpAny _ A.in1 (Builtin.List.listExtendWith (.ref s.heap.objs.size) (.ref a) (.ref s.heap.objs.size)) _ _ { s with heap:=s.heap.push (seqObj "list" #[] 0) }
 unfold Builtin.List.listExtendWith
 have ho1:(s.heap.push (seqObj "list" #[] 0)).get? a=some o:=Dv _ ho
 have hs1:(s.heap.push (seqObj "list" #[] 0)).objs.size=s.heap.objs.size+1:=Heap.size_push _ _
 refine Dr (wpAny_typeOf (T:="set") ⟨o,ho1,hex.1⟩ ?_)
 have q1:Builtin.List.listSameRef (.ref s.heap.objs.size) (.ref a)=false:=by
  have:s.heap.objs.size≠a:=Nat.ne_of_gt hlt
  simp[Builtin.List.listSameRef,this]
 have q2:(Value.type "set" == Value.type "list")=false:=by decide
 have q3:(Value.type "set" == Value.type "tuple")=false:=by decide
 simp only[q1,q2,q3,Bool.or_false,Bool.false_eq_true,if_false]
 refine Dr (y7 (s:={ s with heap:=s.heap.push (seqObj "list" #[] 0) }) (by simp[hA]) ho1 hex hd hf hled hp hinc hsz fun I h1 d fp Pz St W hst hI hfp hold hPm=>?_)
 have hI':s.heap.objs.size+1<=I:=by rw[←hs1];exact hI
 refine Dr (wpAny_holding (CA (s:={ s with heap:=h1,drawn:=d }) ⟨o,hold _ _ ho1,hex.1⟩ ?_))
 rw[if_pos (by first | rfl | decide +kernel | kernel_rfl)]
 refine Dr (wpAny_rule ?_)
 have hS₁:h1.get? s.heap.objs.size=some (seqObj "list" #[] 0):=hold _ _ (Dw _ rfl)
 refine Dr ?_
 show wpAny _ A.in1 (updateSeq s.heap.objs.size (·.push .none) >>= fun _=>updateSeq s.heap.objs.size (·.pop)) _ _ { s with heap:=h1,drawn:=d }
 refine Dr (wpAny_updateSeq hS₁ rfl ?_)
 have hS₂:=Heap.get?_update_self (Obj.mapSeq (·.push Value.none)) hS₁ rfl
 refine wpAny_updateSeq (s:={ s with heap:=h1.update s.heap.objs.size (Obj.mapSeq (·.push Value.none)),drawn:=d }) hS₂ rfl ?_
 have hS₃:=Heap.get?_update_self (Obj.mapSeq (·.pop)) hS₂ rfl
 have oth:∀b o,b≠s.heap.objs.size->h1.get? b=some o →
   ((h1.update s.heap.objs.size (Obj.mapSeq (·.push Value.none))).update s.heap.objs.size (Obj.mapSeq (·.pop))).get? b=some o:=
  fun b o hb e=>(Heap.get?_update_other _ _ (Ne.symm hb)).trans ((Heap.get?_update_other _ _ (Ne.symm hb)).trans e)
 refine Dt ⟨plainId_quiet F.plain_extend_loop _,codeAny_extend_loopS W.toS hsz _ (fun z=>by
  rcases hfp _ z with e | e
  ·exact Nat.ne_of_gt hlt e
  ·rw[hs1]at e
   exact absurd e (Nat.not_succ_le_self _)) _ es.size 0 { s with heap:=(h1.update s.heap.objs.size (Obj.mapSeq (·.push Value.none))).update s.heap.objs.size (Obj.mapSeq (·.pop)),drawn:=d } _ _ rfl (Nat.zero_le _)
  (W.frame _ _ _ hst fun c hc o' e=>oth c o' (fun z=>by
   rcases hfp c hc with e | e
   ·rw[z]at e;exact Nat.ne_of_gt hlt e
   ·rw[z,hs1]at e;exact absurd e (Nat.not_succ_le_self _)) e) hS₃ (ItemsOf.nil _) fun s' acc' c' hm hS' hacc=>?_⟩
 show wpAny _ A (load s.heap.objs.size >>= _) _ _ s'
 refine Dr (wpAny_load hS' ?_)
 obtain⟨h',g',d',tk',os'⟩:=s'
 have z1:g'=s.gens:=hm.gens
 have z2:d'=d:=hm.drawn
 have z3:os'=s.os:=hm.os
 subst z1 z2 z3
 refine Dt (hQ h' tk' _ _ (hPm acc' hacc.1 hacc.2) hm.toks (Dx hS') fun b o' hb e=>hm.heap b o' (fun z=>?_) (oth b o' (DQ hb) ?_))
 ·rcases DM.mp z with z | z
  ·exact DQ hb z
  ·have z:=DI.mp z
   rw[z]at hb
   exact absurd hb (Nat.not_lt.mpr (Nat.le_of_succ_le hI'))
 ·exact hold _ _ (Dv _ e)
def dg(P:Program)(w:World)(h:Heap)(a:Addr)(S:Int->Bool)(n:Nat):Prop:=
 ∃o es ep t,h.get? a=some o/\o.ExactSet/\o.data=.set es ep t/\ElemsOf (PySem.intKind P w) es.toList/\(∀k,S k=true↔∃e∈es.toList,(PySem.intKind P w).is k e.2=true)/\es.size<scanBound/\t.fits es.size=true/\es.size=n/\t.led=cU w/\dy t
theorem dg.store{h:Heap}{a:Addr}{o:Obj}{es es':Array (Int×Value)}{ep:Nat}{t t':SetTable}{S':Int->Bool}(ho:h.get? a=some o)(hex:o.ExactSet)(hd:o.data=.set es ep t)
  (hel:ElemsOf (PySem.intKind P w) es'.toList) (hmem:∀k,S' k=true↔∃e∈es'.toList,(PySem.intKind P w).is k e.2=true) (hb:es'.size<scanBound) (hf:t'.fits es'.size=true) (hl:t'.led=cU w) (hi:dy t') :
  (h.update a (Obj.putSet es' t')).get? a=some { o with data:=.set es' (ep+1) t' }/\dg P w (h.update a (Obj.putSet es' t')) a S' es'.size:=by
 have hg:(h.update a (Obj.putSet es' t')).get? a=some { o with data:=.set es' (ep+1) t' }:=by
  have:=Heap.get?_update_self (Obj.putSet es' t') ho (by rw[putSet_of es' t' hd];rfl)
  rw[putSet_of es' t' hd]at this
  exact this
 exact⟨hg,_,es',ep+1,t',hg,hex,rfl,hel,hmem,hb,hf,rfl,hl,hi⟩
theorem uE {g : Bool → Sem Unit} (hg : ∀ (b : Bool) (s₁ : Shared) (Q' : Unit → Shared → Prop), Q' () s₁ → wpAny (model P w) A (g b) Q' E s₁)
    {a : Addr} {o : Obj} {es es1 : Array (Int × Value)} {ep : Nat} {t t2 : SetTable} {S' : Int → Bool} (ho : s.heap.get? a = some o) (hex : o.ExactSet) (hd : o.data = .set es ep t)
    (hel1 : ElemsOf (PySem.intKind P w) es1.toList) (hmem1 : ∀ k', S' k' = true ↔ ∃ e ∈ es1.toList, (PySem.intKind P w).is k' e.2 = true) (hb1 : es1.size < scanBound) (hf2 : t2.fits es1.size = true) (hl2 : t2.led = cU w) (hi2 : dy t2) {wd : Bool} {R : Option Bool → Shared → Prop}
    (h : ∀ h', Heap.SameBut a s.heap h' → dg P w h' a S' es1.size → R (some true) { s with heap := h' }) :
    wpAny (model P w) A (do
        storeSet a es1 t2
        if (!wd && t2.tooFull) = true then do
            g (relayAll t2 es1 (SetTable.grown es1.size)).2.2
            storeSet a (relayAll t2 es1 (SetTable.grown es1.size)).1 (relayAll t2 es1 (SetTable.grown es1.size)).2.1
            pure (some true)
          else pure (some true)) R E s := by
  refine Dr (wpAny_storeSet_of ho hd ?_ (fits_of_scanBound hb1))
  obtain ⟨ho1, hS1⟩ := dg.store (P := P) ho hex hd hel1 hmem1 hb1 hf2 hl2 hi2
  have hsb1 := Heap.SameBut.update s.heap a (Obj.putSet es1 t2)
  split
  · have hp := relayAll_perm t2 es1 (SetTable.grown es1.size)
    have hfr := relayAll_fits t2 es1 (SetTable.grown es1.size)
    obtain ⟨l1, l2⟩ := yH t2 es1 (SetTable.grown es1.size)
    have hir := zq t2 es1 (SetTable.grown es1.size)
    generalize relayAll t2 es1 (SetTable.grown es1.size) = Rl at hp hfr l1 l2 hir ⊢
    obtain ⟨es2, t3, gave⟩ := Rl
    dsimp only at hp hfr l1 l2 hir ⊢
    have hsz : es2.size = es1.size := by rw [← DC, hp.length_eq, DC]
    refine Dr (hg _ _ _ (Dr (wpAny_storeSet_of ho1 rfl ?_ (fits_of_scanBound (by omega)))))
    obtain ⟨_, hS2⟩ := dg.store (P := P) (w := w) (S' := S') ho1 hex rfl (hel1.perm hp) (fun k' => (hmem1 k').trans ⟨fun ⟨e, he, q⟩ => ⟨e, hp.mem_iff.mpr he, q⟩, fun ⟨e, he, q⟩ => ⟨e, hp.mem_iff.mp he, q⟩⟩) (by omega) hfr (l1.trans hl2) hir
    rw [hsz] at hS2
    exact Dt (h _ (hsb1.trans (Heap.SameBut.update _ a _)) hS2)
  · exact Dt (h _ hsb1 hS1)
theorem xr{a:Addr}{S:Int->Bool}{n:Nat}{k:Int}{tk:Tok}{Q:Bool->Shared->Prop}(hS:dg P w s.heap a S n)(hroom:n+1<scanBound)
  (h:∀h' b,Heap.SameBut a s.heap h'->dg P w h' a (fun k'=>S k' || decide (k'=k)) (if S k then n else n+1)->Q b { s with heap:=h' }) :
  wpAny (model P w) A (setAddHashed a (.int k tk) ((PySem.intKind P w).hash k)) Q E s:=by
 obtain⟨o,es,ep,t,ho,hex,hd,hel,hmem,hb,hf,hn,hled,hinc⟩:=hS
 have hkey:(PySem.intKind P w).is k (.int k tk)=true:=uh k tk
 have hsc:(Value.int k tk).scannable=true:=rfl
 unfold setAddHashed setAddHashedIn
 refine wpAny_holding (Dr (wpAny_setState_of ho hd hf ?_))
 dsimp only
 rw[byScan_of hsc hb hel]
 simp only[↓reduceIte]
 unfold setAddByScan
 refine Dr (Dr (wpAny_rule (Dr (wpAny_setScan_of hkey ho hd hf hel ?_))))
 cases hr:List.findIdx? (fun e=>(PySem.intKind P w).is k e.2) es.toList with
 | some j=>
  dsimp only
  obtain⟨hj,hpj,_⟩:=List.findIdx?_eq_some_iff_getElem.mp hr
  have hSk:S k=true:=(hmem k).mpr ⟨es.toList[j],DX hj,hpj⟩
  refine Dt (Dt ?_)
  have e:s={ s with heap:=s.heap }:=by cases s;rfl
  rw[e]
  refine h s.heap _ (Heap.SameBut.refl a s.heap) ⟨o,es,ep,t,ho,hex,hd,hel,fun k'=>?_,hb,hf,by rw[hSk];exact hn,hled,hinc⟩
  rw[Bool.or_eq_true,decide_eq_true_eq,←hmem k']
  exact⟨fun hk=>hk.elim id (fun e=>e ▸ hSk),.inl⟩
 | none=>
  dsimp only
  have hSk:S k=false:=by
   cases hk:S k with
   | false=>rfl
   | true=>
    obtain⟨e,he,hp⟩:=(hmem k).mp hk
    have:=List.findIdx?_eq_none_iff.mp hr e he
    rw[hp]at this
    cases this
  have hgw:∀(b:Bool) {s₁:Shared} {Q':Unit->Shared->Prop},Q' () s₁->wpAny (model P w) A (match b with | true=>rule "set.scan.the-table-gave-way" | false=>pure ()) Q' E s₁:=
   fun b s₁ Q' hq=>by cases b<;>first | exact Dt hq | exact wpAny_rule hq
  have hperm:=layNew_perm t es ((PySem.intKind P w).hash k) (.int k tk)
  have hfits:=layNew_fits t es ((PySem.intKind P w).hash k) (.int k tk)
  have hl1:=xC t es ((PySem.intKind P w).hash k) (.int k tk)
  have hi1:=yK hinc es ((PySem.intKind P w).hash k) (.int k tk)
  generalize layNew t es ((PySem.intKind P w).hash k) (.int k tk)=L at hperm hfits hl1 hi1 ⊢
  obtain⟨es1,t1,wd,gave⟩:=L
  dsimp only at hperm hfits hl1 hi1 ⊢
  rw[Array.toList_push]at hperm
  have hel1:ElemsOf (PySem.intKind P w) es1.toList:=(hel.push hkey hsc).perm hperm
  have hmem1:∀k',(S k' || decide (k'=k))=true↔∃e∈es1.toList,(PySem.intKind P w).is k' e.2=true:=mem_push_iff hkey hmem hperm
  have hsz1:es1.size=n+1:=by rw[←DC,hperm.length_eq,DP,DC,hn];rfl
  refine Dr (hgw _ ?_)
  have hend:∀h' b,Heap.SameBut a s.heap h'->dg P w h' a (fun k'=>S k' || decide (k'=k)) es1.size->Q b { s with heap:=h' }:=by
   intro h' b hsb hS'
   refine h h' b hsb ?_
   rw[hSk,if_neg DN,←hsz1]
   exact hS'
  by_cases htp:t1.plain=true
  ·rw[if_pos htp]
   refine Dr ?_
   rw[hashByValue_scannable 8 hsc]
   refine Dt ?_
   rw[show plainKind (.int k tk)=true from rfl]
   simp only[if_true]
   refine uE ?_ ho hex hd hel1 hmem1 (by omega) hfits (hl1.trans hled) hi1 ?_
   ·intro b s₁ Q' hq
    cases b<;>first | exact Dt hq | exact wpAny_rule hq
   ·intro h' hsb hS'
    dsimp only
    exact Dt (hend h' _ hsb hS')
  ·rw[if_neg htp]
   refine Dr (Dt ?_)
   simp only[if_true]
   refine uE ?_ ho hex hd hel1 hmem1 (by omega) hfits (hl1.trans hled) hi1 ?_
   ·intro b s₁ Q' hq
    cases b<;>first | exact Dt hq | exact wpAny_rule hq
   ·intro h' hsb hS'
    dsimp only
    exact Dt (hend h' _ hsb hS')
end
section
variable {P:Program} {w:World} {A:Around} {E:Value->Shared->Prop} {s:Shared}
def dD(P:Program)(w:World)(h:Heap)(a:Addr)(D:List Int):Prop:=D.Nodup/\dg P w h a (fun k=>decide (k∈D)) D.length
theorem dD.elems{h:Heap}{a:Addr}{D:List Int}(hS:dD P w h a D):∃o es ep t ds,h.get? a=some o/\o.ExactSet/\o.data=.set es ep t/\t.fits es.size=true/\t.led=cU w/\dy t/\es.size<scanBound/\es.size=D.length/\IntsAre (es.toList.map (·.2)) ds/\ds.Perm D:=by
 obtain⟨hnd,o,es,ep,t,ho,hex,hd,hel,hmem,hb,hf,hn,hled,hinc⟩:=hS
 obtain⟨ds,h1,h2⟩:=wg hel
 refine⟨o,es,ep,t,ds,ho,hex,hd,hf,hled,hinc,hb,hn,h1,zA hnd (fun k hk=>?_) ?_⟩
 ·obtain⟨e,he,hke⟩:=(hmem k).mp (decide_eq_true hk)
  exact h2 e he k hke
 ·rw[←IntsAre.length h1,Dy,DC,hn]
theorem dg.moved{h h':Heap}{a:Addr}{S:Int->Bool}{n:Nat}(hS:dg P w h a S n)(hk:∀o,h.get? a=some o->h'.get? a=some o):dg P w h' a S n:=by
 obtain⟨o,es,ep,t,ho,r⟩:=hS
 exact⟨o,es,ep,t,hk _ ho,r⟩
theorem AF{h:Heap}{a:Addr}{D:List Int}{k:Int}(hd:D.Nodup)(hS:dg P w h a (fun k'=>decide (k'∈D) || decide (k'=k)) (if decide (k∈D)then D.length else D.length+1)):∃D',dD P w h a D'/\D'.length<=D.length+1/\∀x,x∈D'↔x∈D\/x=k:=by
 by_cases hk:k∈D
 ·refine⟨D,⟨hd,?_⟩,Nat.le_succ _,fun x=>⟨.inl,fun z=>z.elim id fun e=>e ▸ hk⟩⟩
  rw[decide_eq_true hk,if_pos rfl]at hS
  have e:(fun k'=>decide (k'∈D) || decide (k'=k))=fun k'=>decide (k'∈D):=by
   funext k'
   by_cases e:k'=k
   ·subst e;simp[hk]
   ·simp[e]
  rw[e]at hS
  exact hS
 ·refine⟨k::D,⟨List.nodup_cons.mpr ⟨hk,hd⟩,?_⟩,DR _,fun x=>by rw[DM];exact⟨fun z=>z.symm,fun z=>z.symm⟩⟩
  rw[decide_eq_false hk,if_neg DN]at hS
  have e:(fun k'=>decide (k'∈D) || decide (k'=k))=fun k'=>decide (k'∈k::D):=by
   funext k'
   simp only[DM]
   by_cases e:k'=k<;>by_cases e2:k'∈D<;>simp[e,e2]
  rw[e]at hS
  exact hS
theorem Bx{I:Addr}{fp wr:List Addr}{G:Array GenState->Array GenState->Prop}{n:Nat}{Pz:Nat->Value->Prop}{St:Nat->Shared->Prop}(W:WalksS P w A.in1 I fp wr G n Pz St)(S:Addr)(hS:S∉fp)(zs:List Int)(hnz:zs.length=n)(hsz:n+1<scanBound)
  (hval:∀i v,Pz i v->∃z t,v=.int z t/\zs[i]?=some z) {R:Result->Shared->Prop} :
  ∀(m i:Nat) (s:Shared) (D:List Int),n-i=m->i<=n->St i s->dD P w s.heap S D->D.length<=i->(∀k,k∈D↔k∈zs.take i) →
   (∀s' D,Moved (S::wr) G s s'->dD P w s'.heap S D->(∀k,k∈D↔k∈zs)->R (.ok (.ret .none)) s') →
   codeAny (model P w) A (.builtin "set.update.loop" ⟨[.ref S,.ref I],[]⟩) R s:=by
 have hSw:S∉wr:=fun z=>hS (W.sub _ z)
 have more:∀b∈wr,b∈S::wr:=fun b z=>DB _ z
 intro m
 induction m with
 | zero=>
  intro i s D hm hi hst hset _ hD hR
  obtain rfl:i=n:=by omega
  refine codeAny_builtin F.entry_set_update_loop ?_
  rw[Around.under_plainId F.plain_set_update_loop _]
  show wpAny _ A.in1 (pyNext (.ref I) >>= _) _ _ s
  refine Dr (W.done s _ _ hst fun s' mv=>?_)
  rw[←hnz,DZ]at hD
  exact Dt (hR s' D (mv.mono more) ⟨hset.1,hset.2.moved fun o=>mv.heap S o hSw⟩ hD)
 | succ m ih=>
  intro i s D hm hi hst hset hDl hD hR
  have hlt:i<n:=by omega
  refine codeAny_builtin F.entry_set_update_loop ?_
  rw[Around.under_plainId F.plain_set_update_loop _]
  show wpAny _ A.in1 (pyNext (.ref I) >>= _) _ _ s
  refine Dr (W.item i s _ _ hlt hst fun v s' hP hst' mv=>?_)
  obtain⟨z,t,rfl,hz⟩:=hval i v hP
  have hset':dg P w s'.heap S (fun k=>decide (k∈D)) D.length:=hset.2.moved fun o=>mv.heap S o hSw
  show wpAny _ A.in1 (holding [Value.int z t] (setAdd S (.int z t)) >>= _) _ _ s'
  refine Dr (wpAny_holding ?_)
  unfold setAdd
  refine wpAny_holding (Dr ((PySem.intKind P w).pyHash (k:=z) (uh z t) ?_))
  refine xr (s:={ s' with toks:=s'.toks+1 }) hset' (by omega) fun h' b sb hset2=>?_
  obtain⟨D',hD1,hD2,hD3⟩:=AF hset.1 hset2
  have htk:∀k,k∈D'↔k∈zs.take (i+1):=fun k=>by
   rw[hD3,hD k,List.take_add_one,hz,DU]
   simp
  refine Dt ⟨plainId_quiet F.plain_set_update_loop _,ih (i+1) _ D' (by omega) hlt (W.frame _ s' _ _ hst' (Nat.le_succ _) fun c hc o e=>?_) hD1 (by omega) htk fun s'' D2 mv2 hS2=>hR s'' D2 (Moved.trans W.gtrans ((mv.mono more).then_heap (Nat.le_succ _) fun c o hc e=>?_) mv2) hS2⟩
  ·rw[sb.2 c (fun z:c=S=>hS (z ▸ hc))]
   exact e
  ·rw[sb.2 c (fun z:c=S=>hc (by rw[z];exact DE))]
   exact e
theorem Cn{l:Addr}{ys:Array Value}{zs:List Int}{Q:Value->Shared->Prop}(hA:A.handled=none)(gt:s.heap.IsList l ys)(hz:IntsAre ys.toList zs)(hsz:ys.size+1<scanBound)
  (h:∀(h':Heap) (tk:Nat) (D:List Int),dD P w h' s.heap.objs.size D->(∀k,k∈D↔k∈zs)->(∀b o,b<s.heap.objs.size->s.heap.get? b=some o->h'.get? b=some o)->Q (.ref s.heap.objs.size) { s with heap:=h',toks:=tk }):wpAny (model P w) A (call (.type "set") [.ref l]) Q E s:=by
 have x1:=F.called_set.notType
 have x2:=F.called_set.canCreate
 have x3:=F.typeCall_set_1 (.ref l)
 have x4:=F.called_set.made
 have x5:=F.called_set.sub
 obtain⟨c,tl,x6⟩:=F.called_set.mro
 refine wpAny_call (codeAny_of_tree ?_)
 show wpAny _ _ (callAny (.type "set") _) _ _ _
 refine Dt ⟨Code.quiet_builtin _ (by decide +kernel),codeAny_builtin F.entry_type_call ?_⟩
 rw[Around.under_plain (weight_type_call_type "set" [.ref l] []) rfl]
 repeat (any_goals (first | assumption | wp_step))
 refine codeAny_mono (xT (.ref l) (E:=E) (Q₁:=fun v s1=>v=.ref s.heap.objs.size/\s1={ s with heap:=s.heap.push (cb (cU w)) }) ⟨rfl,rfl⟩) fun r s1 hr=>?_
 cases r with
 | error e=>exact hr
 | ok fl=>
  cases fl with
  | ret v=>
   obtain⟨rfl,rfl⟩:=hr
   have gS:(s.heap.push (cb (cU w))).get? s.heap.objs.size=some (cb (cU w)):=Dw _ rfl
   have hT:Shared.TypeIs { s with heap:=s.heap.push (cb (cU w)) } (.ref s.heap.objs.size) "set":=⟨_,gS,rfl⟩
   have x7:=F.called_set.init.lookup
   have x8:=F.called_set.init.bind (.ref s.heap.objs.size)
   repeat (any_goals (first | assumption | wp_step))
   refine codeAny_mono (codeAny_call_builtin (R:=wants (fun r s2=>r=.none/\∃h' tk D,s2={ s with heap:=h',toks:=tk }/\dD P w h' s.heap.objs.size D/\(∀k,k∈D↔k∈zs)/\∀b o,b<s.heap.objs.size->s.heap.get? b=some o->h'.get? b=some o) E) F.called_set.init.plain F.entry_set_init (check_set_init_1 hT ?_)) fun r2 s2 hr2=>?_
   ·have g1:(s.heap.push (cb (cU w))).IsList l ys:=gt.push _
    have hlt:l<s.heap.objs.size:=by
     obtain⟨o,ho,_⟩:=gt
     exact Dx ho
    obtain⟨ol,hol,hcl,nl,hdl⟩:=id g1
    obtain⟨c0,d0,dt,sl⟩:=ol
    simp only at hcl hdl
    subst hcl hdl
    have y1:=F.sub_list_set
    have y2:=F.sub_list_frozenset
    have y3:(Value.type "list" == Value.type "dict")=false:=by decide
    unfold Builtin.«set.__init__» noKeywords Builtin.Frozenset.updateFrom
    generalize hit:pyIter=PI
    wp_walk
    subst hit
    refine wpAny_pyIter_list g1 ?_
    refine Dr (wpAny_runValue ?_)
    have e1:(s.heap.push (cb (cU w))).objs.size=s.heap.objs.size+1:=Heap.size_push _ _
    have hA3:A.in1.in1.in1.handled=none:=by simp[hA]
    have hne:l≠(s.heap.push (cb (cU w))).objs.size:=by
     rw[e1]
     exact DQ (Nat.lt_succ_of_lt hlt)
    have hSf:s.heap.objs.size∉[(s.heap.push (cb (cU w))).objs.size,l]:=by
     intro z
     rcases DM.mp z with z | z
     ·rw[e1]at z
      exact DQ (Nat.lt_succ_self _) z
     ·exact Nat.ne_of_gt hlt (DI.mp z)
    have hzl:zs.length=ys.size:=by rw[←IntsAre.length hz,DC]
    refine Bx ((Walks.list hA3 _ l hne ys).toS) s.heap.objs.size hSf zs hzl hsz (fun i v hv=>?_) (ys.size-0) 0 _ [] (by omega) (Nat.zero_le _) ⟨⟨_,Dw _ rfl,rfl,rfl⟩,g1.push _⟩
     ⟨List.nodup_nil,cb (cU w),#[],0,_,Dv _ gS,⟨rfl,rfl,rfl⟩,rfl,fun e he=>by simp at he,fun k=>by simp,by decide,by rfl,rfl,rfl,rfl,.nil⟩ (DR _) (fun k=>by simp) fun s' D mv hS' hD=>?_
    ·exact uA hz i v (by rw[Array.getElem?_toList];exact hv)
    ·obtain⟨h',g',d',tk',os'⟩:=s'
     have q1:g'=s.gens:=mv.gens
     have q2:d'=s.drawn:=mv.drawn
     have q3:os'=s.os:=mv.os
     subst q1 q2 q3
     show wpAny _ _ _ _ _ _
     refine Dt ?_
     show wpAny _ _ (ret Value.none) _ _ _
     refine Dt ⟨rfl,h',tk',D,rfl,hS',hD,fun b o hb e=>mv.heap b o (fun z=>?_) (Dv _ (Dv _ e))⟩
     rcases DM.mp z with z | z
     ·exact DQ hb z
     ·have z:=DI.mp z
      rw[e1]at z
      exact DQ (Nat.lt_succ_of_lt hb) z
   ·cases r2 with
    | error e=>exact hr2
    | ok f2=>
     cases f2 with
     | ret r=>
      obtain⟨rfl,h',tk,D,rfl,hS',hD,hk⟩:=hr2
      repeat (any_goals (first | assumption | wp_step))
      exact h _ _ D hS' hD hk
     | _=>exact hr2.elim
  | _=>exact hr.elim
end
def intOf:Value->Int
 | .int z _=>z
 | _=>0
theorem ints_map:∀(vs:List Value),(∀v∈vs,∃z t,v=Value.int z t)->IntsAre vs (vs.map intOf)
 | [],_=>.nil
 | v::vs,h=>by
  obtain⟨z,t,rfl⟩:=h v DE
  exact .cons z t (ints_map vs fun u hu=>h u (DB _ hu))
theorem vC:∀{vs:List Value} {zs:List Int},IntsAre vs zs->∀v∈vs,∃z t,v=Value.int z t
 | _,_,.nil,v,h=>by cases h
 | _,_,.cons z t r,v,h=>by
  rcases DM.mp h with rfl | h
  ·exact⟨z,t,rfl⟩
  ·exact vC r v h
theorem wA:∀{vs:List Value} {zs:List Int},IntsAre vs zs->vs.map intOf=zs
 | _,_,.nil=>rfl
 | _,_,.cons z t r=>by
  show z::_=_
  rw[wA r]
section
variable {P:Program} {w:World} {A:Around} {E:Value->Shared->Prop} {s:Shared}
theorem AE{a:Addr}{D:List Int}{Q:List Value->Shared->Prop}(hA:A.handled=none)(hS:dD P w s.heap a D)
  (hQ:∀(h':Heap) (tk:Nat) d (vs:List Value) (ds:List Int),IntsAre vs ds->ds.Perm D->s.toks<=tk->s.heap.objs.size<h'.objs.size->(∀b o,b<s.heap.objs.size->s.heap.get? b=some o->h'.get? b=some o)->Q vs { s with heap:=h',toks:=tk,drawn:=d }):wpAny (model P w) A (collect (.ref a)) Q E s:=by
 obtain⟨o,es,ep,t,ds,ho,hex,hd,hf,hled,hinc,hb,hn,hs,hpm⟩:=hS.elems
 have hp:t.place.size=es.size:=by
  simp only[SetTable.fits,Eg,beq_iff_eq,decide_eq_true_eq]at hf
  exact hf.1
 have hsz:es.size<=sizeLine:=Eb (Nat.le_of_lt hb) (by decide)
 have key:∀(h':Heap) (tk:Nat) d (vs:List Value),vs.Perm (es.toList.map (·.2))->s.toks<=tk->s.heap.objs.size<h'.objs.size->(∀b o,b<s.heap.objs.size->s.heap.get? b=some o->h'.get? b=some o)->Q vs { s with heap:=h',toks:=tk,drawn:=d }:=fun h' tk d vs hv q1 q2 q3=>by
  refine hQ h' tk d vs _ (ints_map vs fun v hv'=>vC hs v (hv.mem_iff.mp hv')) ?_ q1 q2 q3
  refine((hv.map intOf).trans (List.Perm.of_eq ?_)).trans hpm
  exact wA hs
 exact CU hA ho hex hd hf hled hp hinc.2 hsz key
theorem zu{a:Addr}{D:List Int}{Q:Value->Shared->Prop}(hA:A.handled=none)(hS:dD P w s.heap a D)(hD1:D.length<64)
  (h:∀(h':Heap) (tk:Nat) d (l:Addr) (vs:List Value) (ms:List Int),s.heap.objs.size<=l->(∃e,h'.get? l=some (seqObj "list" vs.toArray e))->IntsAre vs ms->ms.Perm D->ms.Pairwise (fun a b:Int=>a<=b)->s.toks<=tk →
   (∀b o,b<s.heap.objs.size->s.heap.get? b=some o->h'.get? b=some o)->Q (.ref l) { s with heap:=h',toks:=tk,drawn:=d }) :
  wpAny (model P w) A (call (.builtin "sorted") [.ref a]) Q E s:=by
 refine Calls.call_function_entry kind_sorted plain_sorted entry_sorted (args_sorted1 _) ?_
 unfold Builtin.«sorted»
 refine Dr (m:=checkCount "sorted" 1 1 _) (Dt ?_)
 refine Dr (AE (by simp[hA]) hS fun h1 tk d vs ds hst hpm htk hsz1 hk1=>?_)
 have hvl:vs.length=D.length:=(IntsAre.length hst).trans hpm.length_eq
 refine Dr (wpAny_newList ?_ (Eb (show vs.length<=64 by omega) (by decide)))
 have hoL:(h1.push (seqObj "list" vs.toArray 0)).get? h1.objs.size=some (seqObj "list" vs.toArray 0):=Dw _ rfl
 refine Dr (wpAny_holding (wpAny_call_entry slot_list_sort ⟨_,hoL,rfl⟩ entry_list_sort (list_sort_tree (s:={ s with heap:=h1.push (seqObj "list" vs.toArray 0),toks:=tk,drawn:=d }) hoL hst (by omega) fun out ns' q1 q2 q3=>⟨_,rfl,?_⟩) (args_list_sort _)))
 refine Dt ⟨_,rfl,?_⟩
 refine h _ tk d h1.objs.size out.toList ns' (Nat.le_of_lt hsz1) ?_ q1 (q2.trans hpm) q3 htk fun b o' hb e=>?_
 ·obtain⟨e1,r1⟩:∃e1,((h1.push (seqObj "list" vs.toArray 0)).update h1.objs.size (Obj.mapSeq fun _=>#[])).get? h1.objs.size=some (seqObj "list" #[] e1):=⟨_,get?_update_seq hoL (fun _=>#[])⟩
  have r2:(((((h1.push (seqObj "list" vs.toArray 0)).update h1.objs.size (Obj.mapSeq fun _=>#[])).push (seqObj "tuple" vs.toArray 0)).push (seqObj "list" #[] 0))).get? h1.objs.size=some (seqObj "list" #[] e1):=Dv _ (Dv _ r1)
  have r3:=get?_update_seq r2 (fun _=>out)
  exact⟨_,by rw[Array.toArray_toList];exact r3⟩
 ·have hb1:b<h1.objs.size:=Nat.lt_trans hb hsz1
  have e1:=hk1 b o' hb e
  unfold sortedHeap
  refine(Heap.get?_update_other _ _ (Nat.ne_of_gt hb1)).trans (Dv _ (Dv _ ((Heap.get?_update_other _ _ (Nat.ne_of_gt hb1)).trans (Dv _ e1))))
end
def oN(P:Program)(w:World)(a:Addr)(D:List Int):HO:=.ext fun h=>dD P w h a D
theorem Ba{P:Program}{w:World}{H:Hp}{h:Heap}{a:Addr}{D:List Int}(S:dD P w h a D):bj P w H h a (oN P w a D):=by
 refine⟨S,?_,fun h1 h2 z k=>?_⟩
 ·obtain⟨_,o,es,ep,t,ho,_⟩:=S
  exact⟨o,ho⟩
 ·exact⟨z.1,z.2.moved k⟩
section
variable {X:Cx}
def CI(P:Program)(w:World):List V->Hp->VK->Prop:=fun xs H Q=>∃p zs,xs=[.ref p]/\H p=some (.lst (List.map V.int zs))/\zs.length<=4000 ∧
 ∀l D,H l=none->D.Nodup->(∀z,z∈D↔z∈zs)->Q (.ref l) (upd H l (oN P w l D))
theorem call_setJ{k:Nat}(hr:Room k X.A):bO X (.type "set") (CI X.prog X.w):=by
 intro pins s σ H xs us Q I r h
 obtain⟨p,zs,rfl,hp,hz,q⟩:=h
 obtain⟨u,rfl,rx⟩:=vals1 r
 cases rx
 obtain⟨_,its,n,rv,gt⟩:=I.hok p _ hp
 have hst:=intsAre_of rv
 have hl:its.length=zs.length:=IntsAre.length hst
 refine Cn hr.hd (ys:=its.toArray) (zs:=zs) (show s.heap.IsList p _ from⟨_,gt,rfl,n,rfl⟩) hst (by rw[DD,hl];exact Nat.lt_of_le_of_lt (Nat.succ_le_succ hz) (by decide)) fun h' tk D hS hD hk=>?_
 have hfr:=I.hok.fresh (DR _)
 exact⟨.ref s.heap.objs.size,_,I.laid (t':=tk) (fun b o e=>hk b o (Dx e) e) (DR _) (Ba hS),rfl,q _ D hfr hS.1 hD⟩
def zi(P:Program)(w:World):List V->Hp->VK->Prop:=fun xs H Q=>∃(p:Addr) (D:List Int),xs=[.ref p]/\H p=some (oN P w p D)/\D.length<64 ∧
 ∀l ms,H l=none->ms.Perm D->ms.Pairwise (fun a b:Int=>a<=b)->Q (.ref l) (upd H l (.lst (List.map V.int ms)))
theorem call_sortJ{k:Nat}(hr:Room k X.A):bO X (.builtin "sorted") (zi X.prog X.w):=by
 intro pins s σ H xs us Q I r h
 obtain⟨p,D,rfl,hp,hl,q⟩:=h
 obtain⟨u,rfl,rx⟩:=vals1 r
 cases rx
 obtain⟨hO,_⟩:=I.hok p _ hp
 refine zu hr.hd (show dD X.prog X.w s.heap p D from hO) hl fun h' tk d l vs ms hle hlst hst hpm hsr htk hk=>?_
 have hfr:=I.hok.fresh hle
 obtain⟨e,he⟩:=hlst
 refine⟨.ref l,_,((I.dr d).laid (t':=tk) (o:=.lst (ms.map V.int)) (fun b o e=>hk b o (Dx e) e) hle ?_),rfl,q l ms hfr hpm hsr⟩
 exact⟨by rw[Dy,hpm.length_eq];exact Eb (Nat.le_of_lt hl) (by decide),vs,e,uR hst,he⟩
end
end L2.Ti
namespace L2
open PySem PySem.Spec PyProof.Rows
section
variable {X:Cx} {pins:List (Addr×Obj)} {σ:St} {H:Hp} {s:Shared}
theorem fJ{i:Nat}{y:Str}{py:Pos}{elt tg iter:Expr}{ifs:List Expr}{sc:Scope}{pos spos:Pos}(own:List Str)(js:List Nat){wi:TI}{g:TG}{tc:TT}{te:TE}(hN:X.N.Nodup)(hi':X.N[i]?=some y)(hx:Loc X.env.scope y)
  (hi:PI X tg iter wi) (hg:∀z,PG (cn X sc own js z) tg g) (ht:∀z,iO (cn X sc own js z) ifs tc)
  (he:∀z,PE (cn X sc own js z) elt te) (hsw:swapsWith (.ListComp elt [⟨tg,iter,ifs,0⟩] sc pos) (some (.Name y py)) spos.line X.env=pure true:=by rfl) (hc:X.calm=true:=by rfl) (hk:sc.kind=.function:=by rfl) (hb:dw sc X.env.scope=true:=by rfl) (hj:jy sc X.N js=true:=by rfl)
  (hs:∀x,foldedSetIterable iter X.env x=pure x:=by intro _;rfl) (hf:X.fn y=true\/X.env.scope.names.lookup y=some .local:=by first | exact .inl rfl | exact .inr rfl | assumption) :
  PS X (.Assign [.Name y py] (.ListComp elt [⟨tg,iter,ifs,0⟩] sc pos) spos) (jK (ou own.length js wi g tc te) (jl i)):=by
 intro pins s σ H D' I h
 rw[exec_Assign_Name_used _ _ _ _ hsw]
 refine Dr (wpAny_standAt (Dr ?_))
 show wpAny _ X.A (do let _ ←comprehension (.ListComp elt [⟨tg,iter,ifs,0⟩] sc pos) sc X.env _ (newList []) false (eval iter X.env) (some (assign (.Name y py) X.env))) _ _ s
 refine Dr (wpAny_mono (wpAny_comprehension_free (use:=some (assign (.Name y py) X.env)) (Q:=fun _ s'=>SP X pins D' .next s') rfl hs (kz fun p hp hf=>I.ok.has p.1 (j2 hb hp hf)) hk (fun p hp hl=>uJ hb hp hl)
  (av (hi pins s σ H _ I h) fun v s1 h1=>av h1 fun itv s2 h2=>?_)) (fun _ s' hq=>Dt (Dt hq)) fun _ _ e=>e)
 obtain⟨it,fp,tn,J,H2,e,I2,T,st2,f2,W,w0,turn⟩:=h2
 subst e
 refine sf (Q:=fun x H1=>jl i x σ H1 D'.nx) (RR:=fun acc C=>compPost (model X.prog X.w) X.A X.xe (some (assign (.Name y py) X.env)) (fun _ s'=>SP X pins D' .next s') acc C) hk hb hj (fun _=>hg _) (fun _=>ht _) (fun _=>he _) I2 (fun C=>Turn.at_ (Y:=cn X sc own js ⟨_,_,_,C⟩) T hc) st2 f2 w0 turn ?_
 intro D C s' ys H' nD I' hC ⟨m,hm⟩ hCs q
 show wpAny _ X.A (assign (.Name y py) X.env (.ref D)) _ _ _
 refine wpAny_assign_Name (qH I' hN hi' hx (v:=.ref D) rfl (fun s'' I'' ⟨a,hsb,ha⟩=>?_) hf)
 obtain⟨f0,f1,f2,f3,f4,f5⟩:=hC
 have hac:a≠C:=by
  rcases ha with rfl | ha
  ·exact Ne.symm f1
  ·exact f4 y a ha
 refine⟨m,hm.sameBut hsb (Ne.symm hac),fun h' hs'=>?_⟩
 exact⟨_,_,I''.turned (t':=s''.toks) (it:=C) (fun b o hb' e=>(hs'.2 b hb').trans e) f0 f1 f3 f4 f5,q⟩
end
end L2
namespace St
def eO(lo hi:Int)(xs:List Int):Prop:=xs.Pairwise (· < ·)/\∀x∈xs,lo<=x/\x<hi
structure Ok(b s:Int)(o a:List Int):Prop where
 hb:0<=b
 hs:1<=s
 ho:eO 0 b o
 ha:eO b (b+s) a
def mem(b s:Int)(o a:List Int)(x:Int):Bool:=if x<b then o.contains x else a.contains (b+(x-b) % s)
section
variable {b s:Int} {o a:List Int}
theorem jF(x:Int)(h:x<b):mem b s o a x=o.contains x:=if_pos h
theorem m5(x:Int)(h:b<=x):mem b s o a x=a.contains (b+(x-b) % s):=if_neg (by omega)
end
end St
namespace St
def bq(f:Nat->Bool)(b d:Nat):Prop:=∀x,b<=x->f (x+d)=f x
theorem bq.mul{f:Nat->Bool}{b d:Nat}(h:bq f b d):∀k x,b<=x->f (x+k*d)=f x
 | 0,x,hx=>by simp
 | k+1,x,hx=>by
  rw[Nat.succ_mul,←Nat.add_assoc,h _ (by omega),h.mul k x hx]
theorem bq.times{f:Nat->Bool}{b d:Nat}(h:bq f b d)(k:Nat):bq f b (k*d):=fun x hx=>h.mul k x hx
theorem bq.down{f:Nat->Bool}{b s b' d:Nat}(h:bq f b s)(hs:1<=s)(h':bq f b' d):bq f b d:=fun x hx=>by
 have e1:=h.mul b' (x+d) (by omega)
 have e2:=h.mul b' x hx
 rw[←e1,←e2,show x+d+b'*s=(x+b'*s)+d by omega]
 exact h' _ (by have:b'*1<=b'*s:=Nat.mul_le_mul_left _ hs;omega)
theorem bq.mod{f:Nat->Bool}{b s d:Nat}(h:bq f b s)(h':bq f b d):bq f b (s % d):=fun x hx=>by
 have e:=(h'.times (s / d)) (x+s % d) (by omega)
 rw[←e,show x+s % d+s / d*d=x+s by have:=Nat.div_add_mod s d;rw[Nat.mul_comm]at this;omega]
 exact h x hx
structure Least(f:Nat->Bool)(st low:Nat):Prop where
 pos:1<=st
 per:bq f low st
 step:∀d b,1<=d->bq f b d->st<=d
 base:∀b,bq f b st->low<=b
def Alike(f:Nat->Bool)(b s d:Nat):Prop:=s % d=0/\∀i,i+d<s->f (b+i+d)=f (b+i)
theorem Alike.per{f:Nat->Bool}{b s d:Nat}(h:bq f b s)(hs:1<=s)(hd:1<=d)(a:Alike f b s d):bq f b d:=by
 obtain⟨q,rfl⟩:∃q,s=d*q:=⟨s / d,by have:=Nat.div_add_mod s d;rw[a.1]at this;omega⟩
 have hq:1<=q:=by
  cases q with
  | zero=>simp at hs
  | succ q=>omega
 have inner:∀k i,i<d->k<q->f (b+i+k*d)=f (b+i):=by
  intro k
  induction k with
  | zero=>intro i _ _;simp
  | succ k ih=>
   intro i hi hk
   have e:=a.2 (i+k*d) (by
    have:(k+1+1)*d<=q*d:=Nat.mul_le_mul_right _ (by omega)
    rw[Nat.succ_mul,Nat.succ_mul,Nat.mul_comm q d]at this
    omega)
   rw[show b+i+(k+1)*d=b+(i+k*d)+d by rw[Nat.succ_mul];omega,e,←Nat.add_assoc]
   exact ih i hi (by omega)
 have all:∀n,f (b+n)=f (b+n % d):=fun n=>by
  have e1:f (b+n)=f (b+n % (d*q)):=by
   have:=h.mul (n / (d*q)) (b+n % (d*q)) (by omega)
   rw[←this]
   congr 1
   have:=Nat.div_add_mod n (d*q)
   rw[Nat.mul_comm (d*q)]at this
   omega
  rw[e1]
  have hlt:n % (d*q)<d*q:=Nat.mod_lt _ (by omega)
  have e2:n % (d*q)=n % (d*q) % d+n % (d*q) / d*d:=by
   have:=Nat.div_add_mod (n % (d*q)) d
   rw[Nat.mul_comm]at this
   omega
  have e3:n % (d*q) % d=n % d:=Nat.mod_mul_right_mod n d q
  have e4:n % (d*q) / d<q:=Nat.div_lt_of_lt_mul hlt
  rw[e2,←Nat.add_assoc,inner _ _ (Nat.mod_lt _ (by omega)) e4,e3]
 intro x hx
 obtain⟨n,rfl⟩:∃n,x=b+n:=⟨x-b,by omega⟩
 rw[Nat.add_assoc,all (n+d),all n,Nat.add_mod_right]
theorem bq.alike{f:Nat->Bool}{b s d:Nat}(h:bq f b d)(hm:s % d=0):Alike f b s d:=⟨hm,fun i _=>h (b+i) (by omega)⟩
theorem BF{f:Nat->Bool}{b s d:Nat}(h:bq f b s)(hs:1<=s)(hd:1<=d)(a:Alike f b s d)(first:∀e,1<=e->e<d->¬Alike f b s e):bq f b d/\∀e b',1<=e->bq f b' e->d<=e:=by
 have pd:=a.per h hs hd
 refine⟨pd,fun e b' he pe=>?_⟩
 have pe':bq f b e:=h.down hs pe
 -- the least one that goes round
 have go:∀n e,e<=n->1<=e->bq f b e->d<=e:=by
  intro n
  induction n with
  | zero=>intro e h1 h2;omega
  | succ n ih=>
   intro e h1 h2 pe
   by_cases hz:s % e=0
   ·rcases Nat.lt_or_ge e d with hlt | hge
    ·exact absurd (pe.alike hz) (first e h2 hlt)
    ·exact hge
   ·have hlt:s % e<e:=Nat.mod_lt _ (by omega)
    have:=ih (s % e) (by omega) (by omega) (h.mod pe)
    omega
 exact go e e (DR _) he pe'
theorem Ag{f:Nat->Bool}{b s d low:Nat}(h:bq f b s)(hs:1<=s)(hd:1<=d)(a:Alike f b s d)(first:∀e,1<=e->e<d->¬Alike f b s e)(hl:low<=b)
  (down:∀x,low<=x->x<b->f x=f (x+d)) (stop:low=0\/f (low-1)≠f (low-1+d)):Least f d low:=by
 obtain⟨pd,hmin⟩:=BF h hs hd a first
 refine⟨hd,fun x hx=>?_,hmin,fun b' pb=>?_⟩
 ·rcases Nat.lt_or_ge x b with hlt | hge
  ·exact(down x hx hlt).symm
  ·exact pd x hge
 ·rcases stop with h0 | hne
  ·omega
  ·rcases Nat.lt_or_ge b' low with hlt | hge
   ·exact absurd (pb (low-1) (by omega)).symm hne
   ·exact hge
def row(f:Nat->Bool)(lo n:Nat):List Int:=((List.range n).filter fun i=>f (lo+i)).map fun i=>((lo+i:Nat):Int)
end St
namespace St
theorem sZ(f:Nat->Bool)(lo n:Nat):row f lo (n+1)=row f lo n++if f (lo+n)then[((lo+n:Nat):Int)]else[]:=by
 unfold row
 rw[List.range_succ,List.filter_append,DO]
 congr 1
 by_cases h:f (lo+n)=true<;>simp[h]
theorem fK(f:Nat->Bool)(lo n:Nat):(row f lo n).length<=n:=by
 unfold row
 rw[Dy]
 exact Eb (List.length_filter_le _ _) (by simp)
theorem eT{f:Nat->Bool}{lo n:Nat}{x:Int}:x∈row f lo n↔(lo:Int)<=x/\x<lo+n/\f x.toNat=true:=by
 unfold row
 simp only[List.mem_map,List.mem_filter,List.mem_range]
 constructor
 ·rintro⟨i,⟨hi,hf⟩,rfl⟩
  refine⟨by omega,by omega,?_⟩
  rw[DK];exact hf
 ·rintro⟨h1,h2,h3⟩
  refine⟨x.toNat-lo,⟨by omega,?_⟩,by omega⟩
  rw[show lo+(x.toNat-lo)=x.toNat by omega];exact h3
theorem sU(f:Nat->Bool)(lo n:Nat):eO lo (lo+n) (row f lo n):=by
 refine⟨?_,fun x hx=>⟨(eT.mp hx).1,(eT.mp hx).2.1⟩⟩
 unfold row
 rw[List.pairwise_map]
 refine List.Pairwise.imp (R:=fun a b=>a<b) (fun h=>by omega) ?_
 exact List.Pairwise.filter _ List.pairwise_lt_range
theorem vM{f:Nat->Bool}{lo n:Nat}{x:Int}(h1:(lo:Int)<=x)(h2:x<lo+n):(row f lo n).contains x=f x.toNat:=by
 rw[Ef,List.contains_iff_mem,eT]
 constructor
 ·exact fun h=>h.2.2
 ·exact fun h=>⟨h1,h2,h⟩
theorem jc(f:Nat->Bool)(b s:Nat)(hs:1<=s):Ok b s (row f 0 b) (row f b s):=
 ⟨by omega,by omega,by have:=sU f 0 b;simpa using this,sU f b s⟩
theorem qj{f:Nat->Bool}{b s:Nat}(hs:1<=s)(h:bq f b s)(x:Nat):mem b s (row f 0 b) (row f b s) x=f x:=by
 by_cases hx:x<b
 ·rw[jF _ (by omega),vM (by omega) (by omega),DK]
 ·rw[m5 _ (by omega)]
  have r0:0<=((x:Int)-b) % s:=Int.emod_nonneg _ (by omega)
  have r1:((x:Int)-b) % s<s:=Int.emod_lt_of_pos _ (by omega)
  rw[vM (by omega) (by omega)]
  have e:((b:Int)+((x:Int)-b) % s).toNat=b+(x-b) % s:=by
   have:((x:Int)-b) % s=(((x-b) % s:Nat):Int):=by
    rw[show (x:Int)-b=((x-b:Nat):Int) by omega]
    rfl
   omega
  rw[e]
  have:=h.mul ((x-b) / s) (b+(x-b) % s) (by omega)
  rw[←this]
  congr 1
  have:=Nat.div_add_mod (x-b) s
  rw[Nat.mul_comm]at this
  omega
end St
namespace St
end St
namespace St
end St
namespace Bfs
theorem ia:∀(N:Nat) (l:List Nat),l.Nodup->(∀x∈l,x<N)->l.length<=N
 | 0,l,_,h=>by
  cases l with
  | nil=>exact DR _
  | cons x l=>exact absurd (h x DE) (Nat.not_lt_zero _)
 | N+1,l,hn,h=>by
  have ih:=ia N (l.erase N) (hn.erase N) (fun x hx=>by
   have:=h x (List.mem_of_mem_erase hx)
   have hne:x≠N:=fun e=>by
    subst e
    exact(List.Nodup.not_mem_erase hn) hx
   omega)
  by_cases hm:N∈l
  ·rw[List.length_erase_of_mem hm]at ih
   omega
  ·rw[List.erase_of_not_mem hm]at ih
   omega
abbrev Pl:=Int×Int
def inR(T:Int)(x:Pl):Prop:=0<=x.1/\x.1<12/\0<=x.2/\x.2<=T
theorem zy{T:Int}{l:List Pl}(hT:T<=2000)(hn:l.Nodup)(h:∀x∈l,inR T x):l.length<=24012:=by
 have hmap:(l.map fun x=>(x.1*2001+x.2).toNat).Nodup:=by
  unfold List.Nodup at hn ⊢
  rw[List.pairwise_map]
  refine List.Pairwise.imp_of_mem ?_ hn
  intro a b ha hb hab e
  obtain⟨a1,a2,a3,a4⟩:=h a ha
  obtain⟨b1,b2,b3,b4⟩:=h b hb
  refine hab (Prod.ext ?_ ?_)<;>omega
 have:=ia 24012 _ hmap (fun y hy=>by
  obtain⟨x,hx,rfl⟩:=List.mem_map.mp hy
  obtain⟨a1,a2,a3,a4⟩:=h x hx
  omega)
 rwa [Dy]at this
section
variable (nx:Pl->Nat->Option Pl) (s:Pl)
variable {nx s}
end
end Bfs
namespace Bfs
inductive Rw(S:Pl->Pl->Prop):Nat->Pl->Pl->Prop
 | nil {x:Pl}:Rw S 0 x x
 | snoc {n:Nat} {x y z:Pl}:Rw S n x y->S y z->Rw S (n+1) x z
theorem Rw.trans{S:Pl->Pl->Prop}{n k:Nat}{x y z:Pl}(h:Rw S n x y)(g:Rw S k y z):Rw S (n+k) x z:=by
 induction g with
 | nil=>exact h
 | snoc _ hs ih=>exact .snoc (ih h) hs
theorem Rw.imp{S S':Pl->Pl->Prop}(hS:∀a c,S a c->S' a c){n:Nat}{x y:Pl}(h:Rw S n x y):Rw S' n x y:=by
 induction h with
 | nil=>exact .nil
 | snoc _ hs ih=>exact .snoc ih (hS _ _ hs)
theorem Rw.fn{S:Pl->Pl->Prop}{n:Nat}{x y:Pl}(h:Rw S n x y):∃w:Nat->Pl,w 0=x/\w n=y/\∀i,i<n->S (w i) (w (i+1)):=by
 induction h with
 | @nil x=>exact⟨fun _=>x,rfl,rfl,fun i hi=>absurd hi (Nat.not_lt_zero _)⟩
 | @snoc n x y z _ hs ih=>
  obtain⟨w,h0,hn,hw⟩:=ih
  refine⟨fun i=>if i<=n then w i else z,by simp[h0],(by show(if n+1<=n then w (n+1)else z)=z;rw[if_neg (by omega)]),fun i hi=>?_⟩
  try dsimp only
  rcases Nat.lt_or_ge i n with l | l
  ·rw[if_pos (by omega),if_pos (by omega)]
   exact hw i l
  ·have:i=n:=by omega
   subst this
   rw[if_pos (DR _),if_neg (by omega),hn]
   exact hs
theorem pq{S:Pl->Pl->Prop}{w:Nat->Pl}{i:Nat}:∀(k:Nat),(∀j,i<=j->j<i+k->S (w j) (w (j+1)))->Rw S k (w i) (w (i+k))
 | 0,_=>.nil
 | k+1,h=>.snoc (pq k fun j h1 h2=>h j h1 (by omega)) (h (i+k) (by omega) (by omega))
theorem iI{S:Pl->Pl->Prop}{w:Nat->Pl}{i j:Nat}(hij:i<=j)(h:∀k,i<=k->k<j->S (w k) (w (k+1))):Rw S (j-i) (w i) (w j):=by
 have:=pq (S:=S) (w:=w) (i:=i) (j-i) (fun k h1 h2=>h k h1 (by omega))
 rwa [show i+(j-i)=j by omega]at this
theorem iu{h:Nat->Int}{l:Int}:∀(P:Nat),(∀i,i<P->h (i+1)<=h i+1)->h 0<=l->l<=h P->∃u,u<=P/\h u=l/\∀i,u<i->i<=P->l<h i
 | 0,_,h0,hP=>⟨0,DR _,by omega,fun i h1 h2=>by omega⟩
 | P+1,hs,h0,hP=>by
  by_cases e:h (P+1)=l
  ·exact⟨P+1,DR _,e,fun i h1 h2=>by omega⟩
  ·have:=hs P (by omega)
   obtain⟨u,hu,hl,hi⟩:=iu P (fun i hi=>hs i (by omega)) h0 (by omega)
   refine⟨u,by omega,hl,fun i h1 h2=>?_⟩
   rcases Nat.lt_or_ge P i with g | g
   ·have:i=P+1:=by omega
    subst this
    omega
   ·exact hi i h1 g
theorem pK{h:Nat->Int}{l:Int}{P n:Nat}(hP:P<=n)(hs:∀i,P<=i->i<n->h i<=h (i+1)+1)(h0:h n<=l)(hl:l<=h P):∃d,P<=d/\d<=n/\h d=l/\∀i,P<=i->i<d->l<h i:=by
 obtain⟨u,hu,hul,hui⟩:=iu (h:=fun i=>h (n-i)) (l:=l) (n-P) (fun i hi=>by
  have:=hs (n-(i+1)) (by omega) (by omega)
  rwa [show n-(i+1)+1=n-i by omega]at this) (by simpa using h0) (by
  try dsimp only
  rw[show n-(n-P)=P by omega];exact hl)
 refine⟨n-u,by omega,by omega,hul,fun i h1 h2=>?_⟩
 have:=hui (n-i) (by omega) (by omega)
 (try dsimp only at this)
 rwa [show n-(n-i)=i by omega]at this
theorem code_inj{m r s r' s':Int}(hs:0<=s)(hs1:s<m)(hs':0<=s')(hs1':s'<m)(e:r*m+s=r'*m+s'):r=r'/\s=s':=by
 have h1:s=s':=by
  have:=congrArg (· % m) e
  (try dsimp only at this)
  rw[Int.add_comm,Int.add_mul_emod_self_right,Int.add_comm (r'*m),Int.add_mul_emod_self_right,Int.emod_eq_of_lt hs hs1,Int.emod_eq_of_lt hs' hs1']at this
  exact this
 refine⟨?_,h1⟩
 have h2:r*m=r'*m:=by omega
 exact Int.eq_of_mul_eq_mul_right (by omega) h2
theorem nK{m r s:Int}(hr:0<=r)(hr1:r<m)(hs:0<=s)(hs1:s<m):0<=r*m+s/\r*m+s<m*m:=by
 have h1:0<=r*m:=Int.mul_nonneg hr (by omega)
 have h2:(r+1)*m<=m*m:=Int.mul_le_mul_of_nonneg_right (by omega) (by omega)
 rw[Int.add_mul,Int.one_mul]at h2
 omega
theorem twice{K:Nat}(code:Nat->Nat)(h:∀j,j<=K->code j<K):∃i j,i<j/\j<=K/\code i=code j:=by
 refine Classical.byContradiction fun no=>?_
 have hn:((List.range (K+1)).map code).Nodup:=by
  unfold List.Nodup
  rw[List.pairwise_map]
  refine List.Pairwise.imp_of_mem ?_ (List.pairwise_lt_range (n:=K+1))
  intro a b ha hb hab e
  exact no ⟨a,b,hab,by have:=List.mem_range.mp hb;omega,e⟩
 have:=ia K _ hn (fun x hx=>by
  obtain⟨j,hj,rfl⟩:=List.mem_map.mp hx
  exact h j (by have:=List.mem_range.mp hj;omega))
 rw[Dy,List.length_range]at this
 omega
theorem cut{S:Pl->Pl->Prop}{m:Int}(hm:0<m)(h1:∀x y,S x y->y.2<=x.2+1/\x.2<=y.2+1)(h2:∀x y c,S x y->0<=c->1<=x.2-c->1<=y.2-c->S (x.1,x.2-c) (y.1,y.2-c))
  (h3:∀x y,S x y->0<=y.1/\y.1<m) {b:Int} (hb:0<=b):∀(n:Nat) (x g:Pl),Rw S n x g->0<=x.1->x.1<m->x.2<=b->g.2<=b->∃n',n'<=n/\Rw (fun a c=>S a c/\c.2<=b+m*m) n' x g:=by
 intro n
 induction n using Nat.strongRecOn with
 | _ n ih=>
  intro x g hw x0 x1 xb gb
  obtain⟨w,hw0,hwn,hws⟩:=hw.fn
  by_cases hall:∀i,i<=n->(w i).2<=b+m*m
  ·refine⟨n,DR _,?_⟩
   have:=iI (S:=fun a c=>S a c/\c.2<=b+m*m) (w:=w) (Nat.zero_le n) (fun k _ hk=>⟨hws k hk,hall (k+1) (by omega)⟩)
   rw[hw0,hwn]at this
   exact this
  ·obtain⟨P,hP⟩:=Classical.not_forall.mp hall
   obtain⟨hPn,hPh⟩:P<=n/\b+m*m<(w P).2:=by
    by_cases c:P<=n
    ·exact⟨c,by
      by_cases d:(w P).2<=b+m*m
      ·exact absurd (fun _=>d) hP
      ·omega⟩
    ·exact absurd (fun z=>absurd z c) hP
   have hmm:0<=m*m:=Int.mul_nonneg (by omega) (by omega)
   have room:∀i,i<=n->0<=(w i).1/\(w i).1<m:=by
    intro i hi
    cases i with
    | zero=>rw[hw0];exact⟨x0,x1⟩
    | succ i=>exact h3 _ _ (hws i (by omega))
   have hu:∀j:Nat,∃u,(j<=(m*m).toNat->u<=P/\(w u).2=b+1+j/\∀i,u<i->i<=P->b+1+j<(w i).2):=by
    intro j
    by_cases hj:j<=(m*m).toNat
    ·obtain⟨u,a1,a2,a3⟩:=iu (h:=fun i=>(w i).2) (l:=b+1+j) P (fun i hi=>(h1 _ _ (hws i (by omega))).1) (by(try dsimp only);rw[hw0];omega) (by(try dsimp only);omega)
     exact⟨u,fun _=>⟨a1,a2,a3⟩⟩
    ·exact⟨0,fun z=>absurd z hj⟩
   have hd:∀j:Nat,∃d,(j<=(m*m).toNat->P<=d/\d<=n/\(w d).2=b+1+j/\∀i,P<=i->i<d->b+1+j<(w i).2):=by
    intro j
    by_cases hj:j<=(m*m).toNat
    ·obtain⟨d,a1,a2,a3,a4⟩:=pK (h:=fun i=>(w i).2) (l:=b+1+j) hPn (fun i _ hi=>(h1 _ _ (hws i hi)).2) (by(try dsimp only);rw[hwn];omega) (by(try dsimp only);omega)
     exact⟨d,fun _=>⟨a1,a2,a3,a4⟩⟩
    ·exact⟨0,fun z=>absurd z hj⟩
   obtain⟨u,hu⟩:=Classical.axiomOfChoice hu
   obtain⟨d,hd⟩:=Classical.axiomOfChoice hd
   obtain⟨i,j,hij,hjK,hcode⟩:=twice (K:=(m*m).toNat) (fun j=>((w (u j)).1*m+(w (d j)).1).toNat) (fun j hj=>by
    have a1:=hu j hj
    have a2:=hd j hj
    have r1:=room (u j) (by omega)
    have r2:=room (d j) (by omega)
    have:=nK r1.1 r1.2 r2.1 r2.2
    try dsimp only
    omega)
   obtain⟨ui1,ui2,ui3⟩:=hu i (by omega)
   obtain⟨uj1,uj2,uj3⟩:=hu j hjK
   obtain⟨di0,di1,di2,di3⟩:=hd i (by omega)
   obtain⟨dj0,dj1,dj2,dj3⟩:=hd j hjK
   have hr:(w (u i)).1=(w (u j)).1/\(w (d i)).1=(w (d j)).1:=by
    have r1:=room (u i) (by omega)
    have r2:=room (d i) (by omega)
    have r3:=room (u j) (by omega)
    have r4:=room (d j) (by omega)
    have c1:=nK r1.1 r1.2 r2.1 r2.2
    have c2:=nK r3.1 r3.2 r4.1 r4.2
    (try dsimp only at hcode)
    exact code_inj r2.1 r2.2 r4.1 r4.2 (by omega)
   have huu:u i<u j:=by
    rcases Nat.lt_trichotomy (u i) (u j)with z | z | z
    ·exact z
    ·rw[z]at ui2;omega
    ·have:=uj3 (u i) z ui1;omega
   have hdd:d j<d i:=by
    rcases Nat.lt_trichotomy (d j) (d i)with z | z | z
    ·exact z
    ·rw[z]at dj2;omega
    ·have:=dj3 (d i) di0 z;omega
   have s1:Rw S (u i-0) (w 0) (w (u i)):=iI (Nat.zero_le _) (fun k _ hk=>hws k (by omega))
   have s3:Rw S (n-d i) (w (d i)) (w n):=iI di1 (fun k _ hk=>hws k hk)
   have hi:∀k,u j<=k->k<=d j->b+1+j<=(w k).2:=by
    intro k k1 k2
    rcases Nat.lt_or_ge k P with z | z
    ·rcases Nat.lt_or_ge (u j) k with y | y
     ·have:=uj3 k y (by omega);omega
     ·have:k=u j:=by omega
      subst this;omega
    ·rcases Nat.lt_or_ge k (d j)with y | y
     ·have:=dj3 k z y;omega
     ·have:k=d j:=by omega
      subst this;omega
   have s2:Rw S (d j-u j) ((w (u j)).1,(w (u j)).2-(j-i:Nat)) ((w (d j)).1,(w (d j)).2-(j-i:Nat)):=
    iI (S:=S) (w:=fun k=>((w k).1,(w k).2-(j-i:Nat))) (show u j<=d j by omega) (fun k k1 k2=>h2 _ _ _ (hws k (by omega)) (by omega) (by have:=hi k k1 (by omega);omega) (by have:=hi (k+1) (by omega) (by omega);omega))
   have e1:((w (u j)).1,(w (u j)).2-((j-i:Nat):Int))=w (u i):=Prod.ext hr.1.symm (by(try dsimp only);omega)
   have e2:((w (d j)).1,(w (d j)).2-((j-i:Nat):Int))=w (d i):=Prod.ext hr.2.symm (by(try dsimp only);omega)
   rw[e1,e2]at s2
   have s:=(s1.trans s2).trans s3
   rw[hw0,hwn]at s
   obtain⟨n',hn',hr'⟩:=ih _ (by omega) x g s x0 x1 xb gb
   exact⟨n',by omega,hr'⟩
end Bfs
namespace Bfs
end Bfs
namespace Rnd
inductive Wg{α:Type}(S:α->α->Prop):Nat->α->α->Prop
 | nil {x:α}:Wg S 0 x x
 | snoc {n:Nat} {x y z:α}:Wg S n x y->S y z->Wg S (n+1) x z
theorem Wg.trans{α:Type}{S:α->α->Prop}{n k:Nat}{x y z:α}(h:Wg S n x y)(g:Wg S k y z):Wg S (n+k) x z:=by
 induction g with
 | nil=>exact h
 | snoc _ hs ih=>exact .snoc (ih h) hs
theorem Wg.fn{α:Type}{S:α->α->Prop}{n:Nat}{x y:α}(h:Wg S n x y):∃w:Nat->α,w 0=x/\w n=y/\∀i,i<n->S (w i) (w (i+1)):=by
 induction h with
 | @nil x=>exact⟨fun _=>x,rfl,rfl,fun i hi=>absurd hi (Nat.not_lt_zero _)⟩
 | @snoc n x y z _ hs ih=>
  obtain⟨w,h0,hn,hw⟩:=ih
  refine⟨fun i=>if i<=n then w i else z,by simp[h0],(by show(if n+1<=n then w (n+1)else z)=z;rw[if_neg (by omega)]),fun i hi=>?_⟩
  try dsimp only
  rcases Nat.lt_or_ge i n with l | l
  ·rw[if_pos (by omega),if_pos (by omega)]
   exact hw i l
  ·have:i=n:=by omega
   subst this
   rw[if_pos (DR _),if_neg (by omega),hn]
   exact hs
theorem qk{α:Type}{S:α->α->Prop}{w:Nat->α}{i:Nat}:∀(k:Nat),(∀j,i<=j->j<i+k->S (w j) (w (j+1)))->Wg S k (w i) (w (i+k))
 | 0,_=>.nil
 | k+1,h=>.snoc (qk k fun j h1 h2=>h j h1 (by omega)) (h (i+k) (by omega) (by omega))
theorem seg{α:Type}{S:α->α->Prop}{w:Nat->α}{n i j:Nat}(hS:∀k,k<n->S (w k) (w (k+1)))(hij:i<=j)(hj:j<=n):Wg S (j-i) (w i) (w j):=by
 have:=qk (S:=S) (w:=w) (i:=i) (j-i) (fun k h1 h2=>hS k (by omega))
 rwa [show i+(j-i)=j by omega]at this
theorem yg{α:Type}{S:α->α->Prop}{I:α->Prop}{N:Nat}(code:α->Nat)(hc:∀a,I a->code a<N)(inj:∀a b,I a->I b->code a=code b->a=b)(hI:∀a b,S a b->I b):∀(k:Nat) (x y:α),I x->Wg S k x y->∃k',k'<N/\Wg S k' x y:=by
 intro k
 induction k using Nat.strongRecOn with
 | _ k ih=>
  intro x y hx h
  by_cases hk:k<N
  ·exact⟨k,hk,h⟩
  ·obtain⟨w,h0,hn,hw⟩:=h.fn
   have hIn:∀i,i<=k->I (w i):=fun i hi=>by
    cases i with
    | zero=>rw[h0];exact hx
    | succ i=>exact hI _ _ (hw i (by omega))
   obtain⟨i,j,hij,hj,e⟩:=Bfs.twice (K:=N) (fun j=>code (w j)) (fun j hj=>hc _ (hIn j (by omega)))
   have e':=inj _ _ (hIn i (by omega)) (hIn j (by omega)) e
   have a1:=seg hw (Nat.zero_le i) (by omega)
   have a2:=seg hw (show j<=k by omega) (DR k)
   rw[←e']at a2
   have a3:=a1.trans a2
   rw[h0,hn]at a3
   exact ih _ (by omega) x y hx a3
section
variable {n:Nat} {A:Nat->Nat->Prop} (hA:∀i j,A i j->i<n/\j<n)
def Pr(A:Nat->Nat->Prop)(c:Nat)(a b:Nat×Nat):Prop:=A a.1 b.1/\b.2=(a.2+1) % c
theorem lift{c k:Nat}{i j:Nat}(h:Wg A k i j):Wg (Pr A c) k (i,0 % c) (j,k % c):=by
 induction h with
 | nil=>exact .nil
 | @snoc k x y z _ hs ih=>exact .snoc ih ⟨hs,by show(k+1) % c=(k % c+1) % c;rw[Nat.mod_add_mod]⟩
theorem drop{c k:Nat}{a b:Nat×Nat}(h:Wg (Pr A c) k a b):a.2 % c=a.2->Wg A k a.1 b.1/\b.2=(a.2+k) % c:=by
 induction h with
 | nil=>exact fun e=>⟨.nil,e.symm⟩
 | @snoc k x y z _ hs ih=>
  intro e
  obtain⟨h1,h2⟩:=ih e
  refine⟨.snoc h1 hs.1,?_⟩
  rw[hs.2,h2,Nat.mod_add_mod,Nat.add_assoc]
include hA
theorem uS{c k i j:Nat}(hc:1<=c)(hi:i<n)(h:Wg A k i j):∃k',k'<n*c/\k' % c=k % c/\Wg A k' i j:=by
 obtain⟨k',hk,hw⟩:=yg (S:=Pr A c) (I:=fun a=>a.1<n/\a.2<c) (N:=n*c) (fun a=>a.1*c+a.2) (fun a ha=>by
   have:(a.1+1)*c<=n*c:=Nat.mul_le_mul_right _ ha.1
   rw[Nat.succ_mul]at this
   have:=ha.2
   show a.1*c+a.2<n*c
   omega) (fun a b ha hb e=>by
   have e':a.1*c+a.2=b.1*c+b.2:=e
   have e2:a.2=b.2:=by
    have:=congrArg (· % c) e'
    try dsimp only at this
    rwa [Nat.mul_add_mod_self_right,Nat.mul_add_mod_self_right,Nat.mod_eq_of_lt ha.2,Nat.mod_eq_of_lt hb.2]at this
   have e1:a.1=b.1:=Nat.eq_of_mul_eq_mul_right (show 0<c by omega) (by omega)
   exact Prod.ext e1 e2) (fun a b h=>⟨(hA _ _ h.1).2,by rw[h.2];exact Nat.mod_lt _ (by omega)⟩) k _ _ ⟨hi,Nat.mod_lt _ (by omega)⟩ (lift h)
 obtain⟨h1,h2⟩:=drop hw (Nat.mod_mod _ _)
 refine⟨k',hk,?_,h1⟩
 rw[Nat.zero_mod,Nat.zero_add]at h2
 exact h2.symm
theorem rS{k i j:Nat}(hi:i<n)(h:Wg A k i j):j<n:=by
 cases h with
 | nil=>exact hi
 | snoc _ hs=>exact(hA _ _ hs).2
def Sm(A:Nat->Nat->Prop)(u v:Nat):Prop:=(∃k,Wg A k u v)/\∃k,Wg A k v u
omit hA in
theorem Sm.symm{u v:Nat}(h:Sm A u v):Sm A v u:=⟨h.2,h.1⟩
omit hA in
theorem Sm.trans{u v z:Nat}(h:Sm A u v)(g:Sm A v z):Sm A u z:=by
 obtain⟨⟨a,ha⟩,b,hb⟩:=h
 obtain⟨⟨c,hc⟩,d,hd⟩:=g
 exact⟨⟨_,ha.trans hc⟩,_,hd.trans hb⟩
omit hA in
theorem Sm.refl{u:Nat}:Sm A u u:=⟨⟨0,.nil⟩,0,.nil⟩
omit hA in
theorem wy{P:Nat->Prop}:∀k,P k->∃q,P q/\∀u,P u->q<=u:=by
 intro k
 induction k using Nat.strongRecOn with
 | _ k ih=>
  intro hk
  by_cases h:∃u,u<k/\P u
  ·obtain⟨u,hu,pu⟩:=h
   exact ih u hu pu
  ·exact⟨k,hk,fun u hu=>Classical.byContradiction fun z=>h ⟨u,by omega,hu⟩⟩
def Rp(A:Nat->Nat->Prop)(q:Nat):Prop:=(∃k,1<=k/\Wg A k q q)/\∀u,Sm A q u->q<=u
omit hA in
theorem yo{u k:Nat}(hk:1<=k)(h:Wg A k u u):∃q,Rp A q/\Sm A u q:=by
 obtain⟨q,hq,hl⟩:=wy (P:=fun q=>Sm A u q) u Sm.refl
 obtain⟨⟨a,ha⟩,b,hb⟩:=id hq
 exact⟨q,⟨⟨b+k+a,by omega,(hb.trans h).trans ha⟩,fun v hv=>hl v (hq.trans hv)⟩,hq⟩
theorem ring{q:Nat}(hq:q<n)(h:Rp A q):∃(c:Nat) (L:List Nat),1<=c/\Wg A c q q/\L.length=c/\L.Nodup/\∀v∈L,v<n/\Sm A q v:=by
 obtain⟨⟨k,hk,hw⟩,_⟩:=h
 obtain⟨c,⟨hc,hcw⟩,hl⟩:=wy (P:=fun k=>1<=k/\Wg A k q q) k ⟨hk,hw⟩
 obtain⟨w,h0,hn,hS⟩:=hcw.fn
 refine⟨c,(List.range c).map w,hc,hcw,by simp,?_,?_⟩
 ·unfold List.Nodup
  rw[List.pairwise_map]
  refine List.Pairwise.imp_of_mem ?_ (List.pairwise_lt_range (n:=c))
  intro i j hi hj hij e
  have hj':=List.mem_range.mp hj
  have a1:=seg hS (Nat.zero_le i) (by omega)
  have a2:=seg hS (show j<=c by omega) (DR c)
  rw[←e]at a2
  have a3:=a1.trans a2
  rw[h0,hn]at a3
  have:=hl _ ⟨by omega,a3⟩
  omega
 ·intro v hv
  obtain⟨i,hi,rfl⟩:=List.mem_map.mp hv
  have hi':=List.mem_range.mp hi
  have a1:=seg hS (Nat.zero_le i) (by omega)
  have a2:=seg hS (show i<=c by omega) (DR c)
  rw[h0]at a1
  rw[hn]at a2
  exact⟨rS hA hq a1,⟨_,a1⟩,_,a2⟩
theorem rings(hn:n<=12):∀k,k<=n->∃(L:List Nat) (P:Nat),L.Nodup/\(∀v∈L,v<n/\∃q,q<k/\Rp A q/\Sm A q v)/\1<=P/\P ^ 3<=3 ^ L.length/\∀q,q<k->Rp A q->∃c,1<=c/\c<=n/\c ∣ P/\Wg A c q q:=by
 intro k
 induction k with
 | zero=>exact fun _=>⟨[],1,List.nodup_nil,fun v h=>(nomatch h),DR _,by decide,fun q h=>absurd h (Nat.not_lt_zero _)⟩
 | succ k ih=>
  intro hk
  obtain⟨L,P,nd,hL,hP,h3,hq⟩:=ih (by omega)
  by_cases hr:Rp A k
  ·obtain⟨c,M,hc,hw,hM,ndM,hMs⟩:=ring hA (show k<n by omega) hr
   have hcn:c<=n:=by
    rw[←hM]
    exact Bfs.ia n M ndM fun v hv=>(hMs v hv).1
   refine⟨L++M,P*c,?_,?_,Nat.mul_pos hP hc,?_,?_⟩
   ·rw[List.nodup_append]
    refine⟨nd,ndM,fun a ha b hb e=>?_⟩
    subst e
    obtain⟨_,q,hqk,hqr,hqs⟩:=hL a ha
    have hs:Sm A k q:=(hMs a hb).2.trans hqs.symm
    have:=hr.2 q hs
    omega
   ·intro v hv
    rcases DU.mp hv with z | z
    ·obtain⟨h1,q,h2,h3⟩:=hL v z
     exact⟨h1,q,by omega,h3⟩
    ·exact⟨(hMs v z).1,k,by omega,hr,(hMs v z).2⟩
   ·rw[Nat.mul_pow,DP,hM,Nat.pow_add]
    have hc3:∀c,c<13->c ^ 3<=3 ^ c:=by decide
    exact Nat.mul_le_mul h3 (hc3 c (by omega))
   ·intro q hqk hqr
    by_cases e:q=k
    ·subst e
     exact⟨c,hc,hcn,⟨P,Nat.mul_comm _ _⟩,hw⟩
    ·obtain⟨d,h1,h2,h4,h5⟩:=hq q (by omega) hqr
     exact⟨d,h1,h2,Nat.dvd_trans h4 ⟨c,rfl⟩,h5⟩
  ·refine⟨L,P,nd,fun v hv=>?_,hP,h3,fun q hqk hqr=>?_⟩
   ·obtain⟨h1,q,h2,h3⟩:=hL v hv
    exact⟨h1,q,by omega,h3⟩
   ·by_cases e:q=k
    ·subst e
     exact absurd hqr hr
    ·exact hq q (by omega) hqr
omit hA in
theorem times{c q:Nat}(h:Wg A c q q):∀t,Wg A (t*c) q q
 | 0=>by rw[Nat.zero_mul];exact .nil
 | t+1=>by rw[Nat.succ_mul];exact(times h t).trans h
theorem round(hn:n<=12):∃P,1<=P/\P<=81/\∀s r k k',s<n->n<=k->2*(n*n)<=k'->k % P=k' % P->Wg A k s r->Wg A k' s r:=by
 obtain⟨L,P,nd,hL,hP,h3,hq⟩:=rings hA hn n (DR _)
 have hl:L.length<=n:=Bfs.ia n L nd fun v hv=>(hL v hv).1
 refine⟨P,hP,?_,?_⟩
 ·refine Classical.byContradiction fun z=>?_
  have h1:82 ^ 3<=P ^ 3:=Nat.pow_le_pow_left (by omega) 3
  have h2:3 ^ L.length<=3 ^ 12:=Nat.pow_le_pow_right (by decide) (by omega)
  have:82 ^ 3<=3 ^ 12:=Eb h1 (Eb h3 h2)
  exact absurd this (by decide)
 ·intro s r k k' hs hk hk' hmod h
  obtain⟨w,h0,hn',hS⟩:=h.fn
  have hIn:∀i,i<=k->w i<n:=fun i hi=>by
   cases i with
   | zero=>rw[h0];exact hs
   | succ i=>exact(hA _ _ (hS i (by omega))).2
  obtain⟨i,j,hij,hj,e⟩:=Bfs.twice (K:=n) w (fun j hj=>hIn j (by omega))
  have loop:=seg hS (Nat.le_of_lt hij) (show j<=k by omega)
  rw[←e]at loop
  obtain⟨q,hr,⟨⟨a,ha⟩,b,hb⟩⟩:=yo (by omega) loop
  have hqn:q<n:=rS hA (hIn i (by omega)) ha
  obtain⟨c,hc,hcn,hcP,hcw⟩:=hq q hqn hr
  have t1:=seg hS (Nat.zero_le i) (show i<=k by omega)
  have t2:=seg hS (show i<=k by omega) (DR k)
  rw[h0]at t1
  rw[hn']at t2
  have u1:=t1.trans ha
  have u2:=(hb.trans (times (ha.trans hb) (c-1))).trans t2
  obtain⟨p1,l1,m1,w1⟩:=uS hA hc hs u1
  obtain⟨p2,l2,m2,w2⟩:=uS hA hc hqn u2
  have hnc:n*c<=n*n:=Nat.mul_le_mul_left _ hcn
  have hle:p1+p2<=k':=by omega
  have hm:(p1+p2) % c=k' % c:=by
   have e1:(p1+p2) % c=((i-0+a)+(b+(c-1)*(a+b)+(k-i))) % c:=by
    rw[Nat.add_mod,m1,m2,←Nat.add_mod]
   have e2:(i-0+a)+(b+(c-1)*(a+b)+(k-i))=k+c*(a+b):=by
    obtain⟨d,rfl⟩:∃d,c=d+1:=⟨c-1,by omega⟩
    rw[Nat.add_sub_cancel,Nat.succ_mul]
    omega
   rw[e1,e2,Nat.add_mul_mod_self_left]
   obtain⟨d,rfl⟩:=hcP
   rw[←Nat.mod_mul_right_mod k c d,hmod,Nat.mod_mul_right_mod]
  obtain⟨t,ht⟩:∃t,k'=p1+p2+t*c:=by
   refine⟨(k'-(p1+p2)) / c,?_⟩
   have hd:(k'-(p1+p2)) % c=0:=(Nat.sub_mod_eq_zero_of_mod_eq hm.symm)
   have:=Nat.div_add_mod (k'-(p1+p2)) c
   rw[hd,Nat.mul_comm]at this
   omega
  rw[ht,show p1+p2+t*c=p1+t*c+p2 by omega]
  exact(w1.trans (times hcw t)).trans w2
end
open St in
theorem zJ{f:Nat->Bool}{st low b P:Nat}(h:Least f st low)(hP:1<=P)(hp:bq f b P):st ∣ P/\low<=b:=by
 have hd:st ∣ P:=by
  have p1:bq f (max b low) P:=fun x hx=>hp x (by omega)
  have p2:bq f (max b low) st:=fun x hx=>h.per x (by omega)
  have p3:=p1.mod p2
  have hs:=h.pos
  by_cases z:P % st=0
  ·exact Nat.dvd_of_mod_eq_zero z
  ·have:=h.step (P % st) _ (by omega) p3
   have:=Nat.mod_lt P (show st>0 by omega)
   omega
 refine⟨hd,h.base b fun x hx=>?_⟩
 have q1:=hp.times low x hx
 have q2:=hp.times low (x+st) (by omega)
 have hge:low<=low*P:=Nat.le_mul_of_pos_right low hP
 have q3:=h.per (x+low*P) (by omega)
 rw[←q1,←q2,←q3]
 congr 1
 omega
end Rnd
namespace My
open PySem L2 St
def stq (i : Nat) : Stmt := PySem.Challenge.pw_stairrooms_k30_whole_next_levels.main.body.getD i (.Pass ⟨0, 0, 0, 0⟩)
local macro_rules | `(tactic| walk_at "cond") => `(tactic| first | decide | omega | (dsimp only; omega) | (unfold jQ; omega) | (unfold qU; exact ⟨by decide, by decide, by decide⟩) | (dsimp only; exact ⟨by omega, by omega⟩) | exact .inr ⟨by decide, by decide⟩ | exact .inl ⟨by decide, by decide⟩ | (unfold SmallR; omega))
local macro_rules | `(tactic| walk_at "r") => do
 let ts ← ("seq ret retN asg drop ifS next name var c op un CB cons nil ints test B exb not and or andV orV notV ifE yes I0 I U EqI NeI EqB NeB call BM tup lst sl noPart part exi chain comp iL iT i1 i2 i3 for tTru intB max2 min2 sub gcons gnil aug ipI zip rev par par2 lam calV raise fs try bseq bnext bplain bif bcall enum gget gin revL leS disp dget lrev disp1 din dnin dput min3 iS iD bm0 revS iD2 iLT thaw iD3 iDL dgt2 fs3 fs5".splitOn " ").toArray.mapM fun n =>
  let i := Lean.mkIdent (.mkSimple ("rd_" ++ n))
  if n == "var" || n == "aug" then `(tacticSeq| ((with_reducible apply $i); (exact rfl)))
  else if n == "I" then `(tacticSeq| ((with_reducible apply $i); (walk_at "cond")))
  else `(tacticSeq| with_reducible refine $i ?_)
 `(tactic| repeat (first $[| $ts]* | dsimp only))
def bZ(H:Hp)(p:Addr)(kk:List (List Key)):Prop:=∃bs:List Addr,H p=some (.tup (bs.map V.ref))/\bs.length=kk.length/\∀(j:Nat) (b:Addr) (k:List Key),bs[j]?=some b->kk[j]?=some k->H b=some (.tup (k.map kV))
theorem bZ.ext{H H':Hp}{p:Addr}{kk:List (List Key)}(e:Ext H H')(h:bZ H p kk):bZ H' p kk:=by
 obtain⟨bs,h1,h2,h3⟩:=h
 exact⟨bs,e _ _ h1,h2,fun j b k e1 e2=>e _ _ (h3 j b k e1 e2)⟩
structure Blt(mg:Str->Option Value):Prop where
 len_:mg "len" = none
 isinstance_:mg "isinstance" = none
 tuple_:mg "tuple" = none
 list_:mg "list" = none
 int_:mg "int" = none
 bool_:mg "bool" = none
 range_:mg "range" = none
 zip_:mg "zip" = none
 max_:mg "max" = none
 min_:mg "min" = none
 abs_:mg "abs" = none
 all_:mg "all" = none
 enumerate_:mg "enumerate" = none
 set_:mg "set" = none
 str_:mg "str" = none
 any_:mg "any" = none
 sorted_:mg "sorted" = none
def isInt:V->Bool
 | .int _=>true
 | _=>false
theorem A9{H:Hp}{v:V}{n:String}(h:eG H v n):∃b c,g8 n "int" = some b/\g8 n "bool" = some c/\(b && !c)=isInt v:=by
 cases v with
 | non=>cases(show n = "NoneType" from h);exact⟨_,_,rfl,rfl,rfl⟩
 | bl b=>cases(show n = "bool" from h);exact⟨_,_,rfl,rfl,rfl⟩
 | int i=>cases(show n = "int" from h);exact⟨_,_,rfl,rfl,rfl⟩
 | str z=>cases(show n = "str" from h);exact⟨_,_,rfl,rfl,rfl⟩
 | ref a=>rcases h with⟨rfl,xs,e⟩ | ⟨rfl,xs,e⟩<;>exact⟨_,_,rfl,rfl,rfl⟩
 | _=>exact False.elim h
def jh(K:Du):Sp:=fun vs H Q _=>∃v n,vs=[v]/\eG H v n/\Q (.bl (isInt v)) H
abbrev kC:Stmt:=stq 9
theorem tP:FnScope ["thing"] ["thing"] (aI kC):=⟨rfl,rfl,rfl,by decide +kernel,rfl,by decide +kernel,by decide +kernel⟩
theorem zp{P:Program}{w:World}{K:Du}{mg:Str->Option Value}{base:Heap}(D:Dfn K mg "is_whole" kC ["thing"])(T:Blt mg):Cal P w K mg base "is_whole" 1 ["thing"] (jh K):=by
 have nd:=(tP).nd
 refine D.ok tP (fun vs H Q E h=>?_) (fun X hX H vs Q E h=>?_)
 ·obtain⟨v,n,rfl,_⟩:=h;rfl
 ·obtain⟨f,cdv,A,outer,s,H0,E0,rfl,hr⟩:=hX
  obtain⟨v,n,rfl,hk,q⟩:=h
  obtain⟨b,c,hb,hc,e⟩:=A9 hk
  refine⟨_,(ao (aE (dH (aW cS rfl T.isinstance_ PyProof.Rows.boot_isinstance (aa (pv 0) (aa (cO (v:=.ty "int") rfl T.int_ PyProof.Rows.boot_int rfl) af))) (dM (uq (aW cS rfl T.isinstance_ PyProof.Rows.boot_isinstance (aa (pv 0) (aa (cO (v:=.ty "bool") rfl T.bool_ PyProof.Rows.boot_bool rfl) af)))))))),?_⟩
  walk_at "r"
  refine cV hk hb ?_
  walk_at "r"
  cases b with
  | false=>refine aA ?_;rw[←e]at q;exact q
  | true=>
   refine aG ?_
   walk_at "r"
   refine cV hk hc ?_
   walk_at "r"
   rw[←e]at q;exact q
structure Way where
 room:Int
 deed:Str
 other:Int
 sign:Str
 deriving DecidableEq
abbrev Way.key(w:Way):List Key:=[.inl w.room,.inr w.deed,.inl w.other,.inr w.sign]
abbrev Way.vs(w:Way):List V:=[.int w.room,.str w.deed,.int w.other,.str w.sign]
theorem Way.key_inj{w u:Way}(h:w.key=u.key):w=u:=by
 cases w;cases u
 simp only[Way.key,List.cons.injEq,Sum.inl.injEq,Sum.inr.injEq]at h
 obtain⟨rfl,rfl,rfl,rfl,_⟩:=h
 rfl
def uH(z:Str):Prop:=∃c:Nat,97<=c/\c<=122/\z=⟨#[c]⟩
def cg(z:Str):Prop:=z = "up"\/z = "down"\/z = "stay"\/z = "zero"
structure Way.Ok(m:Int)(w:Way):Prop where
 r0:0<=w.room
 r1:w.room<m
 o0:0<=w.other
 o1:w.other<m
 dd:cg w.deed
 sg:uH w.sign
structure HOuse(m:Int)(ws:List Way):Prop where
 m1:1<=m
 m12:m<=12
 few:ws.length<=100
 ok:∀w∈ws,w.Ok m
 nd:ws.Nodup
theorem HOuse.keys{m:Int}{ws:List Way}(h:HOuse m ws):(ws.map Way.key).Nodup:=by
 have:=h.nd
 unfold List.Nodup at this ⊢
 rw[List.pairwise_map]
 exact this.imp fun ne e=>ne (Way.key_inj e)
def bz(H:Hp)(v:V)(m:Int)(ws:List Way):Prop:=∃p q,v=.ref p/\H p=some (.tup [.int m,.ref q])/\bZ H q (ws.map Way.key)
theorem bz.ext{H H':Hp}{v:V}{m:Int}{ws:List Way}(e:Ext H H')(h:bz H v m ws):bz H' v m ws:=by
 obtain⟨p,q,rfl,h1,h2⟩:=h
 exact⟨p,q,rfl,e _ _ h1,h2.ext e⟩
theorem kg{n:Nat}(h:n<=1000):n<=sizeLine:=Eb h (by decide)
def m3(K:Du):Sp:=fun vs H Q _=>∃i m,vs=[.int i,.int m]/\0<=i/\i<m/\Q (.bl true) H
abbrev mC:Stmt:=stq 25
theorem rH:FnScope ["thing","many"] ["thing","many"] (aI mC):=⟨rfl,rfl,rfl,by decide +kernel,rfl,by decide +kernel,by decide +kernel⟩
theorem ze{P:Program}{w:World}{K:Du}{mg:Str->Option Value}{base:Heap}(D:Dfn K mg "is_room" mC ["thing","many"])(T:Blt mg)(C_is_whole:Cal P w K mg base "is_whole" 1 ["thing"] (jh K)):Cal P w K mg base "is_room" 2 ["thing","many"] (m3 K):=by
 have nd:=(rH).nd
 refine D.ok rH (fun vs H Q E h=>?_) (fun X hX H vs Q E h=>?_)
 ·obtain⟨i,m,rfl,_⟩:=h;rfl
 ·obtain⟨f,cdv,A,outer,s,H0,E0,rfl,hr⟩:=hX
  obtain⟨i,m,rfl,h0,h1,q⟩:=h
  refine⟨_,(ao (aE (dH (aC C_is_whole hr (aa (pv 0) af)) (dM (jD fZ dh ae (pv 0) (pv 1)))))),?_⟩
  walk_at "r"
  refine⟨_,"int",rfl,rfl,?_⟩
  refine rd_exb ?_
  refine aG ?_
  walk_at "r"
  rw[decide_eq_true h0]
  refine aG ?_
  walk_at "r"
  rw[decide_eq_true h1]
  exact q
def oy:List (Key×V):=[(.inr "up",.str "down"),(.inr "down",.str "up"),(.inr "stay",.str "stay"),(.inr "zero",.str "zero")]
theorem yE{w:World}{K:Du}{a:Addr}{t1 t2 t3 t4 t5 t6 t7 t8:Tok}{ep:Nat}(h:K.lookup a=some (gh w [("up",t1,.str "down" t2),("down",t3,.str "up" t4),("stay",t5,.str "stay" t6),("zero",t7,.str "zero" t8)] ep))(hs:(a == sysModules)=false):GDict w K a oy:=
 ⟨⟨_,_,h,.cons ⟨rfl,⟨_,rfl⟩⟩ (.cons ⟨rfl,⟨_,rfl⟩⟩ (.cons ⟨rfl,⟨_,rfl⟩⟩ (.cons ⟨rfl,⟨_,rfl⟩⟩ .nil)))⟩,by decide +kernel,hs⟩
def Af(z:Str):Str:=if z = "up" then "down" else if z = "down" then "up" else z
theorem yk{z:Str}(h:cg z):bB oy (.inr z)=some (.str (Af z)):=by
 rcases h with rfl | rfl | rfl | rfl<;>decide +kernel
def ve(K:Du):Sp:=fun vs H Q _=>∃z,vs=[.str z]/\cg z/\Q (.bl true) H
abbrev oV:Stmt:=stq 26
theorem sV:FnScope ["thing"] ["thing"] (aI oV):=⟨rfl,rfl,rfl,by decide +kernel,rfl,by decide +kernel,by decide +kernel⟩
theorem xt{P:Program}{w:World}{K:Du}{mg:Str->Option Value}{base:Heap}(D:Dfn K mg "is_deed" oV ["thing"])(T:Blt mg)(g_TURNED:∃a,mg "TURNED" = some (.ref a)/\GDict w K a oy):Cal P w K mg base "is_deed" 1 ["thing"] (ve K):=by
 have nd:=(sV).nd
 refine D.ok sV (fun vs H Q E h=>?_) (fun X hX H vs Q E h=>?_)
 ·obtain⟨z,rfl,_⟩:=h;rfl
 ·obtain⟨f,cdv,A,outer,s,H0,E0,rfl,hr⟩:=hX
  obtain⟨a_TURNED,m_TURNED,d_TURNED⟩:=g_TURNED
  obtain⟨z,rfl,hz,q⟩:=h
  refine⟨_,(ao (aE (dH (aW cS rfl T.isinstance_ PyProof.Rows.boot_isinstance (aa (pv 0) (aa (cO (v:=.ty "str") rfl T.str_ PyProof.Rows.boot_str rfl) af))) (dM (Bb (BD rfl m_TURNED d_TURNED (pv 0)) (by with_unfolding_all rfl)))))),?_⟩
  walk_at "r"
  refine cV (n:="str") rfl (b:=true) rfl ?_
  walk_at "r"
  refine aG ?_
  walk_at "r"
  refine⟨.inr z,rfl,?_⟩
  rw[yk hz]
  exact q
theorem CP {c : Nat} (h : 97 ≤ c) : (!decide (([c] : List Nat) < (Str.ofString "a").cps.toList)) = true := by
  have e : (Str.ofString "a").cps.toList = [97] := by decide +kernel
  rw [e, decide_eq_false (fun z => by rw [List.cons_lt_cons_iff] at z; rcases z with z | ⟨_, z⟩; · omega
                                      · cases z)]
  rfl
theorem yl {c : Nat} (h : c ≤ 122) : (!decide ((Str.ofString "z").cps.toList < ([c] : List Nat))) = true := by
  have e : (Str.ofString "z").cps.toList = [122] := by decide +kernel
  rw [e, decide_eq_false (fun z => by rw [List.cons_lt_cons_iff] at z; rcases z with z | ⟨_, z⟩; · omega
                                      · cases z)]
  rfl
def rD(K:Du):Sp:=fun vs H Q _=>∃z,vs=[.str z]/\uH z/\Q (.bl true) H
abbrev oi:Stmt:=stq 27
theorem uf:FnScope ["thing"] ["thing"] (aI oi):=⟨rfl,rfl,rfl,by decide +kernel,rfl,by decide +kernel,by decide +kernel⟩
theorem xE{P:Program}{w:World}{K:Du}{mg:Str->Option Value}{base:Heap}(D:Dfn K mg "is_sign" oi ["thing"])(T:Blt mg):Cal P w K mg base "is_sign" 1 ["thing"] (rD K):=by
 have nd:=(uf).nd
 refine D.ok uf (fun vs H Q E h=>?_) (fun X hX H vs Q E h=>?_)
 ·obtain⟨z,rfl,_⟩:=h;rfl
 ·obtain⟨f,cdv,A,outer,s,H0,E0,rfl,hr⟩:=hX
  obtain⟨z,rfl,⟨c,hc1,hc2,rfl⟩,q⟩:=h
  refine⟨_,(ao (aE (dH (aW cS rfl T.isinstance_ PyProof.Rows.boot_isinstance (aa (pv 0) (aa (cO (v:=.ty "str") rfl T.str_ PyProof.Rows.boot_str rfl) af))) (dH (dU b9 (aW B6 rfl T.len_ PySem.boot_len (aa (pv 0) af)) ae (aQ _)) (dM (jD vw vw aS (pv 0) aS)))))),?_⟩
  walk_at "r"
  refine cV (n:="str") rfl (b:=true) rfl ?_
  walk_at "r"
  refine aG ?_
  walk_at "r"
  refine⟨_,rfl,kg (show 1<=1000 by decide),?_⟩
  walk_at "r"
  refine aG ?_
  walk_at "r"
  rw[CP hc1]
  refine aG ?_
  walk_at "r"
  rw[yl hc2]
  exact q
theorem kO{H:Hp}{p:Addr}{xs:List V}(h:H p=some (.tup xs)):eG H (.ref p) "tuple":=.inr ⟨rfl,xs,h⟩
def wu(K:Du):Sp:=fun vs H Q _=>∃p w m,vs=[.ref p,.int m]/\H p=some (.tup (Way.vs w))/\w.Ok m/\Q (.bl true) H
abbrev n6:Stmt:=stq 28
theorem qD:FnScope ["thing","many"] ["thing","many"] (aI n6):=⟨rfl,rfl,rfl,by decide +kernel,rfl,by decide +kernel,by decide +kernel⟩
theorem zU{P:Program}{w:World}{K:Du}{mg:Str->Option Value}{base:Heap}(D:Dfn K mg "is_way" n6 ["thing","many"])(T:Blt mg)(C_is_sign:Cal P w K mg base "is_sign" 1 ["thing"] (rD K))(C_is_deed:Cal P w K mg base "is_deed" 1 ["thing"] (ve K))(C_is_room:Cal P w K mg base "is_room" 2 ["thing","many"] (m3 K)):Cal P w K mg base "is_way" 3 ["thing","many"] (wu K):=by
 have nd:=(qD).nd
 refine D.ok qD (fun vs H Q E h=>?_) (fun X hX H vs Q E h=>?_)
 ·obtain⟨p,w,m,rfl,_⟩:=h;rfl
 ·obtain⟨f,cdv,A,outer,s,H0,E0,rfl,hr⟩:=hX
  obtain⟨p,w,m,rfl,hp,ok,q⟩:=h
  refine⟨_,(aj (bp (PW.pt (cc (bL (bo (aW cS rfl T.isinstance_ PyProof.Rows.boot_isinstance (aa (pv 0) (aa (cO (v:=.ty "tuple") rfl T.tuple_ PyProof.Rows.boot_tuple rfl) af))))) (cY (aR eX (aW (cF K) rfl T.len_ PySem.boot_len (aa (pv 0) af)) ae (aQ _))))) (ao (aE bC)) aV)
    (aj (bp (PW.pt (cc (bL (bo (aC C_is_room hr (aa (ai (ay K) (pv 0) ae (fun _ _=>rfl)) (aa (pv 1) af))))) (cY (bL (bo (aC C_is_room hr (aa (ai (ay K) (pv 0) ae (fun _ _=>rfl)) (aa (pv 1) af)))))))) (ao (aE bC)) aV)
    (ao (aE (dH (aC C_is_deed hr (aa (ai (ay K) (pv 0) ae (fun _ _=>rfl)) af)) (dM (aC C_is_sign hr (aa (ai (ay K) (pv 0) ae (fun _ _=>rfl)) af)))))))),?_⟩
  walk_at "r"
  refine cV (kO hp) (b:=true) rfl ?_
  walk_at "r"
  refine aA ?_
  walk_at "r"
  refine gU (ah.of hp) ?_
  walk_at "r"
  refine aA ?_
  walk_at "r"
  refine az (ah.of hp) (v:=.int w.room) rfl ?_
  walk_at "r"
  refine⟨_,_,rfl,ok.r0,ok.r1,?_⟩
  walk_at "r"
  refine aA ?_
  walk_at "r"
  refine az (ah.of hp) (v:=.int w.other) rfl ?_
  walk_at "r"
  refine⟨_,_,rfl,ok.o0,ok.o1,?_⟩
  walk_at "r"
  refine aA ?_
  walk_at "r"
  refine az (ah.of hp) (v:=.str w.deed) rfl ?_
  walk_at "r"
  refine⟨_,rfl,ok.dd,?_⟩
  walk_at "r"
  refine aG ?_
  walk_at "r"
  refine az (ah.of hp) (v:=.str w.sign) rfl ?_
  walk_at "r"
  exact⟨_,rfl,ok.sg,q⟩
theorem bZ.item{H:Hp}{ws:List Way}{bs:List Addr}(h:∀(j:Nat) (b:Addr) (k:List Key),bs[j]?=some b->(ws.map Way.key)[j]?=some k->H b=some (.tup (k.map kV))){j:Nat}{b:Addr}{w:Way}(e1:bs[j]?=some b)(e2:ws[j]?=some w):H b=some (.tup w.vs):=
 h j b w.key e1 (by rw[DA,e2];rfl)
def qM(K:Du):Sp:=fun vs H Q _=>∃q ws m,vs=[.ref q,.int m]/\bZ H q (ws.map Way.key)/\HOuse m ws/\∀H',Ext H H'->Q (.bl true) H'
abbrev nX:Stmt:=stq 29
theorem ui:FnScope ["thing","many"] ["thing","many"] (aI nX):=⟨rfl,rfl,rfl,by decide +kernel,rfl,by decide +kernel,by decide +kernel⟩
theorem xB{P:Program}{w:World}{K:Du}{mg:Str->Option Value}{base:Heap}(D:Dfn K mg "are_ways" nX ["thing","many"])(T:Blt mg)(g_GREATEST_WAYS:∃t,mg "GREATEST_WAYS" = some (.int 100 t))(C_is_way:Cal P w K mg base "is_way" 3 ["thing","many"] (wu K)):Cal P w K mg base "are_ways" 4 ["thing","many"] (qM K):=by
 have nd:=(ui).nd
 refine D.ok ui (fun vs H Q E h=>?_) (fun X hX H vs Q E h=>?_)
 ·obtain⟨p,w,m,rfl,_⟩:=h;rfl
 ·obtain⟨f,cdv,A,outer,s,H0,E0,rfl,hr⟩:=hX
  obtain⟨t_GREATEST_WAYS,c_GREATEST_WAYS⟩:=g_GREATEST_WAYS
  obtain⟨q,ws,m,rfl,hw,ok,qq⟩:=h
  obtain⟨bs,h1,h2,h3⟩:=id hw
  rw[Dy]at h2
  have hfew:=ok.few
  refine⟨_,(aj (bp (PW.pt (cc (bL (bo (aW cS rfl T.isinstance_ PyProof.Rows.boot_isinstance (aa (pv 0) (aa (cO (v:=.ty "tuple") rfl T.tuple_ PyProof.Rows.boot_tuple rfl) af))))) (cY (aR eL (aW (cF K) rfl T.len_ PySem.boot_len (aa (pv 0) af)) (hZ (v:=.int 100) rfl c_GREATEST_WAYS ⟨_,rfl⟩) (aQ _))))) (ao (aE bC)) aV)
    (ao (aE (dH (aW (iY K rfl) rfl T.all_ PyProof.Rows.boot_all (aa (cE ["way"] [1] (fH K (pv 0)) (fun _=>(aM (i:=0) (show(["way","many"]:List Str).Nodup from by decide +kernel) rfl (Or.inl rfl) (Or.inr rfl))) (fun _=>du) (fun _=>(aC C_is_way hr (aa (pv 0) (aa (pv 1) af))))) af)) (dM (dU b9 (aW Og.call_lenSet rfl T.len_ PySem.boot_len (aa (fD (Og.call_setT hr) rfl T.set_ PyProof.Rows.boot_set (aa (pv 0) af)) af)) (aW (cF K) rfl T.len_ PySem.boot_len (aa (pv 0) af)) (aQ _))))))),?_⟩
  walk_at "r"
  refine cV (kO h1) (b:=true) rfl ?_
  walk_at "r"
  refine aA ?_
  walk_at "r"
  refine gU (ah.of h1) ?_
  walk_at "r"
  rw[decide_eq_false (show ¬((100:Int)<((bs.map V.ref).length:Nat)) by rw[Dy];omega)]
  refine aA ?_
  walk_at "r"
  refine ft (ah.of h1) ?_
  refine ig (xs:=bs.map V.ref) (fun i ys H'=>Ext H H'/\ys=(List.replicate i true).map V.bl) (kg (by rw[Dy];omega)) ⟨fun _ _ z=>z,rfl⟩ (fun i ys H' hi h=>⟨ah.of (h.1 _ _ h1),by rw[h.2];simp⟩) ?_ ?_
  ·rintro i x ys H' hx ⟨e,rfl⟩
   rw[DA]at hx
   obtain⟨b,hb,rfl⟩:=DJ.mp hx
   have hi:i<ws.length:=by
    rw[←h2]
    exact(DG.mp hb).1
   have hwi:ws[i]?=some ws[i]:=Dz hi
   walk_at "r"
   refine aG ?_
   walk_at "r"
   refine⟨b,ws[i],m,rfl,e _ _ (bZ.item h3 hb hwi),ok.ok _ (DX hi),e,?_⟩
   rw[List.replicate_succ',DO]
   rfl
  ·rintro ys H' p ⟨e,rfl⟩ hp
   walk_at "r"
   have eN:Ext H (upd H' p (.lst ((List.replicate (bs.map V.ref).length true).map V.bl))):=e.trans (aZ hp)
   refine⟨p,List.replicate (bs.map V.ref).length true,rfl,ag.of aH,?_⟩
   rw[show (List.replicate (bs.map V.ref).length true).all id=true by simp]
   walk_at "r"
   refine aG ?_
   walk_at "r"
   refine Og.rd_setOf (hw.ext eN) ok.keys (by rw[Dy];omega) fun l H2 e2 hl=>?_
   walk_at "r"
   refine Og.rd_lenSet hl (by rw[Dy];omega) ?_
   walk_at "r"
   refine gU (ah.of ((eN.trans e2) _ _ h1)) ?_
   walk_at "r"
   rw[show decide (((((ws.map Way.key).length:Nat):Int))=((bs.map V.ref).length:Nat))=true by rw[Dy,Dy,h2];simp]
   exact qq _ (eN.trans e2)
def wF(K:Du):Sp:=fun vs H Q _=>∃v m ws,vs=[v]/\bz H v m ws/\HOuse m ws/\∀H',Ext H H'->Q (.bl true) H'
abbrev ni:Stmt:=stq 30
theorem sM:FnScope ["thing"] ["thing"] (aI ni):=⟨rfl,rfl,rfl,by decide +kernel,rfl,by decide +kernel,by decide +kernel⟩
theorem yP{P:Program}{w:World}{K:Du}{mg:Str->Option Value}{base:Heap}(D:Dfn K mg "is_house" ni ["thing"])(T:Blt mg)(g_GREATEST_MANY:∃t,mg "GREATEST_MANY" = some (.int 12 t))(C_are_ways:Cal P w K mg base "are_ways" 4 ["thing","many"] (qM K))(C_is_whole:Cal P w K mg base "is_whole" 1 ["thing"] (jh K)):Cal P w K mg base "is_house" 5 ["thing"] (wF K):=by
 have nd:=(sM).nd
 refine D.ok sM (fun vs H Q E h=>?_) (fun X hX H vs Q E h=>?_)
 ·obtain⟨p,w,m,rfl,_⟩:=h;rfl
 ·obtain⟨f,cdv,A,outer,s,H0,E0,rfl,hr⟩:=hX
  obtain⟨t_GREATEST_MANY,c_GREATEST_MANY⟩:=g_GREATEST_MANY
  obtain⟨v,m,ws,rfl,⟨p,r,rfl,h1,h2⟩,ok,q⟩:=h
  have m1:=ok.m1
  have m2:=ok.m12
  refine⟨_,(aj (bp (PW.pt (cc (bL (bo (aW cS rfl T.isinstance_ PyProof.Rows.boot_isinstance (aa (pv 0) (aa (cO (v:=.ty "tuple") rfl T.tuple_ PyProof.Rows.boot_tuple rfl) af))))) (cY (aR eX (aW (cF K) rfl T.len_ PySem.boot_len (aa (pv 0) af)) ae (aQ _))))) (ao (aE bC)) aV)
    (ao (aE (dH (aC C_is_whole hr (aa (ai (ay K) (pv 0) ae (fun _ _=>rfl)) af)) (dH (jD fZ fZ ae (ai (ay K) (pv 0) ae (fun _ _=>rfl)) (hZ (v:=.int 12) rfl c_GREATEST_MANY ⟨_,rfl⟩)) (dM (aC C_are_ways hr (aa (ai (ay K) (pv 0) ae (fun _ _=>rfl)) (aa (ai (ay K) (pv 0) ae (fun _ _=>rfl)) af))))))))),?_⟩
  walk_at "r"
  refine cV (kO h1) (b:=true) rfl ?_
  walk_at "r"
  refine aA ?_
  walk_at "r"
  refine gU (ah.of h1) ?_
  walk_at "r"
  refine aA ?_
  walk_at "r"
  refine az (ah.of h1) (v:=.int m) rfl ?_
  walk_at "r"
  refine⟨_,"int",rfl,rfl,?_⟩
  refine rd_exb (aG ?_)
  walk_at "r"
  refine az (ah.of h1) (v:=.int m) rfl ?_
  walk_at "r"
  rw[decide_eq_true m1]
  refine aG ?_
  walk_at "r"
  rw[decide_eq_true m2]
  refine aG ?_
  walk_at "r"
  refine az (ah.of h1) (v:=.ref r) rfl ?_
  walk_at "r"
  refine az (ah.of h1) (v:=.int m) rfl ?_
  walk_at "r"
  exact⟨r,ws,m,rfl,h2,ok,q⟩
def jq(K:Du):Sp:=fun vs H Q _=>∃v m ws,vs=[v]/\bz H v m ws/\HOuse m ws/\∀H',Ext H H'->Q .non H'
abbrev mP:Stmt:=stq 31
theorem wc:FnScope ["thing"] ["thing"] (aI mP):=⟨rfl,rfl,rfl,by decide +kernel,rfl,by decide +kernel,by decide +kernel⟩
theorem B7{P:Program}{w:World}{K:Du}{mg:Str->Option Value}{base:Heap}(D:Dfn K mg "refuse_no_house" mP ["thing"])(T:Blt mg)(C_is_house:Cal P w K mg base "is_house" 5 ["thing"] (wF K)):Cal P w K mg base "refuse_no_house" 6 ["thing"] (jq K):=by
 have nd:=(wc).nd
 refine D.ok wc (fun vs H Q E h=>?_) (fun X hX H vs Q E h=>?_)
 ·obtain⟨p,w,m,rfl,_⟩:=h;rfl
 ·obtain⟨f,cdv,A,outer,s,H0,E0,rfl,hr⟩:=hX
  obtain⟨v,m,ws,rfl,h1,ok,q⟩:=h
  refine⟨_,(ao (bp (bL (bo (aC C_is_house hr (aa (pv 0) af)))) (ao fR) aV)),?_⟩
  walk_at "r"
  refine⟨v,m,ws,rfl,h1,ok,fun H' e=>?_⟩
  refine rd_exb (aA ?_)
  walk_at "r"
  exact q H' e
theorem gC{xs:List Int}{i:Nat}{v:V}(h:(xs.map V.int)[i]?=some v):∃x,v=.int x/\xs[i]?=some x:=by
 rw[DA]at h
 cases e:xs[i]? with
 | none=>rw[e]at h;cases h
 | some x=>rw[e]at h;exact⟨x,(Option.some.inj h).symm,rfl⟩
theorem bw{n:Nat}(h:n<=1000000):n<=sizeLine:=Eb h (by decide)
theorem aP{xs:List V}{H:Hp}{o:HO}{Q:VK}(h:∀p H',Ext H H'->H' p=some o->H p=none->Q (.ref p) H')(hz:xs.length<=1000000:=by simp):xs.length<=sizeLine/\eA H o Q:=⟨bw hz,cj h⟩
def wa(K:Du):Sp:=fun vs H Q _=>∃(a:Addr) (ns:List Int) (k:Int),vs=[.ref a,.int k]/\ag K H a (ns.map V.int)/\ns.length<=63/\0<=k/\∀z,Q (.int z) H
theorem rX{ns:List Int}{i:Int}(h0:0<=i)(h:i<ns.length):∃z,bt (ns.map V.int) i=some (.int z)/\ns[i.toNat]?=some z:=by
 have hi:i.toNat<ns.length:=by omega
 refine⟨ns[i.toNat],dI h0 ?_,Dz hi⟩
 rw[DA,Dz hi]
 rfl
abbrev lA:Stmt:=stq 66
theorem tQ:FnScope ["_law_script","_law_k"] ["_law_script","_law_k"] (aI lA):=⟨rfl,rfl,rfl,by decide +kernel,rfl,by decide +kernel,by decide +kernel⟩
theorem CD{P:Program}{w:World}{K:Du}{mg:Str->Option Value}{base:Heap}(D:Dfn K mg "_law_cell" lA ["_law_script","_law_k"])(T:Blt mg):Cal P w K mg base "_law_cell" 1 ["_law_script","_law_k"] (wa K):=by
 have nd:=(tQ).nd
 refine D.ok tQ (fun vs H Q E h=>?_) (fun X hX H vs Q E h=>?_)
 ·obtain⟨a,ns,k,rfl,_⟩:=h;rfl
 ·obtain⟨f,cdv,A,outer,s,H0,E0,rfl,hr⟩:=hX
  obtain⟨a,ns,k,rfl,ha,hl,hk,q⟩:=h
  refine⟨_,(aj (bp (aR b9 (aW (cF K) rfl T.len_ PySem.boot_len (aa (pv 0) af)) ae (aQ _)) (ao (aE (aq dR ae (aq aT (pv 1) ae)))) aV)
    (aj (bp (aR dh (pv 1) (aW (cF K) rfl T.len_ PySem.boot_len (aa (pv 0) af)) (aQ _)) (ao (aE (ai (aJ K) (pv 0) (pv 1) (fun _ _=>rfl)))) aV)
    (ao (aE (aq aT (ai (aJ K) (pv 0) (aq cz (pv 1) (aW (cF K) rfl T.len_ PySem.boot_len (aa (pv 0) af))) (fun _ _=>rfl)) (aq dR ae (pv 1))))))),?_⟩
  walk_at "r"
  refine eo ha ?_
  walk_at "r"
  rw[Dy]
  by_cases h0:(ns.length:Int)=0
  ·rw[decide_eq_true h0]
   refine aG ?_
   walk_at "r"
   exact q _
  ·rw[decide_eq_false h0]
   refine aA ?_
   walk_at "r"
   refine eo ha ?_
   walk_at "r"
   rw[Dy]
   by_cases h1:k<ns.length
   ·rw[decide_eq_true h1]
    refine aG ?_
    obtain⟨z,hz,_⟩:=rX hk h1
    walk_at "r"
    refine aK ha hz ?_
    exact q _
   ·rw[decide_eq_false h1]
    refine aA ?_
    walk_at "r"
    refine eo ha ?_
    rw[Dy]
    have hp:(0:Int)<ns.length:=by omega
    refine rd_I hp ?_
    obtain⟨z,hz,_⟩:=rX (ns:=ns) (Int.emod_nonneg k (by omega)) (Int.emod_lt_of_pos k hp)
    refine aK ha hz ?_
    walk_at "r"
    exact q _
def tm(K:Du):Sp:=fun vs H Q _=>∃c k p,vs=[.int c,.int k,.int p]/\0<=k/\k<100000/\0<p/\∀z,0<=z->z<p->Q (.int z) H
abbrev ky:Stmt:=stq 58
theorem qm:FnScope ["_law_cell_here","_law_k","_law_prime","_law_far"] ["_law_cell_here","_law_k","_law_prime"] (aI ky):=⟨rfl,rfl,rfl,by decide +kernel,rfl,by decide +kernel,by decide +kernel⟩
theorem yR{P:Program}{w:World}{K:Du}{mg:Str->Option Value}{base:Heap}(D:Dfn K mg "_law_mixed" ky ["_law_cell_here","_law_k","_law_prime"])(T:Blt mg):Cal P w K mg base "_law_mixed" 1 ["_law_cell_here","_law_k","_law_prime"] (tm K):=by
 have nd:=(qm).nd
 refine D.ok qm (fun vs H Q E h=>?_) (fun X hX H vs Q E h=>?_)
 ·obtain⟨c,k,p,rfl,_⟩:=h;rfl
 ·obtain⟨f,cdv,A,outer,s,H0,E0,rfl,hr⟩:=hX
  obtain⟨c,k,p,rfl,hk,hk2,hp,q⟩:=h
  refine⟨_,(aj (aF (i:=3) nd rfl (Or.inl rfl) (aq cz (aq dR (aq aT (aq aT (aq aT (pv 0) (aq dR (aq dR ae (pv 1)) (pv 1))) (aq dR ae (pv 1))) ae) ae) ae))
    (aj (aF (i:=3) nd rfl (Or.inl rfl) (aq cz (aq dR (pv 3) (pv 3)) ae))
    (ao (aE (aq cz (aq dR (pv 3) ae) (pv 2)))))),?_⟩
  walk_at "r"
  exact q _ (Int.emod_nonneg _ (by omega)) (Int.emod_lt_of_pos _ hp)
theorem cy{H H2:Hp}{q:Addr}{o:HO}(e:Ext H H2)(hq:H q=none):Ext H (upd H2 q o):=fun b u hb=>by
 rw[aB (cw hb hq)]
 exact e b u hb
def fB(K:Du):Sp:=fun vs H Q _=>∃(c:Int) (w:Addr) (ws:List Int) (p:Int),vs=[.int c,.ref w,.int p]/\H w=some (.lst (ws.map V.int))/\(∀x∈ws,0<x/\x<2 ^ 40)/\ws.length<=10000/\0<p ∧
 ∀(q:Addr) (ds:List Int) (H':Hp),Ext H H'->H' q=some (.lst (ds.map V.int))->H q=none->ds.length=ws.length->(∀(i:Nat) d x,ds[i]?=some d->ws[i]?=some x->0<=d/\d<x)->Q (.ref q) H'
theorem kn{K:Du}{H:Hp}{c:Int}{w:Addr}{p:Int}{Q:VK}{xe:XK}(ws:List Int)(h1:H w=some (.lst (ws.map V.int)))(h2:∀x∈ws,0<x/\x<2 ^ 40)(h3:ws.length<=10000)(h4:0<p)
  (k:∀(q:Addr) (ds:List Int) (H':Hp),Ext H H'->H' q=some (.lst (ds.map V.int))->H q=none->ds.length=ws.length->(∀(i:Nat) d x,ds[i]?=some d->ws[i]?=some x->0<=d/\d<x)->Q (.ref q) H'):fB K [.int c,.ref w,.int p] H Q xe:=⟨c,w,ws,p,rfl,h1,h2,h3,h4,k⟩
abbrev kS:Stmt:=stq 59
theorem vg:FnScope ["_law_cell_here","_law_widths","_law_prime","_law_left","_law_found","_law_k"] ["_law_cell_here","_law_widths","_law_prime"] (aI kS):=⟨rfl,rfl,rfl,by decide +kernel,rfl,by decide +kernel,by decide +kernel⟩
theorem Di{P:Program}{w:World}{K:Du}{mg:Str->Option Value}{base:Heap}(D:Dfn K mg "_law_draws" kS ["_law_cell_here","_law_widths","_law_prime"])(T:Blt mg)(C__law_mixed:Cal P w K mg base "_law_mixed" 1 ["_law_cell_here","_law_k","_law_prime"] (tm K)):Cal P w K mg base "_law_draws" 2 ["_law_cell_here","_law_widths","_law_prime"] (fB K):=by
 have nd:=(vg).nd
 refine D.ok vg (fun vs H Q E h=>?_) (fun X hX H vs Q E h=>?_)
 ·obtain⟨c,w,ws,p,rfl,_⟩:=h;rfl
 ·obtain⟨f,cdv,A,outer,s,H0,E0,rfl,hr⟩:=hX
  obtain⟨c,w,ws,p,rfl,hw,hpos,hlen,hp,q⟩:=h
  refine⟨_,(aj (aF (i:=3) nd rfl (Or.inl rfl) ae)
    (aj (de (aR mj (pv 0) (aq iT ae ae) (aQ _)) (ao (aF (i:=3) nd rfl (Or.inl rfl) (aq cX (pv 0) (aq iT ae ae)))) aV)
    (aj (aF (i:=4) nd rfl (Or.inl rfl) (bE af))
    (aj (bJ PassesOwn.never rfl (bQ rfl T.range_ (aa (aW (cF K) rfl T.len_ PySem.boot_len (aa (pv 1) af)) af)) (aM (i:=5) nd rfl (Or.inl rfl)) (ao (de (aR eL (pv 3) ae (aQ _)) (aj (bA (bN K DF DS DT bY (pv 4) (aa (aq cz (pv 3) (ai (aJ K) (pv 1) (pv 5) (fun _ _=>rfl))) af)))
    (ao (aF (i:=3) nd rfl (Or.inl rfl) (aq vq (pv 3) (ai (aJ K) (pv 1) (pv 5) (fun _ _=>rfl)))))) (ao (bA (bN K DF DS DT bY (pv 4) (aa (aq cz (aC C__law_mixed hr (aa (pv 0) (aa (pv 5) (aa (pv 2) af)))) (ai (aJ K) (pv 1) (pv 5) (fun _ _=>rfl))) af)))))))
    (ao (aE (pv 4))))))),?_⟩
  walk_at "r"
  refine hV (fun σ' H'=>H'=H/\∃l,σ'=[some (.int c),some (.ref w),some (.int p),some (.int l),none,none]) ?_ ?_
  ·walk_at "r"
   refine eJ (fun h=>?_) (fun h=>?_)
   ·walk_at "r"
    exact⟨rfl,_,rfl⟩
   ·walk_at "r"
    exact⟨rfl,_,rfl⟩
  rintro σ' H' ⟨rfl,l,rfl⟩
  walk_at "r"
  refine aP fun f H1 e1 hf hfn=>?_
  walk_at "r"
  refine eo (ag.of (e1 _ _ hw)) ?_
  rw[Dy]
  walk_at "r"
  refine bS (by omega) ?_
  refine forR (fun i σ H2=>Ext H' H2/\∃(l:Int) (k:Option V) (ds:List Int),σ=[some (.int c),some (.ref w),some (.int p),some (.int l),some (.ref f),k]/\H2 f=some (.lst (ds.map V.int))/\ds.length=i/\∀(i:Nat) d x,ds[i]?=some d->ws[i]?=some x->0<=d/\d<x)
   ⟨e1,l,none,[],rfl,hf,rfl,fun i d x hd=>by simp at hd⟩ ?_ ?_
  ·rintro i σ H2 hi ⟨e2,l,k,ds,rfl,hf2,hds,hb⟩
   rw[DK]at hi
   have hwi:ws[i]?=some ws[i]:=Dz hi
   have hx:=hpos ws[i] (DX hi)
   have hat:bt (ws.map V.int) (0+(i:Int))=some (.int ws[i]):=by
    rw[Int.zero_add]
    exact eW (by rw[DA,hwi];rfl)
   have next:∀d,0<=d->d<ws[i]->∀(j:Nat) (d' x:Int),(ds++[d])[j]?=some d'->ws[j]?=some x->0<=d'/\d'<x:=fun d h0 h1 j d' x hj hx'=>by
    rcases Nat.lt_or_ge j ds.length with h | h
    ·rw[DW h]at hj
     exact hb j d' x hj hx'
    ·rw[DV h]at hj
     have hj0:j-ds.length=0:=by
      rcases Nat.eq_zero_or_pos (j-ds.length)with h | h
      ·exact h
      ·rw[List.getElem?_eq_none (by simp;omega)]at hj;cases hj
     rw[hj0]at hj
     have hji:j=i:=by omega
     subst hji
     rw[hwi]at hx'
     cases hx'
     have:d=d':=by simpa using hj
     rw[←this]
     exact⟨h0,h1⟩
   walk_at "r"
   refine fk ?_
   walk_at "r"
   refine eJ (fun h=>?_) (fun h=>?_)
   ·have h':1<l:=by simpa using h
    walk_at "r"
    refine⟨df (ag.of hf2),?_⟩
    walk_at "r"
    refine aK (ag.of (e2 _ _ hw)) hat ?_
    refine rd_I (show 0<ws[i] by omega) ?_
    walk_at "r"
    refine bV hf2 (by rw[Dy];exact Nat.lt_of_le_of_lt (show ds.length<=10000 by omega) (by decide)) ?_
    walk_at "r"
    refine aK (ag.of (cy e2 hfn _ _ hw)) hat ?_
    refine rd_I (show 0<ws[i]/\ws[i]<2 ^ 64 by omega) ?_
    walk_at "r"
    refine⟨cy e2 hfn,_,_,ds++[l % ws[i]],rfl,?_,by rw[DP,hds];rfl,next _ (Int.emod_nonneg _ (by omega)) (Int.emod_lt_of_pos _ (by omega))⟩
    rw[aH,DO]
    rfl
   ·walk_at "r"
    refine⟨df (ag.of hf2),?_⟩
    walk_at "r"
    refine⟨c,0+(i:Int),p,rfl,by omega,by omega,hp,fun z hz0 hz1=>?_⟩
    walk_at "r"
    refine aK (ag.of (e2 _ _ hw)) hat ?_
    refine rd_I (show 0<ws[i] by omega) ?_
    walk_at "r"
    refine bV hf2 (by rw[Dy];exact Nat.lt_of_le_of_lt (show ds.length<=10000 by omega) (by decide)) ?_
    walk_at "r"
    refine⟨cy e2 hfn,_,_,ds++[z % ws[i]],rfl,?_,by rw[DP,hds];rfl,next _ (Int.emod_nonneg _ (by omega)) (Int.emod_lt_of_pos _ (by omega))⟩
    rw[aH,DO]
    rfl
  ·rintro σ H2 ⟨e2,l,k,ds,rfl,hf2,hds,hb⟩
   walk_at "r"
   exact q f ds H2 e2 hf2 hfn (by rw[hds,DK]) hb
def tO(K:Du):Sp:=fun vs H Q _=>∃c w,vs=[.int c,.int w]/\0<w/\w<2 ^ 64/\∀z,Q (.int z) H
abbrev nE:Stmt:=stq 60
theorem pf:FnScope ["_law_cell_here","_law_width"] ["_law_cell_here","_law_width"] (aI nE):=⟨rfl,rfl,rfl,by decide +kernel,rfl,by decide +kernel,by decide +kernel⟩
theorem Bw{P:Program}{w:World}{K:Du}{mg:Str->Option Value}{base:Heap}(D:Dfn K mg "_law_spare" nE ["_law_cell_here","_law_width"])(T:Blt mg):Cal P w K mg base "_law_spare" 1 ["_law_cell_here","_law_width"] (tO K):=by
 have nd:=(pf).nd
 refine D.ok pf (fun vs H Q E h=>?_) (fun X hX H vs Q E h=>?_)
 ·obtain⟨c,w,rfl,_⟩:=h;rfl
 ·obtain⟨f,cdv,A,outer,s,H0,E0,rfl,hr⟩:=hX
  obtain⟨c,w,rfl,h1,h2,q⟩:=h
  refine⟨_,(aj (bp (aR mj (pv 0) (aq iT ae ae) (aQ _)) (ao (aE (aq aT (aq vq (aq cX (pv 0) (aq iT ae ae)) (pv 1)) (aq iT ae ae)))) aV)
    (ao (aE (aq aT (pv 0) ae)))),?_⟩
  walk_at "r"
  refine eJ (fun h=>?_) (fun h=>?_)
  ·walk_at "r"
   exact q _
  ·walk_at "r"
   exact q _
def b0(H:Hp)(v:V)(b s:Int)(o a:List Int):Prop:=∃p q r,v=.ref p/\H p=some (.tup [.int b,.int s,.ref q,.ref r])/\H q=some (.tup (o.map V.int))/\H r=some (.tup (a.map V.int))
structure Gd(b s:Int)(o a:List Int):Prop where
 ok:Ok b s o a
 b3:b<=3000
 s8:s<=840
theorem b0.ext{H H':Hp}{v:V}{b s:Int}{o a:List Int}(e:Ext H H')(h:b0 H v b s o a):b0 H' v b s o a:=by
 obtain⟨p,q,r,rfl,h1,h2,h3⟩:=h
 exact⟨p,q,r,rfl,e _ _ h1,e _ _ h2,e _ _ h3⟩
theorem qe{lo hi x:Int}{r:List Int}:eO lo hi (x::r)↔lo<=x/\x<hi/\eO (x+1) hi r:=by
 constructor
 ·rintro⟨h1,h2⟩
  obtain⟨p1,p2⟩:=List.pairwise_cons.mp h1
  have hx:=h2 x DE
  exact⟨hx.1,hx.2,p2,fun z hz=>⟨by have:=p1 z hz;omega,(h2 z (DB _ hz)).2⟩⟩
 ·rintro⟨h1,h2,h3,h4⟩
  refine⟨List.pairwise_cons.mpr ⟨fun z hz=>by have:=h4 z hz;omega,h3⟩,fun z hz=>?_⟩
  rcases DM.mp hz with rfl | hz
  ·exact⟨h1,h2⟩
  ·have:=h4 z hz
   exact⟨by omega,this.2⟩
def rg(K:Du):Sp:=fun vs H Q _=>∃(p:Addr) (lo hi:Int) (xs:List Int),vs=[.ref p,.int lo,.int hi]/\H p=some (.tup (xs.map V.int))/\eO lo hi xs/\Q (.bl true) H
abbrev nO:Stmt:=stq 10
theorem rL:FnScope ["thing","low","end","lowest","number"] ["thing","low","end"] (aI nO):=⟨rfl,rfl,rfl,by decide +kernel,rfl,by decide +kernel,by decide +kernel⟩
theorem De{P:Program}{w:World}{K:Du}{mg:Str->Option Value}{base:Heap}(D:Dfn K mg "is_rising_row" nO ["thing","low","end"])(T:Blt mg)(C_is_whole:Cal P w K mg base "is_whole" 1 ["thing"] (jh K)):Cal P w K mg base "is_rising_row" 2 ["thing","low","end"] (rg K):=by
 have nd:=(rL).nd
 refine D.ok rL (fun vs H Q E h=>?_) (fun X hX H vs Q E h=>?_)
 ·obtain⟨p,lo,hi,xs,rfl,_⟩:=h;rfl
 ·obtain⟨f,cdv,A,outer,s,H0,E0,rfl,hr⟩:=hX
  obtain⟨p,lo,hi,xs,rfl,hp,hrs,q⟩:=h
  refine⟨_,(aj (bp (bL (bo (aW cS rfl T.isinstance_ PyProof.Rows.boot_isinstance (aa (pv 0) (aa (cO (v:=.ty "tuple") rfl T.tuple_ PyProof.Rows.boot_tuple rfl) af))))) (ao (aE bC)) aV)
    (aj (aF (i:=3) nd rfl (Or.inl rfl) (pv 1))
    (aj (bJ PassesOwn.never rfl (fH K (pv 0)) (aM (i:=4) nd rfl (Or.inl rfl)) (aj (bp (PW.pt (cc (bL (bo (aC C_is_whole hr (aa (pv 4) af)))) (cc (aR dh (pv 4) (pv 3) (aQ _)) (cY (aR mj (pv 4) (pv 2) (aQ _)))))) (ao (aE bC)) aV)
    (ao (aF (i:=3) nd rfl (Or.inl rfl) (aq aT (pv 4) ae)))))
    (ao (aE bC))))),?_⟩
  walk_at "r"
  refine cV (n:="tuple") (.inr ⟨rfl,_,hp⟩) (b:=true) rfl ?_
  walk_at "r"
  refine aA ?_
  walk_at "r"
  refine ft (ah.of hp) ?_
  refine oE (xs:=xs.map V.int) (fun i σ H'=>H'=H/\∃lw w,σ=[some (.ref p),some (.int lo),some (.int hi),some (.int lw),w]/\eO lw hi (xs.drop i)) ⟨rfl,lo,none,rfl,hrs⟩ (fun i σ H' _ h=>by rw[h.1];exact ah.of hp) ?_ ?_
  ·rintro i x σ H' hx ⟨rfl,lw,w,rfl,e⟩
   obtain⟨z,rfl,hz⟩:=gC hx
   have hd:xs.drop i=z::xs.drop (i+1):=by
    obtain⟨hi',rfl⟩:=DG.mp hz
    exact List.drop_eq_getElem_cons hi'
   rw[hd]at e
   obtain⟨e1,e2,e3⟩:=qe.mp e
   walk_at "r"
   refine⟨.int z,"int",rfl,rfl,?_⟩
   walk_at "r"
   refine aA ?_
   walk_at "r"
   rw[decide_eq_false (show ¬z<lw by omega)]
   refine aA ?_
   walk_at "r"
   rw[decide_eq_false (show ¬hi<=z by omega)]
   refine aA ?_
   walk_at "r"
   exact⟨rfl,z+1,_,rfl,e3⟩
  ·rintro σ H' ⟨rfl,lw,w,rfl,e⟩
   walk_at "r"
   exact q
def uU(K:Du):Sp:=fun vs H Q _=>∃(b s:Int) (o a:List Int) (q r:Addr),vs=[.int b,.int s,.ref q,.ref r]/\H q=some (.tup (o.map V.int))/\H r=some (.tup (a.map V.int))/\Ok b s o a/\Q (.bl true) H
abbrev oH:Stmt:=stq 11
theorem u7:FnScope ["base","step","once","again"] ["base","step","once","again"] (aI oH):=⟨rfl,rfl,rfl,by decide +kernel,rfl,by decide +kernel,by decide +kernel⟩
theorem CF{P:Program}{w:World}{K:Du}{mg:Str->Option Value}{base:Heap}(D:Dfn K mg "are_stair_places" oH ["base","step","once","again"])(T:Blt mg)(C_is_rising_row:Cal P w K mg base "is_rising_row" 2 ["thing","low","end"] (rg K))(C_is_whole:Cal P w K mg base "is_whole" 1 ["thing"] (jh K)):Cal P w K mg base "are_stair_places" 3 ["base","step","once","again"] (uU K):=by
 have nd:=(u7).nd
 refine D.ok u7 (fun vs H Q E h=>?_) (fun X hX H vs Q E h=>?_)
 ·obtain⟨b,s,o,a,q,r,rfl,_⟩:=h;rfl
 ·obtain⟨f,cdv,A,outer,s,H0,E0,rfl,hr⟩:=hX
  obtain⟨b,s',o,a,q',r,rfl,h2,h3,ok,q⟩:=h
  have hb:=ok.hb
  have hs:=ok.hs
  refine⟨_,(aj (bp (PW.pt (cc (bL (bo (aC C_is_whole hr (aa (pv 0) af)))) (cc (bL (bo (aC C_is_whole hr (aa (pv 1) af)))) (cc (aR dh (pv 0) ae (aQ _)) (cY (aR dh (pv 1) ae (aQ _))))))) (ao (aE bC)) aV)
    (ao (aE (dH (aC C_is_rising_row hr (aa (pv 2) (aa ae (aa (pv 0) af)))) (dM (aC C_is_rising_row hr (aa (pv 3) (aa (pv 0) (aa (aq aT (pv 0) (pv 1)) af))))))))),?_⟩
  walk_at "r"
  refine⟨.int b,"int",rfl,rfl,?_⟩
  walk_at "r"
  refine aA ?_
  walk_at "r"
  refine⟨.int s',"int",rfl,rfl,?_⟩
  walk_at "r"
  refine aA ?_
  walk_at "r"
  rw[decide_eq_false (show ¬b<0 by omega)]
  refine aA ?_
  walk_at "r"
  rw[decide_eq_false (show ¬s'<1 by omega)]
  refine aA ?_
  walk_at "r"
  refine⟨q',0,b,o,rfl,h2,ok.ho,?_⟩
  walk_at "r"
  refine aG ?_
  walk_at "r"
  exact⟨r,b,b+s',a,rfl,h3,ok.ha,q⟩
def uv(K:Du):Sp:=fun vs H Q _=>∃v b s o a,vs=[v]/\b0 H v b s o a/\Ok b s o a/\Q (.bl true) H
abbrev nI:Stmt:=stq 12
theorem pT:FnScope ["thing"] ["thing"] (aI nI):=⟨rfl,rfl,rfl,by decide +kernel,rfl,by decide +kernel,by decide +kernel⟩
theorem A6{P:Program}{w:World}{K:Du}{mg:Str->Option Value}{base:Heap}(D:Dfn K mg "is_stair" nI ["thing"])(T:Blt mg)(C_are_stair_places:Cal P w K mg base "are_stair_places" 3 ["base","step","once","again"] (uU K)):Cal P w K mg base "is_stair" 4 ["thing"] (uv K):=by
 have nd:=(pT).nd
 refine D.ok pT (fun vs H Q E h=>?_) (fun X hX H vs Q E h=>?_)
 ·obtain⟨v,b,s,o,a,rfl,_⟩:=h;rfl
 ·obtain⟨f,cdv,A,outer,s,H0,E0,rfl,hr⟩:=hX
  obtain⟨v,b,s',o,a,rfl,⟨p,q',r,rfl,h1,h2,h3⟩,ok,q⟩:=h
  refine⟨_,(aj (bp (PW.pt (cc (bL (bo (aW cS rfl T.isinstance_ PyProof.Rows.boot_isinstance (aa (pv 0) (aa (cO (v:=.ty "tuple") rfl T.tuple_ PyProof.Rows.boot_tuple rfl) af))))) (cY (aR eX (aW (cF K) rfl T.len_ PySem.boot_len (aa (pv 0) af)) ae (aQ _))))) (ao (aE bC)) aV)
    (ao (aE (aC C_are_stair_places hr (aa (ai (ay K) (pv 0) ae (fun _ _=>rfl)) (aa (ai (ay K) (pv 0) ae (fun _ _=>rfl)) (aa (ai (ay K) (pv 0) ae (fun _ _=>rfl)) (aa (ai (ay K) (pv 0) ae (fun _ _=>rfl)) af)))))))),?_⟩
  walk_at "r"
  refine cV (n:="tuple") (.inr ⟨rfl,_,h1⟩) (b:=true) rfl ?_
  walk_at "r"
  refine aA ?_
  walk_at "r"
  refine gU (ah.of h1) ?_
  walk_at "r"
  refine aA ?_
  walk_at "r"
  refine az (ah.of h1) rfl ?_
  walk_at "r"
  refine az (ah.of h1) rfl ?_
  walk_at "r"
  refine az (ah.of h1) rfl ?_
  walk_at "r"
  refine az (ah.of h1) rfl ?_
  walk_at "r"
  exact⟨b,s',o,a,q',r,rfl,h2,h3,ok,q⟩
def qW(K:Du):Sp:=fun vs H Q _=>∃v b s o a,vs=[v]/\b0 H v b s o a/\Ok b s o a/\Q .non H
abbrev oT:Stmt:=stq 13
theorem tK:FnScope ["thing"] ["thing"] (aI oT):=⟨rfl,rfl,rfl,by decide +kernel,rfl,by decide +kernel,by decide +kernel⟩
theorem CT{P:Program}{w:World}{K:Du}{mg:Str->Option Value}{base:Heap}(D:Dfn K mg "refuse_no_stair" oT ["thing"])(T:Blt mg)(C_is_stair:Cal P w K mg base "is_stair" 4 ["thing"] (uv K)):Cal P w K mg base "refuse_no_stair" 5 ["thing"] (qW K):=by
 have nd:=(tK).nd
 refine D.ok tK (fun vs H Q E h=>?_) (fun X hX H vs Q E h=>?_)
 ·obtain⟨v,b,s,o,a,rfl,_⟩:=h;rfl
 ·obtain⟨f,cdv,A,outer,s,H0,E0,rfl,hr⟩:=hX
  obtain⟨v,b,s',o,a,rfl,hv,ok,q⟩:=h
  refine⟨_,(ao (bp (bL (bo (aC C_is_stair hr (aa (pv 0) af)))) (ao fR) aV)),?_⟩
  walk_at "r"
  refine⟨v,b,s',o,a,rfl,hv,ok,?_⟩
  walk_at "r"
  exact aA q
def uj(K:Du):Sp:=fun vs H Q _=>∃v b s o a,vs=[v]/\b0 H v b s o a/\b<=3000/\s<=840/\Q .non H
abbrev om:Stmt:=stq 14
theorem qf:FnScope ["stair"] ["stair"] (aI om):=⟨rfl,rfl,rfl,by decide +kernel,rfl,by decide +kernel,by decide +kernel⟩
theorem wX{P:Program}{w:World}{K:Du}{mg:Str->Option Value}{base:Heap}(D:Dfn K mg "refuse_great_stair" om ["stair"])(T:Blt mg)(g_GREATEST_STEP:∃t,mg "GREATEST_STEP" = some (.int 840 t))(g_GREATEST_BASE:∃t,mg "GREATEST_BASE" = some (.int 3000 t)):Cal P w K mg base "refuse_great_stair" 1 ["stair"] (uj K):=by
 have nd:=(qf).nd
 refine D.ok qf (fun vs H Q E h=>?_) (fun X hX H vs Q E h=>?_)
 ·obtain⟨v,b,s,o,a,rfl,_⟩:=h;rfl
 ·obtain⟨f,cdv,A,outer,s,H0,E0,rfl,hr⟩:=hX
  obtain⟨t_GREATEST_STEP,c_GREATEST_STEP⟩:=g_GREATEST_STEP
  obtain⟨t_GREATEST_BASE,c_GREATEST_BASE⟩:=g_GREATEST_BASE
  obtain⟨v,b,s',o,a,rfl,⟨p,q',r,rfl,h1,h2,h3⟩,hb,hs,q⟩:=h
  refine⟨_,(aj (bp (aR eL (ai (ay K) (pv 0) ae (fun _ _=>rfl)) (hZ (v:=.int 3000) rfl c_GREATEST_BASE ⟨_,rfl⟩) (aQ _)) (ao fR) aV)
    (ao (bp (aR eL (ai (ay K) (pv 0) ae (fun _ _=>rfl)) (hZ (v:=.int 840) rfl c_GREATEST_STEP ⟨_,rfl⟩) (aQ _)) (ao fR) aV))),?_⟩
  walk_at "r"
  refine az (ah.of h1) rfl ?_
  walk_at "r"
  rw[decide_eq_false (show ¬3000<b by omega)]
  refine aA ?_
  walk_at "r"
  refine az (ah.of h1) rfl ?_
  walk_at "r"
  rw[decide_eq_false (show ¬840<s' by omega)]
  exact aA q
def si(K:Du):Sp:=fun vs H Q _=>∃v b s o a,vs=[v]/\b0 H v b s o a/\Gd b s o a/\Q .non H
abbrev nV:Stmt:=stq 15
theorem rN:FnScope ["thing"] ["thing"] (aI nV):=⟨rfl,rfl,rfl,by decide +kernel,rfl,by decide +kernel,by decide +kernel⟩
theorem zt{P:Program}{w:World}{K:Du}{mg:Str->Option Value}{base:Heap}(D:Dfn K mg "refuse_bad_stair" nV ["thing"])(T:Blt mg)(C_refuse_great_stair:Cal P w K mg base "refuse_great_stair" 1 ["stair"] (uj K))(C_refuse_no_stair:Cal P w K mg base "refuse_no_stair" 5 ["thing"] (qW K)):Cal P w K mg base "refuse_bad_stair" 6 ["thing"] (si K):=by
 have nd:=(rN).nd
 refine D.ok rN (fun vs H Q E h=>?_) (fun X hX H vs Q E h=>?_)
 ·obtain⟨v,b,s,o,a,rfl,_⟩:=h;rfl
 ·obtain⟨f,cdv,A,outer,s,H0,E0,rfl,hr⟩:=hX
  obtain⟨v,b,s',o,a,rfl,hv,hg,q⟩:=h
  refine⟨_,(aj (bA (aC C_refuse_no_stair hr (aa (pv 0) af)))
    (ao (bA (aC C_refuse_great_stair hr (aa (pv 0) af))))),?_⟩
  walk_at "r"
  refine⟨v,b,s',o,a,rfl,hv,hg.ok,?_⟩
  walk_at "r"
  exact⟨v,b,s',o,a,rfl,hv,hg.b3,hg.s8,q⟩
theorem jm(x:Int)(xs:List Int):ie (.int x) (xs.map V.int)=xs.contains x:=by
 unfold ie
 rw[List.any_map,Ef,Ee,List.contains_iff_mem]
 constructor
 ·rintro⟨y,hy,e⟩
  have e':(y == x)=true:=e
  rw[←(by simpa using e':y=x)]
  exact hy
 ·intro hx
  exact⟨x,hx,by show(x == x)=true;simp⟩
theorem j3(xs:List Int):(xs.map V.int).all dX=true:=by
 rw[List.all_map,Ed]
 intro x _
 rfl
def pB(K:Du):Sp:=fun vs H Q _=>∃v x b s o a,vs=[v,.int x]/\b0 H v b s o a/\Gd b s o a/\Q (.bl (mem b s o a x)) H
abbrev lF:Stmt:=stq 18
theorem uD:FnScope ["stair","x","base"] ["stair","x"] (aI lF):=⟨rfl,rfl,rfl,by decide +kernel,rfl,by decide +kernel,by decide +kernel⟩
theorem Df{P:Program}{w:World}{K:Du}{mg:Str->Option Value}{base:Heap}(D:Dfn K mg "holds" lF ["stair","x"])(T:Blt mg)(C_refuse_bad_stair:Cal P w K mg base "refuse_bad_stair" 6 ["thing"] (si K)):Cal P w K mg base "holds" 7 ["stair","x"] (pB K):=by
 have nd:=(uD).nd
 refine D.ok uD (fun vs H Q E h=>?_) (fun X hX H vs Q E h=>?_)
 ·obtain⟨v,x,b,s,o,a,rfl,_⟩:=h;rfl
 ·obtain⟨f,cdv,A,outer,s,H0,E0,rfl,hr⟩:=hX
  obtain⟨v,x,b,s',o,a,rfl,hv,hg,q⟩:=h
  have hs:=hg.ok.hs
  refine⟨_,(aj (bA (aC C_refuse_bad_stair hr (aa (pv 0) af)))
    (aj (aF (i:=2) nd rfl (Or.inl rfl) (ai (ay K) (pv 0) ae (fun _ _=>rfl)))
    (aj (bp (aR dh (pv 1) (pv 2) (aQ _)) (ao (aE (dU (jW K) (pv 1) (ai (ay K) (pv 0) ae (fun _ _=>rfl)) (by with_unfolding_all rfl)))) aV)
    (ao (aE (dU (jW K) (aq aT (pv 2) (aq cz (aq cX (pv 1) (pv 2)) (ai (ay K) (pv 0) ae (fun _ _=>rfl)))) (ai (ay K) (pv 0) ae (fun _ _=>rfl)) (by with_unfolding_all rfl))))))),?_⟩
  walk_at "r"
  refine⟨v,b,s',o,a,rfl,hv,hg,?_⟩
  obtain⟨p,q',r,rfl,h1,h2,h3⟩:=hv
  walk_at "r"
  refine az (ah.of h1) rfl ?_
  walk_at "r"
  by_cases hx:x<b
  ·rw[decide_eq_true hx]
   refine aG ?_
   walk_at "r"
   refine az (ah.of h1) rfl ?_
   walk_at "r"
   refine jU (.inr (ah.of h2)) rfl (j3 o) ?_
   rw[jF _ hx]at q
   rw[jm]
   exact q
  ·rw[decide_eq_false hx]
   refine aA ?_
   walk_at "r"
   refine az (ah.of h1) rfl ?_
   walk_at "r"
   refine az (ah.of h1) rfl ?_
   walk_at "r"
   refine jU (.inr (ah.of h3)) rfl (j3 a) ?_
   rw[m5 _ (by omega)]at q
   rw[jm]
   exact q
def aN(H:Hp)(bs:List Addr)(ws:List Way):Prop:=bs.length=ws.length/\∀(j:Nat) (b:Addr) (w:Way),bs[j]?=some b->ws[j]?=some w->H b=some (.tup w.vs)
theorem aN.ext{H H':Hp}{bs:List Addr}{ws:List Way}(e:Ext H H')(h:aN H bs ws):aN H' bs ws:=⟨h.1,fun j b w e1 e2=>e _ _ (h.2 j b w e1 e2)⟩
theorem aN.put{H:Hp}{f:Addr}{xs ys:List V}{bs:List Addr}{ws:List Way}(hf:H f=some (.lst xs))(h:aN H bs ws):aN (upd H f (.lst ys)) bs ws:=⟨h.1,fun j b w e1 e2=>by
 have:=h.2 j b w e1 e2
 rw[aB (dJ this hf (by intro z;cases z))]
 exact this⟩
theorem aN.nil(H:Hp):aN H [] []:=⟨rfl,fun j b w e=>by simp at e⟩
theorem aN.snoc{H:Hp}{bs:List Addr}{ws:List Way}{b:Addr}{w:Way}(h:aN H bs ws)(hb:H b=some (.tup w.vs)):aN H (bs++[b]) (ws++[w]):=by
 refine⟨by simp[h.1],fun j b' w' e1 e2=>?_⟩
 rcases Nat.lt_or_ge j bs.length with hj | hj
 ·rw[DW hj]at e1
  rw[DW (by rw[←h.1];exact hj)]at e2
  exact h.2 j b' w' e1 e2
 ·rw[DV hj]at e1
  rw[DV (by rw[←h.1];exact hj),←h.1]at e2
  cases hk:j-bs.length with
  | zero=>
   rw[hk]at e1 e2
   cases e1;cases e2
   exact hb
  | succ k=>rw[hk]at e1;simp at e1
theorem aN.ways{H:Hp}{p:Addr}{bs:List Addr}{ws:List Way}(h:aN H bs ws)(hp:H p=some (.tup (bs.map V.ref))):bZ H p (ws.map Way.key):=
 ⟨bs,hp,by rw[Dy];exact h.1,fun j b k e1 e2=>by
  rw[DA]at e2
  obtain⟨w,hw,rfl⟩:=DJ.mp e2
  exact h.2 j b w e1 hw⟩
theorem bZ.al{H:Hp}{p:Addr}{ws:List Way}(h:bZ H p (ws.map Way.key)):∃bs:List Addr,H p=some (.tup (bs.map V.ref))/\aN H bs ws:=by
 obtain⟨bs,h1,h2,h3⟩:=h
 rw[Dy]at h2
 exact⟨bs,h1,h2,fun j b w e1 e2=>bZ.item h3 e1 e2⟩
abbrev Way.D(w:Way):PyData:=.tuple [.int w.room,.str w.deed,.int w.other,.str w.sign]
structure Way.Lay(w:Way):Prop where
 d:(PyData.str w.deed).canLay0=true
 s:(PyData.str w.sign).canLay0=true
theorem xX:∀c:Fin 123,97<=c.1->(PyData.str ⟨#[c.1]⟩).canLay0=true:=by decide +kernel
theorem Way.Ok.lay{m:Int}{w:Way}(h:w.Ok m):w.Lay:=by
 constructor
 ·rcases h.dd with e | e | e | e<;>rw[e]<;>decide +kernel
 ·obtain⟨c,h1,h2,e⟩:=h.sg
  rw[e]
  exact xX ⟨c,Nat.lt_succ_of_le h2⟩ h1
theorem Way.rep{H:Hp}{b:Addr}{w:Way}(h:H b=some (.tup w.vs))(l:w.Lay):aU H 1 (.ref b) w.D:=
 .inr ⟨b,w.vs,_,rfl,.inl ⟨h,rfl⟩,.cons rfl (.cons ⟨rfl,l.d⟩ (.cons rfl (.cons ⟨rfl,l.s⟩ .nil)))⟩
theorem Way.eqv(w u:Way):PyData.eqv w.D u.D=decide (w=u):=by
 simp only[PyData.eqv,PyData.eqvAll]
 by_cases h:w=u
 ·subst h;simp
 ·rw[decide_eq_false h]
  obtain⟨a,b,c,d⟩:=w
  obtain⟨a',b',c',d'⟩:=u
  simp only[Way.mk.injEq,not_and]at h
  simp only[Bool.and_true,Bool.and_eq_false_iff,beq_eq_false_iff_ne]
  by_cases h1:a=a'
  ·by_cases h2:b=b'
   ·by_cases h3:c=c'
    ·exact .inr (.inr (.inr (h h1 h2 h3)))
    ·exact .inr (.inr (.inl h3))
   ·exact .inr (.inl h2)
  ·exact .inl h1
theorem aN.reps{H:Hp}:∀{bs:List Addr} {ws:List Way},aN H bs ws->(∀w∈ws,w.Lay)->Paired (aU H 1) (bs.map V.ref) (ws.map Way.D)
 | [],[],_,_=>.nil
 | [],_::_,h,_=>by cases h.1
 | _::_,[],h,_=>by cases h.1
 | b::bs,w::ws,h,l=>.cons (Way.rep (h.2 0 b w rfl rfl) (l w DE)) (aN.reps ⟨Nat.succ.inj h.1,fun j b w e1 e2=>h.2 (j+1) b w e1 e2⟩ fun u hu=>l u (DB _ hu))
theorem xx(ws:List Way)(w:Way):((ws.map Way.D).any fun e=>PyData.eqv e w.D)=decide (w∈ws):=by
 rw[List.any_map]
 induction ws with
 | nil=>rfl
 | cons u ws ih=>
  rw[List.any_cons,ih,Function.comp_apply,Way.eqv]
  by_cases h:w∈ws
  ·simp[h]
  ·by_cases e:u=w
   ·simp[e]
   ·have:¬w=u:=fun z=>e z.symm
    simp[h,e,this]
def nQ(K:Du):Sp:=fun vs H Q _=>∃l bs ws,vs=[.ref l]/\H l=some (.lst (bs.map V.ref))/\aN H bs ws/\(∀w∈ws,Way.Lay w)/\ws.length<=200 ∧
 ∀q H' us,Ext H H'->bZ H' q (List.map Way.key us)->us.Nodup->(∀u∈us,u∈ws)->us.length<=ws.length->Q (.ref q) H'
abbrev lM:Stmt:=stq 62
theorem tT:FnScope ["_law_ways","_law_found","_law_way"] ["_law_ways"] (aI lM):=⟨rfl,rfl,rfl,by decide +kernel,rfl,by decide +kernel,by decide +kernel⟩
theorem Bd{P:Program}{w:World}{K:Du}{mg:Str->Option Value}{base:Heap}(D:Dfn K mg "_law_unlike" lM ["_law_ways"])(T:Blt mg):Cal P w K mg base "_law_unlike" 1 ["_law_ways"] (nQ K):=by
 have nd:=(tT).nd
 refine D.ok tT (fun vs H Q E h=>?_) (fun X hX H vs Q E h=>?_)
 ·obtain⟨l,bs,ws,rfl,_⟩:=h;rfl
 ·obtain⟨f,cdv,A,outer,s,H0,E0,rfl,hr⟩:=hX
  obtain⟨l,bs,ws,rfl,hl,al,lay,hlen,q⟩:=h
  refine⟨_,(aj (aF (i:=1) nd rfl (Or.inl rfl) (bE af))
    (aj (bJ PassesOwn.never rfl (cJ K (pv 0)) (aM (i:=2) nd rfl (Or.inl rfl)) (ao (de (aR (tp hr) (pv 2) (pv 1) (by with_unfolding_all rfl)) (ao (bA (bN K DF DS DT bY (pv 1) (aa (pv 2) af)))) aV)))
    (ao (aE (fD (iD K) rfl T.tuple_ PyProof.Rows.boot_tuple (aa (pv 1) af)))))),?_⟩
  walk_at "r"
  refine aP fun f H1 e1 hf hfn=>?_
  walk_at "r"
  refine cI (ag.of (e1 _ _ hl)) ?_
  refine forL (xs:=bs.map V.ref) (fun i σ H2=>Ext H H2/\∃(k:Option V) (cs:List Addr) (us:List Way),σ=[some (.ref l),some (.ref f),k]/\H2 f=some (.lst (cs.map V.ref))/\aN H2 cs us/\us.Nodup/\(∀u∈us,u∈ws)/\us.length<=i)
   ⟨e1,none,[],[],rfl,hf,aN.nil _,List.nodup_nil,fun u hu=>by simp at hu,DR _⟩ (fun i σ H2 _ h=>ag.of (h.1 _ _ hl)) ?_ ?_
  ·rintro i x σ H2 hx ⟨e2,k,cs,us,rfl,hf2,al2,nd2,sub2,len2⟩
   rw[DA]at hx
   obtain⟨b,hb,rfl⟩:=DJ.mp hx
   have hi:i<ws.length:=by
    rw[←al.1]
    exact(DG.mp hb).1
   have hwi:ws[i]?=some ws[i]:=Dz hi
   have hbw:=e2 _ _ (al.2 i b _ hb hwi)
   walk_at "r"
   refine fk ?_
   walk_at "r"
   refine vJ (Way.rep hbw (lay _ (DX hi))) hf2 (al2.reps fun u hu=>lay u (sub2 u hu)) (by decide) ?_
   simp only[if_true,xx]
   refine rd_exb ?_
   by_cases hm:ws[i]∈us
   ·rw[decide_eq_true hm]
    refine aA ?_
    walk_at "r"
    exact⟨e2,_,cs,us,rfl,hf2,al2,nd2,sub2,by omega⟩
   ·rw[decide_eq_false hm]
    refine aG ?_
    walk_at "r"
    refine⟨df (ag.of hf2),?_⟩
    walk_at "r"
    refine bV hf2 (by rw[Dy,al2.1];exact Nat.lt_of_le_of_lt (show us.length<=1000 by omega) (by decide)) ?_
    walk_at "r"
    refine⟨cy e2 hfn,_,cs++[b],us++[ws[i]],rfl,by rw[aH,DO];rfl,(al2.put hf2).snoc ?_,?_,?_,by simp;omega⟩
    ·rw[aB (dJ hbw hf2 (by intro z;cases z))]
     exact hbw
    ·rw[List.nodup_append]
     exact⟨nd2,by simp,fun a ha c hc=>by rw[DI.mp hc];exact fun z=>hm (z ▸ ha)⟩
    ·intro u hu
     rcases DU.mp hu with hu | hu
     ·exact sub2 u hu
     ·rw[DI.mp hu];exact DX hi
  ·rintro σ H2 ⟨e2,k,cs,us,rfl,hf2,al2,nd2,sub2,len2⟩
   walk_at "r"
   refine iB (ag.of hf2) (cj fun p H3 e3 hp _=>?_)
   exact q p H3 us (e2.trans e3) ((al2.ext e3).ways hp) nd2 sub2 (by rw[Dy,al.1]at len2;exact len2)
def jT(z:Str):Prop:=∃c:Nat,97<=c/\c<=99/\z=⟨#[c]⟩
structure Way.Ok3(m:Int)(w:Way):Prop where
 r0:0<=w.room
 r1:w.room<m
 o0:0<=w.other
 o1:w.other<m
 dd:cg w.deed
 sg:jT w.sign
structure HOuse3(m:Int)(ws:List Way):Prop where
 m1:1<=m
 m12:m<=12
 few:ws.length<=100
 ok:∀w∈ws,w.Ok3 m
 nd:ws.Nodup
theorem Way.Ok3.ok{m:Int}{w:Way}(h:w.Ok3 m):w.Ok m:=by
 obtain⟨c,h1,h2,h3⟩:=h.sg
 exact⟨h.r0,h.r1,h.o0,h.o1,h.dd,c,h1,by omega,h3⟩
theorem Way.Ok3.lay{m:Int}{w:Way}(h:w.Ok3 m):w.Lay:=h.ok.lay
theorem HOuse3.house{m:Int}{ws:List Way}(h:HOuse3 m ws):HOuse m ws:=⟨h.m1,h.m12,h.few,fun w hw=>(h.ok w hw).ok,h.nd⟩
theorem BL{ds:List Int}{i:Nat}(h:i+4<=ds.length):∃a b c d,bX (ds.map V.int) (some (i:Int)) (some ((i+4:Nat):Int))=[.int a,.int b,.int c,.int d]/\ds[i]?=some a/\ds[i+1]?=some b/\ds[i+2]?=some c/\ds[i+3]?=some d:=by
 refine⟨ds[i],ds[i+1],ds[i+2],ds[i+3],?_,Dz _,Dz _,Dz _,Dz _⟩
 unfold bX
 rw[HT.sr,HT.sr,Dy,Nat.min_eq_left (by omega),Nat.min_eq_left (by omega),show i+4-i=4 by omega,←List.map_drop,←List.map_take]
 rw[List.drop_eq_getElem_cons (show i<ds.length by omega),List.drop_eq_getElem_cons (show i+1<ds.length by omega),List.drop_eq_getElem_cons (show i+1+1<ds.length by omega),List.drop_eq_getElem_cons (show i+1+1+1<ds.length by omega)]
 rfl
def eC:List Int:=[8,12,13,31]++(List.replicate 30 ([12,6,12,3]:List Int)).flatten
theorem w8{k:Nat}(h:k<30):eC[4+4*k]?=some 12/\eC[4+4*k+1]?=some 6/\eC[4+4*k+2]?=some 12/\eC[4+4*k+3]?=some 3:=by
 have:∀k:Fin 30,eC[4+4*k.val]?=some 12/\eC[4+4*k.val+1]?=some 6/\eC[4+4*k.val+2]?=some 12/\eC[4+4*k.val+3]?=some 3:=by decide +kernel
 exact this ⟨k,h⟩
def q0(K:Du):Sp:=fun vs H Q _=>∃c p,vs=[.int c,.int p]/\0<p/\∀v m ws H',Ext H H'->bz H' v m ws->HOuse3 m ws->Q v H'
theorem xF{e:Int}(h0:0<=e)(h1:e<6):∃z,bt ([.str "up",.str "down",.str "stay",.str "zero",.str "up",.str "down"]:List V) e=some (.str z)/\cg z:=by
 have:e=0\/e=1\/e=2\/e=3\/e=4\/e=5:=by omega
 rcases this with rfl | rfl | rfl | rfl | rfl | rfl
 ·exact⟨_,rfl,.inl rfl⟩
 ·exact⟨_,rfl,.inr (.inl rfl)⟩
 ·exact⟨_,rfl,.inr (.inr (.inl rfl))⟩
 ·exact⟨_,rfl,.inr (.inr (.inr rfl))⟩
 ·exact⟨_,rfl,.inl rfl⟩
 ·exact⟨_,rfl,.inr (.inl rfl)⟩
theorem xS:(Str.ofString "abc").cps.toList=[97,98,99]:=by decide +kernel
theorem yY{e:Int}(h0:0<=e)(h1:e<3):∃c,bt (Str.ofString "abc").cps.toList e=some c/\97<=c/\c<=99:=by
 rw[xS]
 have:e=0\/e=1\/e=2:=by omega
 rcases this with rfl | rfl | rfl
 ·exact⟨97,rfl,by decide,by decide⟩
 ·exact⟨98,rfl,by decide,by decide⟩
 ·exact⟨99,rfl,by decide,by decide⟩
theorem BE{e:Int}(h0:0<=e)(h1:e<8):∃w:Int,bt (([4,4,4,5,3,2,5,12]:List Int).map V.int) e=some (.int w)/\1<=w/\w<=12:=by
 have:e=0\/e=1\/e=2\/e=3\/e=4\/e=5\/e=6\/e=7:=by omega
 rcases this with rfl | rfl | rfl | rfl | rfl | rfl | rfl | rfl<;>exact⟨_,rfl,by decide,by decide⟩
theorem bz.mk{H:Hp}{p q:Addr}{m:Int}{ws:List Way}(h1:H p=some (.tup [.int m,.ref q]))(h2:bZ H q (ws.map Way.key)):bz H (.ref p) m ws:=⟨p,q,rfl,h1,h2⟩
abbrev kW:Stmt:=stq 64
theorem vp:FnScope ["_law_cell_here","_law_prime","_law_draws_here","_law_many","_law_often","_law_ways","_law_k","_law_room","_law_deed","_law_other","_law_sign","_law_word"] ["_law_cell_here","_law_prime"] (aI kW):=⟨rfl,rfl,rfl,by decide +kernel,rfl,by decide +kernel,by decide +kernel⟩
theorem xZ{P:Program}{w:World}{K:Du}{mg:Str->Option Value}{base:Heap}(D:Dfn K mg "_law_drawn_house" kW ["_law_cell_here","_law_prime"])(T:Blt mg)(C__law_unlike:Cal P w K mg base "_law_unlike" 1 ["_law_ways"] (nQ K))(C__law_draws:Cal P w K mg base "_law_draws" 2 ["_law_cell_here","_law_widths","_law_prime"] (fB K)):Cal P w K mg base "_law_drawn_house" 3 ["_law_cell_here","_law_prime"] (q0 K):=by
 have nd:=(vp).nd
 refine D.ok vp (fun vs H Q E h=>?_) (fun X hX H vs Q E h=>?_)
 ·obtain⟨c,p,rfl,_⟩:=h;rfl
 ·obtain⟨f,cdv,A,outer,s,H0,E0,rfl,hr⟩:=hX
  obtain⟨c,p,rfl,hp,q⟩:=h
  refine⟨_,(@aj _ _ _ _ _ (@aF _ _ 2 _ _ _ _ nd rfl (Or.inl rfl) (aC C__law_draws hr (@aa _ _ _ _ _ (pv 0) (@aa _ _ _ _ _ (aq i9 (@bE _ _ _ _ (i5 (.c (.c (.c (.c .n)))))) (aq oK (@bE _ _ _ _ (i5 (.c (.c (.c (.c .n)))))) ae)) (@aa _ _ _ _ _ (pv 1) af rfl) rfl) rfl)) rfl (Or.inl rfl))
    (@aj _ _ _ _ _ (@aF _ _ 3 _ _ _ _ nd rfl (Or.inl rfl) (aq aT ae (aq cz (@ai _ _ _ _ _ _ _ (aJ K) (pv 2) ae (fun _ _=>rfl)) (@ai _ _ _ _ _ _ _ (aJ K) (@bE _ _ _ _ (i5 (.c (.c (.c (.c (.c (.c (.c (.c .n)))))))))) (@ai _ _ _ _ _ _ _ (aJ K) (pv 2) ae (fun _ _=>rfl)) (fun _ _=>rfl)))) rfl (Or.inl rfl))
    (@aj _ _ _ _ _ (@aF _ _ 4 _ _ _ _ nd rfl (Or.inl rfl) (@ai _ _ _ _ _ _ _ (aJ K) (pv 2) ae (fun _ _=>rfl)) rfl (Or.inl rfl))
    (@aj _ _ _ _ _ (de (aR b9 (@ai _ _ _ _ _ _ _ (aJ K) (pv 2) ae (fun _ _=>rfl)) ae (aQ _)) (@ao _ _ _ (@aF _ _ 4 _ _ _ _ nd rfl (Or.inl rfl) (@ai _ _ _ _ _ _ _ (aJ K) (pv 2) ae (fun _ _=>rfl)) rfl (Or.inl rfl))) aV)
    (@aj _ _ _ _ _ (@aF _ _ 5 _ _ _ _ nd rfl (Or.inl rfl) (@bE _ _ _ _ af) rfl (Or.inl rfl))
    (@aj _ _ _ _ _ (bJ PassesOwn.never rfl (bQ rfl T.range_ (@aa _ _ _ _ _ (pv 4) af rfl)) (aM (i:=6) nd rfl (Or.inl rfl)) (@aj _ _ _ _ _ (@fV _ _ _ _ _ _ (gW (iz K) (pv 2) (fu (aq aT ae (aq dR ae (pv 6)))) (fu (aq aT ae (aq dR ae (pv 6))))) (wN (n:=4) K rfl (cA (aM (i:=7) nd rfl (Or.inl rfl)) (cA (aM (i:=8) nd rfl (Or.inl rfl)) (cA (aM (i:=9) nd rfl (Or.inl rfl)) (cA (aM (i:=10) nd rfl (Or.inl rfl)) fN))))) rfl rfl rfl)
    (@aj _ _ _ _ _ (@aF _ _ 11 _ _ _ _ nd rfl (Or.inl rfl) (@ai _ _ _ _ _ _ _ (aJ K) (@bE _ _ _ _ (@aa _ _ _ _ _ aS (@aa _ _ _ _ _ aS (@aa _ _ _ _ _ aS (@aa _ _ _ _ _ aS (@aa _ _ _ _ _ aS (@aa _ _ _ _ _ aS af rfl) rfl) rfl) rfl) rfl) rfl)) (pv 8) (fun _ _=>rfl)) rfl (Or.inl rfl))
    (@ao _ _ _ (bA (bN K DF DS DT bY (pv 5) (@aa _ _ _ _ _ (@bI _ _ _ _ _ (@aa _ _ _ _ _ (aq cz (pv 7) (pv 3)) (@aa _ _ _ _ _ (pv 11) (@aa _ _ _ _ _ (aq cz (pv 9) (pv 3)) (@aa _ _ _ _ _ (@ai _ _ _ _ _ _ _ uQ aS (pv 10) (fun _ _=>rfl)) af rfl) rfl) rfl) rfl)) af rfl)))))))
    (@ao _ _ _ (@aE _ _ _ _ (@bI _ _ _ _ _ (@aa _ _ _ _ _ (pv 3) (@aa _ _ _ _ _ (aC C__law_unlike hr (@aa _ _ _ _ _ (pv 5) af rfl)) af rfl) rfl)))))))))),?_⟩
  walk_at "r"
  refine aP fun w0 G1 f1 hw0 _=>?_
  walk_at "r"
  refine aP fun w1 G2 f2 hw1 _=>?_
  walk_at "r"
  refine mD hw1 (by omega) (bw (by decide)) (cj fun w2 G3 f3 hw2 _=>?_)
  walk_at "r"
  refine jg (f3 _ _ (f2 _ _ hw0)) hw2 (bw (by decide)) (cj fun w3 G4 f4 hw3 _=>?_)
  walk_at "r"
  refine kn eC hw3 (by decide +kernel) (by decide +kernel) (hp) fun dq ds H1 e1 hd hdn hl hb=>?_
  have eH:Ext H H1:=f1.trans (f2.trans (f3.trans (f4.trans e1)))
  have hl':ds.length=124:=hl
  have at_:∀(i:Nat) (x:Int),eC[i]?=some x->∃d,ds[i]?=some d/\0<=d/\d<x:=fun i x hx=>by
   have hi:i<ds.length:=by
    rw[hl]
    exact(DG.mp hx).1
   exact⟨ds[i],Dz hi,hb i _ x (Dz hi) hx⟩
  obtain⟨d0,g0,b00,b01⟩:=at_ 0 8 rfl
  obtain⟨d1,g1,b10,b11⟩:=at_ 1 12 rfl
  obtain⟨d2,g2,b20,b21⟩:=at_ 2 13 rfl
  obtain⟨d3,g3,b30,b31⟩:=at_ 3 31 rfl
  have pick:∀{i:Nat} {d:Int},ds[i]?=some d->bt (ds.map V.int) (i:Int)=some (.int d):=fun{i d} h=>eW (by rw[DA,h];rfl)
  walk_at "r"
  refine aK (ag.of hd) (pick (i:=1) g1) ?_
  walk_at "r"
  refine aP fun mq H2 e2 hmq _=>?_
  walk_at "r"
  refine aK (ag.of (e2 _ _ hd)) (pick (i:=0) g0) ?_
  obtain⟨w,hw,hw1',hw2'⟩:=BE b00 b01
  refine aK (ag.of hmq) hw ?_
  try refine rd_I (show(0:Int)<w by omega) ?_
  walk_at "r"
  have r0:0<=d1 % w:=Int.emod_nonneg _ (by omega)
  have r1:d1 % w<w:=Int.emod_lt_of_pos _ (by omega)
  obtain⟨m,hm,m1,m2⟩:∃m,1+d1 % w=m/\1<=m/\m<=12:=⟨_,rfl,by omega,by omega⟩
  rw[hm]
  refine aK (ag.of (e2 _ _ hd)) (pick (i:=2) g2) ?_
  walk_at "r"
  have eH2:Ext H H2:=eH.trans e2
  have hd2:=e2 _ _ hd
  refine hV (fun σ' H'=>H'=H2/\∃o:Nat,o<=30/\σ'=[some (.int c),some (.int p),some (.ref dq),some (.int m),some (.int o),none,none,none,none,none,none,none]) ?_ ?_
  ·walk_at "r"
   refine aK (ag.of hd2) (pick (i:=0) g0) ?_
   walk_at "r"
   refine eJ (fun h=>?_) (fun h=>?_)
   ·walk_at "r"
    refine aK (ag.of hd2) (pick (i:=3) g3) ?_
    walk_at "r"
    exact⟨rfl,d3.toNat,by omega,by rw[DL b30];rfl⟩
   ·walk_at "r"
    exact⟨rfl,d2.toNat,by omega,by rw[DL b20];rfl⟩
  rintro σ' H' ⟨rfl,o,ho,rfl⟩
  clear hw hw1' hw2' r0 r1 b00 b01 b10 b11 b20 b21 b30 b31
  walk_at "r"
  refine aP fun f H3 e3 hf hfn=>?_
  walk_at "r"
  refine bS (by omega) ?_
  refine forR (fun i σ H4=>Ext H' H4/\∃(k1 k2 k3 k4 k5 k6:Option V) (cs:List Addr) (us:List Way),σ=[some (.int c),some (.int p),some (.ref dq),some (.int m),some (.int o),some (.ref f),k1,k2,k3,k4,k5,k6]/\H4 f=some (.lst (cs.map V.ref))/\aN H4 cs us/\(∀u∈us,u.Ok3 m)/\us.length=i)
   ⟨e3,none,none,none,none,none,none,[],[],rfl,hf,aN.nil _,fun u hu=>by simp at hu,rfl⟩ ?_ ?_
  ·rintro i σ H4 hi ⟨e4,k1,k2,k3,k4,k5,k6,cs,us,rfl,hf4,al,ok,len⟩
   rw[DK]at hi
   have hi30:i<30:=by omega
   obtain⟨a,b,c',d,hcut,ga,gb,gc,gd⟩:=BL (ds:=ds) (i:=4+4*i) (by omega)
   obtain⟨y0,y1,y2,y3⟩:=w8 hi30
   have ba:=hb _ _ _ ga y0
   have bb:=hb _ _ _ gb y1
   have bc:=hb _ _ _ gc y2
   have bd:=hb _ _ _ gd y3
   have hd4:=e4 _ _ hd2
   walk_at "r"
   refine iM (ag.of hd4) (cj fun t H5 e5 ht htn=>?_)
   rw[show (4:Int)+4*(0+(i:Int))=((4+4*i:Nat):Int) by omega,show (8:Int)+4*(0+(i:Int))=((4+4*i+4:Nat):Int) by omega,hcut]at ht
   walk_at "r"
   refine AV (ag.of ht) rfl ?_
   walk_at "r"
   refine aP fun u1 H6 e6 hu1 _=>?_
   walk_at "r"
   obtain⟨z,hz,okz⟩:=xF bb.1 bb.2
   refine aK (ag.of hu1) hz ?_
   walk_at "r"
   have hf6:=e6 _ _ (e5 _ _ hf4)
   refine⟨df (ag.of hf6),?_⟩
   walk_at "r"
   try refine rd_I (show(0:Int)<m by omega) ?_
   walk_at "r"
   try refine rd_I (show(0:Int)<m by omega) ?_
   walk_at "r"
   obtain⟨s,hs,s1,s2⟩:=yY bd.1 bd.2
   refine⟨_,_,s,rfl,rfl,kg (by decide +kernel),hs,?_⟩
   walk_at "r"
   refine aP fun v H7 e7 hv _=>?_
   have hf7:=e7 _ _ hf6
   walk_at "r"
   refine bV hf7 (by rw[Dy,al.1,len];exact Nat.lt_of_le_of_lt (show i<=1000 by omega) (by decide)) ?_
   walk_at "r"
   have al7:aN H7 cs us:=((al.ext e5).ext e6).ext e7
   have hv7:H7 v=some (.tup (Way.vs ⟨a % m,z,c' % m,⟨#[s]⟩⟩)):=hv
   refine⟨cy (e4.trans (e5.trans (e6.trans e7))) hfn,_,_,_,_,_,_,cs++[v],us++[⟨a % m,z,c' % m,⟨#[s]⟩⟩],rfl,by rw[aH,DO];rfl,(al7.put hf7).snoc ?_,?_,by simp[len]⟩
   ·rw[aB (dJ hv7 hf7 (by intro z;cases z))]
    exact hv7
   ·intro u hu
    rcases DU.mp hu with hu | hu
    ·exact ok u hu
    ·rw[DI.mp hu]
     exact⟨Int.emod_nonneg _ (by omega),Int.emod_lt_of_pos _ (by omega),Int.emod_nonneg _ (by omega),Int.emod_lt_of_pos _ (by omega),okz,s,s1,s2,rfl⟩
  ·rintro σ H4 ⟨e4,k1,k2,k3,k4,k5,k6,cs,us,rfl,hf4,al,ok,len⟩
   rw[DK]at len
   walk_at "r"
   refine⟨f,cs,us,rfl,hf4,al,fun u hu=>(ok u hu).lay,by omega,fun r H5 ws e5 hws nd sub ln=>?_⟩
   walk_at "r"
   refine aP fun t H6 e6 ht _=>?_
   exact q _ m ws H6 (eH2.trans (e4.trans (e5.trans e6))) (bz.mk ht (hws.ext e6)) ⟨m1,m2,by omega,fun u hu=>ok u (sub u hu),nd⟩
structure WL(H0 H:Hp)(f:Addr)(us:List Way):Prop where
 ext:Ext H0 H
 at_:∃cs:List Addr,H f=some (.lst (cs.map V.ref))/\aN H cs us
theorem WL.nil{H0 H:Hp}{f:Addr}(e:Ext H0 H)(hf:H f=some (.lst [])):WL H0 H f []:=⟨e,[],hf,aN.nil _⟩
theorem WL.push{H0 H H1:Hp}{f v:Addr}{us:List Way}{w:Way}(h:WL H0 H f us)(hfn:H0 f=none)(e:Ext H H1)(hv:H1 v=some (.tup w.vs)):
  ∃xs,H1 f=some (.lst xs)/\xs.length=us.length/\WL H0 (upd H1 f (.lst (xs++[.ref v]))) f (us++[w]):=by
 obtain⟨e0,cs,hf,al⟩:=h
 have hf1:=e _ _ hf
 refine⟨cs.map V.ref,hf1,by rw[Dy];exact al.1,cy (e0.trans e) hfn,cs++[v],by rw[aH,DO];rfl,((al.ext e).put hf1).snoc ?_⟩
 rw[aB (dJ hv hf1 (by intro z;cases z))]
 exact hv
theorem WL.ty{K:Du}{H0 H H1:Hp}{f:Addr}{us:List Way}(h:WL H0 H f us)(e:Ext H H1):fS K "list" (.ref f) H1:=by
 obtain⟨_,cs,hf,al⟩:=h
 exact df (ag.of (e _ _ hf))
theorem j7:jT "a":=⟨97,by decide,by decide,by decide +kernel⟩
theorem jb:jT "b":=⟨98,by decide,by decide,by decide +kernel⟩
theorem lX:jT "c":=⟨99,by decide,by decide,by decide +kernel⟩
theorem jx:cg "up":=.inl rfl
theorem nB:cg "down":=.inr (.inl rfl)
theorem gJ:cg "stay":=.inr (.inr (.inl rfl))
theorem mf:cg "zero":=.inr (.inr (.inr rfl))
theorem dW{n:Nat}(h:n<=1000):n<sizeLine:=Nat.lt_of_le_of_lt h (by decide)
theorem jO{a b:V}{e:Int}(h0:0<=e)(h1:e<2):∃v,bt [a,b] e=some v/\(v=a\/v=b):=by
 have:e=0\/e=1:=by omega
 rcases this with rfl | rfl
 ·exact⟨a,rfl,.inl rfl⟩
 ·exact⟨b,rfl,.inr rfl⟩
theorem dY{m:Int}{us:List Way}{w:Way}(h:∀u∈us,u.Ok3 m)(hw:w.Ok3 m):∀u∈us++[w],u.Ok3 m:=fun u hu=>by
 rcases DU.mp hu with hu | hu
 ·exact h u hu
 ·rw[DI.mp hu];exact hw
theorem xy:(Str.ofString "ab").cps.toList=[97,98]:=by decide +kernel
theorem AX{e:Int}(h0:0<=e)(h1:e<2):∃c,bt (Str.ofString "ab").cps.toList e=some c/\97<=c/\c<=99:=by
 rw[xy]
 have:e=0\/e=1:=by omega
 rcases this with rfl | rfl
 ·exact⟨97,rfl,by decide,by decide⟩
 ·exact⟨98,rfl,by decide,by decide⟩
theorem b6{ws ds:List Int}(hl:ds.length=ws.length)(hb:∀(i:Nat) (d x:Int),ds[i]?=some d->ws[i]?=some x->0<=d/\d<x)(i:Nat){x:Int}(hx:ws[i]?=some x):∃d,bt (ds.map V.int) (i:Int)=some (.int d)/\0<=d/\d<x:=by
 have hi:i<ds.length:=by
  rw[hl]
  exact(DG.mp hx).1
 have g:ds[i]?=some ds[i]:=Dz hi
 exact⟨ds[i],eW (by rw[DA,g];rfl),hb i _ x g hx⟩
def pw(K:Du):Sp:=fun vs H Q _=>∃c p,vs=[.int c,.int p]/\0<p/\∀v m ws H',Ext H H'->bz H' v m ws->HOuse3 m ws->Q v H'
abbrev kL:Stmt:=stq 63
theorem qy:FnScope ["_law_cell_here","_law_prime","_law_draws_here","_law_up","_law_down","_law_many","_law_ways","_law_k"] ["_law_cell_here","_law_prime"] (aI kL):=⟨rfl,rfl,rfl,by decide +kernel,rfl,by decide +kernel,by decide +kernel⟩
theorem Az{P:Program}{w:World}{K:Du}{mg:Str->Option Value}{base:Heap}(D:Dfn K mg "_law_gate_house" kL ["_law_cell_here","_law_prime"])(T:Blt mg)(C__law_unlike:Cal P w K mg base "_law_unlike" 1 ["_law_ways"] (nQ K))(C__law_draws:Cal P w K mg base "_law_draws" 2 ["_law_cell_here","_law_widths","_law_prime"] (fB K)):Cal P w K mg base "_law_gate_house" 3 ["_law_cell_here","_law_prime"] (pw K):=by
 have nd:=(qy).nd
 refine D.ok qy (fun vs H Q E h=>?_) (fun X hX H vs Q E h=>?_)
 ·obtain⟨c,p,rfl,_⟩:=h;rfl
 ·obtain⟨f,cdv,A,outer,s,H0,E0,rfl,hr⟩:=hX
  obtain⟨c,p,rfl,hp,q⟩:=h
  refine⟨_,(@aj _ _ _ _ _ (@aF _ _ 2 _ _ _ _ nd rfl (Or.inl rfl) (aC C__law_draws hr (@aa _ _ _ _ _ (pv 0) (@aa _ _ _ _ _ (@bE _ _ _ _ (i5 (.c (.c (.c (.c (.c (.c (.c .n))))))))) (@aa _ _ _ _ _ (pv 1) af rfl) rfl) rfl)) rfl (Or.inl rfl))
    (@aj _ _ _ _ _ (tu (i:=3) (j:=4) rfl nd rfl rfl (by decide) rfl rfl (@aa _ _ _ _ _ (aq aT ae (@ai _ _ _ _ _ _ _ (aJ K) (pv 2) ae (fun _ _=>rfl))) (@aa _ _ _ _ _ (aq aT ae (@ai _ _ _ _ _ _ _ (aJ K) (pv 2) ae (fun _ _=>rfl))) af rfl) rfl) rfl)
    (@aj _ _ _ _ _ (@aF _ _ 5 _ _ _ _ nd rfl (Or.inl rfl) (aq aT (aq aT (pv 3) (pv 4)) ae) rfl (Or.inl rfl))
    (@aj _ _ _ _ _ (@aF _ _ 6 _ _ _ _ nd rfl (Or.inl rfl) (@bE _ _ _ _ af) rfl (Or.inl rfl))
    (@aj _ _ _ _ _ (bJ PassesOwn.never rfl (bQ rfl T.range_ (@aa _ _ _ _ _ (pv 3) af rfl)) (aM (i:=7) nd rfl (Or.inl rfl)) (@ao _ _ _ (bA (bN K DF DS DT bY (pv 6) (@aa _ _ _ _ _ (@bI _ _ _ _ _ (@aa _ _ _ _ _ (pv 7) (@aa _ _ _ _ _ aS (@aa _ _ _ _ _ (aq cz (aq aT (pv 7) ae) (pv 3)) (@aa _ _ _ _ _ (@ai _ _ _ _ _ _ _ uQ aS (@ai _ _ _ _ _ _ _ (aJ K) (pv 2) ae (fun _ _=>rfl)) (fun _ _=>rfl)) af rfl) rfl) rfl) rfl)) af rfl)))))
    (@aj _ _ _ _ _ (bA (bN K DF DS DT bY (pv 6) (@aa _ _ _ _ _ (@bI _ _ _ _ _ (@aa _ _ _ _ _ (aq cz (@ai _ _ _ _ _ _ _ (aJ K) (pv 2) ae (fun _ _=>rfl)) (pv 3)) (@aa _ _ _ _ _ aS (@aa _ _ _ _ _ (pv 3) (@aa _ _ _ _ _ aS af rfl) rfl) rfl) rfl)) af rfl)))
    (@aj _ _ _ _ _ (bJ PassesOwn.never rfl (bQ rfl T.range_ (@aa _ _ _ _ _ (pv 4) af rfl)) (aM (i:=7) nd rfl (Or.inl rfl)) (@ao _ _ _ (bA (bN K DF DS DT bY (pv 6) (@aa _ _ _ _ _ (@bI _ _ _ _ _ (@aa _ _ _ _ _ (aq aT (pv 3) (pv 7)) (@aa _ _ _ _ _ aS (@aa _ _ _ _ _ (aq aT (pv 3) (aq cz (aq aT (pv 7) ae) (pv 4))) (@aa _ _ _ _ _ aS af rfl) rfl) rfl) rfl)) af rfl)))))
    (@aj _ _ _ _ _ (bA (bN K DF DS DT bY (pv 6) (@aa _ _ _ _ _ (@bI _ _ _ _ _ (@aa _ _ _ _ _ (aq aT (pv 3) (aq cz (@ai _ _ _ _ _ _ _ (aJ K) (pv 2) ae (fun _ _=>rfl)) (pv 4))) (@aa _ _ _ _ _ aS (@aa _ _ _ _ _ (aq cX (pv 5) ae) (@aa _ _ _ _ _ aS af rfl) rfl) rfl) rfl)) af rfl)))
    (@aj _ _ _ _ _ (bA (bN K DF DS DT bY (pv 6) (@aa _ _ _ _ _ (@bI _ _ _ _ _ (@aa _ _ _ _ _ (aq cX (pv 5) ae) (@aa _ _ _ _ _ (@ai _ _ _ _ _ _ _ (aJ K) (@bE _ _ _ _ (@aa _ _ _ _ _ aS (@aa _ _ _ _ _ aS af rfl) rfl)) (@ai _ _ _ _ _ _ _ (aJ K) (pv 2) ae (fun _ _=>rfl)) (fun _ _=>rfl)) (@aa _ _ _ _ _ (@ai _ _ _ _ _ _ _ (aJ K) (@bE _ _ _ _ (@aa _ _ _ _ _ ae (@aa _ _ _ _ _ (aq cX (pv 5) ae) af rfl) rfl)) (@ai _ _ _ _ _ _ _ (aJ K) (pv 2) ae (fun _ _=>rfl)) (fun _ _=>rfl)) (@aa _ _ _ _ _ aS af rfl) rfl) rfl) rfl)) af rfl)))
    (@ao _ _ _ (@aE _ _ _ _ (@bI _ _ _ _ _ (@aa _ _ _ _ _ (pv 5) (@aa _ _ _ _ _ (aC C__law_unlike hr (@aa _ _ _ _ _ (pv 6) af rfl)) af rfl) rfl))))))))))))),?_⟩
  walk_at "r"
  refine aP fun w0 G1 f1 hw0 _=>?_
  walk_at "r"
  refine kn [6,5,6,5,2,2,2] hw0 (by decide) (by decide) (hp) fun dq ds H1 e1 hd hdn hl hb=>?_
  have eH:Ext H H1:=f1.trans e1
  obtain⟨d0,g0,b00,b01⟩:=b6 hl hb 0 rfl
  obtain⟨d1,g1,b10,b11⟩:=b6 hl hb 1 rfl
  obtain⟨d2,g2,b20,b21⟩:=b6 hl hb 2 rfl
  obtain⟨d3,g3,b30,b31⟩:=b6 hl hb 3 rfl
  obtain⟨d4,g4,b40,b41⟩:=b6 hl hb 4 rfl
  obtain⟨d5,g5,b50,b51⟩:=b6 hl hb 5 rfl
  obtain⟨d6,g6,b60,b61⟩:=b6 hl hb 6 rfl
  clear hb hl
  walk_at "r"
  refine aK (ag.of hd) g0 ?_
  walk_at "r"
  refine aK (ag.of hd) g1 ?_
  walk_at "r"
  obtain⟨U,hU⟩:∃U:Nat,1+d0=(U:Int):=⟨(1+d0).toNat,by omega⟩
  obtain⟨D,hD⟩:∃D:Nat,1+d1=(D:Int):=⟨(1+d1).toNat,by omega⟩
  rw[hU,hD]
  have u1:1<=U:=by omega
  have u6:U<=6:=by omega
  have v1:1<=D:=by omega
  have v5:D<=5:=by omega
  clear b00 b01 b10 b11 hU hD
  obtain⟨m,hm⟩:∃m:Int,(U:Int)+(D:Int)+1=m:=⟨_,rfl⟩
  rw[hm]
  refine aP fun f H2 e2 hf hfn=>?_
  walk_at "r"
  refine bS (by omega) ?_
  have hfn0:H1 f=none:=hfn
  refine forR (fun i σ H3=>∃(k:Option V) (us:List Way),σ=[some (.int c),some (.int p),some (.ref dq),some (.int U),some (.int D),some (.int m),some (.ref f),k]/\WL H1 H3 f us/\(∀u∈us,u.Ok3 m)/\us.length=i)
   ⟨none,[],rfl,WL.nil e2 hf,fun u hu=>by simp at hu,rfl⟩ ?_ ?_
  ·rintro i σ H3 hi ⟨k,us,rfl,wl,ok,len⟩
   rw[DK]at hi
   walk_at "r"
   refine⟨wl.ty (Ext.rfl' _),?_⟩
   walk_at "r"
   try refine rd_I (show(0:Int)<(U:Int) by omega) ?_
   walk_at "r"
   refine aK (ag.of (wl.ext _ _ hd)) g4 ?_
   obtain⟨s,hs,s1,s2⟩:=AX b40 b41
   refine⟨_,_,s,rfl,rfl,kg (by decide +kernel),hs,?_⟩
   walk_at "r"
   refine aP fun v H4 e4 hv _=>?_
   walk_at "r"
   obtain⟨xs,hx,hlx,wl'⟩:=wl.push (w:=⟨0+(i:Int),"up",(0+(i:Int)+1) % (U:Int),⟨#[s]⟩⟩) hfn0 e4 hv
   refine bV hx (dW (by omega)) ?_
   walk_at "r"
   exact⟨_,_,rfl,wl',dY ok ⟨by show 0<=0+(i:Int);omega,by show 0+(i:Int)<m;omega,Int.emod_nonneg _ (by omega),Int.lt_trans (Int.emod_lt_of_pos _ (by omega)) (by omega),jx,s,s1,s2,rfl⟩,by simp[len]⟩
  rintro σ H3 ⟨k,us,rfl,wl,ok,len⟩
  rw[DK]at len
  walk_at "r"
  refine⟨wl.ty (Ext.rfl' _),?_⟩
  walk_at "r"
  refine aK (ag.of (wl.ext _ _ hd)) g2 ?_
  try refine rd_I (show(0:Int)<(U:Int) by omega) ?_
  walk_at "r"
  refine aP fun v H4 e4 hv _=>?_
  walk_at "r"
  have r0:0<=d2 % (U:Int):=Int.emod_nonneg _ (by omega)
  have r1:d2 % (U:Int)<U:=Int.emod_lt_of_pos _ (by omega)
  obtain⟨xs,hx,hlx,wl2⟩:=wl.push (w:=⟨d2 % (U:Int),"stay",(U:Int),"b"⟩) hfn0 e4 hv
  have ok2:=dY ok (w:=⟨d2 % (U:Int),"stay",(U:Int),"b"⟩) ⟨r0,by show d2 % (U:Int)<m;omega,by show 0<=(U:Int);omega,by show(U:Int)<m;omega,gJ,jb⟩
  refine bV hx (dW (by omega)) ?_
  generalize upd H4 f _=H5 at wl2 ⊢
  generalize hus2:us++[_]=us2 at wl2 ok2
  have len2:us2.length=U+1:=by rw[←hus2];simp[len]
  clear hus2 hx hlx hv e4 r0 r1 wl ok len
  walk_at "r"
  refine bS (by omega) ?_
  refine forR (fun i σ H3=>∃(k:Option V) (us:List Way),σ=[some (.int c),some (.int p),some (.ref dq),some (.int U),some (.int D),some (.int m),some (.ref f),k]/\WL H1 H3 f us/\(∀u∈us,u.Ok3 m)/\us.length=U+1+i)
   ⟨_,us2,rfl,wl2,ok2,len2⟩ ?_ ?_
  ·rintro i σ H3 hi ⟨k,us,rfl,wl,ok,len⟩
   rw[DK]at hi
   walk_at "r"
   refine⟨wl.ty (Ext.rfl' _),?_⟩
   walk_at "r"
   try refine rd_I (show(0:Int)<(D:Int) by omega) ?_
   walk_at "r"
   refine aP fun v H4 e4 hv _=>?_
   walk_at "r"
   have r0:0<=(0+(i:Int)+1) % (D:Int):=Int.emod_nonneg _ (by omega)
   have r1:(0+(i:Int)+1) % (D:Int)<D:=Int.emod_lt_of_pos _ (by omega)
   obtain⟨xs,hx,hlx,wl'⟩:=wl.push (w:=⟨(U:Int)+(0+(i:Int)),"down",(U:Int)+(0+(i:Int)+1) % (D:Int),"a"⟩) hfn0 e4 hv
   refine bV hx (dW (by omega)) ?_
   walk_at "r"
   exact⟨_,_,rfl,wl',dY ok ⟨by show 0<=(U:Int)+(0+(i:Int));omega,by show(U:Int)+(0+(i:Int))<m;omega,by show 0<=(U:Int)+(0+(i:Int)+1) % (D:Int);omega,by show(U:Int)+(0+(i:Int)+1) % (D:Int)<m;omega,nB,j7⟩,by simp[len];omega⟩
  clear wl2 ok2 len2
  rintro σ H3 ⟨k,us,rfl,wl,ok,len⟩
  rw[DK]at len
  walk_at "r"
  refine⟨wl.ty (Ext.rfl' _),?_⟩
  walk_at "r"
  refine aK (ag.of (wl.ext _ _ hd)) g3 ?_
  try refine rd_I (show(0:Int)<(D:Int) by omega) ?_
  walk_at "r"
  refine aP fun v H4 e4 hv _=>?_
  walk_at "r"
  have r0:0<=d3 % (D:Int):=Int.emod_nonneg _ (by omega)
  have r1:d3 % (D:Int)<D:=Int.emod_lt_of_pos _ (by omega)
  obtain⟨xs,hx,hlx,wl2⟩:=wl.push (w:=⟨(U:Int)+d3 % (D:Int),"zero",m-1,"c"⟩) hfn0 e4 hv
  have ok2:=dY ok (w:=⟨(U:Int)+d3 % (D:Int),"zero",m-1,"c"⟩) ⟨by show 0<=(U:Int)+d3 % (D:Int);omega,by show(U:Int)+d3 % (D:Int)<m;omega,by show 0<=m-1;omega,by show m-1<m;omega,mf,lX⟩
  refine bV hx (dW (by omega)) ?_
  generalize upd H4 f _=H5 at wl2 ⊢
  generalize hus2:us++[_]=us2 at wl2 ok2
  have len2:us2.length=U+D+2:=by rw[←hus2];simp[len];omega
  clear hus2 hx hlx hv e4 r0 r1 wl ok len
  walk_at "r"
  refine⟨wl2.ty (Ext.rfl' _),?_⟩
  walk_at "r"
  refine aP fun t1 H6 e6 ht1 _=>?_
  walk_at "r"
  refine aK (ag.of (e6 _ _ (wl2.ext _ _ hd))) g5 ?_
  obtain⟨x5,hx5,ax5⟩:=jO (a:=V.str "up") (b:=V.str "stay") b50 b51
  refine aK (ag.of ht1) hx5 ?_
  walk_at "r"
  refine aP fun t2 H7 e7 ht2 _=>?_
  walk_at "r"
  refine aK (ag.of (e7 _ _ (e6 _ _ (wl2.ext _ _ hd)))) g6 ?_
  obtain⟨x6,hx6,ax6⟩:=jO (a:=V.int 0) (b:=V.int (m-1)) b60 b61
  refine aK (ag.of ht2) hx6 ?_
  walk_at "r"
  refine aP fun v H8 e8 hv _=>?_
  walk_at "r"
  obtain⟨z,rfl,oz⟩:∃z,x5=.str z/\cg z:=by
   rcases ax5 with rfl | rfl
   ·exact⟨_,rfl,jx⟩
   ·exact⟨_,rfl,gJ⟩
  obtain⟨y,rfl,y0,y1⟩:∃y:Int,x6=.int y/\0<=y/\y<m:=by
   rcases ax6 with rfl | rfl
   ·exact⟨_,rfl,by omega,by omega⟩
   ·exact⟨_,rfl,by omega,by omega⟩
  obtain⟨xs,hx,hlx,wl3⟩:=wl2.push (w:=⟨m-1,z,y,"b"⟩) hfn0 (e6.trans (e7.trans e8)) hv
  have ok3:=dY ok2 (w:=⟨m-1,z,y,"b"⟩) ⟨by show 0<=m-1;omega,by show m-1<m;omega,y0,y1,oz,jb⟩
  refine bV hx (dW (by omega)) ?_
  generalize upd H8 f _=H9 at wl3 ⊢
  generalize hus3:us2++[_]=us3 at wl3 ok3
  have len3:us3.length=U+D+3:=by rw[←hus3];simp[len2]
  walk_at "r"
  obtain⟨ew,cs,hcs,al⟩:=wl3
  refine⟨f,cs,us3,rfl,hcs,al,fun u hu=>(ok3 u hu).lay,by omega,fun r I1 ws e5 hws nd sub ln=>?_⟩
  walk_at "r"
  refine aP fun t I2 e6' ht _=>?_
  exact q _ m ws I2 (eH.trans (ew.trans (e5.trans e6'))) (bz.mk ht (hws.ext e6')) ⟨by omega,by omega,by omega,fun u hu=>ok3 u (sub u hu),nd⟩
theorem aN.rev{H:Hp}{bs:List Addr}{ws:List Way}(h:aN H bs ws):aN H bs.reverse ws.reverse:=by
 refine⟨by rw[List.length_reverse,List.length_reverse];exact h.1,fun j b w e1 e2=>?_⟩
 have hj:j<bs.length:=by
  have:=(DG.mp e1).1
  simpa using this
 rw[List.getElem?_reverse hj]at e1
 rw[List.getElem?_reverse (by rw[←h.1];exact hj),←h.1]at e2
 exact h.2 _ b w e1 e2
theorem gq{us:List Way}{w:Way}(h:us.Nodup)(hw:w∉us):(us++[w]).Nodup:=by
 rw[List.nodup_append]
 exact⟨h,by simp,fun a ha c hc=>by rw[DI.mp hc];exact fun z=>hw (z ▸ ha)⟩
theorem iG{P:Way->Prop}{us:List Way}{w:Way}(h:∀u∈us,P u)(hw:P w):∀u∈us++[w],P u:=fun u hu=>by
 rcases DU.mp hu with hu | hu
 ·exact h u hu
 ·rw[DI.mp hu];exact hw
theorem vx:(Str.ofString "a")≠"b":=by decide +kernel
theorem o5:(Str.ofString "a")≠"c":=by decide +kernel
theorem mn:(Str.ofString "b")≠"c":=by decide +kernel
def pQ(K:Du):Sp:=fun vs H Q _=>∃c p,vs=[.int c,.int p]/\0<p/\∀v m ws H',Ext H H'->bz H' v m ws->HOuse3 m ws->Q v H'
abbrev lh:Stmt:=stq 61
theorem vT:FnScope ["_law_cell_here","_law_prime","_law_draws_here","_law_one","_law_two","_law_many","_law_ways","_law_k"] ["_law_cell_here","_law_prime"] (aI lh):=⟨rfl,rfl,rfl,by decide +kernel,rfl,by decide +kernel,by decide +kernel⟩
theorem B2{P:Program}{w:World}{K:Du}{mg:Str->Option Value}{base:Heap}(D:Dfn K mg "_law_ring_house" lh ["_law_cell_here","_law_prime"])(T:Blt mg)(C__law_draws:Cal P w K mg base "_law_draws" 2 ["_law_cell_here","_law_widths","_law_prime"] (fB K)):Cal P w K mg base "_law_ring_house" 3 ["_law_cell_here","_law_prime"] (pQ K):=by
 have nd:=(vT).nd
 refine D.ok vT (fun vs H Q E h=>?_) (fun X hX H vs Q E h=>?_)
 ·obtain⟨c,p,rfl,_⟩:=h;rfl
 ·obtain⟨f,cdv,A,outer,s,H0,E0,rfl,hr⟩:=hX
  obtain⟨c,p,rfl,hp,q⟩:=h
  refine⟨_,(@aj _ _ _ _ _ (@aF _ _ 2 _ _ _ _ nd rfl (Or.inl rfl) (aC C__law_draws hr (@aa _ _ _ _ _ (pv 0) (@aa _ _ _ _ _ (@bE _ _ _ _ (i5 (.c (.c (.c (.c (.c (.c (.c .n))))))))) (@aa _ _ _ _ _ (pv 1) af rfl) rfl) rfl)) rfl (Or.inl rfl))
    (@aj _ _ _ _ _ (tu (i:=3) (j:=4) rfl nd rfl rfl (by decide) rfl rfl (@aa _ _ _ _ _ (aq aT ae (@ai _ _ _ _ _ _ _ (aJ K) (pv 2) ae (fun _ _=>rfl))) (@aa _ _ _ _ _ (aq aT ae (@ai _ _ _ _ _ _ _ (aJ K) (pv 2) ae (fun _ _=>rfl))) af rfl) rfl) rfl)
    (@aj _ _ _ _ _ (@aF _ _ 5 _ _ _ _ nd rfl (Or.inl rfl) (aq aT (aq aT (pv 3) (pv 4)) ae) rfl (Or.inl rfl))
    (@aj _ _ _ _ _ (@aF _ _ 6 _ _ _ _ nd rfl (Or.inl rfl) (@bE _ _ _ _ (@aa _ _ _ _ _ (@bI _ _ _ _ _ (@aa _ _ _ _ _ ae (@aa _ _ _ _ _ aS (@aa _ _ _ _ _ ae (@aa _ _ _ _ _ aS af rfl) rfl) rfl) rfl)) (@aa _ _ _ _ _ (@bI _ _ _ _ _ (@aa _ _ _ _ _ ae (@aa _ _ _ _ _ (@ai _ _ _ _ _ _ _ (aJ K) (@bE _ _ _ _ (@aa _ _ _ _ _ aS (@aa _ _ _ _ _ aS af rfl) rfl)) (@ai _ _ _ _ _ _ _ (aJ K) (pv 2) ae (fun _ _=>rfl)) (fun _ _=>rfl)) (@aa _ _ _ _ _ (aq aT ae (pv 3)) (@aa _ _ _ _ _ aS af rfl) rfl) rfl) rfl)) af rfl) rfl)) rfl (Or.inl rfl))
    (@aj _ _ _ _ _ (bJ PassesOwn.never rfl (bQ rfl T.range_ (@aa _ _ _ _ _ (pv 3) af rfl)) (aM (i:=7) nd rfl (Or.inl rfl)) (@ao _ _ _ (bA (bN K DF DS DT bY (pv 6) (@aa _ _ _ _ _ (@bI _ _ _ _ _ (@aa _ _ _ _ _ (aq aT ae (pv 7)) (@aa _ _ _ _ _ aS (@aa _ _ _ _ _ (aq aT ae (aq cz (aq aT (pv 7) ae) (pv 3))) (@aa _ _ _ _ _ aS af rfl) rfl) rfl) rfl)) af rfl)))))
    (@aj _ _ _ _ _ (bJ PassesOwn.never rfl (bQ rfl T.range_ (@aa _ _ _ _ _ (pv 4) af rfl)) (aM (i:=7) nd rfl (Or.inl rfl)) (@ao _ _ _ (bA (bN K DF DS DT bY (pv 6) (@aa _ _ _ _ _ (@bI _ _ _ _ _ (@aa _ _ _ _ _ (aq aT (aq aT ae (pv 3)) (pv 7)) (@aa _ _ _ _ _ (@ai _ _ _ _ _ _ _ (aJ K) (@bE _ _ _ _ (@aa _ _ _ _ _ aS (@aa _ _ _ _ _ aS af rfl) rfl)) (@ai _ _ _ _ _ _ _ (aJ K) (pv 2) ae (fun _ _=>rfl)) (fun _ _=>rfl)) (@aa _ _ _ _ _ (aq aT (aq aT ae (pv 3)) (aq cz (aq aT (pv 7) ae) (pv 4))) (@aa _ _ _ _ _ aS af rfl) rfl) rfl) rfl)) af rfl)))))
    (@aj _ _ _ _ _ (bA (bN K DF DS DT bY (pv 6) (@aa _ _ _ _ _ (@bI _ _ _ _ _ (@aa _ _ _ _ _ ae (@aa _ _ _ _ _ aS (@aa _ _ _ _ _ (aq cX (pv 5) ae) (@aa _ _ _ _ _ aS af rfl) rfl) rfl) rfl)) af rfl)))
    (@aj _ _ _ _ _ (bA (bN K DF DS DT bY (pv 6) (@aa _ _ _ _ _ (@bI _ _ _ _ _ (@aa _ _ _ _ _ (aq aT ae (pv 3)) (@aa _ _ _ _ _ aS (@aa _ _ _ _ _ (aq cX (pv 5) ae) (@aa _ _ _ _ _ aS af rfl) rfl) rfl) rfl)) af rfl)))
    (@aj _ _ _ _ _ (de (aR b9 (@ai _ _ _ _ _ _ _ (aJ K) (pv 2) ae (fun _ _=>rfl)) ae (aQ _)) (@ao _ _ _ (bA (bN K DF DS DT bY (pv 6) (@aa _ _ _ _ _ (@bI _ _ _ _ _ (@aa _ _ _ _ _ (aq cX (pv 5) ae) (@aa _ _ _ _ _ aS (@aa _ _ _ _ _ (aq cX (pv 5) ae) (@aa _ _ _ _ _ aS af rfl) rfl) rfl) rfl)) af rfl)))) aV)
    (@aj _ _ _ _ _ (de (aR b9 (@ai _ _ _ _ _ _ _ (aJ K) (pv 2) ae (fun _ _=>rfl)) ae (aQ _)) (@ao _ _ _ (bA (bN K DF DS DT bY (pv 6) (@aa _ _ _ _ _ (@bI _ _ _ _ _ (@aa _ _ _ _ _ (aq cX (pv 5) ae) (@aa _ _ _ _ _ aS (@aa _ _ _ _ _ ae (@aa _ _ _ _ _ aS af rfl) rfl) rfl) rfl)) af rfl)))) aV)
    (@aj _ _ _ _ _ (de (aR b9 (@ai _ _ _ _ _ _ _ (aJ K) (pv 2) ae (fun _ _=>rfl)) ae (aQ _)) (@ao _ _ _ (@aF _ _ 6 _ _ _ _ nd rfl (Or.inl rfl) (BI K (pv 6) (fu (ik iH ae))) rfl (Or.inl rfl))) aV)
    (@ao _ _ _ (@aE _ _ _ _ (@bI _ _ _ _ _ (@aa _ _ _ _ _ (pv 5) (@aa _ _ _ _ _ (fD (iD K) rfl T.tuple_ PyProof.Rows.boot_tuple (@aa _ _ _ _ _ (pv 6) af rfl)) af rfl) rfl))))))))))))))),?_⟩
  walk_at "r"
  refine aP fun w0 G1 f1 hw0 _=>?_
  walk_at "r"
  refine kn [5,5,2,2,4,4,2] hw0 (by decide) (by decide) (hp) fun dq ds H1 e1 hd hdn hl hb=>?_
  have eH:Ext H H1:=f1.trans e1
  obtain⟨d0,g0,b00,b01⟩:=b6 hl hb 0 rfl
  obtain⟨d1,g1,b10,b11⟩:=b6 hl hb 1 rfl
  obtain⟨d2,g2,b20,b21⟩:=b6 hl hb 2 rfl
  obtain⟨d3,g3,b30,b31⟩:=b6 hl hb 3 rfl
  obtain⟨d4,g4,_⟩:=b6 hl hb 4 rfl
  obtain⟨d5,g5,_⟩:=b6 hl hb 5 rfl
  obtain⟨d6,g6,_⟩:=b6 hl hb 6 rfl
  clear hb hl
  walk_at "r"
  refine aK (ag.of hd) g0 ?_
  walk_at "r"
  refine aK (ag.of hd) g1 ?_
  walk_at "r"
  obtain⟨U,hU⟩:∃U:Nat,1+d0=(U:Int):=⟨(1+d0).toNat,by omega⟩
  obtain⟨D,hD⟩:∃D:Nat,1+d1=(D:Int):=⟨(1+d1).toNat,by omega⟩
  rw[hU,hD]
  have u1:1<=U:=by omega
  have u6:U<=5:=by omega
  have v1:1<=D:=by omega
  have v5:D<=5:=by omega
  clear b00 b01 b10 b11 hU hD
  obtain⟨m,hm⟩:∃m:Int,(U:Int)+(D:Int)+2=m:=⟨_,rfl⟩
  rw[hm]
  -- the first two ways
  refine aP fun a1 H2 e2 ha1 _=>?_
  walk_at "r"
  refine aP fun t1 H3 e3 ht1 _=>?_
  walk_at "r"
  refine aK (ag.of (e3 _ _ (e2 _ _ hd))) g2 ?_
  obtain⟨x2,hx2,ax2⟩:=jO (a:=V.str "stay") (b:=V.str "zero") b20 b21
  refine aK (ag.of ht1) hx2 ?_
  walk_at "r"
  obtain⟨z2,rfl,oz2⟩:∃z,x2=.str z/\cg z:=by
   rcases ax2 with rfl | rfl
   ·exact⟨_,rfl,gJ⟩
   ·exact⟨_,rfl,mf⟩
  refine aP fun a2 H4 e4 ha2 _=>?_
  walk_at "r"
  refine aP fun f H5 e5 hf hfn=>?_
  have e15:Ext H1 H5:=e2.trans (e3.trans (e4.trans e5))
  have hfn0:H1 f=none:=(e2.trans (e3.trans e4)).none hfn
  obtain⟨y1,hy1⟩:∃y:Way,y=⟨0,"stay",1,"a"⟩:=⟨_,rfl⟩
  obtain⟨y2,hy2⟩:∃y:Way,y=⟨0,z2,1+(U:Int),"b"⟩:=⟨_,rfl⟩
  have wl0:WL H1 H5 f [y1,y2]:=by
   refine⟨e15,[a1,a2],hf,?_⟩
   have k1:H5 a1=some (.tup y1.vs):=by rw[hy1];exact e5 _ _ (e4 _ _ (e3 _ _ ha1))
   have k2:H5 a2=some (.tup y2.vs):=by rw[hy2];exact e5 _ _ ha2
   exact((aN.nil H5).snoc k1).snoc k2
  have ok0:∀u∈[y1,y2],u.Ok3 m:=by
   intro u hu
   rcases DM.mp hu with rfl | hu
   ·subst hy1;exact⟨Int.le_refl _,by show(0:Int)<m;omega,by show(0:Int)<=1;decide,by show(1:Int)<m;omega,gJ,j7⟩
   ·rw[DI.mp hu];subst hy2;exact⟨Int.le_refl _,by show(0:Int)<m;omega,by show(0:Int)<=1+(U:Int);omega,by show 1+(U:Int)<m;omega,oz2,jb⟩
  have nd0:[y1,y2].Nodup:=by
   subst hy1 hy2
   refine List.nodup_cons.mpr ⟨fun z=>?_,by simp⟩
   have:=congrArg Way.sign (DI.mp z)
   exact vx this
  have pr0:∀u∈[y1,y2],u.room<=((0:Nat):Int)/\u.sign≠"c":=by
   intro u hu
   rcases DM.mp hu with rfl | hu
   ·subst hy1;exact⟨Int.le_refl _,o5⟩
   ·rw[DI.mp hu];subst hy2;exact⟨Int.le_refl _,mn⟩
  have ln0:[y1,y2].length=2:=rfl
  generalize [y1,y2]=us0 at wl0 ok0 nd0 pr0 ln0
  clear hy1 hy2 ha1 ha2 ht1 hf e2 e3 e4 e5
  walk_at "r"
  refine bS (by omega) ?_
  refine forR (fun i σ H3=>∃(k:Option V) (us:List Way),σ=[some (.int c),some (.int p),some (.ref dq),some (.int U),some (.int D),some (.int m),some (.ref f),k]/\WL H1 H3 f us/\(∀u∈us,u.Ok3 m)/\us.Nodup/\(∀u∈us,u.room<=(i:Int)/\u.sign≠"c")/\us.length=2+i)
   ⟨none,us0,rfl,wl0,ok0,nd0,pr0,ln0⟩ ?_ ?_
  ·rintro i σ H3 hi ⟨k,us,rfl,wl,ok,nd',pr,len⟩
   rw[DK]at hi
   walk_at "r"
   refine⟨wl.ty (Ext.rfl' _),?_⟩
   walk_at "r"
   try refine rd_I (show(0:Int)<(U:Int) by omega) ?_
   walk_at "r"
   refine aP fun v H4 e4 hv _=>?_
   walk_at "r"
   have r0:0<=(0+(i:Int)+1) % (U:Int):=Int.emod_nonneg _ (by omega)
   have r1:(0+(i:Int)+1) % (U:Int)<U:=Int.emod_lt_of_pos _ (by omega)
   obtain⟨xs,hx,hlx,wl'⟩:=wl.push (w:=⟨1+(0+(i:Int)),"up",1+(0+(i:Int)+1) % (U:Int),"a"⟩) hfn0 e4 hv
   refine bV hx (dW (by omega)) ?_
   walk_at "r"
   refine⟨_,_,rfl,wl',dY ok ⟨by show 0<=1+(0+(i:Int));omega,by show 1+(0+(i:Int))<m;omega,by show 0<=1+(0+(i:Int)+1) % (U:Int);omega,by show 1+(0+(i:Int)+1) % (U:Int)<m;omega,jx,j7⟩,gq nd' fun z=>?_,iG (fun u hu=>⟨by have:=(pr u hu).1;omega,(pr u hu).2⟩) ⟨by show 1+(0+(i:Int))<=_;omega,o5⟩,by simp[len];omega⟩
   have:=(pr _ z).1
   have:1+(0+(i:Int))<=(i:Int):=this
   omega
  clear wl0 ok0 nd0 pr0 ln0
  rintro σ H3 ⟨k,us,rfl,wl,ok,nd',pr,len⟩
  rw[DK]at pr len
  walk_at "r"
  refine bS (by omega) ?_
  refine forR (fun i σ H3=>∃(k:Option V) (us:List Way),σ=[some (.int c),some (.int p),some (.ref dq),some (.int U),some (.int D),some (.int m),some (.ref f),k]/\WL H1 H3 f us/\(∀u∈us,u.Ok3 m)/\us.Nodup/\(∀u∈us,u.room<=(U:Int)+(i:Int)/\u.sign≠"c"/\(u.room=1+(U:Int)->u.sign = "b"))/\us.length=2+U+i)
   ⟨_,us,rfl,wl,ok,nd',fun u hu=>⟨by have:=(pr u hu).1;omega,(pr u hu).2,fun z=>by have:=(pr u hu).1;omega⟩,len⟩ ?_ ?_
  ·clear wl ok nd' pr len
   rintro i σ H3 hi ⟨k,us,rfl,wl,ok,nd',pr,len⟩
   rw[DK]at hi
   walk_at "r"
   refine⟨wl.ty (Ext.rfl' _),?_⟩
   walk_at "r"
   refine aP fun t1 H6 e6 ht1 _=>?_
   walk_at "r"
   refine aK (ag.of (e6 _ _ (wl.ext _ _ hd))) g3 ?_
   obtain⟨x3,hx3,ax3⟩:=jO (a:=V.str "up") (b:=V.str "down") b30 b31
   refine aK (ag.of ht1) hx3 ?_
   walk_at "r"
   obtain⟨z3,rfl,oz3⟩:∃z,x3=.str z/\cg z:=by
    rcases ax3 with rfl | rfl
    ·exact⟨_,rfl,jx⟩
    ·exact⟨_,rfl,nB⟩
   try refine rd_I (show(0:Int)<(D:Int) by omega) ?_
   walk_at "r"
   refine aP fun v H4 e4 hv _=>?_
   walk_at "r"
   have r0:0<=(0+(i:Int)+1) % (D:Int):=Int.emod_nonneg _ (by omega)
   have r1:(0+(i:Int)+1) % (D:Int)<D:=Int.emod_lt_of_pos _ (by omega)
   obtain⟨xs,hx,hlx,wl'⟩:=wl.push (w:=⟨1+(U:Int)+(0+(i:Int)),z3,1+(U:Int)+(0+(i:Int)+1) % (D:Int),"b"⟩) hfn0 (e6.trans e4) hv
   refine bV hx (dW (by omega)) ?_
   walk_at "r"
   refine⟨_,_,rfl,wl',dY ok ⟨by show 0<=1+(U:Int)+(0+(i:Int));omega,by show 1+(U:Int)+(0+(i:Int))<m;omega,by show 0<=1+(U:Int)+(0+(i:Int)+1) % (D:Int);omega,by show 1+(U:Int)+(0+(i:Int)+1) % (D:Int)<m;omega,oz3,jb⟩,gq nd' fun z=>?_,iG (fun u hu=>⟨by have:=(pr u hu).1;omega,(pr u hu).2⟩) ⟨by show 1+(U:Int)+(0+(i:Int))<=_;omega,mn,fun _=>rfl⟩,by simp[len];omega⟩
   have:=(pr _ z).1
   have:1+(U:Int)+(0+(i:Int))<=(U:Int)+(i:Int):=this
   omega
  clear wl ok nd' pr len
  rintro σ H3 ⟨k,us,rfl,wl,ok,nd',pr,len⟩
  rw[DK]at pr len
  walk_at "r"
  -- (1,stay,m-1,c)
  refine⟨wl.ty (Ext.rfl' _),?_⟩
  walk_at "r"
  refine aP fun v H4 e4 hv _=>?_
  walk_at "r"
  obtain⟨xs,hx,hlx,wl2⟩:=wl.push (w:=⟨1,"stay",m-1,"c"⟩) hfn0 e4 hv
  have ok2:=dY ok (w:=⟨1,"stay",m-1,"c"⟩) ⟨by show(0:Int)<=1;decide,by show(1:Int)<m;omega,by show 0<=m-1;omega,by show m-1<m;omega,gJ,lX⟩
  have nd2:=gq nd' (w:=⟨1,"stay",m-1,"c"⟩) fun z=>(pr _ z).2.1 rfl
  have pr2:=iG (P:=fun u=>u.room<=(U:Int)+(D:Int)/\(u.room=1+(U:Int)->u.sign = "b")) (fun u hu=>⟨(pr u hu).1,(pr u hu).2.2⟩) (w:=⟨1,"stay",m-1,"c"⟩) ⟨by show(1:Int)<=_;omega,fun z=>by have:(1:Int)=1+(U:Int):=z;omega⟩
  refine bV hx (dW (by omega)) ?_
  generalize upd H4 f _=H5 at wl2 ⊢
  generalize hus2:us++[_]=us2 at wl2 ok2 nd2 pr2
  have len2:us2.length=3+U+D:=by rw[←hus2];simp[len];omega
  clear hus2 hx hlx hv e4 wl ok nd' pr len
  walk_at "r"
  -- (1+U,stay,m-1,a)
  refine⟨wl2.ty (Ext.rfl' _),?_⟩
  walk_at "r"
  refine aP fun v H4 e4 hv _=>?_
  walk_at "r"
  obtain⟨xs,hx,hlx,wl3⟩:=wl2.push (w:=⟨1+(U:Int),"stay",m-1,"a"⟩) hfn0 e4 hv
  have ok3:=dY ok2 (w:=⟨1+(U:Int),"stay",m-1,"a"⟩) ⟨by show(0:Int)<=1+(U:Int);omega,by show 1+(U:Int)<m;omega,by show 0<=m-1;omega,by show m-1<m;omega,gJ,j7⟩
  have nd3:=gq nd2 (w:=⟨1+(U:Int),"stay",m-1,"a"⟩) fun z=>vx ((pr2 _ z).2 rfl)
  have pr3:=iG (P:=fun u=>u.room<=(U:Int)+(D:Int)) (fun u hu=>(pr2 u hu).1) (w:=⟨1+(U:Int),"stay",m-1,"a"⟩) (by show 1+(U:Int)<=_;omega)
  refine bV hx (dW (by omega)) ?_
  generalize upd H4 f _=H6 at wl3 ⊢
  generalize hus3:us2++[_]=us3 at wl3 ok3 nd3 pr3
  have len3:us3.length=4+U+D:=by rw[←hus3];simp[len2];omega
  clear hus3 hx hlx hv e4 wl2 ok2 nd2 pr2 len2
  walk_at "r"
  -- the two that may be left out
  refine hV (fun σ' H'=>∃(k:Option V) (us:List Way),σ'=[some (.int c),some (.int p),some (.ref dq),some (.int U),some (.int D),some (.int m),some (.ref f),k]/\WL H1 H' f us/\(∀u∈us,u.Ok3 m)/\us.Nodup/\(∀u∈us,u.room<=(U:Int)+(D:Int)\/u.sign = "c")/\us.length<=5+U+D) ?_ ?_
  ·walk_at "r"
   refine aK (ag.of (wl3.ext _ _ hd)) g4 ?_
   walk_at "r"
   refine eJ (fun h=>?_) (fun h=>?_)
   ·walk_at "r"
    refine⟨wl3.ty (Ext.rfl' _),?_⟩
    walk_at "r"
    refine aP fun v H4 e4 hv _=>?_
    walk_at "r"
    obtain⟨xs,hx,hlx,wl4⟩:=wl3.push (w:=⟨m-1,"down",m-1,"c"⟩) hfn0 e4 hv
    refine bV hx (dW (by omega)) ?_
    walk_at "r"
    exact⟨_,_,rfl,wl4,dY ok3 ⟨by show 0<=m-1;omega,by show m-1<m;omega,by show 0<=m-1;omega,by show m-1<m;omega,nB,lX⟩,gq nd3 fun z=>by have:m-1<=(U:Int)+(D:Int):=pr3 _ z;omega,iG (fun u hu=>.inl (pr3 u hu)) (.inr rfl),by simp[len3];omega⟩
   ·walk_at "r"
    exact⟨_,us3,rfl,wl3,ok3,nd3,fun u hu=>.inl (pr3 u hu),by omega⟩
  clear wl3 ok3 nd3 pr3 len3
  rintro σ' H7 ⟨k,us,rfl,wl,ok,nd',pr,len⟩
  walk_at "r"
  refine hV (fun σ' H'=>∃(k:Option V) (us:List Way),σ'=[some (.int c),some (.int p),some (.ref dq),some (.int U),some (.int D),some (.int m),some (.ref f),k]/\WL H1 H' f us/\(∀u∈us,u.Ok3 m)/\us.Nodup/\us.length<=6+U+D) ?_ ?_
  ·walk_at "r"
   refine aK (ag.of (wl.ext _ _ hd)) g5 ?_
   walk_at "r"
   refine eJ (fun h=>?_) (fun h=>?_)
   ·walk_at "r"
    refine⟨wl.ty (Ext.rfl' _),?_⟩
    walk_at "r"
    refine aP fun v H4 e4 hv _=>?_
    walk_at "r"
    obtain⟨xs,hx,hlx,wl4⟩:=wl.push (w:=⟨m-1,"zero",0,"b"⟩) hfn0 e4 hv
    refine bV hx (dW (by omega)) ?_
    walk_at "r"
    exact⟨_,_,rfl,wl4,dY ok ⟨by show 0<=m-1;omega,by show m-1<m;omega,by show(0:Int)<=0;decide,by show(0:Int)<m;omega,mf,jb⟩,gq nd' (fun z=>(pr _ z).elim (fun y=>by have:m-1<=(U:Int)+(D:Int):=y;omega) fun y=>mn y),by simp;omega⟩
   ·walk_at "r"
    exact⟨_,us,rfl,wl,ok,nd',by omega⟩
  clear wl ok nd' pr len
  rintro σ' H8 ⟨k,us,rfl,wl,ok,nd',len⟩
  walk_at "r"
  -- backward or not
  refine hV (fun σ' H'=>∃(k:Option V) (f:Addr) (cs:List Addr) (us:List Way),σ'=[some (.int c),some (.int p),some (.ref dq),some (.int U),some (.int D),some (.int m),some (.ref f),k]/\Ext H1 H'/\H' f=some (.lst (cs.map V.ref))/\aN H' cs us/\(∀u∈us,u.Ok3 m)/\us.Nodup/\us.length<=6+U+D) ?_ ?_
  ·walk_at "r"
   refine aK (ag.of (wl.ext _ _ hd)) g6 ?_
   walk_at "r"
   obtain⟨ew,cs,hcs,al⟩:=wl
   refine eJ (fun h=>?_) (fun h=>?_)
   ·walk_at "r"
    refine⟨rfl,Au (ag.of hcs) (cj fun r H9 e9 hr9 _=>?_)⟩
    walk_at "r"
    exact⟨_,r,cs.reverse,us.reverse,rfl,ew.trans e9,by rw[hr9,List.map_reverse],(al.ext e9).rev,fun u hu=>ok u (List.mem_reverse.mp hu),List.pairwise_reverse.mpr (nd'.imp fun h=>Ne.symm h),by rw[List.length_reverse];omega⟩
   ·walk_at "r"
    exact⟨_,f,cs,us,rfl,ew,hcs,al,ok,nd',by omega⟩
  clear wl ok nd' len
  rintro σ' H9 ⟨k,g,cs,us,rfl,ew,hcs,al,ok,nd',len⟩
  walk_at "r"
  refine iB (ag.of hcs) (cj fun r I1 i1 hr1 _=>?_)
  walk_at "r"
  refine aP fun t I2 i2 ht _=>?_
  exact q _ m us I2 (eH.trans (ew.trans (i1.trans i2))) (bz.mk ht (((al.ext i1).ways hr1).ext i2)) ⟨by omega,by omega,by omega,ok,nd'⟩
def tV(K:Du):Sp:=fun vs H Q _=>∃c p,vs=[.int c,.int p]/\0<p/\∀v m ws H',Ext H H'->bz H' v m ws->HOuse3 m ws->Q v H'
abbrev ng:Stmt:=stq 65
theorem p6:FnScope ["_law_cell_here","_law_prime","_law_kind","_law_left"] ["_law_cell_here","_law_prime"] (aI ng):=⟨rfl,rfl,rfl,by decide +kernel,rfl,by decide +kernel,by decide +kernel⟩
theorem xR{P:Program}{w:World}{K:Du}{mg:Str->Option Value}{base:Heap}(D:Dfn K mg "_law_house" ng ["_law_cell_here","_law_prime"])(T:Blt mg)(C__law_drawn_house:Cal P w K mg base "_law_drawn_house" 3 ["_law_cell_here","_law_prime"] (q0 K))(C__law_gate_house:Cal P w K mg base "_law_gate_house" 3 ["_law_cell_here","_law_prime"] (pw K))(C__law_ring_house:Cal P w K mg base "_law_ring_house" 3 ["_law_cell_here","_law_prime"] (pQ K))(C__law_spare:Cal P w K mg base "_law_spare" 1 ["_law_cell_here","_law_width"] (tO K))(C__law_draws:Cal P w K mg base "_law_draws" 2 ["_law_cell_here","_law_widths","_law_prime"] (fB K)):Cal P w K mg base "_law_house" 4 ["_law_cell_here","_law_prime"] (tV K):=by
 have nd:=(p6).nd
 refine D.ok p6 (fun vs H Q E h=>?_) (fun X hX H vs Q E h=>?_)
 ·obtain⟨c,p,rfl,_⟩:=h;rfl
 ·obtain⟨f,cdv,A,outer,s,H0,E0,rfl,hr⟩:=hX
  obtain⟨c,p,rfl,hp,q⟩:=h
  refine⟨_,(aj (aF (i:=2) nd rfl (Or.inl rfl) (ai (aJ K) (aC C__law_draws hr (aa (pv 0) (aa (bE (aa ae af)) (aa (pv 1) af)))) ae (fun _ _=>rfl)))
    (aj (aF (i:=3) nd rfl (Or.inl rfl) (aC C__law_spare hr (aa (pv 0) (aa ae af))))
    (aj (bp (aR b9 (pv 2) ae (aQ _)) (ao (aE (aC C__law_ring_house hr (aa (pv 3) (aa (pv 1) af))))) aV)
    (aj (bp (aR b9 (pv 2) ae (aQ _)) (ao (aE (aC C__law_gate_house hr (aa (pv 3) (aa (pv 1) af))))) aV)
    (ao (aE (aC C__law_drawn_house hr (aa (pv 3) (aa (pv 1) af))))))))),?_⟩
  walk_at "r"
  refine aP fun w0 G1 f1 hw0 _=>?_
  walk_at "r"
  refine kn [8] hw0 (by decide) (by decide) (hp) fun dq ds H1 e1 hd hdn hl hb=>?_
  have eH:Ext H H1:=f1.trans e1
  obtain⟨d0,g0,_⟩:=b6 hl hb 0 rfl
  walk_at "r"
  refine aK (ag.of hd) g0 ?_
  walk_at "r"
  refine⟨c,8,rfl,by decide,by decide,fun z=>?_⟩
  walk_at "r"
  refine eJ (fun h=>?_) (fun h=>?_)
  ·walk_at "r"
   exact⟨z,p,rfl,hp,fun v m ws H' e hv ok=>q v m ws H' (eH.trans e) hv ok⟩
  ·walk_at "r"
   refine eJ (fun h=>?_) (fun h=>?_)
   ·walk_at "r"
    exact⟨z,p,rfl,hp,fun v m ws H' e hv ok=>q v m ws H' (eH.trans e) hv ok⟩
   ·walk_at "r"
    exact⟨z,p,rfl,hp,fun v m ws H' e hv ok=>q v m ws H' (eH.trans e) hv ok⟩
theorem iK{a b:Str}:decide (V.str a=V.str b)=decide (a=b):=by
 by_cases h:a=b
 ·subst h;simp
 ·rw[decide_eq_false h,decide_eq_false (fun z=>h (V.str.inj z))]
theorem mH{a b:Str}{H:Hp}{Q:VK}(h:Q (.bl (decide (a=b))) H):jM (.str a) (.str b) H Q:=⟨rfl,by rw[iK];exact h⟩
theorem o8{a b:Str}{H:Hp}{Q:VK}(h:Q (.bl (!decide (a=b))) H):oC (.str a) (.str b) H Q:=⟨rfl,by rw[iK];exact h⟩
theorem fU{α β:Type}{F:α->β->Prop}{cs:List α}{ts:List β}(h:Paired F cs ts):∀{i:Nat} {c:α},cs[i]?=some c->∃t,ts[i]?=some t/\F c t:=by
 induction h with
 | nil=>intro i c e;simp at e
 | cons h t ih=>
  intro i c e
  cases i with
  | zero=>cases e;exact⟨_,rfl,h⟩
  | succ i=>exact ih e
theorem Cj{α β:Type}{F:α->β->Prop}{cs:List α}{ts:List β}(h:Paired F cs ts):∀{i:Nat} {t:β},ts[i]?=some t->∃c,cs[i]?=some c/\F c t:=by
 induction h with
 | nil=>intro i c e;simp at e
 | cons h t ih=>
  intro i c e
  cases i with
  | zero=>cases e;exact⟨_,rfl,h⟩
  | succ i=>exact ih e
abbrev aD(H:Hp)(a:Addr)(x:Bfs.Pl):Prop:=H a=some (.tup [.int x.1,.int x.2])
abbrev bf(x:Bfs.Pl):List Key:=[.inl x.1,.inl x.2]
theorem rR{x y:Bfs.Pl}(h:bf x=bf y):x=y:=by
 simp only[bf,List.cons.injEq,Sum.inl.injEq,and_true]at h
 exact Prod.ext h.1 h.2
theorem aD.put{H:Hp}{f a:Addr}{x:Bfs.Pl}{o o':HO}(hf:H f=some o)(hn:∀xs,o≠.tup xs)(h:aD H a x):aD (upd H f o') a x:=by
 show upd H f o' a=_
 rw[aB (dJ h hf (fun z=>hn _ z.symm))]
 exact h
def fI(m:Int)(x:Bfs.Pl):Prop:=0<=x.1/\x.1<m/\0<=x.2/\x.2<=1000
def vR(K:Du):Sp:=fun vs H Q _=>∃hp hq m l as xs,vs=[.ref hp,.ref l]/\H hp=some (.tup [.int m,hq])/\H l=some (.lst (List.map V.ref as))/\Paired (aD H) as xs/\(∀x∈xs,fI m x)/\Q .non H
abbrev mB:Stmt:=stq 32
theorem sh:FnScope ["house","places","place"] ["house","places"] (aI mB):=⟨rfl,rfl,rfl,by decide +kernel,rfl,by decide +kernel,by decide +kernel⟩
theorem AH{P:Program}{w:World}{K:Du}{mg:Str->Option Value}{base:Heap}(D:Dfn K mg "refuse_bad_places" mB ["house","places"])(T:Blt mg)(g_GREATEST_NUMBER:∃t,mg "GREATEST_NUMBER" = some (.int 1000 t))(C_is_room:Cal P w K mg base "is_room" 2 ["thing","many"] (m3 K)):Cal P w K mg base "refuse_bad_places" 3 ["house","places"] (vR K):=by
 have nd:=(sh).nd
 refine D.ok sh (fun vs H Q E h=>?_) (fun X hX H vs Q E h=>?_)
 ·obtain⟨hp,hq,m,l,as,xs,rfl,_⟩:=h;rfl
 ·obtain⟨f,cdv,A,outer,s,H0,E0,rfl,hr⟩:=hX
  obtain⟨t_GREATEST_NUMBER,c_GREATEST_NUMBER⟩:=g_GREATEST_NUMBER
  obtain⟨hp,hq,m,l,as,xs,rfl,h1,h2,h3,hin,q⟩:=h
  refine⟨_,(aj (bJ PassesOwn.never rfl (cJ K (pv 1)) (aM (i:=2) nd rfl (Or.inl rfl)) (ao (bp (PW.pt (cc (bL (bo (aC C_is_room hr (aa (ai (ay K) (pv 2) ae (fun _ _=>rfl)) (aa (ai (ay K) (pv 0) ae (fun _ _=>rfl)) af))))) (cY (aR dh (ai (ay K) (pv 2) ae (fun _ _=>rfl)) ae (aQ _))))) (ao fR) aV)))
    (ao (bJ PassesOwn.never rfl (cJ K (pv 1)) (aM (i:=2) nd rfl (Or.inl rfl)) (ao (bp (aR eL (ai (ay K) (pv 2) ae (fun _ _=>rfl)) (hZ (v:=.int 1000) rfl c_GREATEST_NUMBER ⟨_,rfl⟩) (aQ _)) (ao fR) aV))))),?_⟩
  walk_at "r"
  refine cI (ag.of h2) ?_
  refine forL (xs:=List.map V.ref as) (fun i σ H'=>H'=H/\∃k,σ=[some (.ref hp),some (.ref l),k]) ⟨rfl,none,rfl⟩ (fun i σ H' _ h=>by rw[h.1];exact ag.of h2) ?_ ?_
  ·rintro i x σ H' hx ⟨rfl,k,rfl⟩
   rw[DA]at hx
   obtain⟨b,hb,rfl⟩:=DJ.mp hx
   obtain⟨t,ht,hp3⟩:=fU h3 hb
   obtain⟨r0,r1,n0,n1⟩:=hin t (DH ht)
   walk_at "r"
   refine az (ah.of hp3) (v:=.int t.1) rfl ?_
   walk_at "r"
   refine az (ah.of h1) (v:=.int m) rfl ?_
   walk_at "r"
   refine⟨_,_,rfl,r0,r1,?_⟩
   walk_at "r"
   refine aA ?_
   walk_at "r"
   refine az (ah.of hp3) (v:=.int t.2) rfl ?_
   walk_at "r"
   rw[decide_eq_false (show ¬t.2<0 by omega)]
   refine aA ?_
   walk_at "r"
   exact⟨rfl,_,rfl⟩
  ·rintro σ H' ⟨rfl,k,rfl⟩
   walk_at "r"
   refine cI (ag.of h2) ?_
   refine forL (xs:=List.map V.ref as) (fun i σ H2=>H2=H'/\∃k,σ=[some (.ref hp),some (.ref l),k]) ⟨rfl,_,rfl⟩ (fun i σ H2 _ h=>by rw[h.1];exact ag.of h2) ?_ ?_
   ·rintro i x σ H2 hx ⟨rfl,k,rfl⟩
    rw[DA]at hx
    obtain⟨b,hb,rfl⟩:=DJ.mp hx
    obtain⟨t,ht,hp3⟩:=fU h3 hb
    obtain⟨r0,r1,n0,n1⟩:=hin t (DH ht)
    walk_at "r"
    refine az (ah.of hp3) (v:=.int t.2) rfl ?_
    walk_at "r"
    rw[decide_eq_false (show ¬(1000:Int)<t.2 by omega)]
    refine aA ?_
    walk_at "r"
    exact⟨rfl,_,rfl⟩
   ·rintro σ H2 ⟨rfl,k,rfl⟩
    walk_at "r"
    exact q
def cR(w:Way)(r n:Int):Bool:=decide (w.room=r) && (if decide (w.deed = "down")=true then decide (0<n)else(!decide (w.deed = "zero") || decide (n=0)))
def uV(K:Du):Sp:=fun vs H Q _=>∃b w p x,vs=[.ref b,.ref p]/\H b=some (.tup (Way.vs w))/\aD H p x/\Q (.bl (cR w x.1 x.2)) H
abbrev kH:Stmt:=stq 33
theorem r9:FnScope ["way","place"] ["way","place"] (aI kH):=⟨rfl,rfl,rfl,by decide +kernel,rfl,by decide +kernel,by decide +kernel⟩
theorem yB{P:Program}{w:World}{K:Du}{mg:Str->Option Value}{base:Heap}(D:Dfn K mg "is_open" kH ["way","place"])(T:Blt mg):Cal P w K mg base "is_open" 1 ["way","place"] (uV K):=by
 have nd:=(r9).nd
 refine D.ok r9 (fun vs H Q E h=>?_) (fun X hX H vs Q E h=>?_)
 ·obtain⟨b,w,p,x,rfl,_⟩:=h;rfl
 ·obtain⟨f,cdv,A,outer,s,H0,E0,rfl,hr⟩:=hX
  obtain⟨b,w,p,⟨r,n⟩,rfl,h1,h2,q⟩:=h
  refine⟨_,(aj (bp (aR eX (ai (ay K) (pv 0) ae (fun _ _=>rfl)) (ai (ay K) (pv 1) ae (fun _ _=>rfl)) (aQ _)) (ao (aE bC)) aV)
    (aj (bp (aR b9 (ai (ay K) (pv 0) ae (fun _ _=>rfl)) aS (aQ _)) (ao (aE (dU eL (ai (ay K) (pv 1) ae (fun _ _=>rfl)) ae (aQ _)))) aV)
    (ao (aE (vH (dU eX (ai (ay K) (pv 0) ae (fun _ _=>rfl)) aS (aQ _)) (dM (dU b9 (ai (ay K) (pv 1) ae (fun _ _=>rfl)) ae (aQ _)))))))),?_⟩
  walk_at "r"
  refine az (ah.of h1) (v:=.int w.room) rfl ?_
  walk_at "r"
  refine az (ah.of h2) (v:=.int r) rfl ?_
  walk_at "r"
  unfold cR at q
  dsimp only at q
  by_cases e:w.room=r
  ·rw[decide_eq_true e]
   refine aA ?_
   walk_at "r"
   rw[decide_eq_true e,Bool.true_and]at q
   refine az (ah.of h1) (v:=.str w.deed) rfl ?_
   walk_at "r"
   refine mH ?_
   refine rd_exb ?_
   cases ed:decide (w.deed = "down")with
   | true=>
    rw[ed]at q
    refine aG ?_
    walk_at "r"
    refine az (ah.of h2) (v:=.int n) rfl ?_
    walk_at "r"
    exact q
   | false=>
    rw[ed]at q
    refine aA ?_
    walk_at "r"
    refine az (ah.of h1) (v:=.str w.deed) rfl ?_
    walk_at "r"
    refine o8 ?_
    refine rd_exb ?_
    cases ez:decide (w.deed = "zero")with
    | true=>
     rw[ez]at q
     refine aA ?_
     walk_at "r"
     refine az (ah.of h2) (v:=.int n) rfl ?_
     walk_at "r"
     exact q
    | false=>
     rw[ez]at q
     exact aG q
  ·rw[decide_eq_false e]
   refine aG ?_
   walk_at "r"
   rw[decide_eq_false e,Bool.false_and]at q
   exact q
def kU:List (Key×V):=[(.inr "up",.int 1),(.inr "down",.int (-1)),(.inr "stay",.int 0),(.inr "zero",.int 0)]
theorem xO{w:World}{K:Du}{a:Addr}{t1 t2 t3 t4 t5 t6 t7 t8:Tok}{ep:Nat}(h:K.lookup a=some (gh w [("up",t1,.int 1 t2),("down",t3,.int (-1) t4),("stay",t5,.int 0 t6),("zero",t7,.int 0 t8)] ep))(hs:(a == sysModules)=false):GDict w K a kU:=
 ⟨⟨_,_,h,.cons ⟨rfl,⟨_,rfl⟩⟩ (.cons ⟨rfl,⟨_,rfl⟩⟩ (.cons ⟨rfl,⟨_,rfl⟩⟩ (.cons ⟨rfl,⟨_,rfl⟩⟩ .nil)))⟩,by decide +kernel,hs⟩
def rz(z:Str):Int:=if z = "up" then 1 else if z = "down" then -1 else 0
theorem Co{z:Str}(h:cg z):bB kU (.inr z)=some (.int (rz z)):=by
 rcases h with rfl | rfl | rfl | rfl<;>decide +kernel
def sI(K:Du):Sp:=fun vs H Q _=>∃b w,vs=[.ref b]/\H b=some (.tup (Way.vs w))/\cg w.deed/\Q (.int (rz w.deed)) H
abbrev og:Stmt:=stq 34
theorem tF:FnScope ["way"] ["way"] (aI og):=⟨rfl,rfl,rfl,by decide +kernel,rfl,by decide +kernel,by decide +kernel⟩
theorem BW{P:Program}{w:World}{K:Du}{mg:Str->Option Value}{base:Heap}(D:Dfn K mg "raised_by" og ["way"])(T:Blt mg)(g_RAISED:∃a,mg "RAISED" = some (.ref a)/\GDict w K a kU):Cal P w K mg base "raised_by" 1 ["way"] (sI K):=by
 have nd:=(tF).nd
 refine D.ok tF (fun vs H Q E h=>?_) (fun X hX H vs Q E h=>?_)
 ·obtain⟨b,w,rfl,_⟩:=h;rfl
 ·obtain⟨f,cdv,A,outer,s,H0,E0,rfl,hr⟩:=hX
  obtain⟨a_RAISED,m_RAISED,d_RAISED⟩:=g_RAISED
  obtain⟨b,w,rfl,h1,hd,q⟩:=h
  refine⟨_,(ao (aE (zx rfl m_RAISED d_RAISED (ai (ay K) (pv 0) ae (fun _ _=>rfl)) (fun _ _=>rfl)))),?_⟩
  walk_at "r"
  refine az (ah.of h1) (v:=.str w.deed) rfl ?_
  exact xG (Co hd) q
theorem xJ(z:Str):-1<=rz z:=by
 unfold rz
 split
 ·decide
 ·split<;>decide
theorem xk(z:Str):rz z<=1:=by
 unfold rz
 split
 ·decide
 ·split<;>decide
def vc(K:Du):Sp:=fun vs H Q _=>∃b w p x,vs=[.ref b,.ref p]/\H b=some (.tup (Way.vs w))/\cg w.deed/\aD H p x/\∀t H',Ext H H'->aD H' t (w.other,x.2+rz w.deed)->H t=none->Q (.ref t) H'
abbrev lN:Stmt:=stq 35
theorem tW:FnScope ["way","place"] ["way","place"] (aI lN):=⟨rfl,rfl,rfl,by decide +kernel,rfl,by decide +kernel,by decide +kernel⟩
theorem yC{P:Program}{w:World}{K:Du}{mg:Str->Option Value}{base:Heap}(D:Dfn K mg "led_to" lN ["way","place"])(T:Blt mg)(C_raised_by:Cal P w K mg base "raised_by" 1 ["way"] (sI K)):Cal P w K mg base "led_to" 2 ["way","place"] (vc K):=by
 have nd:=(tW).nd
 refine D.ok tW (fun vs H Q E h=>?_) (fun X hX H vs Q E h=>?_)
 ·obtain⟨b,w,p,x,rfl,_⟩:=h;rfl
 ·obtain⟨f,cdv,A,outer,s,H0,E0,rfl,hr⟩:=hX
  obtain⟨b,w,p,⟨r,n⟩,rfl,h1,hd,h2,q⟩:=h
  refine⟨_,(ao (aE (bI (aa (ai (ay K) (pv 0) ae (fun _ _=>rfl)) (aa (aq aT (ai (ay K) (pv 1) ae (fun _ _=>rfl)) (aC C_raised_by hr (aa (pv 0) af))) af))))),?_⟩
  walk_at "r"
  refine az (ah.of h1) (v:=.int w.other) rfl ?_
  walk_at "r"
  refine az (ah.of h2) (v:=.int n) rfl ?_
  walk_at "r"
  refine⟨b,w,rfl,h1,hd,?_⟩
  walk_at "r"
  refine aP fun t H1 e1 ht htn=>?_
  exact q t H1 e1 ht htn
def stp(z:Str)(n:Int):Option Int:=
 if decide (z = "up")=true then some (n+1)else if decide (z = "down")=true then(if decide (0<n)=true then some (n-1)else none)else if decide (z = "stay")=true then some n else if decide (z = "zero")=true then(if decide (n=0)=true then some n else none)else none
theorem Cq:decide ((Str.ofString "up")=Str.ofString "down")=false:=by decide +kernel
theorem Av:decide ((Str.ofString "up")=Str.ofString "zero")=false:=by decide +kernel
theorem BP:decide ((Str.ofString "down")=Str.ofString "up")=false:=by decide +kernel
theorem Cr:decide ((Str.ofString "stay")=Str.ofString "up")=false:=by decide +kernel
theorem sC:decide ((Str.ofString "stay")=Str.ofString "down")=false:=by decide +kernel
theorem y8:decide ((Str.ofString "zero")=Str.ofString "up")=false:=by decide +kernel
theorem wx:decide ((Str.ofString "zero")=Str.ofString "down")=false:=by decide +kernel
theorem BQ:decide ((Str.ofString "zero")=Str.ofString "stay")=false:=by decide +kernel
theorem g9(z:Str):decide (z=z)=true:=decide_eq_true rfl
theorem vG(n:Int):stp "up" n=some (n+1):=by unfold stp;rw[g9];rfl
theorem qV(n:Int):stp "down" n=if decide (0<n)=true then some (n-1)else none:=by unfold stp;rw[BP,g9];rfl
theorem vm(n:Int):stp "stay" n=some n:=by unfold stp;rw[Cr,sC,g9];rfl
theorem sk(n:Int):stp "zero" n=if decide (n=0)=true then some n else none:=by unfold stp;rw[y8,wx,BQ,g9];rfl
theorem gr:rz "up" = 1:=by decide +kernel
theorem ji:rz "down" = -1:=by decide +kernel
theorem iC:rz "stay" = 0:=by decide +kernel
theorem vN:rz "zero" = 0:=by decide +kernel
theorem Bm{w:Way}(hz:cg w.deed)(x:Bfs.Pl):cR w x.1 x.2=true↔w.room=x.1/\stp w.deed x.2=some (x.2+rz w.deed):=by
 unfold cR
 rcases hz with e | e | e | e<;>rw[e]
 ·rw[Cq,Av,vG,gr];simp
 ·rw[g9,qV,ji]
  by_cases h:0<x.2
  ·rw[decide_eq_true h];simp[Int.sub_eq_add_neg]
  ·rw[decide_eq_false h];simp
 ·rw[sC,decide_eq_false (show ¬(Str.ofString "stay")=Str.ofString "zero" by decide +kernel),vm,iC];simp
 ·rw[wx,g9,sk,vN]
  by_cases h:x.2=0
  ·rw[decide_eq_true h];simp
  ·rw[decide_eq_false h];simp
theorem xU{z:Str}{n n':Int}(hz:cg z)(h0:0<=n)(h:stp z n=some n'):0<=n':=by
 rcases hz with e | e | e | e<;>rw[e]at h
 ·rw[vG]at h;cases h;omega
 ·rw[qV]at h
  split at h
  ·rename_i g
   have:=of_decide_eq_true g
   cases h;omega
  ·cases h
 ·rw[vm]at h;cases h;exact h0
 ·rw[sk]at h
  split at h
  ·cases h;exact h0
  ·cases h
section
variable {β:Type} {F:List Key×V->β->Prop} {key:β->Bfs.Pl} {kvs:List (List Key×V)} {q:List β}
theorem md(hF:∀kv e,F kv e->kv.1=bf (key e))(h:Paired F kvs q){x:Bfs.Pl}(hx:x∉q.map key):bB kvs (bf x)=none:=by
 induction h with
 | nil=>rfl
 | @cons a b as bs h t ih=>
  rw[List.map_cons,DM,not_or]at hx
  rw[ja (fun z=>hx.1 (rR (z.symm.trans (hF _ _ h))))]
  exact ih hx.2
theorem sL(hF:∀kv e,F kv e->kv.1=bf (key e))(h:Paired F kvs q)(nd:(q.map key).Nodup){e:β}(he:e∈q):∃v,bB kvs (bf (key e))=some v/\F (bf (key e),v) e:=by
 induction h with
 | nil=>cases he
 | @cons a b as bs h t ih=>
  rw[List.map_cons,List.nodup_cons]at nd
  rcases DM.mp he with z | z
  ·subst z
   have e1:=hF _ _ h
   refine⟨a.2,jR e1,?_⟩
   rw[←e1]
   exact h
  ·obtain⟨v,h1,h2⟩:=ih nd.2 z
   refine⟨v,?_,h2⟩
   rw[ja (fun w=>nd.1 ?_)]
   ·exact h1
   ·rw[rR ((hF _ _ h).symm.trans w)]
    exact List.mem_map.mpr ⟨e,z,rfl⟩
end
def bP(m T:Int)(x:Bfs.Pl):Prop:=0<=x.1/\x.1<m/\0<=x.2/\x.2<=T
theorem bP.few{m T:Int}{l:List Bfs.Pl}(hm:m<=12)(hT:T<=2000)(hn:l.Nodup)(h:∀x∈l,bP m T x):l.length<=24012:=
 Bfs.zy hT hn fun x hx=>by
  obtain⟨a,b,c,d⟩:=h x hx
  exact⟨a,by omega,c,d⟩
theorem gn{n:Nat}(h:n<=24100):n<sizeLine:=Nat.lt_of_le_of_lt h (by decide)
def aO(n:Nat)(f:Nat->Bool):List V:=(List.range n).map fun i=>V.bl (f i)
theorem cD(n:Nat)(f:Nat->Bool):(aO n f).length=n:=by simp[aO]
theorem eI{n i:Nat}(f:Nat->Bool)(h:i<n):(aO n f)[i]?=some (.bl (f i)):=by
 unfold aO
 rw[DA,List.getElem?_range h]
 rfl
theorem dP{n:Nat}{f g:Nat->Bool}(h:∀i,i<n->f i=g i):aO n f=aO n g:=by
 unfold aO
 apply List.map_congr_left
 intro i hi
 rw[h i (List.mem_range.mp hi)]
theorem ip(n:Nat)(f:Nat->Bool):aO (n+1) f=aO n f++[V.bl (f n)]:=by
 unfold aO
 rw[List.range_succ,DO]
 rfl
theorem lO{n k:Nat}(f:Nat->Bool)(c:Bool)(hk:k<n):(aO n f).set k (.bl c)=aO n fun i=>if i=k then c else f i:=by
 apply List.ext_getElem?
 intro i
 rcases Nat.lt_or_ge i n with hi | hi
 ·rw[List.getElem?_set,cD,eI _ hi,eI _ hi]
  by_cases h:k=i
  ·subst h
   simp[hi]
  ·rw[if_neg h,if_neg (Ne.symm h)]
 ·rw[List.getElem?_eq_none (by rw[List.length_set,cD];exact hi),List.getElem?_eq_none (by rw[cD];exact hi)]
theorem dm{n:Nat}{f:Nat->Bool}{i:Int}(h0:0<=i)(h:i<n):bt (aO n f) i=some (.bl (f i.toNat)):=dI h0 (eI f (by omega))
theorem pW(n:Nat)(c:Bool):(List.replicate n [V.bl c]).flatten=aO n fun _=>c:=by
 induction n with
 | zero=>rfl
 | succ n ih=>
  rw[List.replicate_succ',List.flatten_append,ih,ip]
  rfl
theorem zX{n:Nat}{f:Nat->Bool}{i:Int}(h0:0<=i)(h:i<=n):bX (aO n f) none (some i)=aO i.toNat f:=by
 unfold bX
 rw[cD,HT.ny]
 have e:HT.aL n n (some i)=i.toNat:=by
  show(if i<0 then(i+(n:Int)).toNat else min i.toNat n)=i.toNat
  rw[if_neg (by omega)]
  omega
 rw[e,List.drop_zero,Nat.sub_zero]
 apply List.ext_getElem?
 intro k
 rcases Nat.lt_or_ge k i.toNat with hk | hk
 ·rw[List.getElem?_take_of_lt hk,eI _ (by omega),eI _ hk]
 ·rw[List.getElem?_eq_none (by rw[List.length_take,cD];omega),List.getElem?_eq_none (by rw[cD];omega)]
def Rows(H:Hp)(q:Addr)(rs:List Addr)(n:Nat)(M:Nat->Nat->Bool):Prop:=H q=some (.lst (rs.map V.ref))/\∀(i:Nat) (r:Addr),rs[i]?=some r->H r=some (.lst (aO n (M i)))
theorem Rows.ext{H H':Hp}(e:Ext H H'){q:Addr}{rs:List Addr}{n:Nat}{M:Nat->Nat->Bool}(h:Rows H q rs n M):Rows H' q rs n M:=⟨e _ _ h.1,fun i r hi=>e _ _ (h.2 i r hi)⟩
def jI(K:Du):Sp:=fun vs H Q _=>∃vh m ws d,vs=[vh,.str d]/\bz H vh m ws/\HOuse m ws/\∀l cs us H',Ext H H'->H l=none->H' l=some (.lst (List.map V.ref cs))->aN H' cs us->us=ws.filter (fun w=>decide (w.deed=d))->Q (.ref l) H'
abbrev kT:Stmt:=stq 38
theorem sJ:FnScope ["house","deed"] ["house","deed"] (aI kT):=⟨rfl,rfl,rfl,by decide +kernel,rfl,by decide +kernel,by decide +kernel⟩
theorem As{P:Program}{w:World}{K:Du}{mg:Str->Option Value}{base:Heap}(D:Dfn K mg "ways_of_deed" kT ["house","deed"])(T:Blt mg):Cal P w K mg base "ways_of_deed" 1 ["house","deed"] (jI K):=by
 have nd:=(sJ).nd
 refine D.ok sJ (fun vs H Q E h=>?_) (fun X hX H vs Q E h=>?_)
 ·obtain⟨vh,m,ws,d,rfl,_⟩:=h;rfl
 ·obtain⟨f,cdv,A,outer,s,H0,E0,rfl,hr⟩:=hX
  obtain⟨vh,m,ws,d,rfl,hv,ok,q⟩:=h
  have few:=ok.few
  obtain⟨hp0,hq0,rfl,hh,hw⟩:=id hv
  obtain⟨bs,hq,hal⟩:=bZ.al hw
  have hbl:=hal.1
  refine⟨_,(@ao _ _ _ (@aE _ _ _ _ (cE ["way"] [1] (fH K (@ai _ _ _ _ _ _ _ (ay K) (pv 0) ae (fun _ _=>rfl))) (fun _=>(aM (i:=0) (show(["way","deed"]:List Str).Nodup from by decide +kernel) rfl (Or.inl rfl) (Or.inr rfl))) (fun _=>(dG (aR b9 (@ai _ _ _ _ _ _ _ (ay K) (pv 0) ae (fun _ _=>rfl)) (pv 1) (aQ _)))) (fun _=>(pv 0))))),?_⟩
  walk_at "r"
  refine az (ah.of hh) (v:=.ref hq0) rfl ?_
  walk_at "r"
  refine ft (ah.of hq) ?_
  refine ig (xs:=bs.map V.ref) (fun i ys H'=>H'=H/\∃cs us,ys=List.map V.ref cs/\aN H cs us/\us=(ws.take i).filter fun w=>decide (w.deed=d)) (bw (by rw[Dy];omega)) ⟨rfl,[],[],rfl,aN.nil _,rfl⟩ ?_ ?_ ?_
  ·rintro i ys H' _ ⟨rfl,cs,us,rfl,hau,rfl⟩
   refine⟨ah.of hq,?_⟩
   rw[Dy,hau.1]
   exact Eb (List.length_filter_le _ _) (by rw[List.length_take];omega)
  ·rintro i v ys H' hx ⟨rfl,cs,us,rfl,hau,hus⟩
   rw[DA]at hx
   obtain⟨b,hb,rfl⟩:=DJ.mp hx
   have hiw:i<ws.length:=by
    have:=(DG.mp hb).1
    omega
   have hwi:ws[i]?=some ws[i]:=Dz hiw
   have hbw:=hal.2 i b _ hb hwi
   generalize ws[i]=w0 at hwi hbw
   walk_at "r"
   refine az (ah.of hbw) (v:=.str w0.deed) rfl ?_
   walk_at "r"
   refine mH (rd_exb ?_)
   cases hc:decide (w0.deed=d)with
   | true=>
    refine aG ?_
    walk_at "r"
    refine⟨rfl,cs++[b],us++[w0],?_,hau.snoc hbw,?_⟩
    ·rw[DO];rfl
    ·rw[hus,List.take_add_one,hwi,List.filter_append]
     congr 1
     show[w0]=List.filter _ [w0]
     rw[List.filter_cons,if_pos hc]
     rfl
   | false=>
    refine aA ⟨rfl,cs,us,rfl,hau,?_⟩
    rw[hus,List.take_add_one,hwi,List.filter_append]
    have:List.filter (fun w:Way=>decide (w.deed=d)) [w0]=[]:=by
     rw[List.filter_cons,if_neg (by rw[hc];exact DN)]
     rfl
    show _=_++List.filter _ [w0]
    rw[this,List.append_nil]
  ·rintro ys H' pc ⟨hH,cs,us,rfl,hau,hus⟩ hpc
   subst hH
   rw[Dy,hbl,DZ]at hus
   have e:=aZ (o:=.lst (List.map V.ref cs)) hpc
   exact q pc cs us _ e hpc aH (hau.ext e) hus
theorem wq{x:Addr}:∀{l:List Addr} {i:Nat},l.Nodup->x∉l->(l.set i x).Nodup
 | [],_,_,_=>List.nodup_nil
 | a::l,0,h,hx=>by
  rw[List.nodup_cons]at h
  exact List.nodup_cons.mpr ⟨fun z=>hx (DB _ z),h.2⟩
 | a::l,i+1,h,hx=>by
  rw[List.nodup_cons]at h
  refine List.nodup_cons.mpr ⟨fun z=>?_,wq h.2 fun z=>hx (DB _ z)⟩
  rcases List.mem_or_eq_of_mem_set z with z | z
  ·exact h.1 z
  ·exact hx (by rw[z];exact DE)
structure TB(H H':Hp)(q:Addr)(rs rs':List Addr)(n:Nat)(M:Nat->Nat->Bool):Prop where
 keep:∀b o,b≠q->H b=some o->H' b=some o
 len:rs'.length=n
 nd:rs'.Nodup
 nq:q∉rs'
 old:∀r∈rs',r∈rs\/H r=none
 rows:Rows H' q rs' n M
theorem TB.congr{H H':Hp}{q:Addr}{rs rs':List Addr}{n:Nat}{M M':Nat->Nat->Bool}(h:TB H H' q rs rs' n M)(e:∀i j,i<n->j<n->M i j=M' i j):TB H H' q rs rs' n M':=
 ⟨h.keep,h.len,h.nd,h.nq,h.old,h.rows.1,fun i r hi=>by
  rw[h.rows.2 i r hi]
  have hl:i<n:=by rw[←h.len];exact(DG.mp hi).1
  congr 2
  exact dP fun j hj=>e i j hl hj⟩
theorem TB.set{H H1:Hp}{q p9:Addr}{rs rs1:List Addr}{n i:Nat}{M:Nat->Nat->Bool}{f:Nat->Bool}(h:TB H H1 q rs rs1 n M)(hi:i<n)(hp:H1 p9=none):TB H (upd (upd H1 p9 (.lst (aO n f))) q (.lst ((rs1.map V.ref).set i (.ref p9)))) q rs (rs1.set i p9) n (fun a b=>if a=i then f b else M a b):=by
 have hq:H1 q=some (.lst (rs1.map V.ref)):=h.rows.1
 have nqp:q≠p9:=fun z=>by rw[z,hp]at hq;cases hq
 have nin:p9∉rs1:=fun z=>by
  obtain⟨j,hj⟩:=List.getElem?_of_mem z
  rw[h.rows.2 j p9 hj]at hp
  cases hp
 refine⟨fun b o nb e=>?_,by rw[List.length_set];exact h.len,wq h.nd nin,fun z=>?_,fun r hr=>?_,?_,fun a r ha=>?_⟩
 ·have e1:=h.keep b o nb e
  rw[aB nb,aB (cw e1 hp)]
  exact e1
 ·rcases List.mem_or_eq_of_mem_set z with z | z
  ·exact h.nq z
  ·exact nqp z
 ·rcases List.mem_or_eq_of_mem_set hr with hr | rfl
  ·exact h.old r hr
  ·right
   cases e:H r with
   | none=>rfl
   | some o=>rw[h.keep r o (Ne.symm nqp) e]at hp;cases hp
 ·rw[aH,List.map_set]
 ·rw[List.getElem?_set]at ha
  by_cases hai:i=a
  ·subst hai
   rw[if_pos rfl,if_pos (by rw[h.len];exact hi)]at ha
   cases ha
   rw[aB (Ne.symm nqp),aH]
   congr 2
   exact dP fun j _=>by dsimp only;rw[if_pos rfl]
  ·rw[if_neg hai]at ha
   have e:=h.rows.2 a r ha
   have nrq:r≠q:=fun z=>h.nq (z ▸ DH ha)
   rw[aB nrq,aB (cw e hp),e]
   congr 2
   exact dP fun j _=>by dsimp only;rw[if_neg (Ne.symm hai)]
def jn(M:Nat->Nat->Bool)(k:Nat):Nat->Nat->Bool:=fun i j=>M i j || (M i k && M k j)
def bH(M:Nat->Nat->Bool):Nat->Nat->Nat->Bool
 | 0=>M
 | k+1=>jn (bH M k) k
structure Joined(n:Nat)(M M':Nat->Nat->Bool):Prop where
 le:∀i j,M i j=true->M' i j=true
 tr:∀i a j,a<n->M' i a=true->M' a j=true->M' i j=true
 least:∀S:Nat->Nat->Prop,(∀i a j,S i a->S a j->S i j)->(∀i j,M i j=true->S i j)->∀i j,M' i j=true->S i j
theorem qi(M:Nat->Nat->Bool):∀k,Joined k M (bH M k)
 | 0=>⟨fun _ _ h=>h,fun _ _ _ h=>absurd h (Nat.not_lt_zero _),fun _ _ h=>h⟩
 | k+1=>by
  have ih:=qi M k
  have up:∀i j,bH M (k+1) i j=true↔(bH M k i j=true\/(bH M k i k=true/\bH M k k j=true)):=fun i j=>by
   show(bH M k i j || (bH M k i k && bH M k k j))=true↔_
   simp
  refine⟨fun i j h=>(up i j).mpr (.inl (ih.le i j h)),fun i a j ha h1 h2=>?_,fun S ht hm i j h=>?_⟩
  ·rw[up]at h1 h2 ⊢
   by_cases hak:a=k
   ·subst hak
    have x1:bH M a i a=true:=by rcases h1 with h | h;exact h;exact h.1
    have x2:bH M a a j=true:=by rcases h2 with h | h;exact h;exact h.2
    exact .inr ⟨x1,x2⟩
   ·have hlt:a<k:=by omega
    rcases h1 with h1 | ⟨h1,h1'⟩<;>rcases h2 with h2 | ⟨h2,h2'⟩
    ·exact .inl (ih.tr i a j hlt h1 h2)
    ·exact .inr ⟨ih.tr i a k hlt h1 h2,h2'⟩
    ·exact .inr ⟨h1,ih.tr k a j hlt h1' h2⟩
    ·exact .inr ⟨h1,h2'⟩
  ·rcases(up i j).mp h with h | ⟨h1,h2⟩
   ·exact ih.least S ht hm i j h
   ·exact ht i k j (ih.least S ht hm i k h1) (ih.least S ht hm k j h2)
def sF(K:Du):Sp:=fun vs H Q _=>∃q rs n M,vs=[.ref q]/\TB H H q rs rs n M/\n<=12/\∀rs' M' H',TB H H' q rs rs' n M'->Joined n M M'->Q .non H'
abbrev oI:Stmt:=stq 41
theorem vI:FnScope ["table","many","middle","p"] ["table"] (aI oI):=⟨rfl,rfl,rfl,by decide +kernel,rfl,by decide +kernel,by decide +kernel⟩
theorem yt{P:Program}{w:World}{K:Du}{mg:Str->Option Value}{base:Heap}(D:Dfn K mg "join_walks" oI ["table"])(T:Blt mg):Cal P w K mg base "join_walks" 1 ["table"] (sF K):=by
 have nd:=(vI).nd
 refine D.ok vI (fun vs H Q E h=>?_) (fun X hX H vs Q E h=>?_)
 ·obtain⟨q,rs,n,M,rfl,_⟩:=h;rfl
 ·obtain⟨f,cdv,A,outer,s,H0,E0,rfl,hr⟩:=hX
  obtain⟨qt,rs,n,M,rfl,ht,hn,q⟩:=h
  refine⟨_,(@aj _ _ _ _ _ (@aF _ _ 1 _ _ _ _ nd rfl (Or.inl rfl) (aW (cF K) rfl T.len_ PySem.boot_len (@aa _ _ _ _ _ (pv 0) af rfl)) rfl (Or.inl rfl))
    (@ao _ _ _ (bJ PassesOwn.never rfl (bQ rfl T.range_ (@aa _ _ _ _ _ (pv 1) af rfl)) (aM (i:=2) nd rfl (Or.inr rfl)) (@ao _ _ _ (bJ PassesOwn.never rfl (bQ rfl T.range_ (@aa _ _ _ _ _ (pv 1) af rfl)) (aM (i:=3) nd rfl (Or.inr rfl)) (@ao _ _ _ (de (bo (@ai _ _ _ _ _ _ _ (aJ K) (@ai _ _ _ _ _ _ _ (aJ K) (pv 0) (pv 3) (fun _ _=>rfl)) (pv 2) (fun _ _=>rfl))) (@ao _ _ _ (@fV _ _ _ _ _ _ (cE ["q"] [0,3,2] (bQ rfl T.range_ (@aa _ _ _ _ _ (pv 1) af rfl)) (fun _=>(aM (i:=0) (show(["q","table","p","middle"]:List Str).Nodup from by decide +kernel) rfl (Or.inl rfl) (Or.inr rfl))) (fun _=>du) (fun _=>(vH (@ai _ _ _ _ _ _ _ (aJ K) (@ai _ _ _ _ _ _ _ (aJ K) (pv 1) (pv 2) (fun _ _=>rfl)) (pv 0) (fun _ _=>rfl)) (dM (@ai _ _ _ _ _ _ _ (aJ K) (@ai _ _ _ _ _ _ _ (aJ K) (pv 1) (pv 3) (fun _ _=>rfl)) (pv 0) (fun _ _=>rfl)))))) (jf (pv 0) (pv 3) set_list) rfl rfl rfl)) aV))))))),?_⟩
  walk_at "r"
  refine eo (ag.of ht.rows.1) ?_
  rw[Dy,ht.len]
  walk_at "r"
  refine bS (by omega) ?_
  rw[DK]
  refine forR (fun k σ H'=>∃rs1 k1 k2,TB H H' qt rs rs1 n (bH M k)/\σ=[some (.ref qt),some (.int (n:Nat)),k1,k2]) ⟨rs,_,_,ht,rfl⟩ ?_ ?_
  ·rintro k σ H1 hk ⟨rs1,k1,k2,tb,rfl⟩
   rw[show (0:Int)+(k:Int)=((k:Nat):Int) by omega]
   walk_at "r"
   refine bS (by omega) ?_
   rw[DK]
   refine forR (fun p σ H'=>∃rs2 k2,TB H H' qt rs rs2 n (fun i j=>if i<p then jn (bH M k) k i j else bH M k i j)/\σ=[some (.ref qt),some (.int (n:Nat)),some (.int (k:Nat)),k2]) ⟨rs1,_,tb,rfl⟩ ?_ ?_
   ·rintro p σ H2 hp ⟨rs2,k2,tb2,rfl⟩
    rw[show (0:Int)+(p:Int)=((p:Nat):Int) by omega]
    have hp2:p<rs2.length:=by rw[tb2.len];exact hp
    have hk2:k<rs2.length:=by rw[tb2.len];exact hk
    have gp:rs2[p]?=some rs2[p]:=Dz hp2
    have gk:rs2[k]?=some rs2[k]:=Dz hk2
    have rp:=tb2.rows.2 p _ gp
    have rk:=tb2.rows.2 k _ gk
    generalize rs2[p]=ap at gp rp
    generalize rs2[k]=ak at gk rk
    have ap1:bt (rs2.map V.ref) ((p:Nat):Int)=some (.ref ap):=eW (by rw[DA,gp];rfl)
    have ak1:bt (rs2.map V.ref) ((k:Nat):Int)=some (.ref ak):=eW (by rw[DA,gk];rfl)
    have rp':H2 ap=some (.lst (aO n (bH M k p))):=by
     rw[rp]
     congr 2
     exact dP fun j _=>by dsimp only;rw[if_neg (Nat.lt_irrefl _)]
    have rk':H2 ak=some (.lst (aO n (bH M k k))):=by
     rw[rk]
     congr 2
     refine dP fun j _=>?_
     dsimp only
     by_cases hkp:k<p
     ·rw[if_pos hkp]
      unfold jn
      cases bH M k k j<;>simp
     ·rw[if_neg hkp]
    walk_at "r"
    refine fk ?_
    walk_at "r"
    refine aK (ag.of tb2.rows.1) ap1 ?_
    walk_at "r"
    refine aK (ag.of rp') (dm (by omega) (by omega)) ?_
    rw[DK]
    walk_at "r"
    cases hc:bH M k p k with
    | false=>
     refine aA ?_
     walk_at "r"
     refine⟨rs2,_,tb2.congr fun i j hi hj=>?_,rfl⟩
     try dsimp only
     by_cases h1:i<p
     ·rw[if_pos h1,if_pos (by omega)]
     ·rw[if_neg h1]
      by_cases h2:i<p+1
      ·have:i=p:=by omega
       subst this
       rw[if_pos h2]
       unfold jn
       rw[hc]
       simp
      ·rw[if_neg h2]
    | true=>
     refine aG ?_
     walk_at "r"
     refine bS (by omega) ?_
     rw[DK]
     refine dC (fun i ys H'=>H'=H2/\ys=aO i (jn (bH M k) k p)) (bw (by omega)) ⟨rfl,rfl⟩ ?_ ?_ ?_
     ·rintro i ys H' _ ⟨_,rfl⟩
      rw[cD];exact DR _
     ·rintro i ys H3 hi ⟨rfl,rfl⟩
      rw[show (0:Int)+(i:Int)=((i:Nat):Int) by omega]
      walk_at "r"
      refine aG ?_
      walk_at "r"
      refine aK (ag.of tb2.rows.1) ap1 ?_
      walk_at "r"
      refine aK (ag.of rp') (dm (by omega) (by omega)) ?_
      rw[DK]
      refine rd_exb ?_
      cases hv:bH M k p i with
      | true=>
       refine aG ⟨rfl,?_⟩
       rw[ip]
       congr 1
       show[V.bl true]=[V.bl (bH M k p i || _)]
       rw[hv]
       rfl
      | false=>
       refine aA ?_
       walk_at "r"
       refine aK (ag.of tb2.rows.1) ak1 ?_
       walk_at "r"
       refine aK (ag.of rk') (dm (by omega) (by omega)) ?_
       rw[DK]
       refine⟨rfl,?_⟩
       rw[ip]
       congr 1
       show[V.bl (bH M k k i)]=[V.bl (bH M k p i || (bH M k p k && bH M k k i))]
       rw[hv,hc]
       simp
     ·rintro ys H3 p9 ⟨hH,rfl⟩ hp9
      subst hH
      have hq2:(upd H3 p9 (.lst (aO n (jn (bH M k) k p)))) qt=some (.lst (rs2.map V.ref)):=(aZ hp9) _ _ tb2.rows.1
      walk_at "r"
      refine iq hq2 (iW (by omega) (by rw[Dy,tb2.len];omega)) ?_
      rw[DK]
      refine⟨_,_,(tb2.set (f:=jn (bH M k) k p) hp hp9).congr fun i j hi hj=>?_,rfl⟩
      try dsimp only
      by_cases h1:i=p
      ·subst h1
       rw[if_pos rfl,if_pos (by omega)]
      ·rw[if_neg h1]
       by_cases h2:i<p
       ·rw[if_pos h2,if_pos (by omega)]
       ·rw[if_neg h2,if_neg (by omega)]
   ·rintro σ H2 ⟨rs2,k2,tb2,rfl⟩
    exact⟨rs2,_,_,tb2.congr (fun i j hi hj=>by rw[if_pos hi];rfl),rfl⟩
  ·rintro σ H1 ⟨rs1,k1,k2,tb,rfl⟩
   walk_at "r"
   exact q rs1 _ H1 tb (qi M n)
def put2(M:Nat->Nat->Bool)(i x:Nat):Nat->Nat->Bool:=fun j y=>if j=i/\y=x then true else M j y
structure TW(H H':Hp)(q:Addr)(rs:List Addr)(n:Nat)(M:Nat->Nat->Bool):Prop where
 keep:∀b o,b∉rs->H b=some o->H' b=some o
 len:rs.length=n
 nd:rs.Nodup
 nq:q∉rs
 rows:Rows H' q rs n M
theorem TW.mark{H H1:Hp}{q r:Addr}{rs:List Addr}{n i j:Nat}{M:Nat->Nat->Bool}(h:TW H H1 q rs n M)(hi:rs[i]?=some r)(hj:j<n):TW H (upd H1 r (.lst ((aO n (M i)).set j (.bl true)))) q rs n (put2 M i j):=by
 have hm:=DH hi
 have nqr:q≠r:=fun z=>h.nq (z ▸ hm)
 refine⟨fun b o nb e=>?_,h.len,h.nd,h.nq,?_,fun a r' ha=>?_⟩
 ·have nbr:b≠r:=fun z=>nb (by rw[z];exact hm)
  rw[aB nbr]
  exact h.keep b o nb e
 ·rw[aB nqr]
  exact h.rows.1
 ·by_cases hai:a=i
  ·subst hai
   rw[hi]at ha
   cases ha
   rw[aH,lO _ _ hj]
   congr 2
   refine dP fun y _=>?_
   unfold put2
   by_cases hy:y=j
   ·rw[if_pos hy,if_pos ⟨rfl,hy⟩]
   ·rw[if_neg hy,if_neg fun z=>hy z.2]
  ·have nr:r'≠r:=fun z=>hai ((List.getElem?_inj (by rw[h.len];exact(by rw[←h.len];exact(DG.mp ha).1)) h.nd).mp (by rw[ha,hi,z]))
   rw[aB nr,h.rows.2 a r' ha]
   congr 2
   exact dP fun y _=>by unfold put2;rw[if_neg fun z=>hai z.1]
structure ArchR(n:Nat)(us ds:List Way)(M M':Nat->Nat->Bool)(ad:Bool):Prop where
 le:∀i j,M i j=true->M' i j=true
 same:ad=false->∀i j,M' i j=M i j
 more:ad=true->∃i j,i<n/\j<n/\M i j=false/\M' i j=true
 least:∀S:Nat->Nat->Prop,(∀u∈us,∀d∈ds,S u.other.toNat d.room.toNat->S u.room.toNat d.other.toNat)->(∀i j,M i j=true->S i j)->∀i j,M' i j=true->S i j
theorem ArchR.refl{n:Nat}{us ds:List Way}{M:Nat->Nat->Bool}:ArchR n us ds M M false:=⟨fun _ _ h=>h,fun _ _ _=>rfl,fun h=>(nomatch h),fun _ _ h=>h⟩
theorem ArchR.put{n:Nat}{us ds:List Way}{M M':Nat->Nat->Bool}{ad:Bool}(h:ArchR n us ds M M' ad){u d:Way}(hu:u∈us)(hd:d∈ds)(h1:M' u.other.toNat d.room.toNat=true)(h2:M' u.room.toNat d.other.toNat=false)(hn1:u.room.toNat<n)(hn2:d.other.toNat<n):ArchR n us ds M (put2 M' u.room.toNat d.other.toNat) true:=by
 have le:∀i j,M i j=true->put2 M' u.room.toNat d.other.toNat i j=true:=fun i j hm=>by
  unfold put2
  split
  ·rfl
  ·exact h.le i j hm
 refine⟨le,fun z=>(nomatch z),fun _=>⟨_,_,hn1,hn2,?_,by unfold put2;rw[if_pos ⟨rfl,rfl⟩]⟩,fun S hS hm i j hp=>?_⟩
 ·rw[Bool.eq_false_iff]
  intro z
  rw[h.le _ _ z]at h2
  cases h2
 ·unfold put2 at hp
  split at hp
  ·rename_i z
   rw[z.1,z.2]
   exact hS u hu d hd (h.least S hS hm _ _ h1)
  ·exact h.least S hS hm i j hp
def pG(K:Du):Sp:=fun vs H Q _=>∃q rs n M lu cu us ld cd ds,vs=[.ref q,.ref lu,.ref ld]/\TW H H q rs n M/\H lu=some (.lst (List.map V.ref cu))/\aN H cu us/\H ld=some (.lst (List.map V.ref cd))/\aN H cd ds/\lu∉rs/\ld∉rs/\(∀w∈us++ds,0<=w.room/\w.room<(n:Int)/\0<=w.other/\w.other<(n:Int)) ∧
 ∀M' ad H',TW H H' q rs n M'->ArchR n us ds M M' ad->(ad=false->∀u∈us,∀d∈ds,M u.other.toNat d.room.toNat=true->M u.room.toNat d.other.toNat=true)->Q (.bl ad) H'
abbrev m7:Stmt:=stq 42
theorem wG:FnScope ["table","ups","downs","added","rise","fall"] ["table","ups","downs"] (aI m7):=⟨rfl,rfl,rfl,by decide +kernel,rfl,by decide +kernel,by decide +kernel⟩
theorem xi{P:Program}{w:World}{K:Du}{mg:Str->Option Value}{base:Heap}(D:Dfn K mg "add_arches" m7 ["table","ups","downs"])(T:Blt mg):Cal P w K mg base "add_arches" 1 ["table","ups","downs"] (pG K):=by
 have nd:=(wG).nd
 refine D.ok wG (fun vs H Q E h=>?_) (fun X hX H vs Q E h=>?_)
 ·obtain⟨q,rs,n,M,lu,cu,us,ld,cd,ds,rfl,_⟩:=h;rfl
 ·obtain⟨f,cdv,A,outer,s,H0,E0,rfl,hr⟩:=hX
  obtain⟨qt,rs,n,M,lu,cu,us,ld,cd,ds,rfl,tw,hlu,hau,hld,had,nlu,nld,hin,q⟩:=h
  have hcu:=hau.1
  have hcd:=had.1
  refine⟨_,(@aj _ _ _ _ _ (@aF _ _ 3 _ _ _ _ nd rfl (Or.inl rfl) bC rfl (Or.inl rfl))
    (@aj _ _ _ _ _ (bJ PassesOwn.never rfl (cJ K (pv 1)) (aM (i:=4) nd rfl (Or.inl rfl)) (@ao _ _ _ (bJ PassesOwn.never rfl (cJ K (pv 2)) (aM (i:=5) nd rfl (Or.inl rfl)) (@ao _ _ _ (de (PW.pt (jj (bo (@ai _ _ _ _ _ _ _ (aJ K) (@ai _ _ _ _ _ _ _ (aJ K) (pv 0) (@ai _ _ _ _ _ _ _ (ay K) (pv 4) ae (fun _ _=>rfl)) (fun _ _=>rfl)) (@ai _ _ _ _ _ _ _ (ay K) (pv 5) ae (fun _ _=>rfl)) (fun _ _=>rfl))) (je (bL (bo (@ai _ _ _ _ _ _ _ (aJ K) (@ai _ _ _ _ _ _ _ (aJ K) (pv 0) (@ai _ _ _ _ _ _ _ (ay K) (pv 4) ae (fun _ _=>rfl)) (fun _ _=>rfl)) (@ai _ _ _ _ _ _ _ (ay K) (pv 5) ae (fun _ _=>rfl)) (fun _ _=>rfl))))))) (@aj _ _ _ _ _ (@fV _ _ _ _ _ _ bC (jf (@ai _ _ _ _ _ _ _ (aJ K) (pv 0) (@ai _ _ _ _ _ _ _ (ay K) (pv 4) ae (fun _ _=>rfl)) (fun _ _=>rfl)) (@ai _ _ _ _ _ _ _ (ay K) (pv 5) ae (fun _ _=>rfl)) set_list) rfl rfl rfl)
    (@ao _ _ _ (@aF _ _ 3 _ _ _ _ nd rfl (Or.inl rfl) bC rfl (Or.inl rfl)))) aV)))))
    (@ao _ _ _ (@aE _ _ _ _ (pv 3))))),?_⟩
  have tupN:∀(b:Addr) (w:Way),H b=some (.tup w.vs)->b∉rs:=fun b w hb z=>by
   obtain⟨j,hj⟩:=List.getElem?_of_mem z
   rw[tw.rows.2 j b hj]at hb
   cases hb
  walk_at "r"
  refine cI (ag.of hlu) ?_
  refine forL (xs:=List.map V.ref cu) (fun i σ H'=>∃M' ad k1 k2,TW H H' qt rs n M'/\ArchR n us ds M M' ad/\(ad=false->∀a,a<i->∀u,us[a]?=some u->∀d∈ds,M u.other.toNat d.room.toNat=true->M u.room.toNat d.other.toNat=true)/\σ=[some (.ref qt),some (.ref lu),some (.ref ld),some (.bl ad),k1,k2]) ⟨M,false,_,_,tw,.refl,fun _ a ha=>absurd ha (Nat.not_lt_zero _),rfl⟩ (fun i σ H' _ h=>by obtain⟨M',ad,k1,k2,t,_⟩:=h;exact ag.of (t.keep _ _ nlu hlu)) ?_ ?_
  ·rintro i v σ H1 hx ⟨M1,ad,k1,k2,tw1,ar1,cl1,rfl⟩
   rw[DA]at hx
   obtain⟨bu,hbu,rfl⟩:=DJ.mp hx
   have hiu:i<us.length:=by rw[←hcu];exact(DG.mp hbu).1
   have gu:us[i]?=some us[i]:=Dz hiu
   have hbu0:=hau.2 i bu _ hbu gu
   generalize us[i]=u at gu hbu0
   have hum:=DH gu
   obtain⟨u0,u1,u2,u3⟩:=hin u (List.mem_append_left _ hum)
   walk_at "r"
   refine cI (ag.of (tw1.keep _ _ nld hld)) ?_
   refine forL (xs:=List.map V.ref cd) (fun j σ H'=>∃M' ad k2,TW H H' qt rs n M'/\ArchR n us ds M M' ad/\(ad=false->(∀a,a<i->∀u,us[a]?=some u->∀d∈ds,M u.other.toNat d.room.toNat=true->M u.room.toNat d.other.toNat=true)/\∀b,b<j->∀d,ds[b]?=some d->M u.other.toNat d.room.toNat=true->M u.room.toNat d.other.toNat=true)/\σ=[some (.ref qt),some (.ref lu),some (.ref ld),some (.bl ad),some (.ref bu),k2]) ⟨M1,ad,_,tw1,ar1,fun h=>⟨cl1 h,fun b hb=>absurd hb (Nat.not_lt_zero _)⟩,rfl⟩ (fun j σ H' _ h=>by obtain⟨M',ad,k2,t,_⟩:=h;exact ag.of (t.keep _ _ nld hld)) ?_ ?_
   ·rintro j v σ H2 hx2 ⟨M2,ad2,k2,tw2,ar2,cl2,rfl⟩
    rw[DA]at hx2
    obtain⟨bd,hbd,rfl⟩:=DJ.mp hx2
    have hid:j<ds.length:=by rw[←hcd];exact(DG.mp hbd).1
    have gd:ds[j]?=some ds[j]:=Dz hid
    have hbd0:=had.2 j bd _ hbd gd
    generalize ds[j]=d at gd hbd0
    have hdm:=DH gd
    obtain⟨d0,d1,d2,d3⟩:=hin d (List.mem_append_right _ hdm)
    have ku:=tw2.keep _ _ (tupN bu u hbu0) hbu0
    have kd:=tw2.keep _ _ (tupN bd d hbd0) hbd0
    have x1:u.other.toNat<rs.length:=by rw[tw2.len];omega
    have x2:u.room.toNat<rs.length:=by rw[tw2.len];omega
    have r1:rs[u.other.toNat]?=some rs[u.other.toNat]:=Dz x1
    have r2:rs[u.room.toNat]?=some rs[u.room.toNat]:=Dz x2
    have w1:=tw2.rows.2 _ _ r1
    have w2:=tw2.rows.2 _ _ r2
    generalize rs[u.other.toNat]=a1 at r1 w1
    generalize rs[u.room.toNat]=a2 at r2 w2
    have at1:bt (rs.map V.ref) u.other=some (.ref a1):=dI u2 (by rw[DA,r1];rfl)
    have at2:bt (rs.map V.ref) u.room=some (.ref a2):=dI u0 (by rw[DA,r2];rfl)
    have step:(M u.other.toNat d.room.toNat=true->M u.room.toNat d.other.toNat=true)->ad2=false->∀b,b<j+1->∀d',ds[b]?=some d'->M u.other.toNat d'.room.toNat=true->M u.room.toNat d'.other.toNat=true:=fun hs hf b hb d' hd'=>by
     by_cases hbj:b<j
     ·exact(cl2 hf).2 b hbj d' hd'
     ·have:b=j:=by omega
      subst this
      rw[gd]at hd'
      cases hd'
      exact hs
    walk_at "r"
    refine fk ?_
    walk_at "r"
    refine az (ah.of ku) (v:=.int u.other) rfl ?_
    walk_at "r"
    refine aK (ag.of tw2.rows.1) at1 ?_
    walk_at "r"
    refine az (ah.of kd) (v:=.int d.room) rfl ?_
    walk_at "r"
    refine aK (ag.of w1) (dm d0 (by omega)) ?_
    walk_at "r"
    cases hm1:M2 u.other.toNat d.room.toNat with
    | false=>
     refine aA ?_
     walk_at "r"
     refine⟨M2,ad2,_,tw2,ar2,fun hf=>⟨(cl2 hf).1,step (fun z=>?_) hf⟩,rfl⟩
     rw[ar2.same hf]at hm1
     rw[hm1]at z
     cases z
    | true=>
     refine aG ?_
     walk_at "r"
     refine az (ah.of ku) (v:=.int u.room) rfl ?_
     walk_at "r"
     refine aK (ag.of tw2.rows.1) at2 ?_
     walk_at "r"
     refine az (ah.of kd) (v:=.int d.other) rfl ?_
     walk_at "r"
     refine aK (ag.of w2) (dm d2 (by omega)) ?_
     walk_at "r"
     cases hm2:M2 u.room.toNat d.other.toNat with
     | true=>
      refine aA ?_
      walk_at "r"
      refine⟨M2,ad2,_,tw2,ar2,fun hf=>⟨(cl2 hf).1,step (fun _=>?_) hf⟩,rfl⟩
      rw[ar2.same hf]at hm2
      exact hm2
     | false=>
      refine aG ?_
      walk_at "r"
      refine az (ah.of ku) (v:=.int u.room) rfl ?_
      walk_at "r"
      refine aK (ag.of tw2.rows.1) at2 ?_
      walk_at "r"
      refine az (ah.of kd) (v:=.int d.other) rfl ?_
      walk_at "r"
      refine iq w2 (iW d2 (by rw[cD];omega)) ?_
      walk_at "r"
      exact⟨_,true,_,tw2.mark r2 (by omega),ar2.put hum hdm hm1 hm2 (by omega) (by omega),fun z=>(nomatch z),rfl⟩
   ·rintro σ H2 ⟨M2,ad2,k2,tw2,ar2,cl2,rfl⟩
    rw[Dy,hcd]at cl2
    refine⟨M2,ad2,_,_,tw2,ar2,fun hf a ha u' hu'=>?_,rfl⟩
    by_cases hai:a<i
    ·exact(cl2 hf).1 a hai u' hu'
    ·have:a=i:=by omega
     subst this
     rw[gu]at hu'
     cases hu'
     intro d hd
     obtain⟨b,hb⟩:=List.getElem?_of_mem hd
     exact(cl2 hf).2 b (DG.mp hb).1 d hb
  ·rintro σ H1 ⟨M1,ad,k1,k2,tw1,ar1,cl1,rfl⟩
   rw[Dy,hcu]at cl1
   walk_at "r"
   refine q M1 ad H1 tw1 ar1 fun hf u hu d hd=>?_
   obtain⟨a,ha⟩:=List.getElem?_of_mem hu
   exact cl1 hf a (DG.mp ha).1 u ha d hd
inductive Kpt(ws:List Way)(n:Nat):Nat->Nat->Prop
 | refl {i:Nat}:i<n->Kpt ws n i i
 | stay {w:Way}:w∈ws->w.deed = "stay"->Kpt ws n w.room.toNat w.other.toNat
 | trans {i a j:Nat}:Kpt ws n i a->Kpt ws n a j->Kpt ws n i j
 | arch {u d:Way}:u∈ws->u.deed = "up"->d∈ws->d.deed = "down"->Kpt ws n u.other.toNat d.room.toNat->Kpt ws n u.room.toNat d.other.toNat
theorem gD{m:Int}{ws:List Way}(ok:∀w∈ws,w.Ok m){w:Way}(hw:w∈ws):w.room.toNat<m.toNat/\w.other.toNat<m.toNat:=by
 have h:=ok w hw
 have:=h.r0
 have:=h.r1
 have:=h.o0
 have:=h.o1
 omega
theorem Kpt.lt{m:Int}{ws:List Way}(ok:∀w∈ws,w.Ok m){i j:Nat}(h:Kpt ws m.toNat i j):i<m.toNat/\j<m.toNat:=by
 induction h with
 | refl h=>exact⟨h,h⟩
 | stay h _=>exact gD ok h
 | trans _ _ h1 h2=>exact⟨h1.1,h2.2⟩
 | arch h1 _ h2 _ _ _=>exact⟨(gD ok h1).1,(gD ok h2).2⟩
def Aa(ws:List Way)(M:Nat->Nat->Bool):Prop:=∀i j,M i j=true↔(i=j\/∃w∈ws,w.deed = "stay"/\w.room.toNat=i/\w.other.toNat=j)
def gX(n:Nat)(M:Nat->Nat->Bool):Nat:=((List.range n).flatMap fun i=>(List.range n).map fun j=>(i,j)).countP fun z=>!M z.1 z.2
theorem rT{α:Type}{p p':α->Bool}(hi:∀y,p' y=true->p y=true){a:α}(ha:p a=true)(ha':p' a=false):∀{L:List α},a∈L->L.countP p'<L.countP p
 | b::L,hm=>by
  have hle:L.countP p'<=L.countP p:=List.countP_mono_left fun y _=>hi y
  rw[List.countP_cons,List.countP_cons]
  rcases DM.mp hm with rfl | hm
  ·rw[ha,ha']
   simp
   omega
  ·have:=rT hi ha ha' hm
   cases h1:p' b with
   | false=>simp[h1];split<;>omega
   | true=>rw[hi b h1];simp;omega
theorem zH{n i j:Nat}{M M':Nat->Nat->Bool}(hi:i<n)(hj:j<n)(le:∀a b,M a b=true->M' a b=true)(h1:M i j=false)(h2:M' i j=true):gX n M'<gX n M:=by
 refine rT (a:=(i,j)) (fun y hy=>?_) (by simp[h1]) (by simp[h2]) (by simp;exact⟨hi,hj⟩)
 have hy':M' y.1 y.2=false:=by simpa using hy
 have:M y.1 y.2=false:=by
  rw[Bool.eq_false_iff]
  intro z
  rw[le _ _ z]at hy'
  cases hy'
 simp[this]
structure KT(H H':Hp)(q:Addr)(rs:List Addr)(n:Nat)(M:Nat->Nat->Bool):Prop where
 ext:Ext H H'
 fq:H q=none
 fr:∀r∈rs,H r=none
 len:rs.length=n
 nd:rs.Nodup
 nq:q∉rs
 rows:Rows H' q rs n M
theorem KT.tw{H H':Hp}{q:Addr}{rs:List Addr}{n:Nat}{M:Nat->Nat->Bool}(h:KT H H' q rs n M):TW H' H' q rs n M:=⟨fun _ _ _ e=>e,h.len,h.nd,h.nq,h.rows⟩
theorem KT.tb{H H':Hp}{q:Addr}{rs:List Addr}{n:Nat}{M:Nat->Nat->Bool}(h:KT H H' q rs n M):TB H' H' q rs rs n M:=⟨fun _ _ _ e=>e,h.len,h.nd,h.nq,fun _ h=>.inl h,h.rows⟩
theorem KT.more{H H1 H2:Hp}{q:Addr}{rs:List Addr}{n:Nat}{M:Nat->Nat->Bool}(h:KT H H1 q rs n M)(e:Ext H1 H2):KT H H2 q rs n M:=⟨h.ext.trans e,h.fq,h.fr,h.len,h.nd,h.nq,h.rows.ext e⟩
theorem KT.byW{H H1 H2:Hp}{q:Addr}{rs:List Addr}{n:Nat}{M M':Nat->Nat->Bool}(h:KT H H1 q rs n M)(t:TW H1 H2 q rs n M'):KT H H2 q rs n M':=
 ⟨fun b o e=>t.keep b o (fun z=>by rw[h.fr b z]at e;cases e) (h.ext b o e),h.fq,h.fr,h.len,h.nd,h.nq,t.rows⟩
theorem KT.byB{H H1 H2:Hp}{q:Addr}{rs rs':List Addr}{n:Nat}{M M':Nat->Nat->Bool}(h:KT H H1 q rs n M)(t:TB H1 H2 q rs rs' n M'):KT H H2 q rs' n M':=
 ⟨fun b o e=>t.keep b o (fun z=>by rw[z,h.fq]at e;cases e) (h.ext b o e),h.fq,fun r hr=>by
  rcases t.old r hr with z | z
  ·exact h.fr r z
  ·cases e:H r with
   | none=>rfl
   | some o=>exact absurd ((h.ext r o e).symm.trans z) (by simp),t.len,t.nd,t.nq,t.rows⟩
def vt(K:Du):Sp:=fun vs H Q _=>∃vh m ws,vs=[vh]/\bz H vh m ws/\HOuse m ws/\∀q rs M H',KT H H' q rs m.toNat M->Aa ws M->Q (.ref q) H'
abbrev kA:Stmt:=stq 40
theorem qY:FnScope ["house","table","p","way"] ["house"] (aI kA):=⟨rfl,rfl,rfl,by decide +kernel,rfl,by decide +kernel,by decide +kernel⟩
theorem Dj{P:Program}{w:World}{K:Du}{mg:Str->Option Value}{base:Heap}(D:Dfn K mg "beginning_table" kA ["house"])(T:Blt mg)(C_ways_of_deed:Cal P w K mg base "ways_of_deed" 1 ["house","deed"] (jI K)):Cal P w K mg base "beginning_table" 2 ["house"] (vt K):=by
 have nd:=(qY).nd
 refine D.ok qY (fun vs H Q E h=>?_) (fun X hX H vs Q E h=>?_)
 ·obtain⟨vh,m,ws,rfl,_⟩:=h;rfl
 ·obtain⟨f,cdv,A,outer,s,H0,E0,rfl,hr⟩:=hX
  obtain⟨vh,m,ws,rfl,hv,ok,q⟩:=h
  have m1:=ok.m1
  have m12:=ok.m12
  obtain⟨hp0,hq0,rfl,hh,_⟩:=id hv
  refine⟨_,(@aj _ _ _ _ _ (@aF _ _ 1 _ _ _ _ nd rfl (Or.inl rfl) (@bE _ _ _ _ af) rfl (Or.inl rfl))
    (@aj _ _ _ _ _ (bJ PassesOwn.never rfl (bQ rfl T.range_ (@aa _ _ _ _ _ (@ai _ _ _ _ _ _ _ (ay K) (pv 0) ae (fun _ _=>rfl)) af rfl)) (aM (i:=2) nd rfl (Or.inr rfl)) (@ao _ _ _ (bA (bN K DF DS DT bY (pv 1) (@aa _ _ _ _ _ (cE ["q"] [2] (bQ rfl T.range_ (@aa _ _ _ _ _ (@ai _ _ _ _ _ _ _ (ay K) (pv 0) ae (fun _ _=>rfl)) af rfl)) (fun _=>(aM (i:=0) (show(["q","p"]:List Str).Nodup from by decide +kernel) rfl (Or.inl rfl) (Or.inr rfl))) (fun _=>du) (fun _=>(dU b9 (pv 1) (pv 0) (aQ _)))) af rfl)))))
    (@aj _ _ _ _ _ (bJ PassesOwn.never rfl (cJ K (aC C_ways_of_deed hr (@aa _ _ _ _ _ (pv 0) (@aa _ _ _ _ _ aS af rfl) rfl))) (aM (i:=3) nd rfl (Or.inl rfl)) (@ao _ _ _ (@fV _ _ _ _ _ _ bC (jf (@ai _ _ _ _ _ _ _ (aJ K) (pv 1) (@ai _ _ _ _ _ _ _ (ay K) (pv 3) ae (fun _ _=>rfl)) (fun _ _=>rfl)) (@ai _ _ _ _ _ _ _ (ay K) (pv 3) ae (fun _ _=>rfl)) set_list) rfl rfl rfl)))
    (@ao _ _ _ (@aE _ _ _ _ (pv 1)))))),?_⟩
  walk_at "r"
  refine aP fun tq H1 e1 htq hfq=>?_
  walk_at "r"
  refine az (ah.of (e1 _ _ hh)) (v:=.int m) rfl ?_
  walk_at "r"
  refine bS (by omega) ?_
  refine forR (fun p σ H'=>∃rs k1 k2,Ext H H'/\H' tq=some (.lst (List.map V.ref rs))/\(∀r∈rs,H r=none)/\rs.length=p/\rs.Nodup/\tq∉rs/\(∀(a:Nat) (r:Addr),rs[a]?=some r->H' r=some (.lst (aO m.toNat fun j=>decide (a=j))))/\σ=[some (.ref hp0),some (.ref tq),k1,k2]) ⟨[],_,_,e1,htq,fun r hr=>(by cases hr),rfl,List.nodup_nil,by simp,fun a r h=>by simp at h,rfl⟩ ?_ ?_
  ·rintro p σ H2 hp ⟨rs,k1,k2,e2,hq2,hfr,hln,hnd,hnq,hrs,rfl⟩
   rw[show (0:Int)+(p:Int)=((p:Nat):Int) by omega]
   walk_at "r"
   refine⟨df (ag.of hq2),?_⟩
   walk_at "r"
   refine az (ah.of (e2 _ _ hh)) (v:=.int m) rfl ?_
   walk_at "r"
   refine bS (by omega) ?_
   refine dC (fun i ys H'=>H'=H2/\ys=aO i (fun j=>decide (p=j))) (bw (by omega)) ⟨rfl,rfl⟩ ?_ ?_ ?_
   ·rintro i ys H' _ ⟨_,rfl⟩
    rw[cD];exact DR _
   ·rintro i ys H3 hi ⟨rfl,rfl⟩
    rw[show (0:Int)+(i:Int)=((i:Nat):Int) by omega]
    walk_at "r"
    refine aG ?_
    walk_at "r"
    refine⟨rfl,?_⟩
    rw[ip]
    congr 3
    rw[Ef]
    simp
    omega
   ·rintro ys H3 p9 ⟨hH,rfl⟩ hp9
    subst hH
    have e3:=aZ (o:=.lst (aO m.toNat fun j=>decide (p=j))) hp9
    have hq3:=e3 _ _ hq2
    have h9:(upd H3 p9 (.lst (aO m.toNat fun j=>decide (p=j)))) p9=_:=aH
    have e03:=e2.trans e3
    have hrs3:∀(a:Nat) (r:Addr),rs[a]?=some r->(upd H3 p9 (.lst (aO m.toNat fun j=>decide (p=j)))) r=some (.lst (aO m.toNat fun j=>decide (a=j))):=fun a r h=>e3 _ _ (hrs a r h)
    have n9:H p9=none:=by
     cases z:H p9 with
     | none=>rfl
     | some o=>rw[e2 _ _ z]at hp9;cases hp9
    have nin:p9∉rs:=fun z=>by
     obtain⟨j,hj⟩:=List.getElem?_of_mem z
     rw[hrs j p9 hj]at hp9
     cases hp9
    have nqp:tq≠p9:=fun z=>by rw[z,hp9]at hq2;cases hq2
    generalize upd H3 p9 (.lst (aO m.toNat fun j=>decide (p=j)))=H4 at e3 hq3 h9 e03 hrs3 ⊢
    walk_at "r"
    refine bV hq3 (by rw[Dy];exact Nat.lt_of_le_of_lt (show rs.length<=12 by omega) (by decide)) ?_
    walk_at "r"
    have keep:∀b o,b≠tq->H4 b=some o->upd H4 tq (.lst (List.map V.ref rs++[.ref p9])) b=some o:=fun b o nb e=>by rw[aB nb];exact e
    refine⟨rs++[p9],_,_,cy e03 hfq,?_,fun r hr=>?_,by rw[DP,hln];rfl,?_,fun z=>?_,fun a r ha=>?_,rfl⟩
    ·rw[aH,DO];rfl
    ·rcases DU.mp hr with hr | hr
     ·exact hfr r hr
     ·rw[DI.mp hr];exact n9
    ·rw[List.nodup_append]
     refine⟨hnd,by simp,fun a ha c hc z=>?_⟩
     rw[DI.mp hc]at z
     exact nin (z ▸ ha)
    ·rcases DU.mp z with z | z
     ·exact hnq z
     ·exact nqp (DI.mp z)
    ·by_cases hal:a<rs.length
     ·rw[DW hal]at ha
      exact keep r _ (fun z=>hnq (z ▸ DH ha)) (hrs3 a r ha)
     ·rw[DV (by omega)]at ha
      have hz:a-rs.length=0:=by
       have:=(DG.mp ha).1
       simp at this
       omega
      rw[hz]at ha
      cases ha
      have:a=p:=by omega
      subst this
      exact keep p9 _ (Ne.symm nqp) h9
  ·rintro σ H2 ⟨rs,k1,k2,e2,hq2,hfr,hln,hnd,hnq,hrs,rfl⟩
   have tw:TW H2 H2 tq rs m.toNat (fun i j=>decide (i=j)):=⟨fun _ _ _ e=>e,hln,hnd,hnq,hq2,hrs⟩
   have kt:KT H H2 tq rs m.toNat (fun i j=>decide (i=j)):=⟨e2,hfq,hfr,hln,hnd,hnq,hq2,hrs⟩
   walk_at "r"
   refine⟨.ref hp0,m,ws,_,rfl,hv.ext e2,ok,fun l cs us H3 e3 hl3 hl hau hus=>?_⟩
   have kt3:=kt.more e3
   have nl:l∉rs:=fun z=>by
    obtain⟨j,hj⟩:=List.getElem?_of_mem z
    rw[hrs j l hj]at hl3
    cases hl3
   have hcs:=hau.1
   have tupN:∀(b:Addr) (w:Way),H3 b=some (.tup w.vs)->b∉rs:=fun b w hb z=>by
    obtain⟨j,hj⟩:=List.getElem?_of_mem z
    rw[kt3.rows.2 j b hj]at hb
    cases hb
   refine cI (ag.of hl) ?_
   refine forL (xs:=List.map V.ref cs) (fun i σ H'=>∃M k1 k2,TW H3 H' tq rs m.toNat M/\(∀a b,M a b=true↔(a=b\/∃w∈us.take i,w.room.toNat=a/\w.other.toNat=b))/\σ=[some (.ref hp0),some (.ref tq),k1,k2]) ⟨_,_,_,kt3.tw,fun a b=>by simp,rfl⟩ (fun i σ H' _ h=>by obtain⟨M,k1,k2,t,_⟩:=h;exact ag.of (t.keep _ _ nl hl)) ?_ ?_
   ·rintro i v σ H4 hx ⟨M,k1,k2,tw4,hM,rfl⟩
    rw[DA]at hx
    obtain⟨b,hb,rfl⟩:=DJ.mp hx
    have hi:i<us.length:=by rw[←hcs];exact(DG.mp hb).1
    have gu:us[i]?=some us[i]:=Dz hi
    have hb0:=hau.2 i b _ hb gu
    generalize us[i]=u at gu hb0
    have hum:u∈ws:=by
     have:=DH gu
     rw[hus]at this
     exact(List.mem_filter.mp this).1
    have oku:=ok.ok u hum
    have u0:=oku.r0
    have u1:=oku.r1
    have u2:=oku.o0
    have u3:=oku.o1
    have kb:=tw4.keep _ _ (tupN b u hb0) hb0
    have x2:u.room.toNat<rs.length:=by rw[tw4.len];omega
    have r2:rs[u.room.toNat]?=some rs[u.room.toNat]:=Dz x2
    have w2:=tw4.rows.2 _ _ r2
    generalize rs[u.room.toNat]=a2 at r2 w2
    have at2:bt (rs.map V.ref) u.room=some (.ref a2):=dI u0 (by rw[DA,r2];rfl)
    walk_at "r"
    refine az (ah.of kb) (v:=.int u.room) rfl ?_
    walk_at "r"
    refine aK (ag.of tw4.rows.1) at2 ?_
    walk_at "r"
    refine az (ah.of kb) (v:=.int u.other) rfl ?_
    walk_at "r"
    refine iq w2 (iW u2 (by rw[cD];omega)) ?_
    refine⟨_,_,_,tw4.mark r2 (by omega),fun a c=>?_,rfl⟩
    rw[List.take_add_one,gu]
    unfold put2
    split
    ·rename_i z
     simp only[true_iff]
     exact .inr ⟨u,List.mem_append_right _ (by simp),z.1.symm,z.2.symm⟩
    ·rename_i z
     rw[hM]
     constructor
     ·rintro(h | ⟨w,hw,h⟩)
      ·exact .inl h
      ·exact .inr ⟨w,List.mem_append_left _ hw,h⟩
     ·rintro(h | ⟨w,hw,h1,h2⟩)
      ·exact .inl h
      ·rcases DU.mp hw with hw | hw
       ·exact .inr ⟨w,hw,h1,h2⟩
       ·have:w=u:=by simpa using hw
        subst this
        exact absurd ⟨h1.symm,h2.symm⟩ z
   ·rintro σ H4 ⟨M,k1,k2,tw4,hM,rfl⟩
    rw[Dy,hcs,DZ]at hM
    walk_at "r"
    refine q tq rs M H4 (kt3.byW tw4) fun a b=>?_
    rw[hM,hus]
    constructor
    ·rintro(h | ⟨w,hw,h⟩)
     ·exact .inl h
     ·obtain⟨h1,h2⟩:=List.mem_filter.mp hw
      exact .inr ⟨w,h1,of_decide_eq_true h2,h⟩
    ·rintro(h | ⟨w,hw,hd,h⟩)
     ·exact .inl h
     ·exact .inr ⟨w,List.mem_filter.mpr ⟨hw,decide_eq_true hd⟩,h⟩
structure UD(H:Hp)(tq:Addr)(rs:List Addr)(lu ld:Addr)(cu cd:List Addr)(us ds:List Way):Prop where
 u:H lu=some (.lst (List.map V.ref cu))
 au:aN H cu us
 d:H ld=some (.lst (List.map V.ref cd))
 ad:aN H cd ds
 nu:lu∉rs
 nd:ld∉rs
 qu:lu≠tq
 qd:ld≠tq
theorem aN.byW{H H':Hp}{q:Addr}{rs:List Addr}{n:Nat}{M M':Nat->Nat->Bool}(r:Rows H q rs n M)(t:TW H H' q rs n M'){bs:List Addr}{ws:List Way}(h:aN H bs ws):aN H' bs ws:=⟨h.1,fun j b w e1 e2=>by
 have hb:=h.2 j b w e1 e2
 refine t.keep b _ (fun z=>?_) hb
 obtain⟨j,hj⟩:=List.getElem?_of_mem z
 rw[r.2 j b hj]at hb
 cases hb⟩
theorem aN.byB{H H':Hp}{q:Addr}{rs rs':List Addr}{n:Nat}{M M':Nat->Nat->Bool}(r:Rows H q rs n M)(t:TB H H' q rs rs' n M'){bs:List Addr}{ws:List Way}(h:aN H bs ws):aN H' bs ws:=⟨h.1,fun j b w e1 e2=>by
 have hb:=h.2 j b w e1 e2
 refine t.keep b _ (fun z=>?_) hb
 rw[z,r.1]at hb
 cases hb⟩
theorem UD.byW{H H':Hp}{tq:Addr}{rs:List Addr}{lu ld:Addr}{cu cd:List Addr}{us ds:List Way}{n:Nat}{M M':Nat->Nat->Bool}(r:Rows H tq rs n M)(t:TW H H' tq rs n M')(h:UD H tq rs lu ld cu cd us ds):UD H' tq rs lu ld cu cd us ds:=
 ⟨t.keep _ _ h.nu h.u,h.au.byW r t,t.keep _ _ h.nd h.d,h.ad.byW r t,h.nu,h.nd,h.qu,h.qd⟩
theorem UD.byB{H H':Hp}{tq:Addr}{rs rs':List Addr}{lu ld:Addr}{cu cd:List Addr}{us ds:List Way}{n:Nat}{M M':Nat->Nat->Bool}(r:Rows H tq rs n M)(t:TB H H' tq rs rs' n M')(h:UD H tq rs lu ld cu cd us ds):UD H' tq rs' lu ld cu cd us ds:=by
 have no:∀l o,H l=some o->l∉rs->l∉rs':=fun l o hl hn z=>by
  rcases t.old l z with y | y
  ·exact hn y
  ·rw[hl]at y;cases y
 exact⟨t.keep _ _ h.qu h.u,h.au.byB r t,t.keep _ _ h.qd h.d,h.ad.byB r t,no _ _ h.u h.nu,no _ _ h.d h.nd,h.qu,h.qd⟩
def mi(ws:List Way)(n:Nat)(M:Nat->Nat->Bool):Prop:=∀i j,i<n->j<n->(M i j=true↔Kpt ws n i j)
structure KJ(ws:List Way)(n:Nat)(M:Nat->Nat->Bool):Prop where
 beg:∀i j,(i=j\/∃w∈ws,w.deed = "stay"/\w.room.toNat=i/\w.other.toNat=j)->M i j=true
 snd:∀i j,M i j=true->i=j\/Kpt ws n i j
theorem zG{m:Int}{ws:List Way}{M:Nat->Nat->Bool}(ok:∀w∈ws,w.Ok m)(h:KJ ws m.toNat M)(tr:∀i a j,a<m.toNat->M i a=true->M a j=true->M i j=true)(ar:∀u∈ws.filter (fun w=>decide (w.deed=Str.ofString "up")),∀d∈ws.filter (fun w=>decide (w.deed=Str.ofString "down")),M u.other.toNat d.room.toNat=true->M u.room.toNat d.other.toNat=true):mi ws m.toNat M:=by
 intro i j hi hj
 constructor
 ·intro hm
  rcases h.snd i j hm with rfl | h
  ·exact .refl hi
  ·exact h
 ·intro hk
  clear hi hj
  induction hk with
  | refl _=>exact h.beg _ _ (.inl rfl)
  | stay h1 h2=>exact h.beg _ _ (.inr ⟨_,h1,h2,rfl,rfl⟩)
  | trans h1 h2 i1 i2=>exact tr _ _ _ (Kpt.lt ok h1).2 i1 i2
  | arch h1 h2 h3 h4 h5 ih=>exact ar _ (List.mem_filter.mpr ⟨h1,decide_eq_true h2⟩) _ (List.mem_filter.mpr ⟨h3,decide_eq_true h4⟩) ih
theorem KJ.join{m:Int}{ws:List Way}{M M':Nat->Nat->Bool}(h:KJ ws m.toNat M)(j:Joined m.toNat M M'):KJ ws m.toNat M':=by
 refine⟨fun a b hb=>j.le _ _ (h.beg a b hb),fun a b hm=>j.least (fun a b=>a=b\/Kpt ws m.toNat a b) (fun i a j h1 h2=>?_) h.snd a b hm⟩
 rcases h1 with rfl | h1
 ·exact h2
 ·rcases h2 with rfl | h2
  ·exact .inr h1
  ·exact .inr (.trans h1 h2)
theorem KJ.arch{m:Int}{ws:List Way}{M M':Nat->Nat->Bool}{ad:Bool}(ok:∀w∈ws,w.Ok m)(h:KJ ws m.toNat M)(a:ArchR m.toNat (ws.filter fun w=>decide (w.deed=Str.ofString "up")) (ws.filter fun w=>decide (w.deed=Str.ofString "down")) M M' ad):KJ ws m.toNat M':=by
 refine⟨fun i j hb=>a.le _ _ (h.beg i j hb),fun i j hm=>a.least (fun a b=>a=b\/Kpt ws m.toNat a b) (fun u hu d hd hs=>?_) h.snd i j hm⟩
 obtain⟨u1,u2⟩:=List.mem_filter.mp hu
 obtain⟨d1,d2⟩:=List.mem_filter.mp hd
 have u2:=of_decide_eq_true u2
 have d2:=of_decide_eq_true d2
 right
 refine .arch u1 u2 d1 d2 ?_
 rcases hs with hs | hs
 ·rw[hs]
  exact .refl (gD ok d1).1
 ·exact hs
def lW(K:Du):Sp:=fun vs H Q _=>∃vh m ws,vs=[vh]/\bz H vh m ws/\HOuse m ws/\∀q rs M H',KT H H' q rs m.toNat M->mi ws m.toNat M->Q (.ref q) H'
abbrev oB:Stmt:=stq 43
theorem vU:FnScope ["house","table","ups","downs"] ["house"] (aI oB):=⟨rfl,rfl,rfl,by decide +kernel,rfl,by decide +kernel,by decide +kernel⟩
theorem CC{P:Program}{w:World}{K:Du}{mg:Str->Option Value}{base:Heap}(D:Dfn K mg "kept_table" oB ["house"])(T:Blt mg)(C_add_arches:Cal P w K mg base "add_arches" 1 ["table","ups","downs"] (pG K))(C_join_walks:Cal P w K mg base "join_walks" 1 ["table"] (sF K))(C_ways_of_deed:Cal P w K mg base "ways_of_deed" 1 ["house","deed"] (jI K))(C_beginning_table:Cal P w K mg base "beginning_table" 2 ["house"] (vt K)):Cal P w K mg base "kept_table" 3 ["house"] (lW K):=by
 have nd:=(vU).nd
 refine D.ok vU (fun vs H Q E h=>?_) (fun X hX H vs Q E h=>?_)
 ·obtain⟨vh,m,ws,rfl,_⟩:=h;rfl
 ·obtain⟨f,cdv,A,outer,s,H0,E0,rfl,hr⟩:=hX
  obtain⟨vh,m,ws,rfl,hv,ok,q⟩:=h
  have m1:=ok.m1
  have m12:=ok.m12
  refine⟨_,(aj (aF (i:=1) nd rfl (Or.inl rfl) (aC C_beginning_table hr (aa (pv 0) af)))
    (aj (aF (i:=2) nd rfl (Or.inl rfl) (aC C_ways_of_deed hr (aa (pv 0) (aa aS af))))
    (aj (aF (i:=3) nd rfl (Or.inl rfl) (aC C_ways_of_deed hr (aa (pv 0) (aa aS af))))
    (aj (bA (aC C_join_walks hr (aa (pv 1) af)))
    (aj (f7 PassesOwn.never (bo (aC C_add_arches hr (aa (pv 1) (aa (pv 2) (aa (pv 3) af))))) (ao (bA (aC C_join_walks hr (aa (pv 1) af)))))
    (ao (aE (pv 1)))))))),?_⟩
  walk_at "r"
  refine⟨vh,m,ws,rfl,hv,ok,fun tq rs M H1 kt bg=>?_⟩
  walk_at "r"
  refine⟨vh,m,ws,_,rfl,hv.ext kt.ext,ok,fun lu cu us H2 e2 hlu hlu2 hau hus=>?_⟩
  walk_at "r"
  refine⟨vh,m,ws,_,rfl,hv.ext (kt.ext.trans e2),ok,fun ld cd ds H3 e3 hld hld2 had hds=>?_⟩
  have kt3:=kt.more (e2.trans e3)
  have kj:KJ ws m.toNat M:=⟨fun i j h=>(bg i j).mpr h,fun i j h=>by
   rcases(bg i j).mp h with h | ⟨w,hw,hd,rfl,rfl⟩
   ·exact .inl h
   ·exact .inr (.stay hw hd)⟩
  have nin:∀l,H1 l=none->l∉rs/\l≠tq:=fun l hl=>by
   refine⟨fun z=>?_,fun z=>?_⟩
   ·obtain⟨j,hj⟩:=List.getElem?_of_mem z
    rw[kt.rows.2 j l hj]at hl
    cases hl
   ·rw[z,kt.rows.1]at hl
    cases hl
  have hld1:H1 ld=none:=by
   cases z:H1 ld with
   | none=>rfl
   | some o=>rw[e2 _ _ z]at hld;cases hld
  have ud:UD H3 tq rs lu ld cu cd us ds:=⟨e3 _ _ hlu2,hau.ext e3,hld2,had,(nin lu hlu).1,(nin ld hld1).1,(nin lu hlu).2,(nin ld hld1).2⟩
  have hin:∀w∈us++ds,0<=w.room/\w.room<(m.toNat:Int)/\0<=w.other/\w.other<(m.toNat:Int):=fun w hw=>by
   have hw':w∈ws:=by
    rcases DU.mp hw with h | h
    ·rw[hus]at h;exact(List.mem_filter.mp h).1
    ·rw[hds]at h;exact(List.mem_filter.mp h).1
   have h:=ok.ok w hw'
   have h1:=h.r0
   have h2:=h.r1
   have h3:=h.o0
   have h4:=h.o1
   omega
  clear hlu2 hau hld2 had nin hld1
  walk_at "r"
  refine⟨tq,rs,m.toNat,M,rfl,kt3.tb,by omega,fun rs1 M1 H4 tb jd=>?_⟩
  have kt4:=kt3.byB tb
  have ud4:=ud.byB kt3.rows tb
  have kj4:=kj.join jd
  walk_at "r"
  refine gQ (fun mm σ H'=>∃rs M,KT H H' tq rs m.toNat M/\UD H' tq rs lu ld cu cd us ds/\KJ ws m.toNat M/\(∀i a j,a<m.toNat->M i a=true->M a j=true->M i j=true)/\mm=gX m.toNat M/\σ=[some vh,some (.ref tq),some (.ref lu),some (.ref ld)]) (fun σ H'=>∃rs M,KT H H' tq rs m.toNat M/\mi ws m.toNat M/\σ=[some vh,some (.ref tq),some (.ref lu),some (.ref ld)]) (gX m.toNat M1) ⟨rs1,M1,kt4,ud4,kj4,jd.tr,rfl,rfl⟩ ?_ ?_
  ·rintro mm σ H5 ⟨rs5,M5,kt5,ud5,kj5,tr5,rfl,rfl⟩
   walk_at "r"
   refine⟨tq,rs5,m.toNat,M5,lu,cu,us,ld,cd,ds,rfl,kt5.tw,ud5.u,ud5.au,ud5.d,ud5.ad,ud5.nu,ud5.nd,hin,fun M6 ad H6 tw ar cl=>?_⟩
   have kt6:=kt5.byW tw
   have ud6:=ud5.byW kt5.rows tw
   rw[hus,hds]at ar
   have kj6:=kj5.arch ok.ok ar
   walk_at "r"
   cases ad with
   | false=>
    refine aA ⟨rs5,M6,kt6,zG ok.ok kj6 (fun i a j ha h1 h2=>?_) (fun u hu d hd hm=>?_),rfl⟩
    ·rw[ar.same rfl]at h1 h2 ⊢
     exact tr5 i a j ha h1 h2
    ·rw[ar.same rfl]at hm ⊢
     exact cl rfl u (by rw[hus];exact hu) d (by rw[hds];exact hd) hm
   | true=>
    refine aG ⟨fun σ' H'=>∃rs M,KT H H' tq rs m.toNat M/\UD H' tq rs lu ld cu cd us ds/\KJ ws m.toNat M/\(∀i a j,a<m.toNat->M i a=true->M a j=true->M i j=true)/\gX m.toNat M<gX m.toNat M5/\σ'=[some vh,some (.ref tq),some (.ref lu),some (.ref ld)],fun σ' H' ⟨rs,M,a1,a2,a3,a4,a5,a6⟩=>⟨_,a5,rs,M,a1,a2,a3,a4,rfl,a6⟩,?_⟩
    walk_at "r"
    refine⟨tq,rs5,m.toNat,M6,rfl,kt6.tb,by omega,fun rs7 M7 H7 tb7 jd7=>?_⟩
    walk_at "r"
    obtain⟨i,j,hi,hj,hf,ht⟩:=ar.more rfl
    exact⟨rs7,M7,kt6.byB tb7,ud6.byB kt6.rows tb7,kj6.join jd7,jd7.tr,zH hi hj (fun a b h=>jd7.le _ _ (ar.le _ _ h)) hf (jd7.le _ _ ht),rfl⟩
  ·rintro σ H5 ⟨rs5,M5,kt5,hk5,rfl⟩
   walk_at "r"
   exact q tq rs5 M5 H5 kt5 hk5
theorem kX{sp:Sp}{js:List Nat}{cells:List (Str×Addr)}{N:List Str}{ta:TA}{σ:St}{H:Hp}{Q:VK} (h:ta σ H fun vs H1=>(∀j∈js,∃v,σ[j]?=some (some v)) ∧
 ∀cp:List Cap,cp.length=js.length->(∀(i j:Nat) (e:Cap),js[i]?=some j->cp[i]?=some e->N[j]?=some e.n/\cells.lookup e.n=some e.c/\σ[j]?=some (some e.v)/\H1 e.c=none/\∃u,e.o.data=.cell (some u)/\RelV e.v u) →
  sp vs (bF (cellsOf cp) H1) (fun v H'=>(∀b o,(cellsOf cp).lookup b=some o->H' b=some (cL b o))/\Q v (aY (cellsOf cp) H')) E0):iE sp js cells N ta σ H Q:=h
theorem rh{P:Program}{w:World}{K:Du}{mg:Str->Option Value}{base:Heap}{k:Nat}{tf:TE}{ta:TA}{σ:St}{H:Hp}{Q:VK}(h:tf σ H fun fv H1=>∃f pre R,fv=.ref f/\FunR P w K mg base k f pre R/\pre H1/\ta σ H1 fun vs H2=>pre H2/\R vs H2 Q):s9 P w K mg base k tf ta σ H Q:=h
theorem jS{cs:List (Addr×Obj)}{H:Hp}(hn:∀b o,cs.lookup b=some o->H b=none):Ext H (bF cs H):=fun b o e=>mO hn e
theorem fh{cs:List (Addr×Obj)}{H:Hp}(hc:∀b o,cs.lookup b=some o->H b=some (cL b o)){b:Addr}{x:HO}(hb:H b=some x)(nx:∀f,x≠.ext f):aY cs H b=some x:=by
 cases q:cs.lookup b with
 | none=>rw[cq q];exact hb
 | some o=>rw[hc b o q]at hb;cases hb;exact absurd rfl (nx _)
theorem Cd{cs:List (Addr×Obj)}{H:Hp}(hc:∀b o,cs.lookup b=some o->H b=some (cL b o)):Ext H (bF cs (aY cs H)):=fun b x e=>by
 cases q:cs.lookup b with
 | none=>rw[cH q,cq q];exact e
 | some o=>rw[dO q,←hc b o q];exact e
theorem A5{cs:List (Addr×Obj)}{H H':Hp}(hn:∀b o,cs.lookup b=some o->H b=none)(e:Ext (bF cs H) H'):Ext H (aY cs H'):=fun b x hb=>by
 cases q:cs.lookup b with
 | none=>rw[cq q];exact e b x (by rw[cH q];exact hb)
 | some o=>rw[hn b o q]at hb;cases hb
def cM(n:Nat)(g:Nat->Nat->Bool):Nat->List Bfs.Pl
 | 0=>[]
 | p+1=>cM n g p++((List.range n).filter (g p)).map fun q:Nat=>(((p:Nat):Int),((q:Nat):Int))
theorem gR{n:Nat}{g:Nat->Nat->Bool}{x:Bfs.Pl}:∀{k:Nat},x∈cM n g k↔∃p q:Nat,p<k/\q<n/\g p q=true/\x=(((p:Nat):Int),((q:Nat):Int))
 | 0=>⟨fun h=>(nomatch h),fun⟨p,_,h,_⟩=>absurd h (Nat.not_lt_zero _)⟩
 | k+1=>by
  show x∈cM n g k++_↔_
  rw[DU,gR (k:=k)]
  constructor
  ·rintro(⟨p,q,h1,h2⟩ | h)
   ·exact⟨p,q,by omega,h2⟩
   ·obtain⟨q,hq,rfl⟩:=List.mem_map.mp h
    obtain⟨h1,h2⟩:=List.mem_filter.mp hq
    exact⟨k,q,by omega,List.mem_range.mp h1,h2,rfl⟩
  ·rintro⟨p,q,h1,h2,h3,rfl⟩
   by_cases hp:p<k
   ·exact .inl ⟨p,q,hp,h2,h3,rfl⟩
   ·have:p=k:=by omega
    subst this
    exact .inr (List.mem_map.mpr ⟨q,List.mem_filter.mpr ⟨List.mem_range.mpr h2,h3⟩,rfl⟩)
theorem oW(n:Nat)(g:Nat->Bool):((List.range n).filter g).length<=n:=Eb (List.length_filter_le _ _) (by rw[List.length_range];exact DR _)
theorem kM{n:Nat}{g:Nat->Nat->Bool}:∀k:Nat,(cM n g k).length<=k*n
 | 0=>by simp[cM]
 | k+1=>by
  show(cM n g k++_).length<=_
  rw[DP,Dy,Nat.succ_mul]
  have:=kM (n:=n) (g:=g) k
  have:=oW n (g k)
  omega
theorem bR{H H':Hp}(f:∀a x,aD H a x->aD H' a x){as:List Addr}{xs:List Bfs.Pl}(h:Paired (aD H) as xs):Paired (aD H') as xs:=by
 induction h with
 | nil=>exact .nil
 | cons h t ih=>exact .cons (f _ _ h) ih
theorem i8{H:Hp}{as:List Addr}{xs:List Bfs.Pl}{a:Addr}{x:Bfs.Pl}(h:Paired (aD H) as xs)(ht:aD H a x):Paired (aD H) (as++[a]) (xs++[x]):=by
 induction h with
 | nil=>exact .cons ht .nil
 | cons h _ ih=>exact .cons h ih
theorem uT{H:Hp}{as bs:List Addr}{xs ys:List Bfs.Pl}(h:Paired (aD H) as xs)(h':Paired (aD H) bs ys):Paired (aD H) (as++bs) (xs++ys):=by
 induction h with
 | nil=>exact h'
 | cons h _ ih=>exact .cons h ih
theorem di{H:Hp}{as:List Addr}{xs:List Bfs.Pl}(h:Paired (aD H) as xs):as.length=xs.length:=by
 induction h with
 | nil=>rfl
 | cons _ _ ih=>rw[DY,DY,ih]
def mQ(P:Program)(w:World)(K:Du)(mg:Str->Option Value)(base:Heap):Sp:=fun vs H Q _=>∃vh m ws f pre g,vs=[vh,.ref f]/\bz H vh m ws/\HOuse m ws/\FunR P w K mg base 1 f pre (fun vs H Q=>∃p q:Nat,vs=[.int (p:Nat),.int (q:Nat)]/\(p:Int)<m/\(q:Int)<m/\∀H',Ext H H'->Q (.bl (g p q)) H')/\pre H/\(∀H H',Ext H H'->pre H->pre H') ∧
 ∀l ps H',Ext H H'->H l=none->H' l=some (.lst (List.map V.ref ps))->Paired (aD H') ps (cM m.toNat g m.toNat)->Q (.ref l) H'
abbrev oU:Stmt:=stq 39
theorem rE:FnScope ["house","choice","pairs","p"] ["house","choice"] (aI oU):=⟨rfl,rfl,rfl,by decide +kernel,rfl,by decide +kernel,by decide +kernel⟩
theorem yN{P:Program}{w:World}{K:Du}{mg:Str->Option Value}{base:Heap}(D:Dfn K mg "told_pairs" oU ["house","choice"])(T:Blt mg):Cal P w K mg base "told_pairs" 2 ["house","choice"] (mQ P w K mg base):=by
 have nd:=(rE).nd
 refine D.ok rE (fun vs H Q E h=>?_) (fun X hX H vs Q E h=>?_)
 ·obtain⟨vh,m,ws,f,pre,g,rfl,_⟩:=h;rfl
 ·obtain⟨f,cdv,A,outer,s,H0,E0,rfl,hr⟩:=hX
  obtain⟨vh,m,ws,ff,pre,g,rfl,hv,ok,hF,hpre,hmono,q⟩:=h
  have m1:=ok.m1
  have m12:=ok.m12
  obtain⟨hp0,hq0,rfl,hh,_⟩:=id hv
  refine⟨_,(@aj _ _ _ _ _ (@aF _ _ 2 _ _ _ _ nd rfl (Or.inl rfl) (@bE _ _ _ _ af) rfl (Or.inl rfl))
    (@aj _ _ _ _ _ (bJ PassesOwn.never rfl (bQ rfl T.range_ (@aa _ _ _ _ _ (@ai _ _ _ _ _ _ _ (ay K) (pv 0) ae (fun _ _=>rfl)) af rfl)) (aM (i:=3) nd rfl (Or.inr rfl)) (@ao _ _ _ (bA (bN K DF PySem.F.slot_list_extend PySem.F.type_list_extend xn (pv 2) (@aa _ _ _ _ _ (cE ["q"] [3,1] (bQ rfl T.range_ (@aa _ _ _ _ _ (@ai _ _ _ _ _ _ _ (ay K) (pv 0) ae (fun _ _=>rfl)) af rfl)) (fun _=>(aM (i:=0) (show(["q","p","choice"]:List Str).Nodup from by decide +kernel) rfl (Or.inl rfl) (Or.inr rfl))) (fun _=>(dG (bo (pA (P:=P) (w:=w) (K:=K) (mg:=mg) (base:=base) hr (pv 2) (@aa _ _ _ _ _ (pv 1) (@aa _ _ _ _ _ (pv 0) af rfl) rfl))))) (fun _=>(@bI _ _ _ _ _ (@aa _ _ _ _ _ (pv 1) (@aa _ _ _ _ _ (pv 0) af rfl) rfl)))) af rfl)))))
    (@ao _ _ _ (@aE _ _ _ _ (pv 2))))),?_⟩
  walk_at "r"
  refine aP fun l H1 e1 hl hfl=>?_
  walk_at "r"
  refine az (ah.of (e1 _ _ hh)) (v:=.int m) rfl ?_
  walk_at "r"
  refine bS (by omega) ?_
  refine forR (fun p σ H'=>∃ps k1,Ext H H'/\H' l=some (.lst (List.map V.ref ps))/\Paired (aD H') ps (cM m.toNat g p)/\σ=[some (.ref hp0),some (.ref ff),some (.ref l),k1]) ⟨[],_,e1,hl,.nil,rfl⟩ ?_ ?_
  ·rintro p σ H2 hp ⟨ps,k1,e2,hl2,hps,rfl⟩
   rw[show (0:Int)+(p:Int)=((p:Nat):Int) by omega]
   have hpl:=di hps
   have hpn:=kM (n:=m.toNat) (g:=g) p
   have hpm:p*m.toNat<=12*12:=Nat.mul_le_mul (by omega) (by omega)
   walk_at "r"
   refine⟨df (ag.of hl2),?_⟩
   walk_at "r"
   refine az (ah.of (e2 _ _ hh)) (v:=.int m) rfl ?_
   walk_at "r"
   refine bS (by omega) ?_
   refine dC (fun i ys H'=>Ext H2 H'/\∃cs,ys=List.map V.ref cs/\Paired (aD H') cs (((List.range i).filter (g p)).map fun q:Nat=>(((p:Nat):Int),((q:Nat):Int)))) (bw (by omega)) ⟨Ext.rfl' _,[],rfl,.nil⟩ ?_ ?_ ?_
   ·rintro i ys H' _ ⟨_,cs,rfl,hcs⟩
    rw[Dy,di hcs,Dy]
    exact oW i (g p)
   ·rintro i ys H3 hi ⟨e3,cs,rfl,hcs⟩
    rw[show (0:Int)+(i:Int)=((i:Nat):Int) by omega]
    have e23:=e2.trans e3
    walk_at "r"
    refine rh ?_
    walk_at "r"
    refine⟨ff,pre,_,rfl,hF,hmono _ _ e23 hpre,?_⟩
    walk_at "r"
    refine⟨hmono _ _ e23 hpre,p,i,rfl,by omega,by omega,fun H4 e4=>?_⟩
    have e24:=e3.trans e4
    cases hg:g p i with
    | false=>
     refine rd_exb (aA ⟨e24,cs,rfl,?_⟩)
     rw[List.range_succ,List.filter_append]
     have:List.filter (g p) [i]=[]:=by
      rw[List.filter_cons,if_neg (by rw[hg];exact DN)]
      rfl
     rw[this,List.append_nil]
     exact bR (fun a x h=>e4 _ _ h) hcs
    | true=>
     refine rd_exb (aG ?_)
     walk_at "r"
     refine aP fun t H5 e5 ht _=>?_
     refine⟨e24.trans e5,cs++[t],?_,?_⟩
     ·rw[DO];rfl
     ·rw[List.range_succ,List.filter_append,DO]
      have:List.filter (g p) [i]=[i]:=by
       rw[List.filter_cons,if_pos hg]
       rfl
      rw[this]
      exact i8 (bR (fun a x h=>(e4.trans e5) _ _ h) hcs) ht
   ·rintro ys H3 p9 ⟨e3,cs,rfl,hcs⟩ hp9
    have e4:=aZ (o:=.lst (List.map V.ref cs)) hp9
    have h9:(upd H3 p9 (.lst (List.map V.ref cs))) p9=_:=aH
    have hcs4:=bR (fun a x h=>e4 _ _ h) hcs
    have e24:=e3.trans e4
    have hl4:=e24 _ _ hl2
    have hps4:=bR (fun a x h=>e24 _ _ h) hps
    generalize upd H3 p9 (.lst (List.map V.ref cs))=H4 at e4 h9 hcs4 e24 hl4 hps4 ⊢
    have hcl:=di hcs
    rw[Dy]at hcl
    have hfl2:=oW m.toNat (g p)
    walk_at "r"
    refine⟨l,p9,_,_,rfl,rfl,hl4,h9,bw (by rw[Dy,Dy];omega),?_⟩
    walk_at "r"
    refine⟨ps++cs,_,cy (e2.trans e24) hfl,?_,?_,rfl⟩
    ·rw[aH,DO]
    ·exact uT (bR (fun a x h=>aD.put hl4 (fun xs z=>by cases z) h) hps4) (bR (fun a x h=>aD.put hl4 (fun xs z=>by cases z) h) hcs4)
  ·rintro σ H2 ⟨ps,k1,e2,hl2,hps,rfl⟩
   walk_at "r"
   exact q l ps H2 e2 hfl hl2 hps
def eM(K:Du):Prop:=∀x∈(["kept","low_levels","risen"]:List Str),∀y∈(["kept","low_levels","risen"]:List Str),x≠y->∀c T c' T',PySem.W.tabIn K x=some (c,T)->PySem.W.tabIn K y=some (c',T')->T'≠T
def CO(K:Du):Bool:=(["kept","low_levels","risen"]:List Str).all fun x=>(["kept","low_levels","risen"]:List Str).all fun y=>x == y || (match PySem.W.tabIn K x,PySem.W.tabIn K y with | some a,some b=>b.2 != a.2 | _,_=>true)
theorem Cf{K:Du}(h:CO K=true):eM K:=fun x hx y hy hn c T c' T' e1 e2=>by
 have h1:=Ed.mp (Ed.mp h x hx) y hy
 rw[e1,e2,Bool.or_eq_true]at h1
 rcases h1 with h1 | h1
 ·exact absurd (eq_of_beq h1) hn
 ·exact bne_iff_ne.mp h1
structure Tbs(K:Du)(H:Hp):Prop where
 kept:dj K "kept" ("kept" ++ ".<locals>." ++ "<lambda>") 153 29 H
 low:dj K "low_levels" ("low_levels" ++ ".<locals>." ++ "<lambda>") 187 39 H
 risen:dj K "risen" ("risen" ++ ".<locals>." ++ "<lambda>") 158 29 H
theorem Tbs.ext{K:Du}{H H':Hp}(e:Ext H H')(h:Tbs K H):Tbs K H':=⟨h.kept.ext e,h.low.ext e,h.risen.ext e⟩
theorem bZ.et{H H':Hp}{p:Addr}{kk:List (List Key)}(e:Et H H')(h:bZ H p kk):bZ H' p kk:=by
 obtain⟨bs,h1,h2,h3⟩:=h
 exact⟨bs,e _ _ h1 (fun ps z=>by cases z),h2,fun j b k e1 e2=>e _ _ (h3 j b k e1 e2) (fun ps z=>by cases z)⟩
theorem bz.et{H H':Hp}{v:V}{m:Int}{ws:List Way}(e:Et H H')(h:bz H v m ws):bz H' v m ws:=by
 obtain⟨p,q,rfl,h1,h2⟩:=h
 exact⟨p,q,rfl,e _ _ h1 (fun ps z=>by cases z),h2.et e⟩
theorem Rows.et{H H':Hp}(e:Et H H'){q:Addr}{rs:List Addr}{n:Nat}{M:Nat->Nat->Bool}(h:Rows H q rs n M):Rows H' q rs n M:=⟨e _ _ h.1 (fun ps z=>by cases z),fun i r hi=>e _ _ (h.2 i r hi) (fun ps z=>by cases z)⟩
theorem aN.et{H H':Hp}{bs:List Addr}{ws:List Way}(e:Et H H')(h:aN H bs ws):aN H' bs ws:=⟨h.1,fun j b w e1 e2=>e _ _ (h.2 j b w e1 e2) (fun ps z=>by cases z)⟩
theorem aD.et{H H':Hp}(e:Et H H'){p:Addr}{x:Bfs.Pl}(h:aD H p x):aD H' p x:=e _ _ h (fun ps z=>by cases z)
def dS(H:Hp)(l:Addr)(n:Nat)(R:Nat->Nat->Prop):Prop:=∃ps g,H l=some (.lst (List.map V.ref ps))/\Paired (aD H) ps (cM n g n)/\∀i j,i<n->j<n->(g i j=true↔R i j)
theorem dS.et{H H':Hp}(e:Et H H'){l:Addr}{n:Nat}{R:Nat->Nat->Prop}(h:dS H l n R):dS H' l n R:=by
 obtain⟨ps,g,h1,h2,h3⟩:=h
 exact⟨ps,g,e _ _ h1 (fun ps z=>by cases z),bR (fun a x h=>h.et e) h2,h3⟩
theorem held{cs:List (Addr×Obj)}{H3 H4:Hp}(hn:∀b o,cs.lookup b=some o->H3 b=none)(e4:Ext (bF cs H3) H4):(∀b o,cs.lookup b=some o->H4 b=some (cL b o))/\Ext H3 (aY cs H4)/\(∀l,bF cs H3 l=none->aY cs H4 l=H4 l)/\∀b x,H4 b=some x->(∀f,x≠.ext f)->aY cs H4 b=some x:=by
 have hc:∀b o,cs.lookup b=some o->H4 b=some (cL b o):=fun b o q=>e4 _ _ (dO q)
 refine⟨hc,A5 hn e4,fun l hl=>?_,fun b x hb nx=>fh hc hb nx⟩
 cases q:cs.lookup l with
 | none=>exact cq q
 | some o=>rw[dO q]at hl;cases hl
theorem nh{α:Type}{cp:List α}(h:cp.length=1):∃e,cp=[e]:=by
 cases cp with
 | nil=>exact absurd h (by simp)
 | cons e r=>
  cases r with
  | nil=>exact⟨e,rfl⟩
  | cons _ _=>exact absurd h (by simp)
theorem ko{α:Type}{cp:List α}(h:cp.length=2):∃e e',cp=[e,e']:=by
 cases cp with
 | nil=>exact absurd h (by simp)
 | cons e r=>
  obtain⟨e',rfl⟩:=nh (cp:=r) (by simpa using h)
  exact⟨e,e',rfl⟩
theorem Dd{α:Type}{cp:List α}(h:cp.length=3):∃e e' e'',cp=[e,e',e'']:=by
 cases cp with
 | nil=>exact absurd h (by simp)
 | cons e r=>
  obtain⟨e',e'',rfl⟩:=ko (cp:=r) (by simpa using h)
  exact⟨e,e',e'',rfl⟩
theorem n5{P:Program}{w:World}{K:Du}{mg:Str->Option Value}{base:Heap}{k:Nat}{f c:Addr}{q:Str}{params:Arguments}{body:Expr}{scope:Scope}{cl cells:List (Str×Addr)}{H0:Hp}(hf:H0 f=some (eh f c q params body scope cl))(C:ClOk scope cells cl)(ps:List Str)(cp:List Cap)(R:List V->Hp->VK->Prop)(I:Hp->Prop)
  (S:LamSc ps scope) (bind:∀(pm cv ctv:Value) (us:List Value),us.length=ps.length->bindArgs (PySem.W.kla_fn "<lambda>" q params body scope cl pm cv ctv) ⟨us,[]⟩=pure (ps.zip us))
  (hR:∀vs H Q,R vs H Q->vs.length=ps.length)
  (hbody:∀(A:Around) (outer:List Env) (s:Shared) (H:Hp) (vs:List V) (Q:VK),Room k (A.deeper (dZ q scope s.heap.objs.size f (.ref c) cl))->fQ f c q params body scope cl cp H->I H->R vs H Q →
   ∃te,PE (iF P w K mg base (ps++cp.map (·.n)) q scope f (.ref c) cl A outer s (aY (cellsOf cp) H)) body te/\te (vs.map some++cp.map fun e=>some e.v) (aY (cellsOf cp) H) fun v H'=>(∀b o,(cellsOf cp).lookup b=some o->H' b=none)->Q v (bF (cellsOf cp) H')) :
  FunR P w K mg base (k+1) f (fun H=>fQ f c q params body scope cl cp H/\I H) R:=CG I S C bind hR hbody
def oa(K:Du):Sp:=fun vs H Q _=>∃vh m ws,vs=[vh]/\bz H vh m ws/\HOuse m ws/\eM K/\Tbs K H/\∀l H',Et H H'->Tbs K H'->dS H' l m.toNat (Kpt ws m.toNat)->Q (.ref l) H'
abbrev oO:Stmt:=stq 44
theorem vY:FnScope ["house","table"] ["house"] (aI oO):=⟨rfl,rfl,rfl,by decide +kernel,rfl,by decide +kernel,by decide +kernel⟩
theorem yi{P:Program}{w:World}{K:Du}{mg:Str->Option Value}{base:Heap}(D:Dfn K mg "kept" oO ["house"])(T:Blt mg){c9 T9:Addr}(B:Tab K mg base "kept" c9 T9)(C_told_pairs:Cal P w K mg base "told_pairs" 2 ["house","choice"] (mQ P w K mg base))(C_kept_table:Cal P w K mg base "kept_table" 3 ["house"] (lW K))(C_refuse_no_house:Cal P w K mg base "refuse_no_house" 6 ["thing"] (jq K)):Cal P w K mg base "kept" 7 ["house"] (oa K):=by
 have nd:=(vY).nd
 refine D.okL B vY (fun vs H Q E h=>?_) (fun X hX H vs Q E h=>?_)
 ·obtain⟨vh,m,ws,rfl,_⟩:=h;rfl
 ·obtain⟨f,A,outer,s,H0,E0,rfl,hr⟩:=hX
  obtain⟨vh,m,ws,rfl,hv,ok,dis,htb,q⟩:=h
  have m1:=ok.m1
  have m12:=ok.m12
  refine⟨_,(aj (bA (aC C_refuse_no_house hr (aa (pv 0) af)))
    (aj (aF (i:=1) nd rfl (Or.inr rfl) (aC C_kept_table hr (aa (pv 0) af)))
    (ao (aE (oD [1] C_told_pairs hr (aa (pv 0) (aa (m9 rfl rfl B.hd B.blt B.gl (by decide +kernel) rfl rfl rfl) af))))))),?_⟩
  walk_at "r"
  refine⟨vh,m,ws,rfl,hv,ok,fun H1 e1=>?_⟩
  walk_at "r"
  refine⟨vh,m,ws,rfl,hv.ext e1,ok,fun tq rs M H2 kt km=>?_⟩
  have e02:=e1.trans kt.ext
  have hrows:=kt.rows
  have hrl:=kt.len
  walk_at "r"
  show iE _ [1] _ (["house","table"]:List Str) _ _ _ _
  generalize PySem.Env.cells _=cells0
  refine kX ?_
  walk_at "r"
  refine lD ?_
  refine ma (x:="kept") (htb.ext e02).kept B.tin fun fl c' cl H3 hcl e3 ht3 ot hf hc'=>?_
  have t3:Tbs K H3:=⟨ht3,ot "low_levels" _ _ _ (fun c2 T2 e2=>dis "kept" (by simp) "low_levels" (by simp) (by decide +kernel) _ _ _ _ B.tin e2) (htb.ext e02).low,ot "risen" _ _ _ (fun c2 T2 e2=>dis "kept" (by simp) "risen" (by simp) (by decide +kernel) _ _ _ _ B.tin e2) (htb.ext e02).risen⟩
  walk_at "r"
  refine⟨fun j hj=>?_,fun cp hlen hcp=>?_⟩
  ·rw[DI.mp hj]
   exact⟨_,rfl⟩
  obtain⟨⟨n,c,o,v⟩,rfl⟩:=nh hlen
  obtain⟨hN,hcc,hσ,hnone,u,hdat,hrel⟩:=hcp 0 1 _ rfl rfl
  clear hcp hlen
  dsimp only at hN hcc hσ hnone hdat hrel
  have hN':(Str.ofString "table")=n:=Option.some.inj hN
  have hσ':(V.ref tq)=v:=Option.some.inj (Option.some.inj hσ)
  clear hN hσ
  subst hN'
  subst hσ'
  have hn3:∀b o',(cellsOf [⟨Str.ofString "table",c,o,V.ref tq⟩]).lookup b=some o'->H3 b=none:=fun b o' hb=>by
   obtain⟨e,he,rfl,rfl⟩:=fo hb
   rw[DI.mp he]
   exact hnone
  have ex:=jS hn3
  have hrows3:=(hrows.et e3).ext ex
  have hv3:=((hv.ext e02).et e3).ext ex
  have hcaps:Caps (bF (cellsOf [⟨Str.ofString "table",c,o,V.ref tq⟩]) H3) cl [⟨Str.ofString "table",c,o,V.ref tq⟩]:=by
   obtain⟨c2,hc2⟩:=hcl.has (Str.ofString "table") rfl
   have hc3:=(hcl.fr _ _ hc2).2
   rw[hcc]at hc3
   cases hc3
   refine⟨fun e he=>?_,fun x d hx=>?_⟩
   ·rw[DI.mp he]
    exact⟨hc2,dO (by simp[cellsOf]),u,hdat,hrel⟩
   ·have hm:=gE (hcl.fr x d hx).1
    simp at hm
    subst hm
    rw[hc2]at hx
    cases hx
    exact⟨_,DI.mpr rfl,rfl,rfl⟩
  have hF:=n5 (P:=P) (w:=w) (K:=K) (mg:=mg) (base:=base) (k:=0) hf hcl (["p","q"]:List Str) [⟨Str.ofString "table",c,o,V.ref tq⟩] (fun vs H Q=>∃p q:Nat,vs=[.int (p:Nat),.int (q:Nat)]/\(p:Int)<m/\(q:Int)<m/\∀H',Ext H H'->Q (.bl (M p q)) H') (fun H=>Rows H tq rs m.toNat M) ⟨rfl,rfl,rfl,by decide +kernel,by decide +kernel⟩ (fun _ _ _ us hl=>by obtain⟨u1,u2,rfl⟩:=ko hl;rfl) (fun vs H Q h=>by obtain⟨p,q,rfl,_⟩:=h;rfl) (fun A outer s H vs Q hrL hpre hI hR=>by
   obtain⟨p,q,rfl,hp,hq,hQ⟩:=hR
   have hlk:=hpre.2.2.look
   have hI':Rows (aY (cellsOf [⟨Str.ofString "table",c,o,V.ref tq⟩]) H) tq rs m.toNat M:=⟨fh hlk hI.1 (fun f z=>by cases z),fun i r hi=>fh hlk (hI.2 i r hi) (fun f z=>by cases z)⟩
   refine⟨_,(ai (aJ K) (ai (aJ K) (pv 2) (pv 0) (fun _ _=>rfl)) (pv 1) (fun _ _=>rfl)),?_⟩
   have hb:=Cd hlk
   generalize aY (cellsOf [⟨Str.ofString "table",c,o,V.ref tq⟩]) H=HU at hI' hb ⊢
   have hp2:p<rs.length:=by omega
   have gp:rs[p]?=some rs[p]:=Dz hp2
   have rp:=hI'.2 p _ gp
   generalize rs[p]=ap at gp rp
   show gm _ _ _ [some (.int (p:Nat)),some (.int (q:Nat)),some (.ref tq)] _ _
   walk_at "r"
   refine aK (ag.of hI'.1) (v:=.ref ap) (eW (by rw[DA,gp];rfl)) ?_
   walk_at "r"
   refine aK (ag.of rp) (dm (by omega) (by omega)) ?_
   rw[DK]
   exact fun _=>hQ _ hb)
  refine⟨vh,m,ws,fl,_,M,rfl,hv3,ok,hF,⟨⟨ex _ _ hf,ex _ _ hc',hcaps⟩,hrows3⟩,fun H H' e h=>⟨h.1.ext e,h.2.ext e⟩,fun l ps H4 e4 hl hl4 hps=>?_⟩
  obtain⟨a1,a2,a3,a4⟩:=held hn3 e4
  exact⟨a1,q l _ ((e02.et.trans e3).trans a2.et) (t3.ext a2) ⟨ps,M,a4 _ _ hl4 (fun f z=>by cases z),bR (fun a x h=>a4 _ _ h (fun f z=>by cases z)) hps,km⟩⟩
def aX(ws:List Way)(n:Nat)(i j:Nat):Prop:=∃u∈ws,u.deed = "up"/\u.room.toNat=i/\Kpt ws n u.other.toNat j
theorem pY{cs:List (Addr×Obj)}{H H':Hp}(hc:∀b o,cs.lookup b=some o->H b=some (cL b o))(e:Ext (aY cs H) H'):Ext H (bF cs H'):=fun b x hb=>by
 cases q:cs.lookup b with
 | none=>rw[cH q];exact e b x (by rw[cq q];exact hb)
 | some o=>rw[dO q,←hc b o q];exact hb
def kf(us:List Way)(M:Nat->Nat->Bool)(p q:Nat):Bool:=((us.filter fun u=>decide (u.room=(p:Int))).map fun u=>M u.other.toNat q).any id
def kQ(K:Du):Sp:=fun vs H Q _=>∃vh m ws,vs=[vh]/\bz H vh m ws/\HOuse m ws/\eM K/\Tbs K H/\∀l H',Et H H'->Tbs K H'->dS H' l m.toNat (aX ws m.toNat)->Q (.ref l) H'
abbrev oJ:Stmt:=stq 45
theorem wC:FnScope ["house","table","ups"] ["house"] (aI oJ):=⟨rfl,rfl,rfl,by decide +kernel,rfl,by decide +kernel,by decide +kernel⟩
theorem zS{P:Program}{w:World}{K:Du}{mg:Str->Option Value}{base:Heap}(D:Dfn K mg "risen" oJ ["house"])(T:Blt mg){c9 T9:Addr}(B:Tab K mg base "risen" c9 T9)(C_told_pairs:Cal P w K mg base "told_pairs" 2 ["house","choice"] (mQ P w K mg base))(C_ways_of_deed:Cal P w K mg base "ways_of_deed" 1 ["house","deed"] (jI K))(C_kept_table:Cal P w K mg base "kept_table" 3 ["house"] (lW K))(C_refuse_no_house:Cal P w K mg base "refuse_no_house" 6 ["thing"] (jq K)):Cal P w K mg base "risen" 7 ["house"] (kQ K):=by
 have nd:=(wC).nd
 refine D.okL B wC (fun vs H Q E h=>?_) (fun X hX H vs Q E h=>?_)
 ·obtain⟨vh,m,ws,rfl,_⟩:=h;rfl
 ·obtain⟨f,A,outer,s,H0,E0,rfl,hr⟩:=hX
  obtain⟨vh,m,ws,rfl,hv,ok,dis,htb,q⟩:=h
  have m1:=ok.m1
  have m12:=ok.m12
  have few:=ok.few
  refine⟨_,(aj (bA (aC C_refuse_no_house hr (aa (pv 0) af)))
    (aj (aF (i:=1) nd rfl (Or.inr rfl) (aC C_kept_table hr (aa (pv 0) af)))
    (aj (aF (i:=2) nd rfl (Or.inr rfl) (aC C_ways_of_deed hr (aa (pv 0) (aa aS af))))
    (ao (aE (oD [2,1] C_told_pairs hr (aa (pv 0) (aa (m9 rfl rfl B.hd B.blt B.gl (by decide +kernel) rfl rfl rfl) af)))))))),?_⟩
  walk_at "r"
  refine⟨vh,m,ws,rfl,hv,ok,fun H1 e1=>?_⟩
  walk_at "r"
  refine⟨vh,m,ws,rfl,hv.ext e1,ok,fun tq rs M H1b kt km=>?_⟩
  walk_at "r"
  refine⟨vh,m,ws,_,rfl,hv.ext (e1.trans kt.ext),ok,fun lu cu us H2 e2 hlu hlu2 hau hus=>?_⟩
  have e02:=(e1.trans kt.ext).trans e2
  have hrows:=kt.rows.ext e2
  have hrl:=kt.len
  have hcu:=hau.1
  have hul:us.length<=100:=by rw[hus];exact Eb (List.length_filter_le _ _) few
  have hin:∀u∈us,u∈ws/\u.deed=Str.ofString "up":=fun u hu=>by
   rw[hus]at hu
   obtain⟨h1,h2⟩:=List.mem_filter.mp hu
   exact⟨h1,of_decide_eq_true h2⟩
  walk_at "r"
  show iE _ [2,1] _ (["house","table","ups"]:List Str) _ _ _ _
  generalize PySem.Env.cells _=cells0
  refine kX ?_
  walk_at "r"
  refine lD ?_
  refine ma (x:="risen") (htb.ext e02).risen B.tin fun fl c' cl H3 hcl e3 ht3 ot hf hc'=>?_
  have t3:Tbs K H3:=⟨ot "kept" _ _ _ (fun c2 T2 e2=>dis "risen" (by simp) "kept" (by simp) (by decide +kernel) _ _ _ _ B.tin e2) (htb.ext e02).kept,ot "low_levels" _ _ _ (fun c2 T2 e2=>dis "risen" (by simp) "low_levels" (by simp) (by decide +kernel) _ _ _ _ B.tin e2) (htb.ext e02).low,ht3⟩
  walk_at "r"
  refine⟨fun j hj=>?_,fun cp hlen hcp=>?_⟩
  ·rcases DM.mp hj with rfl | hj
   ·exact⟨_,rfl⟩
   ·rw[DI.mp hj]
    exact⟨_,rfl⟩
  obtain⟨⟨n,c,o,v⟩,⟨n',d,o',v'⟩,rfl⟩:=ko hlen
  obtain⟨hN,hcc,hσ,hnone,u,hdat,hrel⟩:=hcp 0 2 _ rfl rfl
  obtain⟨hN2,hcc2,hσ2,hnone2,u2,hdat2,hrel2⟩:=hcp 1 1 _ rfl rfl
  clear hcp hlen
  dsimp only at hN hcc hσ hnone hdat hrel hN2 hcc2 hσ2 hnone2 hdat2 hrel2
  have hN':(Str.ofString "ups")=n:=Option.some.inj hN
  have hσ':(V.ref lu)=v:=Option.some.inj (Option.some.inj hσ)
  have hN2':(Str.ofString "table")=n':=Option.some.inj hN2
  have hσ2':(V.ref tq)=v':=Option.some.inj (Option.some.inj hσ2)
  clear hN hσ hN2 hσ2
  subst hN'
  subst hσ'
  subst hN2'
  subst hσ2'
  obtain⟨c2,hc2⟩:=hcl.has (Str.ofString "ups") rfl
  obtain⟨d2,hd2⟩:=hcl.has (Str.ofString "table") rfl
  have hc3:=(hcl.fr _ _ hc2).2
  have hd3:=(hcl.fr _ _ hd2).2
  rw[hcc]at hc3
  rw[hcc2]at hd3
  cases hc3
  cases hd3
  have ncd:c≠d:=fun z=>by
   have:=hcl.inj _ _ _ hc2 (z ▸ hd2)
   exact absurd this (by decide +kernel)
  have hn3:∀b o9,(cellsOf [⟨Str.ofString "ups",c,o,V.ref lu⟩,⟨Str.ofString "table",d,o',V.ref tq⟩]).lookup b=some o9->H3 b=none:=fun b o9 hb=>by
   obtain⟨e,he,rfl,rfl⟩:=fo hb
   rcases DM.mp he with rfl | he
   ·exact hnone
   ·rw[DI.mp he]
    exact hnone2
  have ex:=jS hn3
  have hrows3:=(hrows.et e3).ext ex
  have hlu3:=ex _ _ (e3 _ _ hlu2 (fun ps z=>by cases z))
  have hau3:=(hau.et e3).ext ex
  have hv3:=((hv.ext e02).et e3).ext ex
  have hcaps:Caps (bF (cellsOf [⟨Str.ofString "ups",c,o,V.ref lu⟩,⟨Str.ofString "table",d,o',V.ref tq⟩]) H3) cl [⟨Str.ofString "ups",c,o,V.ref lu⟩,⟨Str.ofString "table",d,o',V.ref tq⟩]:=by
   refine⟨fun e he=>?_,fun x g hx=>?_⟩
   ·rcases DM.mp he with rfl | he
    ·exact⟨hc2,dO (by simp[cellsOf]),u,hdat,hrel⟩
    ·rw[DI.mp he]
     refine⟨hd2,dO ?_,u2,hdat2,hrel2⟩
     show List.lookup d ((c,o)::[(d,o')])=some o'
     rw[List.lookup_cons,show (d == c)=false from beq_eq_false_iff_ne.mpr (Ne.symm ncd),List.lookup_cons,beq_self_eq_true]
   ·have hm:=gE (hcl.fr x g hx).1
    simp at hm
    rcases hm with rfl | rfl
    ·first | (rw[hc2]at hx;cases hx;exact⟨_,DE,rfl,rfl⟩) | (rw[hd2]at hx;cases hx;exact⟨_,DB _ (DI.mpr rfl),rfl,rfl⟩)
    ·first | (rw[hc2]at hx;cases hx;exact⟨_,DE,rfl,rfl⟩) | (rw[hd2]at hx;cases hx;exact⟨_,DB _ (DI.mpr rfl),rfl,rfl⟩)
  have hF:=n5 (P:=P) (w:=w) (K:=K) (mg:=mg) (base:=base) (k:=0) hf hcl (["p","q"]:List Str) [⟨Str.ofString "ups",c,o,V.ref lu⟩,⟨Str.ofString "table",d,o',V.ref tq⟩] (fun vs H Q=>∃p q:Nat,vs=[.int (p:Nat),.int (q:Nat)]/\(p:Int)<m/\(q:Int)<m/\∀H',Ext H H'->Q (.bl (kf us M p q)) H') (fun H=>Rows H tq rs m.toNat M/\H lu=some (.lst (List.map V.ref cu))/\aN H cu us) ⟨rfl,rfl,rfl,by decide +kernel,by decide +kernel⟩ (fun _ _ _ us hl=>by obtain⟨u1,u2,rfl⟩:=ko hl;rfl) (fun vs H Q h=>by obtain⟨p,q,rfl,_⟩:=h;rfl) (fun A outer s H vs Q hrL hpre hI hR=>by
   obtain⟨p,q,rfl,hp,hq,hQ⟩:=hR
   have hlk:=hpre.2.2.look
   obtain⟨hI1,hI2,hI3⟩:=hI
   have hI1':Rows (aY (cellsOf [⟨Str.ofString "ups",c,o,V.ref lu⟩,⟨Str.ofString "table",d,o',V.ref tq⟩]) H) tq rs m.toNat M:=⟨fh hlk hI1.1 (fun f z=>by cases z),fun i r hi=>fh hlk (hI1.2 i r hi) (fun f z=>by cases z)⟩
   have hI2':=fh hlk hI2 (fun f z=>by cases z)
   have hI3':aN (aY (cellsOf [⟨Str.ofString "ups",c,o,V.ref lu⟩,⟨Str.ofString "table",d,o',V.ref tq⟩]) H) cu us:=⟨hI3.1,fun j b w e1 e2=>fh hlk (hI3.2 j b w e1 e2) (fun f z=>by cases z)⟩
   refine⟨_,(aW (Ac K rfl) rfl T.any_ PyProof.Rows.boot_any (aa (cE ["way"] [3,1,0] (cJ K (pv 2)) (fun _=>(aM (i:=0) (show(["way","table","q","p"]:List Str).Nodup from by decide +kernel) rfl (Or.inl rfl) (Or.inr rfl))) (fun _=>(dG (aR b9 (ai (ay K) (pv 0) ae (fun _ _=>rfl)) (pv 3) (aQ _)))) (fun _=>(ai (aJ K) (ai (aJ K) (pv 1) (ai (ay K) (pv 0) ae (fun _ _=>rfl)) (fun _ _=>rfl)) (pv 2) (fun _ _=>rfl)))) af)),?_⟩
   have hb:∀H',Ext (aY (cellsOf [⟨Str.ofString "ups",c,o,V.ref lu⟩,⟨Str.ofString "table",d,o',V.ref tq⟩]) H) H'->Ext H (bF (cellsOf [⟨Str.ofString "ups",c,o,V.ref lu⟩,⟨Str.ofString "table",d,o',V.ref tq⟩]) H'):=fun H' e=>pY hlk e
   generalize aY (cellsOf [⟨Str.ofString "ups",c,o,V.ref lu⟩,⟨Str.ofString "table",d,o',V.ref tq⟩]) H=HU at hI1' hI2' hI3' hb ⊢
   show ke _ _ [some (.int (p:Nat)),some (.int (q:Nat)),some (.ref lu),some (.ref tq)] _ _
   walk_at "r"
   refine cI (ag.of hI2') ?_
   refine gy (xs:=List.map V.ref cu) (fun i ys H'=>H'=HU/\ys=(((us.take i).filter fun u=>decide (u.room=(p:Int))).map fun u=>M u.other.toNat q).map V.bl) (bw (by rw[Dy];omega)) ⟨rfl,rfl⟩ (fun i ys H' _ h=>⟨by rw[h.1];exact ag.of hI2',by rw[h.2,Dy,Dy];exact Eb (List.length_filter_le _ _) (by rw[List.length_take];omega)⟩) ?_ ?_
   ·rintro i v ys H4 hx ⟨rfl,rfl⟩
    rw[DA]at hx
    obtain⟨b,hb',rfl⟩:=DJ.mp hx
    have hi:i<us.length:=by rw[←hcu];exact(DG.mp hb').1
    have gu:us[i]?=some us[i]:=Dz hi
    have hb0:=hI3'.2 i b _ hb' gu
    generalize us[i]=uu at gu hb0
    have oku:=ok.ok uu (hin uu (DH gu)).1
    have v0:=oku.r0
    have v1:=oku.r1
    have v2:=oku.o0
    have v3:=oku.o1
    have x2:uu.other.toNat<rs.length:=by omega
    have r2:rs[uu.other.toNat]?=some rs[uu.other.toNat]:=Dz x2
    have w2:=hI1'.2 _ _ r2
    generalize rs[uu.other.toNat]=a2 at r2 w2
    have at2:bt (rs.map V.ref) uu.other=some (.ref a2):=dI v2 (by rw[DA,r2];rfl)
    walk_at "r"
    refine az (ah.of hb0) (v:=.int uu.room) rfl ?_
    walk_at "r"
    cases hc:decide (uu.room=(p:Int))with
    | true=>
     refine aG ?_
     walk_at "r"
     refine az (ah.of hb0) (v:=.int uu.other) rfl ?_
     walk_at "r"
     refine aK (ag.of hI1'.1) at2 ?_
     walk_at "r"
     refine aK (ag.of w2) (dm (by omega) (by omega)) ?_
     rw[DK]
     refine⟨rfl,?_⟩
     rw[List.take_add_one,gu,List.filter_append,DO,DO]
     congr 1
     show[V.bl _]=List.map V.bl (List.map _ (List.filter _ [uu]))
     rw[List.filter_cons,if_pos hc]
     rfl
    | false=>
     refine aA ⟨rfl,?_⟩
     have hno:List.filter (fun u:Way=>decide (u.room=(p:Int))) [uu]=[]:=by
      rw[List.filter_cons,if_neg (by rw[hc];exact DN)]
      rfl
     rw[List.take_add_one,gu,List.filter_append]
     show _=List.map V.bl (List.map _ (_++List.filter _ [uu]))
     rw[hno,List.append_nil]
   ·rintro ys H4 p9 ⟨hH,rfl⟩ hp9
    subst hH
    rw[Dy,hcu,DZ]
    have e9:=aZ (o:=.lst (((us.filter fun u=>decide (u.room=(p:Int))).map fun u=>M u.other.toNat q).map V.bl)) hp9
    walk_at "r"
    refine⟨p9,_,rfl,ag.of aH,?_⟩
    exact fun _=>hQ _ (hb _ e9))
  refine⟨vh,m,ws,fl,_,kf us M,rfl,hv3,ok,hF,⟨⟨ex _ _ hf,ex _ _ hc',hcaps⟩,hrows3,hlu3,hau3⟩,fun H H' e h=>⟨h.1.ext e,h.2.1.ext e,e _ _ h.2.2.1,h.2.2.2.ext e⟩,fun l ps H4 e4 hl hl4 hps=>?_⟩
  obtain⟨a1,a2,a3,a4⟩:=held hn3 e4
  refine⟨a1,q l _ ((e02.et.trans e3).trans a2.et) (t3.ext a2) ⟨ps,kf us M,a4 _ _ hl4 (fun f z=>by cases z),bR (fun a x h=>a4 _ _ h (fun f z=>by cases z)) hps,fun i j hi hj=>?_⟩⟩
  unfold kf aX
  rw[List.any_map,Ee]
  constructor
  ·rintro⟨x,hx,hm⟩
   obtain⟨x1,x2⟩:=List.mem_filter.mp hx
   have x2:=of_decide_eq_true x2
   obtain⟨y1,y2⟩:=hin x x1
   exact⟨x,y1,y2,by omega,(km _ _ (gD ok.ok y1).2 hj).mp hm⟩
  ·rintro⟨x,h1,h2,h3,h4⟩
   have r0:=(ok.ok x h1).r0
   refine⟨x,List.mem_filter.mpr ⟨by rw[hus];exact List.mem_filter.mpr ⟨h1,decide_eq_true h2⟩,decide_eq_true (by omega)⟩,?_⟩
   exact(km _ _ (gD ok.ok h1).2 hj).mpr h4
def cN(us:List Way)(x:Bfs.Pl):List Bfs.Pl:=(us.filter fun w=>cR w x.1 x.2).map fun w=>(w.other,x.2+rz w.deed)
def v9(K:Du):Sp:=fun vs H Q _=>∃l bs us p x,vs=[.ref l,.ref p]/\H l=some (.lst (List.map V.ref bs))/\aN H bs us/\(∀w∈us,cg w.deed)/\us.length<=100/\aD H p x/\∀l' ps H',Ext H H'->H l'=none->H' l'=some (.lst (List.map V.ref ps))->Paired (aD H') ps (cN us x)->Q (.ref l') H'
abbrev mJ:Stmt:=stq 36
theorem r6:FnScope ["ways","place"] ["ways","place"] (aI mJ):=⟨rfl,rfl,rfl,by decide +kernel,rfl,by decide +kernel,by decide +kernel⟩
theorem BH{P:Program}{w:World}{K:Du}{mg:Str->Option Value}{base:Heap}(D:Dfn K mg "led_to_from" mJ ["ways","place"])(T:Blt mg)(C_is_open:Cal P w K mg base "is_open" 1 ["way","place"] (uV K))(C_led_to:Cal P w K mg base "led_to" 2 ["way","place"] (vc K)):Cal P w K mg base "led_to_from" 3 ["ways","place"] (v9 K):=by
 have nd:=(r6).nd
 refine D.ok r6 (fun vs H Q E h=>?_) (fun X hX H vs Q E h=>?_)
 ·obtain⟨l,bs,us,p,x,rfl,_⟩:=h;rfl
 ·obtain⟨f,cdv,A,outer,s,H0,E0,rfl,hr⟩:=hX
  obtain⟨l,bs,us,p,x,rfl,hl,hal,hdd,hul,hpx,q⟩:=h
  have hbl:=hal.1
  refine⟨_,(@ao _ _ _ (@aE _ _ _ _ (cE ["way"] [1] (cJ K (pv 0)) (fun _=>(aM (i:=0) (show(["way","place"]:List Str).Nodup from by decide +kernel) rfl (Or.inl rfl) (Or.inr rfl))) (fun _=>(dG (bo (aC C_is_open hr (@aa _ _ _ _ _ (pv 0) (@aa _ _ _ _ _ (pv 1) af rfl) rfl))))) (fun _=>(aC C_led_to hr (@aa _ _ _ _ _ (pv 0) (@aa _ _ _ _ _ (pv 1) af rfl) rfl)))))),?_⟩
  walk_at "r"
  refine cI (ag.of hl) ?_
  refine gy (xs:=List.map V.ref bs) (fun i ys H'=>Ext H H'/\∃ps,ys=List.map V.ref ps/\Paired (aD H') ps (cN (us.take i) x)) (bw (by rw[Dy];omega)) ⟨Ext.rfl' _,[],rfl,.nil⟩ (fun i ys H' _ h=>by
   obtain⟨e,ps,rfl,hps⟩:=h
   refine⟨ag.of (e _ _ hl),?_⟩
   rw[Dy,di hps]
   unfold cN
   rw[Dy]
   exact Eb (List.length_filter_le _ _) (by rw[List.length_take];omega)) ?_ ?_
  ·rintro i v ys H1 hx ⟨e1,ps,rfl,hps⟩
   rw[DA]at hx
   obtain⟨b,hb,rfl⟩:=DJ.mp hx
   have hi:i<us.length:=by rw[←hbl];exact(DG.mp hb).1
   have gu:us[i]?=some us[i]:=Dz hi
   have hb0:=e1 _ _ (hal.2 i b _ hb gu)
   generalize us[i]=u at gu hb0
   have hpx1:aD H1 p x:=e1 _ _ hpx
   walk_at "r"
   refine⟨b,u,p,x,rfl,hb0,hpx1,?_⟩
   have step:cN (us.take (i+1)) x=cN (us.take i) x++cN [u] x:=by
    unfold cN
    rw[List.take_add_one,gu,List.filter_append,DO]
    rfl
   cases ho:cR u x.1 x.2 with
   | false=>
    refine rd_exb (aA ⟨e1,ps,rfl,?_⟩)
    rw[step]
    have:cN [u] x=[]:=by
     unfold cN
     rw[List.filter_cons,if_neg (by rw[ho];exact DN)]
     rfl
    rw[this,List.append_nil]
    exact hps
   | true=>
    refine rd_exb (aG ?_)
    walk_at "r"
    refine⟨b,u,p,x,rfl,hb0,hdd u (DH gu),hpx1,fun t H2 e2 ht _=>?_⟩
    refine⟨e1.trans e2,ps++[t],?_,?_⟩
    ·rw[DO];rfl
    ·rw[step]
     have:cN [u] x=[(u.other,x.2+rz u.deed)]:=by
      unfold cN
      rw[List.filter_cons,if_pos ho]
      rfl
     rw[this]
     exact i8 (bR (fun a x h=>e2 _ _ h) hps) ht
  ·rintro ys H1 p9 ⟨e1,ps,rfl,hps⟩ hp9
   rw[Dy,hbl,DZ]at hps
   have e2:=aZ (o:=.lst (List.map V.ref ps)) hp9
   have h9:H p9=none:=by
    cases z:H p9 with
    | none=>rfl
    | some o=>rw[e1 _ _ z]at hp9;cases hp9
   exact q p9 ps _ (e1.trans e2) h9 aH (bR (fun a x h=>e2 _ _ h) hps)
structure WT(H:Hp)(c:Addr)(n:Nat)(ls:List Addr)(ws:List Way):Prop where
 at_:H c=some (.lst (List.map V.ref ls))
 len:ls.length=n
 it:∀(r:Nat) (l:Addr),ls[r]?=some l->∃bs,H l=some (.lst (List.map V.ref bs))/\aN H bs (ws.filter fun w=>decide (w.room=(r:Int)))
theorem WT.ext{H H':Hp}{c:Addr}{n:Nat}{ls:List Addr}{ws:List Way}(e:Ext H H')(h:WT H c n ls ws):WT H' c n ls ws:=
 ⟨e _ _ h.at_,h.len,fun r l hl=>by obtain⟨bs,h1,h2⟩:=h.it r l hl;exact⟨bs,e _ _ h1,h2.ext e⟩⟩
theorem WT.et{H H':Hp}{c:Addr}{n:Nat}{ls:List Addr}{ws:List Way}(e:Et H H')(h:WT H c n ls ws):WT H' c n ls ws:=
 ⟨e _ _ h.at_ (fun ps z=>by cases z),h.len,fun r l hl=>by obtain⟨bs,h1,h2⟩:=h.it r l hl;exact⟨bs,e _ _ h1 (fun ps z=>by cases z),h2.et e⟩⟩
theorem B1{ws:List Way}{i:Nat}{w:Way}(h:ws[i]?=some w)(p:Way->Bool):(ws.take (i+1)).filter p=(ws.take i).filter p++if p w then[w]else[]:=by
 rw[List.take_add_one,h,List.filter_append]
 congr 1
 show List.filter p [w]=_
 rw[List.filter_cons]
 rfl
def pP(K:Du):Sp:=fun vs H Q _=>∃v m ws,vs=[v]/\bz H v m ws/\HOuse m ws/\∀c ls H',Ext H H'->WT H' c m.toNat ls ws->Q (.ref c) H'
abbrev lE:Stmt:=stq 48
theorem vQ:FnScope ["house","ways","way"] ["house"] (aI lE):=⟨rfl,rfl,rfl,by decide +kernel,rfl,by decide +kernel,by decide +kernel⟩
theorem Ax{P:Program}{w:World}{K:Du}{mg:Str->Option Value}{base:Heap}(D:Dfn K mg "ways_by_room" lE ["house"])(T:Blt mg):Cal P w K mg base "ways_by_room" 1 ["house"] (pP K):=by
 have nd:=(vQ).nd
 refine D.ok vQ (fun vs H Q E h=>?_) (fun X hX H vs Q E h=>?_)
 ·obtain⟨v,m,ws,rfl,_⟩:=h;rfl
 ·obtain⟨f,cdv,A,outer,s,H0,E0,rfl,hr⟩:=hX
  obtain⟨v,m,ws,rfl,hv,ok,q⟩:=h
  obtain⟨hp0,hq0,rfl,hh,hw⟩:=id hv
  obtain⟨bs,hq,hal⟩:=bZ.al hw
  have hbl:=hal.1
  have few:=ok.few
  have m1:=ok.m1
  have m12:=ok.m12
  refine⟨_,(@aj _ _ _ _ _ (fJ (i:=1) ["room"] [] nd rfl (Or.inl rfl) (bQ rfl T.range_ (@aa _ _ _ _ _ (@ai _ _ _ _ _ _ _ (ay K) (pv 0) ae (fun _ _=>rfl)) af rfl)) (fun _=>(aM (i:=0) (show(["room"]:List Str).Nodup from by decide +kernel) rfl (Or.inl rfl) (Or.inr rfl))) (fun _=>du) (fun _=>(@bE _ _ _ _ af)))
    (@aj _ _ _ _ _ (bJ PassesOwn.never rfl (fH K (@ai _ _ _ _ _ _ _ (ay K) (pv 0) ae (fun _ _=>rfl))) (aM (i:=2) nd rfl (Or.inl rfl)) (@ao _ _ _ (bA (bN K DF DS DT bY (@ai _ _ _ _ _ _ _ (aJ K) (pv 1) (@ai _ _ _ _ _ _ _ (ay K) (pv 2) ae (fun _ _=>rfl)) (fun _ _=>rfl)) (@aa _ _ _ _ _ (pv 2) af rfl)))))
    (@ao _ _ _ (@aE _ _ _ _ (pv 1))))),?_⟩
  walk_at "r"
  refine az (ah.of hh) (v:=.int m) rfl ?_
  walk_at "r"
  refine bS (by omega) ?_
  refine dC (fun i ys H'=>Ext H H'/\∃ls:List Addr,ys=List.map V.ref ls/\ls.length=i/\ls.Nodup/\∀l∈ls,H' l=some (.lst [])/\H l=none) (bw (by omega)) ⟨Ext.rfl' _,[],rfl,rfl,List.nodup_nil,fun l h=>(nomatch h)⟩ (fun i ys H' _ h=>by obtain⟨_,ls,rfl,h,_⟩:=h;rw[Dy,h];exact DR _) ?_ ?_
  ·rintro i ys H' hi ⟨e,ls,rfl,hl,hnd,hls⟩
   walk_at "r"
   refine aG ?_
   walk_at "r"
   refine aP fun l H1 e1 hl1 hln=>?_
   refine⟨e.trans e1,ls++[l],by rw[DO];rfl,by rw[DP,hl];rfl,?_,?_⟩
   ·rw[List.nodup_append]
    refine⟨hnd,by simp,fun a ha b hb z=>?_⟩
    have hbl:b=l:=by simpa using hb
    subst hbl
    subst z
    rw[(hls a ha).1]at hln
    cases hln
   ·intro a ha
    rcases DU.mp ha with z | z
    ·exact⟨e1 _ _ (hls a z).1,(hls a z).2⟩
    ·have hal:a=l:=by simpa using z
     subst hal
     refine⟨hl1,?_⟩
     cases y:H a with
     | none=>rfl
     | some o=>rw[e _ _ y]at hln;cases hln
  ·rintro ys H1 c ⟨e,ls,rfl,hl,hnd,hls⟩ hc
   have eN:Ext H (upd H1 c (.lst (List.map V.ref ls))):=e.trans (aZ hc)
   have hcH:H c=none:=by
    cases y:H c with
    | none=>rfl
    | some o=>rw[e _ _ y]at hc;cases hc
   have ncl:c∉ls:=fun z=>by rw[(hls c z).1]at hc;cases hc
   have hcl:∀l∈ls,H l=none:=fun l h=>(hls l h).2
   have hit:∀(r:Nat) (l:Addr),ls[r]?=some l->∃bs,(upd H1 c (.lst (List.map V.ref ls))) l=some (.lst (List.map V.ref bs))/\aN (upd H1 c (.lst (List.map V.ref ls))) bs ((ws.take 0).filter fun w=>decide (w.room=(r:Int))):=fun r l hr=>⟨[],(aZ hc) _ _ (hls l (DH hr)).1,aN.nil _⟩
   have hcc:(upd H1 c (.lst (List.map V.ref ls))) c=_:=aH
   generalize upd H1 c (.lst (List.map V.ref ls))=H2 at eN hit hcc ⊢
   clear hls hc e H1
   walk_at "r"
   refine az (ah.of (eN _ _ hh)) (v:=.ref hq0) rfl ?_
   walk_at "r"
   refine ft (ah.of (eN _ _ hq)) ?_
   refine oE (xs:=bs.map V.ref) (fun i σ H'=>∃k1,σ=[some (.ref hp0),some (.ref c),k1]/\Ext H H'/\H' c=some (.lst (List.map V.ref ls))/\∀(r:Nat) (l:Addr),ls[r]?=some l->∃bs,H' l=some (.lst (List.map V.ref bs))/\aN H' bs ((ws.take i).filter fun w=>decide (w.room=(r:Int)))) ⟨none,rfl,eN,hcc,hit⟩ (fun i σ H' _ h=>by obtain⟨_,_,e,_⟩:=h;exact ah.of (e _ _ hq)) ?_ ?_
   ·rintro i u σ H3 hu ⟨k1,rfl,e3,hc3,hit3⟩
    rw[DA]at hu
    obtain⟨b,hb,rfl⟩:=DJ.mp hu
    have hi:i<ws.length:=by rw[←hbl];exact(DG.mp hb).1
    have hwi:ws[i]?=some ws[i]:=Dz hi
    have hbw:=e3 _ _ (hal.2 i b _ hb hwi)
    generalize ws[i]=w0 at hwi hbw
    have okw:=ok.ok w0 (DH hwi)
    have r0:=okw.r0
    have r1:=okw.r1
    have hlr:w0.room.toNat<ls.length:=by rw[hl];omega
    have hlg:ls[w0.room.toNat]?=some ls[w0.room.toNat]:=Dz hlr
    generalize ls[w0.room.toNat]=l at hlg
    have hlm:=DH hlg
    obtain⟨cs,hl3,hcs⟩:=hit3 _ _ hlg
    have hcsl:cs.length<=100:=by
     rw[hcs.1]
     exact Eb (List.length_filter_le _ _) (by rw[List.length_take];omega)
    have ncl':c≠l:=fun z=>ncl (z ▸ hlm)
    walk_at "r"
    refine az (ah.of hbw) (v:=.int w0.room) rfl ?_
    walk_at "r"
    refine aK (ag.of hc3) (v:=.ref l) (dI r0 (by rw[DA,hlg];rfl)) ?_
    refine⟨df (ag.of hl3),?_⟩
    walk_at "r"
    refine bV hl3 (by rw[Dy];exact Nat.lt_of_le_of_lt hcsl (by decide)) ?_
    walk_at "r"
    refine⟨_,rfl,cy e3 (hcl l hlm),by rw[aB ncl'];exact hc3,fun r l' hr=>?_⟩
    rw[B1 hwi]
    by_cases hll:l'=l
    ·subst hll
     have hrr:r=w0.room.toNat:=(List.getElem?_inj (DG.mp hr).1 hnd).mp (by rw[hr,hlg])
     subst hrr
     refine⟨cs++[b],?_,?_⟩
     ·rw[aH,DO];rfl
     ·rw[if_pos (decide_eq_true (by omega))]
      have put:aN (upd H3 l' (.lst (List.map V.ref cs++[.ref b]))) cs ((ws.take i).filter fun w=>decide (w.room=((w0.room.toNat:Nat):Int))):=hcs.put hl3
      exact put.snoc (by rw[aB (dJ hbw hl3 (fun z=>by cases z))];exact hbw)
    ·obtain⟨ds,h1,h2⟩:=hit3 r l' hr
     have hrr:¬(w0.room=(r:Int)):=fun z=>hll (by
      have:w0.room.toNat=r:=by omega
      rw[this,hr]at hlg
      exact Option.some.inj hlg)
     rw[if_neg (by simpa using hrr),List.append_nil]
     exact⟨ds,by rw[aB hll];exact h1,h2.put hl3⟩
   ·rintro σ H3 ⟨k1,rfl,e3,hc3,hit3⟩
    rw[Dy,hbl,DZ]at hit3
    walk_at "r"
    exact q c ls H3 e3 ⟨hc3,hl,hit3⟩
def LB(ws:List Way)(n:Nat)(top:Int)(x y:Bfs.Pl):Prop:=(∃w∈ws,cR w x.1 x.2=true/\y=(w.other,x.2+rz w.deed)/\y.2<=top)\/(top<=x.2/\∃i j:Nat,Kpt ws n i j/\x.1=(i:Int)/\y=((j:Int),top))
theorem hJ{w:Way}{r n:Int}(h:cR w r n=true):w.room=r:=by
 unfold cR at h
 rw[Eg]at h
 exact of_decide_eq_true h.1
def rm(K:Du):Sp:=fun vs H Q _=>∃c kl top p m ws ls x,vs=[.ref c,.ref kl,.int top,.ref p]/\WT H c m.toNat ls ws/\dS H kl m.toNat (Kpt ws m.toNat)/\HOuse m ws/\aD H p x/\0<=x.1/\x.1<m ∧
 ∀l ps ys H',Ext H H'->H l=none->H' l=some (.lst (List.map V.ref ps))->Paired (aD H') ps ys->(∀y,y∈ys↔LB ws m.toNat top x y)->ys.length<=300->Q (.ref l) H'
abbrev mE:Stmt:=stq 50
theorem tM:FnScope ["ways","keeps","top","here","low"] ["ways","keeps","top","here"] (aI mE):=⟨rfl,rfl,rfl,by decide +kernel,rfl,by decide +kernel,by decide +kernel⟩
theorem CK{P:Program}{w:World}{K:Du}{mg:Str->Option Value}{base:Heap}(D:Dfn K mg "low_beside" mE ["ways","keeps","top","here"])(T:Blt mg)(C_led_to_from:Cal P w K mg base "led_to_from" 3 ["ways","place"] (v9 K)):Cal P w K mg base "low_beside" 4 ["ways","keeps","top","here"] (rm K):=by
 have nd:=(tM).nd
 refine D.ok tM (fun vs H Q E h=>?_) (fun X hX H vs Q E h=>?_)
 ·obtain⟨c,kl,top,p,m,ws,ls,x,rfl,_⟩:=h;rfl
 ·obtain⟨f,cdv,A,outer,s,H0,E0,rfl,hr⟩:=hX
  obtain⟨c,kl,top,p,m,ws,ls,x,rfl,wt,prs,ok,hpx,x0,x1,q⟩:=h
  have m1:=ok.m1
  have m12:=ok.m12
  have few:=ok.few
  have hlr:x.1.toNat<ls.length:=by rw[wt.len];omega
  have hlg:ls[x.1.toNat]?=some ls[x.1.toNat]:=Dz hlr
  generalize ls[x.1.toNat]=l0 at hlg
  obtain⟨bs,hl0,hal⟩:=wt.it _ _ hlg
  have hx1:((x.1.toNat:Nat):Int)=x.1:=by omega
  rw[hx1]at hal
  have husl:(ws.filter fun w=>decide (w.room=x.1)).length<=100:=Eb (List.length_filter_le _ _) few
  obtain⟨kps,g,hkl,hkp,hkg⟩:=prs
  have hkpl:=di hkp
  have hkpn:=kM (n:=m.toNat) (g:=g) m.toNat
  have hkpm:m.toNat*m.toNat<=12*12:=Nat.mul_le_mul (by omega) (by omega)
  refine⟨_,(@aj _ _ _ _ _ (fJ (i:=4) ["there"] [2] nd rfl (Or.inl rfl) (cJ K (aC C_led_to_from hr (@aa _ _ _ _ _ (@ai _ _ _ _ _ _ _ (aJ K) (pv 0) (@ai _ _ _ _ _ _ _ (ay K) (pv 3) ae (fun _ _=>rfl)) (fun _ _=>rfl)) (@aa _ _ _ _ _ (pv 3) af rfl) rfl))) (fun _=>(aM (i:=0) (show(["there","top"]:List Str).Nodup from by decide +kernel) rfl (Or.inl rfl) (Or.inr rfl))) (fun _=>(dG (aR fZ (@ai _ _ _ _ _ _ _ (ay K) (pv 0) ae (fun _ _=>rfl)) (pv 1) (aQ _)))) (fun _=>(pv 0)))
    (@aj _ _ _ _ _ (@bp _ _ _ _ _ _ _ _ (aR dh (@ai _ _ _ _ _ _ _ (ay K) (pv 3) ae (fun _ _=>rfl)) (pv 2) (aQ _)) (@ao _ _ _ (@aE _ _ _ _ (pv 4))) aV)
    (@ao _ _ _ (@aE _ _ _ _ (aq i9 (pv 4) (cE ["p","q"] [2,3] (cJ K (pv 1)) (fun _=>(gY (n:=2) K rfl (cA (aM (i:=0) (show(["p","q","top","here"]:List Str).Nodup from by decide +kernel) rfl (Or.inl rfl) (Or.inr rfl)) (cA (aM (i:=1) (show(["p","q","top","here"]:List Str).Nodup from by decide +kernel) rfl (Or.inl rfl) (Or.inr rfl)) fN)))) (fun _=>(dG (aR b9 (pv 0) (@ai _ _ _ _ _ _ _ (ay K) (pv 3) ae (fun _ _=>rfl)) (aQ _)))) (fun _=>(@bI _ _ _ _ _ (@aa _ _ _ _ _ (pv 1) (@aa _ _ _ _ _ (pv 2) af rfl) rfl))))))))),?_⟩
  walk_at "r"
  refine az (ah.of hpx) (v:=.int x.1) rfl ?_
  walk_at "r"
  refine aK (ag.of wt.at_) (v:=.ref l0) (dI x0 (by rw[DA,hlg];rfl)) ?_
  walk_at "r"
  refine⟨l0,bs,_,p,x,rfl,hl0,hal,fun w hw=>(ok.ok w (List.mem_filter.mp hw).1).dd,husl,hpx,fun l1 ps1 H1 e1 hn1 hl1 hps1=>?_⟩
  have hp1l:=di hps1
  have hledl:(cN (ws.filter fun w=>decide (w.room=x.1)) x).length<=100:=by
   unfold cN
   rw[Dy]
   exact Eb (List.length_filter_le _ _) husl
  have hled:∀y,y∈cN (ws.filter fun w=>decide (w.room=x.1)) x↔∃w∈ws,cR w x.1 x.2=true/\y=(w.other,x.2+rz w.deed):=fun y=>by
   unfold cN
   constructor
   ·intro h
    obtain⟨w,hw,rfl⟩:=List.mem_map.mp h
    obtain⟨h1,h2⟩:=List.mem_filter.mp hw
    exact⟨w,(List.mem_filter.mp h1).1,h2,rfl⟩
   ·rintro⟨w,hw,ho,rfl⟩
    exact List.mem_map.mpr ⟨w,List.mem_filter.mpr ⟨List.mem_filter.mpr ⟨hw,decide_eq_true (hJ ho)⟩,ho⟩,rfl⟩
  generalize cN (ws.filter fun w=>decide (w.room=x.1)) x=zs at hps1 hp1l hledl hled
  walk_at "r"
  refine cI (ag.of hl1) ?_
  refine gy (xs:=List.map V.ref ps1) (fun i ys H'=>H'=H1/\∃cs,ys=List.map V.ref cs/\Paired (aD H1) cs ((zs.take i).filter fun y=>decide (y.2<=top))) (bw (by rw[Dy];omega)) ⟨rfl,[],rfl,.nil⟩ (fun i ys H' _ h=>by
   obtain⟨rfl,cs,rfl,hcs⟩:=h
   refine⟨ag.of hl1,?_⟩
   rw[Dy,di hcs]
   exact Eb (List.length_filter_le _ _) (by rw[List.length_take];omega)) ?_ ?_
  ·rintro i v ys H2 hx ⟨rfl,cs,rfl,hcs⟩
   rw[DA]at hx
   obtain⟨b,hb,rfl⟩:=DJ.mp hx
   obtain⟨y,hy,hby⟩:=fU hps1 hb
   walk_at "r"
   refine az (ah.of hby) (v:=.int y.2) rfl ?_
   walk_at "r"
   have step:(zs.take (i+1)).filter (fun y=>decide (y.2<=top))=(zs.take i).filter (fun y=>decide (y.2<=top))++if decide (y.2<=top)then[y]else[]:=by
    rw[List.take_add_one,hy,List.filter_append]
    congr 1
    show List.filter _ [y]=_
    rw[List.filter_cons]
    rfl
   cases hc:decide (y.2<=top)with
   | true=>
    refine aG ?_
    walk_at "r"
    refine⟨rfl,cs++[b],?_,?_⟩
    ·rw[DO];rfl
    ·rw[step,hc]
     exact i8 hcs hby
   | false=>
    refine aA ⟨rfl,cs,rfl,?_⟩
    rw[step,hc]
    simpa using hcs
  ·rintro ys H2 p9 ⟨hH,cs,rfl,hcs⟩ hp9
   subst hH
   rw[Dy,hp1l,DZ]at hcs
   have e2:=aZ (o:=.lst (List.map V.ref cs)) hp9
   have h9:(upd H2 p9 (.lst (List.map V.ref cs))) p9=_:=aH
   have hcs2:=bR (fun a x h=>e2 _ _ h) hcs
   have hfn:H p9=none:=by
    cases z:H p9 with
    | none=>rfl
    | some o=>rw[e1 _ _ z]at hp9;cases hp9
   have e02:=e1.trans e2
   generalize upd H2 p9 (.lst (List.map V.ref cs))=H3 at e2 h9 hcs2 e02 ⊢
   have hcl:=di hcs
   have hfl:=List.length_filter_le (fun y:Bfs.Pl=>decide (y.2<=top)) zs
   have first:∀y,y∈zs.filter (fun y=>decide (y.2<=top))↔∃w∈ws,cR w x.1 x.2=true/\y=(w.other,x.2+rz w.deed)/\y.2<=top:=fun y=>by
    rw[List.mem_filter,hled]
    constructor
    ·rintro⟨⟨w,h1,h2,h3⟩,h4⟩
     exact⟨w,h1,h2,h3,of_decide_eq_true h4⟩
    ·rintro⟨w,h1,h2,h3,h4⟩
     exact⟨⟨w,h1,h2,h3⟩,decide_eq_true h4⟩
   walk_at "r"
   refine az (ah.of (e02 _ _ hpx)) (v:=.int x.2) rfl ?_
   walk_at "r"
   cases hc:decide (x.2<top)with
   | true=>
    have hc':=of_decide_eq_true hc
    refine aG ?_
    walk_at "r"
    refine q p9 cs _ H3 e02 hfn h9 hcs2 (fun y=>?_) (by omega)
    rw[first]
    constructor
    ·exact fun h=>.inl h
    ·rintro(h | ⟨h,_⟩)
     ·exact h
     ·omega
   | false=>
    have hc':=of_decide_eq_false hc
    refine aA ?_
    walk_at "r"
    have hkl3:=e02 _ _ hkl
    have hkp3:=bR (fun a x h=>e02 _ _ h) hkp
    refine cI (ag.of hkl3) ?_
    refine gy (xs:=List.map V.ref kps) (fun i ys H'=>Ext H3 H'/\∃ds,ys=List.map V.ref ds/\Paired (aD H') ds ((((cM m.toNat g m.toNat).take i).filter fun z=>decide (z.1=x.1)).map fun z=>(z.2,top))) (bw (by rw[Dy];omega)) ⟨Ext.rfl' _,[],rfl,.nil⟩ (fun i ys H' _ h=>by
     obtain⟨e,ds,rfl,hds⟩:=h
     refine⟨ag.of (e _ _ hkl3),?_⟩
     rw[Dy,di hds,Dy]
     exact Eb (List.length_filter_le _ _) (by rw[List.length_take];omega)) ?_ ?_
    ·rintro i v ys H4 hx ⟨e4,ds,rfl,hds⟩
     rw[DA]at hx
     obtain⟨b,hb,rfl⟩:=DJ.mp hx
     obtain⟨z,hz,hbz⟩:=fU hkp3 hb
     have hbz4:aD H4 b z:=e4 _ _ hbz
     refine f6 (ah.of hbz4) rfl ?_
     walk_at "r"
     refine az (ah.of ((e02.trans e4) _ _ hpx)) (v:=.int x.1) rfl ?_
     walk_at "r"
     have step:(((cM m.toNat g m.toNat).take (i+1)).filter (fun z=>decide (z.1=x.1))).map (fun z=>(z.2,top))=(((cM m.toNat g m.toNat).take i).filter (fun z=>decide (z.1=x.1))).map (fun z=>(z.2,top))++if decide (z.1=x.1)then[(z.2,top)]else[]:=by
      rw[List.take_add_one,hz,List.filter_append,DO]
      congr 1
      show List.map _ (List.filter _ [z])=_
      rw[List.filter_cons]
      split<;>rfl
     cases hc2:decide (z.1=x.1)with
     | true=>
      refine aG ?_
      walk_at "r"
      refine aP fun t H5 e5 ht _=>?_
      refine⟨e4.trans e5,ds++[t],?_,?_⟩
      ·rw[DO];rfl
      ·rw[step,hc2]
       exact i8 (bR (fun a x h=>e5 _ _ h) hds) ht
     | false=>
      refine aA ⟨e4,ds,rfl,?_⟩
      rw[step,hc2]
      simpa using hds
    ·rintro ys H4 p8 ⟨e4,ds,rfl,hds⟩ hp8
     rw[Dy,hkpl,DZ]at hds
     have e5:=aZ (o:=.lst (List.map V.ref ds)) hp8
     have h8:(upd H4 p8 (.lst (List.map V.ref ds))) p8=_:=aH
     have hds5:=bR (fun a x h=>e5 _ _ h) hds
     have e35:=e4.trans e5
     generalize upd H4 p8 (.lst (List.map V.ref ds))=H5 at e5 h8 hds5 e35 ⊢
     have hdl:=di hds
     rw[Dy]at hdl
     have hfl2:=List.length_filter_le (fun z:Bfs.Pl=>decide (z.1=x.1)) (cM m.toNat g m.toNat)
     walk_at "r"
     refine jg (e35 _ _ h9) h8 (bw (by rw[Dy,Dy];omega)) (cj fun l' H6 e6 hl' hn'=>?_)
     rw[←DO]at hl'
     have e06:=(e02.trans e35).trans e6
     have hn0:H l'=none:=by
      cases z:H l' with
      | none=>rfl
      | some o=>rw[(e02.trans e35) _ _ z]at hn';cases hn'
     refine q l' (cs++ds) _ H6 e06 hn0 hl' (uT (bR (fun a x h=>(e35.trans e6) _ _ h) hcs2) (bR (fun a x h=>e6 _ _ h) hds5)) (fun y=>?_) (by rw[DP,Dy];omega)
     rw[DU,first]
     constructor
     ·rintro(h | h)
      ·exact .inl h
      ·obtain⟨z,hz,rfl⟩:=List.mem_map.mp h
       obtain⟨z1,z2⟩:=List.mem_filter.mp hz
       obtain⟨i,j,hi,hj,hg,rfl⟩:=gR.mp z1
       exact .inr ⟨by omega,i,j,(hkg i j hi hj).mp hg,(of_decide_eq_true z2).symm,rfl⟩
     ·rintro(h | ⟨_,i,j,hk,hxi,rfl⟩)
      ·exact .inl h
      ·right
       have hlt:=Kpt.lt ok.ok hk
       exact List.mem_map.mpr ⟨((i:Int),(j:Int)),List.mem_filter.mpr ⟨gR.mpr ⟨i,j,hlt.1,hlt.2,(hkg i j hlt.1 hlt.2).mpr hk,rfl⟩,decide_eq_true hxi.symm⟩,rfl⟩
structure RR(H0 H:Hp)(f rw:Addr)(qs:List Bfs.Pl):Prop where
 ext:Ext H0 H
 fn:H0 f=none
 rn:H0 rw=none
 d:∃kvs,H f=some (.dT kvs)/\Paired (fun(kv:List Key×V) z=>kv.1=bf z) kvs qs
 r:∃as,H rw=some (.lst (List.map V.ref as))/\Paired (aD H) as qs
theorem RR.step{H0 H H1:Hp}{f rw:Addr}{qs:List Bfs.Pl}(h:RR H0 H f rw qs)(e:Ext H H1):RR H0 H1 f rw qs:=by
 obtain⟨h1,h2,h3,⟨kvs,h4,h5⟩,as,h6,h7⟩:=h
 exact⟨h1.trans e,h2,h3,⟨kvs,e _ _ h4,h5⟩,as,e _ _ h6,bR (fun a x h=>e _ _ h) h7⟩
theorem qv{kvs:List (List Key×V)}{qs:List Bfs.Pl}(h:Paired (fun(kv:List Key×V) z=>kv.1=bf z) kvs qs){x:Bfs.Pl}(hx:x∉qs):bB kvs (bf x)=none:=
 md (key:=fun z=>z) (fun _ _ z=>z) h (by simpa using hx)
theorem wL{kvs:List (List Key×V)}{qs:List Bfs.Pl}(h:Paired (fun(kv:List Key×V) z=>kv.1=bf z) kvs qs)(nd:qs.Nodup){x:Bfs.Pl}(hx:x∈qs):∃v,bB kvs (bf x)=some v:=by
 obtain⟨v,hv,_⟩:=sL (key:=fun z=>z) (fun _ _ z=>z) h (by simpa using nd) hx
 exact⟨v,hv⟩
theorem RR.push{H0 H:Hp}{f rw th:Addr}{qs:List Bfs.Pl}{y:Bfs.Pl}{v:V}(h:RR H0 H f rw qs)(hy:y∉qs)(hth:aD H th y):
  ∃kvs,H f=some (.dT kvs)/\kvs.length=qs.length/\∃as,upd H f (.dT (putK kvs (bf y) v)) rw=some (.lst (List.map V.ref as))/\as.length=qs.length ∧
   RR H0 (upd (upd H f (.dT (putK kvs (bf y) v))) rw (.lst (List.map V.ref as++[.ref th]))) f rw (qs++[y]):=by
 obtain⟨h1,h2,h3,⟨kvs,h4,h5⟩,as,h6,h7⟩:=h
 have nf:∀xs,(HO.dT kvs)≠.tup xs:=fun xs z=>by cases z
 have nr:∀xs,(HO.lst (List.map V.ref as))≠.tup xs:=fun xs z=>by cases z
 have ne:rw≠f:=dJ h6 h4 (by intro z;cases z)
 have h6':upd H f (.dT (putK kvs (bf y) v)) rw=some (.lst (List.map V.ref as)):=by rw[aB ne];exact h6
 refine⟨kvs,h4,Paired.length h5,as,h6',Paired.length h7,cy (cy h1 h2) h3,h2,h3,⟨kvs++[(bf y,v)],?_,?_⟩,as++[th],?_,?_⟩
 ·rw[aB ne.symm,aH,oX _ (qv h5 hy)]
 ·exact Paired.snoc h5 rfl
 ·rw[aH,DO];rfl
 ·exact i8 (bR (fun a x z=>aD.put h6' nr (aD.put h4 nf z)) h7) (aD.put h6' nr (aD.put h4 nf hth))
structure RQ(S:Bfs.Pl->Bfs.Pl->Prop)(m T:Int)(x:Bfs.Pl)(qs:List Bfs.Pl)(i:Nat):Prop where
 nd:qs.Nodup
 has:x∈qs
 wk:∀z∈qs,∃n,Bfs.Rw S n x z
 ins:∀z∈qs,bP m T z
 cl:∀j,j<i->∀y,qs[j]?=some y->∀z,S y z->z∈qs
theorem RQ.done{S:Bfs.Pl->Bfs.Pl->Prop}{m T:Int}{x:Bfs.Pl}{qs:List Bfs.Pl}{i:Nat}(h:RQ S m T x qs i)(hi:qs.length<=i):∀z,z∈qs↔∃n,Bfs.Rw S n x z:=fun z=>by
 refine⟨h.wk z,fun⟨n,hn⟩=>?_⟩
 have go:∀(n:Nat) (a b:Bfs.Pl),Bfs.Rw S n a b->a∈qs->b∈qs:=by
  intro n a b hr
  induction hr with
  | nil=>exact fun h=>h
  | snoc _ hs ih=>
   intro ha
   obtain⟨j,hj⟩:=List.getElem?_of_mem (ih ha)
   have:=(DG.mp hj).1
   exact h.cl j (by omega) _ hj _ hs
 exact go n x z hn h.has
def qz(m T:Int)(S:Bfs.Pl->Bfs.Pl->Prop):List V->Hp->VK->Prop:=fun vs H Q=>∃p y,vs=[.ref p]/\aD H p y/\bP m T y/\∀l ps ys H',Ext H H'->H l=none->H' l=some (.lst (List.map V.ref ps))->Paired (aD H') ps ys->(∀z,z∈ys↔S y z)->ys.length<=300->Q (.ref l) H'
def vn(P:Program)(w:World)(K:Du)(mg:Str->Option Value)(base:Heap):Sp:=fun vs H Q _=>∃pa f pre x m T S,vs=[.ref pa,.ref f]/\aD H pa x/\bP m T x/\m<=12/\T<=2000/\FunR P w K mg base 5 f pre (qz m T S)/\pre H/\(∀H H',Ext H H'->pre H->pre H')/\(∀y z,bP m T y->S y z->bP m T z) ∧
 ∀l as qs H',Ext H H'->H' l=some (.lst (List.map V.ref as))->Paired (aD H') as qs->(∀z∈qs,bP m T z)->qs.length<=24012->(∀z,z∈qs↔∃n,Bfs.Rw S n x z)->Q (.ref l) H'
abbrev nz:Stmt:=stq 49
theorem rA:FnScope ["place","beside","found","row","looked","here","there"] ["place","beside"] (aI nz):=⟨rfl,rfl,rfl,by decide +kernel,rfl,by decide +kernel,by decide +kernel⟩
theorem AA{P:Program}{w:World}{K:Du}{mg:Str->Option Value}{base:Heap}(D:Dfn K mg "reached" nz ["place","beside"])(T:Blt mg):Cal P w K mg base "reached" 6 ["place","beside"] (vn P w K mg base):=by
 have nd:=(rA).nd
 refine D.ok rA (fun vs H Q E h=>?_) (fun X hX H vs Q E h=>?_)
 ·obtain⟨pa,f,pre,x,m,T,S,rfl,_⟩:=h;rfl
 ·obtain⟨f,cdv,A,outer,s,H0,E0,rfl,hr⟩:=hX
  obtain⟨pa,ff,pre,x,m,TT,S,rfl,hx,ix,hm12,hT,hF,hpre,hmono,hSin,q⟩:=h
  refine⟨_,(@aj _ _ _ _ _ (@aF _ _ 2 _ _ _ _ nd rfl (Or.inl rfl) (qF (fF hr) (pv 0) bC) rfl (Or.inl rfl))
    (@aj _ _ _ _ _ (@aF _ _ 3 _ _ _ _ nd rfl (Or.inl rfl) (@bE _ _ _ _ (@aa _ _ _ _ _ (pv 0) af rfl)) rfl (Or.inl rfl))
    (@aj _ _ _ _ _ (@aF _ _ 4 _ _ _ _ nd rfl (Or.inl rfl) ae rfl (Or.inl rfl))
    (@aj _ _ _ _ _ (f7 PassesOwn.never (aR dh (pv 4) (aW (cF K) rfl T.len_ PySem.boot_len (@aa _ _ _ _ _ (pv 3) af rfl)) (aQ _)) (@aj _ _ _ _ _ (@aF _ _ 5 _ _ _ _ nd rfl (Or.inl rfl) (@ai _ _ _ _ _ _ _ (aJ K) (pv 3) (pv 4) (fun _ _=>rfl)) rfl (Or.inl rfl))
    (@aj _ _ _ _ _ (kE (i:=4) nd rfl (Or.inl rfl) ae tU)
    (@ao _ _ _ (bJ PassesOwn.never rfl (cJ K (pA (P:=P) (w:=w) (K:=K) (mg:=mg) (base:=base) hr (pv 1) (@aa _ _ _ _ _ (pv 5) af rfl))) (aM (i:=6) nd rfl (Or.inl rfl)) (@ao _ _ _ (de (nT (tR (fF hr) (pv 6) (pv 2)) (by with_unfolding_all rfl)) (@aj _ _ _ _ _ (wD (fF hr) (pv 2) (pv 6) bC rfl)
    (@ao _ _ _ (bA (bN K DF DS DT bY (pv 3) (@aa _ _ _ _ _ (pv 6) af rfl))))) aV)))))))
    (@ao _ _ _ (@aE _ _ _ _ (pv 3))))))),?_⟩
  walk_at "r"
  refine fun f hfn=>?_
  walk_at "r"
  refine⟨pa,bf x,rfl,(aZ hfn) _ _ hx,aH,?_⟩
  walk_at "r"
  refine aP fun rw H3 e3 hrw hrn=>?_
  walk_at "r"
  have e13:Ext H (upd (upd H f (.dT [])) f (.dT [(bf x,.bl true)])):=fun b o hb=>by
   rw[aB (cw hb hfn),aB (cw hb hfn)];exact hb
  have hrn1:H rw=none:=by
   cases z:H rw with
   | none=>rfl
   | some o=>rw[e13 _ _ z]at hrn;cases hrn
  have hf3:H3 f=some (.dT [(bf x,.bl true)]):=e3 _ _ aH
  have rr0:RR H H3 f rw [x]:=⟨e13.trans e3,hfn,hrn1,⟨_,hf3,.cons rfl .nil⟩,[pa],hrw,.cons (e3 _ _ (e13 _ _ hx)) .nil⟩
  have rq0:RQ S m TT x [x] 0:=⟨by simp,by simp,fun z hz=>by rw[DI.mp hz];exact⟨0,.nil⟩,fun z hz=>by rw[DI.mp hz];exact ix,fun j hj=>absurd hj (Nat.not_lt_zero _)⟩
  clear hf3 hrn1 e13 hrw hrn e3
  refine gQ (fun M σ H'=>∃qs i k1 k2,RR H H' f rw qs/\RQ S m TT x qs i/\i<=qs.length/\M=24013-i/\σ=[some (.ref pa),some (.ref ff),some (.ref f),some (.ref rw),some (.int (i:Nat)),k1,k2]) (fun σ H'=>∃qs i k0 k1 k2,RR H H' f rw qs/\RQ S m TT x qs i/\qs.length<=i/\qs.length<=24012/\σ=[some (.ref pa),some (.ref ff),some (.ref f),some (.ref rw),k0,k1,k2]) 24013 ⟨[x],0,_,_,rr0,rq0,by simp,by simp,rfl⟩ ?_ ?_
  ·rintro M σ H4 ⟨qs,i,k1,k2,rr,rq,hi,rfl,rfl⟩
   have hqn:qs.length<=24012:=bP.few hm12 hT rq.nd rq.ins
   obtain⟨as,hr4,pr⟩:=rr.r
   have hal:=di pr
   walk_at "r"
   refine eo (ag.of hr4) ?_
   walk_at "r"
   by_cases hlt:i<qs.length
   rotate_left
   ·rw[decide_eq_false (show ¬((i:Nat):Int)<((List.map V.ref as).length:Nat) by rw[Dy,hal];omega)]
    refine aA ?_
    exact⟨qs,i,_,_,_,rr,rq,by omega,hqn,rfl⟩
   ·rw[decide_eq_true (show((i:Nat):Int)<((List.map V.ref as).length:Nat) by rw[Dy,hal];omega)]
    refine aG ?_
    refine⟨fun σ' H'=>∃qs' k1 k2,RR H H' f rw qs'/\RQ S m TT x qs' (i+1)/\i+1<=qs'.length/\qs'.length<=24012/\σ'=[some (.ref pa),some (.ref ff),some (.ref f),some (.ref rw),some (.int ((i+1:Nat):Int)),k1,k2],fun σ' H' ⟨qs',k1,k2,a1,a2,a3,a4,a5⟩=>⟨24013-(i+1),by omega,qs',i+1,k1,k2,a1,a2,a3,rfl,a5⟩,?_⟩
    have hqi:qs[i]?=some qs[i]:=Dz hlt
    generalize qs[i]=y at hqi
    obtain⟨b,hb,hby⟩:=Cj pr hqi
    have iy:=rq.ins y (DH hqi)
    walk_at "r"
    refine aK (ag.of hr4) (eW (v:=.ref b) (by rw[DA,hb];rfl)) ?_
    walk_at "r"
    refine rh ?_
    walk_at "r"
    have hpre4:=hmono _ _ rr.ext hpre
    refine⟨ff,pre,_,rfl,hF,hpre4,?_⟩
    walk_at "r"
    refine⟨hpre4,b,y,rfl,hby,iy,fun l ps ys H5 e5 hln hl5 hps hys hyl=>?_⟩
    have hpl:=di hps
    have rr5:=rr.step e5
    obtain⟨kvs5,hd5,_⟩:=rr5.d
    obtain⟨as5,hr5,_⟩:=rr5.r
    have nlf:l≠f:=fun z=>by
     obtain⟨kvs,hd,_⟩:=rr.d
     rw[z,hd]at hln
     cases hln
    have nlr:l≠rw:=fun z=>by rw[z,hr4]at hln;cases hln
    refine cI (ag.of hl5) ?_
    refine forL (xs:=List.map V.ref ps) (fun j σ H'=>∃qs' k2,RR H H' f rw qs'/\qs'.Nodup/\(∃new,qs'=qs++new)/\(∀z∈qs',(∃n,Bfs.Rw S n x z)/\bP m TT z)/\(∀a,a<j->∀z,ys[a]?=some z->z∈qs')/\(∀c o,c≠f->c≠rw->H5 c=some o->H' c=some o)/\σ=[some (.ref pa),some (.ref ff),some (.ref f),some (.ref rw),some (.int ((i+1:Nat):Int)),some (.ref b),k2]) ⟨qs,_,rr5,rq.nd,⟨[],by simp⟩,fun z hz=>⟨rq.wk z hz,rq.ins z hz⟩,fun a ha=>absurd ha (Nat.not_lt_zero _),fun c o _ _ h=>h,rfl⟩ (fun j σ H' _ h=>by obtain⟨_,_,_,_,_,_,_,kp,_⟩:=h;exact ag.of (kp _ _ nlf nlr hl5)) ?_ ?_
    ·rintro j v σ H6 hv ⟨qs6,k2,rr6,nd6,⟨new,hnew⟩,in6,cl6,kp6,rfl⟩
     rw[DA]at hv
     obtain⟨th,hth,rfl⟩:=DJ.mp hv
     obtain⟨z,hz,hthz5⟩:=fU hps hth
     have nth:∀{c:Addr} {o:HO},H5 c=some o->(∀xs,o≠.tup xs)->th≠c:=fun{c o} hc hn=>dJ hthz5 hc (fun e=>hn _ e.symm)
     have hthz:aD H6 th z:=kp6 _ _ (nth hd5 (fun xs e=>by cases e)) (nth hr5 (fun xs e=>by cases e)) hthz5
     have hSz:S y z:=(hys z).mp (DH hz)
     have hq6:qs6.length<=24012:=bP.few hm12 hT nd6 fun z hz=>(in6 z hz).2
     obtain⟨kvs,hd,pk⟩:=rr6.d
     walk_at "r"
     refine fk ?_
     walk_at "r"
     refine⟨f,_,rfl,cC.t hd (k:=bf z) hthz,?_⟩
     by_cases hin:z∈qs6
     ·obtain⟨v1,hv1⟩:=wL pk nd6 hin
      rw[hv1]
      refine rd_exb (aA ?_)
      walk_at "r"
      refine⟨qs6,_,rr6,nd6,⟨new,hnew⟩,in6,fun a ha z' hz'=>?_,kp6,rfl⟩
      by_cases haj:a<j
      ·exact cl6 a haj z' hz'
      ·have:a=j:=by omega
       subst this
       rw[hz]at hz'
       cases hz'
       exact hin
     ·rw[qv pk hin]
      refine rd_exb (aG ?_)
      obtain⟨kvs,hd',hkl,as7,hr7,hal7,rr8⟩:=rr6.push (v:=.bl true) hin hthz
      walk_at "r"
      refine⟨f,_,rfl,fL.t hd' (k:=bf z) hthz (gn (by omega)),?_⟩
      walk_at "r"
      refine⟨df (ag.of hr7),?_⟩
      walk_at "r"
      refine bV hr7 (gn (by rw[Dy];omega)) ?_
      walk_at "r"
      obtain⟨n0,hn0⟩:=rq.wk y (DH hqi)
      refine⟨qs6++[z],_,rr8,?_,⟨new++[z],by rw[hnew,List.append_assoc]⟩,fun z' hz'=>?_,fun a ha z' hz'=>?_,fun c o nf nr hc=>?_,rfl⟩
      ·rw[List.nodup_append]
       refine⟨nd6,by simp,fun a ha c hc e=>?_⟩
       rw[DI.mp hc]at e
       exact hin (e ▸ ha)
      ·rcases DU.mp hz' with h | h
       ·exact in6 z' h
       ·rw[DI.mp h]
        exact⟨⟨n0+1,.snoc hn0 hSz⟩,hSin y z iy hSz⟩
      ·by_cases haj:a<j
       ·exact List.mem_append_left _ (cl6 a haj z' hz')
       ·have:a=j:=by omega
        subst this
        rw[hz]at hz'
        cases hz'
        exact List.mem_append_right _ (by simp)
      ·rw[aB nr,aB nf]
       exact kp6 c o nf nr hc
    ·rintro σ H6 ⟨qs6,k2,rr6,nd6,⟨new,hnew⟩,in6,cl6,kp6,rfl⟩
     rw[Dy,hpl]at cl6
     have hq6:qs6.length<=24012:=bP.few hm12 hT nd6 fun z hz=>(in6 z hz).2
     have hle:qs.length<=qs6.length:=by rw[hnew,DP];omega
     refine⟨qs6,_,_,rr6,⟨nd6,by rw[hnew];exact List.mem_append_left _ rq.has,fun z hz=>(in6 z hz).1,fun z hz=>(in6 z hz).2,fun j hj y' hy' z hz=>?_⟩,by omega,hq6,rfl⟩
     have hjq:j<qs.length:=by omega
     have hy2:qs[j]?=some y':=by
      rw[hnew,DW hjq]at hy'
      exact hy'
     by_cases hji:j<i
     ·rw[hnew]
      exact List.mem_append_left _ (rq.cl j hji y' hy2 z hz)
     ·have:j=i:=by omega
      subst this
      rw[hqi]at hy2
      cases hy2
      obtain⟨a,ha⟩:=List.getElem?_of_mem ((hys z).mpr hz)
      exact cl6 a (DG.mp ha).1 z ha
  ·rintro σ H4 ⟨qs,i,k0,k1,k2,rr,rq,hi,hqn,rfl⟩
   obtain⟨as,hr4,pr⟩:=rr.r
   walk_at "r"
   exact q rw as qs H4 rr.ext hr4 pr rq.ins hqn (rq.done hi)
def Eu(H H':Hp):Prop:=∀b o,H b=some o->(∀f,o≠.ext f)->H' b=some o
theorem aN.eu{H H':Hp}{bs:List Addr}{ws:List Way}(e:Eu H H')(h:aN H bs ws):aN H' bs ws:=⟨h.1,fun j b w e1 e2=>e _ _ (h.2 j b w e1 e2) (fun f z=>by cases z)⟩
theorem aD.eu{H H':Hp}(e:Eu H H'){p:Addr}{x:Bfs.Pl}(h:aD H p x):aD H' p x:=e _ _ h (fun f z=>by cases z)
structure TL(H H':Hp)(q:Addr)(rs:List Addr)(n:Nat)(M:Nat->Nat->Bool):Prop where
 keep:∀b o,b∉rs->H b=some o->H' b=some o
 nd:rs.Nodup
 nq:q∉rs
 rows:Rows H' q rs n M
theorem TL.mark{H H1:Hp}{q r:Addr}{rs:List Addr}{n i j:Nat}{M:Nat->Nat->Bool}(h:TL H H1 q rs n M)(hi:rs[i]?=some r)(hj:j<n):TL H (upd H1 r (.lst ((aO n (M i)).set j (.bl true)))) q rs n (put2 M i j):=by
 have hm:=DH hi
 have nqr:q≠r:=fun z=>h.nq (z ▸ hm)
 refine⟨fun b o nb e=>?_,h.nd,h.nq,?_,fun a r' ha=>?_⟩
 ·have nbr:b≠r:=fun z=>nb (by rw[z];exact hm)
  rw[aB nbr]
  exact h.keep b o nb e
 ·rw[aB nqr]
  exact h.rows.1
 ·by_cases hai:a=i
  ·subst hai
   rw[hi]at ha
   cases ha
   rw[aH,lO _ _ hj]
   congr 2
   refine dP fun y _=>?_
   unfold put2
   by_cases hy:y=j
   ·rw[if_pos hy,if_pos ⟨rfl,hy⟩]
   ·rw[if_neg hy,if_neg fun z=>hy z.2]
  ·have nr:r'≠r:=fun z=>hai ((List.getElem?_inj (DG.mp ha).1 h.nd).mp (by rw[ha,hi,z]))
   rw[aB nr,h.rows.2 a r' ha]
   congr 2
   exact dP fun y _=>by unfold put2;rw[if_neg fun z=>hai z.1]
theorem yG{m:Int}{ws:List Way}(ok:HOuse m ws){top:Int}{x y:Bfs.Pl}(h0:0<=top)(hx:bP m top x)(h:LB ws m.toNat top x y):bP m top y:=by
 have m1:=ok.m1
 rcases h with⟨w,hw,ho,rfl,hle⟩ | ⟨_,i,j,hk,_,rfl⟩
 ·have okw:=ok.ok w hw
  refine⟨okw.o0,okw.o1,?_,hle⟩
  have hs:=(Bm okw.dd x).mp ho
  exact xU okw.dd hx.2.2.1 hs.2
 ·have:=Kpt.lt ok.ok hk
  exact⟨by show(0:Int)<=(j:Int);omega,by show(j:Int)<m;omega,h0,Int.le_refl _⟩
theorem WT.eu{H H':Hp}{c:Addr}{n:Nat}{ls:List Addr}{ws:List Way}(e:Eu H H')(h:WT H c n ls ws):WT H' c n ls ws:=
 ⟨e _ _ h.at_ (fun f z=>by cases z),h.len,fun r l hl=>by obtain⟨bs,h1,h2⟩:=h.it r l hl;exact⟨bs,e _ _ h1 (fun f z=>by cases z),h2.eu e⟩⟩
theorem dS.eu{H H':Hp}(e:Eu H H'){l:Addr}{n:Nat}{R:Nat->Nat->Prop}(h:dS H l n R):dS H' l n R:=by
 obtain⟨ps,g,h1,h2,h3⟩:=h
 exact⟨ps,g,e _ _ h1 (fun f z=>by cases z),bR (fun a x h=>h.eu e) h2,h3⟩
theorem nU{K:Du}{x q:Str}{line col:Nat}{H H':Hp}{rs:List Addr}(e:∀b o,b∉rs->H b=some o->H' b=some o)(hr:∀r∈rs,∃xs,H r=some (.lst xs))(h:dj K x q line col H):dj K x q line col H':=fun c T ht=>by
 have no:∀b o,H b=some o->(∀xs,o≠.lst xs)->H' b=some o:=fun b o hb nl=>e b o (fun z=>by obtain⟨xs,hx⟩:=hr b z;rw[hx]at hb;cases hb;exact nl _ rfl) hb
 rcases h c T ht with h | ⟨c',h1,h2⟩
 ·exact .inl (no _ _ h (fun xs z=>by cases z))
 ·exact .inr ⟨c',no _ _ h1 (fun xs z=>by cases z),no _ _ h2 (fun xs z=>by cases z)⟩
theorem Tbs.kp{K:Du}{H H':Hp}{rs:List Addr}(e:∀b o,b∉rs->H b=some o->H' b=some o)(hr:∀r∈rs,∃xs,H r=some (.lst xs))(h:Tbs K H):Tbs K H':=⟨nU e hr h.kept,nU e hr h.low,nU e hr h.risen⟩
def lU(K:Du):Sp:=fun vs H Q _=>∃vh m ws pa x,vs=[vh,.ref pa]/\bz H vh m ws/\HOuse m ws/\aD H pa x/\fI m x/\eM K/\Tbs K H/\∀q rs M H',Et H H'->Tbs K H'->Rows H' q rs m.toNat M->(rs.length:Int)=x.2+1->(∀i r:Nat,(i:Int)<=x.2->(r:Int)<m->(M i r=true↔∃n,Bfs.Rw (LB ws m.toNat x.2) n x ((r:Int),(i:Int))))->Q (.ref q) H'
abbrev nY:Stmt:=stq 51
theorem pO:FnScope ["house","place","ways","keeps","levels","room","number"] ["house","place"] (aI nY):=⟨rfl,rfl,rfl,by decide +kernel,rfl,by decide +kernel,by decide +kernel⟩
theorem wM{P:Program}{w:World}{K:Du}{mg:Str->Option Value}{base:Heap}(D:Dfn K mg "low_levels" nY ["house","place"])(T:Blt mg){c9 T9:Addr}(B:Tab K mg base "low_levels" c9 T9)(C_reached:Cal P w K mg base "reached" 6 ["place","beside"] (vn P w K mg base))(C_kept:Cal P w K mg base "kept" 7 ["house"] (oa K))(C_ways_by_room:Cal P w K mg base "ways_by_room" 1 ["house"] (pP K))(C_low_beside:Cal P w K mg base "low_beside" 4 ["ways","keeps","top","here"] (rm K)):Cal P w K mg base "low_levels" 8 ["house","place"] (lU K):=by
 have nd:=(pO).nd
 refine D.okL B pO (fun vs H Q E h=>?_) (fun X hX H vs Q E h=>?_)
 ·obtain⟨vh,m,ws,pa,x,rfl,_⟩:=h;rfl
 ·obtain⟨f,A,outer,s,H0,E0,rfl,hr⟩:=hX
  obtain⟨vh,m,ws,pa,x,rfl,hv,ok,hpx,ix,dis,htb,q⟩:=h
  have m1:=ok.m1
  have m12:=ok.m12
  obtain⟨i0,i1,i2,i3⟩:=id ix
  refine⟨_,(aj (aF (i:=2) nd rfl (Or.inr rfl) (aC C_ways_by_room hr (aa (pv 0) af)))
    (aj (aF (i:=3) nd rfl (Or.inr rfl) (aC C_kept hr (aa (pv 0) af)))
    (aj (fJ (i:=4) ["number"] [0] nd rfl (Or.inl rfl) (bQ rfl T.range_ (aa (aq aT (ai (ay K) (pv 1) ae (fun _ _=>rfl)) ae) af)) (fun _=>(aM (i:=0) (show(["number","house"]:List Str).Nodup from by decide +kernel) rfl (Or.inl rfl) (Or.inr rfl))) (fun _=>du) (fun _=>(aq oK (bE (aa bC af)) (ai (ay K) (pv 1) ae (fun _ _=>rfl)))))
    (aj (bJ PassesOwn.never rfl (cJ K (oD [2,3,1] C_reached hr (aa (pv 1) (aa (m9 rfl rfl B.hd B.blt B.gl (by decide +kernel) rfl rfl rfl) af)))) (gY (n:=2) K rfl (cA (aM (i:=5) nd rfl (Or.inl rfl)) (cA (aM (i:=6) nd rfl (Or.inl rfl)) fN))) (ao (fV bC (jf (ai (aJ K) (pv 4) (pv 6) (fun _ _=>rfl)) (pv 5) set_list))))
    (ao (aE (pv 4))))))),?_⟩
  walk_at "r"
  refine⟨vh,m,ws,rfl,hv,ok,fun c ls H1 e1 wt=>?_⟩
  walk_at "r"
  refine⟨vh,m,ws,rfl,hv.ext e1,ok,dis,htb.ext e1,fun kl H2 e2 tb2 prs=>?_⟩
  have e02:=e1.et.trans e2
  have wt2:=wt.et e2
  have hv2:=hv.et e02
  have hpx2:=hpx.et e02
  obtain⟨hp0,hq0,hvr,hh2,_⟩:=id hv2
  subst hvr
  walk_at "r"
  refine az (ah.of hpx2) (v:=.int x.2) rfl ?_
  walk_at "r"
  refine bS (by omega) ?_
  refine dC (fun i ys H'=>Ext H2 H'/\∃rs:List Addr,ys=List.map V.ref rs/\rs.length=i/\rs.Nodup/\∀r∈rs,H' r=some (.lst (aO m.toNat fun _=>false))/\H2 r=none) (bw (by omega)) ⟨Ext.rfl' _,[],rfl,rfl,List.nodup_nil,fun l h=>(nomatch h)⟩ (fun i ys H' _ h=>by obtain⟨_,ls,rfl,h,_⟩:=h;rw[Dy,h];exact DR _) ?_ ?_
  ·rintro i ys H3 hi ⟨e3,rs,rfl,hl,hnd,hrs⟩
   walk_at "r"
   refine aG ?_
   walk_at "r"
   refine aP fun z1 H4 e4 hz1 _=>?_
   walk_at "r"
   refine az (ah.of ((e3.trans e4) _ _ hh2)) (v:=.int m) rfl ?_
   refine mD hz1 (by omega) (bw (by simp;omega)) (cj fun z2 H5 e5 hz2 hn5=>?_)
   rw[pW]at hz2
   refine⟨(e3.trans e4).trans e5,rs++[z2],by rw[DO];rfl,by rw[DP,hl];rfl,?_,fun r hr=>?_⟩
   ·rw[List.nodup_append]
    refine⟨hnd,by simp,fun a ha b hb z=>?_⟩
    rw[DI.mp hb]at z
    subst z
    rw[e4 _ _ (hrs a ha).1]at hn5
    cases hn5
   ·rcases DU.mp hr with h | h
    ·exact⟨(e4.trans e5) _ _ (hrs r h).1,(hrs r h).2⟩
    ·rw[DI.mp h]
     refine⟨hz2,?_⟩
     cases y:H2 z2 with
     | none=>rfl
     | some o=>rw[(e3.trans e4) _ _ y]at hn5;cases hn5
  ·rintro ys H3 lq ⟨e3,rs,rfl,hrl,hnd,hrs⟩ hlq
   have e34:=aZ (o:=.lst (List.map V.ref rs)) hlq
   have hlq4:(upd H3 lq (.lst (List.map V.ref rs))) lq=_:=aH
   have nql:lq∉rs:=fun z=>by rw[(hrs lq z).1]at hlq;cases hlq
   have rows4:Rows (upd H3 lq (.lst (List.map V.ref rs))) lq rs m.toNat (fun _ _=>false):=⟨aH,fun i r h=>e34 _ _ (hrs r (DH h)).1⟩
   have e24:=e3.trans e34
   generalize upd H3 lq (.lst (List.map V.ref rs))=H4 at e34 hlq4 rows4 e24 ⊢
   have e04:=e02.trans e24.et
   have tb4:=tb2.ext e24
   have wt4:=wt2.ext e24
   have prs4:=prs.et e24.et
   have hpx4:aD H4 pa x:=e24 _ _ hpx2
   walk_at "r"
   show iE _ [2,3,1] _ (["house","place","ways","keeps","levels","room","number"]:List Str) _ _ _ _
   generalize PySem.Env.cells _=cells0
   refine kX ?_
   walk_at "r"
   refine lD ?_
   refine ma (x:="low_levels") tb4.low B.tin fun fl c' cl H5 hcl e5 ht5 ot hf hc'=>?_
   have t5:Tbs K H5:=⟨ot "kept" _ _ _ (fun c2 T2 e2=>dis "low_levels" (by simp) "kept" (by simp) (by decide +kernel) _ _ _ _ B.tin e2) tb4.kept,ht5,ot "risen" _ _ _ (fun c2 T2 e2=>dis "low_levels" (by simp) "risen" (by simp) (by decide +kernel) _ _ _ _ B.tin e2) tb4.risen⟩
   walk_at "r"
   refine⟨fun j hj=>?_,fun cp hlen hcp=>?_⟩
   ·simp only[DM,Ec,or_false]at hj
    rcases hj with rfl | rfl | rfl
    ·exact⟨_,rfl⟩
    ·exact⟨_,rfl⟩
    ·exact⟨_,rfl⟩
   obtain⟨⟨n1,d1,o1,v1⟩,⟨n2,d2,o2,v2⟩,⟨n3,d3,o3,v3⟩,rfl⟩:=Dd hlen
   obtain⟨hN1,hcc1,hσ1,hno1,u1,hdat1,hrel1⟩:=hcp 0 2 _ rfl rfl
   obtain⟨hN2,hcc2,hσ2,hno2,u2,hdat2,hrel2⟩:=hcp 1 3 _ rfl rfl
   obtain⟨hN3,hcc3,hσ3,hno3,u3,hdat3,hrel3⟩:=hcp 2 1 _ rfl rfl
   clear hcp hlen
   dsimp only at hN1 hcc1 hσ1 hno1 hdat1 hrel1 hN2 hcc2 hσ2 hno2 hdat2 hrel2 hN3 hcc3 hσ3 hno3 hdat3 hrel3
   have hN1':(Str.ofString "ways")=n1:=Option.some.inj hN1
   have hσ1':(V.ref c)=v1:=Option.some.inj (Option.some.inj hσ1)
   have hN2':(Str.ofString "keeps")=n2:=Option.some.inj hN2
   have hσ2':(V.ref kl)=v2:=Option.some.inj (Option.some.inj hσ2)
   have hN3':(Str.ofString "place")=n3:=Option.some.inj hN3
   have hσ3':(V.ref pa)=v3:=Option.some.inj (Option.some.inj hσ3)
   clear hN1 hσ1 hN2 hσ2 hN3 hσ3
   subst hN1'
   subst hσ1'
   subst hN2'
   subst hσ2'
   subst hN3'
   subst hσ3'
   obtain⟨a1,ha1⟩:=hcl.has (Str.ofString "ways") rfl
   obtain⟨a2,ha2⟩:=hcl.has (Str.ofString "keeps") rfl
   obtain⟨a3,ha3⟩:=hcl.has (Str.ofString "place") rfl
   have hb1:=(hcl.fr _ _ ha1).2
   have hb2:=(hcl.fr _ _ ha2).2
   have hb3:=(hcl.fr _ _ ha3).2
   rw[hcc1]at hb1
   rw[hcc2]at hb2
   rw[hcc3]at hb3
   cases hb1
   cases hb2
   cases hb3
   have n12:d1≠d2:=fun z=>absurd (hcl.inj _ _ _ ha1 (z ▸ ha2)) (by decide +kernel)
   have n13:d1≠d3:=fun z=>absurd (hcl.inj _ _ _ ha1 (z ▸ ha3)) (by decide +kernel)
   have n23:d2≠d3:=fun z=>absurd (hcl.inj _ _ _ ha2 (z ▸ ha3)) (by decide +kernel)
   obtain⟨cp,hcp⟩:∃cp:List Cap,cp=[⟨Str.ofString "ways",d1,o1,V.ref c⟩,⟨Str.ofString "keeps",d2,o2,V.ref kl⟩,⟨Str.ofString "place",d3,o3,V.ref pa⟩]:=⟨_,rfl⟩
   have hn5:∀b o9,(cellsOf cp).lookup b=some o9->H5 b=none:=fun b o9 hb=>by
    obtain⟨e,he,rfl,rfl⟩:=fo hb
    rw[hcp]at he
    simp only[DM,Ec,or_false]at he
    rcases he with rfl | rfl | rfl
    ·exact hno1
    ·exact hno2
    ·exact hno3
   have ex:=jS hn5
   have hcaps:Caps (bF (cellsOf cp) H5) cl cp:=by
    refine⟨fun e he=>?_,fun y g hy=>?_⟩
    ·rw[hcp]at he ⊢
     simp only[DM,Ec,or_false]at he
     rcases he with rfl | rfl | rfl
     ·exact⟨ha1,dO (by simp[cellsOf]),u1,hdat1,hrel1⟩
     ·refine⟨ha2,dO ?_,u2,hdat2,hrel2⟩
      show List.lookup d2 ((d1,o1)::(d2,o2)::[(d3,o3)])=some o2
      rw[List.lookup_cons,show (d2 == d1)=false from beq_eq_false_iff_ne.mpr (Ne.symm n12),List.lookup_cons,beq_self_eq_true]
     ·refine⟨ha3,dO ?_,u3,hdat3,hrel3⟩
      show List.lookup d3 ((d1,o1)::(d2,o2)::[(d3,o3)])=some o3
      rw[List.lookup_cons,show (d3 == d1)=false from beq_eq_false_iff_ne.mpr (Ne.symm n13),List.lookup_cons,show (d3 == d2)=false from beq_eq_false_iff_ne.mpr (Ne.symm n23),List.lookup_cons,beq_self_eq_true]
    ·have hm:=gE (hcl.fr y g hy).1
     rw[hcp]
     simp at hm
     rcases hm with rfl | rfl | rfl
     all_goals first | (rw[ha1]at hy;cases hy;exact⟨⟨Str.ofString "ways",d1,o1,V.ref c⟩,by simp,rfl,rfl⟩) | (rw[ha2]at hy;cases hy;exact⟨⟨Str.ofString "keeps",d2,o2,V.ref kl⟩,by simp,rfl,rfl⟩) | (rw[ha3]at hy;cases hy;exact⟨⟨Str.ofString "place",d3,o3,V.ref pa⟩,by simp,rfl,rfl⟩)
   have wt5:=(wt4.et e5).ext ex
   have prs5:=(prs4.et e5).et ex.et
   have hpx5:aD (bF (cellsOf cp) H5) pa x:=ex _ _ (hpx4.et e5)
   subst hcp
   have hF:=
    n5 (P:=P) (w:=w) (K:=K) (mg:=mg) (base:=base) (k:=4) hf hcl (["here"]:List Str) [⟨Str.ofString "ways",d1,o1,V.ref c⟩,⟨Str.ofString "keeps",d2,o2,V.ref kl⟩,⟨Str.ofString "place",d3,o3,V.ref pa⟩] (qz m x.2 (LB ws m.toNat x.2)) (fun H=>WT H c m.toNat ls ws/\dS H kl m.toNat (Kpt ws m.toNat)/\aD H pa x) ⟨rfl,rfl,rfl,by decide +kernel,by decide +kernel⟩ (fun _ _ _ us hl=>by obtain⟨u1,rfl⟩:=nh hl;rfl) (fun vs H Q h=>by obtain⟨p,y,rfl,_⟩:=h;rfl) (fun A outer s H vs Q hrL hpre hI hR=>by
     obtain⟨p,y,rfl,hpy,iy,hQ⟩:=hR
     have hlk:=hpre.2.2.look
     obtain⟨hI1,hI2,hI3⟩:=hI
     have eu:Eu H (aY (cellsOf [⟨Str.ofString "ways",d1,o1,V.ref c⟩,⟨Str.ofString "keeps",d2,o2,V.ref kl⟩,⟨Str.ofString "place",d3,o3,V.ref pa⟩]) H):=fun b o hb nf=>fh hlk hb nf
     have k1:=hI1.eu eu
     have k2:=hI2.eu eu
     have k3:=hI3.eu eu
     have kp:=hpy.eu eu
     refine⟨_,(aC C_low_beside hrL (aa (pv 1) (aa (pv 2) (aa (ai (ay K) (pv 3) ae (fun _ _=>rfl)) (aa (pv 0) af))))),?_⟩
     have hb:∀H',Ext (aY (cellsOf [⟨Str.ofString "ways",d1,o1,V.ref c⟩,⟨Str.ofString "keeps",d2,o2,V.ref kl⟩,⟨Str.ofString "place",d3,o3,V.ref pa⟩]) H) H'->Ext H (bF (cellsOf [⟨Str.ofString "ways",d1,o1,V.ref c⟩,⟨Str.ofString "keeps",d2,o2,V.ref kl⟩,⟨Str.ofString "place",d3,o3,V.ref pa⟩]) H'):=fun H' e=>pY hlk e
     have hu:∀l,(cellsOf [⟨Str.ofString "ways",d1,o1,V.ref c⟩,⟨Str.ofString "keeps",d2,o2,V.ref kl⟩,⟨Str.ofString "place",d3,o3,V.ref pa⟩]).lookup l=none->aY (cellsOf [⟨Str.ofString "ways",d1,o1,V.ref c⟩,⟨Str.ofString "keeps",d2,o2,V.ref kl⟩,⟨Str.ofString "place",d3,o3,V.ref pa⟩]) H l=H l:=fun l hl=>cq hl
     generalize aY (cellsOf [⟨Str.ofString "ways",d1,o1,V.ref c⟩,⟨Str.ofString "keeps",d2,o2,V.ref kl⟩,⟨Str.ofString "place",d3,o3,V.ref pa⟩]) H=HU at k1 k2 k3 kp hb hu ⊢
     generalize cellsOf [⟨Str.ofString "ways",d1,o1,V.ref c⟩,⟨Str.ofString "keeps",d2,o2,V.ref kl⟩,⟨Str.ofString "place",d3,o3,V.ref pa⟩]=cs at hb hu ⊢
     show jJ _ _ _ _ [some (.ref p),some (.ref c),some (.ref kl),some (.ref pa)] _ _
     walk_at "r"
     refine az (ah.of k3) (v:=.int x.2) rfl ?_
     walk_at "r"
     refine⟨c,kl,x.2,p,m,ws,ls,y,rfl,k1,k2,ok,kp,iy.1,iy.2.1,fun l ps ys H' e hn hl hps hys hyl=>?_⟩
     intro hnc
     have nl:cs.lookup l=none:=by
      cases z:cs.lookup l with
      | none=>rfl
      | some o=>rw[hnc l o z]at hl;cases hl
     have et:=jS hnc
     exact hQ l ps ys _ (hb H' e) (by rw[←hu l nl];exact hn) (et _ _ hl) (bR (fun a x h=>et _ _ h) hps) hys hyl)
   refine⟨pa,fl,_,x,m,x.2,LB ws m.toNat x.2,rfl,hpx5,⟨i0,i1,i2,Int.le_refl _⟩,m12,by omega,hF,⟨⟨ex _ _ hf,ex _ _ hc',hcaps⟩,wt5,prs5,hpx5⟩,fun H H' e h=>⟨h.1.ext e,h.2.1.ext e,h.2.2.1.et e.et,e _ _ h.2.2.2⟩,fun y z hy hS=>yG ok i2 hy hS,fun l as qs H6 e6 hl6 hps hin hqn hqs=>?_⟩
   clear hF
   obtain⟨b1,b2,b3,b4⟩:=held hn5 e6
   refine⟨b1,?_⟩
   have hl7:=b4 _ _ hl6 (fun f z=>by cases z)
   have hps7:Paired (aD (aY _ H6)) as qs:=bR (fun a x h=>b4 _ _ h (fun f z=>by cases z)) hps
   have rows7:=(rows4.et e5).ext b2
   have e07:=(e04.trans e5).trans b2.et
   have t7:=t5.ext b2
   generalize aY _ H6=H7 at hl7 hps7 rows7 e07 t7 ⊢
   have hal:=di hps7
   have fr0:∀r∈rs,∀o,H r=some o->(∀ps,o≠.tbl ps)->False:=fun r hr o ho no=>by
    have:=e02 _ _ ho no
    rw[(hrs r hr).2]at this
    cases this
   clear hcaps hn5 ex wt5 prs5 hpx5 e6 hl6 hps b1 b2 b3 b4 hf hc' hcl ha1 ha2 ha3 hcc1 hcc2 hcc3 hno1 hno2 hno3 hrel1 hrel2 hrel3 hdat1 hdat2 hdat3 n12 n13 n23 ot
   have tup1:∀(b:Addr) (z:Bfs.Pl),aD H7 b z->b∉rs:=fun b z hb hr=>by
    obtain⟨j,hj⟩:=List.getElem?_of_mem hr
    have h1:=rows7.2 j b hj
    have h2:H7 b=some (.tup [.int z.1,.int z.2]):=hb
    rw[h1]at h2
    cases h2
   have nl:l∉rs:=fun hr=>by
    obtain⟨j,hj⟩:=List.getElem?_of_mem hr
    have h1:=rows7.2 j l hj
    rw[hl7]at h1
    have h2:List.map V.ref as=aO m.toNat fun _=>false:=by
     injection h1 with h1
     injection h1
    have h3:=congrArg (fun z:List V=>z[0]?) h2
    try dsimp only at h3
    rw[eI _ (by omega),DA]at h3
    cases y:as[0]? with
    | none=>rw[y]at h3;cases h3
    | some a=>rw[y]at h3;cases h3
   refine cI (ag.of hl7) ?_
   refine forL (xs:=List.map V.ref as) (fun j σ H'=>∃M k1 k2,TL H7 H' lq rs m.toNat M/\(∀i r:Nat,M i r=true↔(((r:Nat):Int),((i:Nat):Int))∈qs.take j)/\σ=[some (.ref hp0),some (.ref pa),some (.ref c),some (.ref kl),some (.ref lq),k1,k2]) ⟨_,_,_,⟨fun _ _ _ e=>e,hnd,nql,rows7⟩,fun i r=>by simp,rfl⟩ (fun j σ H' _ h=>by obtain⟨M,k1,k2,tl,_⟩:=h;exact ag.of (tl.keep _ _ nl hl7)) ?_ ?_
   ·rintro j v σ H8 hx ⟨M,k1,k2,tl,hM,rfl⟩
    rw[DA]at hx
    obtain⟨b,hb,rfl⟩:=DJ.mp hx
    obtain⟨z,hz,hbz⟩:=fU hps7 hb
    obtain⟨z0,z1,z2,z3⟩:=hin z (DH hz)
    have hbz8:aD H8 b z:=tl.keep _ _ (tup1 b z hbz) hbz
    have hrx:z.2.toNat<rs.length:=by omega
    have hrg:rs[z.2.toNat]?=some rs[z.2.toNat]:=Dz hrx
    generalize rs[z.2.toNat]=ar at hrg
    have hrow:=tl.rows.2 _ _ hrg
    refine f6 (ah.of hbz8) rfl ?_
    walk_at "r"
    refine aK (ag.of tl.rows.1) (v:=.ref ar) (dI z2 (by rw[DA,hrg];rfl)) ?_
    walk_at "r"
    refine iq hrow (iW z0 (by rw[cD];omega)) ?_
    refine⟨_,_,_,tl.mark hrg (by omega),fun i r=>?_,rfl⟩
    rw[List.take_add_one,hz,DU]
    unfold put2
    split
    ·rename_i y
     simp only[true_iff]
     right
     simp
     refine Prod.ext ?_ ?_
     ·show((r:Nat):Int)=z.1
      omega
     ·show((i:Nat):Int)=z.2
      omega
    ·rename_i y
     rw[hM]
     constructor
     ·exact fun h=>.inl h
     ·rintro(h | h)
      ·exact h
      ·have h':(((r:Nat):Int),((i:Nat):Int))=z:=by simpa using h
       refine absurd ⟨?_,?_⟩ y
       ·rw[←h']
        show i=((i:Nat):Int).toNat
        omega
       ·rw[←h']
        show r=((r:Nat):Int).toNat
        omega
   ·rintro σ H8 ⟨M,k1,k2,tl,hM,rfl⟩
    rw[Dy,hal,DZ]at hM
    walk_at "r"
    refine q lq rs M H8 (fun b o hb no=>?_) (t7.kp tl.keep fun r hr=>?_) tl.rows (by omega) fun i r hi hr=>?_
    ·have h7:=e07 _ _ hb no
     exact tl.keep b o (fun hr=>fr0 b hr o hb no) h7
    ·obtain⟨j,hj⟩:=List.getElem?_of_mem hr
     exact⟨_,rows7.2 j r hj⟩
    ·rw[hM]
     exact hqs _
def vF(K:Du):Sp:=fun vs H Q _=>∃rl lv n f R,vs=[.ref rl,.ref lv]/\dS H rl n R/\H lv=some (.lst (aO n f))/\n<=12/\∀l g H',Ext H H'->H l=none->H' l=some (.lst (aO n g))->(∀j,j<n->(g j=true↔∃i,i<n/\f i=true/\R i j))->Q (.ref l) H'
abbrev kF:Stmt:=stq 52
theorem u4:FnScope ["rises","level","risen_to","p","q"] ["rises","level"] (aI kF):=⟨rfl,rfl,rfl,by decide +kernel,rfl,by decide +kernel,by decide +kernel⟩
theorem yd{P:Program}{w:World}{K:Du}{mg:Str->Option Value}{base:Heap}(D:Dfn K mg "next_level" kF ["rises","level"])(T:Blt mg):Cal P w K mg base "next_level" 1 ["rises","level"] (vF K):=by
 have nd:=(u4).nd
 refine D.ok u4 (fun vs H Q E h=>?_) (fun X hX H vs Q E h=>?_)
 ·obtain⟨rl,lv,n,f,R,rfl,_⟩:=h;rfl
 ·obtain⟨f,cdv,A,outer,s,H0,E0,rfl,hr⟩:=hX
  obtain⟨rl,lv,n,f',R,rfl,prs,hlv,hn,q⟩:=h
  obtain⟨ps,g,hrl,hps,hg⟩:=prs
  have hpl:=di hps
  refine⟨_,(@aj _ _ _ _ _ (@aF _ _ 2 _ _ _ _ nd rfl (Or.inl rfl) (aq oK (@bE _ _ _ _ (@aa _ _ _ _ _ bC af rfl)) (aW (cF K) rfl T.len_ PySem.boot_len (@aa _ _ _ _ _ (pv 1) af rfl))) rfl (Or.inl rfl))
    (@aj _ _ _ _ _ (bJ PassesOwn.never rfl (cJ K (pv 0)) (gY (n:=2) K rfl (cA (aM (i:=3) nd rfl (Or.inl rfl)) (cA (aM (i:=4) nd rfl (Or.inl rfl)) fN))) (@ao _ _ _ (de (bo (@ai _ _ _ _ _ _ _ (aJ K) (pv 1) (pv 3) (fun _ _=>rfl))) (@ao _ _ _ (@fV _ _ _ _ _ _ bC (jf (pv 2) (pv 4) set_list) rfl rfl rfl)) aV)))
    (@ao _ _ _ (@aE _ _ _ _ (pv 2))))),?_⟩
  walk_at "r"
  refine aP fun z1 H1 e1 hz1 _=>?_
  walk_at "r"
  refine eo (ag.of (e1 _ _ hlv)) ?_
  rw[cD]
  refine mD hz1 (by omega) (bw (by simp;omega)) (cj fun rt H2 e2 hrt hrn=>?_)
  rw[pW,DK]at hrt
  have e02:=e1.trans e2
  have hrt0:H rt=none:=by
   cases y:H rt with
   | none=>rfl
   | some o=>rw[e1 _ _ y]at hrn;cases hrn
  walk_at "r"
  refine cI (ag.of (e02 _ _ hrl)) ?_
  refine forL (xs:=List.map V.ref ps) (fun j σ H'=>∃h k1 k2,Ext H H'/\H' rt=some (.lst (aO n h))/\(∀b,h b=true↔∃z∈(cM n g n).take j,f' z.1.toNat=true/\z.2.toNat=b)/\σ=[some (.ref rl),some (.ref lv),some (.ref rt),k1,k2]) ⟨_,_,_,e02,hrt,fun b=>by simp,rfl⟩ (fun j σ H' _ h=>by obtain⟨_,_,_,e,_⟩:=h;exact ag.of (e _ _ hrl)) ?_ ?_
  ·rintro j v σ H3 hx ⟨h,k1,k2,e3,hr3,hh,rfl⟩
   rw[DA]at hx
   obtain⟨b,hb,rfl⟩:=DJ.mp hx
   obtain⟨z,hz,hbz⟩:=fU hps hb
   obtain⟨i,r,hi,hr,hgz,rfl⟩:=gR.mp (DH hz)
   have hbz3:aD H3 b (((i:Nat):Int),((r:Nat):Int)):=e3 _ _ hbz
   refine f6 (ah.of hbz3) rfl ?_
   walk_at "r"
   refine fk ?_
   walk_at "r"
   refine aK (ag.of (e3 _ _ hlv)) (dm (by omega) (by omega)) ?_
   rw[DK]
   walk_at "r"
   have step:∀P:Bfs.Pl->Prop,(∃z∈(cM n g n).take (j+1),P z)↔(∃z∈(cM n g n).take j,P z)\/P (((i:Nat):Int),((r:Nat):Int)):=fun P=>by
    rw[List.take_add_one,hz]
    constructor
    ·rintro⟨z,hm,hp⟩
     rcases DU.mp hm with hm | hm
     ·exact .inl ⟨z,hm,hp⟩
     ·have:z=(((i:Nat):Int),((r:Nat):Int)):=by simpa using hm
      subst this
      exact .inr hp
    ·rintro(⟨z,hm,hp⟩ | hp)
     ·exact⟨z,List.mem_append_left _ hm,hp⟩
     ·exact⟨_,List.mem_append_right _ (by simp),hp⟩
   cases hf:f' i with
   | false=>
    refine aA ?_
    walk_at "r"
    refine⟨h,_,_,e3,hr3,fun b=>?_,rfl⟩
    rw[hh,step]
    constructor
    ·exact fun y=>.inl y
    ·rintro(y | ⟨y,_⟩)
     ·exact y
     ·have y':f' ((i:Nat):Int).toNat=true:=y
      rw[DK,hf]at y'
      cases y'
   | true=>
    refine aG ?_
    walk_at "r"
    refine iq hr3 (iW (by omega) (by rw[cD];omega)) ?_
    rw[DK,lO _ _ hr]
    refine⟨_,_,_,cy e3 hrt0,aH,fun b=>?_,rfl⟩
    rw[step]
    by_cases hbr:b=r
    ·rw[if_pos hbr]
     simp only[true_iff]
     refine .inr ⟨?_,?_⟩
     ·show f' ((i:Nat):Int).toNat=true
      rw[DK];exact hf
     ·show((r:Nat):Int).toNat=b
      rw[DK];exact hbr.symm
    ·rw[if_neg hbr,hh]
     constructor
     ·exact fun y=>.inl y
     ·rintro(y | ⟨_,y⟩)
      ·exact y
      ·have y':((r:Nat):Int).toNat=b:=y
       rw[DK]at y'
       exact absurd y'.symm hbr
  ·rintro σ H3 ⟨h,k1,k2,e3,hr3,hh,rfl⟩
   rw[Dy,hpl,DZ]at hh
   walk_at "r"
   refine q rt h H3 e3 hrt0 hr3 fun b hb=>?_
   rw[hh]
   constructor
   ·rintro⟨z,hz,hf,rfl⟩
    obtain⟨i,r,hi,hr,hgz,rfl⟩:=gR.mp hz
    have hf':f' ((i:Nat):Int).toNat=true:=hf
    rw[DK]at hf'
    refine⟨i,hi,hf',?_⟩
    show R i ((r:Nat):Int).toNat
    rw[DK]
    exact(hg i r hi hr).mp hgz
   ·rintro⟨i,hi,hf,hR⟩
    refine⟨(((i:Nat):Int),((b:Nat):Int)),gR.mpr ⟨i,b,hi,hb,(hg i b hi hb).mpr hR,rfl⟩,?_,?_⟩
    ·show f' ((i:Nat):Int).toNat=true
     rw[DK];exact hf
    ·show((b:Nat):Int).toNat=b
     exact DK b
theorem iU{f:Nat->Bool}{lo i:Nat}{ys:List V}(h:ys=(row f lo i).map V.int)(hf:f (lo+i)=true):ys++[V.int ((lo+i:Nat):Int)]=(row f lo (i+1)).map V.int:=by
 rw[sZ,if_pos hf,DO,h]
 rfl
theorem iQ{f:Nat->Bool}{lo i:Nat}{ys:List V}(h:ys=(row f lo i).map V.int)(hf:f (lo+i)=false):ys=(row f lo (i+1)).map V.int:=by
 rw[sZ,if_neg (by rw[hf];decide),List.append_nil,h]
theorem sy{n:Nat}{f:Nat->Bool}{i:Int}(h0:0<=i)(h:i<=n):bX (aO n f) (some i) none=aO (n-i.toNat) fun k=>f (i.toNat+k):=by
 unfold bX
 rw[cD,HT.ny]
 have e:HT.aL n 0 (some i)=i.toNat:=by
  show(if i<0 then(i+(n:Int)).toNat else min i.toNat n)=i.toNat
  rw[if_neg (by omega)]
  omega
 rw[e]
 apply List.ext_getElem?
 intro k
 rcases Nat.lt_or_ge k (n-i.toNat)with hk | hk
 ·rw[List.getElem?_take_of_lt hk,List.getElem?_drop,eI _ (by omega),eI _ hk]
 ·rw[List.getElem?_eq_none (by rw[List.length_take,List.length_drop,cD];omega),List.getElem?_eq_none (by rw[cD];omega)]
def dB(n:Nat)(f:Nat->Bool):List PyData:=(List.range n).map fun i=>PyData.bool (f i)
theorem mG{α:Type}{R:V->PyData->Prop}{g:α->V}{k:α->PyData}(h:∀x,R (g x) (k x)):∀l:List α,Paired R (l.map g) (l.map k)
 | []=>.nil
 | x::l=>.cons (h x) (mG h l)
theorem il{H:Hp}{p:Addr}{n:Nat}{f:Nat->Bool}(h:H p=some (.lst (aO n f))):aU H 1 (.ref p) (.list (dB n f)):=
 .inr ⟨p,aO n f,dB n f,rfl,.inr ⟨h,rfl⟩,mG (fun i=>(rfl:f i=f i)) _⟩
theorem we{α:Type}(f g:α->Bool):∀l:List α,PyData.eqvAll (l.map fun i=>PyData.bool (f i)) (l.map fun i=>PyData.bool (g i))=l.all fun i=>f i == g i
 | []=>rfl
 | x::l=>by
  show(PyData.eqv (.bool (f x)) (.bool (g x)) && PyData.eqvAll (l.map fun i=>PyData.bool (f i)) (l.map fun i=>PyData.bool (g i)))=((f x == g x) && l.all fun i=>f i == g i)
  rw[we f g l]
  rfl
theorem jk{n:Nat}{f g:Nat->Bool}:PyData.eqv (.list (dB n f)) (.list (dB n g))=true↔∀i,i<n->f i=g i:=by
 show PyData.eqvAll (dB n f) (dB n g)=true↔_
 unfold dB
 rw[we,Ed]
 simp only[List.mem_range,beq_iff_eq]
theorem yO{n d:Nat}{g:Nat->Bool}(hd:d<=n)(hz:n % d=0):PyData.eqv (.list (dB (n-d) fun k=>g (d+k))) (.list (dB (n-d) g))=true↔Alike g 0 n d:=by
 rw[jk]
 constructor
 ·intro h
  refine⟨hz,fun i hi=>?_⟩
  have:=h i (by omega)
  rw[show 0+i+d=d+i by omega,this,Nat.zero_add]
 ·intro h i hi
  have:=h.2 i (by omega)
  rw[show 0+i+d=d+i by omega,Nat.zero_add]at this
  exact this
def qO(K:Du):Sp:=fun vs H Q _=>∃(p:Addr) (n:Nat) (g:Nat->Bool),vs=[.ref p]/\1<=n/\n<=20000/\H p=some (.lst (aO n g)) ∧
 ∀(d:Nat) H',Ext H H'->1<=d->d<=n->Alike g 0 n d->(∀e,1<=e->e<d->¬Alike g 0 n e)->Q (.int d) H'
abbrev lK:Stmt:=stq 16
theorem pZ:FnScope ["turn","whole","step"] ["turn"] (aI lK):=⟨rfl,rfl,rfl,by decide +kernel,rfl,by decide +kernel,by decide +kernel⟩
theorem AY{P:Program}{w:World}{K:Du}{mg:Str->Option Value}{base:Heap}(D:Dfn K mg "least_step" lK ["turn"])(T:Blt mg):Cal P w K mg base "least_step" 1 ["turn"] (qO K):=by
 have nd:=(pZ).nd
 refine D.ok pZ (fun vs H Q E h=>?_) (fun X hX H vs Q E h=>?_)
 ·obtain⟨p,n,g,rfl,_⟩:=h;rfl
 ·obtain⟨f,cdv,A,outer,s,H0,E0,rfl,hr⟩:=hX
  obtain⟨p,n,g,rfl,hn1,hn2,hp,q⟩:=h
  refine⟨_,(aj (aF (i:=1) nd rfl (Or.inl rfl) (aW (cF K) rfl T.len_ PySem.boot_len (aa (pv 0) af)))
    (aj (aF (i:=2) nd rfl (Or.inl rfl) ae)
    (aj (f7 PassesOwn.never (PW.pt (cc (aR eX (aq cz (pv 1) (pv 2)) ae (aQ _)) (cY (aR (oP hr) (gW (iz K) (pv 0) (fu (pv 2)) iR) (gW (iz K) (pv 0) iR (fu (aq cX (pv 1) (pv 2)))) (aQ _))))) (ao (kE (i:=2) nd rfl (Or.inl rfl) ae tU)))
    (ao (aE (pv 2)))))),?_⟩
  walk_at "r"
  refine eo (ag.of hp) ?_
  rw[cD]
  walk_at "r"
  refine gQ (fun m σ H'=>Ext H H'/\∃d:Nat,σ=[some (.ref p),some (.int n),some (.int d)]/\1<=d/\d<=n/\m=n-d/\∀e,1<=e->e<d->¬Alike g 0 n e)
   (fun σ H'=>Ext H H'/\∃d:Nat,σ=[some (.ref p),some (.int n),some (.int d)]/\1<=d/\d<=n/\Alike g 0 n d/\∀e,1<=e->e<d->¬Alike g 0 n e) (n-1)
   ⟨Ext.rfl' H,1,rfl,DR _,hn1,rfl,fun e h1 h2=>by omega⟩ ?_ ?_
  rotate_left
  ·rintro σ H' ⟨e,d,rfl,h1,h2,ha,hf⟩
   walk_at "r"
   exact q d H' e h1 h2 ha hf
  rintro m σ H' ⟨e,d,rfl,h1,h2,rfl,hf⟩
  have hp':=e _ _ hp
  have hmod:((n:Int) % (d:Int)=0)↔n % d=0:=by
   have:(n:Int) % (d:Int)=((n % d:Nat):Int):=rfl
   omega
  have next:∀H2,Ext H' H2->¬Alike g 0 n d->∃m',m'<n-d/\Ext H H2/\∃d':Nat,[some (V.ref p),some (V.int n),some (V.int ((d:Int)+1))]=[some (V.ref p),some (V.int n),some (V.int d')]/\1<=d'/\d'<=n/\m'=n-d'/\∀e,1<=e->e<d'->¬Alike g 0 n e:=by
   intro H2 e2 hna
   have hlt:d<n:=by
    rcases Nat.lt_or_ge d n with h | h
    ·exact h
    ·have:d=n:=by omega
     subst this
     exact absurd ⟨Nat.mod_self d,fun i hi=>by omega⟩ hna
   refine⟨n-(d+1),by omega,e.trans e2,d+1,rfl,by omega,by omega,rfl,fun e' h3 h4=>?_⟩
   rcases Nat.lt_or_ge e' d with h5 | h5
   ·exact hf e' h3 h5
   ·have:e'=d:=by omega
    subst this
    exact hna
  walk_at "r"
  by_cases hz:(n:Int) % (d:Int)=0
  ·rw[decide_eq_true hz]
   refine aA ?_
   walk_at "r"
   refine iM (ag.of hp') (cj fun p1 H1 e1 hp1 _=>?_)
   walk_at "r"
   refine iM (ag.of (e1 _ _ hp')) (cj fun p2 H2 e2 hp2 _=>?_)
   rw[sy (by omega) (by omega),DK]at hp1
   rw[zX (by omega) (by omega),show ((n:Int)-(d:Int)).toNat=n-d by omega]at hp2
   refine⟨1,1,_,_,il (e2 _ _ hp1),il hp2,by decide,?_⟩
   walk_at "r"
   have hal:=yO (g:=g) h2 (hmod.mp hz)
   cases hc:PyData.eqv (.list (dB (n-d) fun k=>g (d+k))) (.list (dB (n-d) g))with
   | true=>
    exact aA ⟨e.trans (e1.trans e2),d,rfl,h1,h2,hal.mp hc,hf⟩
   | false=>
    refine aG ⟨_,fun _ _ h=>h,?_⟩
    walk_at "r"
    exact next H2 (e1.trans e2) fun h=>by rw[hal.mpr h]at hc;cases hc
  ·rw[decide_eq_false hz]
   refine aG (aG ⟨_,fun _ _ h=>h,?_⟩)
   walk_at "r"
   exact next H' (Ext.rfl' H') fun h=>hz (hmod.mpr h.1)
theorem sG{f:Nat->Bool}{b n d:Nat}:Alike (fun k=>f (b+k)) 0 n d↔Alike f b n d:=by
 unfold Alike
 simp only[Nat.zero_add,Nat.add_assoc]
def tJ(K:Du):Sp:=fun vs H Q _=>∃(p:Addr) (b n:Nat) (f:Nat->Bool),vs=[.ref p,.int b]/\1<=n/\b+n<=20000/\H p=some (.lst (aO (b+n) f))/\bq f b n ∧
 ∀v (l d:Nat) H',Ext H H'->Least f d l->l<=b->d<=n->b0 H' v l d (row f 0 l) (row f l d)->Q v H'
abbrev lJ:Stmt:=stq 17
theorem rP:FnScope ["marks","base","step","low","once","again"] ["marks","base"] (aI lJ):=⟨rfl,rfl,rfl,by decide +kernel,rfl,by decide +kernel,by decide +kernel⟩
theorem yw{P:Program}{w:World}{K:Du}{mg:Str->Option Value}{base:Heap}(D:Dfn K mg "stair_of_marks" lJ ["marks","base"])(T:Blt mg)(C_least_step:Cal P w K mg base "least_step" 1 ["turn"] (qO K)):Cal P w K mg base "stair_of_marks" 2 ["marks","base"] (tJ K):=by
 have nd:=(rP).nd
 refine D.ok rP (fun vs H Q E h=>?_) (fun X hX H vs Q E h=>?_)
 ·obtain⟨p,b,n,f,rfl,_⟩:=h;rfl
 ·obtain⟨f,cdv,A,outer,s,H0,E0,rfl,hr⟩:=hX
  obtain⟨p,b,n,g,rfl,hn1,hbn,hp,hper,q⟩:=h
  refine⟨_,(aj (aF (i:=2) nd rfl (Or.inl rfl) (aC C_least_step hr (aa (gW (iz K) (pv 0) (fu (pv 1)) iR) af)))
    (aj (aF (i:=3) nd rfl (Or.inl rfl) (pv 1))
    (aj (f7 PassesOwn.never (PW.pt (jj (aR eL (pv 3) ae (aQ _)) (je (aR b9 (ai (aJ K) (pv 0) (aq cX (pv 3) ae) (fun _ _=>rfl)) (ai (aJ K) (pv 0) (aq aT (aq cX (pv 3) ae) (pv 2)) (fun _ _=>rfl)) (aQ _))))) (ao (kE (i:=3) nd rfl (Or.inl rfl) ae wV)))
    (aj (fJ (i:=4) ["number"] [0] nd rfl (Or.inl rfl) (bQ rfl T.range_ (aa (pv 3) af)) (fun _=>(aM (i:=0) (show(["number","marks"]:List Str).Nodup from by decide +kernel) rfl (Or.inl rfl) (Or.inr rfl))) (fun _=>(dG (bo (ai (aJ K) (pv 1) (pv 0) (fun _ _=>rfl))))) (fun _=>(pv 0)))
    (aj (fJ (i:=5) ["number"] [0] nd rfl (Or.inl rfl) (um rfl T.range_ (aa (pv 3) (aa (aq aT (pv 3) (pv 2)) af))) (fun _=>(aM (i:=0) (show(["number","marks"]:List Str).Nodup from by decide +kernel) rfl (Or.inl rfl) (Or.inr rfl))) (fun _=>(dG (bo (ai (aJ K) (pv 1) (pv 0) (fun _ _=>rfl))))) (fun _=>(pv 0)))
    (ao (aE (bI (aa (pv 3) (aa (pv 2) (aa (fD (iD K) rfl T.tuple_ PyProof.Rows.boot_tuple (aa (pv 4) af)) (aa (fD (iD K) rfl T.tuple_ PyProof.Rows.boot_tuple (aa (pv 5) af)) af)))))))))))),?_⟩
  walk_at "r"
  refine iM (ag.of hp) (cj fun p1 H1 e1 hp1 _=>?_)
  rw[sy (by omega) (by omega),DK,show b+n-b=n by omega]at hp1
  walk_at "r"
  refine⟨p1,n,_,rfl,hn1,by omega,hp1,fun d H2 e2 hd1 hd2 hal hfirst=>?_⟩
  have hal':=sG.mp hal
  have hfirst':∀e,1<=e->e<d->¬Alike g b n e:=fun e h3 h4 h5=>hfirst e h3 h4 (sG.mpr h5)
  have e02:Ext H H2:=e1.trans e2
  have hp2:=e02 _ _ hp
  walk_at "r"
  refine gQ (fun m σ H'=>H'=H2/\∃l:Nat,σ=[some (.ref p),some (.int b),some (.int d),some (.int l),none,none]/\l<=b/\m=l/\∀x,l<=x->x<b->g x=g (x+d))
   (fun σ H'=>H'=H2/\∃l:Nat,σ=[some (.ref p),some (.int b),some (.int d),some (.int l),none,none]/\l<=b/\(∀x,l<=x->x<b->g x=g (x+d))/\(l=0\/g (l-1)≠g (l-1+d))) b
   ⟨rfl,b,rfl,DR _,rfl,fun x h1 h2=>by omega⟩ ?_ ?_
  ·rintro m σ H' ⟨rfl,l,rfl,hl,rfl,hdown⟩
   walk_at "r"
   by_cases h0:(0:Int)<(m:Int)
   ·rw[decide_eq_true h0]
    refine aG ?_
    walk_at "r"
    refine aK (ag.of hp2) (dm (by omega) (by omega)) ?_
    walk_at "r"
    refine aK (ag.of hp2) (dm (by omega) (by omega)) ?_
    walk_at "r"
    rw[show ((m:Int)-1).toNat=m-1 by omega,show ((m:Int)-1+(d:Int)).toNat=m-1+d by omega]
    cases hc:g (m-1) == g (m-1+d)with
    | true=>
     refine aG ⟨_,fun _ _ h=>h,?_⟩
     walk_at "r"
     refine⟨m-1,by omega,rfl,m-1,by rw[show ((m-1:Nat):Int)=(m:Int)-1 by omega];rfl,by omega,rfl,fun x h1 h2=>?_⟩
     rcases Nat.lt_or_ge x m with h3 | h3
     ·have:x=m-1:=by omega
      rw[this]
      exact eq_of_beq hc
     ·exact hdown x h3 h2
    | false=>exact aA ⟨rfl,m,rfl,hl,hdown,.inr fun h=>by rw[h]at hc;simp at hc⟩
   ·rw[decide_eq_false h0]
    exact aA (aA ⟨rfl,m,rfl,hl,hdown,.inl (by omega)⟩)
  rintro σ H' ⟨rfl,l,rfl,hl,hdown,hstop⟩
  have hleast:Least g d l:=Ag hper hn1 hd1 hal' hfirst' hl hdown hstop
  walk_at "r"
  refine bS (by omega) ?_
  rw[DK]
  refine dC (fun i ys H3=>H3=H'/\ys=(row g 0 i).map V.int) (bw (by omega)) ⟨rfl,rfl⟩ ?_ ?_ ?_
  ·rintro i ys H3 _ ⟨rfl,rfl⟩
   rw[Dy];exact fK g 0 i
  ·rintro i ys H3 hi ⟨rfl,hy⟩
   walk_at "r"
   refine aK (ag.of hp2) (dm (by omega) (by omega)) ?_
   walk_at "r"
   rw[show ((0:Int)+(i:Int)).toNat=i by omega]
   have e0:g (0+i)=g i:=by rw[Nat.zero_add]
   cases hg:g i with
   | true=>
    refine aG ?_
    walk_at "r"
    refine⟨rfl,?_⟩
    rw[←iU hy (e0.trans hg)]
    congr 3
    all_goals omega
   | false=>exact aA ⟨rfl,iQ hy (e0.trans hg)⟩
  rintro ys H3 p3 ⟨rfl,rfl⟩ hp3
  have e4:Ext H3 (upd H3 p3 (.lst ((row g 0 l).map V.int))):=aZ hp3
  have h4:(upd H3 p3 (.lst ((row g 0 l).map V.int))) p3=_:=aH
  generalize upd H3 p3 (.lst ((row g 0 l).map V.int))=H4 at e4 h4
  have hp4:=e4 _ _ hp2
  walk_at "r"
  refine vA (by omega) ?_
  rw[show ((l:Int)+(d:Int)-(l:Int)).toNat=d by omega]
  refine dC (fun i ys H5=>H5=H4/\ys=(row g l i).map V.int) (bw (by omega)) ⟨rfl,rfl⟩ ?_ ?_ ?_
  ·rintro i ys H5 _ ⟨rfl,rfl⟩
   rw[Dy];exact fK g _ i
  ·rintro i ys H5 hi ⟨rfl,hy⟩
   walk_at "r"
   refine aK (ag.of hp4) (dm (by omega) (by omega)) ?_
   walk_at "r"
   rw[show ((l:Int)+(i:Int)).toNat=l+i by omega]
   cases hg:g (l+i)with
   | true=>
    refine aG ?_
    walk_at "r"
    refine⟨rfl,?_⟩
    rw[←iU hy hg]
    congr 3
    all_goals omega
   | false=>exact aA ⟨rfl,iQ hy hg⟩
  rintro ys H5 p5 ⟨rfl,rfl⟩ hp5
  have e6:Ext H5 (upd H5 p5 (.lst ((row g l d).map V.int))):=aZ hp5
  have h6:(upd H5 p5 (.lst ((row g l d).map V.int))) p5=_:=aH
  generalize upd H5 p5 (.lst ((row g l d).map V.int))=H6 at e6 h6
  walk_at "r"
  refine iB (ag.of (e6 _ _ h4)) (cj fun t1 H7 e7 ht1 _=>?_)
  walk_at "r"
  refine iB (ag.of (e7 _ _ h6)) (cj fun t2 H8 e8 ht2 _=>?_)
  walk_at "r"
  refine aP fun t H9 e9 ht _=>?_
  exact q _ l d H9 (e02.trans (e4.trans (e6.trans (e7.trans (e8.trans e9))))) hleast hl hd2 ⟨t,t1,t2,rfl,ht,e9 _ _ (e8 _ _ ht1),e9 _ _ ht2⟩
open Classical in
def gH(n:Nat)(R:Nat->Nat->Prop)(f:Nat->Bool):Nat->Bool:=fun j=>decide (∃i,i<n/\f i=true/\R i j)
theorem iS{n:Nat}{R:Nat->Nat->Prop}{f:Nat->Bool}{j:Nat}:gH n R f j=true↔∃i,i<n/\f i=true/\R i j:=by
 unfold gH
 simp
def br(n:Nat)(R:Nat->Nat->Prop)(f:Nat->Bool):Nat->Nat->Bool
 | 0=>f
 | k+1=>gH n R (br n R f k)
def dA(n:Nat)(f g:Nat->Bool):Prop:=∀j,j<n->f j=g j
theorem xD{n:Nat}{R:Nat->Nat->Prop}{f g:Nat->Bool}(h:dA n f g):dA n (gH n R f) (gH n R g):=fun j _=>by
 rw[Ef,iS,iS]
 constructor
 ·rintro⟨i,hi,h1,h2⟩
  exact⟨i,hi,by rw[←h i hi];exact h1,h2⟩
 ·rintro⟨i,hi,h1,h2⟩
  exact⟨i,hi,by rw[h i hi];exact h1,h2⟩
theorem qc{n:Nat}{R:Nat->Nat->Prop}{f:Nat->Bool}{a k:Nat}(h:dA n (br n R f a) (br n R f k)):∀t,dA n (br n R f (a+t)) (br n R f (k+t))
 | 0=>h
 | t+1=>xD (qc h t)
def dQ(f:Nat->Bool):Nat->Nat
 | 0=>0
 | n+1=>dQ f n+if f n then 2 ^ n else 0
theorem jL(f:Nat->Bool):∀n,dQ f n<2 ^ n
 | 0=>by simp[dQ]
 | n+1=>by
  have:=jL f n
  have h2:2 ^ (n+1)=2 ^ n+2 ^ n:=by rw[Nat.pow_succ];omega
  show dQ f n+(if f n then 2 ^ n else 0)<_
  split<;>omega
theorem rQ{f g:Nat->Bool}:∀n,dQ f n=dQ g n->dA n f g
 | 0,_=>fun j hj=>absurd hj (Nat.not_lt_zero _)
 | n+1,h=>by
  have h1:=jL f n
  have h2:=jL g n
  have h':dQ f n+(if f n then 2 ^ n else 0)=dQ g n+(if g n then 2 ^ n else 0):=h
  have key:f n=g n/\dQ f n=dQ g n:=by
   cases hf:f n<;>cases hg:g n<;>simp[hf,hg]at h' ⊢<;>omega
  intro j hj
  by_cases hjn:j<n
  ·exact rQ n key.2 j hjn
  ·have:j=n:=by omega
   subst this
   exact key.1
theorem wJ{n k:Nat}{F:Nat->Nat->Bool}(hn:n<=12)(h:∀a b,a<b->b<k->¬dA n (F a) (F b)):k<=4096:=by
 have h1:=Bfs.ia 4096 ((List.range k).map fun a=>dQ (F a) n) (by
  rw[List.nodup_iff_pairwise_ne,List.pairwise_map,List.pairwise_iff_getElem]
  intro i j hi hj hij e
  simp at hi hj e
  exact h i j hij hj (rQ n e)) (fun x hx=>by
  obtain⟨a,_,rfl⟩:=List.mem_map.mp hx
  exact Ea (jL (F a) n) (Eb (Nat.pow_le_pow_right (by omega) hn) (by decide)))
 simpa using h1
def eR(n:Nat)(R:Nat->Nat->Prop)(top:Nat)(M:Nat->Nat->Bool):Nat->Nat->Bool:=fun i=>if i<top then M i else br n R (M top) (i-top)
theorem Dh{α:Type}{xs:List α}{k:Nat}(h:xs.length=k+1){v:α}(hv:xs[k]?=some v):bt xs (-1)=some v:=by
 unfold bt ee
 rw[h,if_neg (by omega),if_pos (by omega)]
 show xs[(-1+((k+1:Nat):Int)).toNat]?=some v
 rw[show (-1+((k+1:Nat):Int)).toNat=k by omega]
 exact hv
theorem zM{xs:List V}{k:Nat}(h:xs.length=k+1):bX xs none (some (-1))=xs.take k:=by
 unfold bX
 have e1:HT.aL xs.length xs.length (some (-1))=k:=by
  show(if(-1:Int)<0 then(-1+(xs.length:Int)).toNat else min (-1:Int).toNat xs.length)=_
  rw[if_pos (by decide)]
  omega
 have e2:HT.aL xs.length 0 none=0:=rfl
 rw[e1,e2]
 simp
theorem lC{H:Hp}{n:Nat}:∀{hs:List Addr} {F:Nat->Nat->Bool},(∀(a:Nat) (r:Addr),hs[a]?=some r->H r=some (.lst (aO n (F a))))->Paired (aU H 1) (List.map V.ref hs) ((List.range hs.length).map fun a=>PyData.list (dB n (F a)))
 | [],_,_=>.nil
 | r::hs,F,h=>by
  rw[DY,List.range_succ_eq_map,List.map_cons,List.map_cons,List.map_map]
  exact .cons (il (h 0 r rfl)) (lC (F:=fun a=>F (a+1)) fun a r' hr=>h (a+1) r' (by simpa using hr))
def ur(K:Du):Sp:=fun vs H Q _=>∃vh m ws pa x,vs=[vh,.ref pa]/\bz H vh m ws/\HOuse m ws/\aD H pa x/\fI m x/\eM K/\Tbs K H/\∀p lq rs (b N:Nat) M H',Et H H'->Tbs K H'->H' p=some (.tup [.ref lq,.int (b:Nat)])->Rows H' lq rs m.toNat (eR m.toNat (aX ws m.toNat) x.2.toNat M)->rs.length=b+N->1<=N->b+N<=5200->(∀r,r<m.toNat->bq (fun i=>eR m.toNat (aX ws m.toNat) x.2.toNat M i r) b N) →
 (∀i r:Nat,(i:Int)<=x.2->(r:Int)<m->(M i r=true↔∃n,Bfs.Rw (LB ws m.toNat x.2) n x ((r:Int),(i:Int))))->Q (.ref p) H'
abbrev nk:Stmt:=stq 53
theorem wm:FnScope ["house","place","rises","low","high","level"] ["house","place"] (aI nk):=⟨rfl,rfl,rfl,by decide +kernel,rfl,by decide +kernel,by decide +kernel⟩
theorem w6{P:Program}{w:World}{K:Du}{mg:Str->Option Value}{base:Heap}(D:Dfn K mg "all_levels" nk ["house","place"])(T:Blt mg)(C_next_level:Cal P w K mg base "next_level" 1 ["rises","level"] (vF K))(C_low_levels:Cal P w K mg base "low_levels" 8 ["house","place"] (lU K))(C_risen:Cal P w K mg base "risen" 7 ["house"] (kQ K)):Cal P w K mg base "all_levels" 9 ["house","place"] (ur K):=by
 have nd:=(wm).nd
 refine D.ok wm (fun vs H Q E h=>?_) (fun X hX H vs Q E h=>?_)
 ·obtain⟨vh,m,ws,pa,x,rfl,_⟩:=h;rfl
 ·obtain⟨f,cdv,A,outer,s,H0,E0,rfl,hr⟩:=hX
  obtain⟨vh,m,ws,pa,x,rfl,hv,ok,hpx,ix,dis,htb,q⟩:=h
  have m1:=ok.m1
  have m12:=ok.m12
  obtain⟨i0,i1,i2,i3⟩:=id ix
  refine⟨_,(aj (aF (i:=2) nd rfl (Or.inl rfl) (aC C_risen hr (aa (pv 0) af)))
    (aj (aF (i:=3) nd rfl (Or.inl rfl) (aC C_low_levels hr (aa (pv 0) (aa (pv 1) af))))
    (aj (aF (i:=4) nd rfl (Or.inl rfl) (bE (aa (ai (aJ K) (pv 3) (ik iH ae) (fun _ _=>rfl)) af)))
    (aj (aF (i:=5) nd rfl (Or.inl rfl) (aC C_next_level hr (aa (pv 2) (aa (ai (aJ K) (pv 3) (ik iH ae) (fun _ _=>rfl)) af))))
    (aj (f7 PassesOwn.never (aR (tp hr) (pv 5) (pv 4) (by with_unfolding_all rfl)) (aj (bA (bN K DF DS DT bY (pv 4) (aa (pv 5) af)))
    (ao (aF (i:=5) nd rfl (Or.inl rfl) (aC C_next_level hr (aa (pv 2) (aa (pv 5) af)))))))
    (ao (aE (bI (aa (aq i9 (gW (iz K) (pv 3) iR (fu (ik iH ae))) (pv 4)) (aa (aq aT (ai (ay K) (pv 1) ae (fun _ _=>rfl)) (bN K DF PySem.F.slot_list_index PySem.F.type_list_index (Cb hr) (pv 4) (aa (pv 5) af))) af)))))))))),?_⟩
  walk_at "r"
  refine⟨vh,m,ws,rfl,hv,ok,dis,htb,fun rl H1 e1 tb1 prs=>?_⟩
  walk_at "r"
  refine⟨vh,m,ws,pa,x,rfl,hv.et e1,ok,hpx.et e1,ix,dis,tb1,fun lq rs M H2 e2 tb2 rows hrl hM=>?_⟩
  have prs2:=prs.et e2
  have hpx2:=(hpx.et e1).et e2
  have hrl':rs.length=x.2.toNat+1:=by omega
  have hlast:rs[x.2.toNat]?=some rs[x.2.toNat]:=Dz (by omega)
  generalize rs[x.2.toNat]=r0 at hlast
  have hr0:=rows.2 _ _ hlast
  have hat:bt (List.map V.ref rs) (-1)=some (.ref r0):=Dh (k:=x.2.toNat) (by rw[Dy];exact hrl') (by rw[DA,hlast];rfl)
  walk_at "r"
  refine aK (ag.of rows.1) hat ?_
  walk_at "r"
  refine aP fun hq H3 e3 hhq hhn=>?_
  walk_at "r"
  refine aK (ag.of (e3 _ _ rows.1)) hat ?_
  walk_at "r"
  refine⟨rl,r0,m.toNat,_,_,rfl,prs2.et e3.et,e3 _ _ hr0,by omega,fun lv g H4 e4 hln hl4 hg=>?_⟩
  have e24:=e3.trans e4
  have hl4':H4 lv=some (.lst (aO m.toNat (br m.toNat (aX ws m.toNat) (M x.2.toNat) 1))):=by
   rw[hl4]
   congr 2
   exact dP fun j hj=>by
    rw[Ef]
    exact(hg j hj).trans iS.symm
  clear hl4 hg
  walk_at "r"
  refine gQ (fun mm σ H'=>∃hs lv k,Ext H2 H'/\H' hq=some (.lst (List.map V.ref hs))/\hs.length=k+1/\(∀(a:Nat) (r:Addr),hs[a]?=some r->H' r=some (.lst (aO m.toNat (br m.toNat (aX ws m.toNat) (M x.2.toNat) a))))/\(∀a b,a<b->b<k+1->¬dA m.toNat (br m.toNat (aX ws m.toNat) (M x.2.toNat) a) (br m.toNat (aX ws m.toNat) (M x.2.toNat) b))/\H' lv=some (.lst (aO m.toNat (br m.toNat (aX ws m.toNat) (M x.2.toNat) (k+1))))/\mm=4097-k/\σ=[some vh,some (.ref pa),some (.ref rl),some (.ref lq),some (.ref hq),some (.ref lv)])
   (fun σ H'=>∃hs lv k a,Ext H2 H'/\H' hq=some (.lst (List.map V.ref hs))/\hs.length=k+1/\(∀(a:Nat) (r:Addr),hs[a]?=some r->H' r=some (.lst (aO m.toNat (br m.toNat (aX ws m.toNat) (M x.2.toNat) a))))/\(∀a b,a<b->b<k+1->¬dA m.toNat (br m.toNat (aX ws m.toNat) (M x.2.toNat) a) (br m.toNat (aX ws m.toNat) (M x.2.toNat) b))/\H' lv=some (.lst (aO m.toNat (br m.toNat (aX ws m.toNat) (M x.2.toNat) (k+1))))/\a<k+1/\dA m.toNat (br m.toNat (aX ws m.toNat) (M x.2.toNat) a) (br m.toNat (aX ws m.toNat) (M x.2.toNat) (k+1))/\k+1<=4096/\σ=[some vh,some (.ref pa),some (.ref rl),some (.ref lq),some (.ref hq),some (.ref lv)])
   4097 ⟨[r0],lv,0,e24,e4 _ _ hhq,rfl,fun a r ha=>by
    cases a with
    | zero=>cases ha;exact e24 _ _ hr0
    | succ a=>simp at ha,fun a b h1 h2=>by omega,hl4',rfl,rfl⟩ ?_ ?_
  ·rintro mm σ H5 ⟨hs,lv,k,e5,hq5,hsl,hrow,hun,hlv,rfl,rfl⟩
   have hk:=wJ (F:=br m.toNat (aX ws m.toNat) (M x.2.toNat)) (show m.toNat<=12 by omega) hun
   have hrep:=lC hrow
   walk_at "r"
   refine vJ (il hlv) hq5 hrep (by omega) ?_
   have hany:((List.range hs.length).map fun a=>PyData.list (dB m.toNat (br m.toNat (aX ws m.toNat) (M x.2.toNat) a))).any (fun e=>PyData.eqv e (.list (dB m.toNat (br m.toNat (aX ws m.toNat) (M x.2.toNat) (k+1)))))=true↔∃a,a<k+1/\dA m.toNat (br m.toNat (aX ws m.toNat) (M x.2.toNat) a) (br m.toNat (aX ws m.toNat) (M x.2.toNat) (k+1)):=by
    rw[List.any_map,Ee,hsl]
    constructor
    ·rintro⟨a,ha,he⟩
     exact⟨a,List.mem_range.mp ha,jk.mp he⟩
    ·rintro⟨a,ha,he⟩
     exact⟨a,List.mem_range.mpr ha,jk.mpr he⟩
   generalize ((List.range hs.length).map fun a=>PyData.list (dB m.toNat (br m.toNat (aX ws m.toNat) (M x.2.toNat) a))).any (fun e=>PyData.eqv e (.list (dB m.toNat (br m.toNat (aX ws m.toNat) (M x.2.toNat) (k+1)))))=bb at hany ⊢
   cases bb with
   | true=>
    obtain⟨a,ha,hsame⟩:=hany.mp rfl
    refine⟨_,rfl,aA ?_⟩
    exact⟨hs,lv,k,a,e5,hq5,hsl,hrow,hun,hlv,ha,hsame,hk,rfl⟩
   | false=>
    have hno:∀a,a<k+1->¬dA m.toNat (br m.toNat (aX ws m.toNat) (M x.2.toNat) a) (br m.toNat (aX ws m.toNat) (M x.2.toNat) (k+1)):=fun a ha hs=>by
     have:=hany.mpr ⟨a,ha,hs⟩
     cases this
    have hun2:∀a b,a<b->b<k+1+1->¬dA m.toNat (br m.toNat (aX ws m.toNat) (M x.2.toNat) a) (br m.toNat (aX ws m.toNat) (M x.2.toNat) b):=fun a b hab hb=>by
     by_cases hbk:b<k+1
     ·exact hun a b hab hbk
     ·have:b=k+1:=by omega
      subst this
      exact hno a hab
    have hk2:=wJ (F:=br m.toNat (aX ws m.toNat) (M x.2.toNat)) (show m.toNat<=12 by omega) hun2
    refine⟨_,rfl,aG ⟨fun σ' H'=>∃hs lv,Ext H2 H'/\H' hq=some (.lst (List.map V.ref hs))/\hs.length=k+1+1/\(∀(a:Nat) (r:Addr),hs[a]?=some r->H' r=some (.lst (aO m.toNat (br m.toNat (aX ws m.toNat) (M x.2.toNat) a))))/\H' lv=some (.lst (aO m.toNat (br m.toNat (aX ws m.toNat) (M x.2.toNat) (k+1+1))))/\σ'=[some vh,some (.ref pa),some (.ref rl),some (.ref lq),some (.ref hq),some (.ref lv)],fun σ' H' ⟨hs,lv,a1,a2,a3,a4,a5,a6⟩=>⟨4097-(k+1),by omega,hs,lv,k+1,a1,a2,a3,a4,hun2,a5,rfl,a6⟩,?_⟩⟩
    have nqr:∀r∈hs++[lv],r≠hq:=fun r hr z=>by
     have hb:∃f,H5 r=some (.lst (aO m.toNat f)):=by
      rcases DU.mp hr with h | h
      ·obtain⟨j,hj⟩:=List.getElem?_of_mem h
       exact⟨_,hrow j r hj⟩
      ·rw[DI.mp h]
       exact⟨_,hlv⟩
     obtain⟨f,hb⟩:=hb
     rw[z,hq5]at hb
     have h2:List.map V.ref hs=aO m.toNat f:=by
      injection hb with hb
      injection hb
     have h3:=congrArg (fun z:List V=>z[0]?) h2
     try dsimp only at h3
     rw[eI _ (by omega),DA]at h3
     cases y:hs[0]? with
     | none=>rw[y]at h3;cases h3
     | some a=>rw[y]at h3;cases h3
    walk_at "r"
    refine⟨df (ag.of hq5),?_⟩
    walk_at "r"
    refine bV hq5 (gn (by rw[Dy];omega)) ?_
    have hn2:H2 hq=none:=hhn
    have e6:=cy (o:=.lst (List.map V.ref hs++[.ref lv])) e5 hn2
    have keep:∀b o,b≠hq->H5 b=some o->upd H5 hq (.lst (List.map V.ref hs++[.ref lv])) b=some o:=fun b o nb e=>by rw[aB nb];exact e
    have hq6:upd H5 hq (.lst (List.map V.ref hs++[.ref lv])) hq=some (.lst (List.map V.ref (hs++[lv]))):=by rw[aH,DO];rfl
    have hlv6:=keep lv _ (nqr lv (by simp)) hlv
    have hrow6:∀(a:Nat) (r:Addr),(hs++[lv])[a]?=some r->upd H5 hq (.lst (List.map V.ref hs++[.ref lv])) r=some (.lst (aO m.toNat (br m.toNat (aX ws m.toNat) (M x.2.toNat) a))):=fun a r ha=>by
     by_cases hal:a<hs.length
     ·rw[DW hal]at ha
      exact keep r _ (nqr r (List.mem_append_left _ (DH ha))) (hrow a r ha)
     ·rw[DV (by omega)]at ha
      have hz:a-hs.length=0:=by
       have:=(DG.mp ha).1
       simp at this
       omega
      rw[hz]at ha
      cases ha
      have:a=k+1:=by omega
      subst this
      exact hlv6
    generalize upd H5 hq (.lst (List.map V.ref hs++[.ref lv]))=H6 at e6 hq6 hlv6 hrow6 ⊢
    walk_at "r"
    refine⟨rl,lv,m.toNat,_,_,rfl,prs2.et e6.et,hlv6,by omega,fun lv2 g2 H7 e7 _ hl7 hg2=>?_⟩
    walk_at "r"
    refine⟨hs++[lv],lv2,e6.trans e7,e7 _ _ hq6,by rw[DP,hsl];rfl,fun a r ha=>e7 _ _ (hrow6 a r ha),?_,rfl⟩
    rw[hl7]
    congr 2
    exact dP fun j hj=>by
     rw[Ef]
     exact(hg2 j hj).trans iS.symm
  ·rintro σ H5 ⟨hs,lv,k,a,e5,hq5,hsl,hrow,hun,hlv,ha,hsame,hk,rfl⟩
   have rows5:=rows.ext e5
   walk_at "r"
   refine iM (ag.of rows5.1) (cj fun lo H6 e6 hlo _=>?_)
   rw[zM (k:=x.2.toNat) (by rw[Dy];exact hrl')]at hlo
   walk_at "r"
   refine jg hlo (e6 _ _ hq5) (bw (by simp;omega)) (cj fun ll H7 e7 hll _=>?_)
   have e57:=e6.trans e7
   walk_at "r"
   refine az (ah.of (e57 _ _ (e5 _ _ hpx2))) (v:=.int x.2) rfl ?_
   walk_at "r"
   have hrow7:∀(a:Nat) (r:Addr),hs[a]?=some r->H7 r=some (.lst (aO m.toNat (br m.toNat (aX ws m.toNat) (M x.2.toNat) a))):=fun a r h=>e57 _ _ (hrow a r h)
   refine⟨df (ag.of (e57 _ _ hq5)),?_⟩
   walk_at "r"
   refine⟨1,hq,_,.ref lv,_,_,a,rfl,rfl,il (e57 _ _ hlv),e57 _ _ hq5,lC hrow7,by omega,⟨_,by rw[DA,List.getElem?_range (by omega)];rfl,jk.mpr hsame⟩,fun b e hb he=>?_,by omega,?_⟩
   ·rw[DA,List.getElem?_range (by omega)]at he
    cases he
    rw[Bool.eq_false_iff]
    intro hc
    have:=jk.mp hc
    exact hun b a hb ha fun j hj=>(this j hj).trans (hsame j hj).symm
   walk_at "r"
   refine aP fun pp H8 e8 hpp _=>?_
   have e28:=e5.trans (e57.trans e8)
   refine q pp ll (rs.take x.2.toNat++hs) (x.2.toNat+a) (k+1-a) M H8 ((e1.trans e2).trans e28.et) (tb2.ext e28) ?_ ⟨?_,fun i r hi=>?_⟩ ?_ (by omega) (by omega) (fun r hr=>?_) hM
   ·rw[hpp]
    congr 3
    congr 2
    omega
   ·rw[e8 _ _ hll,DO,List.map_take]
   ·unfold eR
    by_cases hix:i<x.2.toNat
    ·rw[if_pos hix]
     rw[DW (by rw[List.length_take];omega),List.getElem?_take_of_lt hix]at hi
     exact e28 _ _ (rows.2 i r hi)
    ·rw[if_neg hix]
     rw[DV (by rw[List.length_take];omega),List.length_take,show i-min x.2.toNat rs.length=i-x.2.toNat by omega]at hi
     exact e8 _ _ (hrow7 _ _ hi)
   ·rw[DP,List.length_take]
    omega
   ·intro i hi
    show eR _ _ _ _ (i+(k+1-a)) r=eR _ _ _ _ i r
    unfold eR
    rw[if_neg (by omega),if_neg (by omega)]
    have hp:=qc hsame (i-x.2.toNat-a) r hr
    rw[show a+(i-x.2.toNat-a)=i-x.2.toNat by omega,show k+1+(i-x.2.toNat-a)=i+(k+1-a)-x.2.toNat by omega]at hp
    exact hp.symm
def dz(ws:List Way)(a b:Bfs.Pl):Prop:=∃w∈ws,cR w a.1 a.2=true/\b=(w.other,a.2+rz w.deed)
def bG(ws:List Way)(x y:Bfs.Pl):Prop:=∃n,Bfs.Rw (dz ws) n x y
theorem iP{w:Way}{r n:Int}(hr:w.room=r)(h:w.deed = "up"\/w.deed = "stay"\/(w.deed = "down"/\0<n)\/(w.deed = "zero"/\n=0)):cR w r n=true:=by
 unfold cR
 rw[decide_eq_true hr,Bool.true_and]
 rcases h with h | h | ⟨h,hn⟩ | ⟨h,hn⟩
 ·rw[h,if_neg (by decide +kernel)]
  have:decide ((Str.ofString "up") = "zero")=false:=by decide +kernel
  rw[this]
  rfl
 ·rw[h,if_neg (by decide +kernel)]
  have:decide ((Str.ofString "stay") = "zero")=false:=by decide +kernel
  rw[this]
  rfl
 ·rw[h,if_pos (by decide +kernel)]
  exact decide_eq_true hn
 ·rw[h,if_neg (by decide +kernel),hn]
  simp
theorem gK{w:Way}{r n:Int}(hd:cg w.deed)(h:cR w r n=true):(w.deed = "up"/\rz w.deed=1)\/(w.deed = "stay"/\rz w.deed=0)\/(w.deed = "down"/\0<n/\rz w.deed = -1)\/(w.deed = "zero"/\n=0/\rz w.deed=0):=by
 unfold cR at h
 rw[Eg]at h
 rcases hd with hd | hd | hd | hd
 ·exact .inl ⟨hd,by rw[hd];exact gr⟩
 ·rw[hd,if_pos (by decide +kernel)]at h
  exact .inr (.inr (.inl ⟨hd,of_decide_eq_true h.2,by rw[hd];exact ji⟩))
 ·exact .inr (.inl ⟨hd,by rw[hd];exact iC⟩)
 ·rw[hd,if_neg (by decide +kernel)]at h
  have h2:decide ((Str.ofString "zero") = "zero")=true:=by decide +kernel
  rw[h2]at h
  refine .inr (.inr (.inr ⟨hd,?_,by rw[hd];exact vN⟩))
  simpa using h.2
theorem bG.refl{ws:List Way}{x:Bfs.Pl}:bG ws x x:=⟨0,.nil⟩
theorem bG.trans{ws:List Way}{x y z:Bfs.Pl}(h:bG ws x y)(g:bG ws y z):bG ws x z:=by
 obtain⟨n,h⟩:=h
 obtain⟨k,g⟩:=g
 exact⟨n+k,h.trans g⟩
theorem bG.one{ws:List Way}{x y:Bfs.Pl}(h:dz ws x y):bG ws x y:=⟨1,.snoc .nil h⟩
section
variable {m:Int} {ws:List Way} (ok:∀w∈ws,w.Ok m)
include ok
theorem eY{a b:Bfs.Pl}(h:dz ws a b)(ha:0<=a.2):0<=b.1/\b.1<m/\0<=b.2/\b.2<=a.2+1/\a.2<=b.2+1:=by
 obtain⟨w,hw,ho,rfl⟩:=h
 have okw:=ok w hw
 refine⟨okw.o0,okw.o1,?_⟩
 rcases gK okw.dd ho with⟨_,h⟩ | ⟨_,h⟩ | ⟨_,h1,h⟩ | ⟨_,h1,h⟩<;>(show 0<=a.2+rz w.deed/\a.2+rz w.deed<=a.2+1/\a.2<=a.2+rz w.deed+1;omega)
theorem vD{i j:Nat}(h:Kpt ws m.toNat i j):∀L:Int,0<=L->bG ws ((i:Int),L) ((j:Int),L):=by
 induction h with
 | refl _=>exact fun _ _=>.refl
 | @stay w hw hd=>
  intro L _
  have okw:=ok w hw
  have r0:=okw.r0
  have o0:=okw.o0
  refine .one ⟨w,hw,iP (by show w.room=((w.room.toNat:Nat):Int);omega) (.inr (.inl hd)),?_⟩
  rw[hd,iC]
  exact Prod.ext (by show((w.other.toNat:Nat):Int)=w.other;omega) (by show L=L+0;omega)
 | trans _ _ h1 h2=>exact fun L hL=>(h1 L hL).trans (h2 L hL)
 | @arch u d hu hud hd hdd _ ih=>
  intro L hL
  have oku:=ok u hu
  have okd:=ok d hd
  have u0:=oku.r0
  have u1:=oku.o0
  have d0:=okd.r0
  have d1:=okd.o0
  have s1:dz ws (((u.room.toNat:Nat):Int),L) (((u.other.toNat:Nat):Int),L+1):=⟨u,hu,iP (by show u.room=((u.room.toNat:Nat):Int);omega) (.inl hud),by rw[hud,gr];exact Prod.ext (by show((u.other.toNat:Nat):Int)=u.other;omega) rfl⟩
  have s2:dz ws (((d.room.toNat:Nat):Int),L+1) (((d.other.toNat:Nat):Int),L):=⟨d,hd,iP (by show d.room=((d.room.toNat:Nat):Int);omega) (.inr (.inr (.inl ⟨hdd,by omega⟩))),by rw[hdd,ji];exact Prod.ext (by show((d.other.toNat:Nat):Int)=d.other;omega) (by show L=L+1 + -1;omega)⟩
  exact((bG.one s1).trans (ih (L+1) (by omega))).trans (.one s2)
theorem kI:∀(n:Nat) (w:Nat->Bfs.Pl) (i:Nat) (L:Int),1<=L->(∀k,i<=k->k<i+n->dz ws (w k) (w (k+1)))->(∀k,i<=k->k<=i+n->L<=(w k).2)->(w i).2=L->(w (i+n)).2=L->0<=(w i).1->(w i).1<m->Kpt ws m.toNat (w i).1.toNat (w (i+n)).1.toNat:=by
 intro n
 induction n using Nat.strongRecOn with
 | ind n ih=>
  intro w i L hL hS hh h0 h1 r0 r1
  cases n with
  | zero=>exact .refl (by show(w i).1.toNat<m.toNat;omega)
  | succ n=>
   have s0:=hS i (DR _) (by omega)
   have in1:=eY ok s0 (by omega)
   obtain⟨v,hv,ho,hw1⟩:=id s0
   have okv:=ok v hv
   have hroom:=hJ ho
   have e1:(w (i+1)).1=v.other:=by rw[hw1]
   have e2:(w (i+1)).2=(w i).2+rz v.deed:=by rw[hw1]
   have hge:=hh (i+1) (by omega) (by omega)
   rcases gK okv.dd ho with⟨hd,hz⟩ | ⟨hd,hz⟩ | ⟨hd,_,hz⟩ | ⟨hd,h00,hz⟩
   ·obtain⟨d,hd1,hd2,hd3,hd4⟩:=Bfs.pK (h:=fun k=>(w k).2) (l:=L) (P:=i+1) (n:=i+(n+1)) (by omega) (fun k hk1 hk2=>(eY ok (hS k (by omega) hk2) (by have:=hh k (by omega) (by omega);omega)).2.2.2.2) (by show(w (i+(n+1))).2<=L;omega) (by show L<=(w (i+1)).2;omega)
    try dsimp only at hd3 hd4
    have hdi:d≠i+1:=fun z=>by rw[z]at hd3;omega
    have sd:=hS (d-1) (by omega) (by omega)
    rw[show d-1+1=d by omega]at sd
    obtain⟨v2,hv2,ho2,hw2⟩:=id sd
    have okv2:=ok v2 hv2
    have hroom2:=hJ ho2
    have f1:(w d).1=v2.other:=by rw[hw2]
    have f2:(w d).2=(w (d-1)).2+rz v2.deed:=by rw[hw2]
    have hgt:=hd4 (d-1) (by omega) (by omega)
    have hdown:v2.deed = "down"/\rz v2.deed = -1:=by
     rcases gK okv2.dd ho2 with⟨_,hz⟩ | ⟨_,hz⟩ | ⟨hd,_,hz⟩ | ⟨_,_,hz⟩
     ·omega
     ·omega
     ·exact⟨hd,hz⟩
     ·omega
    have inner:=ih (d-1-(i+1)) (by omega) w (i+1) (L+1) (by omega) (fun k hk1 hk2=>hS k (by omega) (by omega)) (fun k hk1 hk2=>by have:=hd4 k hk1 (by omega);omega) (by omega) (by rw[show i+1+(d-1-(i+1))=d-1 by omega];omega) in1.1 in1.2.1
    rw[show i+1+(d-1-(i+1))=d-1 by omega,e1,←hroom2]at inner
    have ar:=Kpt.arch hv hd hv2 hdown.1 inner
    rw[hroom,←f1]at ar
    have ind:=eY ok sd (by omega)
    have rest:=ih (i+(n+1)-d) (by omega) w d L hL (fun k hk1 hk2=>hS k (by omega) (by omega)) (fun k hk1 hk2=>hh k (by omega) (by omega)) hd3 (by rw[show d+(i+(n+1)-d)=i+(n+1) by omega];exact h1) ind.1 ind.2.1
    rw[show d+(i+(n+1)-d)=i+(n+1) by omega]at rest
    exact .trans ar rest
   ·have rest:=ih n (by omega) w (i+1) L hL (fun k hk1 hk2=>hS k (by omega) (by omega)) (fun k hk1 hk2=>hh k (by omega) (by omega)) (by omega) (by rw[show i+1+n=i+(n+1) by omega];exact h1) in1.1 in1.2.1
    rw[show i+1+n=i+(n+1) by omega,e1]at rest
    have st:=Kpt.stay (n:=m.toNat) hv hd
    rw[hroom]at st
    exact .trans st rest
   ·omega
   ·omega
theorem mI{w:Nat->Bfs.Pl}{n:Nat}(h0:0<=(w 0).1/\(w 0).1<m/\0<=(w 0).2)(hS:∀k,k<n->dz ws (w k) (w (k+1))):∀k,k<=n->0<=(w k).1/\(w k).1<m/\0<=(w k).2
 | 0,_=>h0
 | k+1,hk=>by
  have ih:=mI h0 hS k (by omega)
  have:=eY ok (hS k (by omega)) ih.2.2
  exact⟨this.1,this.2.1,this.2.2.1⟩
theorem yc{top:Int}{x:Bfs.Pl}(ht:0<=top)(hx:bP m top x){k:Nat}{y:Bfs.Pl}(h:Bfs.Rw (LB ws m.toNat top) k x y):bG ws x y/\bP m top y:=by
 induction h with
 | nil=>exact⟨.refl,hx⟩
 | @snoc n x y z _ hs ih=>
  obtain⟨hr,hy⟩:=ih hx
  rcases hs with⟨w,hw,ho,rfl,hle⟩ | ⟨hty,i,j,hk,hyi,rfl⟩
  ·have st:dz ws y (w.other,y.2+rz w.deed):=⟨w,hw,ho,rfl⟩
   have:=eY ok st hy.2.2.1
   exact⟨hr.trans (.one st),this.1,this.2.1,this.2.2.1,hle⟩
  ·have hlt:=Kpt.lt ok hk
   have hy2:y.2=top:=by have:=hy.2.2.2;omega
   have hs:=vD ok hk top ht
   have hye:y=((i:Int),top):=Prod.ext hyi hy2
   rw[←hye]at hs
   exact⟨hr.trans hs,by show(0:Int)<=(j:Int);omega,by show(j:Int)<m;omega,ht,Int.le_refl _⟩
theorem yX{top:Int}(ht:0<=top):∀(n:Nat) (w:Nat->Bfs.Pl),0<=(w 0).1->(w 0).1<m->(w 0).2=top->(∀k,k<n->dz ws (w k) (w (k+1)))->(w n).2<=top->∃k,Bfs.Rw (LB ws m.toNat top) k (w 0) (w n):=by
 intro n
 induction n using Nat.strongRecOn with
 | ind n ih=>
  intro w h00 h01 h02 hS hle
  cases n with
  | zero=>exact⟨0,.nil⟩
  | succ n=>
   have hin:=mI ok (w:=w) (n:=n+1) ⟨h00,h01,by omega⟩ hS
   have sn:=hS n (by omega)
   have inn:=eY ok sn (hin n (by omega)).2.2
   by_cases hz:(w n).2<=top
   ·obtain⟨k,hk⟩:=ih n (by omega) w h00 h01 h02 (fun k hk=>hS k (by omega)) hz
    obtain⟨v,hv,ho,he⟩:=sn
    exact⟨k+1,.snoc hk (.inl ⟨v,hv,ho,he,hle⟩)⟩
   ·obtain⟨u,hu,hul,hui⟩:=Bfs.iu (h:=fun k=>(w k).2) (l:=top) n (fun k hk=>(eY ok (hS k (by omega)) (hin k (by omega)).2.2).2.2.2.1) (by show(w 0).2<=top;omega) (by show top<=(w n).2;omega)
    try dsimp only at hul hui
    have hun:u≠n:=fun z=>by rw[z]at hul;omega
    have su:=hS u (by omega)
    have inu:=eY ok su (hin u (by omega)).2.2
    have hu1:=hui (u+1) (by omega) (by omega)
    obtain⟨v,hv,ho,hw1⟩:=id su
    obtain⟨v2,hv2,ho2,hw2⟩:=id sn
    have e1:(w (u+1)).1=v.other:=by rw[hw1]
    have e2:(w (u+1)).2=(w u).2+rz v.deed:=by rw[hw1]
    have f1:(w (n+1)).1=v2.other:=by rw[hw2]
    have f2:(w (n+1)).2=(w n).2+rz v2.deed:=by rw[hw2]
    have hup:v.deed = "up":=by
     rcases gK (ok v hv).dd ho with⟨hd,_⟩ | ⟨_,hz⟩ | ⟨_,_,hz⟩ | ⟨_,_,hz⟩
     ·exact hd
     ·omega
     ·omega
     ·omega
    have hdn:v2.deed = "down":=by
     rcases gK (ok v2 hv2).dd ho2 with⟨_,hz⟩ | ⟨_,hz⟩ | ⟨hd,_,_⟩ | ⟨_,_,hz⟩
     ·omega
     ·omega
     ·exact hd
     ·omega
    have hin1:=hin (u+1) (by omega)
    have inner:=kI ok (n-(u+1)) w (u+1) (top+1) (by omega) (fun k hk1 hk2=>hS k (by omega)) (fun k hk1 hk2=>by have:=hui k (by omega) (by omega);omega) (by omega) (by rw[show u+1+(n-(u+1))=n by omega];omega) hin1.1 hin1.2.1
    rw[show u+1+(n-(u+1))=n by omega,e1,←hJ ho2]at inner
    have ar:=Kpt.arch hv hup hv2 hdn inner
    rw[hJ ho,←f1]at ar
    obtain⟨k,hk⟩:=ih u (by omega) w h00 h01 h02 (fun k hk=>hS k (by omega)) (by omega)
    have hinu:=hin u (by omega)
    have hinn:=hin (n+1) (by omega)
    refine⟨k+1,.snoc hk (.inr ⟨by omega,_,_,ar,by omega,?_⟩)⟩
    exact Prod.ext (by show(w (n+1)).1=(((w (n+1)).1.toNat:Nat):Int);omega) (by show(w (n+1)).2=top;omega)
theorem Bs{top:Int}{x:Bfs.Pl}(ht:0<=top)(hx:bP m top x)(hx2:x.2=top){y:Bfs.Pl}(hy:y.2<=top):(∃n,Bfs.Rw (LB ws m.toNat top) n x y)↔bG ws x y:=by
 constructor
 ·rintro⟨n,h⟩
  exact(yc ok ht hx h).1
 ·rintro⟨n,h⟩
  obtain⟨w,w0,wn,hS⟩:=h.fn
  have:=yX ok ht n w (by rw[w0];exact hx.1) (by rw[w0];exact hx.2.1) (by rw[w0];exact hx2) hS (by rw[wn];exact hy)
  rw[w0,wn]at this
  exact this
theorem oM{x:Bfs.Pl}(hx:0<=x.1/\x.1<m/\0<=x.2){i r:Nat}(hi:x.2<=(i:Int)):bG ws x ((r:Int),((i+1:Nat):Int))↔∃p,p<m.toNat/\bG ws x ((p:Int),(i:Int))/\aX ws m.toNat p r:=by
 constructor
 ·rintro⟨n,h⟩
  obtain⟨w,w0,wn,hS⟩:=h.fn
  have hin:=mI ok (w:=w) (n:=n) (by rw[w0];exact hx) hS
  have wn2:(w n).2=(i:Int)+1:=by rw[wn];show((i+1:Nat):Int)=_;omega
  obtain⟨u,hu,hul,hui⟩:=Bfs.iu (h:=fun k=>(w k).2) (l:=(i:Int)) n (fun k hk=>(eY ok (hS k hk) (hin k (by omega)).2.2).2.2.2.1) (by show(w 0).2<=(i:Int);rw[w0];exact hi) (by show(i:Int)<=(w n).2;omega)
  try dsimp only at hul hui
  have hun:u≠n:=fun z=>by rw[z]at hul;omega
  have su:=hS u (by omega)
  have hu1:=hui (u+1) (by omega) (by omega)
  obtain⟨v,hv,ho,hw1⟩:=id su
  have e1:(w (u+1)).1=v.other:=by rw[hw1]
  have e2:(w (u+1)).2=(w u).2+rz v.deed:=by rw[hw1]
  have hup:v.deed = "up"/\rz v.deed=1:=by
   rcases gK (ok v hv).dd ho with⟨hd,hz⟩ | ⟨_,hz⟩ | ⟨_,_,hz⟩ | ⟨_,_,hz⟩
   ·exact⟨hd,hz⟩
   ·omega
   ·omega
   ·omega
  have hin1:=hin (u+1) (by omega)
  have hinu:=hin u (by omega)
  have inner:=kI ok (n-(u+1)) w (u+1) ((i:Int)+1) (by omega) (fun k hk1 hk2=>hS k (by omega)) (fun k hk1 hk2=>by have:=hui k (by omega) (by omega);omega) (by omega) (by rw[show u+1+(n-(u+1))=n by omega];exact wn2) hin1.1 hin1.2.1
  rw[show u+1+(n-(u+1))=n by omega,e1,show (w n).1.toNat=r by rw[wn];exact DK r]at inner
  refine⟨(w u).1.toNat,by omega,⟨u,?_⟩,v,hv,hup.1,by rw[hJ ho],inner⟩
  have seg:=Bfs.iI (S:=dz ws) (w:=w) (i:=0) (j:=u) (by omega) (fun k _ hk=>hS k (by omega))
  rw[w0,Nat.sub_zero]at seg
  have hwu:w u=((((w u).1.toNat:Nat):Int),(i:Int)):=Prod.ext (by show(w u).1=(((w u).1.toNat:Nat):Int);omega) hul
  rw[hwu]at seg
  exact seg
 ·rintro⟨p,hp,hr,v,hv,hd,hroom,hk⟩
  have okv:=ok v hv
  have r0:=okv.r0
  have o0:=okv.o0
  have st:dz ws ((p:Int),(i:Int)) (((v.other.toNat:Nat):Int),(i:Int)+1):=⟨v,hv,iP (by show v.room=((p:Nat):Int);omega) (.inl hd),by rw[hd,gr];exact Prod.ext (by show((v.other.toNat:Nat):Int)=v.other;omega) rfl⟩
  have hs:=vD ok hk ((i:Int)+1) (by omega)
  have:=(hr.trans (.one st)).trans hs
  rw[show ((i+1:Nat):Int)=(i:Int)+1 by omega]
  exact this
theorem Aj{x:Bfs.Pl}(hx:0<=x.1/\x.1<m/\0<=x.2){M:Nat->Nat->Bool}(hM:∀i r:Nat,(i:Int)<=x.2->(r:Int)<m->(M i r=true↔∃n,Bfs.Rw (LB ws m.toNat x.2) n x ((r:Int),(i:Int)))):∀i r:Nat,r<m.toNat->(eR m.toNat (aX ws m.toNat) x.2.toNat M i r=true↔bG ws x ((r:Int),(i:Int))):=by
 have hxT:bP m x.2 x:=⟨hx.1,hx.2.1,hx.2.2,Int.le_refl _⟩
 have low:∀i r:Nat,(i:Int)<=x.2->r<m.toNat->(M i r=true↔bG ws x ((r:Int),(i:Int))):=fun i r hi hr=>(hM i r hi (by omega)).trans (Bs ok hx.2.2 hxT rfl hi)
 have high:∀k r:Nat,r<m.toNat->(br m.toNat (aX ws m.toNat) (M x.2.toNat) k r=true↔bG ws x ((r:Int),((x.2.toNat+k:Nat):Int))):=by
  intro k
  induction k with
  | zero=>exact fun r hr=>low x.2.toNat r (by omega) hr
  | succ k ih=>
   intro r hr
   show gH _ _ _ r=true↔_
   rw[iS,show x.2.toNat+(k+1)=x.2.toNat+k+1 by omega,oM ok hx (by omega)]
   constructor
   ·rintro⟨i,hi,h1,h2⟩
    exact⟨i,hi,(ih i hi).mp h1,h2⟩
   ·rintro⟨i,hi,h1,h2⟩
    exact⟨i,hi,(ih i hi).mpr h1,h2⟩
 intro i r hr
 unfold eR
 by_cases hi:i<x.2.toNat
 ·rw[if_pos hi]
  exact low i r (by omega) hr
 ·rw[if_neg hi,high (i-x.2.toNat) r hr,show x.2.toNat+(i-x.2.toNat)=i by omega]
end
def qA(K:Du):Sp:=fun vs H Q _=>∃lq rs m F b N r,vs=[.ref lq,.int (b:Nat),.int (r:Nat)]/\Rows H lq rs m F/\rs.length=b+N/\1<=N/\b+N<=20000/\r<m/\bq (fun i=>F i r) b N/\∀v (l d:Nat) H',Ext H H'->Least (fun i=>F i r) d l->l<=b->d<=N->b0 H' v l d (row (fun i=>F i r) 0 l) (row (fun i=>F i r) l d)->Q v H'
abbrev nH:Stmt:=stq 54
theorem qR:FnScope ["levels","base","room"] ["levels","base","room"] (aI nH):=⟨rfl,rfl,rfl,by decide +kernel,rfl,by decide +kernel,by decide +kernel⟩
theorem wQ{P:Program}{w:World}{K:Du}{mg:Str->Option Value}{base:Heap}(D:Dfn K mg "stair_of_room" nH ["levels","base","room"])(T:Blt mg)(C_stair_of_marks:Cal P w K mg base "stair_of_marks" 2 ["marks","base"] (tJ K)):Cal P w K mg base "stair_of_room" 3 ["levels","base","room"] (qA K):=by
 have nd:=(qR).nd
 refine D.ok qR (fun vs H Q E h=>?_) (fun X hX H vs Q E h=>?_)
 ·obtain⟨lq,rs,m,F,b,N,r,rfl,_⟩:=h;rfl
 ·obtain⟨f,cdv,A,outer,s,H0,E0,rfl,hr⟩:=hX
  obtain⟨lq,rs,m,F,b,N,r,rfl,rows,hrl,hN,hbN,hr',hper,q⟩:=h
  refine⟨_,(ao (aE (aC C_stair_of_marks hr (aa (cE ["level"] [2] (cJ K (pv 0)) (fun _=>(aM (i:=0) (show(["level","room"]:List Str).Nodup from by decide +kernel) rfl (Or.inl rfl) (Or.inr rfl))) (fun _=>du) (fun _=>(ai (aJ K) (pv 0) (pv 1) (fun _ _=>rfl)))) (aa (pv 1) af))))),?_⟩
  walk_at "r"
  refine cI (ag.of rows.1) ?_
  refine gy (xs:=List.map V.ref rs) (fun i ys H'=>H'=H/\ys=aO i (fun i=>F i r)) (Eb (show(List.map V.ref rs).length<=20000 by rw[Dy];omega) (by decide)) ⟨rfl,rfl⟩ (fun i ys H' _ h=>⟨by rw[h.1];exact ag.of rows.1,by rw[h.2,cD];exact DR _⟩) ?_ ?_
  ·rintro i v ys H1 hx ⟨rfl,rfl⟩
   rw[DA]at hx
   obtain⟨a,ha,rfl⟩:=DJ.mp hx
   have hrow:=rows.2 i a ha
   walk_at "r"
   refine aG ?_
   walk_at "r"
   refine aK (ag.of hrow) (dm (by omega) (by omega)) ?_
   rw[DK]
   refine⟨rfl,?_⟩
   rw[ip]
  ·rintro ys H1 p9 ⟨hH,rfl⟩ hp9
   subst hH
   rw[Dy,hrl]
   have e1:=aZ (o:=.lst (aO (b+N) fun i=>F i r)) hp9
   have h9:(upd H1 p9 (.lst (aO (b+N) fun i=>F i r))) p9=_:=aH
   generalize upd H1 p9 (.lst (aO (b+N) fun i=>F i r))=H2 at e1 h9 ⊢
   walk_at "r"
   exact⟨p9,b,N,_,rfl,hN,hbN,h9,hper,fun v l d H3 e3 hL hl hd hst=>q v l d H3 (e1.trans e3) hL hl hd hst⟩
def eE(H:Hp)(vs:List V)(m:Int)(ws:List Way)(x:Bfs.Pl):Prop:=(vs.length:Int)=m/\∀(r:Nat) (v:V),vs[r]?=some v->∃(F:Nat->Bool) (l d:Nat),b0 H v l d (row F 0 l) (row F l d)/\Least F d l/\1<=d/\l+d<=5200/\∀i:Nat,F i=true↔bG ws x ((r:Int),(i:Int))
def lG(K:Du):Sp:=fun vs H Q _=>∃vh m ws pa x,vs=[vh,.ref pa]/\bz H vh m ws/\HOuse m ws/\aD H pa x/\fI m x/\eM K/\Tbs K H/\∀l xs H',Et H H'->Tbs K H'->H' l=some (.lst xs)->eE H' xs m ws x->Q (.ref l) H'
abbrev oq:Stmt:=stq 55
theorem sj:FnScope ["house","place","told"] ["house","place"] (aI oq):=⟨rfl,rfl,rfl,by decide +kernel,rfl,by decide +kernel,by decide +kernel⟩
theorem Cu{P:Program}{w:World}{K:Du}{mg:Str->Option Value}{base:Heap}(D:Dfn K mg "forward" oq ["house","place"])(T:Blt mg)(C_stair_of_room:Cal P w K mg base "stair_of_room" 3 ["levels","base","room"] (qA K))(C_all_levels:Cal P w K mg base "all_levels" 9 ["house","place"] (ur K))(C_refuse_bad_places:Cal P w K mg base "refuse_bad_places" 3 ["house","places"] (vR K))(C_refuse_no_house:Cal P w K mg base "refuse_no_house" 6 ["thing"] (jq K)):Cal P w K mg base "forward" 10 ["house","place"] (lG K):=by
 have nd:=(sj).nd
 refine D.ok sj (fun vs H Q E h=>?_) (fun X hX H vs Q E h=>?_)
 ·obtain⟨vh,m,ws,pa,x,rfl,_⟩:=h;rfl
 ·obtain⟨f,cdv,A,outer,s,H0,E0,rfl,hr⟩:=hX
  obtain⟨vh,m,ws,pa,x,rfl,hv,ok,hpx,ix,dis,htb,q⟩:=h
  have m1:=ok.m1
  have m12:=ok.m12
  refine⟨_,(aj (bA (aC C_refuse_no_house hr (aa (pv 0) af)))
    (aj (bA (aC C_refuse_bad_places hr (aa (pv 0) (aa (bE (aa (pv 1) af)) af))))
    (aj (aF (i:=2) nd rfl (Or.inr rfl) (aC C_all_levels hr (aa (pv 0) (aa (pv 1) af))))
    (ao (aE (cE ["room"] [2] (bQ rfl T.range_ (aa (ai (ay K) (pv 0) ae (fun _ _=>rfl)) af)) (fun _=>(aM (i:=0) (show(["room","told"]:List Str).Nodup from by decide +kernel) rfl (Or.inl rfl) (Or.inr rfl))) (fun _=>du) (fun _=>(aC C_stair_of_room hr (aa (ai (ay K) (pv 1) ae (fun _ _=>rfl)) (aa (ai (ay K) (pv 1) ae (fun _ _=>rfl)) (aa (pv 0) af))))))))))),?_⟩
  walk_at "r"
  refine⟨vh,m,ws,rfl,hv,ok,fun H1 e1=>?_⟩
  obtain⟨hp0,hq0,hvr,hh,_⟩:=id (hv.ext e1)
  subst hvr
  walk_at "r"
  refine aP fun pl H2 e2 hpl _=>?_
  have e02:=e1.trans e2
  walk_at "r"
  refine⟨hp0,.ref hq0,m,pl,[pa],[x],rfl,e2 _ _ hh,hpl,.cons (e02 _ _ hpx) .nil,fun y hy=>by rw[DI.mp hy];exact ix,?_⟩
  walk_at "r"
  refine⟨.ref hp0,m,ws,pa,x,rfl,hv.ext e02,ok,e02 _ _ hpx,ix,dis,htb.ext e02,fun p lq rs b N M H3 e3 tb3 hp rows hrl hN hbN hper hM=>?_⟩
  have hiff:=Aj ok.ok ⟨ix.1,ix.2.1,ix.2.2.1⟩ hM
  generalize eR m.toNat (aX ws m.toNat) x.2.toNat M=F at rows hper hiff
  have hh3:H3 hp0=some (.tup [.int m,.ref hq0]):=e3 _ _ (e2 _ _ hh) (fun ps z=>by cases z)
  walk_at "r"
  refine az (ah.of hh3) (v:=.int m) rfl ?_
  walk_at "r"
  refine bS (by omega) ?_
  refine dC (fun i ys H'=>Ext H3 H'/\ys.length=i/\∀(r:Nat) (v:V),ys[r]?=some v->∃(F:Nat->Bool) (l d:Nat),b0 H' v l d (row F 0 l) (row F l d)/\Least F d l/\1<=d/\l+d<=5200/\∀i:Nat,F i=true↔bG ws x ((r:Int),(i:Int))) (bw (by omega)) ⟨Ext.rfl' _,rfl,fun r v h=>by simp at h⟩ (fun i ys H' _ h=>Nat.le_of_eq h.2.1) ?_ ?_
  ·rintro i ys H4 hi ⟨e4,hyl,hys⟩
   rw[show (0:Int)+(i:Int)=((i:Nat):Int) by omega]
   have hp4:=e4 _ _ hp
   walk_at "r"
   refine aG ?_
   walk_at "r"
   refine az (ah.of hp4) (v:=.ref lq) rfl ?_
   walk_at "r"
   refine az (ah.of hp4) (v:=.int (b:Nat)) rfl ?_
   walk_at "r"
   refine⟨lq,rs,m.toNat,F,b,N,i,rfl,rows.ext e4,hrl,hN,by omega,hi,hper i hi,fun v l d H5 e5 hL hl hd hst=>?_⟩
   refine⟨e4.trans e5,by rw[DP,hyl];rfl,fun r v' hv'=>?_⟩
   by_cases hrl2:r<ys.length
   ·rw[DW hrl2]at hv'
    obtain⟨F',l',d',a1,a2⟩:=hys r v' hv'
    exact⟨F',l',d',a1.ext e5,a2⟩
   ·rw[DV (by omega)]at hv'
    have hz:r-ys.length=0:=by
     have:=(DG.mp hv').1
     simp at this
     omega
    rw[hz]at hv'
    cases hv'
    have hri:r=i:=by omega
    subst hri
    exact⟨fun j=>F j r,l,d,hst,hL,hL.pos,by omega,fun j=>hiff j r hi⟩
  ·rintro ys H4 p9 ⟨e4,hyl,hys⟩ hp9
   have e5:=aZ (o:=.lst ys) hp9
   have e35:=e4.trans e5
   walk_at "r"
   refine q p9 ys _ ((e02.et.trans e3).trans e35.et) (tb3.ext e35) aH ⟨by omega,fun r v hv=>?_⟩
   obtain⟨F',l',d',a1,a2⟩:=hys r v hv
   exact⟨F',l',d',a1.ext e5,a2⟩
theorem tN{m:Int}{ws:List Way}(ok:∀w∈ws,w.Ok m){p r:Nat}(h:aX ws m.toNat p r):p<m.toNat/\r<m.toNat:=by
 obtain⟨v,hv,hd,hroom,hk⟩:=h
 have:=Kpt.lt ok hk
 have r1:=(ok v hv).r1
 have r0:=(ok v hv).r0
 omega
theorem sO{m:Int}{ws:List Way}(ok:∀w∈ws,w.Ok m){x:Bfs.Pl}(hx:0<=x.1/\x.1<m/\0<=x.2):∀k r:Nat,r<m.toNat->(bG ws x ((r:Int),((x.2.toNat+k:Nat):Int))↔∃s,s<m.toNat/\bG ws x ((s:Int),x.2)/\Rnd.Wg (aX ws m.toNat) k s r):=by
 intro k
 induction k with
 | zero=>
  intro r hr
  rw[show ((x.2.toNat+0:Nat):Int)=x.2 by omega]
  constructor
  ·exact fun h=>⟨r,hr,h,.nil⟩
  ·rintro⟨s,_,h,w⟩
   cases w
   exact h
 | succ k ih=>
  intro r hr
  rw[show x.2.toNat+(k+1)=x.2.toNat+k+1 by omega,oM ok hx (by omega)]
  constructor
  ·rintro⟨p,hp,h,hs⟩
   obtain⟨s,h1,h2,h3⟩:=(ih p hp).mp h
   exact⟨s,h1,h2,.snoc h3 hs⟩
  ·rintro⟨s,h1,h2,h3⟩
   cases h3 with
   | @snoc _ _ p _ h3 hs=>
    have:=tN ok hs
    exact⟨p,this.1,(ih p this.1).mpr ⟨s,h1,h2,h3⟩,hs⟩
theorem eE.near{H:Hp}{xs:List V}{m:Int}{ws:List Way}{x:Bfs.Pl}(h:eE H xs m ws x)(ok:HOuse m ws)(ix:fI m x):∃P,1<=P/\P<=81/\∀(r:Nat) (v:V),xs[r]?=some v->∃(F:Nat->Bool) (l d:Nat),b0 H v l d (row F 0 l) (row F l d)/\Least F d l/\1<=d/\d ∣ P/\l<=1288/\∀i:Nat,F i=true↔bG ws x ((r:Int),(i:Int)):=by
 have m1:=ok.m1
 have m12:=ok.m12
 obtain⟨ix0,ix1,ix2,ix3⟩:=ix
 have hn:m.toNat<=12:=by omega
 obtain⟨P,hP1,hP81,hP⟩:=Rnd.round (n:=m.toNat) (A:=aX ws m.toNat) (fun i j h=>tN ok.ok h) hn
 have hnn:m.toNat*m.toNat<=12*12:=Nat.mul_le_mul hn hn
 have hn1:m.toNat<=m.toNat*m.toNat:=Nat.le_mul_of_pos_right _ (by omega)
 refine⟨P,hP1,hP81,fun r v hv=>?_⟩
 obtain⟨F,l,d,hst,hL,hd,_,hF⟩:=h.2 r v hv
 have hr:r<m.toNat:=by
  have:=(DG.mp hv).1
  have:=h.1
  omega
 have per:bq F (x.2.toNat+288) P:=fun y hy=>by
  obtain⟨k,rfl⟩:∃k,y=x.2.toNat+k:=⟨y-x.2.toNat,by omega⟩
  rw[Ef,hF,hF,show x.2.toNat+k+P=x.2.toNat+(k+P) by omega,sO ok.ok ⟨ix0,ix1,ix2⟩ _ r hr,sO ok.ok ⟨ix0,ix1,ix2⟩ _ r hr]
  constructor
  ·rintro⟨s,h1,h2,h3⟩
   exact⟨s,h1,h2,hP s r (k+P) k h1 (by omega) (by omega) (Nat.add_mod_right k P) h3⟩
  ·rintro⟨s,h1,h2,h3⟩
   exact⟨s,h1,h2,hP s r k (k+P) h1 (by omega) (by omega) (Nat.add_mod_right k P).symm h3⟩
 obtain⟨hdP,hl⟩:=Rnd.zJ hL hP1 per
 exact⟨F,l,d,hst,hL,hd,hdP,by omega,hF⟩
theorem eE.gd{H:Hp}{xs:List V}{m:Int}{ws:List Way}{x:Bfs.Pl}(h:eE H xs m ws x)(ok:HOuse m ws)(ix:fI m x):∀(r:Nat) (v:V),xs[r]?=some v->∃b s o a,b0 H v b s o a/\Gd b s o a/\(∀n:Int,0<=n->(mem b s o a n=true↔bG ws x ((r:Int),n)))/\∀n:Int,n<0->mem b s o a n=false:=by
 obtain⟨P,hP1,hP81,hn⟩:=h.near ok ix
 intro r v hv
 obtain⟨F,l,d,hst,hL,hd,hdP,hl,hF⟩:=hn r v hv
 have hdle:d<=P:=Nat.le_of_dvd (by omega) hdP
 refine⟨_,_,_,_,hst,⟨jc F l d hd,by omega,by omega⟩,fun n hn=>?_,fun n hn=>?_⟩
 ·have e:=qj hd hL.per n.toNat
  rw[DL hn]at e
  rw[e,hF n.toNat,DL hn]
 ·rw[jF _ (by omega),Bool.eq_false_iff]
  intro z
  have:=eT.mp (List.contains_iff_mem.mp z)
  omega
def p7(K:Du):Sp:=fun vs H Q _=>∃vh m ws pa x lv,vs=[vh,.ref pa,.int lv]/\bz H vh m ws/\HOuse m ws/\aD H pa x/\fI m x/\lv<=3000/\eM K/\Tbs K H ∧
 ∀l (G:Nat->Bool) H',Et H H'->Tbs K H'->(∀o,H l=some o->∃ps,o=.tbl ps)->H' l=some (.lst ((row G 0 m.toNat).map V.int))->(∀r:Nat,r<m.toNat->(G r=true↔0<=lv/\bG ws x ((r:Int),lv)))->Q (.ref l) H'
abbrev mX:Stmt:=stq 56
theorem sX:FnScope ["house","place","l","stairs"] ["house","place","l"] (aI mX):=⟨rfl,rfl,rfl,by decide +kernel,rfl,by decide +kernel,by decide +kernel⟩
theorem AS{P:Program}{w:World}{K:Du}{mg:Str->Option Value}{base:Heap}(D:Dfn K mg "rooms_at" mX ["house","place","l"])(T:Blt mg)(g_GREATEST_LEVEL:∃t,mg "GREATEST_LEVEL" = some (.int 3000 t))(C_holds:Cal P w K mg base "holds" 7 ["stair","x"] (pB K))(C_forward:Cal P w K mg base "forward" 10 ["house","place"] (lG K)):Cal P w K mg base "rooms_at" 11 ["house","place","l"] (p7 K):=by
 have nd:=(sX).nd
 refine D.ok sX (fun vs H Q E h=>?_) (fun X hX H vs Q E h=>?_)
 ·obtain⟨vh,m,ws,pa,x,lv,rfl,_⟩:=h;rfl
 ·obtain⟨f,cdv,A,outer,s,H0,E0,rfl,hr⟩:=hX
  obtain⟨t_GREATEST_LEVEL,c_GREATEST_LEVEL⟩:=g_GREATEST_LEVEL
  obtain⟨vh,m,ws,pa,x,lv,rfl,hv,ok,hpx,ix,hlv,dis,htb,q⟩:=h
  refine⟨_,(@aj _ _ _ _ _ (@aF _ _ 3 _ _ _ _ nd rfl (Or.inl rfl) (aC C_forward hr (@aa _ _ _ _ _ (pv 0) (@aa _ _ _ _ _ (pv 1) af rfl) rfl)) rfl (Or.inl rfl))
    (@aj _ _ _ _ _ (@bp _ _ _ _ _ _ _ _ (aR eL (pv 2) (hZ (v:=.int 3000) rfl c_GREATEST_LEVEL ⟨_,rfl⟩) (aQ _)) (@ao _ _ _ fR) aV)
    (@ao _ _ _ (@aE _ _ _ _ (cE ["room","stair"] [2] (yn K rfl T.enumerate_ (@aa _ _ _ _ _ (pv 3) af rfl)) (fun _=>(gY (n:=2) K rfl (cA (aM (i:=0) (show(["room","stair","l"]:List Str).Nodup from by decide +kernel) rfl (Or.inl rfl) (Or.inr rfl)) (cA (aM (i:=1) (show(["room","stair","l"]:List Str).Nodup from by decide +kernel) rfl (Or.inl rfl) (Or.inr rfl)) fN)))) (fun _=>(dG (bo (aC C_holds hr (@aa _ _ _ _ _ (pv 1) (@aa _ _ _ _ _ (pv 2) af rfl) rfl))))) (fun _=>(pv 0))))))),?_⟩
  walk_at "r"
  refine⟨vh,m,ws,pa,x,rfl,hv,ok,hpx,ix,dis,htb,fun l xs H1 e1 t1 hl fw=>?_⟩
  walk_at "r"
  rw[decide_eq_false (show ¬3000<lv by omega)]
  refine aA ?_
  walk_at "r"
  have m12:=ok.m12
  have hxl:=fw.1
  have hgd:=fw.gd ok ix
  obtain⟨G,hG⟩:∃G:Nat->Bool,∀r:Nat,(G r=true↔0<=lv/\bG ws x ((r:Int),lv)):=⟨fun r=>@decide (0<=lv/\bG ws x ((r:Int),lv)) (Classical.propDecidable _),fun r=>@decide_eq_true_iff _ (Classical.propDecidable _)⟩
  refine xc ?_
  walk_at "r"
  refine A7 (ag.of hl) ?_
  refine zK (xs:=xs) (fun i ys H'=>Ext H1 H'/\ys=(row G 0 i).map V.int) (bw (by omega)) ⟨Ext.rfl' _,rfl⟩ (fun i ys H' h=>⟨ag.of (h.1 _ _ hl),by rw[h.2,Dy];exact fK _ _ _⟩) ?_ ?_
  ·rintro i u ys H2 pp H3 hu ⟨e2,rfl⟩ e3 hpp _
   obtain⟨b,s',o,a,hst,hg,h1,h2⟩:=hgd i u hu
   refine f6 (ah.of hpp) rfl ?_
   walk_at "r"
   refine⟨u,lv,b,s',o,a,rfl,hst.ext (e2.trans e3),hg,_,rfl,?_⟩
   have hm:mem b s' o a lv=G i:=by
    rw[Ef,hG i]
    by_cases h0:0<=lv
    ·rw[h1 lv h0]
     exact⟨fun z=>⟨h0,z⟩,fun z=>z.2⟩
    ·rw[h2 lv (by omega)]
     exact⟨fun z=>(nomatch z),fun z=>absurd z.1 h0⟩
   rw[hm]
   cases hGi:G i with
   | true=>
    refine aG ?_
    walk_at "r"
    refine⟨e2.trans e3,?_⟩
    have:=iU (f:=G) (lo:=0) (i:=i) rfl (by rw[Nat.zero_add];exact hGi)
    rw[Nat.zero_add]at this
    exact this
   | false=>
    refine aA ?_
    exact⟨e2.trans e3,iQ (f:=G) (lo:=0) (i:=i) rfl (by rw[Nat.zero_add];exact hGi)⟩
  ·rintro ys H2 p9 ⟨e2,rfl⟩ hp9
   have hlen:xs.length=m.toNat:=by omega
   rw[hlen]
   refine q p9 G _ (e1.trans (e2.trans (aZ hp9)).et) (t1.ext (e2.trans (aZ hp9))) ?_ aH fun r _=>hG r
   intro o ho
   refine Classical.byContradiction fun z=>?_
   have:=(e1.trans e2.et) p9 o ho (fun ps w=>z ⟨ps,w⟩)
   rw[hp9]at this
   cases this
def Sk(ws:List Way)(a b:Bfs.Pl):Prop:=1<=b.2/\∃w∈ws,w.room=a.1/\w.deed≠"zero"/\b=(w.other,a.2+rz w.deed)
def RK(ws:List Way)(x y:Bfs.Pl):Prop:=∃n,Bfs.Rw (Sk ws) n x y
theorem RK.trans{ws:List Way}{x y z:Bfs.Pl}(h:RK ws x y)(g:RK ws y z):RK ws x z:=by
 obtain⟨n,h⟩:=h
 obtain⟨k,g⟩:=g
 exact⟨_,h.trans g⟩
theorem RK.one{ws:List Way}{x y:Bfs.Pl}(h:Sk ws x y):RK ws x y:=⟨1,.snoc .nil h⟩
section
variable {m:Int} {ws:List Way} (ok:∀w∈ws,w.Ok m)
include ok
theorem Sk.stp{a b:Bfs.Pl}(h:Sk ws a b)(ha:1<=a.2):dz ws a b:=by
 obtain⟨_,w,hw,hr,hz,rfl⟩:=h
 refine⟨w,hw,iP hr ?_,rfl⟩
 rcases(ok w hw).dd with e | e | e | e
 ·exact .inl e
 ·exact .inr (.inr (.inl ⟨e,by omega⟩))
 ·exact .inr (.inl e)
 ·exact absurd e hz
theorem xf{i j:Nat}(h:Kpt ws m.toNat i j):∀L:Int,1<=L->RK ws ((i:Int),L) ((j:Int),L):=by
 induction h with
 | refl _=>exact fun _ _=>⟨0,.nil⟩
 | @stay w hw hd=>
  intro L hL
  have r0:=(ok w hw).r0
  have o0:=(ok w hw).o0
  refine .one ⟨hL,w,hw,by show w.room=((w.room.toNat:Nat):Int);omega,by rw[hd];decide +kernel,?_⟩
  rw[hd,iC]
  exact Prod.ext (by show((w.other.toNat:Nat):Int)=w.other;omega) (by show L=L+0;omega)
 | trans _ _ h1 h2=>exact fun L hL=>(h1 L hL).trans (h2 L hL)
 | @arch u d hu hud hd hdd _ ih=>
  intro L hL
  have u0:=(ok u hu).r0
  have u1:=(ok u hu).o0
  have d0:=(ok d hd).r0
  have d1:=(ok d hd).o0
  have s1:Sk ws (((u.room.toNat:Nat):Int),L) (((u.other.toNat:Nat):Int),L+1):=⟨by show 1<=L+1;omega,u,hu,by show u.room=((u.room.toNat:Nat):Int);omega,by rw[hud];decide +kernel,by rw[hud,gr];exact Prod.ext (by show((u.other.toNat:Nat):Int)=u.other;omega) rfl⟩
  have s2:Sk ws (((d.room.toNat:Nat):Int),L+1) (((d.other.toNat:Nat):Int),L):=⟨hL,d,hd,by show d.room=((d.room.toNat:Nat):Int);omega,by rw[hdd];decide +kernel,by rw[hdd,ji];exact Prod.ext (by show((d.other.toNat:Nat):Int)=d.other;omega) (by show L=L+1 + -1;omega)⟩
  exact((RK.one s1).trans (ih (L+1) (by omega))).trans (.one s2)
theorem zr{i j:Nat}(hi:i<m.toNat)(h:RK ws ((i:Int),1) ((j:Int),1)):Kpt ws m.toNat i j:=by
 obtain⟨n,h⟩:=h
 obtain⟨w,w0,wn,hS⟩:=h.fn
 have hl:∀k,k<=n->1<=(w k).2:=fun k hk=>by
  cases k with
  | zero=>rw[w0];exact Int.le_refl _
  | succ k=>exact(hS k (by omega)).1
 have:=kI ok n w 0 1 (Int.le_refl _) (fun k _ hk=>(hS k (by omega)).stp ok (hl k (by omega))) (fun k _ hk=>hl k (by omega)) (by rw[w0]) (by rw[Nat.zero_add,wn]) (by rw[w0];show(0:Int)<=(i:Int);omega) (by rw[w0];show(i:Int)<m;omega)
 rw[Nat.zero_add,w0,wn]at this
 exact this
def Sc(ws:List Way)(m:Int)(a b:Bfs.Pl):Prop:=Sk ws a b/\b.2<=1+m*m
theorem xm{i j:Nat}(hi:i<m.toNat):Kpt ws m.toNat i j↔∃n,Bfs.Rw (Sc ws m) n ((i:Int),1) ((j:Int),1):=by
 constructor
 ·intro h
  obtain⟨n,h⟩:=xf ok h 1 (Int.le_refl _)
  obtain⟨n',_,r'⟩:=Bfs.cut (S:=Sk ws) (m:=m) (by omega) (fun p q h=>by
    obtain⟨_,w,hw,_,_,rfl⟩:=h
    have r1:=xJ w.deed
    have r2:=xk w.deed
    show p.2+rz w.deed<=p.2+1/\p.2<=p.2+rz w.deed+1
    omega) (fun p q c h _ _ h2=>by
    obtain⟨_,w,hw,hr,hz,rfl⟩:=h
    exact⟨h2,w,hw,hr,hz,Prod.ext rfl (by show p.2+rz w.deed-c=p.2-c+rz w.deed;omega)⟩) (fun p q h=>by
    obtain⟨_,w,hw,_,_,rfl⟩:=h
    exact⟨(ok w hw).o0,(ok w hw).o1⟩) (b:=1) (by decide) n _ _ h (by show(0:Int)<=(i:Int);omega) (by show(i:Int)<m;omega) (Int.le_refl _) (Int.le_refl _)
  exact⟨n',r'⟩
 ·rintro⟨n,h⟩
  exact zr ok hi ⟨n,h.imp fun a c h=>h.1⟩
end
structure Ds(ws:List Way)(m:Int)(x:Bfs.Pl)(F W:List Bfs.Pl):Prop where
 nd:F.Nodup
 sub:∀y∈W,y∈F
 ok:∀y∈F,∃n,Bfs.Rw (Sc ws m) n x y
 box:∀y∈F,bP m (1+m*m) y
 st:x∈F
 few:W.length<=F.length
theorem Ds.all{ws:List Way}{m:Int}{x:Bfs.Pl}{F:List Bfs.Pl}(h:Ds ws m x F [])(cl:∀y∈F,∀z,Sc ws m y z->z∈F){y:Bfs.Pl}:y∈F↔∃n,Bfs.Rw (Sc ws m) n x y:=by
 refine⟨h.ok y,?_⟩
 rintro⟨n,hr⟩
 have:∀(n:Nat) (z y:Bfs.Pl),Bfs.Rw (Sc ws m) n z y->z=x->y∈F:=by
  intro n z y hr
  induction hr with
  | nil=>intro e;rw[e];exact h.st
  | snoc _ hs ih=>intro e;exact cl _ (ih e) _ hs
 exact this n x y hr rfl
theorem Ds.add{ws:List Way}{m:Int}{x y:Bfs.Pl}{F W:List Bfs.Pl}(h:Ds ws m x F W)(hn:y∉F)(hr:∃n,Bfs.Rw (Sc ws m) n x y)(hb:bP m (1+m*m) y):Ds ws m x (F++[y]) (W++[y]) where
 nd:=by
  rw[List.nodup_append]
  refine⟨h.nd,by simp,fun a ha b hb e=>?_⟩
  rw[DI.mp hb]at e
  exact hn (e ▸ ha)
 sub:=fun z hz=>by
  rcases DU.mp hz with a | a
  ·exact List.mem_append_left _ (h.sub z a)
  ·exact List.mem_append_right _ a
 ok:=fun z hz=>by
  rcases DU.mp hz with a | a
  ·exact h.ok z a
  ·rw[DI.mp a];exact hr
 box:=fun z hz=>by
  rcases DU.mp hz with a | a
  ·exact h.box z a
  ·rw[DI.mp a];exact hb
 st:=List.mem_append_left _ h.st
 few:=by rw[DP,DP];exact Nat.add_le_add_right h.few _
def ck(r:Int)(w:Way):Bool:=decide (w.room=r) && !decide (w.deed = "zero")
def jz(H:Hp)(rs:List Addr)(ws:List Way)(n:Nat):Prop:=rs.length=n/\∀(r:Nat) (a:Addr),rs[r]?=some a->∃cs,H a=some (.lst (List.map V.ref cs))/\aN H cs (ws.filter (ck (r:Int)))
theorem jz.ext{H H':Hp}(e:Ext H H'){rs:List Addr}{ws:List Way}{n:Nat}(h:jz H rs ws n):jz H' rs ws n:=⟨h.1,fun r a ha=>by
 obtain⟨cs,h1,h2⟩:=h.2 r a ha
 exact⟨cs,e _ _ h1,h2.ext e⟩⟩
structure DsAt(H:Hp)(f l:Addr)(F W:List Bfs.Pl):Prop where
 d:∃kvs,H f=some (.dT kvs)/\Paired (fun kv e=>kv.1=bf e) kvs F
 r:∃as,H l=some (.lst (List.map V.ref as))/\Paired (aD H) as W
theorem DsAt.ext{H H':Hp}{f l:Addr}{F W:List Bfs.Pl}(e:Ext H H')(h:DsAt H f l F W):DsAt H' f l F W:=by
 obtain⟨⟨kvs,h1,h2⟩,as,h3,h4⟩:=h
 exact⟨⟨kvs,e _ _ h1,h2⟩,as,e _ _ h3,Paired.mapP h4 fun _ _ z=>e _ _ z⟩
theorem qT{kvs:List (List Key×V)}{F:List Bfs.Pl}(h:Paired (fun kv e=>kv.1=bf e) kvs F)(nd:F.Nodup)(y:Bfs.Pl):(bB kvs (bf y)).isSome=decide (y∈F):=by
 by_cases hy:y∈F
 ·obtain⟨v,hv,_⟩:=sL (key:=id) (fun _ _ z=>z) h (by rw[List.map_id];exact nd) hy
  rw[decide_eq_true hy]
  have hv:bB kvs (bf y)=some v:=hv
  rw[hv]
  rfl
 ·rw[md (key:=id) (fun _ _ z=>z) h (by rw[List.map_id];exact hy),decide_eq_false hy]
  rfl
theorem DsAt.push{H:Hp}{f l th:Addr}{F W:List Bfs.Pl}{y:Bfs.Pl}(h:DsAt H f l F W)(hy:y∉F)(hth:aD H th y):∃kvs as,H f=some (.dT kvs)/\kvs.length=F.length/\upd H f (.dT (putK kvs (bf y) (.bl true))) l=some (.lst (List.map V.ref as))/\as.length=W.length ∧
  DsAt (upd (upd H f (.dT (putK kvs (bf y) (.bl true)))) l (.lst (List.map V.ref as++[.ref th]))) f l (F++[y]) (W++[y]):=by
 obtain⟨⟨kvs,h4,h5⟩,as,h6,h7⟩:=h
 have ne:l≠f:=dJ h6 h4 (by intro z;cases z)
 have nf:∀xs,(HO.dT kvs)≠.tup xs:=fun xs z=>by cases z
 have nr:∀xs,(HO.lst (List.map V.ref as))≠.tup xs:=fun xs z=>by cases z
 have h6':upd H f (.dT (putK kvs (bf y) (.bl true))) l=some (.lst (List.map V.ref as)):=by rw[aB ne];exact h6
 refine⟨kvs,as,h4,Paired.length h5,h6',Paired.length h7,⟨kvs++[(bf y,.bl true)],?_,Paired.snoc h5 rfl⟩,as++[th],?_,?_⟩
 ·rw[aB ne.symm,aH,oX _ (md (key:=id) (fun _ _ z=>z) h5 (by rw[List.map_id];exact hy))]
 ·rw[aH,DO];rfl
 ·exact Paired.snoc (Paired.mapP h7 fun _ _ z=>aD.put h6' nr (aD.put h4 nf z)) (aD.put h6' nr (aD.put h4 nf hth))
theorem sv{α β:Type}{F:α->β->Prop}:∀{ts:List β} {as:List α} {t:β},Paired F as (ts++[t])->∃as' a,as=as'++[a]/\Paired F as' ts/\F a t
 | [],_,_,.cons h .nil=>⟨[],_,rfl,.nil,h⟩
 | _::_,_,_,.cons h r=>by
  obtain⟨as',a,rfl,h1,h2⟩:=sv r
  exact⟨_::as',a,rfl,.cons h h1,h2⟩
def gg:List (Key×V):=[(.inr "up",.int 1),(.inr "down",.int (-1)),(.inr "stay",.int 0)]
theorem xH{z:Str}(h:cg z)(hz:z≠"zero"):bB gg (.inr z)=some (.int (rz z)):=by
 rcases h with rfl | rfl | rfl | rfl
 ·rw[gr];rfl
 ·rw[ji];rfl
 ·rw[iC];rfl
 ·exact absurd rfl hz
def iX(m:Int)(y u:Bfs.Pl)(w:Way):Prop:=u=(w.other,y.2+rz w.deed)/\1<=u.2/\u.2<=1+m*m
def o7(K:Du):Sp:=fun vs H Q _=>∃(vh:V) (m:Int) (ws:List Way) (i:Nat),vs=[vh,.int (i:Int)]/\bz H vh m ws/\HOuse m ws/\i<m.toNat/\∀l (G:Nat->Bool) H',Ext H H'->H' l=some (.lst ((row G 0 m.toNat).map V.int))->(∀j,j<m.toNat->(G j=true↔Kpt ws m.toNat i j))->Q (.ref l) H'
abbrev lg:Stmt:=stq 68
theorem rB:FnScope ["_law_house_here","_law_room","_law_rows","_law_raised_here","_law_found","_law_waiting","_law_here","_law_way","_law_there"] ["_law_house_here","_law_room"] (aI lg):=⟨rfl,rfl,rfl,by decide +kernel,rfl,by decide +kernel,by decide +kernel⟩
theorem Ao{P:Program}{w:World}{K:Du}{mg:Str->Option Value}{base:Heap}(D:Dfn K mg "_law_along" lg ["_law_house_here","_law_room"])(T:Blt mg):Cal P w K mg base "_law_along" 1 ["_law_house_here","_law_room"] (o7 K):=by
 have nd:=(rB).nd
 refine D.ok rB (fun vs H Q E h=>?_) (fun X hX H vs Q E h=>?_)
 ·obtain⟨vh,m,ws,i,rfl,_⟩:=h;rfl
 ·obtain⟨f,cdv,A,outer,s,H0,E0,rfl,hr⟩:=hX
  obtain⟨vh,m,ws,i,rfl,hv,ok,hi,q⟩:=h
  have m1:=ok.m1
  have m12:=ok.m12
  have hfew:=ok.few
  have hmm:m*m<=12*12:=Int.mul_le_mul m12 m12 (by omega) (by decide)
  have hmm0:0<=m*m:=Int.mul_nonneg (by omega) (by omega)
  obtain⟨hp,hq,rfl,h1,h2⟩:=id hv
  obtain⟨bs,hb,al⟩:=h2.al
  have hbl:=al.1
  refine⟨_,(@aj _ _ _ _ _ (fJ (i:=2) ["_law_here"] [0] nd rfl (Or.inl rfl) (bQ rfl T.range_ (@aa _ _ _ _ _ (@ai _ _ _ _ _ _ _ (ay K) (pv 0) ae (fun _ _=>rfl)) af rfl)) (fun _=>(aM (i:=0) (show(["_law_here","_law_house_here"]:List Str).Nodup from by decide +kernel) rfl (Or.inr rfl) (Or.inl rfl))) (fun _=>du) (fun _=>(cE ["_law_way"] [0] (fH K (@ai _ _ _ _ _ _ _ (ay K) (pv 1) ae (fun _ _=>rfl))) (fun _=>(aM (i:=0) (show(["_law_way","_law_here"]:List Str).Nodup from by decide +kernel) rfl (Or.inl rfl) (Or.inr rfl))) (fun _=>(dG (PW.pt (jj (aR b9 (@ai _ _ _ _ _ _ _ (ay K) (pv 0) ae (fun _ _=>rfl)) (pv 1) (aQ _)) (je (aR eX (@ai _ _ _ _ _ _ _ (ay K) (pv 0) ae (fun _ _=>rfl)) aS (aQ _))))))) (fun _=>(pv 0)))))
    (@aj _ _ _ _ _ (@aF _ _ 3 _ _ _ _ nd rfl (Or.inl rfl) (B8 (lR aS ae (lR aS (ik iH ae) (lR aS ae Bk))) rfl rfl (by decide) (by decide)) rfl (Or.inl rfl))
    (@aj _ _ _ _ _ (@aF _ _ 4 _ _ _ _ nd rfl (Or.inr rfl) (qF (fF hr) (@bI _ _ _ _ _ (@aa _ _ _ _ _ (pv 1) (@aa _ _ _ _ _ ae af rfl) rfl)) bC) rfl (Or.inl rfl))
    (@aj _ _ _ _ _ (@aF _ _ 5 _ _ _ _ nd rfl (Or.inl rfl) (@bE _ _ _ _ (@aa _ _ _ _ _ (@bI _ _ _ _ _ (@aa _ _ _ _ _ (pv 1) (@aa _ _ _ _ _ ae af rfl) rfl)) af rfl)) rfl (Or.inl rfl))
    (@aj _ _ _ _ _ (f7 PassesOwn.never (aR eL (aW (cF K) rfl T.len_ PySem.boot_len (@aa _ _ _ _ _ (pv 5) af rfl)) ae (aQ _)) (@aj _ _ _ _ _ (@aF _ _ 6 _ _ _ _ nd rfl (Or.inl rfl) (Cs K DF PySem.F.slot_list_pop PySem.F.type_list_pop Bl (pv 5)) rfl (Or.inl rfl))
    (@ao _ _ _ (bJ PassesOwn.never rfl (cJ K (@ai _ _ _ _ _ _ _ (aJ K) (pv 2) (@ai _ _ _ _ _ _ _ (ay K) (pv 6) ae (fun _ _=>rfl)) (fun _ _=>rfl))) (aM (i:=7) nd rfl (Or.inl rfl)) (@aj _ _ _ _ _ (@aF _ _ 8 _ _ _ _ nd rfl (Or.inl rfl) (@bI _ _ _ _ _ (@aa _ _ _ _ _ (@ai _ _ _ _ _ _ _ (ay K) (pv 7) ae (fun _ _=>rfl)) (@aa _ _ _ _ _ (aq aT (@ai _ _ _ _ _ _ _ (ay K) (pv 6) ae (fun _ _=>rfl)) (A4 (fF hr) (pv 3) (@ai _ _ _ _ _ _ _ (ay K) (pv 7) ae (fun _ _=>rfl)) (fun _ _=>rfl))) af rfl) rfl)) rfl (Or.inl rfl))
    (@ao _ _ _ (de (PW.pt (jj (Bz fZ fZ ae (@ai _ _ _ _ _ _ _ (ay K) (pv 8) ae (fun _ _=>rfl)) (aq aT ae (aq dR (@ai _ _ _ _ _ _ _ (ay K) (pv 0) ae (fun _ _=>rfl)) (@ai _ _ _ _ _ _ _ (ay K) (pv 0) ae (fun _ _=>rfl))))) (je (nT (tR (fF hr) (pv 8) (pv 4)) (by with_unfolding_all rfl))))) (@aj _ _ _ _ _ (wD (fF hr) (pv 4) (pv 8) bC rfl)
    (@ao _ _ _ (bA (bN K DF DS DT bY (pv 5) (@aa _ _ _ _ _ (pv 8) af rfl))))) aV)))))))
    (@ao _ _ _ (@aE _ _ _ _ (cE ["_law_q"] [4] (bQ rfl T.range_ (@aa _ _ _ _ _ (@ai _ _ _ _ _ _ _ (ay K) (pv 0) ae (fun _ _=>rfl)) af rfl)) (fun _=>(aM (i:=0) (show(["_law_q","_law_found"]:List Str).Nodup from by decide +kernel) rfl (Or.inl rfl) (Or.inr rfl))) (fun _=>(dG (nT (zD (fF hr) (@bI _ _ _ _ _ (@aa _ _ _ _ _ (pv 0) (@aa _ _ _ _ _ ae af rfl) rfl)) (pv 1)) (by with_unfolding_all rfl)))) (fun _=>(pv 0)))))))))),?_⟩
  walk_at "r"
  refine az (ah.of h1) (v:=.int m) rfl ?_
  walk_at "r"
  refine bS (by omega) ?_
  refine dC (fun r ys H'=>Ext H H'/\∃rs,ys=List.map V.ref rs/\jz H' rs ws r) (bw (by omega)) ⟨Ext.rfl' _,[],rfl,rfl,fun r a h=>by simp at h⟩ (fun r ys H' _ h=>by obtain⟨_,rs,rfl,hr⟩:=h;rw[Dy,hr.1];exact DR _) ?_ ?_
  ·rintro r ys H1 hr' ⟨e1,rs,rfl,hrs⟩
   rw[show (0:Int)+(r:Int)=((r:Nat):Int) by omega]
   have hb1:=e1 _ _ hb
   have al1:=al.ext e1
   walk_at "r"
   refine aG ?_
   walk_at "r"
   refine az (ah.of (e1 _ _ h1)) (v:=.ref hq) rfl ?_
   walk_at "r"
   refine ft (ah.of hb1) ?_
   refine ig (xs:=List.map V.ref bs) (fun j zs H'=>H'=H1/\∃cs,zs=List.map V.ref cs/\aN H1 cs ((ws.take j).filter (ck (r:Int)))/\cs.length<=j) (bw (by rw[Dy];omega)) ⟨rfl,[],rfl,aN.nil _,DR _⟩ (fun j zs H' _ h=>by obtain⟨rfl,cs,rfl,_,hc⟩:=h;exact⟨ah.of hb1,by rw[Dy];exact hc⟩) ?_ ?_
   ·rintro j u zs H2 hu ⟨rfl,cs,rfl,hcs,hcl⟩
    rw[DA]at hu
    obtain⟨b,hbj,rfl⟩:=DJ.mp hu
    have hjl:j<ws.length:=by rw[←hbl];exact(DG.mp hbj).1
    have hwj:ws[j]?=some ws[j]:=Dz hjl
    generalize ws[j]=w at hwj
    have hbw:=al1.2 j b w hbj hwj
    have htk:(ws.take (j+1)).filter (ck (r:Int))=(ws.take j).filter (ck (r:Int))++(if ck (r:Int) w then[w]else[]):=by
     rw[List.take_succ,hwj,List.filter_append]
     congr 1
     show List.filter _ [w]=_
     rw[List.filter_cons,List.filter_nil]
    walk_at "r"
    refine az (ah.of hbw) (v:=.int w.room) rfl ?_
    walk_at "r"
    have skip:ck (r:Int) w=false->H2=H2/\∃cs',List.map V.ref cs=List.map V.ref cs'/\aN H2 cs' ((ws.take (j+1)).filter (ck (r:Int)))/\cs'.length<=j+1:=fun z=>⟨rfl,cs,rfl,by rw[htk,z,if_neg DN,List.append_nil];exact hcs,by omega⟩
    by_cases hr0:w.room=(r:Int)
    ·rw[decide_eq_true hr0]
     refine aG ?_
     walk_at "r"
     refine az (ah.of hbw) (v:=.str w.deed) rfl ?_
     walk_at "r"
     refine o8 ?_
     by_cases hz:w.deed = "zero"
     ·rw[decide_eq_true hz]
      refine rd_exb (aA ?_)
      exact skip (by unfold ck;rw[decide_eq_true hz,Bool.not_true,Bool.and_false])
     ·rw[decide_eq_false hz]
      refine rd_exb (aG ?_)
      walk_at "r"
      refine⟨rfl,cs++[b],by rw[DO];rfl,?_,by rw[DP];simp;omega⟩
      rw[htk,if_pos (by unfold ck;rw[decide_eq_true hr0,decide_eq_false hz];rfl)]
      exact hcs.snoc hbw
    ·rw[decide_eq_false hr0]
     refine aA (aA ?_)
     exact skip (by unfold ck;rw[decide_eq_false hr0,Bool.false_and])
   ·rintro zs H2 pr ⟨rfl,cs,rfl,hcs,hcl⟩ hpr
    rw[Dy,hbl,DZ]at hcs
    walk_at "r"
    have e2:=aZ (o:=.lst (List.map V.ref cs)) hpr
    refine⟨e1.trans e2,rs++[pr],by rw[DO];rfl,by rw[DP,hrs.1];rfl,fun k a ha=>?_⟩
    rcases Nat.lt_or_ge k rs.length with hk | hk
    ·rw[DW hk]at ha
     exact(hrs.ext e2).2 k a ha
    ·rw[DV hk]at ha
     have hz:k-rs.length=0:=by
      have:=(DG.mp ha).1
      simp at this
      omega
     rw[hz]at ha
     cases ha
     have:k=r:=by have:=hrs.1;omega
     subst this
     exact⟨cs,aH,hcs.ext e2⟩
  rintro ys H1 rl ⟨e1,rs,rfl,hrs⟩ hrl
  have e2:=e1.trans (aZ (o:=.lst (List.map V.ref rs)) hrl)
  have hrs2:=hrs.ext (aZ (o:=.lst (List.map V.ref rs)) hrl)
  have hrl2:(upd H1 rl (.lst (List.map V.ref rs))) rl=_:=aH
  generalize upd H1 rl (.lst (List.map V.ref rs))=H2 at e2 hrs2 hrl2 ⊢
  walk_at "r"
  refine fun dp hdp=>?_
  walk_at "r"
  refine⟨_,rfl,?_⟩
  refine⟨aH,gg,rfl,by decide,?_⟩
  have hD:upd (upd H2 dp (.dK [])) dp (.dK (eS [] gg)) dp=some (.dK gg):=aH
  have eD:Ext H2 (upd (upd H2 dp (.dK [])) dp (.dK (eS [] gg))):=cy (aZ hdp) hdp
  generalize upd (upd H2 dp (.dK [])) dp (.dK (eS [] gg))=H3 at hD eD ⊢
  have e3:=e2.trans eD
  have hrs3:=hrs2.ext eD
  have hrl3:=eD _ _ hrl2
  have h13:=e3 _ _ h1
  clear hrl2 hrs2 e2 eD hdp hrl hrs e1 hb al hbl h2 hv h1
  walk_at "r"
  refine fun f hfn=>?_
  walk_at "r"
  refine aP fun t0 H4 e4 ht0 _=>?_
  walk_at "r"
  refine⟨t0,bf ((i:Int),1),rfl,ht0,e4 _ _ aH,?_⟩
  have hf5:upd H4 f (.dT [(bf ((i:Int),1),.bl true)]) f=some (.dT [(bf ((i:Int),1),.bl true)]):=aH
  have e5:Ext H3 (upd H4 f (.dT [(bf ((i:Int),1),.bl true)])):=cy ((aZ hfn).trans e4) hfn
  generalize upd H4 f (.dT [(bf ((i:Int),1),.bl true)])=H5 at hf5 e5 ⊢
  clear ht0 e4
  walk_at "r"
  refine aP fun t1 H6 e6 ht1 _=>?_
  walk_at "r"
  refine aP fun wl H7 e7 hwl hwn=>?_
  have hwl3:H3 wl=none:=(e5.trans e6).none hwn
  have e37:=e5.trans (e6.trans e7)
  have ds0:DsAt H7 f wl [((i:Int),1)] [((i:Int),1)]:=⟨⟨_,e7 _ _ (e6 _ _ hf5),.cons rfl .nil⟩,[t1],hwl,.cons (e7 _ _ ht1) .nil⟩
  have hx0:bP m (1+m*m) ((i:Int),1):=⟨by show(0:Int)<=(i:Int);omega,by show(i:Int)<m;omega,by show(0:Int)<=1;decide,by show(1:Int)<=1+m*m;omega⟩
  have dq0:Ds ws m ((i:Int),1) [((i:Int),1)] [((i:Int),1)]:=⟨by simp,fun y h=>h,fun y h=>⟨0,by rw[DI.mp h];exact .nil⟩,fun y h=>by rw[DI.mp h];exact hx0,DI.mpr rfl,DR _⟩
  clear hx0 hwl hwn ht1 e7 e6 e5 hf5
  walk_at "r"
  refine gQ (fun M σ H'=>∃F W k6 k7 k8,σ=[some (.ref hp),some (.int (i:Int)),some (.ref rl),some (.ref dp),some (.ref f),some (.ref wl),k6,k7,k8]/\Ext H3 H'/\DsAt H' f wl F W/\Ds ws m ((i:Int),1) F W/\(∀y∈F,y∉W->∀z,Sc ws m y z->z∈F)/\2*(24013-F.length)+W.length=M)
   (fun σ H'=>∃F k6 k7 k8,σ=[some (.ref hp),some (.int (i:Int)),some (.ref rl),some (.ref dp),some (.ref f),some (.ref wl),k6,k7,k8]/\Ext H3 H'/\DsAt H' f wl F []/\Ds ws m ((i:Int),1) F []/\∀y∈F,∀z,Sc ws m y z->z∈F) (2*(24013-1)+1)
   ⟨_,_,_,_,_,rfl,e37,ds0,dq0,fun y h1 h2=>absurd h1 h2,rfl⟩ ?_ ?_
  ·clear ds0 dq0 e37 H7
   rintro M σ H7 ⟨F,W,k6,k7,k8,rfl,e7,ds,dq,cl,hM⟩
   obtain⟨as,hwl,pas⟩:=ds.r
   have hal:=Paired.length pas
   walk_at "r"
   refine eo (ag.of hwl) ?_
   walk_at "r"
   rw[Dy,hal]
   rcases List.eq_nil_or_concat W with rfl | ⟨W',y,rfl⟩
   ·refine aA ?_
    exact⟨F,_,_,_,rfl,e7,ds,dq,fun y hy z hz=>cl y hy (by simp) z hz⟩
   ·rw[List.concat_eq_append]at *
    rw[decide_eq_true (show(0:Int)<(((W'++[y]).length:Nat):Int) by rw[DP,List.length_singleton];omega)]
    refine aG ⟨_,fun _ _ h=>h,?_⟩
    obtain⟨as',a,rfl,pas',hay⟩:=sv pas
    walk_at "r"
    refine⟨df (ag.of hwl),?_⟩
    refine⟨wl,_,.ref a,rfl,rfl,hwl,by simp,?_⟩
    rw[DO,show List.map V.ref [a]=[V.ref a]from rfl,List.dropLast_concat]
    rw[DO]at hwl
    have hyF:y∈F:=dq.sub y (List.mem_append_right _ (DI.mpr rfl))
    have hyb:=dq.box y hyF
    obtain⟨kvs0,hf0,pk0⟩:=ds.d
    have nef:f≠wl:=dJ hf0 hwl (by intro z;cases z)
    have nt:∀xs,(HO.lst (List.map V.ref as'++List.map V.ref [a]))≠.tup xs:=fun xs z=>by cases z
    have ds8:DsAt (upd H7 wl (.lst (List.map V.ref as'))) f wl F W':=⟨⟨kvs0,by rw[aB nef];exact hf0,pk0⟩,as',aH,Paired.mapP pas' fun _ _ z=>aD.put hwl nt z⟩
    have e8:Ext H3 (upd H7 wl (.lst (List.map V.ref as'))):=cy e7 hwl3
    have ha8:aD (upd H7 wl (.lst (List.map V.ref as'))) a y:=aD.put hwl nt hay
    generalize upd H7 wl (.lst (List.map V.ref as'))=H8 at ds8 e8 ha8 ⊢
    have dq8:Ds ws m ((i:Int),1) F W':=⟨dq.nd,fun z hz=>dq.sub z (List.mem_append_left _ hz),dq.ok,dq.box,dq.st,by have:=dq.few;rw[DP]at this;omega⟩
    have hyn:y.1.toNat<rs.length:=by have:=hrs3.1;have:=hyb.1;have:=hyb.2.1;omega
    obtain⟨cs,hcs,alc⟩:=hrs3.2 y.1.toNat _ (Dz hyn)
    have hra:(List.map V.ref rs)[y.1.toNat]?=some (.ref rs[y.1.toNat]):=by rw[DA,Dz hyn];rfl
    rw[DL hyb.1]at alc
    generalize rs[y.1.toNat]=ra at hcs hra
    have hra':bt (List.map V.ref rs) y.1=some (.ref ra):=dI hyb.1 hra
    walk_at "r"
    refine az (ah.of ha8) (v:=.int y.1) rfl ?_
    walk_at "r"
    refine aK (ag.of (e8 _ _ hrl3)) hra' ?_
    walk_at "r"
    refine cI (ag.of (e8 _ _ hcs)) ?_
    have hcl:=alc.1
    refine forL (xs:=List.map V.ref cs) (fun j σ H'=>∃F2 W2 k7 k8,σ=[some (.ref hp),some (.int (i:Int)),some (.ref rl),some (.ref dp),some (.ref f),some (.ref wl),some (.ref a),k7,k8]/\Ext H3 H'/\aD H' a y/\DsAt H' f wl F2 W2/\Ds ws m ((i:Int),1) F2 W2/\y∈F2/\F.length<=F2.length/\F2.length+W'.length=F.length+W2.length/\(∀z∈F2,z∉W2->z=y\/∀u,Sc ws m z u->u∈F2)/\∀w∈(ws.filter (ck y.1)).take j,∀u,iX m y u w->u∈F2)
     ⟨F,W',_,_,rfl,e8,ha8,ds8,dq8,hyF,DR _,rfl,fun z hz hn=>(Classical.em (z=y)).imp_right fun hne u hu=>cl z hz (fun h=>(DU.mp h).elim hn fun h=>hne (DI.mp h)) u hu,fun w hw=>by simp at hw⟩ (fun j σ H' _ h=>by obtain⟨_,_,_,_,_,e,_⟩:=h;exact ag.of (e _ _ hcs)) ?_ ?_
    ·clear ds8 e8 ha8 dq8 hf0 pk0 hay pas' nt hra hra' cl dq ds hwl pas
     rintro j u σ H9 hu ⟨F2,W2,k7,k8,rfl,e9,ha9,ds9,dq9,hy2,hF2,hFW,cl9,hj9⟩
     rw[DA]at hu
     obtain⟨b,hbj,rfl⟩:=DJ.mp hu
     have hjl:j<(ws.filter (ck y.1)).length:=by rw[←hcl];exact(DG.mp hbj).1
     have hwj:(ws.filter (ck y.1))[j]?=some (ws.filter (ck y.1))[j]:=Dz hjl
     generalize (ws.filter (ck y.1))[j]=w at hwj
     have hbw:H9 b=some (.tup w.vs):=e9 _ _ (alc.2 j b w hbj hwj)
     obtain⟨hwm,hwon⟩:=List.mem_filter.mp (DH hwj)
     have okw:=ok.ok w hwm
     unfold ck at hwon
     rw[Eg,decide_eq_true_iff,Bool.not_eq_true',decide_eq_false_iff_not]at hwon
     have hwd:=hwon.2
     have hfl:=bP.few m12 (by omega) dq9.nd dq9.box
     have hfw:=dq9.few
     have hnext:∀F3:List Bfs.Pl,(∀z∈F2,z∈F3)->(∀u,iX m y u w->u∈F3)->∀w'∈(ws.filter (ck y.1)).take (j+1),∀u,iX m y u w'->u∈F3:=fun F3 hsub hu w' hw' u hc=>by
      rw[List.take_succ,hwj]at hw'
      rcases DU.mp hw' with z | z
      ·exact hsub u (hj9 w' z u hc)
      ·have:w'=w:=by simpa using z
       subst this
       exact hu u hc
     walk_at "r"
     refine az (ah.of hbw) (v:=.int w.other) rfl ?_
     walk_at "r"
     refine az (ah.of ha9) (v:=.int y.2) rfl ?_
     walk_at "r"
     refine az (ah.of hbw) (v:=.str w.deed) rfl ?_
     refine⟨dp,_,rfl,by rw[←xH okw.dd hwd];exact cC.k (k:=.inr w.deed) (e9 _ _ hD),?_⟩
     walk_at "r"
     refine aP fun th H10 e10 hth _=>?_
     have hth':aD H10 th (w.other,y.2+rz w.deed):=hth
     have ds10:=ds9.ext e10
     have e310:=e9.trans e10
     have keep:(∀u,iX m y u w->u∈F2)->∃F3 W3 c7 c8,[some (V.ref hp),some (.int (i:Int)),some (.ref rl),some (.ref dp),some (.ref f),some (.ref wl),some (.ref a),some (.ref b),some (.ref th)]=[some (.ref hp),some (.int (i:Int)),some (.ref rl),some (.ref dp),some (.ref f),some (.ref wl),some (.ref a),c7,c8]/\Ext H3 H10/\aD H10 a y/\DsAt H10 f wl F3 W3/\Ds ws m ((i:Int),1) F3 W3/\y∈F3/\F.length<=F3.length/\F3.length+W'.length=F.length+W3.length/\(∀z∈F3,z∉W3->z=y\/∀u,Sc ws m z u->u∈F3)/\∀w∈(ws.filter (ck y.1)).take (j+1),∀u,iX m y u w->u∈F3:=fun hu=>⟨F2,W2,_,_,rfl,e310,e10 _ _ ha9,ds10,dq9,hy2,hF2,hFW,cl9,hnext F2 (fun z hz=>hz) hu⟩
     walk_at "r"
     refine fk ?_
     walk_at "r"
     refine az (ah.of hth) (v:=.int (y.2+rz w.deed)) rfl ?_
     walk_at "r"
     by_cases h1:1<=y.2+rz w.deed
     ·rw[decide_eq_true h1]
      refine aG ?_
      walk_at "r"
      refine az (ah.of (e310 _ _ h13)) (v:=.int m) rfl ?_
      walk_at "r"
      refine az (ah.of (e310 _ _ h13)) (v:=.int m) rfl ?_
      walk_at "r"
      try refine rd_I (.inl ⟨by omega,by omega⟩) ?_
      walk_at "r"
      by_cases h2:y.2+rz w.deed<=1+m*m
      ·rw[decide_eq_true h2]
       refine aG ?_
       walk_at "r"
       obtain⟨kvs,hd10,pk10⟩:=ds10.d
       refine⟨f,_,rfl,cC.t hd10 (k:=bf (w.other,y.2+rz w.deed)) hth',?_⟩
       rw[qT pk10 dq9.nd]
       by_cases hin:(w.other,y.2+rz w.deed)∈F2
       ·rw[decide_eq_true hin]
        refine rd_exb (aA ?_)
        walk_at "r"
        exact keep fun u hu=>by rw[hu.1];exact hin
       ·rw[decide_eq_false hin]
        refine rd_exb (aG ?_)
        walk_at "r"
        obtain⟨kvs',as9,hd11,hkl,hl11,hal11,ds11⟩:=ds10.push hin hth'
        refine⟨f,_,rfl,fL.t hd11 (k:=bf (w.other,y.2+rz w.deed)) hth' (gn (by omega)),?_⟩
        walk_at "r"
        refine⟨df (ag.of hl11),?_⟩
        walk_at "r"
        refine bV hl11 (gn (by rw[Dy];omega)) ?_
        have hrun:∃n,Bfs.Rw (Sc ws m) n ((i:Int),1) (w.other,y.2+rz w.deed):=by
         obtain⟨n,hn⟩:=dq9.ok y hy2
         exact⟨n+1,.snoc hn ⟨⟨h1,w,hwm,hwon.1,hwd,rfl⟩,h2⟩⟩
        have dq11:=dq9.add hin hrun ⟨okw.o0,okw.o1,by show 0<=y.2+rz w.deed;omega,h2⟩
        refine⟨_,_,_,_,rfl,cy (cy e310 hfn) hwl3,?_,ds11,dq11,List.mem_append_left _ hy2,by rw[DP];omega,by rw[DP,DP,List.length_singleton];omega,fun z hz hn=>?_,hnext _ (fun z hz=>List.mem_append_left _ hz) fun u hu=>by rw[hu.1];exact List.mem_append_right _ (DI.mpr rfl)⟩
        ·exact aD.put hl11 (fun xs z=>by cases z) (aD.put hd11 (fun xs z=>by cases z) (e10 _ _ ha9))
        ·rcases DU.mp hz with z1 | z1
         ·rcases cl9 z z1 (fun h=>hn (List.mem_append_left _ h))with h | h
          ·exact .inl h
          ·exact .inr fun u hu=>List.mem_append_left _ (h u hu)
         ·exact absurd (List.mem_append_right _ z1) hn
      ·rw[decide_eq_false h2]
       refine aA (aA ?_)
       walk_at "r"
       exact keep fun u hu=>absurd hu.2.2 (by rw[hu.1];exact h2)
     ·rw[decide_eq_false h1]
      refine aA ?_
      refine rd_exb (aA (aA ?_))
      walk_at "r"
      exact keep fun u hu=>absurd hu.2.1 (by rw[hu.1];exact h1)
    ·rintro σ H9 ⟨F2,W2,c7,c8,rfl,e9,ha9,ds9,dq9,hy2,hF2,hFW,cl9,hj9⟩
     rw[Dy,hcl,DZ]at hj9
     have hfl:=bP.few m12 (by omega) dq9.nd dq9.box
     refine⟨_,?_,F2,W2,_,_,_,rfl,e9,ds9,dq9,fun z hz hn u hu=>?_,rfl⟩
     ·rw[←hM,DP,List.length_singleton]
      omega
     ·rcases cl9 z hz hn with rfl | h
      ·obtain⟨⟨h1,w,hw,hr0,hz0,rfl⟩,h2⟩:=hu
       exact hj9 w (List.mem_filter.mpr ⟨hw,by unfold ck;rw[decide_eq_true hr0,decide_eq_false hz0];rfl⟩) _ ⟨rfl,h1,h2⟩
      ·exact h u hu
  rintro σ H8 ⟨F,k6,k7,k8,rfl,e8,ds,dq,cl⟩
  obtain⟨kvs,hd,pk⟩:=ds.d
  obtain⟨G,hG⟩:∃G:Nat->Bool,∀j:Nat,(G j=true↔((j:Int),(1:Int))∈F):=⟨fun j=>decide (((j:Int),(1:Int))∈F),fun j=>decide_eq_true_iff⟩
  walk_at "r"
  refine az (ah.of (e8 _ _ h13)) (v:=.int m) rfl ?_
  walk_at "r"
  refine bS (by omega) ?_
  refine dC (fun j ys H'=>Ext H8 H'/\ys=(row G 0 j).map V.int) (bw (by omega)) ⟨Ext.rfl' _,rfl⟩ (fun j ys H' _ h=>by rw[h.2,Dy];exact fK _ _ _) ?_ ?_
  ·rintro j ys H9 hj ⟨e9,rfl⟩
   rw[show (0:Int)+(j:Int)=((j:Nat):Int) by omega]
   walk_at "r"
   refine aP fun pr H10 e10 hpr _=>?_
   have hpr':aD H10 pr ((j:Int),1):=hpr
   walk_at "r"
   refine⟨f,_,rfl,cC.t ((e9.trans e10) _ _ hd) (k:=bf ((j:Int),1)) hpr',_,rfl,?_⟩
   rw[qT pk dq.nd]
   cases hGj:G j with
   | true=>
    rw[decide_eq_true ((hG j).mp hGj)]
    refine aG ?_
    walk_at "r"
    refine⟨e9.trans e10,?_⟩
    have:=iU (f:=G) (lo:=0) (i:=j) rfl (by rw[Nat.zero_add];exact hGj)
    rw[Nat.zero_add]at this
    exact this
   | false=>
    rw[decide_eq_false (fun z=>by rw[(hG j).mpr z]at hGj;cases hGj)]
    refine aA ?_
    exact⟨e9.trans e10,iQ (f:=G) (lo:=0) (i:=j) rfl (by rw[Nat.zero_add];exact hGj)⟩
  ·rintro ys H9 p9 ⟨e9,rfl⟩ hp9
   refine q p9 G _ (e3.trans (e8.trans (e9.trans (aZ hp9)))) aH fun j hj=>?_
   rw[hG,dq.all cl,xm ok.ok hi]
def nv(K:Du):Sp:=fun vs H Q _=>∃i:Int,vs=[.int i]/\Q (.bl true) H
abbrev lY:Stmt:=stq 70
theorem uX:FnScope ["_law_found"] ["_law_found"] (aI lY):=⟨rfl,rfl,rfl,by decide +kernel,rfl,by decide +kernel,by decide +kernel⟩
theorem w5{P:Program}{w:World}{K:Du}{mg:Str->Option Value}{base:Heap}(D:Dfn K mg "_law_whole" lY ["_law_found"])(T:Blt mg):Cal P w K mg base "_law_whole" 1 ["_law_found"] (nv K):=by
 have nd:=(uX).nd
 refine D.ok uX (fun vs H Q E h=>?_) (fun X hX H vs Q E h=>?_)
 ·obtain⟨i,rfl,_⟩:=h;rfl
 ·obtain⟨f,cdv,A,outer,s,H0,E0,rfl,hr⟩:=hX
  obtain⟨i,rfl,q⟩:=h
  refine⟨_,(ao (aE (dH (aW cS rfl T.isinstance_ PyProof.Rows.boot_isinstance (aa (pv 0) (aa (cO (v:=.ty "int") rfl T.int_ PyProof.Rows.boot_int rfl) af))) (dM (uq (aW cS rfl T.isinstance_ PyProof.Rows.boot_isinstance (aa (pv 0) (aa (cO (v:=.ty "bool") rfl T.bool_ PyProof.Rows.boot_bool rfl) af)))))))),?_⟩
  walk_at "r"
  refine cV (n:="int") rfl (b:=true) rfl ?_
  walk_at "r"
  refine aG ?_
  walk_at "r"
  refine cV (n:="int") rfl (b:=false) rfl ?_
  walk_at "r"
  exact q
theorem lx{H:Hp}{p:Addr}{xs:List V}(h:H p=some (.lst xs)):eG H (.ref p) "list":=.inl ⟨rfl,xs,h⟩
theorem nR{lo hi:Int}:∀{xs:List Int},eO lo hi xs->(xs.length:Int)<=max 0 (hi-lo)
 | [],_=>by simp;omega
 | x::r,h=>by
  obtain⟨h1,h2,h3⟩:=qe.mp h
  have:=nR h3
  rw[DY]
  omega
theorem yT(xs:List V):bX xs (some 1) none=xs.drop 1:=by
 unfold bX
 rw[HT.ny]
 have e:HT.aL xs.length 0 (some 1)=min 1 xs.length:=rfl
 rw[e]
 rcases Nat.lt_or_ge xs.length 1 with h | h
 ·have:xs=[]:=List.eq_nil_of_length_eq_zero (by omega)
  subst this
  rfl
 ·rw[Nat.min_eq_left h]
  exact List.take_of_length_le (by rw[List.length_drop];exact DR _)
def qI(K:Du):Sp:=fun vs H Q _=>∃(p:Addr) (lo hi:Int) (xs:List Int),vs=[.ref p,.int lo,.int hi]/\H p=some (.tup (xs.map V.int))/\xs.length<=10000/\eO lo hi xs/\∀H',Ext H H'->Q (.bl true) H'
abbrev mF:Stmt:=stq 71
theorem uI:FnScope ["_law_row","_law_low","_law_high"] ["_law_row","_law_low","_law_high"] (aI mF):=⟨rfl,rfl,rfl,by decide +kernel,rfl,by decide +kernel,by decide +kernel⟩
theorem zb{P:Program}{w:World}{K:Du}{mg:Str->Option Value}{base:Heap}(D:Dfn K mg "_law_rises" mF ["_law_row","_law_low","_law_high"])(T:Blt mg)(C__law_whole:Cal P w K mg base "_law_whole" 1 ["_law_found"] (nv K)):Cal P w K mg base "_law_rises" 2 ["_law_row","_law_low","_law_high"] (qI K):=by
 have nd:=(uI).nd
 refine D.ok uI (fun vs H Q E h=>?_) (fun X hX H vs Q E h=>?_)
 ·obtain⟨p,lo,hi,xs,rfl,_⟩:=h;rfl
 ·obtain⟨f,cdv,A,outer,s,H0,E0,rfl,hr⟩:=hX
  obtain⟨p,lo,hi,xs,rfl,hp,hl,hr',q⟩:=h
  have hk:eG H (.ref p) "tuple":=.inr ⟨rfl,_,hp⟩
  refine⟨_,(aj (bp (PW.pt (cc (bL (bo (aW cS rfl T.isinstance_ PyProof.Rows.boot_isinstance (aa (pv 0) (aa (cO (v:=.ty "tuple") rfl T.tuple_ PyProof.Rows.boot_tuple rfl) af))))) (cY (bL (bo (aW (iY K rfl) rfl T.all_ PyProof.Rows.boot_all (aa (cE ["_law_part"] [] (fH K (pv 0)) (fun _=>(aM (i:=0) (show(["_law_part"]:List Str).Nodup from by decide +kernel) rfl (Or.inl rfl) (Or.inr rfl))) (fun _=>du) (fun _=>(aC C__law_whole hr (aa (pv 0) af)))) af))))))) (ao (aE bC)) aV)
    (ao (aE (dH (aW (iY K rfl) rfl T.all_ PyProof.Rows.boot_all (aa (cE ["_law_part"] [1,2] (fH K (pv 0)) (fun _=>(aM (i:=0) (show(["_law_part","_law_low","_law_high"]:List Str).Nodup from by decide +kernel) rfl (Or.inl rfl) (Or.inr rfl))) (fun _=>du) (fun _=>(jD fZ dh (pv 1) (pv 0) (pv 2)))) af)) (dM (aW (iY K rfl) rfl T.all_ PyProof.Rows.boot_all (aa (cE ["_law_one","_law_two"] [] (y4 K rfl T.zip_ (aa (pv 0) (aa (gW Bv (pv 0) (fu ae) iR) af))) (fun _=>(gY (n:=2) K rfl (cA (aM (i:=0) (show(["_law_one","_law_two"]:List Str).Nodup from by decide +kernel) rfl (Or.inl rfl) (Or.inr rfl)) (cA (aM (i:=1) (show(["_law_one","_law_two"]:List Str).Nodup from by decide +kernel) rfl (Or.inl rfl) (Or.inr rfl)) fN)))) (fun _=>du) (fun _=>(dU dh (pv 0) (pv 1) (aQ _)))) af))))))),?_⟩
  walk_at "r"
  refine cV hk (b:=true) rfl ?_
  walk_at "r"
  refine aA ?_
  walk_at "r"
  refine ft (ah.of hp) ?_
  refine ig (xs:=xs.map V.int) (fun i ys H'=>H'=H/\ys=(List.replicate i true).map V.bl) (bw (by rw[Dy];omega)) ⟨rfl,rfl⟩ ?_ ?_ ?_
  ·rintro i ys H' _ ⟨rfl,rfl⟩
   exact⟨ah.of hp,by simp⟩
  ·rintro i v ys H' hi' ⟨rfl,rfl⟩
   obtain⟨x,rfl,hx⟩:=gC hi'
   walk_at "r"
   refine aG ?_
   walk_at "r"
   refine⟨_,rfl,rfl,?_⟩
   rw[List.replicate_succ',DO]
   rfl
  rintro ys H' p1 ⟨rfl,rfl⟩ hp1
  have e1:Ext H' (upd H' p1 (.lst ((List.replicate (xs.map V.int).length true).map V.bl))):=aZ hp1
  have h1:(upd H' p1 (.lst ((List.replicate (xs.map V.int).length true).map V.bl))) p1=_:=aH
  generalize upd H' p1 (.lst ((List.replicate (xs.map V.int).length true).map V.bl))=H1 at e1 h1
  walk_at "r"
  refine⟨p1,_,rfl,ag.of h1,?_⟩
  rw[show (List.replicate (xs.map V.int).length true).all id=true by rw[Ed];intro b hb;rw[List.eq_of_mem_replicate hb];rfl]
  walk_at "r"
  refine aA ?_
  walk_at "r"
  have hp':=e1 _ _ hp
  refine ft (ah.of hp') ?_
  refine ig (xs:=xs.map V.int) (fun i ys H'=>H'=H1/\ys=(List.replicate i true).map V.bl) (bw (by rw[Dy];omega)) ⟨rfl,rfl⟩ ?_ ?_ ?_
  ·rintro i ys H' _ ⟨rfl,rfl⟩
   exact⟨ah.of hp',by simp⟩
  ·rintro i v ys H' hi' ⟨rfl,rfl⟩
   obtain⟨x,rfl,hx⟩:=gC hi'
   have hb:=hr'.2 x (DH hx)
   walk_at "r"
   refine aG ?_
   walk_at "r"
   rw[decide_eq_true hb.1]
   refine aG ?_
   walk_at "r"
   rw[decide_eq_true hb.2]
   refine⟨rfl,?_⟩
   rw[List.replicate_succ',DO]
   rfl
  rintro ys H2' p2 ⟨rfl,rfl⟩ hp2
  have e2:Ext H2' (upd H2' p2 (.lst ((List.replicate (xs.map V.int).length true).map V.bl))):=aZ hp2
  have h2:(upd H2' p2 (.lst ((List.replicate (xs.map V.int).length true).map V.bl))) p2=_:=aH
  generalize upd H2' p2 (.lst ((List.replicate (xs.map V.int).length true).map V.bl))=H2 at e2 h2
  walk_at "r"
  refine⟨p2,_,rfl,ag.of h2,?_⟩
  rw[show (List.replicate (xs.map V.int).length true).all id=true by rw[Ed];intro b hb;rw[List.eq_of_mem_replicate hb];rfl]
  walk_at "r"
  refine aG ?_
  walk_at "r"
  have hp2':=e2 _ _ hp'
  refine An hp2' fun p3 H3 e3 h3=>?_
  rw[yT]at h3
  walk_at "r"
  refine BK (ah.of (e3 _ _ hp2')) (ah.of h3) ?_
  refine AG (xs:=xs.map V.int) (ys:=(xs.map V.int).drop 1) (fun i zs H'=>Ext H3 H'/\zs=(List.replicate i true).map V.bl) (bw (by rw[Dy];omega)) ⟨Ext.rfl' H3,rfl⟩ ?_ ?_ ?_
  ·rintro i zs H' ⟨e,rfl⟩
   exact⟨ah.of (e _ _ (e3 _ _ hp2')),ah.of (e _ _ h3),by simp⟩
  ·rintro i u v zs H' p4 H4 hu hv ⟨e,rfl⟩ e4 h4 hn4
   obtain⟨x,rfl,hx⟩:=gC hu
   rw[←List.map_drop]at hv
   obtain⟨y,rfl,hy⟩:=gC hv
   have hlt:x<y:=by
    rw[List.getElem?_drop]at hy
    obtain⟨g1,rfl⟩:=DG.mp hx
    obtain⟨g2,rfl⟩:=DG.mp hy
    exact List.pairwise_iff_getElem.mp hr'.1 i (1+i) g1 g2 (by omega)
   refine f6 (ah.of h4) rfl ?_
   walk_at "r"
   refine aG ?_
   walk_at "r"
   rw[decide_eq_true hlt]
   refine⟨e.trans e4,?_⟩
   rw[List.replicate_succ',DO]
   rfl
  rintro zs H' p5 ⟨e,rfl⟩ hp5
  walk_at "r"
  refine⟨p5,_,rfl,ag.of aH,?_⟩
  rw[show ∀n:Nat,(List.replicate n true).all id=true from fun n=>by rw[Ed];intro b hb;rw[List.eq_of_mem_replicate hb];rfl]
  exact q _ (e1.trans (e2.trans (e3.trans (e.trans (aZ hp5)))))
structure Gx(b s:Int)(o a:List Int):Prop where
 ok:Ok b s o a
 bs:b+s<=10000
theorem Gx.lo{b s:Int}{o a:List Int}(g:Gx b s o a):o.length<=10000:=by
 have:=nR g.ok.ho
 have:=g.bs;have:=g.ok.hb;have:=g.ok.hs
 omega
theorem Gx.la{b s:Int}{o a:List Int}(g:Gx b s o a):a.length<=10000:=by
 have:=nR g.ok.ha
 have:=g.bs;have:=g.ok.hs;have:=g.ok.hb
 omega
def vP(K:Du):Sp:=fun vs H Q _=>∃v b s o a,vs=[v]/\b0 H v b s o a/\Gx b s o a/\∀H',Ext H H'->Q (.bl true) H'
abbrev lZ:Stmt:=stq 72
theorem sx:FnScope ["_law_found"] ["_law_found"] (aI lZ):=⟨rfl,rfl,rfl,by decide +kernel,rfl,by decide +kernel,by decide +kernel⟩
theorem xQ{P:Program}{w:World}{K:Du}{mg:Str->Option Value}{base:Heap}(D:Dfn K mg "_law_is_stair" lZ ["_law_found"])(T:Blt mg)(C__law_rises:Cal P w K mg base "_law_rises" 2 ["_law_row","_law_low","_law_high"] (qI K))(C__law_whole:Cal P w K mg base "_law_whole" 1 ["_law_found"] (nv K)):Cal P w K mg base "_law_is_stair" 3 ["_law_found"] (vP K):=by
 have nd:=(sx).nd
 refine D.ok sx (fun vs H Q E h=>?_) (fun X hX H vs Q E h=>?_)
 ·obtain⟨v,b,s,o,a,rfl,_⟩:=h;rfl
 ·obtain⟨f,cdv,A,outer,s,H0,E0,rfl,hr⟩:=hX
  obtain⟨v,b,s',o,a,rfl,⟨p,q',r,rfl,h1,h2,h3⟩,hg,q⟩:=h
  have hb0:=hg.ok.hb
  have hs0:=hg.ok.hs
  have lo:=hg.lo
  have la:=hg.la
  have hk:eG H (.ref p) "tuple":=.inr ⟨rfl,_,h1⟩
  refine⟨_,(aj (bp (PW.pt (cc (bL (bo (aW cS rfl T.isinstance_ PyProof.Rows.boot_isinstance (aa (pv 0) (aa (cO (v:=.ty "tuple") rfl T.tuple_ PyProof.Rows.boot_tuple rfl) af))))) (cY (aR eX (aW (cF K) rfl T.len_ PySem.boot_len (aa (pv 0) af)) ae (aQ _))))) (ao (aE bC)) aV)
    (aj (bp (PW.pt (cc (bL (bo (aC C__law_whole hr (aa (ai (ay K) (pv 0) ae (fun _ _=>rfl)) af)))) (cY (bL (bo (aC C__law_whole hr (aa (ai (ay K) (pv 0) ae (fun _ _=>rfl)) af))))))) (ao (aE bC)) aV)
    (aj (bp (PW.pt (cc (aR dh (ai (ay K) (pv 0) ae (fun _ _=>rfl)) ae (aQ _)) (cc (aR dh (ai (ay K) (pv 0) ae (fun _ _=>rfl)) ae (aQ _)) (cY (bL (bo (aC C__law_rises hr (aa (ai (ay K) (pv 0) ae (fun _ _=>rfl)) (aa ae (aa (ai (ay K) (pv 0) ae (fun _ _=>rfl)) af)))))))))) (ao (aE bC)) aV)
    (ao (aE (aC C__law_rises hr (aa (ai (ay K) (pv 0) ae (fun _ _=>rfl)) (aa (ai (ay K) (pv 0) ae (fun _ _=>rfl)) (aa (aq aT (ai (ay K) (pv 0) ae (fun _ _=>rfl)) (ai (ay K) (pv 0) ae (fun _ _=>rfl))) af))))))))),?_⟩
  walk_at "r"
  refine cV hk (b:=true) rfl ?_
  walk_at "r"
  refine aA ?_
  walk_at "r"
  refine gU (ah.of h1) ?_
  walk_at "r"
  refine aA ?_
  walk_at "r"
  refine az (ah.of h1) rfl ?_
  walk_at "r"
  refine⟨_,rfl,?_⟩
  walk_at "r"
  refine aA ?_
  walk_at "r"
  refine az (ah.of h1) rfl ?_
  walk_at "r"
  refine⟨_,rfl,?_⟩
  walk_at "r"
  refine aA ?_
  walk_at "r"
  refine az (ah.of h1) rfl ?_
  walk_at "r"
  rw[decide_eq_false (show ¬b<0 by omega)]
  refine aA ?_
  walk_at "r"
  refine az (ah.of h1) rfl ?_
  walk_at "r"
  rw[decide_eq_false (show ¬s'<1 by omega)]
  refine aA ?_
  walk_at "r"
  refine az (ah.of h1) rfl ?_
  walk_at "r"
  refine az (ah.of h1) rfl ?_
  walk_at "r"
  refine⟨q',0,b,o,rfl,h2,by omega,hg.ok.ho,fun H1 e1=>?_⟩
  walk_at "r"
  refine aA ?_
  walk_at "r"
  refine az (ah.of (e1 _ _ h1)) rfl ?_
  walk_at "r"
  refine az (ah.of (e1 _ _ h1)) rfl ?_
  walk_at "r"
  refine az (ah.of (e1 _ _ h1)) rfl ?_
  walk_at "r"
  refine az (ah.of (e1 _ _ h1)) rfl ?_
  walk_at "r"
  refine⟨r,b,b+s',a,rfl,e1 _ _ h3,by omega,hg.ok.ha,fun H2 e2=>?_⟩
  exact q H2 (e1.trans e2)
def pL(K:Du):Sp:=fun vs H Q _=>∃v x b s o a,vs=[v,.int x]/\b0 H v b s o a/\Ok b s o a/\Q (.bl (mem b s o a x)) H
abbrev oQ:Stmt:=stq 73
theorem rj:FnScope ["_law_stair","_law_x","_law_base","_law_step","_law_once","_law_again"] ["_law_stair","_law_x"] (aI oQ):=⟨rfl,rfl,rfl,by decide +kernel,rfl,by decide +kernel,by decide +kernel⟩
theorem B3{P:Program}{w:World}{K:Du}{mg:Str->Option Value}{base:Heap}(D:Dfn K mg "_law_holds" oQ ["_law_stair","_law_x"])(T:Blt mg):Cal P w K mg base "_law_holds" 1 ["_law_stair","_law_x"] (pL K):=by
 have nd:=(rj).nd
 refine D.ok rj (fun vs H Q E h=>?_) (fun X hX H vs Q E h=>?_)
 ·obtain⟨v,x,b,s,o,a,rfl,_⟩:=h;rfl
 ·obtain⟨f,cdv,A,outer,s,H0,E0,rfl,hr⟩:=hX
  obtain⟨v,x,b,s',o,a,rfl,hv,hg,q⟩:=h
  have hs:=hg.hs
  obtain⟨p,q',r,rfl,h1,h2,h3⟩:=hv
  refine⟨_,(aj (fV (pv 0) (gY (n:=4) K rfl (cA (aM (i:=2) nd rfl (Or.inl rfl)) (cA (aM (i:=3) nd rfl (Or.inl rfl)) (cA (aM (i:=4) nd rfl (Or.inl rfl)) (cA (aM (i:=5) nd rfl (Or.inl rfl)) fN))))))
    (aj (bp (aR dh (pv 1) (pv 2) (aQ _)) (ao (aE (dU (jW K) (pv 1) (pv 4) (by with_unfolding_all rfl)))) aV)
    (ao (aE (dU (jW K) (aq aT (pv 2) (aq cz (aq cX (pv 1) (pv 2)) (pv 3))) (pv 5) (by with_unfolding_all rfl)))))),?_⟩
  walk_at "r"
  refine f6 (ah.of h1) rfl ?_
  walk_at "r"
  by_cases hx:x<b
  ·rw[decide_eq_true hx]
   refine aG ?_
   walk_at "r"
   refine jU (.inr (ah.of h2)) rfl (j3 o) ?_
   rw[jF _ hx]at q
   rw[jm]
   exact q
  ·rw[decide_eq_false hx]
   refine aA ?_
   walk_at "r"
   refine jU (.inr (ah.of h3)) rfl (j3 a) ?_
   rw[m5 _ (by omega)]at q
   rw[jm]
   exact q
theorem eE.hold{H:Hp}{xs:List V}{m:Int}{ws:List Way}{x:Bfs.Pl}(h:eE H xs m ws x){r:Int}(h0:0<=r)(h1:r<m):∃v b s o a,bt xs r=some v/\b0 H v b s o a/\Gx b s o a/\∀n:Int,0<=n->(mem b s o a n=true↔bG ws x (r,n)):=by
 have hl:=h.1
 have hlt:r.toNat<xs.length:=by omega
 have hv:xs[r.toNat]?=some xs[r.toNat]:=Dz hlt
 obtain⟨F,l,d,hst,hL,hd,hld,hF⟩:=h.2 r.toNat _ hv
 refine⟨_,_,_,_,_,?_,hst,⟨jc F l d hd,by omega⟩,fun n hn=>?_⟩
 ·have:=eW hv
  rw[DL h0]at this
  exact this
 ·have e:=qj hd hL.per n.toNat
  rw[DL hn]at e
  rw[e,hF n.toNat,DL h0,DL hn]
theorem _root_.L2.ag.et{K:Du}{H H':Hp}{p:Addr}{xs:List V}(e:Et H H')(h:ag K H p xs):ag K H' p xs:=by
 rcases h with(h | ⟨o,h⟩) | h
 ·exact .inl (.inl (e _ _ h (fun _ z=>by cases z)))
 ·exact .inl (.inr ⟨o,e _ _ h (fun _ z=>by cases z)⟩)
 ·exact .inr h
theorem b0.et{H H':Hp}{v:V}{b s:Int}{o a:List Int}(e:Et H H')(h:b0 H v b s o a):b0 H' v b s o a:=by
 obtain⟨p,q,r,rfl,h1,h2,h3⟩:=h
 exact⟨p,q,r,rfl,e _ _ h1 (fun ps z=>by cases z),e _ _ h2 (fun ps z=>by cases z),e _ _ h3 (fun ps z=>by cases z)⟩
theorem eE.et{H H':Hp}(e:Et H H'){vs:List V}{m:Int}{ws:List Way}{x:Bfs.Pl}(h:eE H vs m ws x):eE H' vs m ws x:=⟨h.1,fun r v hv=>by
 obtain⟨F,l,d,h1,h2⟩:=h.2 r v hv
 exact⟨F,l,d,h1.et e,h2⟩⟩
theorem Ct{f g:Nat->Bool}{n:Nat}(h:∀r,r<n->f r=g r):row f 0 n=row g 0 n:=by
 unfold row
 congr 1
 apply List.filter_congr
 intro i hi
 rw[Nat.zero_add]
 exact h i (List.mem_range.mp hi)
theorem jC{H:Hp}{p:Addr}{xs:List Int}(h:H p=some (.lst (xs.map V.int))):aU H 1 (.ref p) (.list (xs.map PyData.int)):=
 .inr ⟨p,_,_,rfl,.inr ⟨h,rfl⟩,mG (fun i=>(rfl:i=i)) _⟩
def vv(K:Du):Sp:=fun vs H Q _=>∃v m ws c p,vs=[v,.int c,.int p]/\bz H v m ws/\1<=m/\0<p/\∀a x H',Ext H H'->aD H' a x->0<=x.1->x.1<m->0<=x.2->x.2<=12->Q (.ref a) H'
abbrev mV:Stmt:=stq 67
theorem rZ:FnScope ["_law_house_here","_law_cell_here","_law_prime","_law_draws_here"] ["_law_house_here","_law_cell_here","_law_prime"] (aI mV):=⟨rfl,rfl,rfl,by decide +kernel,rfl,by decide +kernel,by decide +kernel⟩
theorem Bp{P:Program}{w:World}{K:Du}{mg:Str->Option Value}{base:Heap}(D:Dfn K mg "_law_place" mV ["_law_house_here","_law_cell_here","_law_prime"])(T:Blt mg)(C__law_draws:Cal P w K mg base "_law_draws" 2 ["_law_cell_here","_law_widths","_law_prime"] (fB K)):Cal P w K mg base "_law_place" 3 ["_law_house_here","_law_cell_here","_law_prime"] (vv K):=by
 have nd:=(rZ).nd
 refine D.ok rZ (fun vs H Q E h=>?_) (fun X hX H vs Q E h=>?_)
 ·obtain⟨v,m,ws,c,p,rfl,_⟩:=h;rfl
 ·obtain⟨f,cdv,A,outer,s,H0,E0,rfl,hr⟩:=hX
  obtain⟨v,m,ws,c,p,rfl,hv,m1,hp,q⟩:=h
  refine⟨_,(aj (aF (i:=3) nd rfl (Or.inl rfl) (aC C__law_draws hr (aa (pv 1) (aa (bE (aa ae (aa ae af))) (aa (pv 2) af)))))
    (ao (aE (bI (aa (aq cz (ai (aJ K) (pv 3) ae (fun _ _=>rfl)) (ai (ay K) (pv 0) ae (fun _ _=>rfl))) (aa (ai (aJ K) (pv 3) ae (fun _ _=>rfl)) af)))))),?_⟩
  walk_at "r"
  refine aP fun w0 G1 f1 hw0 _=>?_
  walk_at "r"
  refine⟨c,w0,[12,13],p,rfl,hw0,by decide,by decide,hp,fun dq ds H1 e1 hd hdn hl hb=>?_⟩
  have eH:Ext H H1:=f1.trans e1
  obtain⟨d0,g0,_⟩:=b6 hl hb 0 rfl
  obtain⟨d1,g1,b10,b11⟩:=b6 hl hb 1 rfl
  obtain⟨hh,t,rfl,k1,k2⟩:=hv.ext eH
  walk_at "r"
  refine aK (ag.of hd) g0 ?_
  walk_at "r"
  refine az (ah.of k1) (v:=.int m) rfl ?_
  try refine rd_I (show(0:Int)<m by omega) ?_
  walk_at "r"
  refine aK (ag.of hd) g1 ?_
  walk_at "r"
  refine aP fun a H2 e2 ha _=>?_
  exact q a (d0 % m,d1) H2 (eH.trans e2) ha (Int.emod_nonneg _ (by omega)) (Int.emod_lt_of_pos _ (by omega)) b10 (by show d1<=12;omega)
theorem vV{α:Type}{p q r:α->Bool}(h1:∀a,p a=true->r a=true)(h2:∀a,q a=true->r a=true)(hd:∀a,p a=true->q a=false):∀l:List α,l.countP p+l.countP q<=l.countP r
 | []=>DR _
 | a::l=>by
  have ih:=vV h1 h2 hd l
  rw[List.countP_cons,List.countP_cons,List.countP_cons]
  cases hp:p a with
  | true=>rw[hd a hp,h1 a hp];simp;omega
  | false=>
   cases hq:q a with
   | true=>rw[h2 a hq];simp;omega
   | false=>simp;split<;>omega
def cG(r:Int)(w:Way):Bool:=decide (w.deed = "up") && decide (w.room=r)
def f9(H:Hp)(rs:List Addr)(ws:List Way)(m:Int)(n:Nat):Prop:=rs.length=n/\∀(r:Nat) (a:Addr),rs[r]?=some a->∃zs:List Int,H a=some (.lst (zs.map V.int))/\(∀z,z∈zs↔∃j:Nat,z=(j:Int)/\aX ws m.toNat r j)/\zs.length<=12*ws.countP (cG (r:Int))
theorem f9.et{H H':Hp}(e:Et H H'){rs:List Addr}{ws:List Way}{m:Int}{n:Nat}(h:f9 H rs ws m n):f9 H' rs ws m n:=⟨h.1,fun r a ha=>by
 obtain⟨zs,h1,h2⟩:=h.2 r a ha
 exact⟨zs,e _ _ h1 (fun ps z=>by cases z),h2⟩⟩
def wH(K:Du):Sp:=fun vs H Q _=>∃(vh:V) (m:Int) (ws:List Way),vs=[vh]/\bz H vh m ws/\HOuse m ws/\∀l rs H',Ext H H'->H' l=some (.lst (List.map V.ref rs))->f9 H' rs ws m m.toNat->Q (.ref l) H'
abbrev lL:Stmt:=stq 69
theorem pS:FnScope ["_law_house_here","_law_along_here","_law_table","_law_room","_law_far","_law_way"] ["_law_house_here"] (aI lL):=⟨rfl,rfl,rfl,by decide +kernel,rfl,by decide +kernel,by decide +kernel⟩
theorem Cc{P:Program}{w:World}{K:Du}{mg:Str->Option Value}{base:Heap}(D:Dfn K mg "_law_over" lL ["_law_house_here"])(T:Blt mg)(C__law_along:Cal P w K mg base "_law_along" 1 ["_law_house_here","_law_room"] (o7 K)):Cal P w K mg base "_law_over" 2 ["_law_house_here"] (wH K):=by
 have nd:=(pS).nd
 refine D.ok pS (fun vs H Q E h=>?_) (fun X hX H vs Q E h=>?_)
 ·obtain⟨vh,m,ws,rfl,_⟩:=h;rfl
 ·obtain⟨f,cdv,A,outer,s,H0,E0,rfl,hr⟩:=hX
  obtain⟨vh,m,ws,rfl,hv,ok,q⟩:=h
  have m1:=ok.m1
  have m12:=ok.m12
  have hfew:=ok.few
  obtain⟨hp,hq,rfl,h1,h2⟩:=id hv
  obtain⟨bs,hb,al⟩:=h2.al
  have hbl:=al.1
  refine⟨_,(@aj _ _ _ _ _ (fJ (i:=1) ["_law_room"] [0] nd rfl (Or.inl rfl) (bQ rfl T.range_ (@aa _ _ _ _ _ (@ai _ _ _ _ _ _ _ (ay K) (pv 0) ae (fun _ _=>rfl)) af rfl)) (fun _=>(aM (i:=0) (show(["_law_room","_law_house_here"]:List Str).Nodup from by decide +kernel) rfl (Or.inl rfl) (Or.inr rfl))) (fun _=>du) (fun _=>(aC C__law_along hr (@aa _ _ _ _ _ (pv 1) (@aa _ _ _ _ _ (pv 0) af rfl) rfl))))
    (@aj _ _ _ _ _ (@aF _ _ 2 _ _ _ _ nd rfl (Or.inl rfl) (@bE _ _ _ _ af) rfl (Or.inl rfl))
    (@aj _ _ _ _ _ (bJ PassesOwn.never rfl (bQ rfl T.range_ (@aa _ _ _ _ _ (@ai _ _ _ _ _ _ _ (ay K) (pv 0) ae (fun _ _=>rfl)) af rfl)) (aM (i:=3) nd rfl (Or.inl rfl)) (@aj _ _ _ _ _ (@aF _ _ 4 _ _ _ _ nd rfl (Or.inl rfl) (@bE _ _ _ _ af) rfl (Or.inl rfl))
    (@aj _ _ _ _ _ (bJ PassesOwn.never rfl (fH K (@ai _ _ _ _ _ _ _ (ay K) (pv 0) ae (fun _ _=>rfl))) (aM (i:=5) nd rfl (Or.inl rfl)) (@ao _ _ _ (de (PW.pt (jj (aR b9 (@ai _ _ _ _ _ _ _ (ay K) (pv 5) ae (fun _ _=>rfl)) aS (aQ _)) (je (aR b9 (@ai _ _ _ _ _ _ _ (ay K) (pv 5) ae (fun _ _=>rfl)) (pv 3) (aQ _))))) (@ao _ _ _ (@aF _ _ 4 _ _ _ _ nd rfl (Or.inl rfl) (aq i9 (pv 4) (@ai _ _ _ _ _ _ _ (aJ K) (pv 1) (@ai _ _ _ _ _ _ _ (ay K) (pv 5) ae (fun _ _=>rfl)) (fun _ _=>rfl))) rfl (Or.inl rfl))) aV)))
    (@ao _ _ _ (bA (bN K DF DS DT bY (pv 2) (@aa _ _ _ _ _ (pv 4) af rfl)))))))
    (@ao _ _ _ (@aE _ _ _ _ (pv 2)))))),?_⟩
  walk_at "r"
  refine az (ah.of h1) (v:=.int m) rfl ?_
  walk_at "r"
  refine bS (by omega) ?_
  refine dC (fun r ys H'=>Ext H H'/\∃as:List Addr,ys=List.map V.ref as/\as.length=r/\∀(k:Nat) (a:Addr),as[k]?=some a->∃G:Nat->Bool,H' a=some (.lst ((row G 0 m.toNat).map V.int))/\∀j,j<m.toNat->(G j=true↔Kpt ws m.toNat k j)) (bw (by omega)) ⟨Ext.rfl' _,[],rfl,rfl,fun k a h=>by simp at h⟩ (fun r ys H' _ h=>by obtain⟨_,as,rfl,hr,_⟩:=h;rw[Dy,hr];exact DR _) ?_ ?_
  ·rintro r ys H1 hr' ⟨e1,as,rfl,hal,has⟩
   rw[show (0:Int)+(r:Int)=((r:Nat):Int) by omega]
   walk_at "r"
   refine aG ?_
   walk_at "r"
   refine⟨.ref hp,m,ws,r,rfl,hv.ext e1,ok,hr',fun l G H2 e2 hl hG=>?_⟩
   refine⟨e1.trans e2,as++[l],by rw[DO];rfl,by rw[DP,hal];rfl,fun k a ha=>?_⟩
   rcases Nat.lt_or_ge k as.length with hk | hk
   ·rw[DW hk]at ha
    obtain⟨G',h3,h4⟩:=has k a ha
    exact⟨G',e2 _ _ h3,h4⟩
   ·rw[DV hk]at ha
    have hz:k-as.length=0:=by
     have:=(DG.mp ha).1
     simp at this
     omega
    rw[hz]at ha
    cases ha
    have:k=r:=by omega
    subst this
    exact⟨G,hl,hG⟩
  rintro ys H1 la ⟨e1,as,rfl,hal,has⟩ hla
  have e2:=e1.trans (aZ (o:=.lst (List.map V.ref as)) hla)
  have has2:∀(k:Nat) (a:Addr),as[k]?=some a->∃G:Nat->Bool,(upd H1 la (.lst (List.map V.ref as))) a=some (.lst ((row G 0 m.toNat).map V.int))/\∀j,j<m.toNat->(G j=true↔Kpt ws m.toNat k j):=fun k a ha=>by
   obtain⟨G,h3,h4⟩:=has k a ha
   exact⟨G,aZ hla _ _ h3,h4⟩
  have hla2:(upd H1 la (.lst (List.map V.ref as))) la=_:=aH
  generalize upd H1 la (.lst (List.map V.ref as))=H2 at e2 has2 hla2 ⊢
  walk_at "r"
  refine aP fun tl H3 e3 htl htn=>?_
  have h12:=e2 _ _ h1
  have hb2:=e2 _ _ hb
  have al2:=al.ext e2
  clear has hla e1 hv h2
  walk_at "r"
  refine az (ah.of (e3 _ _ h12)) (v:=.int m) rfl ?_
  walk_at "r"
  refine bS (by omega) ?_
  refine forR (fun r σ H'=>∃rs k3 k4 k5,σ=[some (.ref hp),some (.ref la),some (.ref tl),k3,k4,k5]/\Ext H2 H'/\H' tl=some (.lst (List.map V.ref rs))/\f9 H' rs ws m r/\∀a∈rs,a≠tl) ⟨[],_,_,_,rfl,e3,htl,⟨rfl,fun r a h=>by simp at h⟩,fun a h=>by simp at h⟩ ?_ ?_
  ·clear htl e3 H3
   rintro r σ H3 hr' ⟨rs,k3,k4,k5,rfl,e3,htl,hov,hne⟩
   rw[show (0:Int)+(r:Int)=((r:Nat):Int) by omega]
   walk_at "r"
   refine aP fun fa H4 e4 hfa hfn=>?_
   walk_at "r"
   refine az (ah.of ((e3.trans e4) _ _ h12)) (v:=.ref hq) rfl ?_
   walk_at "r"
   refine ft (ah.of ((e3.trans e4) _ _ hb2)) ?_
   refine oE (xs:=List.map V.ref bs) (fun j σ H'=>∃(fa:Addr) (zs:List Int) (k5:Option V),σ=[some (.ref hp),some (.ref la),some (.ref tl),some (.int (r:Int)),some (.ref fa),k5]/\Ext H3 H'/\H' fa=some (.lst (zs.map V.int))/\fa≠tl/\(∀z:Int,z∈zs↔∃k:Nat,z=(k:Int)/\∃u∈ws.take j,u.deed = "up"/\u.room.toNat=r/\Kpt ws m.toNat u.other.toNat k)/\zs.length<=12*(ws.take j).countP (cG (r:Int))) ⟨fa,[],_,rfl,e4,hfa,(fun z=>by rw[z,htl]at hfn;cases hfn),fun z=>by simp,Nat.zero_le _⟩ (fun j σ H' _ h=>by obtain⟨_,_,_,_,e,_⟩:=h;exact ah.of (e _ _ (e3 _ _ hb2))) ?_ ?_
   ·clear hfa hfn e4 fa H4
    rintro j u σ H4 hu ⟨fa,zs,k5,rfl,e4,hfa,hft,hzs,hzl⟩
    rw[DA]at hu
    obtain⟨b,hbj,rfl⟩:=DJ.mp hu
    have hjl:j<ws.length:=by rw[←hbl];exact(DG.mp hbj).1
    have hwj:ws[j]?=some ws[j]:=Dz hjl
    generalize ws[j]=w at hwj
    have hbw:=e4 _ _ (e3 _ _ (al2.2 j b w hbj hwj))
    have okw:=ok.ok w (DH hwj)
    have o0:=okw.o0
    have o1:=okw.o1
    have r0:=okw.r0
    have hcnt:(ws.take (j+1)).countP (cG (r:Int))=(ws.take j).countP (cG (r:Int))+(if cG (r:Int) w then 1 else 0):=by
     rw[List.take_succ,hwj,List.countP_append]
     congr 1
     show List.countP _ [w]=_
     rw[List.countP_cons,List.countP_nil,Nat.zero_add]
    have hmem:∀P:Way->Prop,(∃u∈ws.take (j+1),P u)↔(∃u∈ws.take j,P u)\/P w:=fun P=>by
     rw[List.take_succ,hwj]
     constructor
     ·rintro⟨u,hu,hp⟩
      rcases DU.mp hu with z | z
      ·exact .inl ⟨u,z,hp⟩
      ·have:u=w:=by simpa using z
       subst this
       exact .inr hp
     ·rintro(⟨u,hu,hp⟩ | hp)
      ·exact⟨u,List.mem_append_left _ hu,hp⟩
      ·exact⟨w,List.mem_append_right _ (by simp),hp⟩
    have skip:cG (r:Int) w=false->∃(fa':Addr) (zs':List Int) (c5:Option V),[some (V.ref hp),some (.ref la),some (.ref tl),some (.int (r:Int)),some (.ref fa),some (.ref b)]=[some (.ref hp),some (.ref la),some (.ref tl),some (.int (r:Int)),some (.ref fa'),c5]/\Ext H3 H4/\H4 fa'=some (.lst (zs'.map V.int))/\fa'≠tl/\(∀z:Int,z∈zs'↔∃k:Nat,z=(k:Int)/\∃u∈ws.take (j+1),u.deed = "up"/\u.room.toNat=r/\Kpt ws m.toNat u.other.toNat k)/\zs'.length<=12*(ws.take (j+1)).countP (cG (r:Int)):=fun hz=>by
     refine⟨fa,zs,_,rfl,e4,hfa,hft,fun z=>?_,by rw[hcnt,hz];exact hzl⟩
     rw[hzs z]
     refine exists_congr fun k=>and_congr_right fun _=>?_
     rw[hmem]
     refine⟨.inl,fun h=>h.elim id fun⟨h1,h2,_⟩=>?_⟩
     unfold cG at hz
     rw[decide_eq_true h1,decide_eq_true (show w.room=(r:Int) by omega)]at hz
     cases hz
    walk_at "r"
    refine fk ?_
    walk_at "r"
    refine az (ah.of hbw) (v:=.str w.deed) rfl ?_
    walk_at "r"
    refine mH ?_
    by_cases hup:w.deed = "up"
    ·rw[decide_eq_true hup]
     refine rd_exb (aG ?_)
     walk_at "r"
     refine az (ah.of hbw) (v:=.int w.room) rfl ?_
     walk_at "r"
     by_cases hro:w.room=(r:Int)
     ·rw[decide_eq_true hro]
      refine aG ?_
      walk_at "r"
      refine az (ah.of hbw) (v:=.int w.other) rfl ?_
      walk_at "r"
      have hol:w.other.toNat<as.length:=by omega
      obtain⟨G,hG1,hG2⟩:=has2 w.other.toNat _ (Dz hol)
      have hat:bt (List.map V.ref as) w.other=some (.ref as[w.other.toNat]):=dI o0 (by rw[DA,Dz hol];rfl)
      generalize as[w.other.toNat]=aw at hG1 hat
      refine aK (ag.of (e4 _ _ (e3 _ _ hla2))) hat ?_
      walk_at "r"
      have hrow:=fK G 0 m.toNat
      have hcl:(ws.take j).countP (cG (r:Int))<=100:=Eb List.countP_le_length (by rw[List.length_take];omega)
      refine jg hfa (e4 _ _ (e3 _ _ hG1)) (bw (by rw[Dy,Dy];omega)) (cj fun fb H5 e5 hfb hfbn=>?_)
      rw[←DO]at hfb
      walk_at "r"
      have hupw:cG (r:Int) w=true:=by unfold cG;rw[decide_eq_true hup,decide_eq_true hro];rfl
      refine⟨fb,_,_,rfl,e4.trans e5,hfb,(fun z=>by rw[z,e4 _ _ htl]at hfbn;cases hfbn),fun z=>?_,by rw[hcnt,hupw,if_pos rfl,DP];omega⟩
      rw[DU,hzs z,eT]
      constructor
      ·rintro(⟨k,rfl,h⟩ | ⟨h1,h2,h3⟩)
       ·exact⟨k,rfl,(hmem _).mpr (.inl h)⟩
       ·exact⟨z.toNat,by omega,(hmem _).mpr (.inr ⟨hup,by omega,(hG2 z.toNat (by omega)).mp h3⟩)⟩
      ·rintro⟨k,rfl,h⟩
       rcases(hmem _).mp h with h | ⟨_,_,h⟩
       ·exact .inl ⟨k,rfl,h⟩
       ·have hk:=(Kpt.lt ok.ok h).2
        exact .inr ⟨by omega,by omega,(hG2 k hk).mpr h⟩
     ·rw[decide_eq_false hro]
      refine aA ?_
      walk_at "r"
      exact skip (by unfold cG;rw[decide_eq_false hro,Bool.and_false])
    ·rw[decide_eq_false hup]
     refine rd_exb (aA (aA ?_))
     walk_at "r"
     exact skip (by unfold cG;rw[decide_eq_false hup,Bool.false_and])
   ·rintro σ H4 ⟨fa,zs,k5,rfl,e4,hfa,hft,hzs,hzl⟩
    rw[Dy,hbl,DZ]at hzs hzl
    walk_at "r"
    refine⟨df (ag.of (e4 _ _ htl)),?_⟩
    walk_at "r"
    have hrl:=hov.1
    refine bV (e4 _ _ htl) (gn (by rw[Dy];omega)) ?_
    refine⟨rs++[fa],_,_,_,rfl,cy (e3.trans e4) htn,by rw[aH,DO];rfl,⟨by rw[DP,hrl];rfl,fun k a ha=>?_⟩,fun a ha=>?_⟩
    ·rcases Nat.lt_or_ge k rs.length with hk | hk
     ·rw[DW hk]at ha
      obtain⟨zs',h3,h4⟩:=hov.2 k a ha
      exact⟨zs',by rw[aB (hne a (DH ha))];exact e4 _ _ h3,h4⟩
     ·rw[DV hk]at ha
      have hz:k-rs.length=0:=by
       have:=(DG.mp ha).1
       simp at this
       omega
      rw[hz]at ha
      cases ha
      have:k=r:=by omega
      subst this
      exact⟨zs,by rw[aB hft];exact hfa,hzs,hzl⟩
    ·rcases DU.mp ha with z | z
     ·exact hne a z
     ·rw[DI.mp z];exact hft
  rintro σ H3 ⟨rs,k3,k4,k5,rfl,e3,htl,hov,_⟩
  walk_at "r"
  exact q tl rs H3 (e2.trans e3) htl hov
def fE(l:List Int)(w:Way):Bool:=decide (w.deed = "up") && decide (w.room∈l)
def qS(K:Du):Sp:=fun vs H Q _=>∃(lr lt:Addr) (rs:List Addr) (ws:List Way) (m:Int) (G:Nat->Bool),vs=[.ref lr,.ref lt]/\H lr=some (.lst ((row G 0 m.toNat).map V.int))/\H lt=some (.lst (List.map V.ref rs))/\f9 H rs ws m m.toNat/\HOuse m ws/\∀t (G':Nat->Bool) H',Ext H H'->H' t=some (.tup ((row G' 0 m.toNat).map V.int))->(∀j,j<m.toNat->(G' j=true↔∃r,r<m.toNat/\G r=true/\aX ws m.toNat r j))->Q (.ref t) H'
abbrev lI:Stmt:=stq 74
theorem rG:FnScope ["_law_rooms","_law_table","_law_far","_law_room"] ["_law_rooms","_law_table"] (aI lI):=⟨rfl,rfl,rfl,by decide +kernel,rfl,by decide +kernel,by decide +kernel⟩
theorem Ce{P:Program}{w:World}{K:Du}{mg:Str->Option Value}{base:Heap}(D:Dfn K mg "_law_raised" lI ["_law_rooms","_law_table"])(T:Blt mg):Cal P w K mg base "_law_raised" 1 ["_law_rooms","_law_table"] (qS K):=by
 have nd:=(rG).nd
 refine D.ok rG (fun vs H Q E h=>?_) (fun X hX H vs Q E h=>?_)
 ·obtain⟨lr,lt,rs,ws,m,G,rfl,_⟩:=h;rfl
 ·obtain⟨f,cdv,A,outer,s,H0,E0,rfl,hr⟩:=hX
  obtain⟨lr,lt,rs,ws,m,G,rfl,hlr,hlt,hov,ok,q⟩:=h
  have m1:=ok.m1
  have m12:=ok.m12
  have hfew:=ok.few
  have hrl:=hov.1
  refine⟨_,(@aj _ _ _ _ _ (@aF _ _ 2 _ _ _ _ nd rfl (Or.inl rfl) (@bE _ _ _ _ af) rfl (Or.inl rfl))
    (@aj _ _ _ _ _ (bJ PassesOwn.never rfl (cJ K (pv 0)) (aM (i:=3) nd rfl (Or.inl rfl)) (@ao _ _ _ (@aF _ _ 2 _ _ _ _ nd rfl (Or.inl rfl) (aq i9 (pv 2) (@ai _ _ _ _ _ _ _ (aJ K) (pv 1) (pv 3) (fun _ _=>rfl))) rfl (Or.inl rfl))))
    (@ao _ _ _ (@aE _ _ _ _ (fD (iD K) rfl T.tuple_ PyProof.Rows.boot_tuple (@aa _ _ _ _ _ (aW (Ti.call_sortJ hr) rfl T.sorted_ PyProof.Rows.boot_sorted (@aa _ _ _ _ _ (fD (Ti.call_setJ hr) rfl T.set_ PyProof.Rows.boot_set (@aa _ _ _ _ _ (pv 2) af rfl)) af rfl)) af rfl)))))),?_⟩
  walk_at "r"
  refine aP fun fa H1 e1 hfa _=>?_
  walk_at "r"
  refine cI (ag.of (e1 _ _ hlr)) ?_
  refine forL (xs:=(row G 0 m.toNat).map V.int) (fun j σ H'=>∃(fa:Addr) (zs:List Int) (k3:Option V),σ=[some (.ref lr),some (.ref lt),some (.ref fa),k3]/\Ext H H'/\H' fa=some (.lst (zs.map V.int))/\(∀z:Int,z∈zs↔∃k:Nat,z=(k:Int)/\∃r∈(row G 0 m.toNat).take j,aX ws m.toNat r.toNat k)/\zs.length<=12*ws.countP (fE ((row G 0 m.toNat).take j))) ⟨fa,[],_,rfl,e1,hfa,fun z=>by simp,Nat.zero_le _⟩ (fun j σ H' _ h=>by obtain⟨_,_,_,_,e,_⟩:=h;exact ag.of (e _ _ hlr)) ?_ ?_
  ·clear hfa e1 H1
   rintro j u σ H1 hu ⟨fa,zs,k3,rfl,e1,hfa,hzs,hzl⟩
   obtain⟨x,rfl,hx⟩:=gC hu
   obtain⟨hx0,hx1,_⟩:=eT.mp (DH hx)
   have hxl:x.toNat<rs.length:=by omega
   obtain⟨zs2,h3,h4,h5⟩:=hov.2 x.toNat _ (Dz hxl)
   have hat:bt (List.map V.ref rs) x=some (.ref rs[x.toNat]):=dI (by omega) (by rw[DA,Dz hxl];rfl)
   generalize rs[x.toNat]=ax at h3 hat
   rw[DL (by omega)]at h5
   have hcl:(ws.countP (fE ((row G 0 m.toNat).take j)))<=100:=Eb List.countP_le_length hfew
   have hcl2:ws.countP (cG x)<=100:=Eb List.countP_le_length hfew
   have htk:(row G 0 m.toNat).take (j+1)=(row G 0 m.toNat).take j++[x]:=by rw[List.take_succ,hx];rfl
   have hxn:x∉(row G 0 m.toNat).take j:=fun z=>by
    obtain⟨i,hi,e⟩:=List.mem_iff_getElem.mp z
    have hs:=(jc G m.toNat 1 (DR _)).ho.1
    obtain⟨g1,e1⟩:=DG.mp hx
    rw[List.length_take]at hi
    have:=List.pairwise_iff_getElem.mp hs i j (by omega) g1 (by omega)
    rw[List.getElem_take]at e
    omega
   have hsum:=vV (p:=fE ((row G 0 m.toNat).take j)) (q:=cG x) (r:=fE ((row G 0 m.toNat).take (j+1))) (fun w hw=>by
     unfold fE at hw ⊢
     rw[Eg,decide_eq_true_iff,decide_eq_true_iff]at hw ⊢
     exact⟨hw.1,by rw[htk];exact List.mem_append_left _ hw.2⟩) (fun w hw=>by
     unfold cG at hw
     unfold fE
     rw[Eg,decide_eq_true_iff,decide_eq_true_iff]at hw ⊢
     exact⟨hw.1,by rw[htk,hw.2];exact List.mem_append_right _ (by simp)⟩) (fun w hw=>by
     unfold fE at hw
     rw[Eg,decide_eq_true_iff,decide_eq_true_iff]at hw
     unfold cG
     rw[decide_eq_false (show ¬w.room=x from fun z=>hxn (by rw[←z];exact hw.2)),Bool.and_false]) ws
   walk_at "r"
   refine aK (ag.of (e1 _ _ hlt)) hat ?_
   walk_at "r"
   refine jg hfa (e1 _ _ h3) (bw (by rw[Dy,Dy];omega)) (cj fun fb H2 e2 hfb _=>?_)
   rw[←DO]at hfb
   walk_at "r"
   refine⟨fb,_,_,rfl,e1.trans e2,hfb,fun z=>?_,by rw[DP];omega⟩
   rw[DU,hzs z,h4 z,htk]
   constructor
   ·rintro(⟨k,rfl,r,hr,h⟩ | ⟨k,rfl,h⟩)
    ·exact⟨k,rfl,r,List.mem_append_left _ hr,h⟩
    ·exact⟨k,rfl,x,List.mem_append_right _ (by simp),h⟩
   ·rintro⟨k,rfl,r,hr,h⟩
    rcases DU.mp hr with z | z
    ·exact .inl ⟨k,rfl,r,z,h⟩
    ·rw[DI.mp z]at h
     exact .inr ⟨k,rfl,h⟩
  rintro σ H1 ⟨fa,zs,k3,rfl,e1,hfa,hzs,hzl⟩
  rw[Dy,DZ]at hzs hzl
  have hcl:(ws.countP (fE (row G 0 m.toNat)))<=100:=Eb List.countP_le_length hfew
  walk_at "r"
  obtain⟨G',hG⟩:∃G':Nat->Bool,∀j:Nat,(G' j=true↔∃r,r<m.toNat/\G r=true/\aX ws m.toNat r j):=⟨fun j=>@decide (∃r,r<m.toNat/\G r=true/\aX ws m.toNat r j) (Classical.propDecidable _),fun j=>@decide_eq_true_iff _ (Classical.propDecidable _)⟩
  have hR1:(row G' 0 m.toNat).Pairwise (· < ·):=(jc G' m.toNat 1 (DR _)).ho.1
  have hmem:∀z,z∈row G' 0 m.toNat↔z∈zs:=fun z=>by
   rw[hzs z,eT]
   constructor
   ·rintro⟨h1,h2,h3⟩
    obtain⟨r,hr,hGr,h⟩:=(hG _).mp h3
    exact⟨z.toNat,by omega,(r:Int),eT.mpr ⟨by omega,by omega,hGr⟩,h⟩
   ·rintro⟨k,rfl,r,hr,h⟩
    obtain⟨h1,h2,h3⟩:=eT.mp hr
    obtain⟨u,hu,_,_,hk⟩:=id h
    have:=(Kpt.lt ok.ok hk).2
    exact⟨by omega,by omega,(hG _).mpr ⟨r.toNat,by omega,h3,h⟩⟩
  have hrl':=fK G' 0 m.toNat
  refine⟨fa,zs,rfl,hfa,by omega,fun sp D hspn hnd hD=>?_⟩
  have hDR:D.Perm (row G' 0 m.toNat):=(List.perm_ext_iff_of_nodup hnd (hR1.imp fun h e=>by omega)).mpr fun z=>(hD z).trans (hmem z).symm
  walk_at "r"
  refine⟨sp,D,rfl,aH,by rw[hDR.length_eq];omega,fun sl ms hsn hpm hms=>?_⟩
  have hmR:ms=row G' 0 m.toNat:=List.Perm.eq_of_pairwise (le:=fun a b:Int=>a<=b) (fun a b _ _ h1 h2=>Int.le_antisymm h1 h2) hms (hR1.imp fun h=>Int.le_of_lt h) (hpm.trans hDR)
  subst hmR
  walk_at "r"
  refine iB (ag.of aH) (cj fun t H3 e3 ht _=>?_)
  exact q t G' H3 (e1.trans ((aZ hspn).trans ((aZ hsn).trans e3))) ht fun j _=>hG j
def jB(K:Du):Sp:=fun vs H Q _=>∃(a:Addr) (ns:List Int),vs=[.ref a]/\ag K H a (ns.map V.int)/\ns.length<=63/\(∀y∈(["kept","low_levels","risen"]:List Str),∀c T,PySem.W.tabIn K y=some (c,T)->H T=some (.tbl #[]))/\eM K/\∀H',Q (.bl true) H'
abbrev eU:Stmt:=stq 75
theorem v7:FnScope ["_law_script","_law_house_here","_law_place_here","_law_table","_law_stairs","_law_k","_law_draws_here","_law_l","_law_here","_law_there"] ["_law_script"] (aI eU):=⟨rfl,rfl,rfl,by decide +kernel,rfl,by decide +kernel,by decide +kernel⟩
theorem y6{P:Program}{w:World}{K:Du}{mg:Str->Option Value}{base:Heap}{f:Addr}{fd:FuncData}(F:Fun K "law" "law" eU f fd)(T:Blt mg)(C__law_raised:Cal P w K mg base "_law_raised" 1 ["_law_rooms","_law_table"] (qS K))(C__law_holds:Cal P w K mg base "_law_holds" 1 ["_law_stair","_law_x"] (pL K))(C_rooms_at:Cal P w K mg base "rooms_at" 11 ["house","place","l"] (p7 K))(C__law_draws:Cal P w K mg base "_law_draws" 2 ["_law_cell_here","_law_widths","_law_prime"] (fB K))(C__law_cell:Cal P w K mg base "_law_cell" 1 ["_law_script","_law_k"] (wa K))(C__law_is_stair:Cal P w K mg base "_law_is_stair" 3 ["_law_found"] (vP K))(C_forward:Cal P w K mg base "forward" 10 ["house","place"] (lG K))(C__law_over:Cal P w K mg base "_law_over" 2 ["_law_house_here"] (wH K))(C__law_place:Cal P w K mg base "_law_place" 3 ["_law_house_here","_law_cell_here","_law_prime"] (vv K))(C__law_house:Cal P w K mg base "_law_house" 4 ["_law_cell_here","_law_prime"] (tV K)):FnOk P w K mg base dk 12 f fd ["_law_script"] (jB K):=by
 have nd:=(v7).nd
 refine F.ok v7 (fun vs H Q E h=>?_) (fun cdv A outer s H vs Q E hr h=>?_)
 ·obtain⟨a,ns,rfl,_⟩:=h;rfl
 ·obtain⟨a,ns,rfl,ha,hl,hT,dis,q⟩:=h
  have tab0:Tbs K H:=⟨fun c T e=>.inl (hT _ (by simp) c T e),fun c T e=>.inl (hT _ (by simp) c T e),fun c T e=>.inl (hT _ (by simp) c T e)⟩
  clear hT
  refine⟨_,(@aj _ _ _ _ _ (@aF _ _ 1 _ _ _ _ nd rfl (Or.inl rfl) (aC C__law_house hr (@aa _ _ _ _ _ (aC C__law_cell hr (@aa _ _ _ _ _ (pv 0) (@aa _ _ _ _ _ ae af rfl) rfl)) (@aa _ _ _ _ _ ae af rfl) rfl)) rfl (Or.inl rfl))
    (@aj _ _ _ _ _ (@aF _ _ 2 _ _ _ _ nd rfl (Or.inl rfl) (aC C__law_place hr (@aa _ _ _ _ _ (pv 1) (@aa _ _ _ _ _ (aC C__law_cell hr (@aa _ _ _ _ _ (pv 0) (@aa _ _ _ _ _ ae af rfl) rfl)) (@aa _ _ _ _ _ ae af rfl) rfl) rfl)) rfl (Or.inl rfl))
    (@aj _ _ _ _ _ (@aF _ _ 3 _ _ _ _ nd rfl (Or.inl rfl) (aC C__law_over hr (@aa _ _ _ _ _ (pv 1) af rfl)) rfl (Or.inl rfl))
    (@aj _ _ _ _ _ (@aF _ _ 4 _ _ _ _ nd rfl (Or.inr rfl) (aC C_forward hr (@aa _ _ _ _ _ (pv 1) (@aa _ _ _ _ _ (pv 2) af rfl) rfl)) rfl (Or.inl rfl))
    (@aj _ _ _ _ _ (@bp _ _ _ _ _ _ _ _ (PW.pt (cc (bL (bo (aW cS rfl T.isinstance_ PyProof.Rows.boot_isinstance (@aa _ _ _ _ _ (pv 4) (@aa _ _ _ _ _ (cO (v:=.ty "list") rfl T.list_ PyProof.Rows.boot_list rfl) af rfl) rfl)))) (cc (aR eX (aW (cF K) rfl T.len_ PySem.boot_len (@aa _ _ _ _ _ (pv 4) af rfl)) (@ai _ _ _ _ _ _ _ (ay K) (pv 1) ae (fun _ _=>rfl)) (aQ _)) (cY (bL (bo (aW (iY K rfl) rfl T.all_ PyProof.Rows.boot_all (@aa _ _ _ _ _ (cE ["_law_one"] [] (cJ K (pv 4)) (fun _=>(aM (i:=0) (show(["_law_one"]:List Str).Nodup from by decide +kernel) rfl (Or.inl rfl) (Or.inr rfl))) (fun _=>du) (fun _=>(aC C__law_is_stair hr (@aa _ _ _ _ _ (pv 0) af rfl)))) af rfl)))))))) (@ao _ _ _ (@aE _ _ _ _ bC)) aV)
    (@aj _ _ _ _ _ (bJ PassesOwn.never rfl (um rfl T.range_ (@aa _ _ _ _ _ ae (@aa _ _ _ _ _ (aW (vW rfl) rfl T.max_ PyProof.Rows.boot_max (@aa _ _ _ _ _ ae (@aa _ _ _ _ _ (aW (Ca rfl) rfl T.min_ PyProof.Rows.boot_min (@aa _ _ _ _ _ (aW (cF K) rfl T.len_ PySem.boot_len (@aa _ _ _ _ _ (pv 0) af rfl)) (@aa _ _ _ _ _ ae af rfl) rfl)) af rfl) rfl)) af rfl) rfl)) (aM (i:=5) nd rfl (Or.inl rfl)) (@aj _ _ _ _ _ (@aF _ _ 6 _ _ _ _ nd rfl (Or.inl rfl) (aC C__law_draws hr (@aa _ _ _ _ _ (aC C__law_cell hr (@aa _ _ _ _ _ (pv 0) (@aa _ _ _ _ _ (pv 5) af rfl) rfl)) (@aa _ _ _ _ _ (@bE _ _ _ _ (@aa _ _ _ _ _ ae (@aa _ _ _ _ _ ae (@aa _ _ _ _ _ ae af rfl) rfl) rfl)) (@aa _ _ _ _ _ ae af rfl) rfl) rfl)) rfl (Or.inl rfl))
    (@aj _ _ _ _ _ (@aF _ _ 7 _ _ _ _ nd rfl (Or.inr rfl) (aq aT (@ai _ _ _ _ _ _ _ (ay K) (pv 2) ae (fun _ _=>rfl)) (@ai _ _ _ _ _ _ _ (aJ K) (pv 6) ae (fun _ _=>rfl))) rfl (Or.inl rfl))
    (@aj _ _ _ _ _ (de (aR b9 (@ai _ _ _ _ _ _ _ (aJ K) (pv 6) ae (fun _ _=>rfl)) ae (aQ _)) (@ao _ _ _ (@aF _ _ 7 _ _ _ _ nd rfl (Or.inr rfl) (aW (vW rfl) rfl T.max_ PyProof.Rows.boot_max (@aa _ _ _ _ _ (@ai _ _ _ _ _ _ _ (ay K) (pv 2) ae (fun _ _=>rfl)) (@aa _ _ _ _ _ (@ai _ _ _ _ _ _ _ (aJ K) (pv 6) ae (fun _ _=>rfl)) af rfl) rfl)) rfl (Or.inl rfl))) aV)
    (@aj _ _ _ _ _ (@aF _ _ 8 _ _ _ _ nd rfl (Or.inl rfl) (aC C_rooms_at hr (@aa _ _ _ _ _ (pv 1) (@aa _ _ _ _ _ (pv 2) (@aa _ _ _ _ _ (pv 7) af rfl) rfl) rfl)) rfl (Or.inl rfl))
    (@aj _ _ _ _ _ (@aF _ _ 9 _ _ _ _ nd rfl (Or.inl rfl) (aC C_rooms_at hr (@aa _ _ _ _ _ (pv 1) (@aa _ _ _ _ _ (pv 2) (@aa _ _ _ _ _ (aq aT (pv 7) ae) af rfl) rfl) rfl)) rfl (Or.inl rfl))
    (@aj _ _ _ _ _ (@bp _ _ _ _ _ _ _ _ (PW.pt (cc (bL (bo (aW cS rfl T.isinstance_ PyProof.Rows.boot_isinstance (@aa _ _ _ _ _ (pv 8) (@aa _ _ _ _ _ (cO (v:=.ty "list") rfl T.list_ PyProof.Rows.boot_list rfl) af rfl) rfl)))) (cY (bL (bo (aW cS rfl T.isinstance_ PyProof.Rows.boot_isinstance (@aa _ _ _ _ _ (pv 9) (@aa _ _ _ _ _ (cO (v:=.ty "list") rfl T.list_ PyProof.Rows.boot_list rfl) af rfl) rfl))))))) (@ao _ _ _ (@aE _ _ _ _ bC)) aV)
    (@aj _ _ _ _ _ (@bp _ _ _ _ _ _ _ _ (aR (oP hr) (pv 8) (cE ["_law_room"] [4,7] (bQ rfl T.range_ (@aa _ _ _ _ _ (@ai _ _ _ _ _ _ _ (ay K) (pv 1) ae (fun _ _=>rfl)) af rfl)) (fun _=>(aM (i:=0) (show(["_law_room","_law_stairs","_law_l"]:List Str).Nodup from by decide +kernel) rfl (Or.inl rfl) (Or.inr rfl))) (fun _=>(dG (bo (aC C__law_holds hr (@aa _ _ _ _ _ (@ai _ _ _ _ _ _ _ (aJ K) (pv 1) (pv 0) (fun _ _=>rfl)) (@aa _ _ _ _ _ (pv 2) af rfl) rfl))))) (fun _=>(pv 0))) (aQ _)) (@ao _ _ _ (@aE _ _ _ _ bC)) aV)
    (@ao _ _ _ (@bp _ _ _ _ _ _ _ _ (aR (oP hr) (pv 9) (fD (CJ K) rfl T.list_ PyProof.Rows.boot_list (@aa _ _ _ _ _ (aC C__law_raised hr (@aa _ _ _ _ _ (pv 8) (@aa _ _ _ _ _ (pv 3) af rfl) rfl)) af rfl)) (aQ _)) (@ao _ _ _ (@aE _ _ _ _ bC)) aV))))))))))
    (@ao _ _ _ (@aE _ _ _ _ bC)))))))),?_⟩
  walk_at "r"
  refine⟨a,ns,0,rfl,ha,hl,by decide,fun z=>?_⟩
  walk_at "r"
  refine⟨z,_,rfl,by decide,fun v m ws H1 e1 hv ok3=>?_⟩
  have ok:=ok3.house
  have m1:=ok.m1
  have m2:=ok.m12
  walk_at "r"
  refine⟨a,ns,1,rfl,ha.ext e1,hl,by decide,fun z2=>?_⟩
  walk_at "r"
  refine⟨v,m,ws,z2,_,rfl,hv,m1,by decide,fun pa x H2 e2 hx x0 x1 x2 x3=>?_⟩
  have ix:fI m x:=⟨x0,x1,x2,by omega⟩
  walk_at "r"
  refine⟨v,m,ws,rfl,hv.ext e2,ok,fun tl rs H3 e3 htl hov=>?_⟩
  have hv3:=hv.ext (e2.trans e3)
  have hx3:aD H3 pa x:=e3 _ _ hx
  walk_at "r"
  refine⟨v,m,ws,pa,x,rfl,hv3,ok,hx3,ix,dis,tab0.ext (e1.trans (e2.trans e3)),fun sl xs H4 e4 tb4 hsl hF=>?_⟩
  have hv4:=hv3.et e4
  have hx4:aD H4 pa x:=aD.et e4 hx3
  have hov4:=hov.et e4
  have htl4:=e4 _ _ htl (fun ps z=>by cases z)
  have ha4:=(ha.ext (e1.trans (e2.trans e3))).et e4
  have hxl:=hF.1
  clear hv hx hv3 hx3 hov htl tab0 e1 e2 e3 e4 ha
  obtain⟨hh,t,rfl,k1,k2⟩:=id hv4
  walk_at "r"
  refine cV (lx hsl) (b:=true) rfl ?_
  walk_at "r"
  refine aA ?_
  walk_at "r"
  refine eo (ag.of hsl) ?_
  walk_at "r"
  refine az (ah.of k1) (v:=.int m) rfl ?_
  walk_at "r"
  rw[decide_eq_true (show((xs.length:Nat):Int)=m from hxl)]
  refine aA ?_
  walk_at "r"
  refine cI (ag.of hsl) ?_
  refine gy (xs:=xs) (fun i zs H'=>Ext H4 H'/\zs=(List.replicate i true).map V.bl) (bw (by omega)) ⟨Ext.rfl' _,rfl⟩ (fun i ys H' hi h=>⟨ag.of (h.1 _ _ hsl),by rw[h.2];simp⟩) ?_ ?_
  ·rintro i u zs H5 hu ⟨e5,rfl⟩
   obtain⟨F,b,d,hst,hL,hd,hld,_⟩:=hF.2 i u hu
   walk_at "r"
   refine aG ?_
   walk_at "r"
   refine⟨u,_,_,_,_,rfl,hst.ext e5,⟨jc F b d hd,by omega⟩,fun H6 e6=>?_⟩
   refine⟨e5.trans e6,?_⟩
   rw[List.replicate_succ',DO]
   rfl
  rintro zs H5 p9 ⟨e5,rfl⟩ hp9
  have e6:=e5.trans (aZ (o:=.lst ((List.replicate xs.length true).map V.bl)) hp9)
  have h9:(upd H5 p9 (.lst ((List.replicate xs.length true).map V.bl))) p9=_:=aH
  generalize upd H5 p9 (.lst ((List.replicate xs.length true).map V.bl))=H6 at e6 h9 ⊢
  walk_at "r"
  refine⟨p9,_,rfl,ag.of h9,?_⟩
  rw[show (List.replicate xs.length true).all id=true by simp]
  refine rd_exb (aA ?_)
  have tb6:=tb4.ext e6
  clear h9 hp9 e5 H5
  walk_at "r"
  refine eo (ha4.ext e6) ?_
  walk_at "r"
  have hlen:((List.map V.int ns).length:Int)<=63:=by rw[Dy];omega
  refine vA ⟨by decide,by decide,by split<;>(try split)<;>omega,by split<;>(try split)<;>omega⟩ ?_
  clear hlen
  refine forR (fun i σ H'=>∃c1 c2 c3 c4 c5,σ=[some (.ref a),some (.ref hh),some (.ref pa),some (.ref tl),some (.ref sl),c1,c2,c3,c4,c5]/\Et H4 H'/\Tbs K H') ⟨_,_,_,_,_,rfl,e6.et,tb6⟩ ?_ ?_
  ·clear e6 tb6 H6
   rintro i σ H6 _ ⟨c1,c2,c3,c4,c5,rfl,e6,tb6⟩
   walk_at "r"
   refine⟨a,ns,2+(i:Int),rfl,ha4.et e6,hl,by omega,fun z3=>?_⟩
   walk_at "r"
   refine aP fun w0 H7 e7 hw0 _=>?_
   walk_at "r"
   refine⟨z3,w0,[4,3000,30],_,rfl,hw0,by decide,by decide,by decide,fun dq ds H8 e8 hd hdn hdl hb=>?_⟩
   obtain⟨d0,g0,_⟩:=b6 hdl hb 0 rfl
   obtain⟨d1,g1,b10,b11⟩:=b6 hdl hb 1 rfl
   obtain⟨d2,g2,b20,b21⟩:=b6 hdl hb 2 rfl
   have e48:=e6.trans (e7.trans e8).et
   have tb8:=tb6.ext (e7.trans e8)
   have hx8:=aD.et e48 hx4
   clear hdn hdl hb hw0 e7 e8 e6 tb6
   walk_at "r"
   refine az (ah.of hx8) (v:=.int x.2) rfl ?_
   walk_at "r"
   refine aK (ag.of hd) g2 ?_
   walk_at "r"
   refine hV (fun σ H'=>∃(L:Nat) (c1 c4 c5:Option V),σ=[some (.ref a),some (.ref hh),some (.ref pa),some (.ref tl),some (.ref sl),c1,some (.ref dq),some (.int (L:Int)),c4,c5]/\H'=H8/\x.2<=(L:Int)/\L<=2999) ?_ ?_
   ·walk_at "r"
    refine aK (ag.of hd) g0 ?_
    walk_at "r"
    by_cases h3:d0=3
    ·rw[decide_eq_true h3]
     refine aG ?_
     walk_at "r"
     refine az (ah.of hx8) (v:=.int x.2) rfl ?_
     walk_at "r"
     refine aK (ag.of hd) g1 ?_
     walk_at "r"
     have hmx:0<=(if d1>x.2 then d1 else x.2)/\x.2<=(if d1>x.2 then d1 else x.2)/\(if d1>x.2 then d1 else x.2)<=2999:=by split<;>omega
     generalize (if d1>x.2 then d1 else x.2)=mx at hmx
     exact⟨mx.toNat,_,_,_,by rw[DL hmx.1];rfl,rfl,by omega,by omega⟩
    ·rw[decide_eq_false h3]
     refine aA ?_
     walk_at "r"
     exact⟨(x.2+d2).toNat,_,_,_,by rw[DL (by omega)];rfl,rfl,by omega,by omega⟩
   rintro σ H9 ⟨L,c1,c4,c5,rfl,rfl,hL1,hL2⟩
   clear hd g0 g1 g2 b10 b11 b20 b21
   walk_at "r"
   refine⟨_,m,ws,pa,x,(L:Int),rfl,hv4.et e48,ok,hx8,ix,by omega,dis,tb8,fun l1 G1 H10 e10 tb10 _ hl10 hG1=>?_⟩
   have e410:=e48.trans e10
   walk_at "r"
   refine⟨_,m,ws,pa,x,(L:Int)+1,rfl,hv4.et e410,ok,aD.et e410 hx4,ix,by omega,dis,tb10,fun l2 G2 H11 e11 tb11 _ hl11 hG2=>?_⟩
   have e411:=e410.trans e11
   have hl10':=e11 _ _ hl10 (fun ps z=>by cases z)
   walk_at "r"
   refine cV (lx hl10') (b:=true) rfl ?_
   walk_at "r"
   refine aA ?_
   walk_at "r"
   refine cV (lx hl11) (b:=true) rfl ?_
   walk_at "r"
   refine aA ?_
   walk_at "r"
   refine az (ah.of (e411 _ _ k1 (fun ps z=>by cases z))) (v:=.int m) rfl ?_
   walk_at "r"
   refine bS (by omega) ?_
   have hF11:=hF.et e411
   have hsl11:=e411 _ _ hsl (fun ps z=>by cases z)
   refine dC (fun i ys H'=>Ext H11 H'/\ys=(row G1 0 i).map V.int) (bw (by omega)) ⟨Ext.rfl' _,rfl⟩ (fun i ys H' _ h=>by rw[h.2,Dy];exact fK _ _ _) ?_ ?_
   ·rintro r ys H12 hr' ⟨e12,rfl⟩
    rw[show (0:Int)+(r:Int)=((r:Nat):Int) by omega]
    obtain⟨v1,b1,s1,o1,a1,hv1,st1,gx1,f1⟩:=hF11.hold (r:=(r:Int)) (by omega) (by omega)
    walk_at "r"
    refine aK (ag.of (e12 _ _ hsl11)) hv1 ?_
    walk_at "r"
    refine⟨v1,(L:Int),b1,s1,o1,a1,rfl,st1.ext e12,gx1.ok,_,rfl,?_⟩
    rw[show mem b1 s1 o1 a1 (L:Int)=G1 r from by rw[Ef,f1 _ (by omega),hG1 r hr'];exact⟨fun h=>⟨by omega,h⟩,fun h=>h.2⟩]
    cases hGr:G1 r with
    | true=>
     refine aG ?_
     walk_at "r"
     refine⟨e12,?_⟩
     have:=iU (f:=G1) (lo:=0) (i:=r) rfl (by rw[Nat.zero_add];exact hGr)
     rw[Nat.zero_add]at this
     exact this
    | false=>
     refine aA ?_
     exact⟨e12,iQ (f:=G1) (lo:=0) (i:=r) rfl (by rw[Nat.zero_add];exact hGr)⟩
   rintro ys H12 p9 ⟨e12,rfl⟩ hp9
   have e13:=e12.trans (aZ (o:=.lst ((row G1 0 m.toNat).map V.int)) hp9)
   have h9:(upd H12 p9 (.lst ((row G1 0 m.toNat).map V.int))) p9=_:=aH
   generalize upd H12 p9 (.lst ((row G1 0 m.toNat).map V.int))=H13 at e13 h9 ⊢
   walk_at "r"
   have hr1:=jC (e13 _ _ hl10')
   refine⟨1,1,_,_,hr1,jC h9,by decide,?_⟩
   rw[SeqAt.eqv_refl _ (aU.lay 1 hr1).1]
   refine rd_exb (aA ?_)
   clear hr1 h9 hp9 e12 H12
   walk_at "r"
   have e413:=e411.trans e13.et
   refine⟨l1,tl,rs,ws,m,G1,rfl,e13 _ _ hl10',e413 _ _ htl4 (fun ps z=>by cases z),hov4.et e413,ok,fun t' G' H14 e14 ht' hG'=>?_⟩
   walk_at "r"
   refine⟨t',_,rfl,.inr (ah.of ht'),fun l3 hl3=>?_⟩
   have hGG:row G2 0 m.toNat=row G' 0 m.toNat:=Ct fun j hj=>by
    rw[Ef,hG2 j hj,hG' j hj]
    rw[show (L:Int)+1=((L+1:Nat):Int) by omega,oM ok.ok ⟨x0,x1,x2⟩ hL1]
    constructor
    ·rintro⟨_,p,hp,h1,h2⟩
     exact⟨p,hp,(hG1 p hp).mpr ⟨by omega,h1⟩,h2⟩
    ·rintro⟨p,hp,h1,h2⟩
     exact⟨by omega,p,hp,((hG1 p hp).mp h1).2,h2⟩
   rw[hGG]at hl11
   have e15:=e13.trans (e14.trans (aZ (o:=.lst ((row G' 0 m.toNat).map V.int)) hl3))
   have h15:(upd H14 l3 (.lst ((row G' 0 m.toNat).map V.int))) l3=_:=aH
   generalize upd H14 l3 (.lst ((row G' 0 m.toNat).map V.int))=H15 at e15 h15 ⊢
   walk_at "r"
   have hr1:=jC (e15 _ _ hl11)
   refine⟨1,1,_,_,hr1,jC h15,by decide,?_⟩
   rw[SeqAt.eqv_refl _ (aU.lay 1 hr1).1]
   refine rd_exb (aA ?_)
   walk_at "r"
   exact⟨_,_,_,_,_,rfl,e411.trans e15.et,tb11.ext e15⟩
  ·rintro σ H7 ⟨c1,c2,c3,c4,c5,rfl,_⟩
   walk_at "r"
   exact q _
abbrev Dq(K:Du)(mg:Str->Option Value)(x:Str)(st:Stmt):Prop:=∃(f:Addr) (fd:FuncData),mg x=some (.ref f)/\Fun K x x st f fd
theorem dq{K:Du}{h:Heap}{mg:Str->Option Value}(X:K.In h)(G:h.Ns mainGlobals mg){x:Str}{st:Stmt}{f:Addr}{od an:Option Addr}{sl:Array (Option Value)}{oc kV dc pm cd ct:Value}(a:PySem.W.nsIn K mainGlobals x=some (some (.ref f)))(l:K.lookup f=some ⟨oc,od,.func (PySem.W.fnOf x x (fm st) (ef st) (aI st) .none kV dc pm an cd ct),sl⟩)(c:PySem.W.codeIn K cd x=true)(k:PySem.W.keepIn K (.ref f)=true):Dq K mg x st:=⟨f,_,PySem.W.mg_of X G a,sQ (st:=st) l c k⟩
abbrev bd(x:Str)(st:Stmt)(us:List Value)(r:List (Str×Value)):Prop:=∀(kV doc pm:Value) (an:Option Addr) (cdv ct:Value),bindArgs (PySem.W.fnOf x x (fm st) (ef st) (aI st) .none kV doc pm an cdv ct) ⟨us,[]⟩=pure r
theorem bW{K:Du}{mg:Str->Option Value}{x:Str}{st:Stmt}(p0:Str)(d:Dq K mg x st)(h:∀u0,bd x st [u0] [(p0,u0)]):Dfn K mg x st [p0]:=let ⟨f,fd,a,F⟩:=d;⟨f,fd,a,F,F.binds (ps:=[p0]) fun _ _ _ _ _ _ us hl=>match us,hl with | [_],_=>h _ _ _ _ _ _ _⟩
theorem bK{K:Du}{mg:Str->Option Value}{x:Str}{st:Stmt}(p0 p1:Str)(d:Dq K mg x st)(h:∀u0 u1,bd x st [u0,u1] [(p0,u0),(p1,u1)]):Dfn K mg x st [p0,p1]:=let ⟨f,fd,a,F⟩:=d;⟨f,fd,a,F,F.binds (ps:=[p0,p1]) fun _ _ _ _ _ _ us hl=>match us,hl with | [_,_],_=>h _ _ _ _ _ _ _ _⟩
theorem fA{K:Du}{mg:Str->Option Value}{x:Str}{st:Stmt}(p0 p1 p2:Str)(d:Dq K mg x st)(h:∀u0 u1 u2,bd x st [u0,u1,u2] [(p0,u0),(p1,u1),(p2,u2)]):Dfn K mg x st [p0,p1,p2]:=let ⟨f,fd,a,F⟩:=d;⟨f,fd,a,F,F.binds (ps:=[p0,p1,p2]) fun _ _ _ _ _ _ us hl=>match us,hl with | [_,_,_],_=>h _ _ _ _ _ _ _ _ _⟩
theorem ug{K:Du}{mg:Str->Option Value}{x:Str}{st:Stmt}(p0 p1 p2 p3:Str)(d:Dq K mg x st)(h:∀u0 u1 u2 u3,bd x st [u0,u1,u2,u3] [(p0,u0),(p1,u1),(p2,u2),(p3,u3)]):Dfn K mg x st [p0,p1,p2,p3]:=let ⟨f,fd,a,F⟩:=d;⟨f,fd,a,F,F.binds (ps:=[p0,p1,p2,p3]) fun _ _ _ _ _ _ us hl=>match us,hl with | [_,_,_,_],_=>h _ _ _ _ _ _ _ _ _ _⟩
theorem all_mk{l:PySem.W.OpenLaw}{w:World}{K:Du}{h:Heap}{mg:Str->Option Value}{fa:Addr}(X:K.In h)(G:h.Ns mainGlobals mg)(hfa:mg "law" = some (.ref fa))
  (d0:Dq K mg "_law_raised" lI)
  (d1:Dq K mg "_law_holds" oQ)
  (d2:Dq K mg "refuse_great_stair" om)
  (d3:Dq K mg "is_whole" kC)
  (d4:Dq K mg "is_rising_row" nO)
  (d5:Dq K mg "are_stair_places" oH)
  (d6:Dq K mg "is_stair" nI)
  (d7:Dq K mg "refuse_no_stair" oT)
  (d8:Dq K mg "refuse_bad_stair" nV)
  (d9:Dq K mg "holds" lF)
  (d10:Dq K mg "least_step" lK)
  (d11:Dq K mg "stair_of_marks" lJ)
  (d12:Dq K mg "stair_of_room" nH)
  (d13:Dq K mg "next_level" kF)
  (d14:Dq K mg "reached" nz)
  (d15:Dq K mg "told_pairs" oU)
  (d16:Dq K mg "add_arches" m7)
  (d17:Dq K mg "join_walks" oI)
  (d18:Dq K mg "ways_of_deed" kT)
  (d19:Dq K mg "beginning_table" kA)
  (d20:Dq K mg "kept_table" oB)
  (d21:Dq K mg "is_sign" oi)
  (d22:Dq K mg "is_deed" oV)
  (d23:Dq K mg "is_room" mC)
  (d24:Dq K mg "is_way" n6)
  (d25:Dq K mg "are_ways" nX)
  (d26:Dq K mg "is_house" ni)
  (d27:Dq K mg "refuse_no_house" mP)
  (d28:Dq K mg "kept" oO)
  (d29:Dq K mg "ways_by_room" lE)
  (d30:Dq K mg "is_open" kH)
  (d31:Dq K mg "raised_by" og)
  (d32:Dq K mg "led_to" lN)
  (d33:Dq K mg "led_to_from" mJ)
  (d34:Dq K mg "low_beside" mE)
  (d35:Dq K mg "low_levels" nY)
  (d36:Dq K mg "risen" oJ)
  (d37:Dq K mg "all_levels" nk)
  (d38:Dq K mg "refuse_bad_places" mB)
  (d39:Dq K mg "forward" oq)
  (d40:Dq K mg "rooms_at" mX)
  (d41:Dq K mg "_law_mixed" ky)
  (d42:Dq K mg "_law_draws" kS)
  (d43:Dq K mg "_law_cell" lA)
  (d44:Dq K mg "_law_whole" lY)
  (d45:Dq K mg "_law_rises" mF)
  (d46:Dq K mg "_law_is_stair" lZ)
  (d47:Dq K mg "_law_along" lg)
  (d48:Dq K mg "_law_over" lL)
  (d49:Dq K mg "_law_place" mV)
  (d50:Dq K mg "_law_unlike" lM)
  (d51:Dq K mg "_law_drawn_house" kW)
  (d52:Dq K mg "_law_gate_house" kL)
  (d53:Dq K mg "_law_ring_house" lh)
  (d54:Dq K mg "_law_spare" nE)
  (d55:Dq K mg "_law_house" ng)
  {f56:Addr} {od56 an56:Option Addr} {sl56:Array (Option Value)} {oc56 kV56 dc56 pm56 cd56 ct56:Value} (a56:PySem.W.nsIn K mainGlobals "law" = some (some (.ref f56))) (l56:K.lookup f56=some ⟨oc56,od56,.func (PySem.W.fnOf "law" "law" (fm eU) (ef eU) (aI eU) .none kV56 dc56 pm56 an56 cd56 ct56),sl56⟩) (c56:PySem.W.codeIn K cd56 "law" = true) (k56:PySem.W.keepIn K (.ref f56)=true)
  (z0:PySem.W.nsIn K mainGlobals "len"=some none)
  (z1:PySem.W.nsIn K mainGlobals "isinstance"=some none)
  (z2:PySem.W.nsIn K mainGlobals "tuple"=some none)
  (z3:PySem.W.nsIn K mainGlobals "list"=some none)
  (z4:PySem.W.nsIn K mainGlobals "int"=some none)
  (z5:PySem.W.nsIn K mainGlobals "bool"=some none)
  (z6:PySem.W.nsIn K mainGlobals "range"=some none)
  (z7:PySem.W.nsIn K mainGlobals "zip"=some none)
  (z8:PySem.W.nsIn K mainGlobals "max"=some none)
  (z9:PySem.W.nsIn K mainGlobals "min"=some none)
  (z10:PySem.W.nsIn K mainGlobals "abs"=some none)
  (z11:PySem.W.nsIn K mainGlobals "all"=some none)
  (z12:PySem.W.nsIn K mainGlobals "enumerate"=some none)
  (z13:PySem.W.nsIn K mainGlobals "set"=some none)
  (z14:PySem.W.nsIn K mainGlobals "str"=some none)
  (z15:PySem.W.nsIn K mainGlobals "any"=some none)
  (z16:PySem.W.nsIn K mainGlobals "sorted"=some none)
  {t0:Tok} (v0:PySem.W.nsIn K mainGlobals "GREATEST_STEP" = some (some (.int 840 t0)))
  {t1:Tok} (v1:PySem.W.nsIn K mainGlobals "GREATEST_BASE" = some (some (.int 3000 t1)))
  {t2:Tok} (v2:PySem.W.nsIn K mainGlobals "GREATEST_WAYS" = some (some (.int 100 t2)))
  {t3:Tok} (v3:PySem.W.nsIn K mainGlobals "GREATEST_MANY" = some (some (.int 12 t3)))
  {t4:Tok} (v4:PySem.W.nsIn K mainGlobals "GREATEST_NUMBER" = some (some (.int 1000 t4)))
  {t5:Tok} (v5:PySem.W.nsIn K mainGlobals "GREATEST_LEVEL" = some (some (.int 3000 t5)))
  {e0:Addr} {q0_0 u0_0 q0_1 u0_1 q0_2 u0_2 q0_3 u0_3:Tok} {ep0:Nat} (x0:PySem.W.nsIn K mainGlobals "TURNED" = some (some (.ref e0))) (y0:K.lookup e0=some (gh w [("up",q0_0,.str "down" u0_0),("down",q0_1,.str "up" u0_1),("stay",q0_2,.str "stay" u0_2),("zero",q0_3,.str "zero" u0_3)] ep0)) (w0:(e0 == sysModules)=false)
  {e1:Addr} {q1_0 u1_0 q1_1 u1_1 q1_2 u1_2 q1_3 u1_3:Tok} {ep1:Nat} (x1:PySem.W.nsIn K mainGlobals "RAISED" = some (some (.ref e1))) (y1:K.lookup e1=some (gh w [("up",q1_0,.int (1) u1_0),("down",q1_1,.int (-1) u1_1),("stay",q1_2,.int (0) u1_2),("zero",q1_3,.int (0) u1_3)] ep1)) (w1:(e1 == sysModules)=false)
  : ∃fd:FuncData,(∀(s:Shared) (v:Value),BindsTo s fd ⟨[v],[]⟩ [("_law_script",v)])/\∀base:Heap,K.In base->base.Ns mainGlobals mg->(∀y∈(["kept","low_levels","risen"]:List Str),∃c T,Tab K mg base y c T)->FnOk l.prog w K mg base dk 12 fa fd ["_law_script"] (jB K):=by
 have e:=hfa.symm.trans (PySem.W.mg_of X G a56)
 cases e
 have T:Blt mg:=⟨PySem.W.mg_none_of X G z0,PySem.W.mg_none_of X G z1,PySem.W.mg_none_of X G z2,PySem.W.mg_none_of X G z3,PySem.W.mg_none_of X G z4,PySem.W.mg_none_of X G z5,PySem.W.mg_none_of X G z6,PySem.W.mg_none_of X G z7,PySem.W.mg_none_of X G z8,PySem.W.mg_none_of X G z9,PySem.W.mg_none_of X G z10,PySem.W.mg_none_of X G z11,PySem.W.mg_none_of X G z12,PySem.W.mg_none_of X G z13,PySem.W.mg_none_of X G z14,PySem.W.mg_none_of X G z15,PySem.W.mg_none_of X G z16⟩
 have D0:=bK "_law_rooms" "_law_table" d0 fun _ _ _ _ _ _ _ _=>rfl
 have D1:=bK "_law_stair" "_law_x" d1 fun _ _ _ _ _ _ _ _=>rfl
 have D2:=bW "stair" d2 fun _ _ _ _ _ _ _=>rfl
 have D3:=bW "thing" d3 fun _ _ _ _ _ _ _=>rfl
 have D4:=fA "thing" "low" "end" d4 fun _ _ _ _ _ _ _ _ _=>rfl
 have D5:=ug "base" "step" "once" "again" d5 fun _ _ _ _ _ _ _ _ _ _=>rfl
 have D6:=bW "thing" d6 fun _ _ _ _ _ _ _=>rfl
 have D7:=bW "thing" d7 fun _ _ _ _ _ _ _=>rfl
 have D8:=bW "thing" d8 fun _ _ _ _ _ _ _=>rfl
 have D9:=bK "stair" "x" d9 fun _ _ _ _ _ _ _ _=>rfl
 have D10:=bW "turn" d10 fun _ _ _ _ _ _ _=>rfl
 have D11:=bK "marks" "base" d11 fun _ _ _ _ _ _ _ _=>rfl
 have D12:=fA "levels" "base" "room" d12 fun _ _ _ _ _ _ _ _ _=>rfl
 have D13:=bK "rises" "level" d13 fun _ _ _ _ _ _ _ _=>rfl
 have D14:=bK "place" "beside" d14 fun _ _ _ _ _ _ _ _=>rfl
 have D15:=bK "house" "choice" d15 fun _ _ _ _ _ _ _ _=>rfl
 have D16:=fA "table" "ups" "downs" d16 fun _ _ _ _ _ _ _ _ _=>rfl
 have D17:=bW "table" d17 fun _ _ _ _ _ _ _=>rfl
 have D18:=bK "house" "deed" d18 fun _ _ _ _ _ _ _ _=>rfl
 have D19:=bW "house" d19 fun _ _ _ _ _ _ _=>rfl
 have D20:=bW "house" d20 fun _ _ _ _ _ _ _=>rfl
 have D21:=bW "thing" d21 fun _ _ _ _ _ _ _=>rfl
 have D22:=bW "thing" d22 fun _ _ _ _ _ _ _=>rfl
 have D23:=bK "thing" "many" d23 fun _ _ _ _ _ _ _ _=>rfl
 have D24:=bK "thing" "many" d24 fun _ _ _ _ _ _ _ _=>rfl
 have D25:=bK "thing" "many" d25 fun _ _ _ _ _ _ _ _=>rfl
 have D26:=bW "thing" d26 fun _ _ _ _ _ _ _=>rfl
 have D27:=bW "thing" d27 fun _ _ _ _ _ _ _=>rfl
 have D28:=bW "house" d28 fun _ _ _ _ _ _ _=>rfl
 have D29:=bW "house" d29 fun _ _ _ _ _ _ _=>rfl
 have D30:=bK "way" "place" d30 fun _ _ _ _ _ _ _ _=>rfl
 have D31:=bW "way" d31 fun _ _ _ _ _ _ _=>rfl
 have D32:=bK "way" "place" d32 fun _ _ _ _ _ _ _ _=>rfl
 have D33:=bK "ways" "place" d33 fun _ _ _ _ _ _ _ _=>rfl
 have D34:=ug "ways" "keeps" "top" "here" d34 fun _ _ _ _ _ _ _ _ _ _=>rfl
 have D35:=bK "house" "place" d35 fun _ _ _ _ _ _ _ _=>rfl
 have D36:=bW "house" d36 fun _ _ _ _ _ _ _=>rfl
 have D37:=bK "house" "place" d37 fun _ _ _ _ _ _ _ _=>rfl
 have D38:=bK "house" "places" d38 fun _ _ _ _ _ _ _ _=>rfl
 have D39:=bK "house" "place" d39 fun _ _ _ _ _ _ _ _=>rfl
 have D40:=fA "house" "place" "l" d40 fun _ _ _ _ _ _ _ _ _=>rfl
 have D41:=fA "_law_cell_here" "_law_k" "_law_prime" d41 fun _ _ _ _ _ _ _ _ _=>rfl
 have D42:=fA "_law_cell_here" "_law_widths" "_law_prime" d42 fun _ _ _ _ _ _ _ _ _=>rfl
 have D43:=bK "_law_script" "_law_k" d43 fun _ _ _ _ _ _ _ _=>rfl
 have D44:=bW "_law_found" d44 fun _ _ _ _ _ _ _=>rfl
 have D45:=fA "_law_row" "_law_low" "_law_high" d45 fun _ _ _ _ _ _ _ _ _=>rfl
 have D46:=bW "_law_found" d46 fun _ _ _ _ _ _ _=>rfl
 have D47:=bK "_law_house_here" "_law_room" d47 fun _ _ _ _ _ _ _ _=>rfl
 have D48:=bW "_law_house_here" d48 fun _ _ _ _ _ _ _=>rfl
 have D49:=fA "_law_house_here" "_law_cell_here" "_law_prime" d49 fun _ _ _ _ _ _ _ _ _=>rfl
 have D50:=bW "_law_ways" d50 fun _ _ _ _ _ _ _=>rfl
 have D51:=bK "_law_cell_here" "_law_prime" d51 fun _ _ _ _ _ _ _ _=>rfl
 have D52:=bK "_law_cell_here" "_law_prime" d52 fun _ _ _ _ _ _ _ _=>rfl
 have D53:=bK "_law_cell_here" "_law_prime" d53 fun _ _ _ _ _ _ _ _=>rfl
 have D54:=bK "_law_cell_here" "_law_width" d54 fun _ _ _ _ _ _ _ _=>rfl
 have D55:=bK "_law_cell_here" "_law_prime" d55 fun _ _ _ _ _ _ _ _=>rfl
 refine⟨PySem.W.fnOf "law" "law" (fm eU) (ef eU) (aI eU) .none kV56 dc56 pm56 an56 cd56 ct56,fun s v=>.of_eq rfl,fun base KB GB HB=>?_⟩
 have C0:=@Ce l.prog w K mg base D0 T
 have C1:=@B3 l.prog w K mg base D1 T
 have C2:=@wX l.prog w K mg base D2 T ⟨_,PySem.W.mg_of X G v0⟩ ⟨_,PySem.W.mg_of X G v1⟩
 have C3:=@zp l.prog w K mg base D3 T
 have C4:=@De l.prog w K mg base D4 T C3
 have C5:=@CF l.prog w K mg base D5 T C4 C3
 have C6:=@A6 l.prog w K mg base D6 T C5
 have C7:=@CT l.prog w K mg base D7 T C6
 have C8:=@zt l.prog w K mg base D8 T C2 C7
 have C9:=@Df l.prog w K mg base D9 T C8
 have C10:=@AY l.prog w K mg base D10 T
 have C11:=@yw l.prog w K mg base D11 T C10
 have C12:=@wQ l.prog w K mg base D12 T C11
 have C13:=@yd l.prog w K mg base D13 T
 have C14:=@AA l.prog w K mg base D14 T
 have C15:=@yN l.prog w K mg base D15 T
 have C16:=@xi l.prog w K mg base D16 T
 have C17:=@yt l.prog w K mg base D17 T
 have C18:=@As l.prog w K mg base D18 T
 have C19:=@Dj l.prog w K mg base D19 T C18
 have C20:=@CC l.prog w K mg base D20 T C16 C17 C18 C19
 have C21:=@xE l.prog w K mg base D21 T
 have C22:=@xt l.prog w K mg base D22 T ⟨_,PySem.W.mg_of X G x0,yE y0 w0⟩
 have C23:=@ze l.prog w K mg base D23 T C3
 have C24:=@zU l.prog w K mg base D24 T C21 C22 C23
 have C25:=@xB l.prog w K mg base D25 T ⟨_,PySem.W.mg_of X G v2⟩ C24
 have C26:=@yP l.prog w K mg base D26 T ⟨_,PySem.W.mg_of X G v3⟩ C25 C3
 have C27:=@B7 l.prog w K mg base D27 T C26
 obtain⟨c289,T289,B28⟩:=HB "kept" (by simp)
 have C28:Cal l.prog w K mg base "kept" 7 ["house"] (oa K):=yi D28 T B28 C15 C20 C27
 have C29:=@Ax l.prog w K mg base D29 T
 have C30:=@yB l.prog w K mg base D30 T
 have C31:=@BW l.prog w K mg base D31 T ⟨_,PySem.W.mg_of X G x1,xO y1 w1⟩
 have C32:=@yC l.prog w K mg base D32 T C31
 have C33:=@BH l.prog w K mg base D33 T C30 C32
 have C34:=@CK l.prog w K mg base D34 T C33
 obtain⟨c359,T359,B35⟩:=HB "low_levels" (by simp)
 have C35:Cal l.prog w K mg base "low_levels" 8 ["house","place"] (lU K):=wM D35 T B35 C14 C28 C29 C34
 obtain⟨c369,T369,B36⟩:=HB "risen" (by simp)
 have C36:Cal l.prog w K mg base "risen" 7 ["house"] (kQ K):=zS D36 T B36 C15 C18 C20 C27
 have C37:=@w6 l.prog w K mg base D37 T C13 C35 C36
 have C38:=@AH l.prog w K mg base D38 T ⟨_,PySem.W.mg_of X G v4⟩ C23
 have C39:=@Cu l.prog w K mg base D39 T C12 C37 C38 C27
 have C40:=@AS l.prog w K mg base D40 T ⟨_,PySem.W.mg_of X G v5⟩ C9 C39
 have C41:=@yR l.prog w K mg base D41 T
 have C42:=@Di l.prog w K mg base D42 T C41
 have C43:=@CD l.prog w K mg base D43 T
 have C44:=@w5 l.prog w K mg base D44 T
 have C45:=@zb l.prog w K mg base D45 T C44
 have C46:=@xQ l.prog w K mg base D46 T C45 C44
 have C47:=@Ao l.prog w K mg base D47 T
 have C48:=@Cc l.prog w K mg base D48 T C47
 have C49:=@Bp l.prog w K mg base D49 T C42
 have C50:=@Bd l.prog w K mg base D50 T
 have C51:=@xZ l.prog w K mg base D51 T C50 C42
 have C52:=@Az l.prog w K mg base D52 T C50 C42
 have C53:=@B2 l.prog w K mg base D53 T C42
 have C54:=@Bw l.prog w K mg base D54 T
 have C55:=@xR l.prog w K mg base D55 T C51 C52 C53 C54 C42
 exact y6 (sQ (st:=eU) l56 c56 k56) T C0 C1 C40 C42 C43 C46 C39 C48 C49 C55
theorem walk{l:PySem.W.OpenLaw}{q:Program}{loose:List Str}{XP:(Str->Option Value)->Heap->Prop}{YP:World->Heap->Prop}{d:DefRec}{K:Params->Du}(hn:l.most=some 63)(hdf:d.params.defaults=[])
  (hY:∀(w:World) (h:Heap),YP w h->(K w.params).In h) (hK:∀w:World,PySem.W.noTabs (K w.params)=true) (hrec:∀y∈(["kept","low_levels","risen"]:List Str),((PyProof.Rows.recsOf q).find? (fun e=>e.name == y)).isSome=true) (htab:∀(w:World),∀y∈(["kept","low_levels","risen"]:List Str),(PySem.W.tabIn (K w.params) y).isSome=true) (hdis:∀w:World,eM (K w.params))
  (F:∀(w:World) (mg:Str->Option Value) (fa:Addr) (h:Heap),(K w.params).In h->h.Ns mainGlobals mg->mg d.name=some (.ref fa) →
   ∃fd:FuncData,(∀(s:Shared) (u:Value),BindsTo s fd ⟨[u],[]⟩ [("_law_script",u)])/\∀base:Heap,(K w.params).In base->base.Ns mainGlobals mg->(∀y∈(["kept","low_levels","risen"]:List Str),∃c T,Tab (K w.params) mg base y c T)->FnOk l.prog w (K w.params) mg base dk 12 fa fd ["_law_script"] (jB (K w.params))) :
  PySem.W.WalkO q loose XP YP l.row.toRowW d [] (fun f vs=>PySem.call f vs):=
 L2.ya (n:=63) (k:=12) (x:="_law_script") (sp:=fun w=>jB (K w.params)) ["kept","low_levels","risen"] hn (by decide) hdf ⟨rfl,by decide,by decide⟩ hY hK hrec htab F fun w H a ns hl hT hS=>⟨a,ns,rfl,hS,hl,hT,hdis w,fun _=>rfl⟩
end My
end
open PySem PySem.W PyProof.Rows
set_option maxRecDepth 100000 in
set_option maxHeartbeats 0 in
theorem PySem.Challenge.cw_stairrooms_k30_whole_next_levels_holds : PySem.Challenge.rw_stairrooms_k30_whole_next_levels.Holds := by
 refine My.top ?_
 k_fill
 refine My.walk (l := PySem.Challenge.rw_stairrooms_k30_whole_next_levels) rfl rfl (fun w h Y => PySem.W.km_in_of Y) (fun w => by kernel_rfl) ?R (fun w => ?Tb) (fun w => My.Cf (by kernel_rfl)) ?F
 case R => intro y hy; simp only [List.mem_cons, List.not_mem_nil, or_false] at hy; rcases hy with rfl | rfl | rfl <;> kernel_rfl
 case Tb => intro y hy; simp only [List.mem_cons, List.not_mem_nil, or_false] at hy; rcases hy with rfl | rfl | rfl <;> kernel_rfl
 case F =>
  intro w mg fa h KX G hmg
  have q := @My.dq _ _ _ KX G
  refine' My.all_mk KX G hmg (q ?a0 ?l0 ?c0 ?k0) (q ?a1 ?l1 ?c1 ?k1) (q ?a2 ?l2 ?c2 ?k2) (q ?a3 ?l3 ?c3 ?k3) (q ?a4 ?l4 ?c4 ?k4) (q ?a5 ?l5 ?c5 ?k5) (q ?a6 ?l6 ?c6 ?k6) (q ?a7 ?l7 ?c7 ?k7) (q ?a8 ?l8 ?c8 ?k8) (q ?a9 ?l9 ?c9 ?k9) (q ?a10 ?l10 ?c10 ?k10) (q ?a11 ?l11 ?c11 ?k11) (q ?a12 ?l12 ?c12 ?k12) (q ?a13 ?l13 ?c13 ?k13) (q ?a14 ?l14 ?c14 ?k14) (q ?a15 ?l15 ?c15 ?k15) (q ?a16 ?l16 ?c16 ?k16) (q ?a17 ?l17 ?c17 ?k17) (q ?a18 ?l18 ?c18 ?k18) (q ?a19 ?l19 ?c19 ?k19) (q ?a20 ?l20 ?c20 ?k20) (q ?a21 ?l21 ?c21 ?k21) (q ?a22 ?l22 ?c22 ?k22) (q ?a23 ?l23 ?c23 ?k23) (q ?a24 ?l24 ?c24 ?k24) (q ?a25 ?l25 ?c25 ?k25) (q ?a26 ?l26 ?c26 ?k26) (q ?a27 ?l27 ?c27 ?k27) (q ?a28 ?l28 ?c28 ?k28) (q ?a29 ?l29 ?c29 ?k29) (q ?a30 ?l30 ?c30 ?k30) (q ?a31 ?l31 ?c31 ?k31) (q ?a32 ?l32 ?c32 ?k32) (q ?a33 ?l33 ?c33 ?k33) (q ?a34 ?l34 ?c34 ?k34) (q ?a35 ?l35 ?c35 ?k35) (q ?a36 ?l36 ?c36 ?k36) (q ?a37 ?l37 ?c37 ?k37) (q ?a38 ?l38 ?c38 ?k38) (q ?a39 ?l39 ?c39 ?k39) (q ?a40 ?l40 ?c40 ?k40) (q ?a41 ?l41 ?c41 ?k41) (q ?a42 ?l42 ?c42 ?k42) (q ?a43 ?l43 ?c43 ?k43) (q ?a44 ?l44 ?c44 ?k44) (q ?a45 ?l45 ?c45 ?k45) (q ?a46 ?l46 ?c46 ?k46) (q ?a47 ?l47 ?c47 ?k47) (q ?a48 ?l48 ?c48 ?k48) (q ?a49 ?l49 ?c49 ?k49) (q ?a50 ?l50 ?c50 ?k50) (q ?a51 ?l51 ?c51 ?k51) (q ?a52 ?l52 ?c52 ?k52) (q ?a53 ?l53 ?c53 ?k53) (q ?a54 ?l54 ?c54 ?k54) (q ?a55 ?l55 ?c55 ?k55) ?a56 ?l56 ?c56 ?k56 ?z0 ?z1 ?z2 ?z3 ?z4 ?z5 ?z6 ?z7 ?z8 ?z9 ?z10 ?z11 ?z12 ?z13 ?z14 ?z15 ?z16 ?v0 ?v1 ?v2 ?v3 ?v4 ?v5 ?x0 ?y0 ?w0 ?x1 ?y1 ?w1
  case a0|l0|c0|k0|a1|l1|c1|k1|a2|l2|c2|k2|a3|l3|c3|k3|a4|l4|c4|k4|a5|l5|c5|k5|a6|l6|c6|k6|a7|l7|c7|k7|a8|l8|c8|k8|a9|l9|c9|k9|a10|l10|c10|k10|a11|l11|c11|k11|a12|l12|c12|k12|a13|l13|c13|k13|a14|l14|c14|k14|a15|l15|c15|k15|a16|l16|c16|k16|a17|l17|c17|k17|a18|l18|c18|k18|a19|l19|c19|k19|a20|l20|c20|k20|a21|l21|c21|k21|a22|l22|c22|k22|a23|l23|c23|k23|a24|l24|c24|k24|a25|l25|c25|k25|a26|l26|c26|k26|a27|l27|c27|k27|a28|l28|c28|k28|a29|l29|c29|k29|a30|l30|c30|k30|a31|l31|c31|k31|a32|l32|c32|k32|a33|l33|c33|k33|a34|l34|c34|k34|a35|l35|c35|k35|a36|l36|c36|k36|a37|l37|c37|k37|a38|l38|c38|k38|a39|l39|c39|k39|a40|l40|c40|k40|a41|l41|c41|k41|a42|l42|c42|k42|a43|l43|c43|k43|a44|l44|c44|k44|a45|l45|c45|k45|a46|l46|c46|k46|a47|l47|c47|k47|a48|l48|c48|k48|a49|l49|c49|k49|a50|l50|c50|k50|a51|l51|c51|k51|a52|l52|c52|k52|a53|l53|c53|k53|a54|l54|c54|k54|a55|l55|c55|k55|a56|l56|c56|k56|z0|z1|z2|z3|z4|z5|z6|z7|z8|z9|z10|z11|z12|z13|z14|z15|z16|v0|v1|v2|v3|v4|v5=>k_is
  (case x0 => k_is); (case y0 => k_is); (case w0 => first | rfl | k_is)
  (case x1 => k_is); (case y1 => k_is); (case w1 => first | rfl | k_is)
