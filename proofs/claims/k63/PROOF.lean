import PyProof.Rows.All
import Wide.All
import OpenK.AllK
import Wide.FinOn
import Lean
import PyProof.EqAt
import PyProof.EqKinds
import PyProof.TupleCall
import KE.KLam
import PySem.Challenge.RW_stairrooms_k63_common_words
set_option Elab.async false
namespace PySem.W.Fast
theorem tw2341086923626081138:True:=trivial
theorem tw13768210874590993581:True:=trivial
theorem tw5635053752538847041:True:=trivial
theorem tw16146430381041178046:True:=trivial
theorem tw9478813727029378433:True:=trivial
theorem tw844714136284886692:True:=trivial
theorem tw11258306804293243132:True:=trivial
theorem tw14401039182218211299:True:=trivial
theorem tw15125771261956903258:True:=trivial
theorem tw12150866365501820893:True:=trivial
theorem tw15860708213811878519:True:=trivial
theorem tw1296612439555394780:True:=trivial
theorem tw4496083949951026992:True:=trivial
theorem tw5847943849395726680:True:=trivial
theorem tw2686718004561559855:True:=trivial
theorem tw590611807225418770:True:=trivial
theorem tw1768990725659327984:True:=trivial
theorem tw8938549127931359579:True:=trivial
theorem tw8604979696160575008:True:=trivial
theorem tw10166892954511498249:True:=trivial
theorem tw17652695096001567504:True:=trivial
theorem tw12407509693670082368:True:=trivial
theorem tw4918694162171632466:True:=trivial
theorem tw11665305186481523908:True:=trivial
theorem tw3501889831259424984:True:=trivial
theorem tw17690871460500525271:True:=trivial
theorem tw7393957277229836691:True:=trivial
theorem tw456031100195234908:True:=trivial
theorem tw12390782021942118942:True:=trivial
theorem tw18133197322224867361:True:=trivial
theorem tw11040902395418374828:True:=trivial
theorem tw4074507585887532813:True:=trivial
theorem tw15414259988211055499:True:=trivial
theorem tw14882510809304047780:True:=trivial
theorem tw14832175709080873599:True:=trivial
theorem tw12323772569751236006:True:=trivial
theorem tw3096949930750721708:True:=trivial
theorem tw902582806634263858:True:=trivial
theorem tw4817981600543833687:True:=trivial
theorem tw15831574140416324556:True:=trivial
theorem tw15186367229040268510:True:=trivial
theorem tw1465564398378206461:True:=trivial
theorem tw13921919005729749812:True:=trivial
theorem tw179189376934874584:True:=trivial
theorem tw15732654264858244716:True:=trivial
theorem tw11858878876565515630:True:=trivial
theorem tw11655376856063916228:True:=trivial
theorem tw477595423994022719:True:=trivial
theorem tw447717403241242290:True:=trivial
theorem tw16622475990643145580:True:=trivial
theorem tw12664327836493813462:True:=trivial
theorem tw9337504207740955038:True:=trivial
theorem tw8863156965792605256:True:=trivial
theorem tw3093781508513788219:True:=trivial
theorem tw2355404199824840798:True:=trivial
theorem tw2308842233520690658:True:=trivial
theorem tw14635225500592789833:True:=trivial
theorem tw1057306937073154610:True:=trivial
theorem tw2904058922640873309:True:=trivial
theorem tw14836224472968703893:True:=trivial
theorem tw11198388801270196117:True:=trivial
theorem tw9878173891806150429:True:=trivial
theorem tw9834661911540460081:True:=trivial
theorem tw9578026534446552097:True:=trivial
theorem tw8562296191053873827:True:=trivial
theorem tw3975676623463710300:True:=trivial
theorem tw3220723017206680370:True:=trivial
theorem tw3121732170634265723:True:=trivial
theorem tw17831088686795452451:True:=trivial
theorem tw13587432420489492189:True:=trivial
theorem tw11701492411309977178:True:=trivial
theorem tw11560677996495128784:True:=trivial
theorem tw17581992280946622230:True:=trivial
theorem tw16843462989757039891:True:=trivial
theorem tw11383850339681254435:True:=trivial
theorem tw10154314827766144001:True:=trivial
theorem tw7750769465160294860:True:=trivial
theorem tw18066811921283522515:True:=trivial
theorem tw17415715754555401154:True:=trivial
theorem tw17405974757215459542:True:=trivial
theorem tw16669810761675009345:True:=trivial
theorem tw15269425654929456476:True:=trivial
theorem tw11365700717142005424:True:=trivial
theorem tw9816307224394526710:True:=trivial
theorem tw8035931760809384120:True:=trivial
theorem tw684117499851941213:True:=trivial
theorem tw6393150591798677637:True:=trivial
theorem tw5533809914848052129:True:=trivial
theorem tw2122511160286549640:True:=trivial
theorem tw18101583386606535240:True:=trivial
theorem tw17990003072128590093:True:=trivial
theorem tw17729564300890611173:True:=trivial
theorem tw16503717402094505217:True:=trivial
theorem tw11971130579796114034:True:=trivial
theorem tw8338600121835276020:True:=trivial
theorem tw705330452703051597:True:=trivial
theorem tw6181847661251503008:True:=trivial
theorem tw5950158449063615346:True:=trivial
theorem tw4256779784062091372:True:=trivial
theorem tw3797301031838899788:True:=trivial
theorem tw1682181479755940848:True:=trivial
theorem tw16176690743668362219:True:=trivial
theorem tw14931363111589739018:True:=trivial
theorem tw14419318313112166178:True:=trivial
theorem tw10602856759635532317:True:=trivial
theorem tw8186763794367992775:True:=trivial
theorem tw6130821448147606368:True:=trivial
theorem tw5920227957080817638:True:=trivial
theorem tw2780415966309772251:True:=trivial
theorem tw17716863462265859512:True:=trivial
theorem tw17644514534155135092:True:=trivial
theorem tw13809386149585982481:True:=trivial
theorem tw12249993202121903794:True:=trivial
theorem tw10095913671755900038:True:=trivial
theorem tw7341270039093922885:True:=trivial
theorem tw7176572640101177836:True:=trivial
theorem tw7134983793405793177:True:=trivial
theorem tw7115244209674446852:True:=trivial
theorem tw5819105399919881484:True:=trivial
theorem tw5140171473248983199:True:=trivial
theorem tw5010354932100547165:True:=trivial
theorem tw4801039527111802282:True:=trivial
theorem tw4488003136180807592:True:=trivial
theorem tw3866599564448483793:True:=trivial
theorem tw1980078614172103820:True:=trivial
theorem tw1901317781093569649:True:=trivial
theorem tw18032779900021213040:True:=trivial
theorem tw17694846207451314135:True:=trivial
theorem tw16835956152608702361:True:=trivial
theorem tw16283258727396688951:True:=trivial
theorem tw16245695487900975421:True:=trivial
theorem tw1488503510874697304:True:=trivial
theorem tw14800109303040266240:True:=trivial
theorem tw14775263502782431712:True:=trivial
theorem tw14670137783204244808:True:=trivial
theorem tw14221475358252599964:True:=trivial
theorem tw12357872333080808881:True:=trivial
theorem tw119674054762100072:True:=trivial
theorem tw11787554532782738252:True:=trivial
theorem tw11339562753883754242:True:=trivial
theorem tw11282886037220131173:True:=trivial
theorem tw1069010634818593453:True:=trivial
theorem tw10150324261921262226:True:=trivial
theorem tw762384175361060421:True:=trivial
theorem tw7240639191980452486:True:=trivial
theorem tw5442971307982108685:True:=trivial
theorem tw5425565988235752197:True:=trivial
theorem tw18127141830633905074:True:=trivial
theorem tw17843839365795533554:True:=trivial
theorem tw15641575440650329080:True:=trivial
theorem tw11137535781475439334:True:=trivial
theorem tw10846541316933110243:True:=trivial
theorem tw10118012357411222232:True:=trivial
theorem tw10035081181641441020:True:=trivial
theorem tw512557566824241540:True:=trivial
theorem tw4769826392853288355:True:=trivial
theorem tw3268437569422444630:True:=trivial
theorem tw3258786278723069861:True:=trivial
theorem tw1856151083423349262:True:=trivial
theorem tw17925923492730016652:True:=trivial
theorem tw17438179399263098937:True:=trivial
theorem tw17238752558760652402:True:=trivial
theorem tw1703860651114587486:True:=trivial
theorem tw16964212798373946863:True:=trivial
theorem tw16924412733494049589:True:=trivial
theorem tw16507177298177948937:True:=trivial
theorem tw16180315334032665911:True:=trivial
theorem tw15529604674929473973:True:=trivial
theorem tw14849095896601040367:True:=trivial
theorem tw1382559312744143635:True:=trivial
theorem tw11364142691922409913:True:=trivial
theorem tw9749810874003056045:True:=trivial
theorem tw9119751986894142981:True:=trivial
theorem tw7904445426397662059:True:=trivial
theorem tw2217001567337907910:True:=trivial
theorem tw16821967185522334815:True:=trivial
theorem tw14867130098325134529:True:=trivial
theorem tw14397947794671477899:True:=trivial
theorem tw14292392306617517729:True:=trivial
theorem tw12261729195969336472:True:=trivial
theorem tw9930359092145622687:True:=trivial
theorem tw9281662355237421915:True:=trivial
theorem tw8783073200307453229:True:=trivial
theorem tw8722415481117505015:True:=trivial
theorem tw8612541938085228305:True:=trivial
theorem tw8340926499216404060:True:=trivial
theorem tw8147721191793257292:True:=trivial
theorem tw8143298780573084396:True:=trivial
theorem tw7956301941440062040:True:=trivial
theorem tw7897135418779063302:True:=trivial
theorem tw7863108119856694670:True:=trivial
theorem tw7848866751621661257:True:=trivial
theorem tw7627118995241731642:True:=trivial
theorem tw6093179522131556990:True:=trivial
theorem tw6008010531490865865:True:=trivial
theorem tw5956051100702781606:True:=trivial
theorem tw5350998768358884751:True:=trivial
theorem tw5051596291613938045:True:=trivial
theorem tw4997450903056089975:True:=trivial
theorem tw4797132809794432123:True:=trivial
theorem tw4672492687276399408:True:=trivial
theorem tw4566636315000093172:True:=trivial
theorem tw4169430970946328830:True:=trivial
theorem tw3725507860900426652:True:=trivial
theorem tw3711776433476670718:True:=trivial
theorem tw3465091326942903629:True:=trivial
theorem tw343839832772155065:True:=trivial
theorem tw3104486758596841148:True:=trivial
theorem tw2696157109874119690:True:=trivial
theorem tw2520694231678862498:True:=trivial
theorem tw2448602276733661166:True:=trivial
theorem tw2342838551658309370:True:=trivial
theorem tw2020109458520273824:True:=trivial
theorem tw1923656493189036919:True:=trivial
theorem tw1921160878016633958:True:=trivial
theorem tw18159918767601648018:True:=trivial
theorem tw17994301212061070119:True:=trivial
theorem tw17628590533929976792:True:=trivial
theorem tw1735571389945239771:True:=trivial
theorem tw17104333970416622323:True:=trivial
theorem tw17065142239566038489:True:=trivial
theorem tw16840622159041910090:True:=trivial
theorem tw16661212229125270991:True:=trivial
theorem tw16575673167688372683:True:=trivial
theorem tw16477329177891185698:True:=trivial
theorem tw1637453852661378490:True:=trivial
theorem tw16221219022901355867:True:=trivial
theorem tw15786528573266890262:True:=trivial
theorem tw156604256827902990:True:=trivial
theorem tw15565656631415577005:True:=trivial
theorem tw15319796435752655959:True:=trivial
theorem tw15291515778787918541:True:=trivial
theorem tw15104015179872336855:True:=trivial
theorem tw1492062709326496596:True:=trivial
theorem tw14905269560852764671:True:=trivial
theorem tw1488474676173749703:True:=trivial
theorem tw14322595565739780087:True:=trivial
theorem tw14312667545330328413:True:=trivial
theorem tw13817142068744991791:True:=trivial
theorem tw13814131451427507189:True:=trivial
theorem tw13769731409856085057:True:=trivial
theorem tw13611136168108132581:True:=trivial
theorem tw13501672401922333513:True:=trivial
theorem tw13385619842731796546:True:=trivial
theorem tw13140385074510843379:True:=trivial
theorem tw12996499756298277263:True:=trivial
theorem tw12632963454795662708:True:=trivial
theorem tw12340981958623863397:True:=trivial
theorem tw11985937269989024962:True:=trivial
theorem tw119775208399524090:True:=trivial
theorem tw11950575282948044451:True:=trivial
theorem tw11801650391622900179:True:=trivial
theorem tw11612187849094769778:True:=trivial
theorem tw10785498421680218836:True:=trivial
theorem tw10500720501580190231:True:=trivial
theorem tw10276969695076772373:True:=trivial
theorem tw10121643642846045468:True:=trivial
theorem tw10053539800044614232:True:=trivial
theorem tw9602979466950630956:True:=trivial
theorem tw8777541643666118068:True:=trivial
theorem tw8572175281459272771:True:=trivial
theorem tw8568187914498332850:True:=trivial
theorem tw8444893750286939596:True:=trivial
theorem tw8125407811402774585:True:=trivial
theorem tw7552210041123771490:True:=trivial
theorem tw7175792842613744815:True:=trivial
theorem tw684210181549580303:True:=trivial
theorem tw6340304130596135008:True:=trivial
theorem tw6158425238486604569:True:=trivial
theorem tw5096499008420852698:True:=trivial
theorem tw3612554134655720397:True:=trivial
theorem tw2801974123689400889:True:=trivial
theorem tw2093290091728733057:True:=trivial
theorem tw17795394019121955329:True:=trivial
theorem tw17571631200592639834:True:=trivial
theorem tw16219145617115034907:True:=trivial
theorem tw1456095747653818372:True:=trivial
theorem tw14415884991196681418:True:=trivial
theorem tw13746588304753895505:True:=trivial
theorem tw12296552071639831032:True:=trivial
theorem tw10424792985553544811:True:=trivial
theorem tw9802983821206752271:True:=trivial
theorem tw976709547398631384:True:=trivial
theorem tw974001917477778970:True:=trivial
theorem tw9590536906216307355:True:=trivial
theorem tw931510637493425866:True:=trivial
theorem tw9254883793231693245:True:=trivial
theorem tw9248597171148506525:True:=trivial
theorem tw912290570786946579:True:=trivial
theorem tw9002392303285804385:True:=trivial
theorem tw8487562230406468105:True:=trivial
theorem tw8039774922555296384:True:=trivial
theorem tw8037652997034423971:True:=trivial
theorem tw7875707854763748492:True:=trivial
theorem tw7693350481814642131:True:=trivial
theorem tw7259079589770855615:True:=trivial
theorem tw720755081136891062:True:=trivial
theorem tw6942357351460751399:True:=trivial
theorem tw6787905781562076304:True:=trivial
theorem tw6658185936689682968:True:=trivial
theorem tw6429728187070590260:True:=trivial
theorem tw621812022307901172:True:=trivial
theorem tw6178244272827954729:True:=trivial
theorem tw5994711959094706394:True:=trivial
theorem tw5821001088122574322:True:=trivial
theorem tw5717963241065829162:True:=trivial
theorem tw5581349078452510653:True:=trivial
theorem tw5430882940802126740:True:=trivial
theorem tw5295854211047901153:True:=trivial
theorem tw5019332986140449700:True:=trivial
theorem tw4977895861229493542:True:=trivial
theorem tw4933930183700603765:True:=trivial
theorem tw4869967250276580588:True:=trivial
theorem tw4855646995411632120:True:=trivial
theorem tw4532786408525356839:True:=trivial
theorem tw4355615645706949100:True:=trivial
theorem tw4307926830116509514:True:=trivial
theorem tw4090099033456441411:True:=trivial
theorem tw3855077825024126993:True:=trivial
theorem tw3830783680494933951:True:=trivial
theorem tw3566807236516140644:True:=trivial
theorem tw3415376743198261602:True:=trivial
theorem tw3182821167057557991:True:=trivial
theorem tw3017139974649574989:True:=trivial
theorem tw3015604971527890583:True:=trivial
theorem tw2904033067149887106:True:=trivial
theorem tw2800321189394573348:True:=trivial
theorem tw2313535712752964479:True:=trivial
theorem tw2248526150547823735:True:=trivial
theorem tw2187499721780371684:True:=trivial
theorem tw2045930578084102194:True:=trivial
theorem tw193794278739742225:True:=trivial
theorem tw18438895364323578133:True:=trivial
theorem tw18334927389422029420:True:=trivial
theorem tw18207201711260066481:True:=trivial
theorem tw1818218476948158209:True:=trivial
theorem tw18038851775406917655:True:=trivial
theorem tw18027755133952139252:True:=trivial
theorem tw17843169823834903998:True:=trivial
theorem tw17645572048654386869:True:=trivial
theorem tw1754243070517289278:True:=trivial
theorem tw17423125552162021742:True:=trivial
theorem tw17405045028177135956:True:=trivial
theorem tw17218974888202052536:True:=trivial
theorem tw17076493798685594974:True:=trivial
theorem tw17002439396945247550:True:=trivial
theorem tw16988158499489311127:True:=trivial
theorem tw16980547499210933930:True:=trivial
theorem tw1691102865124860179:True:=trivial
theorem tw16826725409987885975:True:=trivial
theorem tw16743919102785911483:True:=trivial
theorem tw16164986634524919498:True:=trivial
theorem tw1612923964453859806:True:=trivial
theorem tw15968237232650601322:True:=trivial
theorem tw15856698116174445793:True:=trivial
theorem tw15829181571673270705:True:=trivial
theorem tw15729792075999087868:True:=trivial
theorem tw15660991250957307376:True:=trivial
theorem tw15438610589593914328:True:=trivial
theorem tw1536147683505774889:True:=trivial
theorem tw14977234088687162302:True:=trivial
theorem tw14793259975867257014:True:=trivial
theorem tw14650229311272632197:True:=trivial
theorem tw1460478622569836974:True:=trivial
theorem tw14585778381282314952:True:=trivial
theorem tw14560837491469231475:True:=trivial
theorem tw14324394720252608761:True:=trivial
theorem tw1428814744893504695:True:=trivial
theorem tw14109453767193502313:True:=trivial
theorem tw13841191037290658594:True:=trivial
theorem tw13820470126673855253:True:=trivial
theorem tw13732165248360646341:True:=trivial
theorem tw13679643304169797691:True:=trivial
theorem tw13573848267779960677:True:=trivial
theorem tw13298203722689827917:True:=trivial
theorem tw13135487405686255751:True:=trivial
theorem tw13021086612755893400:True:=trivial
theorem tw12993445975515111361:True:=trivial
theorem tw12679859039530741841:True:=trivial
theorem tw12170451868844119946:True:=trivial
theorem tw12124443520851957044:True:=trivial
theorem tw11687504721054253588:True:=trivial
theorem tw11605670760853518920:True:=trivial
theorem tw11551815002882820457:True:=trivial
theorem tw11506949944486722818:True:=trivial
theorem tw11362101791794971524:True:=trivial
theorem tw11296645311156999791:True:=trivial
theorem tw11166862733661299840:True:=trivial
theorem tw11029396596865941829:True:=trivial
theorem tw10769681086646498438:True:=trivial
theorem tw10698238366409207256:True:=trivial
theorem tw10263077061500514125:True:=trivial
theorem tw10017577030591726147:True:=trivial
end PySem.W.Fast
section
open PySem PySem.W PyProof.Rows
set_option maxRecDepth 100000 in
set_option maxHeartbeats 0 in
open_top My.top for PySem.Challenge.rw_stairrooms_k63_common_words
end
noncomputable section
set_option linter.all false
set_option maxRecDepth 100000
namespace L2
open PySem PySem.Spec PyProof.Rows
abbrev Key:=Sum Int Str
def gK:Key->Value->Bool
 | .inl k,v=>Value.isInt k v
 | .inr x,v=>Value.isStrOf x v
def Ab(w:World):Key->Int
 | .inl k=>hashInt k
 | .inr x=>hashStr w x
theorem eQ:∀{k:Key} {v:Value},gK k v=true->(∃i t,k=Sum.inl i/\v=Value.int i t)\/(∃x t,k=Sum.inr x/\v=Value.str x t)
 | .inl i,v,h=>by
  obtain⟨t,e⟩:=Value.isInt_shape (k:=i) (v:=v) h
  exact .inl ⟨i,t,rfl,e⟩
 | .inr x,v,h=>by
  obtain⟨t,e⟩:=Value.isStrOf_shape (x:=x) (v:=v) h
  exact .inr ⟨x,t,rfl,e⟩
theorem vK(i:Int)(t:Tok):gK (.inl i) (.int i t)=true:=by simp[gK,Value.isInt]
theorem w4(x:Str)(t:Tok):gK (.inr x) (.str x t)=true:=by simp[gK,Value.isStrOf]
theorem xP(a b:Int):decide ((Sum.inl a:Key)=Sum.inl b)=(a == b):=by
 by_cases e:a=b
 ·subst e;simp
 ·have h:¬(Sum.inl a:Key)=Sum.inl b:=fun q=>e (Sum.inl.inj q)
  rw[decide_eq_false h]
  exact(beq_eq_false_iff_ne.mpr e).symm
theorem yO(a b:Str):decide ((Sum.inr a:Key)=Sum.inr b)=decide (a=b):=by
 by_cases e:a=b
 ·subst e;simp
 ·have h:¬(Sum.inr a:Key)=Sum.inr b:=fun q=>e (Sum.inr.inj q)
  rw[decide_eq_false h,decide_eq_false e]
theorem B0(a:Int)(b:Str):decide ((Sum.inl a:Key)=Sum.inr b)=false:=decide_eq_false (fun q=>nomatch q)
theorem xU(a:Str)(b:Int):decide ((Sum.inr a:Key)=Sum.inl b)=false:=decide_eq_false (fun q=>nomatch q)
def bW(prog:Program)(w:World):PySem.KeyKind prog w Key where
 is:=gK
 hash:=Ab w
 inj:=fun v a b ha hb=>by
  rcases eQ ha with⟨i,t,rfl,rfl⟩ | ⟨x,t,rfl,rfl⟩
  ·rcases eQ hb with⟨j,u,rfl,e⟩ | ⟨y,u,rfl,e⟩
   ·injection e with e1 _;rw[e1]
   ·exact nomatch e
  ·rcases eQ hb with⟨j,u,rfl,e⟩ | ⟨y,u,rfl,e⟩
   ·exact nomatch e
   ·injection e with e1 _;rw[e1]
 byValue:=fun k v h=>by
  rcases eQ h with⟨i,t,rfl,rfl⟩ | ⟨x,t,rfl,rfl⟩<;>rfl
 pyHash:=fun hv h=>by
  rcases eQ hv with⟨i,t,rfl,rfl⟩ | ⟨x,t,rfl,rfl⟩
  ·exact wpAny_pyHash_int h
  ·exact wpAny_pyHash_str h
 eqBool:=fun hu hv h=>by
  rcases eQ hu with⟨i,t,rfl,rfl⟩ | ⟨x,t,rfl,rfl⟩
  ·rcases eQ hv with⟨j,u,rfl,rfl⟩ | ⟨y,u,rfl,rfl⟩
   ·rw[xP]at h;exact wpAny_eqBool_int h
   ·rw[B0]at h;exact SeqAt.EqAt.int_str i t y u _ _ _ _ h
  ·rcases eQ hv with⟨j,u,rfl,rfl⟩ | ⟨y,u,rfl,rfl⟩
   ·rw[xU]at h;exact SeqAt.EqAt.str_int x t j u _ _ _ _ h
   ·rw[yO]at h;exact wpAny_eqBool_str h
 «strs»:=fun k x t v h=>by
  rcases eQ h with⟨i,u,rfl,e⟩ | ⟨y,u,rfl,e⟩
  ·exact nomatch e
  ·injection e with e1 _
   subst e1
   cases v<;>rfl
theorem Bd(prog:Program)(w:World)(i:Int)(t:Tok):(bW prog w).is (.inl i) (.int i t)=true:=vK i t
theorem kM(prog:Program)(w:World)(x:Str)(t:Tok):(bW prog w).is (.inr x) (.str x t)=true:=w4 x t
end L2
namespace L2
open PySem PySem.Spec PyProof.Rows
inductive V where
 | non | bl (b:Bool) | int (i:Int) | str (x:Str) | byt (b:Array UInt8) | flt (b:UInt64) | ref (a:Addr) | ty (n:String)
 deriving DecidableEq
def RelV:V->Value->Prop
 | .non,u=>u=Value.none
 | .bl b,u=>u=Value.bool b
 | .int i,u=>∃t,u=Value.int i t
 | .str x,u=>∃t,u=Value.str x t
 | .byt b,u=>∃t,u=Value.bytes b t
 | .flt b,u=>∃t,u=Value.float b t
 | .ref a,u=>u=Value.ref a
 | .ty n,u=>u=Value.type n
abbrev Vals:List V->List Value->Prop:=Paired RelV
theorem Vals.length{xs:List V}{us:List Value}(r:Vals xs us):xs.length=us.length:=Paired.length r
theorem Vals.get:∀{xs:List V} {us:List Value} {i:Nat} {x:V},Vals xs us->xs[i]?=some x->∃u,us[i]?=some u/\RelV x u
 | _,_,_,_,.nil,e=>by simp at e
 | _,_,0,_,.cons r _,e=>by simp at e;subst e;exact⟨_,rfl,r⟩
 | _,_,i+1,x,.cons _ t,e=>by
  obtain⟨u,h1,h2⟩:=Vals.get (i:=i) (x:=x) t (by simpa using e)
  exact⟨u,by simpa using h1,h2⟩
theorem Vals.set{x:V}{u:Value}(r:RelV x u):∀{xs:List V} {us:List Value} (i:Nat),Vals xs us->Vals (xs.set i x) (us.set i u)
 | _,_,_,.nil=>.nil
 | _,_,0,.cons _ t=>.cons r t
 | _,_,i+1,.cons q t=>.cons q (Vals.set r i t)
theorem Vals.append:∀{xs ys:List V} {us ws:List Value},Vals xs us->Vals ys ws->Vals (xs++ys) (us++ws)
 | _,_,_,_,.nil,s=>s
 | _,_,_,_,.cons r t,s=>.cons r (Vals.append t s)
theorem Vals.take:∀{xs:List V} {us:List Value} (n:Nat),Vals xs us->Vals (xs.take n) (us.take n)
 | _,_,0,_=>.nil
 | _,_,_+1,.nil=>.nil
 | _,_,n+1,.cons r t=>.cons r (Vals.take n t)
theorem Vals.drop:∀{xs:List V} {us:List Value} (n:Nat),Vals xs us->Vals (xs.drop n) (us.drop n)
 | _,_,0,r=>r
 | _,_,_+1,.nil=>.nil
 | _,_,n+1,.cons _ t=>Vals.drop n t
def dz:Option V->Option Value->Prop
 | some v,some u=>RelV v u
 | none,none=>True
 | _,_=>False
def KV{κ:Type}:List (κ×V)->List (κ×Value)->Prop:=Paired fun(p:κ×V) (q:κ×Value)=>p.1=q.1/\RelV p.2 q.2
def kV:Key->V
 | .inl i=>.int i
 | .inr x=>.str x
inductive HO where
 /-- a list -/
 | lst (xs:List V)
 /-- a tuple (never changes) -/
 | tup (xs:List V)
 /-- a dict whose keys are ints and texts;one whose keys are tuples of ints and texts (the empty one is both) -/
 | dK (kvs:List (Key×V)) | dT (kvs:List (List Key×V))
 /-- a set of ints: its members,its size -/
 | set (S:Int->Bool) (n:Nat)
 /-- an instance of the class at C,its dict at dx,its attributes -/
 | ins (C dx:Addr) (fs:List (Str×V))
 /-- the dict of the instance at x -/
 | own (x:Addr)
 /-- the dict of an exception -/
 | xd (fs:List (Str×V))
 /-- a bound method,f of x -/
 | met (f x:Addr)
 /-- a range object lo,lo+1,.. below hi -/
 | rng (lo hi:Int)
 /-- a thing that is known to the object (the script;a dict while a loop walks it): read,never written while it is so -/
 | frz (o:Obj) (u:HO)
 /-- a code object's table -/
 | tbl (ps:Array Value)
 /-- any other thing,by what is true of its one object (a def of one's own: SetO a S n:=HO.ext fun h=>..) -/
 | ext (φ:Heap->Prop)
abbrev Hp:=Addr->Option HO
def upd(H:Hp)(a:Addr)(o:HO):Hp:=fun b=>if b=a then some o else H b
theorem aI{H:Hp}{a:Addr}{o:HO}:upd H a o a=some o:=by unfold upd;rw[if_pos rfl]
theorem aG{H:Hp}{a b:Addr}{o:HO}(h:b≠a):upd H a o b=H b:=by unfold upd;rw[if_neg h]
theorem cg{H:Hp}{a b:Addr}{o u:HO}(h:H a=some o)(h':H b=some u)(d:o≠u):a≠b:=by
 intro e;subst e;rw[h]at h';exact d (Option.some.inj h')
theorem cj{H:Hp}{a b:Addr}{o:HO}(h:H a=some o)(h':H b=none):a≠b:=by
 intro e;subst e;rw[h]at h';cases h'
section
variable (P:Program) (w:World)
def bA(H:Hp)(h:Heap)(a:Addr):HO->Prop
 | .lst xs=>xs.length<=sizeLine/\∃(its:List Value) (n:Nat),Vals xs its/\h.get? a=some { cls:=.type "list",data:=.seq its.toArray n }
 | .tup xs=>xs.length<=sizeLine/\∃its:List Value,Vals xs its/\IsTup h a its.toArray
 | .dK kvs=>kvs.length<=sizeLine/\(a == sysModules)=false/\∃vs,KV kvs vs/\h.DictOf (bW P w) a vs
 | .dT kvs=>kvs.length<=sizeLine/\(a == sysModules)=false/\∃xs:List (List Key×Addr×Value),
   Paired (fun(p:List Key×V) (q:List Key×Addr×Value)=>p.1=q.1/\H q.2.1=some (.tup (p.1.map kV))/\RelV p.2 q.2.2) kvs xs ∧
   ∃o es ep,h.get? a=some o/\o.ExactDict/\o.data=.dict es ep/\es.toList=xs.map (entryOfKey (tupleKind (bW P w)))/\(xs.map (·.1)).Nodup
 | .set S n=>h.SetOf (intKind P w) a S n
 | .ins C dx fs=>H dx=some (.own a)/\fs.length<=1000/\dx≠a/\h.get? a=some (PySem.W.instObj C dx) ∧
   ∃mA,h.Ns1 dx mA/\(∀f,dz (fs.lookup f) (mA f))/\PySem.Within mA (fs.map (·.1))
 | .own _=>∃o,h.get? a=some o
 | .xd fs=>∃mA,h.Ns1 a mA/\∀f,dz (fs.lookup f) (mA f)
 | .rng lo hi=>∃t u v,h.get? a=some { cls:=.type "range",data:=.fields #[.int lo t,.int hi u,.int 1 v] }
 | .frz o u=>h.get? a=some o/\bA H h a u
 | .tbl ps=>h.get? a=some { cls:=.none,data:=.fields ps }
 | .met f x=>h.get? a=some (PySem.W.methodObj (.ref f) (.ref x))
 | .ext φ=>φ h/\(∃o,h.get? a=some o)/\∀h1 h2:Heap,φ h1->(∀o,h1.get? a=some o->h2.get? a=some o)->φ h2
def br(H:Hp)(h:Heap):Prop:=∀a o,H a=some o->bA P w H h a o
end
section
variable {P:Program} {w:World} {H H':Hp} {h h':Heap} {a:Addr} {o:HO}
theorem bA.lt(x:bA P w H h a o):a<h.objs.size:=by
 cases o with
 | lst xs=>obtain⟨_,_,_,_,e⟩:=x;exact Heap.lt_size e
 | tup xs=>obtain⟨_,_,_,p⟩:=x;exact p.lt
 | dK kvs=>obtain⟨_,_,_,_,o,_,_,e,_⟩:=x;exact Heap.lt_size e
 | dT kvs=>obtain⟨_,_,_,_,o,_,_,e,_⟩:=x;exact Heap.lt_size e
 | set S n=>obtain⟨o,_,_,_,e,_⟩:=x;exact Heap.lt_size e
 | ins C dx fs=>obtain⟨_,_,_,e,_⟩:=x;exact Heap.lt_size e
 | own y=>obtain⟨_,e⟩:=x;exact Heap.lt_size e
 | xd fs=>obtain⟨_,⟨_,_,_,e,_⟩,_⟩:=x;exact Heap.lt_size e
 | rng lo hi=>obtain⟨_,_,_,e⟩:=x;exact Heap.lt_size e
 | frz ob u=>obtain⟨e,_⟩:=x;exact Heap.lt_size e
 | tbl ps=>exact Heap.lt_size (show h.get? a=some _ from x)
 | met f y=>exact Heap.lt_size (show h.get? a=some _ from x)
 | ext φ=>obtain⟨_,⟨_,e⟩,_⟩:=x;exact Heap.lt_size e
theorem Paired.mapP{α β:Type}{F G:α->β->Prop}:∀{l₁:List α} {l₂:List β},Paired F l₁ l₂->(∀a b,F a b->G a b)->Paired G l₁ l₂
 | _,_,.nil,_=>.nil
 | _,_,.cons r t,f=>.cons (f _ _ r) (Paired.mapP t f)
theorem bA.stay(x:bA P w H h a o)(k:∀b u,(b=a\/H b=some (.own a))->h.get? b=some u->h'.get? b=some u)
  (ho:∀b,H b=some (.own a)->H' b=some (.own a)) (ht:∀b xs,H b=some (.tup xs)->H' b=some (.tup xs)):bA P w H' h' a o:=by
 induction o with
 | lst xs=>obtain⟨z,its,n,r,e⟩:=x;exact⟨z,its,n,r,k _ _ (.inl rfl) e⟩
 | tup xs=>obtain⟨z,its,r,ob,e,c⟩:=x;exact⟨z,its,r,ob,k _ _ (.inl rfl) e,c⟩
 | dK kvs=>obtain⟨z,y,vs,r,ob,es,ep,e,c⟩:=x;exact⟨z,y,vs,r,ob,es,ep,k _ _ (.inl rfl) e,c⟩
 | dT kvs=>
  obtain⟨z,y,xs,r,ob,es,ep,e,c⟩:=x
  exact⟨z,y,xs,Paired.mapP r fun p q z=>⟨z.1,ht _ _ z.2.1,z.2.2⟩,ob,es,ep,k _ _ (.inl rfl) e,c⟩
 | set S n=>obtain⟨ob,es,ep,t,e,c⟩:=x;exact⟨ob,es,ep,t,k _ _ (.inl rfl) e,c⟩
 | ins C dx fs=>
  obtain⟨d,z,ne,e,mA,⟨od,es,ep,e2,c⟩,r⟩:=x
  exact⟨ho _ d,z,ne,k _ _ (.inl rfl) e,mA,⟨od,es,ep,k _ _ (.inr d) e2,c⟩,r⟩
 | own y=>obtain⟨ob,e⟩:=x;exact⟨ob,k _ _ (.inl rfl) e⟩
 | xd fs=>obtain⟨mA,⟨od,es,ep,e,c⟩,r⟩:=x;exact⟨mA,⟨od,es,ep,k _ _ (.inl rfl) e,c⟩,r⟩
 | rng lo hi=>obtain⟨t,u,v,e⟩:=x;exact⟨t,u,v,k _ _ (.inl rfl) e⟩
 | frz ob u ih=>obtain⟨e,q⟩:=x;exact⟨k _ _ (.inl rfl) e,ih q⟩
 | tbl ps=>
  have e:h.get? a=some { cls:=.none,data:=.fields ps }:=x
  show h'.get? a=some { cls:=.none,data:=.fields ps }
  exact k a _ (.inl rfl) e
 | met f y=>
  have e:h.get? a=some (PySem.W.methodObj (.ref f) (.ref y)):=x
  show h'.get? a=some (PySem.W.methodObj (.ref f) (.ref y))
  exact k a _ (.inl rfl) e
 | ext φ=>obtain⟨p,⟨o,e⟩,st⟩:=x;exact⟨st _ _ p fun o q=>k _ _ (.inl rfl) q,⟨o,k _ _ (.inl rfl) e⟩,st⟩
theorem br.lt(x:br P w H h)(e:H a=some o):a<h.objs.size:=(x a o e).lt
theorem br.fresh(x:br P w H h)(e:h.objs.size<=a):H a=none:=by
 cases q:H a with
 | none=>rfl
 | some u=>exact absurd (Nat.lt_of_lt_of_le (x.lt q) e) (Nat.lt_irrefl _)
theorem br.kept(x:br P w H h)(k:∀b u,h.get? b=some u->h'.get? b=some u):br P w H h':=fun a o e=>
 (x a o e).stay (fun b u _ q=>k b u q) (fun _ q=>q) fun _ _ q=>q
theorem br.laid(x:br P w H h)(k:∀b u,h.get? b=some u->h'.get? b=some u)(hp:h.objs.size<=a)(new:bA P w (upd H a o) h' a o):br P w (upd H a o) h':=fun b u e=>by
 have hn:=x.fresh hp
 by_cases hb:b=a
 ·subst hb;rw[aI]at e;cases e;exact new
 ·rw[aG hb]at e
  exact(x b u e).stay (fun c v _ q=>k c v q) (fun c q=>by rw[aG (cj q hn)];exact q) fun c xs q=>by rw[aG (cj q hn)];exact q
end
def Rd(H:Hp)(a:Addr)(u:HO):Prop:=H a=some u\/∃o,H a=some (.frz o u)
theorem Rd.ok{P:Program}{w:World}{H:Hp}{h:Heap}{a:Addr}{u:HO}(r:Rd H a u)(x:br P w H h):bA P w H h a u:=by
 rcases r with r | ⟨o,r⟩
 ·exact x a u r
 ·obtain⟨_,q⟩:=x a _ r
  exact q
def gX:Option HO->Prop
 | some (.lst _)=>True
 | some (.dK _)=>True
 | some (.dT _)=>True
 | some (.set _ _)=>True
 | some (.ins _ _ _)=>True
 | some (.ext _)=>True
 | _=>False
section
variable {P:Program} {w:World} {H:Hp} {h h':Heap} {x e:Addr} {o':HO}
theorem br.write(ok:br P w H h)(mu:gX (H x))(he:e=x\/H e=some (.own x))(k:∀b u,b≠e->h.get? b=some u->h'.get? b=some u)(heo:∃u,h'.get? e=some u)
  (new:bA P w (upd H x o') h' x o'):br P w (upd H x o') h':=fun b u q=>by
 have nown:∀c y,H c=some (.own y)->c≠x:=fun c y r z=>by subst z;rw[r]at mu;exact mu
 have ntup:∀c xs,H c=some (.tup xs)->c≠x:=fun c xs r z=>by subst z;rw[r]at mu;exact mu
 by_cases hb:b=x
 ·subst hb;rw[aI]at q;cases q;exact new
 ·rw[aG hb]at q
  by_cases hbe:b=e
  ·have q':H b=some (.own x):=by
    rcases he with z | z
    ·exact absurd (hbe.trans z) hb
    ·rw[hbe];exact z
   rw[q]at q';cases q'
   obtain⟨v,hv⟩:=heo
   exact⟨v,by rw[hbe];exact hv⟩
  ·refine(ok b u q).stay (fun c v hc r=>k c v ?_ r) (fun c r=>by rw[aG (nown c b r)];exact r) fun c xs r=>by rw[aG (ntup c xs r)];exact r
   rcases hc with rfl | hc
   ·exact hbe
   ·rintro rfl
    rcases he with z | z
    ·exact nown c b hc z
    ·rw[hc]at z;cases z;exact hb rfl
end
structure Un(fs ex:List Addr)(H H':Hp)(h h':Heap):Prop where
 keep:∀b o,h.get? b=some o->H b=none->b∉fs->b∉ex->h'.get? b=some o
 slot:∀b o,h.get? b=some o->H b=none->b∈fs->b∉ex->∃sl,h'.get? b=some { o with slots:=sl }
 free:∀b o,h.get? b=some o->H b=none->b∉ex->H' b=none
 there:∀b o,h.get? b=some o->b∉ex->∃o',h'.get? b=some o'
 tups:∀b xs,H b=some (.tup xs)->H' b=some (.tup xs)
 frzs:∀b o u,H b=some (.frz o u)->H' b=some (.frz o u)
 tbls:∀b ps,H b=some (.tbl ps)->∃more,H' b=some (.tbl (ps++more))
section
variable {fs fs' ex ex':List Addr} {H H1 H2:Hp} {h h1 h2 h':Heap} {a x e:Addr} {o:HO}
theorem Un.any(u:Un fs ex H H1 h h1){b:Addr}{ob:Obj}(q:h.get? b=some ob)(n:H b=none)(hx:b∉ex):∃sl,h1.get? b=some { ob with slots:=sl }:=by
 by_cases hb:b∈fs
 ·exact u.slot b ob q n hb hx
 ·exact⟨ob.slots,u.keep b ob q n hb hx⟩
theorem Un.kept(k:∀b u,h.get? b=some u->h'.get? b=some u):Un fs ex H H h h':=
 ⟨fun b ob q _ _ _=>k b ob q,fun b ob q _ _ _=>⟨ob.slots,k b ob q⟩,fun _ _ _ n _=>n,fun b ob q _=>⟨ob,k b ob q⟩,fun _ _ q=>q,fun _ _ _ q=>q,fun _ ps q=>⟨#[],by rw[q];simp⟩⟩
theorem Un.refl:Un fs ex H H h h:=Un.kept fun _ _ q=>q
theorem Un.laid(k:∀b u,h.get? b=some u->h'.get? b=some u)(hp:h.objs.size<=a)(hn:H a=none):Un fs ex H (upd H a o) h h' where
 keep:=fun b u q _ _ _=>k b u q
 slot:=fun b u q _ _ _=>⟨u.slots,k b u q⟩
 free:=fun b u q n _=>by rw[aG (Nat.ne_of_lt (Nat.lt_of_lt_of_le (Heap.lt_size q) hp))];exact n
 there:=fun b u q _=>⟨u,k b u q⟩
 tups:=fun b xs q=>by rw[aG (cj q hn)];exact q
 frzs:=fun b u xs q=>by rw[aG (cj q hn)];exact q
 tbls:=fun b ps q=>⟨#[],by rw[aG (cj q hn),q];simp⟩
theorem Un.write(mu:gX (H x))(he:e=x\/H e=some (.own x))(k:∀b u,b≠e->h.get? b=some u->h'.get? b=some u)(heo:∃u,h'.get? e=some u):Un fs ex H (upd H x o) h h':=by
 have hx:∀b,H b=none->b≠x:=fun b n z=>by subst z;rw[n]at mu;exact mu
 have hb:∀b,H b=none->b≠e:=fun b n z=>by
  subst z
  rcases he with r | r
  ·exact hx b n r
  ·rw[n]at r;cases r
 have hm:∀b u,H b=some u->¬gX (some u)->b≠x:=fun b u q nm z=>by subst z;rw[q]at mu;exact nm mu
 refine⟨fun b u q n _ _=>k b u (hb b n) q,fun b u q n _ _=>⟨u.slots,k b u (hb b n) q⟩,fun b u q n _=>by rw[aG (hx b n)];exact n,fun b u q _=>?_,
  fun b xs q=>by rw[aG (hm b _ q fun z=>z)];exact q,fun b u xs q=>by rw[aG (hm b _ q fun z=>z)];exact q,fun b ps q=>⟨#[],by rw[aG (hm b _ q fun z=>z),q];simp⟩⟩
 by_cases hbe:b=e
 ·subst hbe;exact heo
 ·exact⟨u,k b u hbe q⟩
end
def kh(h:Heap)(H:Hp):List Addr:=(List.range h.objs.size).filter fun a=>(H a).isSome
def eI(h:Heap)(H:Hp):Heap:=PySem.W.hideAll h (kh h H)
theorem xN(h:Heap)(H:Hp):(eI h H).objs.size=h.objs.size:=PySem.W.hideAll_size _ _
theorem Ce{h:Heap}{H:Hp}{b:Addr}{o:Obj}(e:h.get? b=some o)(n:H b=none):(eI h H).get? b=some o:=
 PySem.W.hideAll_get _ e fun hm=>by
  have q:(H b).isSome=true:=(List.mem_filter.mp hm).2
  rw[n]at q;simp at q
theorem yq{h:Heap}{H:Hp}{b:Addr}{o:Obj}(e:(eI h H).get? b=some o):h.get? b=some o/\H b=none:=by
 have e':h.get? b=some o:=PySem.W.of_hideAll (kh h H) e
 refine⟨e',?_⟩
 cases q:H b with
 | none=>rfl
 | some x=>
  have hm:b∈kh h H:=List.mem_filter.mpr ⟨List.mem_range.mpr (Heap.lt_size e'),by simp[q]⟩
  have z:(eI h H).get? b=none:=PySem.W.hideAll_none (kh h H) hm
  rw[z]at e;cases e
end L2
namespace L2
open PySem PySem.Spec PyProof.Rows
structure Mod(K:PySem.W.Frag)(mg:Str->Option Value)(base:Heap):Prop where
 kin:K.In base
 glob:base.Ns mainGlobals mg
 blt:∃mb,base.Ns builtinsNs mb/\∀x:Str,x≠"__name__"->mb x=bootBuiltins x
 nolimit:base.NoLimit
structure Cx where
 prog:Program
 w:World
 K:PySem.W.Frag
 mg:Str->Option Value
 base:Heap
 A:Around
 N:List Str
 s₀:Shared
 H₀:Hp
 env:Env
 outer:List Env
 stack:List Env
 ex:List Addr
 fn:Str->Bool
 calm:Bool
 pn:List (Addr×Obj)
 xe:Value->Shared->Prop
def cP(l:List Env):List Addr:=l.filterMap (·.frame)
abbrev Cx.fs(X:Cx):List Addr:=cP X.outer
def i3(sc:Scope)(x:Str):Prop:=sc.names.lookup x=some .local\/sc.names.lookup x=some .cell\/sc.names.lookup x=some .free
def Loc(sc:Scope)(x:Str):Prop:=sc.names.lookup x=some .local\/sc.names.lookup x=some .cell
def Look(env:Env)(h:Heap)(m:Str->Option Value)(x:Str)(u:Value):Prop:=
 (env.kindOf x=some .local/\m x=some u)\/((env.kindOf x=some .cell\/env.kindOf x=some .free)/\∃c,env.cells.lookup x=some c/\h.IsCell c (some u))
structure Cx.Ok(X:Cx):Prop where
 mod:Mod X.K X.mg X.base
 kind:X.env.scope.kind=.function
 glob:X.env.globals=mainGlobals
 blt:X.env.builtins=builtinsNs
 above:X.s₀.heap.objs.size<=X.env.locals
 inj:∀x y c,X.env.cells.lookup x=some c->X.env.cells.lookup y=some c->x=y
 has:∀x,(X.env.kindOf x=some .cell\/X.env.kindOf x=some .free)->∃c,X.env.cells.lookup x=some c
 cab:∀x c,X.fn x=true->X.env.cells.lookup x=some c->X.s₀.heap.objs.size<=c
 hd:X.calm=true->X.A.handled=none
 frames:X.A.frames=some X.stack
 stk:X.stack=X.outer\/(X.stack=X.env::X.outer/\X.env.frame=some X.env.locals)
 exf:∀b∈X.ex,b≠X.env.locals/\∀x c,X.env.cells.lookup x=some c->c≠b
 bs:∀b o,X.base.get? b=some o->X.s₀.heap.get? b=some o/\X.H₀ b=none
 bsz:X.base.objs.size<=X.s₀.heap.objs.size
 noex:∀b o,X.base.get? b=some o->b∉X.ex
 exfs:∀b∈X.ex,b∉X.fs
 funs:X.s₀.heap.FunFrames X.base X.outer
 frf:∀b∈X.fs,X.H₀ b=none
structure Inv(X:Cx)(pins:List (Addr×Obj))(σ:List (Option V))(H:Hp)(s:Shared):Prop where
 ok:X.Ok
 os:s.os=X.s₀.os
 bare:AllBare s.gens
 base:Un X.fs X.ex X.H₀ H X.s₀.heap s.heap
 loc:∃m,s.heap.Ns X.env.locals m/\∀(i:Nat) (x:Str) (v:V),X.N[i]?=some x->σ[i]?=some (some v)->i3 X.env.scope x->∃u,RelV v u/\Look X.env s.heap m x u
 cell:∀x c,X.env.cells.lookup x=some c->∃v,s.heap.IsCell c v
 free:H X.env.locals=none
 freeC:∀x c,X.env.cells.lookup x=some c->H c=none
 pin:∀p∈X.pn++pins,s.heap.get? p.1=some p.2/\H p.1=none/\p.1≠X.env.locals/\p.1∉X.fs/\∀v,p.2.data≠.cell v
 hok:br X.prog X.w H s.heap
 len:σ.length=X.N.length
section
variable {X:Cx} {pins:List (Addr×Obj)} {σ:List (Option V)} {H H':Hp} {s:Shared} {h':Heap}
theorem Cx.Ok.nofr(ok:X.Ok){b:Addr}{o:Obj}(e:X.base.get? b=some o):b∉X.fs:=fun hb=>by
 have:=(ok.funs.mem hb).1
 rw[e]at this;cases this
theorem Inv.bs(I:Inv X pins σ H s):∀b o,X.base.get? b=some o->s.heap.get? b=some o/\H b=none:=fun b o e=>
 ⟨I.base.keep b o (I.ok.bs b o e).1 (I.ok.bs b o e).2 (I.ok.nofr e) (I.ok.noex b o e),I.base.free b o (I.ok.bs b o e).1 (I.ok.bs b o e).2 (I.ok.noex b o e)⟩
theorem Inv.bk(I:Inv X pins σ H s):∀b o,X.base.get? b=some o->s.heap.get? b=some o:=fun b o e=>(I.bs b o e).1
theorem Inv.mod(I:Inv X pins σ H s):Mod X.K X.mg X.base:=I.ok.mod
theorem Inv.kIn(I:Inv X pins σ H s):X.K.In s.heap:=I.ok.mod.kin.keeps I.bk
theorem Inv.lt(I:Inv X pins σ H s):X.env.locals<s.heap.objs.size:=let ⟨_,hn,_⟩:=I.loc;hn.lt
theorem Inv.sz(I:Inv X pins σ H s):X.s₀.heap.objs.size<=s.heap.objs.size:=Nat.le_trans I.ok.above (Nat.le_of_lt I.lt)
theorem Inv.nofs(I:Inv X pins σ H s){a:Addr}(h:s.heap.objs.size<=a):a∉X.fs:=fun hb=>by
 obtain⟨_,o,ho,_⟩:=I.ok.funs.mem hb
 exact absurd (Nat.lt_of_lt_of_le (Heap.lt_size ho) (Nat.le_trans I.sz h)) (Nat.lt_irrefl _)
theorem Inv.cne(I:Inv X pins σ H s):∀x c,X.env.cells.lookup x=some c->c≠X.env.locals:=fun x c e z=>by
 obtain⟨v,o,ho,hd⟩:=I.cell x c e
 obtain⟨m,⟨o',es,ep,ho',hd',_⟩,_⟩:=I.loc
 rw[z,ho']at ho;cases ho;rw[hd']at hd;cases hd
theorem Inv.funs(I:Inv X pins σ H s):s.heap.FunFrames X.base X.outer:=by
 have all:∀(l:List Env),(∀b∈cP l,b∈X.fs)->X.s₀.heap.FunFrames X.base l->s.heap.FunFrames X.base l:=by
  intro l
  induction l with
  | nil=>intro _ _;trivial
  | cons env r ih=>
   intro hs hl
   obtain⟨hk,⟨L,o,hf,hn,ho,hd⟩,hr⟩:=hl
   have hL:L∈X.fs:=hs L (by unfold cP;rw[List.filterMap_cons,hf];exact List.mem_cons_self)
   obtain⟨sl,e⟩:=I.base.slot L o ho (I.ok.frf L hL) hL fun z=>I.ok.exfs L z hL
   exact⟨hk,⟨L,_,hf,hn,e,hd⟩,ih (fun b hb=>hs b (by unfold cP;rw[List.filterMap_cons,hf];exact List.mem_cons_of_mem _ hb)) hr⟩
 exact all X.outer (fun _ hb=>hb) I.ok.funs
theorem Inv.stack(I:Inv X pins σ H s):s.heap.FunFrames X.base X.stack:=by
 rcases I.ok.stk with e | ⟨e,hf⟩
 ·rw[e];exact I.funs
 ·rw[e]
  obtain⟨m,hn,_⟩:=I.loc
  refine .cons (by rw[I.ok.kind];decide) hf hn ?_ I.funs
  exact Heap.get?_none_of_le (Nat.le_trans I.ok.bsz I.ok.above)
theorem Inv.stkSub(I:Inv X pins σ H s):∀b∈cP X.stack,b∈X.env.locals::X.fs:=fun b hb=>by
 rcases I.ok.stk with e | ⟨e,hf⟩
 ·rw[e]at hb;exact List.mem_cons_of_mem _ hb
 ·rw[e]at hb
  unfold cP at hb
  rw[List.filterMap_cons,hf]at hb
  exact hb
theorem Inv.stkFree(I:Inv X pins σ H s):∀b∈cP X.stack,H b=none:=fun b hb=>by
 rcases List.mem_cons.mp (I.stkSub b hb)with e | hb
 ·rw[e];exact I.free
 ·obtain⟨_,o,ho,_⟩:=I.ok.funs.mem hb
  exact I.base.free b o ho (I.ok.frf b hb) fun z=>I.ok.exfs b z hb
theorem Inv.step{g':Array GenState}{t':Nat}{d':Drawn}{ch:List Addr}(I:Inv X pins σ H s)
  (hch:∀b∈ch,(b∈X.ex\/X.s₀.heap.objs.size<=b)/\b≠X.env.locals/\(∀x c,X.env.cells.lookup x=some c->c≠b)/\∀p∈X.pn++pins,p.1≠b)
  (keep:∀b o,b≠X.env.locals->b∉X.fs->b∉ch->s.heap.get? b=some o->H b=none->h'.get? b=some o)
  (slot:∀b o,b≠X.env.locals->b∈X.fs->b∉ch->s.heap.get? b=some o->H b=none->∃sl,h'.get? b=some { o with slots:=sl }) (free:∀b o,b∉ch->s.heap.get? b=some o->H b=none->H' b=none)
  (there:∀b o,b∉ch->s.heap.get? b=some o->∃o',h'.get? b=some o')
  (tups:∀b xs,H b=some (.tup xs)->H' b=some (.tup xs)) (frzs:∀b o u,H b=some (.frz o u)->H' b=some (.frz o u)) (tbls:∀b ps,H b=some (.tbl ps)->∃more,H' b=some (.tbl (ps++more)))
  (ns:∀m,s.heap.Ns X.env.locals m->h'.Ns X.env.locals m) (hok:br X.prog X.w H' h') (hg:AllBare g') :
  Inv X pins σ H' { s with heap:=h',gens:=g',drawn:=d',toks:=t' }:=by
 have neL:∀b o,X.s₀.heap.get? b=some o->b≠X.env.locals:=fun b o e=>Nat.ne_of_lt (Nat.lt_of_lt_of_le (Heap.lt_size e) I.ok.above)
 have neC:∀b o,X.s₀.heap.get? b=some o->b∉X.ex->b∉ch:=fun b o e hx hb=>by
  rcases(hch b hb).1 with z | z
  ·exact hx z
  ·exact absurd (Nat.lt_of_lt_of_le (Heap.lt_size e) z) (Nat.lt_irrefl _)
 have cellK:∀x c,X.env.cells.lookup x=some c->∀v,s.heap.IsCell c v->h'.IsCell c v:=fun x c e v ⟨o,ho,hd⟩=>by
  have nch:c∉ch:=fun z=>(hch c z).2.2.1 x c e rfl
  by_cases hc:c∈X.fs
  ·obtain⟨sl,q⟩:=slot c o (I.cne x c e) hc nch ho (I.freeC x c e)
   exact⟨_,q,hd⟩
  ·exact⟨o,keep c o (I.cne x c e) hc nch ho (I.freeC x c e),hd⟩
 refine⟨I.ok,I.os,hg,⟨fun b o e n hb hx=>?_,fun b o e n hb hx=>?_,fun b o e n hx=>?_,fun b o e hx=>?_,fun b xs e=>tups b xs (I.base.tups b xs e),fun b o xs e=>frzs b o xs (I.base.frzs b o xs e),fun b ps e=>?_⟩,?_,fun x c e=>?_,?_,fun x c e=>?_,fun p hp=>?_,hok,I.len⟩
 ·exact keep b o (neL b o e) hb (neC b o e hx) (I.base.keep b o e n hb hx) (I.base.free b o e n hx)
 ·obtain⟨sl,e1⟩:=I.base.slot b o e n hb hx
  obtain⟨sl',e2⟩:=slot b _ (neL b o e) hb (neC b o e hx) e1 (I.base.free b o e n hx)
  exact⟨sl',e2⟩
 ·obtain⟨o',e1⟩:=I.base.there b o e hx
  exact free b o' (neC b o e hx) e1 (I.base.free b o e n hx)
 ·obtain⟨o',e1⟩:=I.base.there b o e hx
  exact there b o' (neC b o e hx) e1
 ·obtain⟨m1,e1⟩:=I.base.tbls b ps e
  obtain⟨m2,e2⟩:=tbls b _ e1
  exact⟨m1++m2,by rw[e2,Array.append_assoc]⟩
 ·obtain⟨m,hn,hl⟩:=I.loc
  refine⟨m,ns m hn,fun i x v e1 e2 e3=>?_⟩
  obtain⟨u,r,l⟩:=hl i x v e1 e2 e3
  refine⟨u,r,?_⟩
  rcases l with l | ⟨k,c,e,z⟩
  ·exact .inl l
  ·exact .inr ⟨k,c,e,cellK x c e _ z⟩
 ·obtain⟨v,z⟩:=I.cell x c e
  exact⟨v,cellK x c e v z⟩
 ·obtain⟨m,⟨o,_,_,ho,_⟩,_⟩:=I.loc
  exact free _ o (fun z=>(hch _ z).2.1 rfl) ho I.free
 ·obtain⟨v,o,ho,hd⟩:=I.cell x c e
  exact free c o (fun z=>(hch c z).2.2.1 x c e rfl) ho (I.freeC x c e)
 ·obtain⟨e,n,ne,nf,d⟩:=I.pin p hp
  have nch:p.1∉ch:=fun z=>(hch p.1 z).2.2.2 p hp rfl
  exact⟨keep p.1 p.2 ne nf nch e n,free p.1 p.2 nch e n,ne,nf,d⟩
theorem Inv.un{t':Nat}(I:Inv X pins σ H s)(u:Un X.fs [] H H' s.heap h')(hok:br X.prog X.w H' h'):Inv X pins σ H' { s with heap:=h',toks:=t' }:=by
 obtain⟨m,⟨o,es,ep,ho,r⟩,_⟩:=id I.loc
 obtain⟨sl,hL⟩:=u.any ho I.free (by simp)
 exact I.step (g':=s.gens) (d':=s.drawn) (ch:=[]) (fun _ z=>nomatch z) (fun b o _ hb _ e n=>u.keep b o e n hb (by simp)) (fun b o _ hb _ e n=>u.slot b o e n hb (by simp)) (fun b o _ e n=>u.free b o e n (by simp)) (fun b o _ e=>u.there b o e (by simp)) u.tups u.frzs u.tbls (fun m' hm=>by
  obtain⟨o',es',ep',ho',r'⟩:=hm
  rw[ho]at ho';cases ho'
  exact⟨_,es',ep',hL,r'⟩) hok I.bare
theorem Inv.call{g':Array GenState}{t':Nat}{d':Drawn}{ch:List Addr}(I:Inv X pins σ H s)(u:Un (cP X.stack) ch H H' s.heap h')(hok:br X.prog X.w H' h')(hg:AllBare g')
  (hch:∀b∈ch,(b∈X.ex\/X.s₀.heap.objs.size<=b)/\b≠X.env.locals/\(∀x c,X.env.cells.lookup x=some c->c≠b)/\∀p∈X.pn++pins,p.1≠b) :
  Inv X pins σ H' { s with heap:=h',gens:=g',drawn:=d',toks:=t' }:=by
 obtain⟨m,⟨o,es,ep,ho,r⟩,_⟩:=id I.loc
 obtain⟨sl,hL⟩:=u.any ho I.free fun z=>(hch _ z).2.1 rfl
 exact I.step (ch:=ch) hch (fun b o hL hb hc e n=>u.keep b o e n (fun z=>(List.mem_cons.mp (I.stkSub b z)).elim hL hb) hc) (fun b o _ _ hc e n=>u.any e n hc) (fun b o hc e n=>u.free b o e n hc) (fun b o hc e=>u.there b o e hc) u.tups u.frzs u.tbls (fun m' hm=>by
  obtain⟨o',es',ep',ho',r'⟩:=hm
  rw[ho]at ho';cases ho'
  exact⟨_,es',ep',hL,r'⟩) hok hg
theorem Inv.turned{t':Nat}{it:Addr}(I:Inv X pins σ H s)(k:∀b o,b≠it->s.heap.get? b=some o->h'.get? b=some o)(hn:H it=none)(hL:it≠X.env.locals)
  (h1:it∈X.ex\/X.s₀.heap.objs.size<=it) (h2:∀x c,X.env.cells.lookup x=some c->c≠it) (h3:∀p∈X.pn++pins,p.1≠it):Inv X pins σ H { s with heap:=h',toks:=t' }:=by
 have nit:∀b u,H b=some u->b≠it:=fun b u e z=>by rw[z,hn]at e;cases e
 refine I.step (g':=s.gens) (d':=s.drawn) (ch:=[it]) (fun b hb=>?_) (fun b o _ _ hc e _=>k b o (fun z=>hc (by simp[z])) e) (fun b o _ _ hc e _=>⟨o.slots,k b o (fun z=>hc (by simp[z])) e⟩) (fun _ _ _ _ n=>n)
  (fun b o hc e=>⟨o,k b o (fun z=>hc (by simp[z])) e⟩) (fun _ _ e=>e) (fun _ _ _ e=>e) (fun b ps e=>⟨#[],by rw[e];simp⟩) (fun m hm=>?_) (fun b u e=>?_) I.bare
 ·have e:b=it:=by simpa using hb
  subst e
  exact⟨h1,hL,h2,h3⟩
 ·obtain⟨o,es,ep,ho,r⟩:=hm
  exact⟨o,es,ep,k _ o (Ne.symm hL) ho,r⟩
 ·refine(I.hok b u e).stay (fun c v hc q=>k c v ?_ q) (fun _ q=>q) fun _ _ q=>q
  rcases hc with z | z
  ·rw[z];exact nit b u e
  ·exact nit c _ z
theorem Inv.tok(I:Inv X pins σ H s)(t:Nat):Inv X pins σ H { s with toks:=t }:=I.un (h':=s.heap) (t':=t) Un.refl I.hok
theorem Inv.kept{t':Nat}(I:Inv X pins σ H s)(k:∀b u,s.heap.get? b=some u->h'.get? b=some u):Inv X pins σ H { s with heap:=h',toks:=t' }:=I.un (Un.kept k) (I.hok.kept k)
theorem Inv.laid{a:Addr}{o:HO}{t':Nat}(I:Inv X pins σ H s)(k:∀b u,s.heap.get? b=some u->h'.get? b=some u)(hp:s.heap.objs.size<=a)(new:bA X.prog X.w (upd H a o) h' a o):
  Inv X pins σ (upd H a o) { s with heap:=h',toks:=t' }:=I.un (Un.laid k hp (I.hok.fresh hp)) (I.hok.laid k hp new)
theorem Inv.write{x e:Addr}{o:HO}{t':Nat}(I:Inv X pins σ H s)(mu:gX (H x))(he:e=x\/H e=some (.own x))(k:∀b u,b≠e->s.heap.get? b=some u->h'.get? b=some u)(heo:∃u,h'.get? e=some u)
  (new:bA X.prog X.w (upd H x o) h' x o):Inv X pins σ (upd H x o) { s with heap:=h',toks:=t' }:=I.un (Un.write mu he k heo) (I.hok.write mu he k heo new)
theorem Inv.pins_of{pins':List (Addr×Obj)}(I:Inv X pins σ H s)(h:∀p∈pins',s.heap.get? p.1=some p.2/\H p.1=none/\p.1≠X.env.locals/\p.1∉X.fs/\∀v,p.2.data≠.cell v):Inv X pins' σ H s:=
 ⟨I.ok,I.os,I.bare,I.base,I.loc,I.cell,I.free,I.freeC,fun p hp=>(List.mem_append.mp hp).elim (fun z=>I.pin p (List.mem_append_left _ z)) (h p),I.hok,I.len⟩
theorem uo{N:List Str}(hN:N.Nodup){i j:Nat}{x:Str}(a:N[i]?=some x)(b:N[j]?=some x):i=j:=by
 obtain⟨h1,e1⟩:=List.getElem?_eq_some_iff.mp a
 obtain⟨h2,e2⟩:=List.getElem?_eq_some_iff.mp b
 exact(List.getElem_inj hN).mp (e1.trans e2.symm)
theorem sf{M:Model}{A:Around}{E:Value->Shared->Prop}{i:Nat}{x:Str}{v:V}{u:Value}{Q:Unit->Shared->Prop}(I:Inv X pins σ H s)(hN:X.N.Nodup)(hi:X.N[i]?=some x)(hx:Loc X.env.scope x)(r:RelV v u)
  (h:∀s',Inv X pins (σ.set i (some v)) H s'->(∃a,Heap.SameBut a s.heap s'.heap/\(a=X.env.locals\/X.env.cells.lookup x=some a))->Q () s') (hf:X.fn x=true\/X.env.scope.names.lookup x=some .local:=by first | exact .inl rfl | exact .inr rfl | assumption):wpAny M A (storeName X.env x u) Q E s:=by
 obtain⟨m,hn,hl⟩:=id I.loc
 have hcls:(X.env.scope.kind == .class || (X.env.scope.kind == .module && X.env.locals != X.env.globals))=false:=by rw[I.ok.kind];rfl
 have hiσ:i<σ.length:=by rw[I.len];exact(List.getElem?_eq_some_iff.mp hi).1
 have cne:=I.cne
 have tracked:∀{a:Addr} {h':Heap},(∃o,s.heap.get? a=some o/\H a=none)->Heap.SameBut a s.heap h'->br X.prog X.w H h':=fun{a h'} ha hs b ob e=>by
  obtain⟨_,_,hfree⟩:=ha
  refine(I.hok b ob e).stay (fun c w' hc q=>(hs.2 c ?_).trans q) (fun _ q=>q) fun _ _ q=>q
  rintro rfl
  rcases hc with rfl | hc
  ·rw[hfree]at e;cases e
  ·rw[hfree]at hc;cases hc
 rcases hx with hk | hk
 ·refine wpAny_storeName_local hk hn (fun h' hn' hs=>?_) hcls
  obtain⟨oL,_,_,hoL,_⟩:=id hn
  refine h _ ⟨I.ok,I.os,I.bare,⟨fun b o e n hb hx=>?_,fun b o e n hb hx=>?_,I.base.free,fun b o e hx=>?_,I.base.tups,I.base.frzs,I.base.tbls⟩,⟨_,hn',fun j y v' e1 e2 e3=>?_⟩,fun y c e=>?_,I.free,I.freeC,fun p hp=>?_,tracked ⟨oL,hoL,I.free⟩ hs,by simpa using I.len⟩ ⟨_,hs,.inl rfl⟩
  ·exact(hs.2 b (Nat.ne_of_lt (Nat.lt_of_lt_of_le (Heap.lt_size e) I.ok.above))).trans (I.base.keep b o e n hb hx)
  ·obtain⟨sl,e1⟩:=I.base.slot b o e n hb hx
   exact⟨sl,(hs.2 b (Nat.ne_of_lt (Nat.lt_of_lt_of_le (Heap.lt_size e) I.ok.above))).trans e1⟩
  ·obtain⟨o',e1⟩:=I.base.there b o e hx
   exact⟨o',(hs.2 b (Nat.ne_of_lt (Nat.lt_of_lt_of_le (Heap.lt_size e) I.ok.above))).trans e1⟩
  ·by_cases hj:j=i
   ·subst hj
    rw[hi]at e1;cases e1
    rw[List.getElem?_set_self hiσ]at e2
    cases e2
    exact⟨u,r,.inl ⟨hk,by simp⟩⟩
   ·rw[List.getElem?_set_ne (Ne.symm hj)]at e2
    obtain⟨u',r',q⟩:=hl j y v' e1 e2 e3
    refine⟨u',r',?_⟩
    rcases q with⟨k,e⟩ | ⟨k,c,e,z⟩
    ·refine .inl ⟨k,?_⟩
     have:y≠x:=fun e=>hj (uo hN e1 (e ▸ hi))
     simp[this,e]
    ·exact .inr ⟨k,c,e,z.sameBut hs (cne y c e)⟩
  ·obtain⟨w',z⟩:=I.cell y c e
   exact⟨w',z.sameBut hs (cne y c e)⟩
  ·obtain⟨e,n,ne,nf,d⟩:=I.pin p hp
   exact⟨(hs.2 p.1 ne).trans e,n,ne,nf,d⟩
 ·have hfn:X.fn x=true:=by
   rcases hf with z | z
   ·exact z
   ·rw[z]at hk;cases hk
  obtain⟨c,hc⟩:=I.ok.has x (.inl hk)
  obtain⟨w',z⟩:=I.cell x c hc
  refine wpAny_storeName_cell I.ok.kind hk hc z (fun h' hc' hs=>?_)
  obtain⟨oc,hoc,hocd⟩:=id z
  refine h { s with heap:=h' } ⟨I.ok,I.os,I.bare,⟨fun b o e n hb hx=>?_,fun b o e n hb hx=>?_,I.base.free,fun b o e hx=>?_,I.base.tups,I.base.frzs,I.base.tbls⟩,⟨m,hn.sameBut hs (Ne.symm (cne x c hc)),fun j y v' e1 e2 e3=>?_⟩,fun y c' e=>?_,I.free,I.freeC,fun p hp=>?_,tracked ⟨oc,hoc,I.freeC x c hc⟩ hs,by simpa using I.len⟩ ⟨c,hs,.inr hc⟩
  ·exact(hs.2 b (Nat.ne_of_lt (Nat.lt_of_lt_of_le (Heap.lt_size e) (I.ok.cab x c hfn hc)))).trans (I.base.keep b o e n hb hx)
  ·obtain⟨sl,e1⟩:=I.base.slot b o e n hb hx
   exact⟨sl,(hs.2 b (Nat.ne_of_lt (Nat.lt_of_lt_of_le (Heap.lt_size e) (I.ok.cab x c hfn hc)))).trans e1⟩
  ·obtain⟨o',e1⟩:=I.base.there b o e hx
   exact⟨o',(hs.2 b (Nat.ne_of_lt (Nat.lt_of_lt_of_le (Heap.lt_size e) (I.ok.cab x c hfn hc)))).trans e1⟩
  ·by_cases hj:j=i
   ·subst hj
    rw[hi]at e1;cases e1
    rw[List.getElem?_set_self hiσ]at e2
    cases e2
    exact⟨u,r,.inr ⟨.inl hk,c,hc,hc'⟩⟩
   ·rw[List.getElem?_set_ne (Ne.symm hj)]at e2
    obtain⟨u',r',q⟩:=hl j y v' e1 e2 e3
    refine⟨u',r',?_⟩
    rcases q with q | ⟨k,c',e,z'⟩
    ·exact .inl q
    ·refine .inr ⟨k,c',e,z'.sameBut hs ?_⟩
     rintro rfl
     exact hj (uo hN e1 (I.ok.inj _ _ _ e hc ▸ hi))
  ·by_cases hcc:c'=c
   ·subst hcc;exact⟨_,hc'⟩
   ·obtain⟨w2,z2⟩:=I.cell y c' e
    exact⟨w2,z2.sameBut hs hcc⟩
  ·obtain⟨e,n,ne,nf,d⟩:=I.pin p hp
   refine⟨(hs.2 p.1 ?_).trans e,n,ne,nf,d⟩
   intro q
   rw[q,hoc]at e
   have q':oc=p.2:=Option.some.inj e
   exact d w' (by rw[←q'];exact hocd)
theorem h8{M:Model}{A:Around}{E:Value->Shared->Prop}{i:Nat}{x:Str}{v:V}{u:Value}{Q:Unit->Shared->Prop}(I:Inv X pins σ H s)(hN:X.N.Nodup)(hi:X.N[i]?=some x)(hx:Loc X.env.scope x)(r:RelV v u)
  (h:∀s',Inv X pins (σ.set i (some v)) H s'->Q () s') (hf:X.fn x=true\/X.env.scope.names.lookup x=some .local:=by first | exact .inl rfl | exact .inr rfl | assumption):wpAny M A (storeName X.env x u) Q E s:=
 sf I hN hi hx r (fun s' I' _=>h s' I') hf
theorem Inv.call'{s':Shared}{ch:List Addr}(I:Inv X pins σ H s)(ho:s'.os=s.os)(u:Un (cP X.stack) ch H H' s.heap s'.heap)(hok:br X.prog X.w H' s'.heap)(hg:AllBare s'.gens)
  (hch:∀b∈ch,(b∈X.ex\/X.s₀.heap.objs.size<=b)/\b≠X.env.locals/\(∀x c,X.env.cells.lookup x=some c->c≠b)/\∀p∈X.pn++pins,p.1≠b):Inv X pins σ H' s':=by
 obtain⟨h',g',d',t',o'⟩:=s'
 have e:o'=s.os:=ho
 subst e
 exact I.call (g':=g') (t':=t') (d':=d') u hok hg hch
end
abbrev XK:=Value->Option Addr->Hp->Prop
abbrev St:=List (Option V)
abbrev VK:=V->Hp->Prop
abbrev TE:=St->Hp->VK->Prop
abbrev TT:=St->Hp->(Bool->Hp->Prop)->Prop
abbrev TA:=St->Hp->(List V->Hp->Prop)->Prop
structure Ends where
 nx:St->Hp->Prop
 rt:VK
 bk:St->Hp->Prop:=fun _ _=>False
 ct:St->Hp->Prop:=fun _ _=>False
abbrev TS:=Ends->St->Hp->Prop
def EP(X:Cx)(pins:List (Addr×Obj))(σ:St)(Q:VK)(u:Value)(s':Shared):Prop:=∃v H',Inv X pins σ H' s'/\RelV v u/\Q v H'
def TP(X:Cx)(pins:List (Addr×Obj))(σ:St)(Q:Bool->Hp->Prop)(b:Bool)(s':Shared):Prop:=∃H',Inv X pins σ H' s'/\Q b H'
def AP(X:Cx)(pins:List (Addr×Obj))(σ:St)(Q:List V->Hp->Prop)(us:List Value)(s':Shared):Prop:=∃vs H',Inv X pins σ H' s'/\Vals vs us/\Q vs H'
def SP(X:Cx)(pins:List (Addr×Obj))(D:Ends)(f:Flow)(s':Shared):Prop:=
 match f with
 | .next=>∃σ' H',Inv X pins σ' H' s'/\D.nx σ' H'
 | .brk=>∃σ' H',Inv X pins σ' H' s'/\D.bk σ' H'
 | .cont=>∃σ' H',Inv X pins σ' H' s'/\D.ct σ' H'
 | .ret u=>∃v σ' H',Inv X pins σ' H' s'/\RelV v u/\D.rt v H'
def PE(X:Cx)(e:Expr)(t:TE):Prop:=
 ∀(pins:List (Addr×Obj)) (s:Shared) (σ:St) (H:Hp) (Q:VK),Inv X pins σ H s->t σ H Q->wpAny (model X.prog X.w) X.A (eval e X.env) (EP X pins σ Q) X.xe s
def PT(X:Cx)(e:Expr)(t:TT):Prop:=
 ∀(pins:List (Addr×Obj)) (s:Shared) (σ:St) (H:Hp) (Q:Bool->Hp->Prop),Inv X pins σ H s->t σ H Q->wpAny (model X.prog X.w) X.A (isTrue e X.env (eval e X.env)) (TP X pins σ Q) X.xe s
def PW(X:Cx)(e:Expr)(t:TT):Prop:=
 ∀(whole:Sem Value) (pins:List (Addr×Obj)) (s:Shared) (σ:St) (H:Hp) (Q:Bool->Hp->Prop),Inv X pins σ H s->t σ H Q->wpAny (model X.prog X.w) X.A (isTrue e X.env whole) (TP X pins σ Q) X.xe s
theorem PW.pt{X:Cx}{e:Expr}{t:TT}(h:PW X e t):PT X e t:=h _
def PA(X:Cx)(es:List Expr)(t:TA):Prop:=
 ∀(pos:Pos) (pins:List (Addr×Obj)) (s:Shared) (σ:St) (H:Hp) (Q:List V->Hp->Prop),Inv X pins σ H s->t σ H Q->wpAny (model X.prog X.w) X.A (spliced (backTo pos (starEach es X.env))) (AP X pins σ Q) X.xe s
def PS(X:Cx)(st:Stmt)(t:TS):Prop:=
 ∀(pins:List (Addr×Obj)) (s:Shared) (σ:St) (H:Hp) (D:Ends),Inv X pins σ H s->t D σ H->wpAny (model X.prog X.w) X.A (exec st X.env) (SP X pins D) X.xe s
def cn(X:Cx)(st:List Stmt)(t:TS):Prop:=
 ∀(pins:List (Addr×Obj)) (s:Shared) (σ:St) (H:Hp) (D:Ends),Inv X pins σ H s->t D σ H->wpAny (model X.prog X.w) X.A (execs st X.env) (SP X pins D) X.xe s
theorem aq{α:Type}{t:Sem α}{Q Q':α->Shared->Prop}{M:Model}{A:Around}{E:Value->Shared->Prop}{s:Shared}(h:wpAny M A t Q E s)(hQ:∀a s,Q a s->Q' a s):wpAny M A t Q' E s:=wpAny_mono h hQ fun _ _ x=>x
end L2
namespace L2
open PySem PySem.Spec PyProof.Rows
section
variable {X:Cx}
theorem bin{a b:Expr}{ta tb:TE}(ha:PE X a ta)(hb:PE X b tb){pins:List (Addr×Obj)}{s:Shared}{σ:St}{H:Hp}{R:V->V->Hp->Prop}(I:Inv X pins σ H s)(h:ta σ H fun x H1=>tb σ H1 fun y H2=>R x y H2)
  {α:Type} {Q:α->Shared->Prop} {f:Value->Value->Sem α}
  (hf:∀v u s2 x y H2,Inv X pins σ H2 s2->RelV x v->RelV y u->R x y H2->wpAny (model X.prog X.w) X.A (f v u) Q X.xe s2) :
  wpAny (model X.prog X.w) X.A (eval a X.env) (fun v s₁=>wpAny (model X.prog X.w) X.A (eval b X.env) (fun u s₂=>wpAny (model X.prog X.w) X.A (f v u) Q X.xe s₂) X.xe s₁) X.xe s:=by
 refine aq (ha pins s σ H _ I h) fun v s1 ⟨x,H1,I1,r1,q1⟩=>?_
 refine aq (hb pins s1 σ H1 _ I1 q1) fun u s2 ⟨y,H2,I2,r2,q2⟩=>?_
 exact hf v u s2 x y H2 I2 r1 r2 q2
def lE(i:Nat):TE:=fun σ H Q=>∃v,σ[i]?=some (some v)/\Q v H
def tC(v:V):TE:=fun _ H Q=>Q v H
theorem xB{i:Nat}{x:Str}{pos:Pos}(hN:X.N[i]?=some x)(hv:i3 X.env.scope x)(hd:(x == ("__debug__":Str))=false:=by decide)(hcd:(x == ("__classdict__":Str))=false:=by decide):PE X (.Name x pos) (lE i):=by
 intro pins s σ H Q I h
 obtain⟨v,e,h⟩:=h
 obtain⟨m,hn,hl⟩:=I.loc
 obtain⟨u,r,l⟩:=hl i x v hN e hv
 have fin:EP X pins σ Q u s:=⟨v,H,I,r,h⟩
 rcases l with⟨hk,hm⟩ | ⟨hk,c,hc,hcell⟩
 ·exact wpAny_Name (wpAny_loadName_local I.ok.kind hk hn hm fin) hd
 ·rcases hk with hk | hk
  ·exact wpAny_Name (wpAny_loadName_cell I.ok.kind hk hc hcell fin) hd
  ·exact wpAny_Name (wpAny_loadName_free I.ok.kind hk hc hcell fin hcd) hd
theorem ae{i j pos}:PE X (.Constant (.int i) j pos) (tC (.int i)):=fun _ _ _ H _ I h=>wpAny_Constant_int ⟨.int i,H,I.tok _,⟨_,rfl⟩,h⟩
theorem dC{b j pos}:PE X (.Constant (.bool b) j pos) (tC (.bl b)):=fun _ _ _ H _ I h=>Constant_bool ⟨.bl b,H,I,rfl,h⟩
theorem ik{j pos}:PE X (.Constant .none j pos) (tC .non):=fun _ _ _ H _ I h=>Constant_none ⟨.non,H,I,rfl,h⟩
theorem aH{x j pos}:PE X (.Constant (.str x) j pos) (tC (.str x)):=fun _ _ _ H _ I h=>Calls.Constant_str ⟨.str x,H,I.tok _,⟨_,rfl⟩,h⟩
def Gl(X:Cx)(x:Str):Prop:=X.env.kindOf x=some .globalImplicit
theorem jf{E:Value->Shared->Prop}{pins:List (Addr×Obj)}{s:Shared}{σ:St}{H:Hp}{x:Str}{u:Value}{pos:Pos}{Q:Value->Shared->Prop}(I:Inv X pins σ H s)(hg:Gl X x)(hm:X.mg x=some u)(h:Q u s)
  (hd:(x == ("__debug__":Str))=false:=by decide):wpAny (model X.prog X.w) X.A (eval (.Name x pos) X.env) Q E s:=
 Calls.Name_function_global I.ok.kind hg (Calls.loadGlobal_global (by rw[I.ok.glob];exact I.mod.glob.keeps I.bk) hm h) hd
theorem eZ{E:Value->Shared->Prop}{pins:List (Addr×Obj)}{s:Shared}{σ:St}{H:Hp}{x:Str}{u:Value}{pos:Pos}{Q:Value->Shared->Prop}(I:Inv X pins σ H s)(hg:Gl X x)(hm:X.mg x=none)(hv:bootBuiltins x=some u)(h:Q u s)
  (hn:x≠"__name__":=by decide) (hd:(x == ("__debug__":Str))=false:=by decide):wpAny (model X.prog X.w) X.A (eval (.Name x pos) X.env) Q E s:=by
 obtain⟨mb,h1,h2⟩:=I.mod.blt
 exact Calls.Name_function_global I.ok.kind hg (Calls.loadGlobal_builtin (by rw[I.ok.glob];exact I.mod.glob.keeps I.bk) hm (by rw[I.ok.blt];exact h1.keeps I.bk) ((h2 x hn).trans hv) h) hd
theorem fx{x:Str}{v:V}{u:Value}{pos:Pos}(hg:Gl X x)(hm:X.mg x=some u)(r:RelV v u)(hd:(x == ("__debug__":Str))=false:=by decide):PE X (.Name x pos) (tC v):=
 fun _ _ _ H _ I h=>jf I hg hm ⟨v,H,I,r,h⟩ hd
theorem fu{x:Str}{v:V}{u:Value}{pos:Pos}(hg:Gl X x)(hm:X.mg x=none)(hv:bootBuiltins x=some u)(r:RelV v u)(hn:x≠"__name__":=by decide)(hd:(x == ("__debug__":Str))=false:=by decide):PE X (.Name x pos) (tC v):=
 fun _ _ _ H _ I h=>eZ I hg hm hv ⟨v,H,I,r,h⟩ hn hd
variable {a b:Expr} {ta tb:TE} {pos:Pos}
def PC(X:Cx)(op:CmpOp)(a b:Expr)(t:TE):Prop:=
 ∀(pins:List (Addr×Obj)) (s:Shared) (σ:St) (H:Hp) (Q:VK),Inv X pins σ H s->t σ H Q →
  wpAny (model X.prog X.w) X.A (eval a X.env) (fun v s₁=>wpAny (model X.prog X.w) X.A (eval b X.env) (fun u s₂=>wpAny (model X.prog X.w) X.A (compareOp op v u) (EP X pins σ Q) X.xe s₂) X.xe s₁) X.xe s
def tB(t:TE):TT:=fun σ H Q=>t σ H fun x H1=>∃c,x=.bl c/\Q c H1
theorem um{op:CmpOp}{t:TE}(h:PC X op a b t)(h1:behindInMarks op b=false:=by first | exact nobehind _ (by decide) (by decide) | rfl):PE X (.Compare a [op] [b] pos) t:=fun pins s σ H Q I hw=>wpAny_Compare1 (h pins s σ H Q I hw) h1
theorem ng{op:CmpOp}{t:TE}(h:PC X op a b t)(h1:behindInMarks op b=false:=by first | exact nobehind _ (by decide) (by decide) | rfl):PT X (.Compare a [op] [b] pos) (tB t):=by
 intro pins s σ H Q I hw
 refine wpAny_isTrue_Compare1 (aq (h pins s σ H _ I hw) fun v s1 h1=>aq h1 fun u s2 h2=>aq h2 fun c s3 ⟨x,H1,I1,r1,q1⟩=>?_) h1
 obtain⟨d,rfl,q⟩:=q1
 cases r1
 exact wpAny_truthy_bool ⟨H1,I1,q⟩
theorem cH{e:Expr}{t:TE}(h:PE X e t)(he:∀whole,isTrue e X.env whole=(do let v ←whole;standAt e.pos;holding [v] (truthy v)):=by intro _;rfl):PT X e (tB t):=by
 intro pins s σ H Q I hw
 refine isTrue_plain (aq (h pins s σ H _ I hw) fun v s1 ⟨x,H1,I1,r1,q1⟩=>?_) (he _)
 obtain⟨d,rfl,q⟩:=q1
 cases r1
 exact wpAny_truthy_bool ⟨H1,I1,q⟩
variable {tA tB':TT} {rest:List Expr}
def rp(t u:TT):TT:=fun σ H Q=>t σ H fun c H1=>if c=true then u σ H1 Q else Q false H1
def vj(t u:TT):TT:=fun σ H Q=>t σ H fun c H1=>if c=true then Q true H1 else u σ H1 Q
def tN(t:TT):TT:=fun σ H Q=>t σ H fun c H1=>Q (!c) H1
theorem iN(ha:PT X a tA):PW X (.BoolOp .And [a] pos) tA:=by
 intro wh pins s σ H Q I h
 refine isTrue_and (aq (ha pins s σ H Q I h) fun c s1 e=>?_)
 cases c with
 | true=>exact isTrue_and_nil e
 | false=>exact e
theorem eA(ha:PT X a tA):PW X (.BoolOp .Or [a] pos) tA:=by
 intro wh pins s σ H Q I h
 refine isTrue_or (aq (ha pins s σ H Q I h) fun c s1 e=>?_)
 cases c with
 | false=>exact isTrue_or_nil e
 | true=>exact e
theorem ij(ha:PT X a tA)(hb:PW X (.BoolOp .And (b::rest) pos) tB'):PW X (.BoolOp .And (a::b::rest) pos) (rp tA tB'):=by
 intro wh pins s σ H Q I h
 refine isTrue_and (aq (ha pins s σ H _ I h) fun c s1 ⟨H1,I1,q1⟩=>?_)
 cases c with
 | true=>exact hb wh pins s1 σ H1 Q I1 q1
 | false=>exact⟨H1,I1,q1⟩
theorem df(ha:PT X a tA)(hb:PW X (.BoolOp .Or (b::rest) pos) tB'):PW X (.BoolOp .Or (a::b::rest) pos) (vj tA tB'):=by
 intro wh pins s σ H Q I h
 refine isTrue_or (aq (ha pins s σ H _ I h) fun c s1 ⟨H1,I1,q1⟩=>?_)
 cases c with
 | true=>exact⟨H1,I1,q1⟩
 | false=>exact hb wh pins s1 σ H1 Q I1 q1
theorem dv(ha:PT X a tA):PT X (.UnaryOp .Not a pos) (tN tA):=by
 intro pins s σ H Q I h
 exact isTrue_not (ha pins s σ H (fun c H1=>Q (!c) H1) I h)
def sN(ta tb:TE):TE:=fun σ H Q=>ta σ H fun x H1=>∃c,x=.bl c/\if c=true then tb σ H1 Q else Q (.bl false) H1
def rD(ta tb:TE):TE:=fun σ H Q=>ta σ H fun x H1=>∃c,x=.bl c/\if c=true then Q (.bl true) H1 else tb σ H1 Q
def qM(ta:TE):TE:=fun σ H Q=>ta σ H fun x H1=>∃c,x=.bl c/\Q (.bl (!c)) H1
theorem eu{op}{t:TE}(h:PE X a t):PE X (.BoolOp op [a] pos) t:=fun pins s σ H Q I hw=>BoolOp_one (h pins s σ H Q I hw)
theorem dJ(ha:PE X a ta)(hb:PE X (.BoolOp .And (b::rest) pos) tb):PE X (.BoolOp .And (a::b::rest) pos) (sN ta tb):=by
 intro pins s σ H Q I h
 refine BoolOp_and (aq (ha pins s σ H _ I h) fun v s1 ⟨x,H1,I1,r1,q1⟩=>?_)
 obtain⟨c,rfl,q1⟩:=q1
 cases r1
 refine wpAny_truthy_bool ?_
 cases c with
 | true=>exact hb pins s1 σ H1 Q I1 q1
 | false=>exact⟨.bl false,H1,I1,rfl,q1⟩
theorem xr(ha:PE X a ta)(hb:PE X (.BoolOp .Or (b::rest) pos) tb):PE X (.BoolOp .Or (a::b::rest) pos) (rD ta tb):=by
 intro pins s σ H Q I h
 refine BoolOp_or (aq (ha pins s σ H _ I h) fun v s1 ⟨x,H1,I1,r1,q1⟩=>?_)
 obtain⟨c,rfl,q1⟩:=q1
 cases r1
 refine wpAny_truthy_bool ?_
 cases c with
 | false=>exact hb pins s1 σ H1 Q I1 q1
 | true=>exact⟨.bl true,H1,I1,rfl,q1⟩
theorem yz(ha:PE X a ta):PE X (.UnaryOp .Not a pos) (qM ta):=by
 intro pins s σ H Q I h
 refine UnaryOp_ (aq (ha pins s σ H _ I h) fun v s1 ⟨x,H1,I1,r1,q1⟩=>?_)
 obtain⟨c,rfl,q1⟩:=q1
 cases r1
 exact not_of (wpAny_truthy_bool ⟨.bl (!c),H1,I1,rfl,q1⟩)
def o5(t:TT)(ta tb:TE):TE:=fun σ H Q=>t σ H fun c H1=>if c=true then ta σ H1 Q else tb σ H1 Q
theorem CG{c:Expr}(hc:PT X c tA)(ha:PE X a ta)(hb:PE X b tb):PE X (.IfExp c a b pos) (o5 tA ta tb):=by
 intro pins s σ H Q I h
 refine wpAny_IfExp (aq (hc pins s σ H _ I h) fun d s1 ⟨H1,I1,q1⟩=>?_)
 cases d with
 | true=>exact ha pins s1 σ H1 Q I1 q1
 | false=>exact hb pins s1 σ H1 Q I1 q1
end
end L2
namespace L2
open PySem PySem.Spec PyProof.Rows
def af(K:PySem.W.Frag)(H:Hp)(a:Addr)(xs:List V):Prop:=
 Rd H a (.lst xs) ∨
  ∃(o:Obj) (its:Array Value) (n:Nat),K.lookup a=some o/\o.cls=.type "list"/\o.dict=none/\o.data=.seq its n/\its.size<=sizeLine/\Vals xs its.toList
def ag(K:PySem.W.Frag)(H:Hp)(a:Addr)(xs:List V):Prop:=
 Rd H a (.tup xs) ∨
  ∃(o:Obj) (its:Array Value) (n:Nat),K.lookup a=some o/\o.cls=.type "tuple"/\o.data=.seq its n/\its.size<=sizeLine/\Vals xs its.toList
def wj:Value->Option V
 | .none=>some .non
 | .bool b=>some (.bl b)
 | .int i _=>some (.int i)
 | .str x _=>some (.str x)
 | .bytes b _=>some (.byt b)
 | .float b _=>some (.flt b)
 | .ref a=>some (.ref a)
 | .type n=>some (.ty n)
 | _=>none
theorem RelV.abs{x:V}{u:Value}(r:RelV x u):wj u=some x:=by
 cases x with
 | non=>cases r;rfl
 | bl _=>cases r;rfl
 | int _=>obtain⟨t,rfl⟩:=r;rfl
 | str _=>obtain⟨t,rfl⟩:=r;rfl
 | byt _=>obtain⟨t,rfl⟩:=r;rfl
 | flt _=>obtain⟨t,rfl⟩:=r;rfl
 | ref _=>cases r;rfl
 | ty _=>cases r;rfl
theorem RelV.inj{x y:V}{u:Value}(r:RelV x u)(q:RelV y u):x=y:=Option.some.inj (r.abs.symm.trans q.abs)
theorem Vals.inj:∀{xs ys:List V} {us:List Value},Vals xs us->Vals ys us->xs=ys
 | _,_,_,.nil,.nil=>rfl
 | _,_,_,.cons r t,.cons r' t'=>by rw[r.inj r',Vals.inj t t']
section
variable {X:Cx} {pins:List (Addr×Obj)} {σ:St} {H:Hp} {s:Shared} {a:Addr} {xs ys:List V}
theorem af.of{K:PySem.W.Frag}(h:H a=some (.lst xs)):af K H a xs:=.inl (.inl h)
theorem ag.of{K:PySem.W.Frag}(h:H a=some (.tup xs)):ag K H a xs:=.inl (.inl h)
theorem Inv.list(I:Inv X pins σ H s)(h:af X.K H a xs):∃its:List Value,Vals xs its/\PlainL s.heap a its.toArray/\xs.length<=sizeLine:=by
 rcases h with h | ⟨o,its,n,hk,hc,hd,hs,hz,r⟩
 ·obtain⟨z,its,n,r,e⟩:=h.ok I.hok
  exact⟨its,r,⟨_,n,e,rfl,rfl,rfl⟩,z⟩
 ·refine⟨its.toList,r,⟨o,n,I.kIn a o hk,hc,hd,by simpa using hs⟩,?_⟩
  have e:=r.length
  simp only[Array.length_toList]at e
  omega
theorem Inv.tuple(I:Inv X pins σ H s)(h:ag X.K H a xs):∃its:List Value,Vals xs its/\IsTup s.heap a its.toArray/\xs.length<=sizeLine:=by
 rcases h with h | ⟨o,its,n,hk,hc,hs,hz,r⟩
 ·obtain⟨z,its,r,p⟩:=h.ok I.hok
  exact⟨its,r,p,z⟩
 ·refine⟨its.toList,r,⟨o,I.kIn a o hk,hc,n,by simpa using hs⟩,?_⟩
  have e:=r.length
  simp only[Array.length_toList]at e
  omega
theorem Inv.list_inj(I:Inv X pins σ H s)(h:af X.K H a xs)(h':af X.K H a ys):xs=ys:=by
 obtain⟨its,r,⟨o,n,e,_,_,d⟩,_⟩:=I.list h
 obtain⟨its',r',⟨o',n',e',_,_,d'⟩,_⟩:=I.list h'
 rw[e]at e';cases e'
 rw[d]at d'
 injection d' with d1 _
 have:its=its':=by simpa using congrArg Array.toList d1
 subst this
 exact r.inj r'
theorem Inv.tuple_inj(I:Inv X pins σ H s)(h:ag X.K H a xs)(h':ag X.K H a ys):xs=ys:=by
 obtain⟨its,r,⟨o,e,_,n,d⟩,_⟩:=I.tuple h
 obtain⟨its',r',⟨o',e',_,n',d'⟩,_⟩:=I.tuple h'
 rw[e]at e';cases e'
 rw[d]at d'
 injection d' with d1 _
 have:its=its':=by simpa using congrArg Array.toList d1
 subst this
 exact r.inj r'
end
abbrev Cx.wish(X:Cx)(E:Value->Shared->Prop):Cx:={ X with xe:=E }
abbrev Cx.nox(X:Cx):Cx:=X.wish fun _ _=>False
theorem Cx.Ok.wish{X:Cx}(ok:X.Ok)(E:Value->Shared->Prop):(X.wish E).Ok:=
 ⟨ok.mod,ok.kind,ok.glob,ok.blt,ok.above,ok.inj,ok.has,ok.cab,ok.hd,ok.frames,ok.stk,ok.exf,ok.bs,ok.bsz,ok.noex,ok.exfs,ok.funs,ok.frf⟩
theorem Cx.Ok.unwish{X:Cx}{E:Value->Shared->Prop}(ok:(X.wish E).Ok):X.Ok:=
 ⟨ok.mod,ok.kind,ok.glob,ok.blt,ok.above,ok.inj,ok.has,ok.cab,ok.hd,ok.frames,ok.stk,ok.exf,ok.bs,ok.bsz,ok.noex,ok.exfs,ok.funs,ok.frf⟩
section
variable {X:Cx} {pins:List (Addr×Obj)} {σ:St} {H:Hp} {s:Shared} {E:Value->Shared->Prop}
theorem Inv.wish(I:Inv X pins σ H s)(E:Value->Shared->Prop):Inv (X.wish E) pins σ H s:=⟨I.ok.wish E,I.os,I.bare,I.base,I.loc,I.cell,I.free,I.freeC,I.pin,I.hok,I.len⟩
theorem Inv.unwish(I:Inv (X.wish E) pins σ H s):Inv X pins σ H s:=⟨I.ok.unwish,I.os,I.bare,I.base,I.loc,I.cell,I.free,I.freeC,I.pin,I.hok,I.len⟩
theorem SP.unwish{D:Ends}{f:Flow}{s':Shared}(h:SP (X.wish E) pins D f s'):SP X pins D f s':=by
 cases f with
 | next=>obtain⟨σ',H',I,q⟩:=h;exact⟨σ',H',I.unwish,q⟩
 | brk=>obtain⟨σ',H',I,q⟩:=h;exact⟨σ',H',I.unwish,q⟩
 | cont=>obtain⟨σ',H',I,q⟩:=h;exact⟨σ',H',I.unwish,q⟩
 | ret u=>obtain⟨v,σ',H',I,r,q⟩:=h;exact⟨v,σ',H',I.unwish,r,q⟩
theorem cn.nox{st:List Stmt}{t:TS}(h:cn X.nox st t):cn X st t:=fun pins s σ H D I hw=>
 wpAny_mono (h pins s σ H D (I.wish _) hw) (fun _ _ q=>q.unwish) fun _ _ z=>False.elim z
end
section
variable {X:Cx} {st:Stmt} {rest:List Stmt} {t u:TS} {e:Expr} {te:TE} {pos:Pos}
def sH:TS:=fun D σ H=>D.nx σ H
def nB(t u:TS):TS:=fun D σ H=>t { D with nx:=u D } σ H
theorem aO:cn X [] sH:=fun _ _ σ H _ I h=>wpAny_execs_nil ⟨σ,H,I,h⟩
theorem ah(h1:PS X st t)(h2:cn X rest u):cn X (st::rest) (nB t u):=by
 intro pins s σ H D I h
 refine wpAny_execs_cons (aq (h1 pins s σ H { D with nx:=u D } I h) fun f s1 q=>?_)
 cases f with
 | next=>
  obtain⟨σ',H',I',q⟩:=q
  exact h2 pins s1 σ' H' D I' q
 | ret v=>exact q
 | brk=>exact q
 | cont=>exact q
theorem aj(h1:PS X st t):cn X [st] t:=by
 intro pins s σ H D I h
 refine wpAny_execs_cons (aq (h1 pins s σ H D I h) fun f s1 q=>?_)
 cases f with
 | next=>exact wpAny_execs_nil q
 | ret v=>exact q
 | brk=>exact q
 | cont=>exact q
theorem Inv.quiet{pins:List (Addr×Obj)}{σ:St}{H:Hp}{s:Shared}(I:Inv X pins σ H s):interactive X.env=false:=by simp[interactive,I.ok.kind]
def rH(te:TE):TS:=fun D σ H=>te σ H fun _ H1=>D.nx σ H1
theorem aV(he:PE X e te)(hs:swapsWith e none pos.line X.env=pure false:=by rfl):PS X (.Expr e pos) (rH te):=by
 intro pins s σ H D I h
 exact wpAny_Expr_any (aq (he pins s σ H _ I h) fun v s1 ⟨x,H1,I1,r1,q1⟩=>⟨σ,H1,I1,q1⟩) I.quiet hs
def tu(te:TE):TS:=fun D σ H=>te σ H D.rt
theorem aA(he:PE X e te):PS X (.Return (some e) pos) (tu te):=by
 intro pins s σ H D I h
 exact wpAny_Return_some (aq (he pins s σ H _ I h) fun v s1 ⟨x,H1,I1,r1,q1⟩=>⟨x,σ,H1,I1,r1,q1⟩)
def oh(c:TT)(t u:TS):TS:=fun D σ H=>c σ H fun b H1=>if b=true then t D σ H1 else u D σ H1
theorem bt{c:Expr}{a b:List Stmt}{tc:TT}(hc:PT X c tc)(ha:cn X a t)(hb:cn X b u):PS X (.If c a b pos) (oh tc t u):=by
 intro pins s σ H D I h
 refine wpAny_If (aq (hc pins s σ H _ I h) fun d s1 ⟨H1,I1,q1⟩=>?_)
 cases d with
 | true=>exact ha pins s1 σ H1 D I1 q1
 | false=>exact hb pins s1 σ H1 D I1 q1
def AS:TS:=fun _ _ _=>False
theorem fh:PS X st AS:=fun _ _ _ _ _ _ h=>h.elim
end
abbrev TG:=V->St->Hp->(St->Hp->Prop)->Prop
abbrev cT:=List V->St->Hp->(St->Hp->Prop)->Prop
def PG(X:Cx)(target:Expr)(t:TG):Prop:=
 ∀(pins:List (Addr×Obj)) (s:Shared) (σ:St) (H:Hp) (v:V) (u:Value) (Q:St->Hp->Prop),Inv X pins σ H s->RelV v u->t v σ H Q →
  wpAny (model X.prog X.w) X.A (assign target X.env u) (fun _ s'=>∃σ' H',Inv X pins σ' H' s'/\Q σ' H') X.xe s
def f9(X:Cx)(ts:List Expr)(t:cT):Prop:=
 ∀(pins:List (Addr×Obj)) (s:Shared) (σ:St) (H:Hp) (vs:List V) (us:List Value) (Q:St->Hp->Prop),Inv X pins σ H s->Vals vs us->t vs σ H Q →
  wpAny (model X.prog X.w) X.A (assignInOrder ((assignEach ts X.env).map (·.2)) us) (fun _ s'=>∃σ' H',Inv X pins σ' H' s'/\Q σ' H') X.xe s
abbrev jQ:=V->V->V->Hp->(Hp->Prop)->Prop
def tG(X:Cx)(t:jQ):Prop:=
 ∀(pins:List (Addr×Obj)) (s:Shared) (σ:St) (H:Hp) (o i v:V) (ov iv u:Value) (Q:Hp->Prop),Inv X pins σ H s->RelV o ov->RelV i iv->RelV v u->t o i v H Q →
  wpAny (model X.prog X.w) X.A (setItem ov iv u) (fun _ s'=>∃H',Inv X pins σ H' s'/\Q H') X.xe s
abbrev iz:=V->V->Hp->VK->Prop
def uK(X:Cx)(op:Operator)(t:iz):Prop:=
 ∀(pins:List (Addr×Obj)) (s:Shared) (σ:St) (H:Hp) (x y:V) (v u:Value) (Q:VK),Inv X pins σ H s->RelV x v->RelV y u->t x y H Q →
  wpAny (model X.prog X.w) X.A (inplaceOp op v u) (EP X pins σ Q) X.xe s
section
variable {X:Cx} {pos:Pos}
def iw(i:Nat):TG:=fun v σ H Q=>Q (σ.set i (some v)) H
theorem aB{i:Nat}{x:Str}(hN:X.N.Nodup)(hi:X.N[i]?=some x)(hx:Loc X.env.scope x)(hf:X.fn x=true\/X.env.scope.names.lookup x=some .local:=by first | exact .inl rfl | exact .inr rfl | assumption):PG X (.Name x pos) (iw i):=by
 intro pins s σ H v u Q I r h
 exact wpAny_assign_Name (h8 I hN hi hx r (fun s' I'=>⟨_,H,I',h⟩) hf)
def sV:cT:=fun vs σ H Q=>vs=[]/\Q σ H
def pf(t:TG)(u:cT):cT:=fun vs σ H Q=>∃v r,vs=v::r/\t v σ H fun σ' H'=>u r σ' H' Q
theorem dw:f9 X [] sV:=by
 intro pins s σ H vs us Q I r h
 obtain⟨e,h⟩:=h
 subst e
 cases r
 exact assignInOrder_nil ⟨σ,H,I,h⟩
theorem bo{e:Expr}{es:List Expr}{t:TG}{u:cT}(h1:PG X e t)(h2:f9 X es u)
  (hs:(assignEach (e::es) X.env).map (·.2)=assign e X.env::(assignEach es X.env).map (·.2):=by rfl):f9 X (e::es) (pf t u):=by
 intro pins s σ H vs us Q I r h
 obtain⟨v,vr,e1,h⟩:=h
 subst e1
 cases r with
 | cons r rr=>
  rw[hs]
  refine assignInOrder_cons (aq (h1 pins s σ H _ _ _ I r h) fun _ s1 ⟨σ1,H1,I1,q1⟩=>?_)
  exact h2 pins s1 σ1 H1 _ _ Q I1 rr q1
def nv(K:PySem.W.Frag)(n:Nat)(t:cT):TG:=fun v σ H Q=>∃a xs,v=.ref a/\ag K H a xs/\xs.length=n/\t xs σ H Q
theorem wO{es:List Expr}{k:Nat}{t:cT}{n:Nat}(hc:X.calm=true)(h:f9 X es t)
  (hn:(assignEach es X.env).length=n:=by rfl) (hst:(assignEach es X.env).findIdx? (·.1)=none:=by rfl):PG X (.Tuple es k pos) (nv X.K n t):=by
 intro pins s σ H v u Q I r hw
 obtain⟨a,xs,e1,hq,hl,hw⟩:=hw
 subst e1
 cases r
 obtain⟨its,rv,ht,hz⟩:=I.tuple hq
 refine assign_Tuple_tuple (I.ok.hd hc) ht (by simp[hn,←hl,rv.length]) hst fun h' hx=>?_
 have I1:Inv X pins σ H { s with heap:=h' }:=I.kept (t':=s.toks) fun b o e=>hx b o (Nat.ne_of_lt (Heap.lt_size e)) e
 exact h pins _ σ H xs _ Q I1 (by simpa using rv) hw
def pH(to ti:TE)(t:jQ):TG:=fun v σ H Q=>to σ H fun o H1=>ti σ H1 fun i H2=>t o i v H2 fun H3=>Q σ H3
theorem v7{o i:Expr}{to ti:TE}{t:jQ}(ho:PE X o to)(hi:PE X i ti)(hs:tG X t)
  (ha:∀v,assign (.Subscript o i pos) X.env v=(do
   let ov ←holding [v] (eval o X.env)
   let iv ←holding [v,ov] (eval i X.env)
   standAt pos
   holding [v,ov,iv] (setItem ov iv v)
   release [v,ov,iv] []):=by intro _;rfl):PG X (.Subscript o i pos) (pH to ti t):=by
 intro pins s σ H v u Q I r h
 rw[ha]
 refine wpAny_bind (wpAny_holding (aq (ho pins s σ H _ I h) fun ov s1 ⟨x,H1,I1,r1,q1⟩=>?_))
 refine wpAny_bind (wpAny_holding (aq (hi pins s1 σ H1 _ I1 q1) fun iv s2 ⟨y,H2,I2,r2,q2⟩=>?_))
 refine wpAny_bind (wpAny_standAt (wpAny_bind (wpAny_holding (aq (hs pins s2 σ H2 x y v ov iv u _ I2 r1 r2 r q2) fun _ s3 ⟨H3,I3,q3⟩=>?_))))
 exact wpAny_release ⟨σ,H3,I3,q3⟩
def jU(te:TE)(g:TG):TS:=fun D σ H=>te σ H fun x H1=>g x σ H1 D.nx
theorem ju{tg e:Expr}{te:TE}{g:TG}(he:PE X e te)(hg:PG X tg g)(hs:swapsWithSole [tg] e pos.line X.env=pure false:=by rfl)(hw:swappedStores [tg] e X.env=pure none:=by rfl)
  (h1:(assignEach [tg] X.env).map (·.2)=[assign tg X.env]:=by rfl):PS X (.Assign [tg] e pos) (jU te g):=by
 intro pins s σ H D I h
 refine wpAny_Assign_stores (aq (he pins s σ H _ I h) fun v s1 ⟨x,H1,I1,r1,q1⟩=>?_) hs hw
 rw[h1]
 exact aq (hg pins s1 σ H1 x v _ I1 r1 q1) fun _ s2 q=>q
theorem az{i:Nat}{x:Str}{e:Expr}{te:TE}{pos':Pos}(hN:X.N.Nodup)(hi:X.N[i]?=some x)(hx:Loc X.env.scope x)(he:PE X e te)(hs:swapsWith e (some (.Name x pos')) pos.line X.env=pure false:=by rfl)(hf:X.fn x=true\/X.env.scope.names.lookup x=some .local:=by first | exact .inl rfl | exact .inr rfl | assumption):
  PS X (.Assign [.Name x pos'] e pos) (jU te (iw i)):=by
 intro pins s σ H D I h
 refine wpAny_Assign_Name (aq (he pins s σ H _ I h) fun v s1 ⟨y,H1,I1,r1,q1⟩=>?_) hs
 exact h8 I1 hN hi hx r1 (fun s2 I2=>⟨_,H1,I2,q1⟩) hf
def u7(i j:Nat)(ta:TA):TS:=fun D σ H=>ta σ H fun vs H1=>∃v w,vs=[v,w]/\D.nx ((σ.set i (some v)).set j (some w)) H1
theorem lT{i j:Nat}{x y:Str}{a b:Expr}{ta:TA}{px py pt:Pos}{kt k2 pt2}(hc:X.calm=true)(hN:X.N.Nodup)(hi:X.N[i]?=some x)(hj:X.N[j]?=some y)(hij:i≠j)
  (hx:X.env.scope.names.lookup x=some .local) (hy:X.env.scope.names.lookup y=some .local) (ha:PA X [a,b] ta)
  (hw:swappedStores [.Tuple [.Name x px,.Name y py] kt pt] (.Tuple [a,b] k2 pt2) X.env=pure (some [x,y]))
  (hs:swapsWithSole [.Tuple [.Name x px,.Name y py] kt pt] (.Tuple [a,b] k2 pt2) pos.line X.env=pure false:=by rfl) :
  PS X (.Assign [.Tuple [.Name x px,.Name y py] kt pt] (.Tuple [a,b] k2 pt2) pos) (u7 i j ta):=by
 intro pins s σ H D I h
 rw[exec_Assign_arm]
 refine wpAny_bind (wpAny_standAt ?_)
 rw[hs]
 refine wpAny_bind (wpAny_pure ?_)
 rw[if_neg (by decide)]
 refine wpAny_bind (Tuple_ (aq (ha _ pins s σ H _ I h) fun us s1 ⟨vs,H1,I1,r1,q1⟩=>?_))
 obtain⟨v,w,e1,q1⟩:=q1
 subst e1
 obtain⟨u1,u2,rfl,rv,rw'⟩:∃u1 u2,us=[u1,u2]/\RelV v u1/\RelV w u2:=by
  cases r1 with
  | cons p q=>
   cases q with
   | cons p' q'=>
    cases q'
    exact⟨_,_,rfl,p,p'⟩
 refine wpAny_newObj_type ?_ (by show 2<=sizeLine;decide)
 have I2:Inv X pins σ H1 { s1 with heap:=s1.heap.push { cls:=.type "tuple",data:=.seq [u1,u2].toArray } }:=I1.kept (t':=s1.toks) fun b o e=>Heap.get?_push_of_some _ e
 rw[hw]
 refine wpAny_bind (wpAny_pure ?_)
 show wpAny (model X.prog X.w) X.A (do rule "assign.swapped-stores";let items ←unpackItems (.ref s1.heap.objs.size) 2 none;assignInOrder [fun v=>bindName X.env y v,fun v=>bindName X.env x v] items.reverse;pure Flow.next) _ _ _
 refine wpAny_bind (wpAny_rule (wpAny_bind (unpackItems_tuple (items:=#[u1,u2]) (I.ok.hd hc) (IsTup.new s1.heap _) fun h' hx'=>?_)))
 have I3:=I2.kept (h':=h') (t':=s1.toks) fun b o e=>hx' b o (Nat.ne_of_lt (Heap.lt_size e)) e
 show wpAny _ _ (assignInOrder [fun v=>bindName X.env y v,fun v=>bindName X.env x v] [u2,u1] >>= fun _=>pure Flow.next) _ _ _
 refine wpAny_bind (assignInOrder_cons (wpAny_bindName (h8 I3 hN hj (.inl hy) rw' (fun s2 I4=>?_) (.inr hy))))
 refine assignInOrder_cons (wpAny_bindName (h8 I4 hN hi (.inl hx) rv (fun s3 I5=>assignInOrder_nil (wpAny_pure ?_)) (.inr hx)))
 rw[List.set_comm _ _ (Ne.symm hij)]at I5
 exact⟨_,H1,I5,q1⟩
def pW(i:Nat)(te:TE)(ti:iz):TS:=fun D σ H=>∃x,σ[i]?=some (some x)/\te σ H fun y H1=>ti x y H1 fun z H2=>D.nx (σ.set i (some z)) H2
theorem zw{i:Nat}{x:Str}{e:Expr}{te:TE}{op:Operator}{ti:iz}{pos':Pos}(hN:X.N.Nodup)(hi:X.N[i]?=some x)(hx:Loc X.env.scope x)(he:PE X e te)(ho:uK X op ti)(hf:X.fn x=true\/X.env.scope.names.lookup x=some .local:=by first | exact .inl rfl | exact .inr rfl | assumption):
  PS X (.AugAssign (.Name x pos') op e pos) (pW i te ti):=by
 intro pins s σ H D I h
 obtain⟨v,e1,h⟩:=h
 obtain⟨m,hn,hl⟩:=I.loc
 have vis:i3 X.env.scope x:=by rcases hx with k | k;exact .inl k;exact .inr (.inl k)
 obtain⟨u,r,l⟩:=hl i x v hi e1 vis
 refine wpAny_AugAssign_Name ?_
 have go:wpAny (model X.prog X.w) X.A (eval e X.env) (fun w s₂=>wpAny (model X.prog X.w) X.A (inplaceOp op u w) (fun r s₃=>wpAny (model X.prog X.w) X.A (storeName X.env x r) (fun _=>SP X pins D .next) X.xe s₃) X.xe s₂) X.xe s:=by
  refine aq (he pins s σ H _ I h) fun w s1 ⟨y,H1,I1,r1,q1⟩=>?_
  refine aq (ho pins s1 σ H1 v y u w _ I1 r r1 q1) fun z s2 ⟨zv,H2,I2,r2,q2⟩=>?_
  exact h8 I2 hN hi hx r2 (fun s3 I3=>⟨_,H2,I3,q2⟩) hf
 rcases l with⟨hk,hm⟩ | ⟨hk,c,hc,hcell⟩
 ·exact wpAny_loadName_local I.ok.kind hk hn hm go
 ·rcases hk with hk | hk
  ·exact wpAny_loadName_cell I.ok.kind hk hc hcell go
  ·rcases hx with k | k
   ·have:X.env.scope.names.lookup x=some .free:=hk
    rw[k]at this;cases this
   ·have:X.env.scope.names.lookup x=some .free:=hk
    rw[k]at this;cases this
def vm(f:Int->Int->Int):iz:=fun x y H Q=>∃i j,x=.int i/\y=.int j/\Q (.int (f i j)) H
theorem zX:uK X .Add (vm fun i j=>i+j):=by
 intro pins s σ H x y v u Q I r1 r2 h
 obtain⟨i,j,e1,e2,q⟩:=h
 subst e1;subst e2
 obtain⟨t,rfl⟩:=r1
 obtain⟨t',rfl⟩:=r2
 exact iadd_int ⟨.int _,H,I.tok _,⟨_,rfl⟩,q⟩
end
section
variable {X:Cx} {pos:Pos}
def AZ(c:TT)(tb:TS):TS:=fun D σ H=>∃W:Nat->St->Hp->Prop,(∃m,W m σ H)/\∀m σ H,W m σ H →
 c σ H fun b H1=>if b=true then ∃N:St->Hp->Prop,(∀σ' H',N σ' H'->∃m',m'<m/\W m' σ' H')/\tb { D with nx:=N,ct:=N,bk:=D.nx } σ H1 else D.nx σ H1
theorem Bp{c:Expr}{body:List Stmt}{tc:TT}{tb:TS}(hp:PassesOwn (model X.prog X.w) X.A X.env X.xe)(hc:PT X c tc)(hb:cn X body tb):PS X (.While c body [] pos) (AZ tc tb):=by
 intro pins s σ H D I h
 obtain⟨W,⟨m0,w0⟩,turn⟩:=h
 refine wpAny_While (codeAny_whileLoop (fun n s'=>∃σ' H',Inv X pins σ' H' s'/\W n σ' H') ?_ m0 ⟨σ,H,I,w0⟩)
 rintro n s1 ⟨σ1,H1,I1,w1⟩
 refine wpAny_passesOwn hp (aq (hc pins s1 σ1 H1 _ I1 (turn n σ1 H1 w1)) fun b s2 ⟨H2,I2,q2⟩=>?_)
 cases b with
 | true=>
  obtain⟨N,hN,q2⟩:=q2
  rw[if_pos rfl]
  refine wpAny_passesOwn hp (aq (hb pins s2 σ1 H2 _ I2 q2) fun f s3 q3=>?_)
  cases f with
  | next=>
   obtain⟨σ3,H3,I3,n3⟩:=q3
   obtain⟨m',hm,w3⟩:=hN σ3 H3 n3
   exact⟨m',hm,σ3,H3,I3,w3⟩
  | cont=>
   obtain⟨σ3,H3,I3,n3⟩:=q3
   obtain⟨m',hm,w3⟩:=hN σ3 H3 n3
   exact⟨m',hm,σ3,H3,I3,w3⟩
  | brk=>exact q3
  | ret v=>exact q3
 | false=>
  rw[if_neg Bool.false_ne_true]
  exact wpAny_execs_nil ⟨σ1,H2,I2,q2⟩
end
structure It where
 go:Nat->Hp->Prop
 yld:Nat->Hp->V->Hp->Prop
 stop:Nat->Hp->Prop
def bT(X:Cx)(pins:List (Addr×Obj))(H:Hp)(b:Addr):Prop:=
 H b=none/\b≠X.env.locals/\b∉X.fs/\(b∈X.ex\/X.s₀.heap.objs.size<=b)/\(∀x c,X.env.cells.lookup x=some c->c≠b)/\∀p∈X.pn++pins,p.1≠b
theorem Inv.fpOk{X:Cx}{pins:List (Addr×Obj)}{σ:St}{H H':Hp}{s:Shared}{b:Addr}(I:Inv X pins σ H s)(hb:s.heap.objs.size<=b)(hn:H' b=none):bT X pins H' b:=by
 refine⟨hn,Nat.ne_of_gt (Nat.lt_of_lt_of_le I.lt hb),I.nofs hb,.inr (Nat.le_trans I.sz hb),fun x c e z=>?_,fun p hp z=>?_⟩
 ·obtain⟨v,q⟩:=I.cell x c e
  exact absurd (Nat.lt_of_lt_of_le q.lt (by rw[z];exact hb)) (Nat.lt_irrefl _)
 ·exact absurd (Nat.lt_of_lt_of_le (Heap.lt_size (I.pin p hp).1) (by rw[z];exact hb)) (Nat.lt_irrefl _)
structure Turn(P:Program)(w:World)(K:PySem.W.Frag)(tg:Expr)(J:It)(fp:List Addr)(it:Addr)(tn:Nat->Heap->Prop):Prop where
 mem:it∈fp
 obj:∀i h,tn i h->∀b∈fp,∃o,h.get? b=some o/\∀v,o.data≠.cell v
 keep:∀i h h',tn i h->(∀b∈fp,∀o,h.get? b=some o->h'.get? b=some o)->tn i h'
 item:∀(X:Cx),X.prog=P->X.w=w->X.K=K->X.calm=true->∀(i:Nat) (pins:List (Addr×Obj)) (s:Shared) (σ:St) (H:Hp) (E:Value->Shared->Prop),Inv X pins σ H s->(∀b∈fp,bT X pins H b)->tn i s.heap->J.go i H →
  wpAny (model P w) X.A (pyNext (.ref it)) (fun r s1=>∃u,r=some u ∧
   wpAny (model P w) X.A (letOwnedTupleGo tg (.ref it) u) (fun _ s2=>∃x H',Inv X pins σ H' s2/\RelV x u/\J.yld i H x H'/\tn (i+1) s2.heap/\∀b∈fp,H' b=none) E s1) E s
 done:∀(X:Cx),X.prog=P->X.w=w->X.K=K->X.calm=true->∀(i:Nat) (pins:List (Addr×Obj)) (s:Shared) (σ:St) (H:Hp) (E:Value->Shared->Prop),Inv X pins σ H s->(∀b∈fp,bT X pins H b)->tn i s.heap->J.stop i H →
  wpAny (model P w) X.A (pyNext (.ref it)) (fun r s1=>r=none/\Inv X pins σ H s1) E s
 self:∀(A:Around) (i:Nat) (s:Shared) (Q:Value->Shared->Prop) (E:Value->Shared->Prop),tn i s.heap->Q (.ref it) s->wpAny (model P w) A (pyIter (.ref it)) Q E s
abbrev TI:=St->Hp->(It->Hp->Prop)->Prop
def nu(X:Cx)(pins:List (Addr×Obj))(σ:St)(tg:Expr)(R:It->Hp->Prop)(itv:Value)(s2:Shared):Prop:=
 ∃(it:Addr) (fp:List Addr) (tn:Nat->Heap->Prop) (J:It) (H':Hp),itv=.ref it/\Inv X pins σ H' s2/\Turn X.prog X.w X.K tg J fp it tn/\tn 0 s2.heap/\(∀b∈fp,bT X pins H' b)/\R J H'
def PI(X:Cx)(tg iter:Expr)(wi:TI):Prop:=
 ∀(pins:List (Addr×Obj)) (s:Shared) (σ:St) (H:Hp) (R:It->Hp->Prop),Inv X pins σ H s->wi σ H R →
  wpAny (model X.prog X.w) X.A (eval iter X.env) (fun v s1=>wpAny (model X.prog X.w) X.A (pyIter v) (nu X pins σ tg R) X.xe s1) X.xe s
theorem gP {M : Model} {A : Around} {E : Value → Shared → Prop} {s : Shared} {tg : Expr} {it : Addr} {u : Value} {o : Obj} {n : String} {vs : Array Value} {Q : Unit → Shared → Prop} (ho : s.heap.get? it = some o) (hc : o.cls = .type n) (hd : o.data = .fields vs)
    (hn : ["enumerate", "zip", "dict_itemiterator", "dict_reverseitemiterator", "odict_iterator", "itertools.zip_longest", "itertools.pairwise"].contains n = false) (hQ : Q () s) : wpAny M A (letOwnedTupleGo tg (.ref it) u) Q E s := by
  unfold letOwnedTupleGo
  cases tg <;> first
    | exact wpAny_pure hQ
    | (cases u <;> first
        | exact wpAny_pure hQ
        | (refine wpAny_bind (wpAny_load ho ?_)
           rw [hc, hd]
           show wpAny M A (if (["enumerate", "zip", "dict_itemiterator", "dict_reverseitemiterator", "odict_iterator", "itertools.zip_longest", "itertools.pairwise"].contains n && vs[0]? == some (rawInt _)) = true then _ else _) Q E s
           rw [if_neg (by intro h; rw [hn, Bool.false_and] at h; cases h)]
           exact wpAny_pure hQ))
def bY(K:PySem.W.Frag)(a:Addr):It:=
 ⟨fun i H=>∃xs x,af K H a xs/\xs[i]?=some x,fun i H x H'=>H'=H/\∀xs,af K H a xs->xs[i]?=some x,fun i H=>∃xs,af K H a xs/\xs.length<=i⟩
def bS(K:PySem.W.Frag)(a:Addr):It:=
 ⟨fun i H=>∃xs x,ag K H a xs/\xs[i]?=some x,fun i H x H'=>H'=H/\∀xs,ag K H a xs->xs[i]?=some x,fun i H=>∃xs,ag K H a xs/\xs.length<=i⟩
def dU(lo:Int)(n:Nat):It:=⟨fun i _=>i<n,fun i H x H'=>H'=H/\x=.int (lo+i),fun i _=>n<=i⟩
theorem r6{P:Program}{w:World}{K:PySem.W.Frag}{tg:Expr}(a it:Addr):Turn P w K tg (bY K a) [it] it (fun i h=>h.IsListIter it a i) where
 mem:=by simp
 obj:=fun i h st b hb=>by
  have e:b=it:=by simpa using hb
  subst e
  obtain⟨o,e,c,d⟩:=st
  exact⟨o,e,fun v z=>by rw[d]at z;cases z⟩
 keep:=fun i h h' st k=>st.at fun o e=>k it (by simp) o e
 item:=by
  intro X hP hw hK hc i pins s σ H E I hf st hg
  subst hP hw hK
  obtain⟨xs,x,hq,hx⟩:=hg
  obtain⟨its,rv,p,hz⟩:=I.list hq
  obtain⟨u,hu,ru⟩:=rv.get hx
  obtain⟨f0,f1,f2,f3,f4,f5⟩:=hf it (by simp)
  refine wpAny_pyNext_list_item st p.isList (x:=u) (by simpa using hu) fun h' st' sb=>?_
  have I1:Inv X pins σ H { s with heap:=h' }:=I.turned (t':=s.toks) (fun b o hb e=>(sb.2 b hb).trans e) f0 f1 f3 f4 f5
  obtain⟨o,e,c,d⟩:=id st'
  exact⟨u,rfl,gP (s:={ s with heap:=h' }) e c d (by decide) ⟨x,H,I1,ru,⟨rfl,fun ys hy=>by rw[I.list_inj hy hq];exact hx⟩,st',fun b hb=>(hf b hb).1⟩⟩
 done:=by
  intro X hP hw hK hc i pins s σ H E I hf st hg
  subst hP hw hK
  obtain⟨xs,hq,hx⟩:=hg
  obtain⟨its,rv,p,hz⟩:=I.list hq
  obtain⟨f0,f1,f2,f3,f4,f5⟩:=hf it (by simp)
  have hl:=rv.length
  exact wpAny_pyNext_list_end (I.ok.hd hc) st p.isList (by simp;omega) fun h' eb=>⟨rfl,I.turned (t':=s.toks) (fun b o hb e=>eb b o hb e) f0 f1 f3 f4 f5⟩
 self:=fun _ _ _ _ _ st h=>wpAny_pyIter_listiter st h
theorem pP{P:Program}{w:World}{K:PySem.W.Frag}{tg:Expr}(a it:Addr):Turn P w K tg (bS K a) [it] it (fun i h=>h.IsTupleIter it a i) where
 mem:=by simp
 obj:=fun i h st b hb=>by
  have e:b=it:=by simpa using hb
  subst e
  obtain⟨o,e,c,d⟩:=st
  exact⟨o,e,fun v z=>by rw[d]at z;cases z⟩
 keep:=fun i h h' st k=>st.at fun o e=>k it (by simp) o e
 item:=by
  intro X hP hw hK hc i pins s σ H E I hf st hg
  subst hP hw hK
  obtain⟨xs,x,hq,hx⟩:=hg
  obtain⟨its,rv,p,hz⟩:=I.tuple hq
  obtain⟨u,hu,ru⟩:=rv.get hx
  obtain⟨f0,f1,f2,f3,f4,f5⟩:=hf it (by simp)
  refine wpAny_pyNext_tuple_item st (show s.heap.IsTuple a its.toArray from p) (x:=u) (by simpa using hu) fun h' st' sb=>?_
  have I1:Inv X pins σ H { s with heap:=h' }:=I.turned (t':=s.toks) (fun b o hb e=>(sb.2 b hb).trans e) f0 f1 f3 f4 f5
  obtain⟨o,e,c,d⟩:=id st'
  exact⟨u,rfl,gP (s:={ s with heap:=h' }) e c d (by decide) ⟨x,H,I1,ru,⟨rfl,fun ys hy=>by rw[I.tuple_inj hy hq];exact hx⟩,st',fun b hb=>(hf b hb).1⟩⟩
 done:=by
  intro X hP hw hK hc i pins s σ H E I hf st hg
  subst hP hw hK
  obtain⟨xs,hq,hx⟩:=hg
  obtain⟨its,rv,p,hz⟩:=I.tuple hq
  obtain⟨f0,f1,f2,f3,f4,f5⟩:=hf it (by simp)
  have hl:=rv.length
  exact wpAny_pyNext_tuple_end (I.ok.hd hc) st (show s.heap.IsTuple a its.toArray from p) (by simp;omega) fun h' eb=>⟨rfl,I.turned (t':=s.toks) (fun b o hb e=>eb b o hb e) f0 f1 f3 f4 f5⟩
 self:=fun _ _ _ _ _ st h=>wpAny_pyIter_tupleiter st h
theorem BV{P:Program}{w:World}{K:PySem.W.Frag}{tg:Expr}(it:Addr)(lo:Int)(n:Nat):Turn P w K tg (dU lo n) [it] it (fun i h=>IsRangeIter h it (lo+(i:Nat)*1) ((n:Int)-(i:Nat)) 1) where
 mem:=by simp
 obj:=fun i h st b hb=>by
  have e:b=it:=by simpa using hb
  subst e
  exact⟨_,st,fun v z=>by
   have z':Data.fields _=Data.cell v:=z
   cases z'⟩
 keep:=fun i h h' st k=>k it (by simp) _ st
 item:=by
  intro X hP hw hK hc i pins s σ H E I hf st hg
  subst hP hw hK
  obtain⟨f0,f1,f2,f3,f4,f5⟩:=hf it (by simp)
  have W:=Walks.range (prog:=X.prog) (w:=X.w) (I.ok.hd hc) it lo 1 n
  refine W.item i s _ _ hg st fun v h' tk hv st' kk=>?_
  obtain⟨t,rfl⟩:=hv
  have I1:Inv X pins σ H { s with heap:=h',toks:=tk }:=I.turned (fun b o hb e=>kk b o (by simpa using hb) e) f0 f1 f3 f4 f5
  refine⟨_,rfl,gP (s:={ s with heap:=h',toks:=tk }) (n:="range_iterator") st' rfl rfl (by decide) ⟨.int (lo+i),H,I1,⟨t,?_⟩,⟨rfl,rfl⟩,st',fun b hb=>(hf b hb).1⟩⟩
  rw[Int.mul_one]
 done:=by
  intro X hP hw hK hc i pins s σ H E I hf st hg
  subst hP hw hK
  obtain⟨f0,f1,f2,f3,f4,f5⟩:=hf it (by simp)
  exact wpAny_pyNext_range_end (I.ok.hd hc) st (by have:n<=i:=hg;omega) fun h' eb=>⟨rfl,I.turned (t':=s.toks) (fun b o hb e=>eb b o hb e) f0 f1 f3 f4 f5⟩
 self:=fun _ _ _ _ _ st h=>wpAny_pyIter_rangeiter st h
end L2
namespace L2
open PySem PySem.Spec PyProof.Rows
section
variable {X:Cx} {tg:Expr}
def nt(K:PySem.W.Frag)(tl:TE):TI:=fun σ H R=>tl σ H fun x H1=>∃a,x=.ref a/\(∃xs,af K H1 a xs)/\R (bY K a) H1
def mU(K:PySem.W.Frag)(tl:TE):TI:=fun σ H R=>tl σ H fun x H1=>∃a,x=.ref a/\(∃xs,ag K H1 a xs)/\R (bS K a) H1
theorem B3{l:Expr}{tl:TE}(hl:PE X l tl):PI X tg l (nt X.K tl):=by
 intro pins s σ H R I h
 refine aq (hl pins s σ H _ I h) fun v s1 ⟨x,H1,I1,r1,q1⟩=>?_
 obtain⟨a,e,⟨xs,hq⟩,q⟩:=q1
 subst e
 cases r1
 obtain⟨its,rv,p,hz⟩:=I1.list hq
 refine wpAny_pyIter_list p.isList ?_
 refine⟨s1.heap.objs.size,[s1.heap.objs.size],_,_,H1,rfl,I1.kept (t':=s1.toks) fun b o e=>Heap.get?_push_of_some _ e,r6 a _,⟨_,Heap.get?_push_size _ rfl,rfl,rfl⟩,fun b hb=>?_,q⟩
 have e:b=s1.heap.objs.size:=by simpa using hb
 subst e
 exact I1.fpOk (Nat.le_refl _) (I1.hok.fresh (Nat.le_refl _))
theorem CH{l:Expr}{tl:TE}(hl:PE X l tl):PI X tg l (mU X.K tl):=by
 intro pins s σ H R I h
 refine aq (hl pins s σ H _ I h) fun v s1 ⟨x,H1,I1,r1,q1⟩=>?_
 obtain⟨a,e,⟨xs,hq⟩,q⟩:=q1
 subst e
 cases r1
 obtain⟨its,rv,p,hz⟩:=I1.tuple hq
 refine wpAny_pyIter_tuple (show s1.heap.IsTuple a its.toArray from p) ?_
 refine⟨s1.heap.objs.size,[s1.heap.objs.size],_,_,H1,rfl,I1.kept (t':=s1.toks) fun b o e=>Heap.get?_push_of_some _ e,pP a _,⟨_,Heap.get?_push_size _ rfl,rfl,rfl⟩,fun b hb=>?_,q⟩
 have e:b=s1.heap.objs.size:=by simpa using hb
 subst e
 exact I1.fpOk (Nat.le_refl _) (I1.hok.fresh (Nat.le_refl _))
theorem zP{pins:List (Addr×Obj)}{σ:St}{H:Hp}{s:Shared}{R:It->Hp->Prop}{E:Value->Shared->Prop}{lo hi:Int}{t u v:Tok}{tk:Nat}(I:Inv X pins σ H s)(h1:-(2 ^ 62)<=lo)(h2:lo<2 ^ 62)(h3:-(2 ^ 62)<=hi)(h4:hi<2 ^ 62)
  (q:R (dU lo (hi-lo).toNat) H):wpAny (model X.prog X.w) X.A (pyIter (.ref s.heap.objs.size)) (nu X pins σ tg R) E { s with heap:=s.heap.push { cls:=.type "range",data:=.fields #[.int lo t,.int hi u,.int 1 v] },toks:=tk }:=by
 refine wpAny_pyIter_range (IsRange.new ..) (small_one h1 h2 h3 h4) ?_
 have I1:Inv X pins σ H { s with heap:=s.heap.push { cls:=.type "range",data:=.fields #[.int lo t,.int hi u,.int 1 v] },toks:=tk }:=I.kept fun b o e=>Heap.get?_push_of_some _ e
 refine⟨(s.heap.push { cls:=.type "range",data:=.fields #[.int lo t,.int hi u,.int 1 v] }).objs.size,[(s.heap.push { cls:=.type "range",data:=.fields #[.int lo t,.int hi u,.int 1 v] }).objs.size],_,_,H,rfl,
  I1.kept (t':=tk) fun b o e=>Heap.get?_push_of_some _ e,BV _ lo (hi-lo).toNat,?_,fun b hb=>?_,q⟩
 ·have e1:lo+((0:Nat):Int)*1=lo:=by simp
  have e2:(((hi-lo).toNat:Nat):Int)-((0:Nat):Int)=Builtin.Range.rangeSize lo hi 1:=by rw[rangeSize_one];split<;>omega
  show IsRangeIter _ _ (lo+((0:Nat):Int)*1) ((((hi-lo).toNat:Nat):Int)-((0:Nat):Int)) 1
  rw[e1,e2]
  exact Heap.get?_push_size _ rfl
 ·have e:b=(s.heap.push { cls:=.type "range",data:=.fields #[.int lo t,.int hi u,.int 1 v] }).objs.size:=by simpa using hb
  subst e
  exact I1.fpOk (Nat.le_refl _) (I1.hok.fresh (Nat.le_refl _))
def rL(ta:TA):TI:=fun σ H R=>ta σ H fun vs H1=>∃j:Int,vs=[.int j]/\-(2 ^ 62)<=j/\j<2 ^ 62/\R (dU 0 j.toNat) H1
theorem cW{a:Expr}{ta:TA}{p pos:Pos}(hg:Gl X "range")(hm:X.mg "range" = none)(ha:PA X [a] ta)(hs:starEach [a] X.env=[(false,eval a X.env)]:=by rfl):PI X tg (.Call (.Name "range" p) [a] [] pos) (rL ta):=by
 intro pins s σ H R I h
 refine Call_ (eZ I hg hm boot_range (PyProof.Rows.callWith_type1 (aq (ha pos pins s σ H _ I h) fun us s1 ⟨vs,H1,I1,r1,q1⟩=>?_) hs rfl))
 obtain⟨j,e,q1,q2,q⟩:=q1
 subst e
 cases r1 with
 | cons r rr=>
  cases rr
  obtain⟨t,rfl⟩:=r
  exact call_range_1 (zP I1 (by omega) (by omega) q1 q2 (by simpa using q))
def vi(wi:TI)(g:TG)(tb:TS):TS:=fun D σ H=>wi σ H fun J H1=>∃W:Nat->Nat->St->Hp->Prop,(∃m,W 0 m σ H1)/\∀i m σ H,W i m σ H →
 (J.stop i H/\D.nx σ H)\/(J.go i H/\∃N:St->Hp->Prop,(∀σ' H',N σ' H'->∃m',m'<m/\W (i+1) m' σ' H')/\∀x H',J.yld i H x H'->g x σ H' fun σ2 H2=>tb { D with nx:=N,ct:=N,bk:=D.nx } σ2 H2)
def fj(fp:List Addr)(h:Heap):List (Addr×Obj):=fp.filterMap fun b=>(h.get? b).map fun o=>(b,o)
theorem kW{fp:List Addr}{h:Heap}{b:Addr}{o:Obj}(hb:b∈fp)(e:h.get? b=some o):(b,o)∈fj fp h:=List.mem_filterMap.mpr ⟨b,hb,by rw[e];rfl⟩
theorem sU{fp:List Addr}{h:Heap}{p:Addr×Obj}(hp:p∈fj fp h):p.1∈fp/\h.get? p.1=some p.2:=by
 obtain⟨b,hb,e⟩:=List.mem_filterMap.mp hp
 cases q:h.get? b with
 | none=>rw[q]at e;cases e
 | some o=>
  rw[q]at e
  have e':(b,o)=p:=Option.some.inj e
  subst e'
  exact⟨hb,q⟩
theorem Inv.pinned{pins:List (Addr×Obj)}{σ:St}{H:Hp}{s:Shared}{fp:List Addr}(I:Inv X pins σ H s)(hf:∀b∈fp,bT X pins H b)(ho:∀b∈fp,∃o,s.heap.get? b=some o/\∀v,o.data≠.cell v):Inv X (pins++fj fp s.heap) σ H s:=
 I.pins_of fun p hp=>(List.mem_append.mp hp).elim (fun z=>I.pin p (List.mem_append_right _ z)) fun z=>by
  obtain⟨hb,e⟩:=sU z
  obtain⟨f0,f1,f2,_⟩:=hf p.1 hb
  obtain⟨o,e',d⟩:=ho p.1 hb
  rw[e]at e';cases e'
  exact⟨e,f0,f1,f2,d⟩
theorem Inv.unpinned{pins pl:List (Addr×Obj)}{σ:St}{H:Hp}{s:Shared}(I:Inv X (pins++pl) σ H s):Inv X pins σ H s:=I.pins_of fun p hp=>I.pin p (List.mem_append_right _ (List.mem_append_left _ hp))
theorem bC{iter:Expr}{body:List Stmt}{wi:TI}{g:TG}{tb:TS}{pos:Pos}(hp:PassesOwn (model X.prog X.w) X.A X.env X.xe)(hc:X.calm=true)(hi:PI X tg iter wi)(hg:PG X tg g)(hb:cn X body tb)
  (hs:∀x,foldedSetIterable iter X.env x=pure x:=by intro _;rfl):PS X (.For tg iter body [] pos) (vi wi g tb):=by
 intro pins s σ H D I h
 refine wpAny_For (aq (hi pins s σ H _ I h) fun v s1 h1=>aq h1 fun itv s2 h2=>?_) hs
 obtain⟨it,fp,tn,J,H2,e,I2,T,st2,f2,W,⟨m0,w0⟩,turn⟩:=h2
 subst e
 -- what stays true of the iterator's objects through the loop
 have stat:∀{H':Hp},(∀b∈fp,H' b=none)->∀b∈fp,bT X pins H' b:=fun hn b hb=>⟨hn b hb,(f2 b hb).2⟩
 refine codeAny_forLoop_any (fun n s'=>∃i σ' H',Inv X pins σ' H' s'/\tn i s'.heap/\(∀b∈fp,H' b=none)/\W i n σ' H') ?_ m0 ⟨0,σ,H2,I2,st2,fun b hb=>(f2 b hb).1,w0⟩
 rintro n s3 ⟨i,σ3,H3,I3,st3,fr3,w3⟩
 rcases turn i n σ3 H3 w3 with⟨stop,qn⟩ | ⟨go,N,hN,step⟩
 ·refine wpAny_passesOwn hp (aq (T.done X rfl rfl rfl hc i pins s3 σ3 H3 X.xe I3 (stat fr3) st3 stop) fun r s4 ⟨hr,I4⟩=>?_)
  subst hr
  exact wpAny_execs_nil ⟨σ3,H3,I4,qn⟩
 ·refine wpAny_passesOwn hp (aq (T.item X rfl rfl rfl hc i pins s3 σ3 H3 X.xe I3 (stat fr3) st3 go) fun r s4 ⟨u,hr,h4⟩=>?_)
  subst hr
  refine wpAny_passesOwn hp (aq h4 fun _ s5 ⟨x,H5,I5,r5,y5,st5,fr5⟩=>?_)
  have I5':=I5.pinned (stat fr5) (T.obj _ _ st5)
  refine wpAny_passesOwn hp (aq (hg _ s5 σ3 H5 x u _ I5' r5 (step x H5 y5)) fun _ s6 ⟨σ6,H6,I6,q6⟩=>?_)
  refine wpAny_passesOwn hp (aq (hb _ s6 σ6 H6 _ I6 q6) fun f s7 q7=>?_)
  have again:∀{σ7:St} {H7:Hp},Inv X (pins++fj fp s5.heap) σ7 H7 s7->N σ7 H7->∃m,m<n/\∃i σ' H',Inv X pins σ' H' s7/\tn i s7.heap/\(∀b∈fp,H' b=none)/\W i m σ' H':=fun{σ7 H7} I7 n7=>by
   obtain⟨m',hm,w7⟩:=hN σ7 H7 n7
   refine⟨m',hm,i+1,σ7,H7,I7.unpinned,T.keep _ _ _ st5 fun b hb o e=>(I7.pin (b,o) (List.mem_append_right _ (List.mem_append_right _ (kW hb e)))).1,fun b hb=>?_,w7⟩
   obtain⟨o,e,d⟩:=T.obj _ _ st5 b hb
   exact(I7.pin (b,o) (List.mem_append_right _ (List.mem_append_right _ (kW hb e)))).2.1
  cases f with
  | next=>obtain⟨σ7,H7,I7,n7⟩:=q7;exact again I7 n7
  | cont=>obtain⟨σ7,H7,I7,n7⟩:=q7;exact again I7 n7
  | brk=>obtain⟨σ7,H7,I7,q7⟩:=q7;exact⟨σ7,H7,I7.unpinned,q7⟩
  | ret v=>obtain⟨x7,σ7,H7,I7,r7,q7⟩:=q7;exact⟨x7,σ7,H7,I7.unpinned,r7,q7⟩
end
theorem AV{K:PySem.W.Frag}{a:Addr}{xs:List V}{g:TG}{tb:TS}{D:Ends}{σ:St}{H:Hp}(Pv:Nat->St->Hp->Prop)(h0:Pv 0 σ H)(hl:∀i σ H,i<=xs.length->Pv i σ H->af K H a xs)
  (hs:∀i x σ H,xs[i]?=some x->Pv i σ H->g x σ H fun σ2 H2=>tb { D with nx:=Pv (i+1),ct:=Pv (i+1),bk:=D.nx } σ2 H2) (hd:∀σ H,Pv xs.length σ H->D.nx σ H) :
  ∃W:Nat->Nat->St->Hp->Prop,(∃m,W 0 m σ H)/\∀i m σ H,W i m σ H →
   ((bY K a).stop i H/\D.nx σ H)\/((bY K a).go i H/\∃N:St->Hp->Prop,(∀σ' H',N σ' H'->∃m',m'<m/\W (i+1) m' σ' H')/\∀x H',(bY K a).yld i H x H'->g x σ H' fun σ2 H2=>tb { D with nx:=N,ct:=N,bk:=D.nx } σ2 H2):=by
 refine⟨fun i m σ H=>m=xs.length-i/\i<=xs.length/\Pv i σ H,⟨xs.length,by simp,Nat.zero_le _,h0⟩,?_⟩
 rintro i m σ H ⟨rfl,hi,p⟩
 have q:=hl i σ H hi p
 by_cases hlt:i<xs.length
 ·refine .inr ⟨⟨xs,xs[i],q,by simp[hlt]⟩,Pv (i+1),fun σ' H' p'=>⟨xs.length-(i+1),by omega,rfl,hlt,p'⟩,fun x H' y=>?_⟩
  obtain⟨e,y⟩:=y
  subst e
  exact hs i x σ _ (y xs q) p
 ·have e:i=xs.length:=by omega
  subst e
  exact .inl ⟨⟨xs,q,Nat.le_refl _⟩,hd σ H p⟩
theorem Ag{K:PySem.W.Frag}{a:Addr}{xs:List V}{g:TG}{tb:TS}{D:Ends}{σ:St}{H:Hp}(Pv:Nat->St->Hp->Prop)(h0:Pv 0 σ H)(hl:∀i σ H,i<=xs.length->Pv i σ H->ag K H a xs)
  (hs:∀i x σ H,xs[i]?=some x->Pv i σ H->g x σ H fun σ2 H2=>tb { D with nx:=Pv (i+1),ct:=Pv (i+1),bk:=D.nx } σ2 H2) (hd:∀σ H,Pv xs.length σ H->D.nx σ H) :
  ∃W:Nat->Nat->St->Hp->Prop,(∃m,W 0 m σ H)/\∀i m σ H,W i m σ H →
   ((bS K a).stop i H/\D.nx σ H)\/((bS K a).go i H/\∃N:St->Hp->Prop,(∀σ' H',N σ' H'->∃m',m'<m/\W (i+1) m' σ' H')/\∀x H',(bS K a).yld i H x H'->g x σ H' fun σ2 H2=>tb { D with nx:=N,ct:=N,bk:=D.nx } σ2 H2):=by
 refine⟨fun i m σ H=>m=xs.length-i/\i<=xs.length/\Pv i σ H,⟨xs.length,by simp,Nat.zero_le _,h0⟩,?_⟩
 rintro i m σ H ⟨rfl,hi,p⟩
 have q:=hl i σ H hi p
 by_cases hlt:i<xs.length
 ·refine .inr ⟨⟨xs,xs[i],q,by simp[hlt]⟩,Pv (i+1),fun σ' H' p'=>⟨xs.length-(i+1),by omega,rfl,hlt,p'⟩,fun x H' y=>?_⟩
  obtain⟨e,y⟩:=y
  subst e
  exact hs i x σ _ (y xs q) p
 ·have e:i=xs.length:=by omega
  subst e
  exact .inl ⟨⟨xs,q,Nat.le_refl _⟩,hd σ H p⟩
theorem yQ{lo:Int}{n:Nat}{g:TG}{tb:TS}{D:Ends}{σ:St}{H:Hp}(Pv:Nat->St->Hp->Prop)(h0:Pv 0 σ H)
  (hs:∀i σ H,i<n->Pv i σ H->g (.int (lo+i)) σ H fun σ2 H2=>tb { D with nx:=Pv (i+1),ct:=Pv (i+1),bk:=D.nx } σ2 H2) (hd:∀σ H,Pv n σ H->D.nx σ H) :
  ∃W:Nat->Nat->St->Hp->Prop,(∃m,W 0 m σ H)/\∀i m σ H,W i m σ H →
   ((dU lo n).stop i H/\D.nx σ H)\/((dU lo n).go i H/\∃N:St->Hp->Prop,(∀σ' H',N σ' H'->∃m',m'<m/\W (i+1) m' σ' H')/\∀x H',(dU lo n).yld i H x H'->g x σ H' fun σ2 H2=>tb { D with nx:=N,ct:=N,bk:=D.nx } σ2 H2):=by
 refine⟨fun i m σ H=>m=n-i/\i<=n/\Pv i σ H,⟨n,by simp,Nat.zero_le _,h0⟩,?_⟩
 rintro i m σ H ⟨rfl,hi,p⟩
 by_cases hlt:i<n
 ·refine .inr ⟨hlt,Pv (i+1),fun σ' H' p'=>⟨n-(i+1),by omega,rfl,hlt,p'⟩,fun x H' y=>?_⟩
  obtain⟨e,y⟩:=y
  subst e y
  exact hs i σ _ hlt p
 ·have e:i=n:=by omega
  subst e
  exact .inl ⟨Nat.le_refl _,hd σ H p⟩
end L2
namespace L2
open PySem PySem.Spec PyProof.Rows
abbrev R2:=V->V->Hp->VK->Prop
def bg(X:Cx)(f:Value->Value->Sem Value)(r:R2):Prop:=
 ∀(pins:List (Addr×Obj)) (s:Shared) (σ:St) (H:Hp) (x y:V) (v u:Value) (Q:VK),Inv X pins σ H s->RelV x v->RelV y u->r x y H Q →
  wpAny (model X.prog X.w) X.A (f v u) (EP X pins σ Q) X.xe s
def kN(X:Cx)(f:Value->Sem Value)(r:V->Hp->VK->Prop):Prop:=
 ∀(pins:List (Addr×Obj)) (s:Shared) (σ:St) (H:Hp) (x:V) (v:Value) (Q:VK),Inv X pins σ H s->RelV x v->r x H Q →
  wpAny (model X.prog X.w) X.A (f v) (EP X pins σ Q) X.xe s
def bL(X:Cx)(f:Value)(r:List V->Hp->VK->Prop):Prop:=
 ∀(pins:List (Addr×Obj)) (s:Shared) (σ:St) (H:Hp) (xs:List V) (us:List Value) (Q:VK),Inv X pins σ H s->Vals xs us->r xs H Q →
  wpAny (model X.prog X.w) X.A (call f us) (EP X pins σ Q) X.xe s
def hJ(r:R2)(ta tb:TE):TE:=fun σ H Q=>ta σ H fun x H1=>tb σ H1 fun y H2=>r x y H2 Q
def sQ(r:V->Hp->VK->Prop)(ta:TE):TE:=fun σ H Q=>ta σ H fun x H1=>r x H1 Q
def rI(C:Int->Int->Prop)(g:Int->Int->V):R2:=fun x y H Q=>∃i j,x=.int i/\y=.int j/\C i j/\Q (g i j) H
def dG(g:Int->Int->V):R2:=fun x y H Q=>∃i j,x=.int i/\y=.int j/\Q (g i j) H
def rU(g:Int->V):V->Hp->VK->Prop:=fun x H Q=>∃i,x=.int i/\Q (g i) H
section
variable {X:Cx} {a b c:Expr} {ta tb tc:TE} {pos:Pos}
theorem lS(ha:PE X a ta)(hb:PE X b tb){pins:List (Addr×Obj)}{s:Shared}{σ:St}{H:Hp}{R:V->V->Hp->Prop}(I:Inv X pins σ H s)
  (h:ta σ H fun x H1=>tb σ H1 fun y H2=>R x y H2) {Q:Value->Shared->Prop} {f:Value->Value->Sem Value}
  (hf:∀v u s2 x y H2,Inv X pins σ H2 s2->RelV x v->RelV y u->R x y H2->wpAny (model X.prog X.w) X.A (f v u) Q X.xe s2) :
  wpAny (model X.prog X.w) X.A (eval a X.env) (fun v s₁=>wpAny (model X.prog X.w) X.A (eval b X.env) (fun u s₂=>wpAny (model X.prog X.w) X.A (f v u) Q X.xe s₂) X.xe s₁) X.xe s:=by
 refine aq (ha pins s σ H _ I h) fun v s1 ⟨x,H1,I1,r1,q1⟩=>?_
 refine aq (hb pins s1 σ H1 _ I1 q1) fun u s2 ⟨y,H2,I2,r2,q2⟩=>?_
 exact hf v u s2 x y H2 I2 r1 r2 q2
theorem ak{op:Operator}{r:R2}(ho:bg X (binaryOp op) r)(ha:PE X a ta)(hb:PE X b tb):PE X (.BinOp a op b pos) (hJ r ta tb):=by
 intro pins s σ H Q I h
 exact wpAny_BinOp (lS ha hb I h fun v u s2 x y H2 I2 rx ry q=>ho pins s2 σ H2 x y v u Q I2 rx ry q)
theorem lN{op:UnaryOp}{r:V->Hp->VK->Prop}(ho:kN X (unaryOp op) r)(ha:PE X a ta):PE X (.UnaryOp op a pos) (sQ r ta):=by
 intro pins s σ H Q I h
 exact UnaryOp_ (aq (ha pins s σ H _ I h) fun v s1 ⟨x,H1,I1,r1,q1⟩=>ho pins s1 σ H1 x v Q I1 r1 q1)
theorem gE{f:Value->Value->Sem Value}{C:Int->Int->Prop}{g:Int->Int->Int}
  (rule:∀(i j:Int) (t u:Tok) (s:Shared) (Q:Value->Shared->Prop) (E:Value->Shared->Prop),C i j->Q (.int (g i j) s.toks) { s with toks:=s.toks+1 }->wpAny (model X.prog X.w) X.A (f (.int i t) (.int j u)) Q E s) :
  bg X f (rI C fun i j=>.int (g i j)):=by
 intro pins s σ H x y v u Q I rx ry h
 obtain⟨i,j,rfl,rfl,hc,q⟩:=h
 obtain⟨t,rfl⟩:=rx
 obtain⟨t',rfl⟩:=ry
 exact rule i j t t' s _ _ hc ⟨.int (g i j),H,I.tok _,⟨_,rfl⟩,q⟩
theorem jY{f:Value->Value->Sem Value}{g:Int->Int->Int}
  (rule:∀(i j:Int) (t u:Tok) (s:Shared) (Q:Value->Shared->Prop) (E:Value->Shared->Prop),Q (.int (g i j) s.toks) { s with toks:=s.toks+1 }->wpAny (model X.prog X.w) X.A (f (.int i t) (.int j u)) Q E s) :
  bg X f (dG fun i j=>.int (g i j)):=by
 intro pins s σ H x y v u Q I rx ry h
 obtain⟨i,j,rfl,rfl,q⟩:=h
 obtain⟨t,rfl⟩:=rx
 obtain⟨t',rfl⟩:=ry
 exact rule i j t t' s _ _ ⟨.int (g i j),H,I.tok _,⟨_,rfl⟩,q⟩
theorem iY{f:Value->Value->Sem Value}{g:Int->Int->Bool}
  (rule:∀(i j:Int) (t u:Tok) (s:Shared) (Q:Value->Shared->Prop) (E:Value->Shared->Prop),Q (.bool (g i j)) s->wpAny (model X.prog X.w) X.A (f (.int i t) (.int j u)) Q E s) :
  bg X f (dG fun i j=>.bl (g i j)):=by
 intro pins s σ H x y v u Q I rx ry h
 obtain⟨i,j,rfl,rfl,q⟩:=h
 obtain⟨t,rfl⟩:=rx
 obtain⟨t',rfl⟩:=ry
 exact rule i j t t' s _ _ ⟨.bl (g i j),H,I,rfl,q⟩
def oF(i j:Int):Prop:=0<=j/\j<=1000000/\i.natAbs<2 ^ 64
def jL(i j:Int):Prop:=(-(2 ^ 64)<i/\i<2 ^ 64)\/(-(2 ^ 64)<j/\j<2 ^ 64)
theorem jL.ok{i j:Int}(h:jL i j):IntMulOk i j:=by
 rcases h with⟨h1,h2⟩ | ⟨h1,h2⟩
 ·exact .of_left (intBits_le_64 h1 h2)
 ·exact .of_right (intBits_le_64 h1 h2)
theorem A6(k:Nat):(0:Int)<=2 ^ k:=by
 rw[two_pow_cast]
 exact Int.natCast_nonneg _
theorem aN:bg X (binaryOp .Add) (dG fun i j=>.int (i+j)):=jY fun _ _ _ _ _ _ _ q=>add_int q
theorem cR:bg X (binaryOp .Sub) (dG fun i j=>.int (i-j)):=jY fun _ _ _ _ _ _ _ q=>sub_int q
theorem bU:bg X (binaryOp .Mult) (rI jL fun i j=>.int (i*j)):=gE fun _ _ _ _ _ _ _ hc q=>mul_int q hc.ok
theorem bQ:bg X (binaryOp .Mod) (rI (fun _ j=>0<j) fun i j=>.int (i % j)):=gE fun i j _ _ _ _ _ hc q=>by
 have h1:(0:Int)<j:=hc
 exact mod_int' (by omega) (by rw[Int.fmod_eq_emod_of_nonneg i (by omega)];exact q)
theorem iB:bg X (binaryOp .Pow) (rI oF fun i j=>.int (i ^ j.toNat)):=gE fun _ _ _ _ _ _ _ hc q=>pow_int_small hc.1 hc.2.1 hc.2.2 q
theorem vX:bg X (binaryOp .RShift) (rI (fun _ j=>0<=j) fun i j=>.int (i / 2 ^ j.toNat)):=gE fun i j _ _ _ _ _ hc q=>
 rshift_int hc (by rw[Int.fdiv_eq_ediv_of_nonneg i (A6 _)];exact q)
theorem sM:bg X (binaryOp .BitAnd) (dG fun i j=>.int (Builtin.bitAnd i j)):=jY fun _ _ _ _ _ _ _ q=>and_int q
theorem BI:bg X (binaryOp .BitOr) (dG fun i j=>.int (Builtin.bitOr i j)):=jY fun _ _ _ _ _ _ _ q=>or_int q
theorem A0{f:Value->Sem Value}{g:Int->Int}
  (rule:∀(i:Int) (t:Tok) (s:Shared) (Q:Value->Shared->Prop) (E:Value->Shared->Prop),Q (.int (g i) s.toks) { s with toks:=s.toks+1 }->wpAny (model X.prog X.w) X.A (f (.int i t)) Q E s) :
  kN X f (rU fun i=>.int (g i)):=by
 intro pins s σ H x v Q I rx h
 obtain⟨i,rfl,q⟩:=h
 obtain⟨t,rfl⟩:=rx
 exact rule i t s _ _ ⟨.int (g i),H,I.tok _,⟨_,rfl⟩,q⟩
theorem lQ:kN X (unaryOp .USub) (rU fun i=>.int (-i)):=A0 fun _ _ _ _ _ q=>neg_int q
end
def om:V->V->Bool
 | .non,.non=>true | .non,.int _=>true | .int _,.non=>true | .non,.bl _=>true | .bl _,.non=>true | .non,.str _=>true | .str _,.non=>true
 | .int _,.int _=>true | .bl _,.bl _=>true | .str _,.str _=>true | .byt _,.byt _=>true
 | .int _,.str _=>true | .str _,.int _=>true | .bl _,.str _=>true | .str _,.bl _=>true
 | _,_=>false
def ni:R2:=fun x y H Q=>om x y=true/\Q (.bl (decide (x=y))) H
def iT:R2:=fun x y H Q=>om x y=true/\Q (.bl (!decide (x=y))) H
theorem tP{i j:Int}:decide (V.int i=V.int j)=(i == j):=by
 rw[Bool.eq_iff_iff]
 simp
theorem mi{i j:Bool}:decide (V.bl i=V.bl j)=(i == j):=by
 rw[Bool.eq_iff_iff]
 simp
theorem ib{i j:Str}:decide (V.str i=V.str j)=(i == j):=by
 rw[Bool.eq_iff_iff]
 simp
theorem ub{i j:Array UInt8}:decide (V.byt i=V.byt j)=(i.toList == j.toList):=by
 rw[Bool.eq_iff_iff]
 cases i
 cases j
 simp
section
variable {X:Cx} {a b c:Expr} {ta tb tc:TE} {pos:Pos}
theorem bp{pins:List (Addr×Obj)}{σ:St}{H:Hp}{s:Shared}{Q:VK}{k k':Bool}(I:Inv X pins σ H s)(q:Q (.bl k) H)(e:k=k'):EP X pins σ Q (.bool k') s:=by
 subst e
 exact⟨.bl k,H,I,rfl,q⟩
theorem bE:bg X (compareOp .Eq) ni:=by
 intro pins s σ H x y v u Q I rx ry h
 obtain⟨hs,q⟩:=h
 cases x with
 | non=>
  cases rx
  cases y with
  | non=>cases ry;exact PySem.EqNone.eq_none_none (bp I q (by simp))
  | bl j=>cases ry;exact PySem.EqNone.eq_none_bool (bp I q (by simp))
  | int j=>obtain⟨t',rfl⟩:=ry;exact PySem.EqNone.eq_none_int (bp I q (by simp))
  | str j=>obtain⟨t',rfl⟩:=ry;exact PySem.EqNone.eq_none_str (bp I q (by simp))
  | _=>exact absurd (show false=true from hs) Bool.false_ne_true
 | bl i=>
  cases rx
  cases y with
  | non=>cases ry;exact PySem.EqNone.eq_bool_none (bp I q (by simp))
  | bl j=>cases ry;exact eq_bool (bp I q mi)
  | str j=>obtain⟨t',rfl⟩:=ry;exact PySem.EqMixed.eq_bool_str (bp I q (by simp))
  | _=>exact absurd (show false=true from hs) Bool.false_ne_true
 | int i=>
  obtain⟨t,rfl⟩:=rx
  cases y with
  | non=>cases ry;exact PySem.EqNone.eq_int_none (bp I q (by simp))
  | int j=>obtain⟨t',rfl⟩:=ry;exact eq_int (bp I q tP)
  | str j=>obtain⟨t',rfl⟩:=ry;exact PySem.EqMixed.eq_int_str (bp I q (by simp))
  | _=>exact absurd (show false=true from hs) Bool.false_ne_true
 | str i=>
  obtain⟨t,rfl⟩:=rx
  cases y with
  | non=>cases ry;exact PySem.EqNone.eq_str_none (bp I q (by simp))
  | bl j=>cases ry;exact PySem.EqMixed.eq_str_bool (bp I q (by simp))
  | int j=>obtain⟨t',rfl⟩:=ry;exact PySem.EqMixed.eq_str_int (bp I q (by simp))
  | str j=>obtain⟨t',rfl⟩:=ry;exact eq_str (bp I q ib)
  | _=>exact absurd (show false=true from hs) Bool.false_ne_true
 | byt i=>
  obtain⟨t,rfl⟩:=rx
  cases y with
  | byt j=>obtain⟨t',rfl⟩:=ry;exact PySem.W.eq_bytes (bp I q ub)
  | _=>exact absurd (show false=true from hs) Bool.false_ne_true
 | _=>cases y<;>exact absurd (show false=true from hs) Bool.false_ne_true
theorem fV:bg X (compareOp .NotEq) iT:=by
 intro pins s σ H x y v u Q I rx ry h
 obtain⟨hs,q⟩:=h
 cases x with
 | non=>
  cases rx
  cases y with
  | non=>cases ry;exact PySem.EqNone.ne_none_none (bp I q (by simp))
  | bl j=>cases ry;exact PySem.EqNone.ne_none_bool (bp I q (by simp))
  | int j=>obtain⟨t',rfl⟩:=ry;exact PySem.EqNone.ne_none_int (bp I q (by simp))
  | str j=>obtain⟨t',rfl⟩:=ry;exact PySem.EqNone.ne_none_str (bp I q (by simp))
  | _=>exact absurd (show false=true from hs) Bool.false_ne_true
 | bl i=>
  cases rx
  cases y with
  | non=>cases ry;exact PySem.EqNone.ne_bool_none (bp I q (by simp))
  | bl j=>cases ry;exact ne_bool (bp I q (congrArg not mi))
  | str j=>obtain⟨t',rfl⟩:=ry;exact PySem.EqMixed.ne_bool_str (bp I q (by simp))
  | _=>exact absurd (show false=true from hs) Bool.false_ne_true
 | int i=>
  obtain⟨t,rfl⟩:=rx
  cases y with
  | non=>cases ry;exact PySem.EqNone.ne_int_none (bp I q (by simp))
  | int j=>obtain⟨t',rfl⟩:=ry;exact ne_int (bp I q (congrArg not tP))
  | str j=>obtain⟨t',rfl⟩:=ry;exact PySem.EqMixed.ne_int_str (bp I q (by simp))
  | _=>exact absurd (show false=true from hs) Bool.false_ne_true
 | str i=>
  obtain⟨t,rfl⟩:=rx
  cases y with
  | non=>cases ry;exact PySem.EqNone.ne_str_none (bp I q (by simp))
  | bl j=>cases ry;exact PySem.EqMixed.ne_str_bool (bp I q (by simp))
  | int j=>obtain⟨t',rfl⟩:=ry;exact PySem.EqMixed.ne_str_int (bp I q (by simp))
  | str j=>obtain⟨t',rfl⟩:=ry;exact ne_str (bp I q (congrArg not ib))
  | _=>exact absurd (show false=true from hs) Bool.false_ne_true
 | byt i=>
  obtain⟨t,rfl⟩:=rx
  cases y with
  | byt j=>obtain⟨t',rfl⟩:=ry;exact PySem.W.ne_bytes (bp I q (congrArg not ub))
  | _=>exact absurd (show false=true from hs) Bool.false_ne_true
 | _=>cases y<;>exact absurd (show false=true from hs) Bool.false_ne_true
theorem fc:bg X (compareOp .Lt) (dG fun i j=>.bl (decide (i<j))):=iY fun _ _ _ _ _ _ _ q=>lt_int q
theorem jr:bg X (compareOp .LtE) (dG fun i j=>.bl (decide (i<=j))):=iY fun _ _ _ _ _ _ _ q=>le_int q
theorem eB:bg X (compareOp .Gt) (dG fun i j=>.bl (decide (j<i))):=iY fun _ _ _ _ _ _ _ q=>gt_int q
theorem tm:bg X (compareOp .GtE) (dG fun i j=>.bl (decide (j<=i))):=iY fun _ _ _ _ _ _ _ q=>ge_int q
theorem CD:bg X (compareOp .Is) (fun x y H Q=>y=.non/\Q (.bl (decide (x=.non))) H):=by
 intro pins s σ H x y v u Q I rx ry h
 obtain⟨rfl,q⟩:=h
 cases ry
 refine is_none_gen (bp I q ?_)
 cases x<;>first
  | (cases rx;rfl)
  | (obtain⟨t,rfl⟩:=rx;rfl)
theorem Ax:bg X (compareOp .IsNot) (fun x y H Q=>y=.non/\Q (.bl (!decide (x=.non))) H):=by
 intro pins s σ H x y v u Q I rx ry h
 obtain⟨rfl,q⟩:=h
 cases ry
 refine isnot_none_gen (bp I q ?_)
 cases x<;>first
  | (cases rx;rfl)
  | (obtain⟨t,rfl⟩:=rx;rfl)
theorem aF(b:Expr){op:CmpOp}(h:op≠.In:=by decide)(h2:op≠.NotIn:=by decide):behindInMarks op b=false:=by
 have e1:(op == CmpOp.In)=false:=by cases op<;>first | rfl | exact absurd rfl h
 have e2:(op == CmpOp.NotIn)=false:=by cases op<;>first | rfl | exact absurd rfl h2
 cases b<;>simp[behindInMarks,e1,e2]
theorem fb{op:CmpOp}{r:R2}(ho:bg X (compareOp op) r)(ha:PE X a ta)(hb:PE X b tb)(hm:behindInMarks op b=false):PE X (.Compare a [op] [b] pos) (hJ r ta tb):=by
 intro pins s σ H Q I h
 exact wpAny_Compare1 (lS ha hb I h fun v u s2 x y H2 I2 rx ry q=>ho pins s2 σ H2 x y v u Q I2 rx ry q) hm
def qC(t:TE):TT:=fun σ H Q=>t σ H fun x H'=>∃k,x=.bl k/\Q k H'
theorem aL{op:CmpOp}{r:R2}(ho:bg X (compareOp op) r)(ha:PE X a ta)(hb:PE X b tb)(hm:behindInMarks op b=false):PT X (.Compare a [op] [b] pos) (qC (hJ r ta tb)):=by
 intro pins s σ H Q I h
 refine wpAny_isTrue_Compare1 (aq (ha pins s σ H _ I h) fun v s1 ⟨x,H1,I1,r1,q1⟩=>aq (hb pins s1 σ H1 _ I1 q1) fun u s2 ⟨y,H2,I2,r2,q2⟩=>
  aq (ho pins s2 σ H2 x y v u _ I2 r1 r2 q2) fun c s3 ⟨z,H3,I3,r3,k,e,q3⟩=>?_) hm
 subst e
 cases r3
 exact wpAny_truthy_bool ⟨H3,I3,q3⟩
def uC(r r':R2)(ta tb tc:TE):TE:=fun σ H Q=>ta σ H fun x H1=>tb σ H1 fun y H2=>r x y H2 fun z H3=>∃k,z=.bl k ∧
 (if k=true then tc σ H3 fun w' H4=>r' y w' H4 Q else Q (.bl false) H3)
theorem kZ{op op':CmpOp}{r r':R2}(ho:bg X (compareOp op) r)(ho':bg X (compareOp op') r')(ha:PE X a ta)(hb:PE X b tb)(hc:PE X c tc)
  (hm:lastMarks [op,op'] [b,c]=false:=by with_unfolding_all rfl):PE X (.Compare a [op,op'] [b,c] pos) (uC r r' ta tb tc):=by
 intro pins s σ H Q I h
 refine Compare_chain (aq (ha pins s σ H _ I h) fun v s1 ⟨x,H1,I1,r1,q1⟩=>chain_link (aq (hb pins s1 σ H1 _ I1 q1) fun u s2 ⟨y,H2,I2,r2,q2⟩=>
  aq (ho pins s2 σ H2 x y v u _ I2 r1 r2 q2) fun d s3 ⟨z,H3,I3,r3,k,e,q3⟩=>?_)) hm
 subst e
 cases r3
 refine wpAny_truthy_bool ?_
 cases k with
 | false=>exact ite_ff ⟨.bl false,H3,I3,rfl,q3⟩
 | true=>exact ite_tt (chain_last (aq (hc pins s3 σ H3 _ I3 q3) fun w' s4 ⟨z',H4,I4,r4,q4⟩=>ho' pins s4 σ H4 y z' u w' Q I4 r2 r4 q4))
theorem gp:(sizeLine:Nat)<2 ^ 63:=by rw[sizeLine_eq];decide
theorem rR:bg X (binaryOp .Add) (fun x y H Q=>∃i j,x=.str i/\y=.str j/\i.length+j.length<=sizeLine/\Q (.str (i++j)) H):=by
 intro pins s σ H x y v u Q I rx ry h
 obtain⟨i,j,rfl,rfl,hz,q⟩:=h
 obtain⟨t,rfl⟩:=rx
 obtain⟨t',rfl⟩:=ry
 exact add_str (fun t' tk=>⟨.str (i++j),H,I.tok _,⟨_,rfl⟩,q⟩) hz
theorem vals1{x:V}{us:List Value}(r:Vals [x] us):∃u,us=[u]/\RelV x u:=by
 cases r with
 | cons r1 r2=>cases r2;exact⟨_,rfl,r1⟩
theorem vals2{x y:V}{us:List Value}(r:Vals [x,y] us):∃u w',us=[u,w']/\RelV x u/\RelV y w':=by
 cases r with
 | cons r1 r2=>
  cases r2 with
  | cons r3 r4=>cases r4;exact⟨_,_,rfl,r1,r3⟩
theorem wG(hc:X.calm=true):bL X (.builtin "max") (fun xs H Q=>∃i j,xs=[.int i,.int j]/\Q (.int (if j>i then j else i)) H):=by
 intro pins s σ H xs us Q I r h
 obtain⟨i,j,rfl,q⟩:=h
 obtain⟨u,w',rfl,⟨t,rfl⟩,⟨t',rfl⟩⟩:=vals2 r
 refine max_two_ints (I.ok.hd hc) fun h' tk k=>⟨_,H,I.kept k,?_,q⟩
 by_cases hj:j>i
 ·rw[if_pos hj,if_pos hj];exact⟨_,rfl⟩
 ·rw[if_neg hj,if_neg hj];exact⟨_,rfl⟩
theorem Bj(hc:X.calm=true):bL X (.builtin "min") (fun xs H Q=>∃i j,xs=[.int i,.int j]/\Q (.int (if j<i then j else i)) H):=by
 intro pins s σ H xs us Q I r h
 obtain⟨i,j,rfl,q⟩:=h
 obtain⟨u,w',rfl,⟨t,rfl⟩,⟨t',rfl⟩⟩:=vals2 r
 refine min_two_ints (I.ok.hd hc) fun h' tk k=>⟨_,H,I.kept k,?_,q⟩
 by_cases hj:j<i
 ·rw[if_pos hj,if_pos hj];exact⟨_,rfl⟩
 ·rw[if_neg hj,if_neg hj];exact⟨_,rfl⟩
end
end L2
namespace L2
open PySem PySem.Spec PyProof.Rows
structure ObjM(h:Heap)(x dx C:Addr)(mA:Str->Option Value):Prop where
 obj:h.get? x=some (PySem.W.instObj C dx)
 ns:h.Ns1 dx mA
 ne:dx≠x
theorem Cb{h:Heap}{dx:Addr}{mA:Str->Option Value}(n:h.Ns1 dx mA):∃od,h.get? dx=some od/\∀name,PySem.W.lookIn name od=some (mA name):=by
 obtain⟨o,es,ep,ho,hd,hk,_,hm⟩:=n
 refine⟨o,ho,fun name=>?_⟩
 have e:=hm name
 unfold nsFind findBy at e
 rw[←Array.find?_toList]at e
 unfold PySem.W.lookIn
 rw[hd]
 dsimp only
 split
 ·rename_i y q
  rw[q]at e
  exact congrArg some e
 ·rename_i q
  rw[q]at e
  have a:es.toList.any (·.refKey)=false:=by
   rw[List.any_eq_false]
   intro y hy
   obtain⟨z,t,hkey⟩:=hk y (Array.mem_toList_iff.mp hy)
   simp[DictEntry.refKey,hkey]
  have a':¬es.toList.any (·.refKey)=true:=by rw[a];exact Bool.false_ne_true
  rw[if_neg a']
  exact congrArg some e
theorem ObjM.look{h:Heap}{x dx C:Addr}{mA:Str->Option Value}(I:ObjM h x dx C mA):∃od,PySem.W.InstAt h x (PySem.W.instObj C dx) C (some od)/\∀name,PySem.W.lookIn name od=some (mA name):=
 let ⟨od,ho,hl⟩:=Cb I.ns
 ⟨od,⟨I.obj,rfl,rfl,ho⟩,hl⟩
section
variable {prog:Program} {w:World} {A:Around} {E:Value->Shared->Prop} {s:Shared} {K:PySem.W.Frag} {x dx C f:Addr} {mA:Str->Option Value} {name:Str} {v:Value}
end
theorem dz.some_of{v:V}{o:Option Value}(r:dz (some v) o):∃u,o=some u/\RelV v u:=by
 cases o with
 | none=>exact(show False from r).elim
 | some u=>exact⟨u,rfl,r⟩
section
variable {P:Program} {w:World} {H H':Hp} {h h':Heap} {a C dx:Addr} {fs fs':List (Str×V)}
theorem zI(hok:br P w H h)(e:H a=some (.ins C dx fs)):∃mA,ObjM h a dx C mA/\(∀f,dz (fs.lookup f) (mA f))/\PySem.Within mA (fs.map (·.1))/\fs.length<=1000/\H dx=some (.own a):=by
 obtain⟨d,z,ne,ob,mA,n,r,q⟩:=(show bA P w H h a (.ins C dx fs)from hok a _ e)
 exact⟨mA,⟨ob,n,ne⟩,r,q,z,d⟩
end
structure Cls(K:PySem.W.Frag)(C:Addr):Prop where
 pg:PySem.W.plainGet K C Str.empty=true
 hd:PySem.W.hasDictIn K C=true
 po:PySem.W.plainOver K C=true
 sa:PySem.W.findIn K (.ref C) "__setattr__" = some (some (.builtin "object.__setattr__"))
theorem Cls.get{K:PySem.W.Frag}{C:Addr}(c:Cls K C)(f:Str):PySem.W.plainGet K C f=true:=c.pg
section
variable {X:Cx} {pins:List (Addr×Obj)} {σ:St} {H:Hp} {s:Shared} {a C dx:Addr} {fs:List (Str×V)} {f:Str} {v:V} {A:Around} {E:Value->Shared->Prop}
end
section
variable {X:Cx} {o e value:Expr} {f:Str} {pos pos' tpos:Pos} {ta tv:TE}
end
section
variable {X:Cx} {pins:List (Addr×Obj)} {σ:St} {H:Hp} {s:Shared} {A:Around} {E:Value->Shared->Prop} {Q:Value->Shared->Prop} {c:Value} {b:Bool}
inductive TyOf(K:PySem.W.Frag)(H:Hp):V->Value->Prop where
 | non:TyOf K H .non (.type "NoneType")
 | bl (x:Bool):TyOf K H (.bl x) (.type "bool")
 | int (i:Int):TyOf K H (.int i) (.type "int")
 | str (x:Str):TyOf K H (.str x) (.type "str")
 | flt (x:UInt64):TyOf K H (.flt x) (.type "float")
 | lst {a:Addr} {xs:List V} (e:H a=some (.lst xs)):TyOf K H (.ref a) (.type "list")
 | frz {a:Addr} {o:Obj} {xs:List V} (e:H a=some (.frz o (.lst xs))):TyOf K H (.ref a) (.type "list")
 | tup {a:Addr} {xs:List V} (e:H a=some (.tup xs)):TyOf K H (.ref a) (.type "tuple")
 | dK {a:Addr} {kvs:List (Key×V)} (e:H a=some (.dK kvs)):TyOf K H (.ref a) (.type "dict")
 | dT {a:Addr} {kvs:List (List Key×V)} (e:H a=some (.dT kvs)):TyOf K H (.ref a) (.type "dict")
 | ins {a C dx:Addr} {fs:List (Str×V)} (e:H a=some (.ins C dx fs)) (cl:Cls K C) (ha:PySem.W.findIn K (.ref C) "__class__" = some (some (.builtin "object.__class__")))
   (hn:PySem.W.specialIn K (.builtin "object.__class__") "__get__" = some (some (.builtin "getset_descriptor.__get__"))) (htk:PySem.W.takesIn K (.builtin "object.__class__")=some true)
   (hm:PySem.W.mroIn K C (.type "object")=some true):TyOf K H (.ref a) (.ref C)
theorem BZ{x:V}{u t:Value}(I:Inv X pins σ H s)(rx:RelV x u)(ty:TyOf X.K H x t)(e:PySem.W.kitOne X.K t c=some b)(h:∀tk,Q (.bool b) { s with toks:=tk }):
  wpAny (model X.prog X.w) A (call (.builtin "isinstance") [u,c]) Q E s:=by
 cases ty with
 | non=>cases(show u=Value.none from rx);exact PySem.W.kia_one PySem.W.kitx_none I.kIn True.intro e (fun z=>nomatch z) h
 | bl y=>cases(show u=Value.bool y from rx);exact PySem.W.kia_one PySem.W.kitx_bool I.kIn True.intro e (fun z=>nomatch z) h
 | int i=>obtain⟨t,q⟩:=(show ∃t,u=Value.int i t from rx);cases q;exact PySem.W.kia_one PySem.W.kitx_int I.kIn True.intro e (fun z=>nomatch z) h
 | str y=>obtain⟨t,q⟩:=(show ∃t,u=Value.str y t from rx);cases q;exact PySem.W.kia_one PySem.W.kitx_str I.kIn True.intro e (fun z=>nomatch z) h
 | flt y=>obtain⟨t,q⟩:=(show ∃t,u=Value.float y t from rx);cases q;exact PySem.W.kia_one PySem.W.kitx_float I.kIn True.intro e (fun z=>nomatch z) h
 | @lst a xs ea=>
  cases(show u=Value.ref a from rx)
  obtain⟨_,_,n,_,h1⟩:=(show bA X.prog X.w H s.heap a (.lst xs)from I.hok a _ ea)
  exact PySem.W.kia_one PySem.W.kitx_list I.kIn ⟨_,h1,rfl⟩ e (fun z=>nomatch z) h
 | @frz a ob xs ea=>
  cases(show u=Value.ref a from rx)
  obtain⟨_,_,_,n,_,h1⟩:=(show bA X.prog X.w H s.heap a (.frz ob (.lst xs))from I.hok a _ ea)
  exact PySem.W.kia_one PySem.W.kitx_list I.kIn ⟨_,h1,rfl⟩ e (fun z=>nomatch z) h
 | @tup a xs ea=>
  cases(show u=Value.ref a from rx)
  obtain⟨_,_,_,p⟩:=(show bA X.prog X.w H s.heap a (.tup xs)from I.hok a _ ea)
  obtain⟨o,h1,h2,_⟩:=p
  exact PySem.W.kia_one PySem.W.kitx_tuple I.kIn ⟨o,h1,h2⟩ e (fun z=>nomatch z) h
 | @dK a kvs ea=>
  cases(show u=Value.ref a from rx)
  obtain⟨_,_,vs,_,p⟩:=(show bA X.prog X.w H s.heap a (.dK kvs)from I.hok a _ ea)
  obtain⟨o,es,ep,h1,h2,_⟩:=p
  exact PySem.W.kia_one PySem.W.kitx_dict I.kIn ⟨o,h1,h2.1⟩ e (fun z=>nomatch z) h
 | @dT a kvs ea=>
  cases(show u=Value.ref a from rx)
  obtain⟨_,_,xs,_,o,es,ep,h1,h2,_⟩:=(show bA X.prog X.w H s.heap a (.dT kvs)from I.hok a _ ea)
  exact PySem.W.kia_one PySem.W.kitx_dict I.kIn ⟨o,h1,h2.1⟩ e (fun z=>nomatch z) h
 | @ins a C dx fs ea cl ha hn htk hm=>
  cases(show u=Value.ref a from rx)
  obtain⟨mA,O,_⟩:=zI I.hok ea
  obtain⟨od,J,_⟩:=O.look
  exact PySem.W.kia_one (PySem.W.kitx_own (cl.get _) cl.hd ha hn htk hm) I.kIn J e (fun z=>nomatch z) h
end
end L2
namespace L2
open PySem PySem.Spec PyProof.Rows
structure Room(k:Nat)(A:Around):Prop where
 hd:A.handled=none
 dp:A.depth+3*k+5<recursionLimit
 un:A.units+16*k+200<cLine
theorem Room.mono{j k:Nat}{A:Around}(r:Room k A)(h:j<=k):Room j A:=⟨r.hd,by have:=r.dp;omega,by have:=r.un;omega⟩
theorem Room.deeper{k:Nat}{A:Around}(r:Room (k+1) A)(env:Env):Room k (A.deeper env):=
 ⟨r.hd,by have:=r.dp;show A.depth+1+3*k+5<_;omega,by have:=r.un;show A.units+3+16*k+200<_;omega⟩
theorem Room.depth{k:Nat}{A:Around}(r:Room k A):A.depth<recursionLimit:=by have:=r.dp;omega
theorem Room.units{k:Nat}{A:Around}(r:Room k A):A.units+64<cLine:=by have:=r.un;omega
def mh:TA:=fun _ H Q=>Q [] H
def ny(ta:TE)(tr:TA):TA:=fun σ H Q=>ta σ H fun x H1=>tr σ H1 fun xs H2=>Q (x::xs) H2
section
variable {X:Cx} {e:Expr} {es:List Expr} {te:TE} {t:TA} {pos:Pos}
theorem ab:PA X [] mh:=fun _ _ _ _ H Q I h=>Calls.spliced_nil ⟨[],H,I,.nil,h⟩
theorem aa(ha:PE X e te)(hr:PA X es t)(hs:starEach (e::es) X.env=(false,eval e X.env)::starEach es X.env:=by rfl):PA X (e::es) (ny te t):=by
 intro pos pins s σ H Q I h
 rw[hs]
 show wpAny _ _ (spliced ((false,eval e X.env)::backTo pos (starEach es X.env))) _ _ s
 refine Calls.spliced_cons (aq (ha pins s σ H _ I h) fun u s1 ⟨x,H1,I1,r1,q1⟩=>?_)
 exact aq (hr pos pins s1 σ H1 _ I1 q1) fun us s2 ⟨xs,H2,I2,r2,q2⟩=>⟨x::xs,H2,I2,.cons r1 r2,q2⟩
def mE(t:TA):TE:=fun σ H Q=>t σ H fun xs H1=>xs.length<=sizeLine/\∀p,H1 p=none->Q (.ref p) (upd H1 p (.tup xs))
def uE(t:TA):TE:=fun σ H Q=>t σ H fun xs H1=>xs.length<=sizeLine/\∀p,H1 p=none->Q (.ref p) (upd H1 p (.lst xs))
theorem aQ{x1}(h:PA X es t):PE X (.Tuple es x1 pos) (mE t):=by
 intro pins s σ H Q I hq
 refine wpAny_Tuple_spliced (aq (h pos pins s σ H _ I hq) fun us s1 ⟨xs,H1,I1,r,z,q⟩=>⟨by rw[←r.length];exact z,?_⟩)
 have hf:H1 s1.heap.objs.size=none:=I1.hok.fresh (Nat.le_refl _)
 refine⟨.ref s1.heap.objs.size,upd H1 s1.heap.objs.size (.tup xs),I1.laid (t':=s1.toks) (fun b u e=>Heap.get?_push_of_some _ e) (Nat.le_refl _) ?_,rfl,q _ hf⟩
 exact⟨z,us,r,⟨_,Heap.get?_push_size _ rfl,rfl,_,rfl⟩⟩
theorem aR(h:PA X es t):PE X (.List es pos) (uE t):=by
 intro pins s σ H Q I hq
 refine wpAny_List_spliced (aq (h pos pins s σ H _ I hq) fun us s1 ⟨xs,H1,I1,r,z,q⟩=>⟨by rw[←r.length];exact z,?_⟩)
 have hf:H1 s1.heap.objs.size=none:=I1.hok.fresh (Nat.le_refl _)
 refine⟨.ref s1.heap.objs.size,upd H1 s1.heap.objs.size (.lst xs),I1.laid (t':=s1.toks) (fun b u e=>Heap.get?_push_of_some _ e) (Nat.le_refl _) ?_,rfl,q _ hf⟩
 exact⟨z,us,0,r,Heap.get?_push_size _ rfl⟩
end
abbrev Sp:=List V->Hp->VK->XK->Prop
abbrev dD:=List Env->Hp->Shared->XK->Value->Shared->Prop
structure Env0(P:Program)(w:World)(K:PySem.W.Frag)(mg:Str->Option Value)(base:Heap)(A:Around)(outer:List Env)(s:Shared)(H:Hp):Prop where
 frames:A.frames=some outer
 mod:Mod K mg base
 bs:∀b o,base.get? b=some o->s.heap.get? b=some o/\H b=none
 bsz:base.objs.size<=s.heap.objs.size
 funs:s.heap.FunFrames base outer
 frf:∀b∈cP outer,H b=none
 hok:br P w H s.heap
 bare:AllBare s.gens
def CE(outer:List Env)(P:Program)(w:World)(H:Hp)(s:Shared)(Q:VK)(u:Value)(s':Shared):Prop:=
 ∃v H',s'.os=s.os/\AllBare s'.gens/\Un (cP outer) [] H H' s.heap s'.heap/\br P w H' s'.heap/\RelV v u/\Q v H'
def CR(CX:dD)(outer:List Env)(P:Program)(w:World)(H:Hp)(s:Shared)(Q:VK)(E:XK)(r:Result)(s':Shared):Prop:=
 match r with
 | .ok (.ret u)=>CE outer P w H s Q u s'
 | .ok _=>False
 | .error e=>CX outer H s E e s'
structure FnOk(P:Program)(w:World)(K:PySem.W.Frag)(mg:Str->Option Value)(base:Heap)(CX:dD)(k:Nat)(f:Addr)(fd:FuncData)(ps:List Str)(sp:Sp):Prop where
 len:∀vs H Q E,sp vs H Q E->vs.length=ps.length
 run:∀(A:Around) (outer:List Env) (s:Shared) (H:Hp) (args:Args) (us:List Value) (vs:List V) (Q:VK) (E:XK),Room k A->Env0 P w K mg base A outer s H->BindsTo s fd args (ps.zip us)->Vals vs us->sp vs H Q E →
  codeAny (model P w) A (.call (.ref f) args) (CR CX outer P w H s Q E) s
section
variable {X:Cx} {pins:List (Addr×Obj)} {σ:St} {H:Hp} {s s':Shared}
theorem Inv.env0(I:Inv X pins σ H s):Env0 X.prog X.w X.K X.mg X.base X.A X.stack s H:=
 ⟨I.ok.frames,I.ok.mod,I.bs,Nat.le_trans I.ok.bsz I.sz,I.stack,I.stkFree,I.hok,I.bare⟩
theorem Inv.after{Q:VK}{u:Value}(I:Inv X pins σ H s)(h:CE X.stack X.prog X.w H s Q u s'):EP X pins σ Q u s':=by
 obtain⟨v,H',os,bare,un,hok,r,q⟩:=h
 obtain⟨hh,g,d,t,os'⟩:=s'
 obtain rfl:os'=s.os:=os
 exact⟨v,H',I.call (h':=hh) (g':=g) (d':=d) (t':=t) (ch:=[]) un hok bare (fun b z=>absurd z (by simp)),r,q⟩
end
def gL(sp:Sp)(dvs:List V)(E:XK)(t:TA):TE:=fun σ H Q=>t σ H fun vs H1=>sp (vs++dvs) H1 Q E
def Binds(K:PySem.W.Frag)(fd:FuncData)(ps:List Str)(ds:List Value):Prop:=
 ∀(s:Shared) (us:List Value),K.In s.heap->(us++ds).length=ps.length->BindsTo s fd ⟨us,[]⟩ (ps.zip (us++ds))
theorem Binds.all{K:PySem.W.Frag}{fd:FuncData}{ps:List Str}(h:∀us:List Value,us.length=ps.length->bindArgs fd ⟨us,[]⟩=pure (ps.zip us)):Binds K fd ps []:=fun s us _ hl=>by
 rw[List.append_nil]at hl ⊢
 exact .of_eq (h us hl)
def Passes(CX:dD)(X:Cx)(E:XK):Prop:=∀(pins:List (Addr×Obj)) (σ:St) (H:Hp) (s:Shared) (e:Value) (s':Shared),Inv X pins σ H s->CX X.stack H s E e s'->X.xe e s'
section
variable {X:Cx} {CX:dD} {k:Nat} {f C:Addr} {fd:FuncData} {ps:List Str} {sp:Sp} {dvs:List V} {ds:List Value} {E:XK} {x m:Str} {p pos apos:Pos} {e o:Expr} {es:List Expr} {ta:TE} {t:TA}
theorem zC{pins:List (Addr×Obj)}{σ:St}{H:Hp}{s:Shared}{Q:VK}{us:List Value}{vs:List V}(F:FnOk X.prog X.w X.K X.mg X.base CX k f fd ps sp)(hr:Room k X.A)(hb:Binds X.K fd ps ds)(hd:Vals dvs ds)(hx:Passes CX X E)
  (I:Inv X pins σ H s) (r:Vals vs us) (h:sp (vs++dvs) H Q E):wpAny (model X.prog X.w) X.A (call (.ref f) us) (EP X pins σ Q) X.xe s:=by
 have r2:Vals (vs++dvs) (us++ds):=r.append hd
 have hl:(us++ds).length=ps.length:=by rw[←r2.length];exact F.len _ _ _ _ h
 refine wpAny_call (codeAny_mono (F.run X.A X.stack s H ⟨us,[]⟩ (us++ds) (vs++dvs) Q E hr I.env0 (hb s us I.kIn hl) r2 h) fun r s' hq=>?_)
 cases r with
 | error e=>exact hx pins σ H s e s' I hq
 | ok fl=>
  cases fl with
  | ret u=>exact I.after hq
  | next=>exact False.elim hq
  | brk=>exact False.elim hq
  | cont=>exact False.elim hq
theorem vS(F:FnOk X.prog X.w X.K X.mg X.base CX k f fd ps sp)(hr:Room k X.A)(hg:Gl X x)(hm:X.mg x=some (.ref f))(hk:PySem.W.keepIn X.K (.ref f)=true)(hb:Binds X.K fd ps ds)(hd:Vals dvs ds)(hx:Passes CX X E)
  (ha:PA X (e::es) t) (hdb:(x == ("__debug__":Str))=false:=by decide) (he:starEach (e::es) X.env=(false,eval e X.env)::starEach es X.env:=by rfl) (hpl:(backTo pos (starEach es X.env)).any (·.1)=false:=by rfl) :
  PE X (.Call (.Name x p) (e::es) [] pos) (gL sp dvs E t):=by
 intro pins s σ H Q I h
 refine wpAny_Call_Name_kw (jf I hg hm ?_ hdb)
 refine PySem.W.callWith_K (h₀:=X.base) I.ok.mod.kin hk (aq (ha pos pins s σ H _ I h) fun us s1 ⟨vs,H1,I1,r,q⟩=>⟨I1.kIn,?_⟩) he hpl
 exact zC F hr hb hd hx I1 r q
end
section
variable {X:Cx} {CX:dD} {k:Nat} {f C:Addr} {fd:FuncData} {ps ks:List Str} {sp:Sp} {E:XK} {x m:Str} {p pos apos kpos:Pos} {e o:Expr} {es:List Expr} {kws:List Keyword} {te ta:TE} {t tk:TA} {nm:Option Str}
variable {g:List Value->List Value->List Value} {gV:List V->List V->List V}
end
structure FnScope(N P:List Str)(sc:Scope):Prop where
 kind:sc.kind=.function
 co:sc.isCoroutine=false
 gen:sc.isGenerator=false
 nd:N.Nodup
 pre:N.take P.length=P
 par:∀x∈P,sc.names.lookup x=some .local\/sc.names.lookup x=some .cell
 nofree:∀y∈sc.names,y.2≠.free
theorem tV{kindOf:Str->Option NameKind}{x:Str}:∀{binds:List (Str×Value)} {m:Str->Option Value},(∀v,(x,v)∉binds)->bindL kindOf binds m x=m x
 | [],_,_=>rfl
 | (n,v)::r,m,h=>by
  unfold bindL
  rw[tV fun w hw=>h w (List.mem_cons_of_mem _ hw)]
  split
  ·have:x≠n:=by rintro rfl;exact h v List.mem_cons_self
   simp[this]
  ·rfl
theorem sT{kindOf:Str->Option NameKind}{x:Str}:∀{binds:List (Str×Value)} {m:Str->Option Value},(∀v,(x,v)∉binds)->bindC kindOf binds m x=m x
 | [],_,_=>rfl
 | (n,v)::r,m,h=>by
  unfold bindC
  rw[sT fun w hw=>h w (List.mem_cons_of_mem _ hw)]
  split
  ·rfl
  ·have:x≠n:=by rintro rfl;exact h v List.mem_cons_self
   simp[this]
theorem pZ{kindOf:Str->Option NameKind}{x:Str}{v:Value}:∀{P:List Str} {vs:List Value} {i:Nat} {m:Str->Option Value},P.Nodup->P[i]?=some x->vs[i]?=some v->kindOf x=some .local →
  bindL kindOf (P.zip vs) m x=some v
 | [],_,_,_,_,h,_,_=>by simp at h
 | _::_,[],_,_,_,_,h,_=>by simp at h
 | p::P,w::vs,0,m,nd,h1,h2,hk=>by
  simp at h1 h2;subst h1;subst h2
  show bindL kindOf ((p,w)::P.zip vs) m p=_
  unfold bindL
  rw[tV fun v hv=>(List.nodup_cons.mp nd).1 (List.of_mem_zip hv).1,if_pos hk]
  simp
 | p::P,w::vs,i+1,m,nd,h1,h2,hk=>by
  show bindL kindOf ((p,w)::P.zip vs) m x=_
  unfold bindL
  exact pZ (i:=i) (List.nodup_cons.mp nd).2 (by simpa using h1) (by simpa using h2) hk
theorem u4{kindOf:Str->Option NameKind}{x:Str}{v:Value}:∀{P:List Str} {vs:List Value} {i:Nat} {m:Str->Option Value},P.Nodup->P[i]?=some x->vs[i]?=some v->kindOf x≠some .local →
  bindC kindOf (P.zip vs) m x=some v
 | [],_,_,_,_,h,_,_=>by simp at h
 | _::_,[],_,_,_,_,h,_=>by simp at h
 | p::P,w::vs,0,m,nd,h1,h2,hk=>by
  simp at h1 h2;subst h1;subst h2
  show bindC kindOf ((p,w)::P.zip vs) m p=_
  unfold bindC
  rw[sT fun v hv=>(List.nodup_cons.mp nd).1 (List.of_mem_zip hv).1,if_neg hk]
  simp
 | p::P,w::vs,i+1,m,nd,h1,h2,hk=>by
  show bindC kindOf ((p,w)::P.zip vs) m x=_
  unfold bindC
  exact u4 (i:=i) (List.nodup_cons.mp nd).2 (by simpa using h1) (by simpa using h2) hk
def start(N:List Str)(vs:List V):St:=vs.map some++List.replicate (N.length-vs.length) none
def fP(CX:dD)(P:Program)(w:World)(K:PySem.W.Frag)(mg:Str->Option Value)(base:Heap)(N:List Str)(qual:Str)(scope:Scope)(f:Addr)(cd:Value)(A:Around)(outer:List Env)(s:Shared)(H:Hp)(E:XK):Cx where
 prog:=P
 w:=w
 K:=K
 mg:=mg
 base:=base
 A:=A.deeper (envOfC qual scope s.heap.objs.size f cd)
 N:=N
 s₀:=s
 H₀:=H
 env:=envOfC qual scope s.heap.objs.size f cd
 outer:=outer
 stack:=envOfC qual scope s.heap.objs.size f cd::outer
 ex:=[]
 calm:=true
 fn:=fun _=>true
 pn:=[]
 xe:=fun e s'=>wpAny (model P w) (A.deeper (envOfC qual scope s.heap.objs.size f cd)) (leaving (envOfC qual scope s.heap.objs.size f cd) e) (fun _ s''=>CX outer H s E e s'') (fun e' s''=>CX outer H s E e' s'') s'
theorem p5{sc:Scope}{n:Nat}{x:Str}(h:sc.names.lookup x=some .cell):∃c,(cellsFrom n sc.names []).lookup x=some c:=by
 have q:=PySem.W.cellsFrom_some sc.names n [] (.inl h)
 exact Option.isSome_iff_exists.mp q
theorem Bn{CX:dD}{P:Program}{w:World}{K:PySem.W.Frag}{mg:Str->Option Value}{base:Heap}{N ps:List Str}{qual:Str}{scope:Scope}{f:Addr}{cd:Value}{A:Around}{outer:List Env}{s s1:Shared}{H:Hp}{E:XK}{us:List Value}{vs:List V}
  (S:FnScope N ps scope) (hd:A.handled=none) (e0:Env0 P w K mg base A outer s H) (hl:vs.length=ps.length) (r:Vals vs us)
  (x:InCallC s s.heap.objs.size (bindL (envOfC qual scope s.heap.objs.size f cd).kindOf (ps.zip us) fun _=>none) (cellsFrom (s.heap.objs.size+1) scope.names []) (bindC (envOfC qual scope s.heap.objs.size f cd).kindOf (ps.zip us) fun _=>none) s1) :
  Inv (fP CX P w K mg base N qual scope f cd A outer s H E) [] (start N vs) H s1:=by
 have hpl:ps.length<=N.length:=by have:=congrArg List.length S.pre;rw[List.length_take]at this;omega
 obtain⟨h1,tk,rfl,hk⟩:=x.done
 have noA:∀b:Addr,b∉(fP CX P w K mg base N qual scope f cd A outer s H E).ex:=fun b z=>absurd (show b∈([]:List Addr)from z) (by simp)
 refine⟨⟨e0.mod,S.kind,rfl,rfl,Nat.le_refl _,fun y z c h1 h2=>?_,fun y hy=>?_,fun y c _ h=>?_,fun _=>hd,Around.frames_deeper e0.frames,.inr ⟨rfl,rfl⟩,fun b z=>absurd z (noA b),e0.bs,e0.bsz,fun b _ _=>noA b,fun b z=>absurd z (noA b),e0.funs,e0.frf⟩,
  rfl,e0.bare,Un.kept hk,⟨_,x.toInCall.ns,fun i y v h1 h2 h3=>?_⟩,fun y c h=>⟨_,x.cell y c h⟩,e0.hok.fresh (Nat.le_refl _),fun y c h=>?_,fun p hp=>absurd (show p∈([]:List (Addr×Obj))from hp) (by simp),e0.hok.kept hk,?_⟩
 ·exact name_of_addr x.apart (PySem.mem_of_lookup h1) (PySem.mem_of_lookup h2)
 ·have hy:scope.names.lookup y=some .cell\/scope.names.lookup y=some .free:=hy
  rcases hy with hy | hy
  ·exact p5 hy
  ·exact absurd rfl (S.nofree _ (PySem.mem_of_lookup hy))
 ·exact Nat.le_of_lt (x.above y c (PySem.mem_of_lookup h))
 ·have hi:i<vs.length:=by
   unfold start at h2
   by_cases hi:i<vs.length
   ·exact hi
   ·rw[List.getElem?_append_right (by simpa using hi)]at h2
    rw[List.getElem?_replicate]at h2
    split at h2<;>cases h2
  have ha:vs[i]?=some v:=by
   unfold start at h2
   rw[List.getElem?_append_left (by simpa using hi),List.getElem?_map]at h2
   cases e:vs[i]? with
   | none=>rw[e]at h2;cases h2
   | some a=>rw[e]at h2;cases h2;rfl
  obtain⟨u,hu,rv⟩:=r.get ha
  have hp:ps[i]?=some y:=by
   rw[←S.pre,List.getElem?_take_of_lt (by omega)];exact h1
  have ndP:ps.Nodup:=by rw[←S.pre];exact S.nd.sublist (List.take_sublist _ _)
  refine⟨u,rv,?_⟩
  rcases S.par y (List.mem_of_getElem? hp)with k | k
  ·exact .inl ⟨k,pZ ndP hp hu k⟩
  ·obtain⟨c,e⟩:=p5 (n:=s.heap.objs.size+1) k
   refine .inr ⟨.inl k,c,e,?_⟩
   have q:=x.cell y c e
   rw[u4 ndP hp hu (by show scope.names.lookup y≠_;rw[k];decide)]at q
   exact q
 ·exact e0.hok.fresh (Nat.le_of_lt (x.above y c (PySem.mem_of_lookup h)))
 ·unfold start
  show _=N.length
  rw[List.length_append,List.length_map,List.length_replicate]
  omega
theorem Ap{CX:dD}{P:Program}{w:World}{K:PySem.W.Frag}{mg:Str->Option Value}{base:Heap}{k:Nat}{f:Addr}{name qual:Str}{params:Arguments}{body:List Stmt}{scope:Scope}{dV kV doc pm cdv ct oc:Value}{an od:Option Addr}
  {osl:Array (Option Value)} {N ps:List Str} {sp:Sp} (lk:K.lookup f=some ⟨oc,od,.func (PySem.W.fnOf name qual params body scope dV kV doc pm an cdv ct),osl⟩) (hcd:PySem.W.codeIn K cdv qual=true) (S:FnScope N ps scope)
  (len:∀vs H Q E,sp vs H Q E->vs.length=ps.length)
  (hbody:∀(A:Around) (outer:List Env) (s:Shared) (H:Hp) (vs:List V) (Q:VK) (E:XK),Room k (A.deeper (envOfC qual scope s.heap.objs.size f cdv))->sp vs H Q E →
   ∃t,cn (fP CX P w K mg base N qual scope f cdv A outer s H E) body t/\t { nx:=fun _ H'=>Q .non H',rt:=Q } (start N vs) H) :
  FnOk P w K mg base CX (k+1) f (PySem.W.fnOf name qual params body scope dV kV doc pm an cdv ct) ps sp:=by
 refine⟨len,fun A outer s H args us vs Q E hr e0 hb r hsp=>?_⟩
 have hl:=len _ _ _ _ hsp
 have KX:K.In s.heap:=e0.mod.kin.keeps fun b o e=>(e0.bs b o e).1
 have lim:s.heap.NoLimit:=e0.mod.nolimit.keeps fun b o e=>(e0.bs b o e).1
 have hkind:∀y∈ps.zip us,scope.names.lookup y.1=some .local\/(scope.names.lookup y.1=some .cell/\((cellsFrom (s.heap.objs.size+1) scope.names []).lookup y.1).isSome=true):=fun⟨n,v⟩ hy=>by
  rcases S.par n (List.of_mem_zip hy).1 with q | q
  ·exact .inl q
  ·exact .inr ⟨q,PySem.W.cellsFrom_some _ _ _ (.inl q)⟩
 refine codeAny_call_function hr.depth (KX _ _ lk) rfl S.co S.gen rfl (PySem.W.codeRec_of KX hcd) (hb _ _ _ _ ?_)
 refine wpAny_newFunctionEnv_cells S.kind hkind fun env he s1 x=>?_
 subst he
 refine⟨lim.keeps x.toInCall.keep,codeAny_func ?_⟩
 obtain⟨t,ht,hq⟩:=hbody A outer s H vs Q E (hr.deeper _) hsp
 have I:Inv (fP CX P w K mg base N qual scope f cdv A outer s H E) [] (start N vs) H s1:=Bn S hr.hd e0 hl r x
 refine wpAny_mono (ht [] s1 (start N vs) H _ I hq) (fun fl s' hs=>?_) fun e s' hs=>hs
 have fin:∀{σ':St} {H':Hp} {v:V} {u:Value},Inv (fP CX P w K mg base N qual scope f cdv A outer s H E) [] σ' H' s'->RelV v u->Q v H'->CE outer P w H s Q u s':=
  fun{σ' H' v u} J rv q=>⟨v,H',J.os,J.bare,J.base,J.hok,rv,q⟩
 cases fl with
 | ret u=>
  obtain⟨v,σ',H',J,rv,q⟩:=hs
  exact fin J rv q
 | next=>
  obtain⟨σ',H',J,q⟩:=hs
  exact fin (v:=V.non) (u:=Value.none) J rfl q
 | brk=>
  obtain⟨_,_,_,q⟩:=hs
  exact False.elim q
 | cont=>
  obtain⟨_,_,_,q⟩:=hs
  exact False.elim q
end L2
namespace L2
open PySem PySem.Spec PyProof.Rows
section
variable {X:Cx} {x:Str} {p pos:Pos} {e:Expr} {es:List Expr} {t:TA} {id T:String} {r:List V->Hp->VK->Prop}
def mZ(r:List V->Hp->VK->Prop)(t:TA):TE:=fun σ H Q=>t σ H fun vs H1=>r vs H1 Q
theorem aU(hc:bL X (.builtin id) r)(hg:Gl X x)(hm:X.mg x=none)(hv:bootBuiltins x=some (.builtin id))(ha:PA X (e::es) t)(hn:x≠"__name__":=by decide)(hdb:(x == ("__debug__":Str))=false:=by decide)
  (he:starEach (e::es) X.env=(false,eval e X.env)::starEach es X.env:=by rfl) (hpl:(backTo pos (starEach es X.env)).any (·.1)=false:=by rfl):PE X (.Call (.Name x p) (e::es) [] pos) (mZ r t):=by
 intro pins s σ H Q I h
 refine wpAny_Call_Name_kw (eZ I hg hm hv ?_ hn hdb)
 exact PyProof.Rows.callWith_builtin1 (aq (ha pos pins s σ H _ I h) fun us s1 ⟨vs,H1,I1,r1,q1⟩=>hc pins s1 σ H1 vs us Q I1 r1 q1) he hpl
theorem dN(hc:bL X (.type T) r)(hg:Gl X x)(hm:X.mg x=none)(hv:bootBuiltins x=some (.type T))(ha:PA X (e::es) t)(hn:x≠"__name__":=by decide)(hdb:(x == ("__debug__":Str))=false:=by decide)
  (he:starEach (e::es) X.env=(false,eval e X.env)::starEach es X.env:=by rfl) (hpl:(backTo pos (starEach es X.env)).any (·.1)=false:=by rfl):PE X (.Call (.Name x p) (e::es) [] pos) (mZ r t):=by
 intro pins s σ H Q I h
 refine wpAny_Call_Name_kw (eZ I hg hm hv ?_ hn hdb)
 exact PyProof.Rows.callWith_type1 (aq (ha pos pins s σ H _ I h) fun us s1 ⟨vs,H1,I1,r1,q1⟩=>hc pins s1 σ H1 vs us Q I1 r1 q1) he hpl
end
end L2
namespace HT
open PySem PyProof.Rows
section
open PySem.SeqAt
open PySem.AutoSeq1 (wpAny_loadPart')
open PySem.MeetsSeq PySem.MeetsSeq2 PySem.MeetsSeq3
end
section
variable {prog:Program} {w:World} {A:Around} {E:Value->Shared->Prop} {s:Shared}
def ck(n d:Nat):Option Int->Nat
 | none=>d
 | some v=>if v<0 then(v+(n:Int)).toNat else min v.toNat n
theorem yI(n d:Nat):ck n d none=d:=rfl
theorem fN(n d k:Nat):ck n d (some (k:Int))=min k n:=by
 show(if(k:Int)<0 then((k:Int)+(n:Int)).toNat else min (k:Int).toNat n)=min k n
 rw[if_neg (by omega),Int.toNat_natCast]
end
end HT
namespace L2
open PySem PySem.Spec PyProof.Rows
abbrev TO:=St->Hp->(Option Int->Hp->Prop)->Prop
def PO(X:Cx)(e:Option Expr)(t:TO):Prop:=
 ∀(pins:List (Addr×Obj)) (s:Shared) (σ:St) (H:Hp) (Q:Option Int->Hp->Prop),Inv X pins σ H s->t σ H Q →
  wpAny (model X.prog X.w) X.A (evalPart e X.env) (fun u s'=>∃o H',Inv X pins σ H' s'/\IsPart u o/\Q o H') X.xe s
def oM:TO:=fun _ H Q=>Q none H
def tf(t:TE):TO:=fun σ H Q=>t σ H fun x H1=>∃i,x=.int i/\Q (some i) H1
section
variable {X:Cx} {e:Expr} {te:TE} {lo hi:Option Expr} {tl th:TO} {pos p2:Pos}
theorem jR:PO X none oM:=by
 intro pins s σ H Q I h
 rw[evalPart_none]
 exact wpAny_pure ⟨none,H,I,.none,h⟩
theorem dF(h:PE X e te):PO X (some e) (tf te):=by
 intro pins s σ H Q I hw
 rw[evalPart_some]
 refine aq (h pins s σ H _ I hw) fun u s1 ⟨x,H1,I1,r1,q1⟩=>?_
 obtain⟨i,rfl,q⟩:=q1
 obtain⟨t,rfl⟩:=r1
 exact⟨some i,H1,I1,.int i t,q⟩
def mz(X:Cx)(r:V->Option Int->Option Int->Hp->VK->Prop):Prop:=
 ∀(pins:List (Addr×Obj)) (s:Shared) (σ:St) (H:Hp) (x:V) (v vl vu:Value) (lo hi:Option Int) (sl:Addr) (Q:VK),Inv X pins σ H s->RelV x v->s.heap.IsSliceOf sl vl vu .none->IsPart vl lo->IsPart vu hi->r x lo hi H Q →
  ∃T id,typeLookup (.type T) "__getitem__" = pure (some (.builtin id))/\s.TypeIs v T/\wpAny (model X.prog X.w) X.A (getItem v (.ref sl)) (EP X pins σ Q) X.xe s
def tD(r:V->Option Int->Option Int->Hp->VK->Prop)(te:TE)(tl th:TO):TE:=fun σ H Q=>te σ H fun x H1=>tl σ H1 fun l H2=>th σ H2 fun u H3=>r x l u H3 Q
theorem fM{r:V->Option Int->Option Int->Hp->VK->Prop}(hr:mz X r)(he:PE X e te)(hl:PO X lo tl)(hu:PO X hi th):PE X (.Subscript e (.Slice lo hi none p2) pos) (tD r te tl th):=by
 intro pins s σ H Q I h
 refine Subscript_ (aq (he pins s σ H _ I h) fun v s1 ⟨x,H1,I1,r1,q1⟩=>?_)
 refine wpAny_Slice (aq (hl pins s1 σ H1 _ I1 q1) fun vl s2 ⟨l,H2,I2,pl,q2⟩=>aq (hu pins s2 σ H2 _ I2 q2) fun vu s3 ⟨u,H3,I3,pu,q3⟩=>?_)
 rw[evalPart_none]
 refine wpAny_pure ?_
 have I4:Inv X pins σ H3 { s3 with heap:=s3.heap.push { cls:=.type "slice",data:=.fields #[vl,vu,.none] } }:=I3.kept (t':=s3.toks) fun b ob q=>Heap.get?_push_of_some _ q
 obtain⟨T,id,hT,ht,hg⟩:=hr pins { s3 with heap:=s3.heap.push { cls:=.type "slice",data:=.fields #[vl,vu,.none] } } σ H3 x v vl vu l u s3.heap.objs.size Q I4 r1 (Heap.IsSliceOf.new ..) pl pu q3
 show wpAny (model X.prog X.w) X.A (subscriptTail e (.Slice lo hi none p2) v (.ref s3.heap.objs.size)) (EP X pins σ Q) X.xe { s3 with heap:=s3.heap.push { cls:=.type "slice",data:=.fields #[vl,vu,.none] } }
 exact tail_any (ops:=[.ref s3.heap.objs.size,v]) ht hT hg (by with_unfolding_all rfl)
def cY(xs:List V)(lo hi:Option Int):List V:=(xs.drop (HT.ck xs.length 0 lo)).take (HT.ck xs.length xs.length hi-HT.ck xs.length 0 lo)
theorem wL(xs:List V)(lo hi:Option Int):(cY xs lo hi).length<=xs.length:=by
 unfold cY
 rw[List.length_take,List.length_drop]
 omega
end
end L2
namespace L2
open PySem PySem.Spec PyProof.Rows
def eh(n:Nat)(i:Int):Option Nat:=if 0<=i then(if i<n then some i.toNat else none)else if -(n:Int)<=i then some (i+n).toNat else none
def bR{α:Type}(xs:List α)(i:Int):Option α:=(eh xs.length i).bind fun j=>xs[j]?
theorem mH{n:Nat}{i:Int}{j:Nat}(h:eh n i=some j):seqIndex? i n=some j/\j<n/\-(n:Int)<=i/\i<n:=by
 unfold eh at h
 by_cases h0:0<=i
 ·rw[if_pos h0]at h
  by_cases h1:i<n
  ·rw[if_pos h1]at h
   have e:i.toNat=j:=Option.some.inj h
   exact⟨by rw[seqIndex_of h0 h1,e],by omega,by omega,h1⟩
  ·rw[if_neg h1]at h;cases h
 ·rw[if_neg h0]at h
  by_cases h1:-(n:Int)<=i
  ·rw[if_pos h1]at h
   have e:(i+n).toNat=j:=Option.some.inj h
   exact⟨by rw[seqIndex_neg (by omega) h1,e],by omega,h1,by omega⟩
  ·rw[if_neg h1]at h;cases h
theorem mG{α:Type}{xs:List α}{i:Int}{v:α}(h:bR xs i=some v):∃j,seqIndex? i xs.length=some j/\xs[j]?=some v/\j<xs.length/\-(xs.length:Int)<=i/\i<xs.length:=by
 unfold bR at h
 cases e:eh xs.length i with
 | none=>rw[e]at h;cases h
 | some j=>
  rw[e]at h
  obtain⟨h1,h2,h3,h4⟩:=mH e
  exact⟨j,h1,h,h2,h3,h4⟩
theorem dh{α:Type}{xs:List α}{j:Nat}{v:α}(h:xs[j]?=some v):bR xs (j:Int)=some v:=by
 have hj:j<xs.length:=(List.getElem?_eq_some_iff.mp h).1
 have e:eh xs.length (j:Int)=some j:=by
  unfold eh
  rw[if_pos (by omega),if_pos (by omega)];simp
 unfold bR;rw[e];exact h
def vW(b:Expr):Prop:=∀o i,subscripted b false o i=operate [o,i] (getItem o i)
def fW(X:Cx)(r:R2):Prop:=
 ∀(value slice:Expr) (pins:List (Addr×Obj)) (s:Shared) (σ:St) (H:Hp) (x y:V) (v u:Value) (Q:VK),Inv X pins σ H s->RelV x v->RelV y u->r x y H Q →
  subscripted slice false v u=operate [v,u] (getItem v u)->wpAny (model X.prog X.w) X.A (subscriptTail value slice v u) (EP X pins σ Q) X.xe s
def kl(X:Cx)(id:String)(r:V->List V->Hp->VK->Prop):Prop:=
 ∀(pins:List (Addr×Obj)) (s:Shared) (σ:St) (H:Hp) (x:V) (xs:List V) (v:Value) (us:List Value) (Q:VK),Inv X pins σ H s->RelV x v->Vals xs us->r x xs H Q →
  wpAny (model X.prog X.w) X.A (call (.builtin id) (v::us)) (EP X pins σ Q) X.xe s
section
variable {X:Cx} {a b:Expr} {ta tb:TE} {pos:Pos}
theorem ai{r:R2}(hr:fW X r)(ha:PE X a ta)(hb:PE X b tb)(hs:vW b):PE X (.Subscript a b pos) (hJ r ta tb):=by
 intro pins s σ H Q I h
 exact Subscript_ (lS ha hb I h fun v u s2 x y H2 I2 rx ry q=>hr a b pins s2 σ H2 x y v u Q I2 rx ry q (hs _ _))
def lD(K:PySem.W.Frag):R2:=fun x y H Q=>∃p xs i v,x=.ref p/\y=.int i/\af K H p xs/\bR xs i=some v/\Q v H
def m5(K:PySem.W.Frag):R2:=fun x y H Q=>∃p xs i v,x=.ref p/\y=.int i/\ag K H p xs/\bR xs i=some v/\Q v H
def y6:R2:=fun x y H Q=>∃z i c,x=.str z/\y=.int i/\z.length<=sizeLine/\bR z.cps.toList i=some c/\Q (.str ⟨#[c]⟩) H
theorem zt:fW X (lD X.K):=by
 intro value slice pins s σ H x y v u Q I rx ry h hs
 obtain⟨p,xs,i,z,rfl,rfl,hq,he,q⟩:=h
 cases rx
 obtain⟨t,rfl⟩:=ry
 obtain⟨its,r,pl,hz⟩:=I.list hq
 obtain⟨j,h1,h2,h3,h4,h5⟩:=mG he
 obtain⟨w,ew,rw'⟩:=r.get h2
 have hl:=r.length
 have hn:=gp
 have fin:EP X pins σ Q w s:=⟨z,H,I,rw',q⟩
 by_cases h0:0<=i
 ·have hj:i.toNat=j:=by
   rw[seqIndex_of h0 h5]at h1
   exact Option.some.inj h1
  exact item_listR pl.isList h0 (by omega) (by rw[hj];simpa using ew) fin hs
 ·have hj:(i+(its.toArray.size:Int)).toNat=j:=by
   rw[seqIndex_neg (by omega) h4]at h1
   rw[List.size_toArray,←hl]
   exact Option.some.inj h1
  exact subscriptTail_builtinR (x:=w) pl.isList.typeIs slot_list_getitem.lookup
   (wpAny_getItem_list_neg (Q:=fun r s'=>r=w/\EP X pins σ Q r s') pl.isList (by omega) (by rw[List.size_toArray]<;>omega) (by omega) (by rw[hj];simpa using ew) ⟨rfl,fin⟩) hs
theorem zM:fW X (m5 X.K):=by
 intro value slice pins s σ H x y v u Q I rx ry h hs
 obtain⟨p,xs,i,z,rfl,rfl,hq,he,q⟩:=h
 cases rx
 obtain⟨t,rfl⟩:=ry
 obtain⟨its,r,pl,hz⟩:=I.tuple hq
 obtain⟨j,h1,h2,h3,h4,h5⟩:=mG he
 obtain⟨w,ew,rw'⟩:=r.get h2
 have hl:=r.length
 have hn:=gp
 have fin:EP X pins σ Q w s:=⟨z,H,I,rw',q⟩
 exact subscriptTail_builtinR (x:=w) pl.typeIs slot_tuple_getitem.lookup
  (getItem_tuple (j:=j) (Q:=fun r s'=>r=w/\EP X pins σ Q r s') pl (by omega) (by omega) (by rw[List.size_toArray,←hl];exact h1) (by simpa using ew) ⟨rfl,fin⟩) hs
theorem mn:fW X y6:=by
 intro value slice pins s σ H x y v u Q I rx ry h hs
 obtain⟨z,i,c,rfl,rfl,hz,he,q⟩:=h
 obtain⟨t,rfl⟩:=rx
 obtain⟨t',rfl⟩:=ry
 obtain⟨j,h1,h2,h3,h4,h5⟩:=mG he
 have hl:z.cps.toList.length=z.length:=by simp[Str.length]
 rw[hl]at h1 h4 h5
 have hn:=gp
 exact tail_any (typeIs_str s z t) slot_str_getitem.lookup (getItem_str (c:=c) (by
  have e1:decide (i < -(2 ^ 63:Int))=false:=decide_eq_false (by omega)
  have e2:decide (i ≥ 2 ^ 63)=false:=decide_eq_false (by omega)
  rw[e1,e2,Bool.or_false]) (by rw[h1];simpa using h2) ⟨.str ⟨#[c]⟩,H,I.tok _,⟨_,rfl⟩,q⟩) hs
theorem Cf(its:List Value)(n j:Nat)(u:Value):Obj.mapSeq (·.setIfInBounds j u) { cls:=.type "list",data:=.seq its.toArray n }={ cls:=.type "list",data:=.seq (its.set j u).toArray n }:=by
 simp[Obj.mapSeq]
theorem Inv.lst{pins:List (Addr×Obj)}{σ:St}{H:Hp}{s:Shared}{p:Addr}{xs:List V}(I:Inv X pins σ H s)(h:H p=some (.lst xs)):
  ∃(its:List Value) (n:Nat),Vals xs its/\s.heap.get? p=some { cls:=.type "list",data:=.seq its.toArray n }/\xs.length<=sizeLine:=by
 obtain⟨z,its,n,r,e⟩:=I.hok p _ h
 exact⟨its,n,r,e,z⟩
theorem Inv.lstUpd{pins:List (Addr×Obj)}{σ:St}{H:Hp}{s:Shared}{p:Addr}{xs ys:List V}{its its':List Value}{n n':Nat}{f:Obj->Obj}(I:Inv X pins σ H s)(h:H p=some (.lst xs))
  (ho:s.heap.get? p=some { cls:=.type "list",data:=.seq its.toArray n }) (hf:f { cls:=.type "list",data:=.seq its.toArray n }={ cls:=.type "list",data:=.seq its'.toArray n' }) (r:Vals ys its') (hz:ys.length<=sizeLine) (t:Nat) :
  Inv X pins σ (upd H p (.lst ys)) { s with heap:=s.heap.update p f,toks:=t }:=by
 have e:(s.heap.update p f).get? p=some { cls:=.type "list",data:=.seq its'.toArray n' }:=by
  rw[Heap.get?_update_self f ho (by rw[hf]<;>rfl),hf]
 refine I.write (x:=p) (e:=p) (by rw[h];trivial) (.inl rfl) (fun b u hb q=>(Heap.get?_update_other _ _ (Ne.symm hb)).trans q) ⟨_,e⟩ ?_
 exact⟨hz,its',n',r,e⟩
def pK:V->V->V->Hp->(Hp->Prop)->Prop:=fun o i v H Q=>∃p xs k j,o=.ref p/\i=.int k/\H p=some (.lst xs)/\eh xs.length k=some j/\Q (upd H p (.lst (xs.set j v)))
theorem set_list:tG X pK:=by
 intro pins s σ H o i v ov iv u Q I ro ri rv h
 obtain⟨p,xs,k,j,rfl,rfl,hp,hj,q⟩:=h
 cases ro
 obtain⟨t,rfl⟩:=ri
 obtain⟨its,n,r,ho,hz⟩:=I.lst hp
 obtain⟨h1,h2,h3,h4⟩:=mH hj
 have hl:=r.length
 have hn:=gp
 have I':Inv X pins σ (upd H p (.lst (xs.set j v))) { s with heap:=s.heap.update p (Obj.mapSeq (·.setIfInBounds j u)) }:=
  I.lstUpd hp ho (Cf its n j u) (r.set rv j) (by rw[List.length_set];exact hz) s.toks
 by_cases h0:0<=k
 ·have hk:k.toNat=j:=by
   rw[seqIndex_of h0 h4]at h1
   exact Option.some.inj h1
  exact PySem.W.ki_setAt ho h0 (by omega) (by rw[List.size_toArray,←hl];exact h4) (by rw[hk];exact⟨_,I',q⟩)
 ·have hk:(k+(its.toArray.size:Int)).toNat=j:=by
   rw[seqIndex_neg (by omega) h3]at h1
   rw[List.size_toArray,←hl]
   exact Option.some.inj h1
  exact PySem.W.ki_setBack ho (by omega) (by rw[List.size_toArray,←hl];exact h3) (by omega) (by rw[hk];exact⟨_,I',q⟩)
theorem xE(lo hi:Option Int)(n:Nat):(sliceBounds lo hi none n).1=((HT.ck n 0 lo:Nat):Int)/\(sliceBounds lo hi none n).2.1=((HT.ck n n hi:Nat):Int)/\(sliceBounds lo hi none n).2.2=1:=by
 refine⟨?_,?_,rfl⟩
 ·cases lo with
  | none=>simp[sliceBounds,HT.ck]
  | some i=>
   simp only[sliceBounds,HT.ck,Option.getD_none,show (1:Int)>0 by decide,if_true]
   by_cases h:i<0
   ·simp only[h,if_true]<;>omega
   ·simp only[h,if_false]<;>omega
 ·cases hi with
  | none=>simp[sliceBounds,HT.ck]
  | some i=>
   simp only[sliceBounds,HT.ck,Option.getD_none,show (1:Int)>0 by decide,if_true]
   by_cases h:i<0
   ·simp only[h,if_true]<;>omega
   ·simp only[h,if_false]<;>omega
theorem CF(its:List Value)(lo hi:Option Int):slicePick its.toArray lo hi none=((its.drop (HT.ck its.length 0 lo)).take (HT.ck its.length its.length hi-HT.ck its.length 0 lo)).toArray:=by
 obtain⟨h1,h2,h3⟩:=xE lo hi its.toArray.size
 unfold slicePick
 rw[h1,h2,h3]
 simp only[sliceRange_one,pick_run,List.size_toArray]<;>rfl
def lY(K:PySem.W.Frag):V->Option Int->Option Int->Hp->VK->Prop:=fun x lo hi H Q=>∃a xs,x=.ref a/\af K H a xs/\∀p,H p=none->Q (.ref p) (upd H p (.lst (cY xs lo hi)))
theorem BH:mz X (lY X.K):=by
 intro pins s σ H x v vl vu lo hi sl Q I rx hs pl pu h
 obtain⟨a,xs,rfl,hx,q⟩:=h
 cases rx
 obtain⟨its,r,ht,hz⟩:=I.list hx
 have hlen:=r.length
 refine⟨"list",_,slot_list_getitem.lookup,ht.isList.typeIs,?_⟩
 refine wpAny_getItem_list_slice ht.isList hs pl pu .none (by simp) ?_ (by rw[List.size_toArray]<;>omega)
 rw[CF,←hlen]
 refine⟨.ref s.heap.objs.size,_,I.laid (t':=s.toks) (o:=.lst (cY xs lo hi)) (fun b ob q=>Heap.get?_push_of_some _ q) (Nat.le_refl _) ?_,rfl,q _ (I.hok.fresh (Nat.le_refl _))⟩
 exact⟨Nat.le_trans (wL xs lo hi) hz,_,0,(r.drop (HT.ck xs.length 0 lo)).take (HT.ck xs.length xs.length hi-HT.ck xs.length 0 lo),Heap.get?_push_size _ rfl⟩
theorem A3:bL X (.builtin "len") (fun xs H Q=>∃p ys,xs=[.ref p]/\(af X.K H p ys\/ag X.K H p ys)/\Q (.int ys.length) H):=by
 intro pins s σ H xs us Q I r h
 obtain⟨p,ys,rfl,hq,q⟩:=h
 obtain⟨u,rfl,rx⟩:=vals1 r
 cases rx
 have hn:=gp
 rcases hq with hq | hq
 ·obtain⟨its,r',pl,hz⟩:=I.list hq
  have hlen:=r'.length
  exact Calls.call_len_list pl.isList (by simp only[List.size_toArray]<;>omega) ⟨.int ys.length,H,I.tok _,⟨s.toks+1,by rw[List.size_toArray,hlen]⟩,q⟩
 ·obtain⟨its,r',pl,hz⟩:=I.tuple hq
  have hlen:=r'.length
  exact len_tuple pl (by simp only[List.size_toArray]<;>omega) ⟨.int ys.length,H,I.tok _,⟨s.toks+1,by rw[List.size_toArray,hlen]⟩,q⟩
theorem vh:bL X (.builtin "len") (fun xs H Q=>∃z,xs=[.str z]/\z.length<=sizeLine/\Q (.int z.length) H):=by
 intro pins s σ H xs us Q I r h
 obtain⟨z,rfl,hz,q⟩:=h
 obtain⟨u,rfl,t,rfl⟩:=vals1 r
 have hn:=gp
 exact len_str (by omega) ⟨.int z.length,H,I.tok _,⟨_,rfl⟩,q⟩
theorem xT:bL X (.type "tuple") (fun xs H Q=>∃p ys,xs=[.ref p]/\((af X.K H p ys/\∀l,H l=none->Q (.ref l) (upd H l (.tup ys)))\/(ag X.K H p ys/\Q (.ref p) H))):=by
 intro pins s σ H xs us Q I r h
 obtain⟨p,ys,rfl,h⟩:=h
 obtain⟨u,rfl,rx⟩:=vals1 r
 cases rx
 rcases h with⟨hq,q⟩ | ⟨hq,q⟩
 ·obtain⟨its,r',pl,hz⟩:=I.list hq
  have hlen:=r'.length
  refine call_tuple_list pl.isList (fun h' kp=>?_) (by simp only[List.size_toArray]<;>omega)
  have I1:Inv X pins σ H { s with heap:=h' }:=I.kept (t':=s.toks) kp
  have I2:Inv X pins σ (upd H h'.objs.size (.tup ys)) { s with heap:=h'.push { cls:=.type "tuple",data:=.seq its.toArray } }:=
   I1.laid (t':=s.toks) (fun b o e=>Heap.get?_push_of_some _ e) (Nat.le_refl _) (show bA X.prog X.w _ _ _ (.tup ys)from⟨hz,its,r',IsTup.new _ _⟩)
  exact⟨.ref h'.objs.size,_,I2,rfl,q _ (I1.hok.fresh (Nat.le_refl _))⟩
 ·obtain⟨its,r',pl,hz⟩:=I.tuple hq
  exact call_tuple_same pl ⟨.ref p,H,I,rfl,q⟩
def gJ(K:PySem.W.Frag)(T:String)(x:V)(H:Hp):Prop:=match x with
 | .str _=>T = "str"
 | .int _=>T = "int"
 | .ref p=>(T = "list"/\∃xs,af K H p xs)\/(T = "tuple"/\∃o,K.lookup p=some o/\o.cls=.type "tuple"/\o.dict=none) ∨
   (T = "dict"/\((∃kvs,H p=some (.dK kvs))\/∃kvs,H p=some (.dT kvs)))\/(T = "set"/\∃S n,H p=some (.set S n))
 | _=>False
theorem Ah{pins:List (Addr×Obj)}{σ:St}{H:Hp}{s:Shared}{T:String}{x:V}{v:Value}(I:Inv X pins σ H s)(r:RelV x v)(ty:gJ X.K T x H):
  s.TypeIs v T/\∀a,v=.ref a->∃ob,s.heap.get? a=some ob/\ob.dict=none:=by
 cases x with
 | str z=>
  obtain⟨t,rfl⟩:=r
  cases(show T = "str" from ty)
  exact⟨typeIs_str s z t,fun _ e=>nomatch e⟩
 | int i=>
  obtain⟨t,rfl⟩:=r
  cases(show T = "int" from ty)
  exact⟨typeIs_int s i t,fun _ e=>nomatch e⟩
 | ref p=>
  cases r
  rcases ty with⟨rfl,xs,hq⟩ | ⟨rfl,o,hk,hc,hd⟩ | ⟨rfl,hk⟩ | ⟨rfl,S,n,hk⟩
  ·obtain⟨its,_,pl,_⟩:=I.list hq
   refine⟨pl.isList.typeIs,fun a e=>?_⟩
   cases e
   obtain⟨o,n,e,c,hd,_⟩:=pl
   exact⟨o,e,hd⟩
  ·refine⟨⟨o,I.kIn p o hk,hc⟩,fun a e=>?_⟩
   cases e
   exact⟨o,I.kIn _ o hk,hd⟩
  ·have z:∃o,s.heap.get? p=some o/\o.ExactDict:=by
    rcases hk with⟨kvs,hk⟩ | ⟨kvs,hk⟩
    ·obtain⟨_,_,_,_,o,_,_,e,ex,_⟩:=I.hok p _ hk
     exact⟨o,e,ex⟩
    ·obtain⟨_,_,_,_,o,_,_,e,ex,_⟩:=I.hok p _ hk
     exact⟨o,e,ex⟩
   obtain⟨o,e,ex⟩:=z
   refine⟨⟨o,e,ex.1⟩,fun a e2=>?_⟩
   cases e2
   exact⟨o,e,ex.2.1⟩
  ·obtain⟨o,_,_,_,e,ex,_⟩:=I.hok p _ hk
   refine⟨⟨o,e,ex.1⟩,fun a e2=>?_⟩
   cases e2
   exact⟨o,e,ex.2.1⟩
 | _=>exact False.elim ty
def lH(K:PySem.W.Frag)(T:String)(r:V->List V->Hp->VK->Prop)(to:TE)(t:TA):TE:=fun σ H Q=>to σ H fun x H1=>gJ K T x H1/\t σ H1 fun xs H2=>r x xs H2 Q
variable {o e:Expr} {es:List Expr} {to:TE} {t:TA} {name:Str} {apos cpos:Pos} {T id:String} {r:V->List V->Hp->VK->Prop}
theorem we(pa:PlainAttrs T)(slot:Slot T name id)(hty:typeOf (.builtin id)=pure (.type "method_descriptor"))(hm:kl X id r)(ho:PE X o to)(ha:PA X (e::es) t)
  (hbase:attributeBase o name X.env (eval o X.env)=eval o X.env:=by rfl)
  (hfew:((backTo cpos (starEach (e::es) X.env)).all (fun x=>!x.1) && (backToKw cpos (keywordEach [] X.env)).all (fun x=>x.1.isSome)
   && decide ((e::es).length+([]:List Keyword).length+(if([]:List Keyword).isEmpty then 0 else 1)<30))=true:=by rfl)
  (hline:(apos.endLine == cpos.line)=true:=by rfl) (hs:starEach (e::es) X.env=(false,eval e X.env)::starEach es X.env:=by rfl) (hplain:(backTo cpos (starEach es X.env)).any (·.1)=false:=by rfl) :
  PE X (.Call (.Attribute o name apos) (e::es) [] cpos) (lH X.K T r to t):=by
 intro pins s σ H Q I h
 refine wpAny_Call_method_late hbase hfew hline rfl (aq (ho pins s σ H _ I h) fun v s1 ⟨x,H1,I1,r1,ty,q1⟩=>?_)
 obtain⟨h1,h2⟩:=Ah I1 r1 ty
 refine⟨T,id,pa,slot,hty,h1,h2,?_⟩
 have hA:=ha cpos pins s1 σ H1 _ I1 q1
 rw[hs]at hA ⊢
 refine Calls.callWith_builtin (by show(false || (backTo cpos (starEach es X.env)).any (·.1))=false;rw[hplain]<;>rfl) (Calls.evalArgs_plain ?_)
 exact aq hA fun us s2 ⟨vs,H2,I2,r2,q2⟩=>hm pins s2 σ H2 x vs v us Q I2 r1 r2 q2
end
end L2
namespace L2
open PySem PySem.Spec PyProof.Rows
def mT(X:Cx)(id:String)(r:V->List V->Hp->VK->Prop):Prop:=
 ∀(pins:List (Addr×Obj)) (s:Shared) (σ:St) (H:Hp) (x:V) (xs:List V) (v:Value) (us:List Value) (Q:VK),Inv X pins σ H s->RelV x v->Vals xs us->r x xs H Q →
  wpAny (model X.prog X.w) X.A (call (.builtin id) (v::us)) (EP X pins σ Q) X.xe s
theorem Vals.one:∀{x:V} {us:List Value},Vals [x] us->∃u,us=[u]/\RelV x u
 | _,_,.cons r .nil=>⟨_,rfl,r⟩
theorem Vals.eraseIdx:∀{xs:List V} {us:List Value} (i:Nat),Vals xs us->Vals (xs.eraseIdx i) (us.eraseIdx i)
 | _,_,_,.nil=>.nil
 | _,_,0,.cons _ t=>t
 | _,_,i+1,.cons r t=>.cons r (Vals.eraseIdx i t)
theorem Vals.rep{xs:List V}{us:List Value}(h:Vals xs us):∀k:Nat,Vals (List.replicate k xs).flatten (List.replicate k us).flatten
 | 0=>.nil
 | k+1=>by
  rw[List.replicate_succ,List.replicate_succ,List.flatten_cons,List.flatten_cons]
  exact Vals.append h (Vals.rep h k)
theorem sG{α:Type}:∀(l:List α) (i:Nat),(l.eraseIdx i).length<=l.length
 | [],_=>Nat.le_refl _
 | _::_,0=>Nat.le_succ _
 | _::r,i+1=>Nat.succ_le_succ (sG r i)
theorem foldl_rep(its:List Value):∀(k:Nat) (acc:List Value),
  List.foldl (fun x1 x2=>x1++x2) acc.toArray (List.replicate k its.toArray)=(acc++(List.replicate k its).flatten).toArray
 | 0,acc=>by simp
 | k+1,acc=>by
  have e:acc.toArray++its.toArray=(acc++its).toArray:=by simp
  have e2:(acc++its)++(List.replicate k its).flatten=acc++(List.replicate (k+1) its).flatten:=by
   rw[List.replicate_succ,List.flatten_cons,List.append_assoc]
  rw[←e2,←foldl_rep its k (acc++its),←e,List.replicate_succ,List.foldl_cons]
section
variable {X:Cx} {pins:List (Addr×Obj)} {σ:St} {H:Hp} {s:Shared} {l b:Addr} {xs ys zs:List V}
theorem Inv.lset{its its':List Value}{n:Nat}{f:Array Value->Array Value}{t':Nat}(I:Inv X pins σ H s)(hH:H l=some (.lst xs))
  (e:s.heap.get? l=some { cls:=.type "list",data:=.seq its.toArray n }) (hf:f its.toArray=its'.toArray) (hv:Vals ys its') (hz:ys.length<=sizeLine) :
  Inv X pins σ (upd H l (.lst ys)) { s with heap:=s.heap.update l (Obj.mapSeq f),toks:=t' }:=by
 have q:=PySem.IsL.update e f
 rw[hf]at q
 refine I.write (x:=l) (e:=l) (by rw[hH];exact trivial) (.inl rfl) (fun b' u hb hu=>(Heap.get?_update_other s.heap (Obj.mapSeq f) (Ne.symm hb)).trans hu) ⟨_,q⟩ ?_
 exact⟨hz,its',_,hv,q⟩
theorem Inv.lnew{its:List Value}{t':Nat}(I:Inv X pins σ H s)(hv:Vals ys its)(hz:ys.length<=sizeLine):
  Inv X pins σ (upd H s.heap.objs.size (.lst ys)) { s with heap:=s.heap.push { cls:=.type "list",data:=.seq its.toArray },toks:=t' }:=
 I.laid (fun _ _ q=>Heap.get?_push_of_some _ q) (Nat.le_refl _) ⟨hz,its,0,hv,Heap.get?_push_size _ rfl⟩
theorem Inv.fresh(I:Inv X pins σ H s):H s.heap.objs.size=none:=I.hok.fresh (Nat.le_refl _)
theorem Inv.lstM(I:Inv X pins σ H s)(hH:H l=some (.lst xs)):xs.length<=sizeLine/\∃(its:List Value) (n:Nat),Vals xs its/\xs.length=its.length/\s.heap.get? l=some { cls:=.type "list",data:=.seq its.toArray n }:=by
 obtain⟨z,its,n,r,e⟩:=I.hok l _ hH
 exact⟨z,its,n,r,r.length,e⟩
theorem qk{n:Nat}(h:n<=sizeLine):Builtin.List.listTooLong n=false:=by
 unfold Builtin.List.listTooLong
 exact decide_eq_false (by omega)
end
section
variable {X:Cx}
def rW:V->List V->Hp->VK->Prop:=fun x vs H Q=>∃l xs y,x=.ref l/\vs=[y]/\H l=some (.lst xs)/\xs.length<sizeLine/\Q .non (upd H l (.lst (xs++[y])))
theorem bI:mT X "list.append" rW:=by
 intro pins s σ H x vs v us Q I rx rv h
 obtain⟨l,xs,y,rfl,rfl,hH,hz,q⟩:=h
 cases rx
 obtain⟨u,rfl,ru⟩:=rv.one
 obtain⟨z,its,n,r,hl,e⟩:=I.lstM hH
 refine call_meets F.slot_list_append ⟨_,e,rfl⟩ F.entry_list_append (F.args_list_append_2 _ _) (PySem.list_append l its.toArray n u (by rw[List.size_toArray];omega)) ⟨e,?_⟩
 refine⟨.non,_,I.lset (its':=its++[u]) hH e (by simp) (r.append (.cons ru .nil)) ?_,rfl,q⟩
 rw[List.length_append,List.length_singleton]
 omega
def zZ:V->List V->Hp->VK->Prop:=fun x vs H Q=>∃l b xs zs,x=.ref l/\vs=[.ref b]/\H l=some (.lst xs)/\H b=some (.lst zs)/\xs.length+zs.length<=sizeLine/\Q .non (upd H l (.lst (xs++zs)))
theorem oP:mT X "list.extend" zZ:=by
 intro pins s σ H x vs v us Q I rx rv h
 obtain⟨l,b,xs,zs,rfl,rfl,hH,hB,hz,q⟩:=h
 cases rx
 obtain⟨u,rfl,ru⟩:=rv.one
 cases ru
 obtain⟨z,its,n,r,hl,e⟩:=I.lstM hH
 obtain⟨z2,its2,n2,r2,hl2,e2⟩:=I.lstM hB
 have hsz:its.toArray.size+its2.toArray.size<=sizeLine:=by rw[List.size_toArray,List.size_toArray];omega
 have hlong:¬(!its.toArray.isEmpty && Builtin.List.listTooLong (its.toArray.size+its2.toArray.size))=true:=by
  rw[qk hsz,Bool.and_false]
  exact Bool.false_ne_true
 refine call_meets F.slot_list_extend ⟨_,e,rfl⟩ F.entry_list_extend (F.args_list_extend_2 _ _)
  (AutoSeq1.list_extend_list_list_0 l its.toArray n b its2.toArray n2 hlong (by rw[List.size_toArray];omega) (by omega)) ⟨e,e2,?_⟩
 refine⟨.non,_,I.lset (its':=its++its2) hH e (by simp) (r.append r2) ?_,rfl,q⟩
 rw[List.length_append]
 omega
def AB:V->List V->Hp->VK->Prop:=fun x vs H Q=>∃l xs i k y,x=.ref l/\vs=[.int i]/\H l=some (.lst xs)/\-(2 ^ 63)<=i/\i<2 ^ 63/\seqIndex? i xs.length=some k/\xs[k]?=some y/\Q y (upd H l (.lst (xs.eraseIdx k)))
theorem vJ:mT X "list.pop" AB:=by
 intro pins s σ H x vs v us Q I rx rv h
 obtain⟨l,xs,i,k,y,rfl,rfl,hH,h1,h2,hk,hy,q⟩:=h
 cases rx
 obtain⟨u,rfl,ru⟩:=rv.one
 obtain⟨t,rfl⟩:=ru
 obtain⟨z,its,n,r,hl,e⟩:=I.lstM hH
 obtain⟨w,hw,rw'⟩:=r.get hy
 refine call_meets F.slot_list_pop ⟨_,e,rfl⟩ F.entry_list_pop (F.args_list_pop_2 _ _)
  (MeetsSeq.list_pop_at l its.toArray n i t k w (fitsIndex_both h1 h2) (by rw[List.size_toArray,←hl];exact hk) (by rw[←Array.getElem?_toList];exact hw) (by rw[List.size_toArray];omega)) ⟨e,?_⟩
 refine⟨y,_,I.lset (its':=its.eraseIdx k) hH e ?_ (r.eraseIdx k) ?_,rw',q⟩
 ·show its.toArray.eraseIdxIfInBounds k=(its.eraseIdx k).toArray
  rw[List.eraseIdxIfInBounds_toArray]
 ·have:=sG xs k
  omega
def ph:R2:=fun x y H Q=>∃l b xs zs,x=.ref l/\y=.ref b/\H l=some (.lst xs)/\H b=some (.lst zs)/\xs.length+zs.length<=sizeLine/\∀p,H p=none->Q (.ref p) (upd H p (.lst (xs++zs)))
theorem g8:bg X (binaryOp .Add) ph:=by
 intro pins s σ H x y v u Q I rx ry h
 obtain⟨l,b,xs,zs,rfl,rfl,hH,hB,hz,q⟩:=h
 cases rx
 cases ry
 obtain⟨z,its,n,r,hl,e⟩:=I.lstM hH
 obtain⟨z2,its2,n2,r2,hl2,e2⟩:=I.lstM hB
 refine PySem.P.add_list e e2 ?_ (by rw[List.size_toArray,List.size_toArray];omega)
 have ea:its.toArray++its2.toArray=(its++its2).toArray:=by simp
 rw[ea]
 exact⟨.ref _,_,I.lnew (t':=s.toks) (r.append r2) (by rw[List.length_append];omega),rfl,q _ I.fresh⟩
def se:R2:=fun x y H Q=>∃l k xs,x=.ref l/\y=.int k/\H l=some (.lst xs)/\-(2 ^ 63)<=k/\k<2 ^ 63/\xs.length*k.toNat<=sizeLine ∧
 ∀p,H p=none->Q (.ref p) (upd H p (.lst (List.replicate k.toNat xs).flatten))
theorem len_rep{α:Type}(xs:List α)(k:Nat):(List.replicate k xs).flatten.length=k*xs.length:=by
 induction k with
 | zero=>simp
 | succ k ih=>rw[List.replicate_succ,List.flatten_cons,List.length_append,ih,Nat.succ_mul,Nat.add_comm]
theorem j4:bg X (binaryOp .Mult) se:=by
 intro pins s σ H x y v u Q I rx ry h
 obtain⟨l,k,xs,rfl,rfl,hH,h1,h2,hz,q⟩:=h
 cases rx
 obtain⟨t,rfl⟩:=ry
 obtain⟨z,its,n,r,hl,e⟩:=I.lstM hH
 have hlen:its.toArray.size*k.toNat<=sizeLine:=by rw[List.size_toArray,←hl];exact hz
 have hcap:¬its.toArray.size*k.toNat>(2 ^ 63-1) / 8:=by
  have:(sizeLine:Nat)<=(2 ^ 63-1) / 8:=by decide
  omega
 have hfit:¬(!Builtin.List.listFitsIndex k)=true:=by
  rw[fitsIndex_both h1 h2]
  exact Bool.false_ne_true
 have hlong:¬Builtin.List.listTooLong (its.toArray.size*k.toNat)=true:=by
  rw[qk hlen]
  exact Bool.false_ne_true
 have hnew:List.foldl (fun x1 x2=>x1++x2) #[] (List.replicate (if its.toArray.isEmpty=true then 0 else k.toNat) its.toArray)=(List.replicate k.toNat its).flatten.toArray:=by
  have f0:∀m:Nat,List.foldl (fun x1 x2=>x1++x2) #[] (List.replicate m its.toArray)=(List.replicate m its).flatten.toArray:=fun m=>by
   have:=foldl_rep its m []
   rw[List.nil_append]at this
   exact this
  rw[f0]
  cases its with
  | nil=>simp
  | cons a r'=>rw[if_neg (by simp)]
 refine wpAny_binaryOp_repeat_ref (T:="list") (U:="int") (by decide) ⟨_,e,rfl⟩ (fun s'=>typeIs_int s' k t) noFill_list_mul F.fills_int_mul F.slot_int_rmul repeat_list F.slot_int_index.lookup
  (call_meets F.slot_int_rmul (typeIs_int s k t) F.entry_int_rmul (F.args_int_rmul_2 _ _) (int___rmul___int_list k t l its.toArray n)
   ⟨e,rfl,⟨_,e,rfl⟩,call_meets F.slot_list_mul ⟨_,e,rfl⟩ F.entry_list_mul (F.args_list_mul_2 _ _) (AutoListH.list___mul___list_int_3 l its.toArray n k t hfit hcap hlong) ⟨e,?_⟩⟩)
 rw[hnew]
 exact⟨.ref _,_,I.lnew (t':=s.toks) (r.rep k.toNat) (by rw[len_rep,Nat.mul_comm];exact hz),rfl,q _ I.fresh⟩
end
section
variable {prog:Program} {w:World} {A:Around} {E:Value->Shared->Prop} {s:Shared}
end
section
variable {X:Cx}
end
end L2
namespace Att
open PySem PySem.W PySem.Calls PyProof.Rows
theorem Cq{P:Params}{h:Heap}:∀(ns:List Int) (vs:List Value),WellAll P h vs (ns.map WData.int)->IntsAre vs ns:=by
 intro ns
 induction ns with
 | nil=>
  intro vs w
  rw[List.map_nil]at w
  cases w
  exact .nil
 | cons n ns ih=>
  intro vs w
  rw[List.map_cons]at w
  cases w with
  | cons a b=>
   cases a
   exact .cons _ _ (ih _ b)
theorem A4{l:OpenLaw}{n:Nat}(hn:l.most=some n){P:Params}{h:Heap}{args:List WData}{vals:List Value}
  (hpre:l.row.toRowW.claim.pre args=true) (hwl:WellAll P h vals args) :
  ∃a vs ns,vals=[Value.ref a]/\args=[WData.list (ns.map WData.int)]/\h.get? a=some { cls:=.type "list",data:=.seq vs.toArray }/\IntsAre vs ns/\ns.length<=n:=by
 have hsh:WShape.hasAll [] args [.list .int]=true:=(pre_splitW hpre).1
 have hc:l.pre.holds [] { args:=args }=true:=(pre_splitW hpre).2
 obtain⟨d,r,rfl,h1,h2⟩:=hasAllW_cons hsh
 obtain rfl:=hasAllW_nil h2
 obtain⟨xs,rfl,h3⟩:=hasW_list h1
 obtain⟨ns,rfl⟩:=items_int h3
 have hlen:ns.length<=n:=by
  unfold OpenLaw.pre at hc
  have h4:(WTm.not (.lt (.lit (.int (n:Int))) (.len (.arg 0)))).holds [] { args:=[.list (ns.map .int)] }=true:=by
   have h4:=(holds_andW hc).1
   rw[hn]at h4
   exact h4
  have h5:=condW_of h4 (w_not (w_lt w_lit (w_len_list (w_arg rfl))))
  rw[List.length_map]at h5
  refine Nat.le_of_not_lt fun q=>?_
  have q':(n:Int)<((ns.length:Nat):Int):=by omega
  first
   | (rw[decide_eq_true q']at h5;exact absurd h5 (by decide))
   | (simp at h5;omega)
 cases hwl with
 | cons w1 w2=>
  cases w2
  cases w1 with
  | list ho hall=>exact⟨_,_,ns,rfl,rfl,ho,Cq ns _ hall,hlen⟩
theorem yX(l:OpenLaw)(args:List WData):l.row.toRowW.claim.post args (.bool true) args=true:=
 postW_of (r:=l.row.toRowW) (X:=(true == true))
  (show WShape.has [] (.bool true) .bool=true by first | rfl | decide | simp [WShape.has,WShape.arms,WShape.armsAll])
  (show(WTm.eq .res (.lit (.bool true))).value [] { args:=args,res:=some (.bool true),after:=args }=some (.bool (true == true))from w_eq_bool (w_res rfl) w_lit) rfl
theorem yp{l:OpenLaw}{n:Nat}{q:Program}{loose:List Str}{XP:(Str->Option Value)->Heap->Prop}{YP:World->Heap->Prop}{d:DefRec}
  (hn:l.most=some n) (hdf:d.params.defaults=[])
  (call:∀(w:World) (s₀ s₁:Shared) (mg mb:Str->Option Value) (fa:Addr) (o:Obj) (pm cd doc:Value) (a:Addr) (vs:List Value) (ns:List Int),
   Ground q loose [] XP w s₀ mg mb s₁.heap->YP w s₁.heap →
   s₁.heap.get? fa=some o->o.data=.func (docDef d.name d.params d.body d.scope pm cd doc)->s₁.heap.CodeRec cd d.name->mg d.name=some (.ref fa) →
   s₁.heap.get? a=some { cls:=.type "list",data:=.seq vs.toArray }->IntsAre vs ns->ns.length<=n->s₁.gens = #[] →
   codeAny (model l.prog w) callerA (.call (.ref fa) ⟨[.ref a],[]⟩) (fun r s'=>r=.ok (.ret (.bool true))/\OldK s₁.heap s'.heap/\s'.os=s₁.os/\AllBare s'.gens) s₁) :
  WalkO q loose XP YP l.row.toRowW d [] (fun f vs=>PySem.call f vs):=by
 intro w s₀ s₁ mg mb G Y fa o pm cd doc dV kV ho hd hcd hD hmg hg args vals as hpre hlay hrd hwl hlo
 obtain rfl:dV=.none:=Dflts.none hD hdf
 obtain rfl:kV=.none:=Dflts.noKw hD
 obtain⟨a,vs,ns,rfl,rfl,hobj,hints,hlen⟩:=A4 hn hpre hwl
 refine enter_call (codeAny_mono (call w s₀ s₁ mg mb fa o pm cd doc a vs ns G Y ho (fd_plain hd) hcd hmg hobj hints hlen hg) fun r s' hq=>?_)
 obtain⟨rfl,h2,h3,h4⟩:=hq
 exact⟨.inl ⟨.bool true,.bool true,[],rfl,fun _=>rfl,.bool true,yX l _,fun _=>⟨List.Pairwise.nil,fun _ hm=>(nomatch hm)⟩⟩,h2,h3,h4⟩
section
variable {prog:Program} {w:World} {A:Around} {E:Value->Shared->Prop} {s:Shared} {K:Frag}
end
end Att
namespace L2
open PySem PySem.Spec PyProof.Rows
theorem nL:∀{vs:List Value} {ns:List Int},IntsAre vs ns->Vals (ns.map V.int) vs
 | _,_,.nil=>.nil
 | _,_,.cons n t h=>.cons ⟨t,rfl⟩ (nL h)
def lZ(H:Hp):Prop:=∀b,H b=none\/∃o xs,H b=some (.frz o (.lst xs))
theorem law_call{P:Program}{w:World}{K:PySem.W.Frag}{mg mb:Str->Option Value}{CX:dD}{k:Nat}{fa a:Addr}{fd:FuncData}{x:Str}{sp:Sp}{s₁:Shared}{vs:List Value}{ns:List Int}
  (KX:K.In s₁.heap) (hns:s₁.heap.Ns mainGlobals mg) (hb:s₁.heap.Ns builtinsNs mb) (hbb:∀x:Str,x≠"__name__"->mb x=bootBuiltins x) (hlim:s₁.heap.NoLimit) (hg:s₁.gens = #[])
  (ha:s₁.heap.get? a=some { cls:=.type "list",data:=.seq vs.toArray }) (hi:IntsAre vs ns) (hl:ns.length<=sizeLine) (hr:Room k callerA)
  (F:∀base:Heap,K.In base->base.Ns mainGlobals mg->FnOk P w K mg base CX k fa fd [x] sp) (hbind:∀(s:Shared) (u:Value),BindsTo s fd ⟨[u],[]⟩ [(x,u)])
  (hsp:∀H:Hp,lZ H->af K H a (ns.map V.int)->sp [.ref a] H (fun v _=>v=.bl true) fun _ _ _=>False)
  (hCX:∀H e s',CX [] H s₁ (fun _ _ _=>False) e s'->False) :
  codeAny (model P w) callerA (.call (.ref fa) ⟨[.ref a],[]⟩) (fun r s'=>r=.ok (.ret (.bool true))/\OldK s₁.heap s'.heap/\s'.os=s₁.os/\AllBare s'.gens) s₁:=by
 have rv:=nL hi
 have lenV:=hi.length
 -- from an abstract heap in which nothing but the script may be tracked
 have core:∀H:Hp,lZ H->af K H a (ns.map V.int)->br P w H s₁.heap->(∀b,H b≠none->b=a)->(H a≠none->K.lookup a=none) →
   codeAny (model P w) callerA (.call (.ref fa) ⟨[.ref a],[]⟩) (fun r s'=>r=.ok (.ret (.bool true))/\OldK s₁.heap s'.heap/\s'.os=s₁.os/\AllBare s'.gens) s₁:=by
  intro H hO hS hok hA hK
  have base_of:∀{b:Addr} {o:Obj},s₁.heap.get? b=some o->H b=none->(eI s₁.heap H).get? b=some o:=fun e n=>Ce e n
  have noA:∀{b:Addr} {o:Obj} {es:Array DictEntry} {ep:Nat},s₁.heap.get? b=some o->o.data=.dict es ep->H b=none:=fun{b o es ep} e d=>by
   cases q:H b with
   | none=>rfl
   | some u=>
    have e':b=a:=hA b (by rw[q];simp)
    subst e'
    rw[ha]at e;cases e
    have d':Data.seq vs.toArray _=Data.dict es ep:=d
    cases d'
  have nsK:∀{b:Addr} {m:Str->Option Value},s₁.heap.Ns b m->(eI s₁.heap H).Ns b m:=fun{b m} ⟨o,es,ep,e,d,r⟩=>⟨o,es,ep,base_of e (noA e d),d,r⟩
  have hKb:K.In (eI s₁.heap H):=fun b o e=>base_of (KX b o e) (by
   cases q:H b with
   | none=>rfl
   | some u=>
    have e':b=a:=hA b (by rw[q];simp)
    subst e'
    rw[hK (by rw[q];simp)]at e;cases e)
  have hM:Mod K mg (eI s₁.heap H):=⟨hKb,nsK hns,⟨mb,nsK hb,hbb⟩,let ⟨mc,h1,h2⟩:=hlim;⟨mc,nsK h1,h2⟩⟩
  have e0:Env0 P w K mg (eI s₁.heap H) callerA [] s₁ H:=⟨rfl,hM,fun b o e=>yq e,Nat.le_of_eq (xN _ _),trivial,fun b hb=>absurd (show b∈([]:List Addr)from hb) (by simp),hok,.of_eq hg⟩
  refine codeAny_mono ((F _ hKb (nsK hns)).run callerA [] s₁ H ⟨[.ref a],[]⟩ [.ref a] [.ref a] _ _ hr e0 (hbind s₁ (.ref a)) (.cons rfl .nil) (hsp H hO hS)) fun r s' h=>?_
  cases r with
  | error e=>exact(hCX H e s' h).elim
  | ok fl=>
   cases fl with
   | next=>exact False.elim h
   | brk=>exact False.elim h
   | cont=>exact False.elim h
   | ret u=>
    obtain⟨v,H',os,bare,un,hok',r',q⟩:=h
    have q':v=.bl true:=q
    subst q'
    obtain rfl:u=Value.bool true:=r'
    refine⟨rfl,OldK.of_keep fun b o e=>?_,os,bare⟩
    cases q:H b with
    | none=>exact un.keep b o e q (by intro z;exact absurd (show b∈([]:List Addr)from z) (by simp)) (by simp)
    | some u=>
     rcases hO b with z | ⟨ob,xs,z⟩
     ·rw[q]at z;cases z
     ·have z2:=un.frzs b ob _ z
      obtain⟨e1,_⟩:=hok b _ z
      obtain⟨e2,_⟩:=hok' b _ z2
      rw[e]at e1;cases e1
      exact e2
 cases hk:K.lookup a with
 | some o=>
  -- the script is one of the module's own objects
  have e:=KX a o hk
  rw[ha]at e
  cases e
  refine core (fun _=>none) (fun _=>.inl rfl) (.inr ⟨_,vs.toArray,_,hk,rfl,rfl,rfl,by rw[List.size_toArray,lenV];exact hl,by simpa using rv⟩) (fun b u z=>by have z':(none:Option HO)=some u:=z;cases z') (fun b z=>absurd rfl z) fun z=>absurd rfl z
 | none=>
  refine core (fun b=>if b=a then some (.frz { cls:=.type "list",data:=.seq vs.toArray } (.lst (ns.map V.int)))else none) (fun b=>?_) (.inl (.inr ⟨{ cls:=.type "list",data:=.seq vs.toArray },if_pos rfl⟩)) (fun b u z=>?_) (fun b z=>?_) fun _=>hk
  ·by_cases hb:b=a
   ·exact .inr ⟨_,_,if_pos hb⟩
   ·exact .inl (if_neg hb)
  ·by_cases hb:b=a
   ·have z':=(if_pos hb).symm.trans z
    cases z'
    subst hb
    exact⟨ha,by rw[List.length_map];exact hl,vs,_,rv,ha⟩
   ·have z':=(if_neg hb).symm.trans z
    cases z'
  ·by_cases hb:b=a
   ·exact hb
   ·exact absurd (if_neg hb) z
end L2
namespace L2
open PySem PySem.Spec PyProof.Rows
theorem A9{l:PySem.W.OpenLaw}{n k:Nat}{q:Program}{loose:List Str}{XP:(Str->Option Value)->Heap->Prop}{YP:World->Heap->Prop}{d:DefRec}{K:Params->PySem.W.Frag}{CX:World->dD}{sp:World->Sp}{x:Str}
  (hn:l.most=some n) (hn2:n<=sizeLine) (hdf:d.params.defaults=[]) (hr:Room k callerA)
  (hY:∀(w:World) (h:Heap),YP w h->(K w.params).In h)
  (F:∀(w:World) (mg:Str->Option Value) (fa:Addr) (h:Heap),(K w.params).In h->h.Ns mainGlobals mg->mg d.name=some (.ref fa) →
   ∃fd:FuncData,(∀(s:Shared) (u:Value),BindsTo s fd ⟨[u],[]⟩ [(x,u)]) ∧
    ∀base:Heap,(K w.params).In base->base.Ns mainGlobals mg->FnOk l.prog w (K w.params) mg base (CX w) k fa fd [x] (sp w))
  (hsp:∀(w:World) (H:Hp) (a:Addr) (ns:List Int),ns.length<=n->lZ H->af (K w.params) H a (ns.map V.int)->sp w [.ref a] H (fun v _=>v=.bl true) fun _ _ _=>False)
  (hCX:∀(w:World) (H:Hp) (s:Shared) (e:Value) (s':Shared),CX w [] H s (fun _ _ _=>False) e s'->False) :
  PySem.W.WalkO q loose XP YP l.row.toRowW d [] (fun f vs=>PySem.call f vs):=by
 refine Att.yp hn hdf fun w s₀ s₁ mg mb fa o pm cd doc a vs ns G Y ho hd hcd hmg hobj hints hlen hg=>?_
 have KX:=hY w _ Y
 obtain⟨fd,hb,hF⟩:=F w mg fa _ KX G.T.g hmg
 exact law_call KX G.T.g G.T.b G.T.builtins G.T.nolimit hg hobj hints (Nat.le_trans hlen hn2) hr hF hb (fun H hO hS=>hsp w H a ns hlen hO hS) fun H e s'=>hCX w H s₁ e s'
end L2
namespace L2
open PySem PySem.Spec PyProof.Rows
def fK(s:Stmt):Arguments:=match s with
 | .FunctionDef _ a _ _ _ _ _ _ _ _=>a
 | _=>{ posonlyargs:=[],args:=[],vararg:=none,kwonlyargs:=[],kw_defaults:=[],kwarg:=none,defaults:=[] }
def eE(s:Stmt):List Stmt:=match s with
 | .FunctionDef _ _ b _ _ _ _ _ _ _=>b
 | _=>[]
def aC(s:Stmt):Scope:=match s with
 | .FunctionDef _ _ _ _ _ _ sc _ _ _=>sc
 | _=>{ kind:=.function,names:=[],isGenerator:=false,isCoroutine:=false }
abbrev eD:dD:=fun _ _ _ _ _ _=>False
abbrev E0:XK:=fun _ _ _=>False
theorem CA{X:Cx}:Passes eD X E0:=fun _ _ _ _ _ _ _ h=>h.elim
structure Fun(K:PySem.W.Frag)(x qual:Str)(st:Stmt)(f:Addr)(fd:FuncData):Prop where
 ex:∃(oc:Value) (od:Option Addr) (kV doc pm:Value) (an:Option Addr) (cdv ct:Value) (osl:Array (Option Value)),
  fd=PySem.W.fnOf x qual (fK st) (eE st) (aC st) .none kV doc pm an cdv ct/\K.lookup f=some ⟨oc,od,.func fd,osl⟩/\PySem.W.codeIn K cdv qual=true
 kp:PySem.W.keepIn K (.ref f)=true
section
variable {P:Program} {w:World} {K:PySem.W.Frag} {mg:Str->Option Value} {base:Heap}
theorem Fun.ok{x qual:Str}{st:Stmt}{f:Addr}{fd:FuncData}{N ps:List Str}{k:Nat}{sp:Sp}(F:Fun K x qual st f fd)(S:FnScope N ps (aC st))(len:∀vs H Q E,sp vs H Q E->vs.length=ps.length)
  (hbody:∀(cdv:Value) (A:Around) (outer:List Env) (s:Shared) (H:Hp) (vs:List V) (Q:VK) (E:XK),Room k (A.deeper (envOfC qual (aC st) s.heap.objs.size f cdv))->sp vs H Q E →
   ∃t,cn (fP eD P w K mg base N qual (aC st) f cdv A outer s H E).nox (eE st) t/\t { nx:=fun _ H'=>Q .non H',rt:=Q } (start N vs) H):FnOk P w K mg base eD (k+1) f fd ps sp:=by
 obtain⟨oc,od,kV,doc,pm,an,cdv,ct,osl,rfl,lk,hcd⟩:=F.ex
 refine Ap lk hcd S len fun A outer s H vs Q E hr hsp=>?_
 obtain⟨t,h,q⟩:=hbody cdv A outer s H vs Q E hr hsp
 exact⟨t,h.nox,q⟩
theorem Fun.binds{x qual:Str}{st:Stmt}{f:Addr}{fd:FuncData}{ps:List Str}(F:Fun K x qual st f fd)
  (h:∀(kV doc pm:Value) (an:Option Addr) (cdv ct:Value) (us:List Value),us.length=ps.length->bindArgs (PySem.W.fnOf x qual (fK st) (eE st) (aC st) .none kV doc pm an cdv ct) ⟨us,[]⟩=pure (ps.zip us)):Binds K fd ps []:=by
 obtain⟨oc,od,kV,doc,pm,an,cdv,ct,osl,rfl,lk,hcd⟩:=F.ex
 exact .all (h kV doc pm an cdv ct)
theorem nE{x qual:Str}{st:Stmt}{f:Addr}{oc:Value}{od an:Option Addr}{osl:Array (Option Value)}{kV doc pm cdv ct:Value}(l:K.lookup f=some ⟨oc,od,.func (PySem.W.fnOf x qual (fK st) (eE st) (aC st) .none kV doc pm an cdv ct),osl⟩)
  (c:PySem.W.codeIn K cdv qual=true) (k:PySem.W.keepIn K (.ref f)=true):Fun K x qual st f (PySem.W.fnOf x qual (fK st) (eE st) (aC st) .none kV doc pm an cdv ct):=⟨⟨oc,od,kV,doc,pm,an,cdv,ct,osl,rfl,l,c⟩,k⟩
end
theorem dP{A:Around}{k:Nat}(hr:Room k A):A.units+1<cLine:=Nat.lt_of_le_of_lt (Nat.add_le_add_left (by decide:1<=64) _) hr.units
section
variable {X:Cx}
theorem pv(i:Nat){x:Str}{pos:Pos}(hN:X.N[i]?=some x:=by rfl)(hv:i3 X.env.scope x:=by first | exact Or.inl rfl | exact Or.inr (Or.inl rfl) | exact Or.inr (Or.inr rfl))(hd:(x == ("__debug__":Str))=false:=by decide)
  (hcd:(x == ("__classdict__":Str))=false:=by decide):PE X (.Name x pos) (lE i):=xB hN hv hd hcd
end
theorem ay{A B:Prop}(h:B):if false=true then A else B:=by
 rw[if_neg Bool.false_ne_true]
 exact h
theorem aD{A B:Prop}(h:A):if true=true then A else B:=by
 rw[if_pos rfl]
 exact h
theorem eY{c A B:Prop}[Decidable c](h1:c->A)(h2:¬c->B):if c then A else B:=by
 by_cases h:c
 ·rw[if_pos h]
  exact h1 h
 ·rw[if_neg h]
  exact h2 h
end L2
set_option Elab.async false
set_option linter.all false
set_option maxRecDepth 100000
set_option maxHeartbeats 4000000
namespace L2
open PySem PySem.Spec PyProof.Rows
structure Blk where
 s:Shared
 H:Hp
 fp:List Addr
 C:Addr
def fS(names:List (Str×NameKind))(cells:List (Str×Addr)):List (Str×Addr):=
 names.foldl (fun acc p=>if p.2 == .free then(p.1,(cells.lookup p.1).getD 0)::acc else acc) []
def cL(X:Cx)(sc:Scope)(own:List Str)(js:List Nat)(z:Blk):Cx where
 prog:=X.prog
 w:=X.w
 K:=X.K
 mg:=X.mg
 base:=X.base
 A:=X.A
 N:=own++js.map fun j=>X.N.getD j ""
 s₀:=z.s
 H₀:=z.H
 env:=compEnvC sc (fS sc.names X.env.cells) z.C X.env
 outer:=X.stack
 stack:=X.stack
 ex:=z.fp
 fn:=fun _=>false
 calm:=X.calm
 pn:=[]
 xe:=fun _ _=>False
def eM(sc out:Scope):Bool:=sc.names.all fun p=>p.2 != .cell && (p.2 != .local || sc.names.lookup p.1 == some .local) && (p.2 != .free || out.names.lookup p.1 == some .cell || out.names.lookup p.1 == some .free)
def i5(sc:Scope)(N:List Str)(js:List Nat):Bool:=js.all fun j=>decide (j<N.length) && (sc.names.lookup (N.getD j "") == some .free)
def cv(n:Nat)(js:List Nat)(σ:St):St:=List.replicate n none++js.map fun j=>(σ[j]?).join
theorem pM(cells:List (Str×Addr)):∀(names:List (Str×NameKind)) (acc:List (Str×Addr)) (x:Str) (c:Addr),
  (names.foldl (fun acc p=>if p.2 == .free then(p.1,(cells.lookup p.1).getD 0)::acc else acc) acc).lookup x=some c →
  ((x,NameKind.free)∈names/\c=(cells.lookup x).getD 0)\/acc.lookup x=some c
 | [],acc,x,c,h=>.inr h
 | (n,k)::r,acc,x,c,h=>by
  rw[List.foldl_cons]at h
  rcases pM cells r _ x c h with⟨h1,h2⟩ | h1
  ·exact .inl ⟨List.mem_cons_of_mem _ h1,h2⟩
  ·cases hk:(k == NameKind.free)with
   | false=>
    simp only[hk]at h1
    exact .inr h1
   | true=>
    simp only[hk,if_true]at h1
    rw[List.lookup_cons]at h1
    cases hx:(x == n)with
    | false=>rw[hx]at h1;exact .inr h1
    | true=>
     rw[hx]at h1
     have e1:x=n:=by simpa using hx
     have e2:k=.free:=by simpa using hk
     subst e1 e2
     exact .inl ⟨List.mem_cons_self,(Option.some.inj h1).symm⟩
theorem pG(cells:List (Str×Addr)):∀(names:List (Str×NameKind)) (acc:List (Str×Addr)) (x:Str),
  ((x,NameKind.free)∈names\/(acc.lookup x).isSome=true)->((names.foldl (fun acc p=>if p.2 == .free then(p.1,(cells.lookup p.1).getD 0)::acc else acc) acc).lookup x).isSome=true
 | [],acc,x,h=>by
  rcases h with h | h
  ·simp at h
  ·exact h
 | (n,k)::r,acc,x,h=>by
  rw[List.foldl_cons]
  apply pG cells r
  rcases h with h | h
  ·rcases List.mem_cons.mp h with e | h
   ·right
    cases e
    simp[List.lookup_cons]
   ·exact .inl h
  ·right
   cases hk:(k == NameKind.free)with
   | false=>simpa[hk]using h
   | true=>
    simp only[hk,if_true,List.lookup_cons]
    cases hx:(x == n)with
    | true=>rfl
    | false=>exact h
theorem qt{env:Env}{sc:Scope}(h:∀p∈sc.names,p.2=.free->∃c,env.cells.lookup p.1=some c):closureFor sc env=pure (fS sc.names env.cells):=by
 have go:∀(names:List (Str×NameKind)) (acc:List (Str×Addr)),(∀p∈names,p.2=NameKind.free->∃c,env.cells.lookup p.1=some c) →
   (forIn names acc fun(p:Str×NameKind) (r:List (Str×Addr))=>(match p with | (name,kind)=>if(kind == NameKind.free)=true then do let c ←cellOf env name;pure (ForInStep.yield ((name,c)::r))else pure (ForInStep.yield r):Sem _)) =
   pure (names.foldl (fun acc p=>if p.2 == .free then(p.1,(env.cells.lookup p.1).getD 0)::acc else acc) acc):=by
  intro names
  induction names with
  | nil=>intro acc _;rfl
  | cons p r ih=>
   intro acc hp
   obtain⟨n,k⟩:=p
   rw[List.forIn_cons,List.foldl_cons]
   cases hk:(k == NameKind.free)with
   | false=>
    simp only[hk,Bool.false_eq_true,if_false]
    exact ih acc fun q hq=>hp q (List.mem_cons_of_mem _ hq)
   | true=>
    obtain⟨c,hc⟩:=hp (n,k) List.mem_cons_self (by simpa using hk)
    have e:cellOf env n=pure c:=by
     unfold cellOf
     rw[show env.cells.lookup n=some c from hc]
    simp only[hk,if_true,e]
    have hc':env.cells.lookup n=some c:=hc
    rw[hc']
    exact ih _ fun q hq=>hp q (List.mem_cons_of_mem _ hq)
 unfold closureFor fS
 have:=go sc.names [] h
 simp only[this]
 rfl
def ir(X:Cx)(ifs:List Expr)(t:TT):Prop:=
 ∀(pins:List (Addr×Obj)) (s:Shared) (σ:St) (H:Hp) (Q:Bool->Hp->Prop),Inv X pins σ H s->t σ H Q →
  wpAny (model X.prog X.w) X.A (forIn ifs true fun c r=>if r=true then do let ok ←isTrue c X.env (eval c X.env);pure (ForInStep.yield ok)else pure (ForInStep.yield r)) (TP X pins σ Q) X.xe s
def oV:TT:=fun _ H Q=>Q true H
theorem cN{X:Cx}:ir X [] oV:=fun _ _ _ H _ I h=>wpAny_tests_nil ⟨H,I,h⟩
theorem jB{X:Cx}{c:Expr}{t:TT}(h:PT X c t):ir X [c] t:=fun pins s σ H Q I hq=>wpAny_tests_one (h pins s σ H Q I hq)
theorem vI{prog:Program}{w:World}{A:Around}{R:Result->Shared->Prop}{t0:Shared}{elt tgt iter:Expr}{ifs:List Expr}{sc:Scope}{ps:Pos}{itv acc:Value}{ce:Env}(Wd:Nat->Shared->Prop)
  (step:∀k t,Wd k t->wpAny (model prog w) A (pyNext itv) (fun got t1=>
   match got with
   | none=>R (.ok .next) t1
   | some u=>wpAny (model prog w) A (letOwnedTupleGo tgt itv u) (fun _ t2=>wpAny (model prog w) A (assign tgt ce u) (fun _ t3=>
     wpAny (model prog w) A (forIn ifs true fun c r=>if r=true then do let ok ←isTrue c ce (eval c ce);pure (ForInStep.yield ok)else pure (ForInStep.yield r)) (fun yes t4=>
      if yes=true then wpAny (model prog w) A (eval elt ce) (fun val t5=>wpAny (model prog w) A (call (.builtin "list.append") [acc,val]) (fun _ t6=>∃m,m<k/\Wd m t6) (fun _ _=>False) t5) (fun _ _=>False) t4
      else ∃m,m<k/\Wd m t4) (fun _ _=>False) t3) (fun _ _=>False) t2) (fun _ _=>False) t1) (fun _ _=>False) t)
  (k0:Nat) (start:Wd k0 t0):codeAny (model prog w) A (.compLoop (.ListComp elt [⟨tgt,iter,ifs,0⟩] sc ps) 0 itv acc ce) R t0:=by
 refine codeAny_loop rfl Wd (fun k t hW=>?turn) k0 start
 case turn=>
  have nox:∀{α:Type} {m:Sem α} {Q:α->Shared->Prop} {E:Value->Shared->Prop} {z:Shared},wpAny (model prog w) A m Q (fun _ _=>False) z->wpAny (model prog w) A m Q E z:=fun h=>wpAny_mono h (fun _ _ q=>q) fun _ _ f=>f.elim
  show wpAny _ A ((compTurn (.ListComp elt [⟨tgt,iter,ifs,0⟩] sc ps) 0 itv acc ce).onRaise (fun x=>do noteFrame x ce;theTreesLotGoes x)) _ _ t
  apply wpAny_noted
  rw[compTurn_list]
  refine wpAny_bind (wpAny_standAt (wpAny_bind (nox (wpAny_mono (step k t hW) (fun got t1 h1=>?_) fun _ _ f=>f))))
  cases got with
  | none=>exact wpAny_pure h1
  | some u=>
   refine wpAny_bind (nox (wpAny_mono h1 (fun _ t2 h2=>?_) fun _ _ f=>f))
   refine wpAny_bind (nox (wpAny_mono h2 (fun _ t3 h3=>?_) fun _ _ f=>f))
   refine wpAny_bind (nox (wpAny_mono h3 (fun yes t4 h4=>?_) fun _ _ f=>f))
   cases yes with
   | false=>
    rw[if_neg Bool.false_ne_true]at h4
    exact wpAny_pure ⟨rfl,h4⟩
   | true=>
    rw[if_pos rfl]at h4
    refine wpAny_bind (wpAny_bind (nox (wpAny_mono h4 (fun val t5 h5=>?_) fun _ _ f=>f)))
    exact wpAny_bind (nox (wpAny_mono h5 (fun _ t6 h6=>wpAny_pure (wpAny_pure ⟨rfl,h6⟩)) fun _ _ f=>f))
section
variable {X:Cx} {pins:List (Addr×Obj)} {σ:St} {H:Hp} {s:Shared}
def du(its:List Value)(n:Nat):Obj:={ cls:=.type "list",data:=.seq its.toArray n }
theorem je{sc out:Scope}(h:eM sc out=true){p:Str×NameKind}(hp:p∈sc.names)(hf:p.2=.free):out.names.lookup p.1=some .cell\/out.names.lookup p.1=some .free:=by
 have:=List.all_eq_true.mp h p hp
 simp only[hf,Bool.and_eq_true,Bool.or_eq_true,beq_iff_eq,bne_iff_ne,ne_eq,not_true,false_or]at this
 exact this.2
theorem vx{sc out:Scope}(h:eM sc out=true){p:Str×NameKind}(hp:p∈sc.names):p.2≠.cell:=by
 have:=List.all_eq_true.mp h p hp
 simp only[Bool.and_eq_true,bne_iff_ne,ne_eq]at this
 exact this.1.1
theorem ua{sc out:Scope}(h:eM sc out=true){p:Str×NameKind}(hp:p∈sc.names)(hf:p.2=.local):sc.names.lookup p.1=some .local:=by
 have:=List.all_eq_true.mp h p hp
 simp only[hf,Bool.and_eq_true,Bool.or_eq_true,beq_iff_eq,bne_iff_ne,ne_eq,not_true,false_or]at this
 exact this.1.2
theorem kB{sc:Scope}{env:Env}{x:Str}:∀{names:List (Str×NameKind)} {k:NameKind},(names.map fun(p:Str×NameKind)=>match p with | (n,k)=>if(k == NameKind.free && env.scope.kind == .function && env.kindOf n == some .cell)then(n,NameKind.cell)else(n,k)).lookup x=some k →
  ∃k',names.lookup x=some k'/\(k'=k\/(k'=.free/\k=.cell))
 | [],_,h=>by simp at h
 | (n,q)::r,k,h=>by
  rw[List.map_cons]at h
  rw[List.lookup_cons]
  cases hx:(x == n)with
  | true=>
   refine⟨q,rfl,?_⟩
   by_cases hc:(q == NameKind.free && env.scope.kind == .function && env.kindOf n == some .cell)=true
   ·simp only[hc,if_true,List.lookup_cons,hx]at h
    right
    simp only[Bool.and_eq_true,beq_iff_eq]at hc
    exact⟨hc.1.1,(Option.some.inj h).symm⟩
   ·left
    have h2:List.lookup x ((n,q)::(r.map fun(p:Str×NameKind)=>match p with | (n,k)=>if(k == NameKind.free && env.scope.kind == .function && env.kindOf n == some .cell)then(n,NameKind.cell)else(n,k)))=some k:=by
     have h3:=h
     dsimp only at h3
     rw[if_neg hc]at h3
     exact h3
    rw[List.lookup_cons,hx]at h2
    exact Option.some.inj h2
  | false=>
   have:List.lookup x (r.map fun(p:Str×NameKind)=>match p with | (n,k)=>if(k == NameKind.free && env.scope.kind == .function && env.kindOf n == some .cell)then(n,NameKind.cell)else(n,k))=some k:=by
    by_cases hc:(q == NameKind.free && env.scope.kind == .function && env.kindOf n == some .cell)=true
    ·simpa only[hc,if_true,List.lookup_cons,hx]using h
    ·dsimp only at h
     rw[if_neg hc,List.lookup_cons,hx]at h
     exact h
   exact kB (sc:=sc) this
theorem tF{names:List (Str×NameKind)}{x:Str}{k:NameKind}(h:names.lookup x=some k):(x,k)∈names:=PySem.mem_of_lookup h
theorem eW(ok:X.Ok){sc:Scope}(hb:eM sc X.env.scope=true){x:Str}{c:Addr}(h:(fS sc.names X.env.cells).lookup x=some c):X.env.cells.lookup x=some c:=by
 rcases pM X.env.cells sc.names [] x c h with⟨h1,h2⟩ | h1
 ·obtain⟨d,hd⟩:=ok.has x (je hb h1 rfl)
  rw[hd]at h2 ⊢
  rw[h2]
  rfl
 ·simp at h1
theorem kK{sc:Scope}{x:Str}{cells:List (Str×Addr)}(h:(x,NameKind.free)∈sc.names):∃c,(fS sc.names cells).lookup x=some c:=
 Option.isSome_iff_exists.mp (pG cells sc.names [] x (.inl h))
theorem Inv.stk_lt(I:Inv X pins σ H s){b:Addr}(hb:b∈cP X.stack):b<s.heap.objs.size:=by
 rcases List.mem_cons.mp (I.stkSub b hb)with e | h
 ·rw[e];exact I.lt
 ·obtain⟨_,o,ho,_⟩:=I.ok.funs.mem h
  exact Nat.lt_of_lt_of_le (Heap.lt_size ho) I.sz
theorem Inv.cell_lt(I:Inv X pins σ H s){x:Str}{c:Addr}(h:X.env.cells.lookup x=some c):c<s.heap.objs.size:=by
 obtain⟨v,q⟩:=I.cell x c h
 exact q.lt
theorem Inv.pin_lt(I:Inv X pins σ H s){p:Addr×Obj}(h:p∈X.pn++pins):p.1<s.heap.objs.size:=Heap.lt_size (I.pin p h).1
theorem Bt(I:Inv X pins σ H s){sc:Scope}{own:List Str}{js:List Nat}{fp:List Addr}{C:Nat}(hk:sc.kind=.function)(hb:eM sc X.env.scope=true)
  (hfp:∀b∈fp,bT X pins H b) (hC:s.heap.objs.size<=C) (hlt:∀b∈fp,b<s.heap.objs.size):(cL X sc own js ⟨s,H,fp,C⟩).Ok where
 mod:=I.ok.mod
 kind:=hk
 glob:=I.ok.glob
 blt:=I.ok.blt
 above:=hC
 inj:=fun x y c h1 h2=>I.ok.inj x y c (eW I.ok hb h1) (eW I.ok hb h2)
 has:=fun x hx=>by
  have hx':(relabel sc X.env).names.lookup x=some .cell\/(relabel sc X.env).names.lookup x=some .free:=hx
  have go:∀k,(relabel sc X.env).names.lookup x=some k->(k=.cell\/k=.free)->∃c,(fS sc.names X.env.cells).lookup x=some c:=fun k h hkk=>by
   obtain⟨k',h1,h2⟩:=kB (sc:=sc) (env:=X.env) h
   have m:=tF h1
   rcases h2 with h2 | ⟨h2,_⟩
   ·subst h2
    rcases hkk with e | e
    ·exact absurd e (vx hb m)
    ·rw[e]at m;exact kK m
   ·rw[h2]at m;exact kK m
  rcases hx' with h | h
  ·exact go _ h (.inl rfl)
  ·exact go _ h (.inr rfl)
 cab:=fun x c h _=>by cases h
 hd:=I.ok.hd
 frames:=I.ok.frames
 stk:=.inl rfl
 exf:=fun b hb'=>⟨Nat.ne_of_lt (Nat.lt_of_lt_of_le (hlt b hb') hC),fun x c e=>(hfp b hb').2.2.2.2.1 x c (eW I.ok hb e)⟩
 bs:=I.bs
 bsz:=Nat.le_trans I.ok.bsz I.sz
 noex:=fun b o e hb'=>by
  rcases(hfp b hb').2.2.2.1 with z | z
  ·exact I.ok.noex b o e z
  ·exact absurd (Nat.lt_of_lt_of_le (Heap.lt_size e) (Nat.le_trans I.ok.bsz z)) (Nat.lt_irrefl _)
 exfs:=fun b hb' hm=>by
  rcases List.mem_cons.mp (I.stkSub b hm)with e | h
  ·exact(hfp b hb').2.1 e
  ·exact(hfp b hb').2.2.1 h
 funs:=I.stack
 frf:=I.stkFree
theorem rO{n:Nat}{js:List Nat}{i:Nat}{v:V}(h:(cv n js σ)[i]?=some (some v)):∃k j,i=n+k/\js[k]?=some j/\σ[j]?=some (some v):=by
 unfold cv at h
 by_cases hi:i<n
 ·rw[List.getElem?_append_left (by simpa using hi),List.getElem?_replicate]at h
  split at h<;>cases h
 ·rw[List.getElem?_append_right (by simpa using Nat.le_of_not_lt hi),List.length_replicate,List.getElem?_map]at h
  cases e:js[i-n]? with
  | none=>rw[e]at h;cases h
  | some j=>
   rw[e]at h
   refine⟨i-n,j,by omega,e,?_⟩
   have h':(σ[j]?).join=some v:=by simpa using h
   cases q:σ[j]? with
   | none=>rw[q]at h';cases h'
   | some o=>
    rw[q]at h'
    have:o=some v:=h'
    rw[this]
theorem Bs(I:Inv X pins σ H s){sc:Scope}{own:List Str}{js:List Nat}{fp:List Addr}{C D:Nat}{h1:Heap}{tk:Nat}{o:Obj}{m:Str->Option Value}(hk:sc.kind=.function)(hb:eM sc X.env.scope=true)(hj:i5 sc X.N js=true)
  (hfp:∀b∈fp,bT X pins H b) (hlt:∀b∈fp,b<s.heap.objs.size) (hD:D=s.heap.objs.size) (hC:C=s.heap.objs.size+1) (old:∀b o,s.heap.get? b=some o->h1.get? b=some o)
  (hDo:h1.get? D=some o) (hod:∀v,o.data≠.cell v) (hm:h1.Ns C m) :
  Inv (cL X sc own js ⟨s,H,fp,C⟩) [(D,o)] (cv own.length js σ) H { s with heap:=h1,toks:=tk } where
 ok:=Bt I hk hb hfp (show @LE.le Nat _ s.heap.objs.size C by omega) hlt
 os:=rfl
 bare:=I.bare
 base:=Un.kept old
 loc:=by
  refine⟨m,hm,fun i x v e1 e2 e3=>?_⟩
  obtain⟨k,j,rfl,ej,es⟩:=rO e2
  have e1':(own++js.map fun j=>X.N.getD j "")[own.length+k]?=some x:=e1
  rw[List.getElem?_append_right (by omega),Nat.add_sub_cancel_left,List.getElem?_map,ej]at e1'
  have ex:X.N.getD j "" = x:=by simpa using e1'
  have hjj:=List.all_eq_true.mp hj j (List.mem_of_getElem? ej)
  simp only[Bool.and_eq_true,decide_eq_true_eq,beq_iff_eq]at hjj
  have exN:X.N[j]?=some x:=by
   rw[←ex,List.getD_eq_getElem?_getD,List.getElem?_eq_getElem hjj.1]
   rfl
  have hfree:sc.names.lookup x=some .free:=by rw[←ex];exact hjj.2
  have hmem:=tF hfree
  have hout:=je hb hmem rfl
  obtain⟨m0,hn0,hl0⟩:=I.loc
  obtain⟨u,r,l⟩:=hl0 j x v exN es (by rcases hout with z | z;exact .inr (.inl z);exact .inr (.inr z))
  refine⟨u,r,?_⟩
  obtain⟨c,hc⟩:=kK (cells:=X.env.cells) hmem
  have hc':=eW I.ok hb hc
  have hcell:s.heap.IsCell c (some u):=by
   rcases l with⟨z,_⟩ | ⟨_,c',e',q⟩
   ·have z':X.env.scope.names.lookup x=some .local:=z
    rcases hout with w | w<;>(rw[z']at w;cases w)
   ·rw[hc']at e';cases e';exact q
  have hcell1:h1.IsCell c (some u):=by
   obtain⟨oc,ho,hd⟩:=hcell
   exact⟨oc,old c oc ho,hd⟩
  right
  refine⟨?_,c,hc,hcell1⟩
  have e3':(relabel sc X.env).names.lookup x=some .local\/(relabel sc X.env).names.lookup x=some .cell\/(relabel sc X.env).names.lookup x=some .free:=e3
  rcases e3' with z | z
  ·obtain⟨k',z1,z2⟩:=kB (sc:=sc) (env:=X.env) z
   rw[hfree]at z1
   rcases z2 with z2 | ⟨_,z2⟩
   ·rw[z2]at z1;cases z1
   ·cases z2
  ·exact z
 cell:=fun x c e=>by
  obtain⟨v,oc,ho,hd⟩:=I.cell x c (eW I.ok hb e)
  exact⟨v,oc,old c oc ho,hd⟩
 free:=I.hok.fresh (show @LE.le Nat _ s.heap.objs.size C by omega)
 freeC:=fun x c e=>I.freeC x c (eW I.ok hb e)
 pin:=fun p hp=>by
  have e:p=(D,o):=by simpa[cL]using hp
  subst e
  refine⟨hDo,I.hok.fresh (show @LE.le Nat _ s.heap.objs.size D by omega),?_,fun z=>?_,hod⟩
  ·exact Nat.ne_of_lt (show @LT.lt Nat _ D C by omega)
  ·have h9:@LT.lt Nat _ D s.heap.objs.size:=I.stk_lt (b:=D) z
   omega
 hok:=I.hok.kept old
 len:=by
  show(cv own.length js σ).length=(own++js.map fun j=>X.N.getD j "").length
  simp[cv]
def fB(J:It)(n:Nat)(js:List Nat)(g:TG)(tc:TT)(te:TE)(σ:St)(H:Hp)(Q:VK):Prop:=
 ∃W:Nat->Nat->List V->Hp->Prop,(∃m,W 0 m [] H)/\∀i m ys H',W i m ys H' →
  (J.stop i H'/\∀p,H' p=none->Q (.ref p) (upd H' p (.lst ys))) ∨
  (J.go i H'/\ys.length<sizeLine/\∃N:List V->Hp->Prop,(∀ys' H2,N ys' H2->∃m',m'<m/\W (i+1) m' ys' H2)/\∀x H2,J.yld i H' x H2->g x (cv n js σ) H2 fun σ2 H3=>tc σ2 H3 fun b H4=>
   if b=true then te σ2 H4 fun v H5=>N (ys++[v]) H5 else N ys H4)
def lj(n:Nat)(js:List Nat)(wi:TI)(g:TG)(tc:TT)(te:TE):TE:=fun σ H Q=>wi σ H fun J H1=>fB J n js g tc te σ H1 Q
theorem qF{elt tg iter:Expr}{ifs:List Expr}{sc:Scope}{pos:Pos}{own:List Str}{js:List Nat}{g:TG}{tc:TT}{te:TE}{J:It}{it:Addr}{fp:List Addr}{tn:Nat->Heap->Prop}{RR:Value->Addr->Result->Shared->Prop}{E:Value->Shared->Prop}
  {Q:VK} {W:Nat->Nat->List V->Hp->Prop} (hk:sc.kind=.function) (hb:eM sc X.env.scope=true) (hj:i5 sc X.N js=true) (hc:X.calm=true)
  (hg:∀z,PG (cL X sc own js z) tg g) (ht:∀z,ir (cL X sc own js z) ifs tc) (he:∀z,PE (cL X sc own js z) elt te)
  (I:Inv X pins σ H s) (T:Turn X.prog X.w X.K tg J fp it tn) (st:tn 0 s.heap) (hfp:∀b∈fp,bT X pins H b) (w0:∃m,W 0 m [] H)
  (turn:∀i m ys H',W i m ys H'->(J.stop i H'/\∀p,H' p=none->Q (.ref p) (upd H' p (.lst ys))) ∨
   (J.go i H'/\ys.length<sizeLine/\∃N:List V->Hp->Prop,(∀ys' H2,N ys' H2->∃m',m'<m/\W (i+1) m' ys' H2)/\∀x H2,J.yld i H' x H2->g x (cv own.length js σ) H2 fun σ2 H3=>tc σ2 H3 fun b H4=>
    if b=true then te σ2 H4 fun v H5=>N (ys++[v]) H5 else N ys H4))
  (fin:∀D C s' ys H',H' D=none->Inv X pins σ (upd H' D (.lst ys)) s'->bT X pins (upd H' D (.lst ys)) C->(∃m,s'.heap.Ns C m)->s.heap.objs.size<=C->Q (.ref D) (upd H' D (.lst ys))->RR (.ref D) C (.ok .next) s') :
  wpAny (model X.prog X.w) X.A (newList []) (fun acc s₃=>wpAny (model X.prog X.w) X.A (newFunctionEnv sc X.env.globals (fS sc.names X.env.cells) [] X.env.qual none .none (some X.env)) (fun cenv s₄=>
   codeAny (model X.prog X.w) X.A (.compStart (.ListComp elt [⟨tg,iter,ifs,0⟩] sc pos) 0 (.ref it) acc { cenv with scope:=relabel sc X.env }) (RR acc cenv.locals) s₄) E s₃) E s:=by
 have hlt:∀b∈fp,b<s.heap.objs.size:=fun b hb'=>by
  obtain⟨o,e,_⟩:=T.obj 0 s.heap st b hb'
  exact Heap.lt_size e
 refine wpAny_newObj_type (wpAny_newFunctionEnv (fun y hy=>vx hb hy) (by intro y hy;simp at hy) (fun h₁ hns₁ hsb₁=>?_) hk)
 dsimp only at hns₁ hsb₁ ⊢
 generalize hH2:s.heap.push { cls:=.type "list",dict:=none,data:=.seq ([]:List Value).toArray }=H2 at hns₁ hsb₁ ⊢
 have hCs:H2.objs.size=s.heap.objs.size+1:=by rw[←hH2,Heap.size_push]
 generalize hCe:H2.objs.size=C at *
 have below:∀b:Nat,b<s.heap.objs.size->b≠C:=fun b hb'=>by omega
 have old:∀b o,s.heap.get? b=some o->h₁.get? b=some o:=fun b o e=>hsb₁.extBut b o (below b (Heap.lt_size e)) (Heap.get?_push_of_some _ (hH2 ▸ Heap.get?_push_of_some _ e))
 have hDo:h₁.get? s.heap.objs.size=some (du [] 0):=hsb₁.extBut _ _ (show @Ne Nat s.heap.objs.size C by omega) (Heap.get?_push_of_some _ (hH2 ▸ Heap.get?_push_size _ rfl))
 generalize hDe:s.heap.objs.size=D at *
 -- the loop's word
 let Y:Cx:=cL X sc own js ⟨s,H,fp,C⟩
 have J0:Inv Y [(D,du [] 0)] (cv own.length js σ) H { s with heap:=h₁,toks:=s.toks+([]:List (Str×Value)).length }:=
  Bs I hk hb hj hfp (by rw[hDe];exact hlt) hDe.symm (by rw[hDe];exact hCs) old hDo (fun v z=>by cases z) hns₁
 have ndC:@Ne Nat D C:=by omega
 have statF:∀{P':List (Addr×Obj)} {H':Hp},(∀b∈fp,H' b=none)->(∀p∈P',p.1∉fp)->∀b∈fp,bT Y P' H' b:=fun{P' H'} hn hp b hb'=>by
  obtain⟨f0,f1,f2,f3,f4,f5⟩:=hfp b hb'
  refine⟨hn b hb',fun z=>below b (hlt b hb') z,fun z=>?_,.inl hb',fun x c e=>f4 x c (eW I.ok hb e),fun p hp' z=>?_⟩
  ·rcases List.mem_cons.mp (I.stkSub b z)with e | h
   ·exact f1 e
   ·exact f2 h
  ·have:p∈P':=by simpa[Y,cL]using hp'
   exact hp p this (by rw[z];exact hb')
 have Dfp:D∉fp:=fun z=>by have h9:@LT.lt Nat _ D D:=hlt D z;omega
 have st1:tn 0 h₁:=T.keep 0 s.heap h₁ st fun b _ o e=>old b o e
 have loop:∀s₃:Shared,s₃={ s with heap:=h₁,toks:=s.toks+([]:List (Str×Value)).length } →
   codeAny (model X.prog X.w) X.A (.compLoop (.ListComp elt [⟨tg,iter,ifs,0⟩] sc pos) 0 (.ref it) (.ref D) Y.env) (RR (.ref D) C) s₃:=by
  rintro s₃ rfl
  obtain⟨m0,w0⟩:=w0
  refine vI (fun n s'=>∃i ys its q H',Inv Y [(D,du its q)] (cv own.length js σ) H' s'/\Vals ys its/\ys.length<=sizeLine/\tn i s'.heap/\(∀b∈fp,H' b=none)/\W i n ys H') ?_ m0
   ⟨0,[],[],0,H,J0,.nil,Nat.zero_le _,st1,fun b hb'=>(hfp b hb').1,w0⟩
  rintro n s3 ⟨i,ys,its,q,H3,I3,rv,hz,st3,fr3,w3⟩
  have pD:∀p∈[(D,du its q)],p.1∉fp:=fun p hp=>by
   have e:p=(D,du its q):=by simpa using hp
   rw[e];exact Dfp
  rcases turn i n ys H3 w3 with⟨stop,qn⟩ | ⟨go,hlen,N,hN,step⟩
  ·-- the end
   refine aq (T.done Y rfl rfl rfl hc i _ s3 _ H3 _ I3 (statF fr3 pD) st3 stop) fun r s4 ⟨hr,I4⟩=>?_
   subst hr
   show RR (.ref D) C (.ok .next) s4
   have hDp:=I4.pin (D,du its q) (List.mem_append_right _ (List.mem_singleton.mpr rfl))
   have hD4:s4.heap.get? D=some (du its q):=hDp.1
   have nD:H3 D=none:=hDp.2.1
   have U:Un (cP X.stack) fp H H3 s.heap s4.heap:=I4.base
   have neD:∀b o,s.heap.get? b=some o->b≠D:=fun b o e=>Nat.ne_of_lt (by have h9:@LT.lt Nat _ b s.heap.objs.size:=Heap.lt_size e;omega)
   have neDH:∀b o,H b=some o->b≠D:=fun b o e=>Nat.ne_of_lt (by have h9:@LT.lt Nat _ b s.heap.objs.size:=I.hok.lt e;omega)
   have U2:Un (cP X.stack) fp H (upd H3 D (.lst ys)) s.heap s4.heap:=
    ⟨U.keep,U.slot,fun b o e n hx=>by rw[aG (neD b o e)];exact U.free b o e n hx,U.there,fun b xs e=>by rw[aG (neDH b _ e)];exact U.tups b xs e,
     fun b o u e=>by rw[aG (neDH b _ e)];exact U.frzs b o u e,fun b ps e=>by rw[aG (neDH b _ e)];exact U.tbls b ps e⟩
   have hok2:br X.prog X.w (upd H3 D (.lst ys)) s4.heap:=fun b o e=>by
    by_cases hb':b=D
    ·subst hb'
     rw[aI]at e
     cases e
     exact⟨hz,its,q,rv,hD4⟩
    ·rw[aG hb']at e
     exact(I4.hok b o e).stay (fun c u _ z=>z) (fun c z=>by rw[aG (cj z nD)];exact z) fun c xs z=>by rw[aG (cj z nD)];exact z
   have IX:Inv X pins σ (upd H3 D (.lst ys)) s4:=I.call' (ch:=fp) I4.os U2 hok2 I4.bare fun b hb'=>by
    obtain⟨f0,f1,f2,f3,f4,f5⟩:=hfp b hb'
    exact⟨f3,f1,f4,f5⟩
   obtain⟨m4,hn4,_⟩:=I4.loc
   have nC:H3 C=none:=I4.free
   refine fin D C s4 ys H3 nD IX ?_ ⟨m4,hn4⟩ (show @LE.le Nat _ D C by omega) (qn D nD)
   refine⟨by rw[aG (Ne.symm ndC)];exact nC,?_,?_,?_,?_,?_⟩
   ·have h9:@LT.lt Nat _ X.env.locals s.heap.objs.size:=I.lt
    exact Nat.ne_of_gt (show @LT.lt Nat _ X.env.locals C by omega)
   ·exact I.nofs (show @LE.le Nat _ s.heap.objs.size C by omega)
   ·right
    have h9:@LE.le Nat _ X.s₀.heap.objs.size s.heap.objs.size:=I.sz
    exact(show @LE.le Nat _ X.s₀.heap.objs.size C by omega)
   ·intro x c e
    have h9:@LT.lt Nat _ c s.heap.objs.size:=I.cell_lt e
    exact Nat.ne_of_lt (show @LT.lt Nat _ c C by omega)
   ·intro p hp
    have h9:@LT.lt Nat _ p.1 s.heap.objs.size:=I.pin_lt hp
    exact Nat.ne_of_lt (show @LT.lt Nat _ p.1 C by omega)
  ·-- a turn
   refine aq (T.item Y rfl rfl rfl hc i _ s3 _ H3 _ I3 (statF fr3 pD) st3 go) fun r s4 ⟨u,hr,h4⟩=>?_
   subst hr
   refine aq h4 fun _ s5 ⟨x,H5,I5,r5,y5,st5,fr5⟩=>?_
   have I5':=I5.pinned (statF fr5 pD) (T.obj _ _ st5)
   refine aq (hg _ _ s5 _ H5 x u _ I5' r5 (step x H5 y5)) fun _ s6 ⟨σ6,H6,I6,q6⟩=>?_
   refine aq (ht _ _ s6 σ6 H6 _ I6 q6) fun ok s7 ⟨H7,I7,q7⟩=>?_
   have back:∀{s':Shared} {σ':St} {H':Hp} {ys':List V} {its':List Value} {q':Nat},Inv Y ([(D,du its' q')]++fj fp s5.heap) σ' H' s'->Vals ys' its'->ys'.length<=sizeLine->N ys' H' →
     ∃m,m<n/\∃i ys its q H',Inv Y [(D,du its q)] (cv own.length js σ) H' s'/\Vals ys its/\ys.length<=sizeLine/\tn i s'.heap/\(∀b∈fp,H' b=none)/\W i m ys H':=by
    intro s' σ' H' ys' its' q' I' rv' hz' nn
    obtain⟨m',hm,w'⟩:=hN ys' H' nn
    have hpin:∀b∈fp,∀o,s5.heap.get? b=some o->s'.heap.get? b=some o/\H' b=none:=fun b hb' o e=>by
     have:=I'.pin (b,o) (List.mem_append_right _ (List.mem_append_right _ (kW hb' e)))
     exact⟨this.1,this.2.1⟩
    refine⟨m',hm,i+1,ys',its',q',H',?_,rv',hz',T.keep _ _ _ st5 fun b hb' o e=>(hpin b hb' o e).1,fun b hb'=>?_,w'⟩
    ·have I'':=I'.unpinned
     obtain⟨mm,hmm,_⟩:=id I''.loc
     refine⟨I''.ok,I''.os,I''.bare,I''.base,⟨mm,hmm,fun k x v e1 e2 e3=>?_⟩,I''.cell,I''.free,I''.freeC,I''.pin,I''.hok,?_⟩
     ·-- the captured names: their cells are as they were at the block's beginning
      obtain⟨m1,hn1,hl1⟩:=J0.loc
      obtain⟨u1,r1,l1⟩:=hl1 k x v e1 e2 e3
      refine⟨u1,r1,?_⟩
      rcases l1 with⟨z,zz⟩ | ⟨z,c,e,zz⟩
      ·-- a captured name is no local one
       exfalso
       obtain⟨k',j,rfl,ej,es⟩:=rO e2
       have e1':(own++js.map fun j=>X.N.getD j "")[own.length+k']?=some x:=e1
       rw[List.getElem?_append_right (by omega),Nat.add_sub_cancel_left,List.getElem?_map,ej]at e1'
       have ex:X.N.getD j "" = x:=by simpa using e1'
       have hjj:=List.all_eq_true.mp hj j (List.mem_of_getElem? ej)
       simp only[Bool.and_eq_true,decide_eq_true_eq,beq_iff_eq]at hjj
       have hfree:sc.names.lookup x=some .free:=by rw[←ex];exact hjj.2
       obtain⟨k2,z1,z2⟩:=kB (sc:=sc) (env:=X.env) (show(relabel sc X.env).names.lookup x=some .local from z)
       rw[hfree]at z1
       rcases z2 with z2 | ⟨_,z2⟩
       ·rw[z2]at z1;cases z1
       ·cases z2
      ·refine .inr ⟨z,c,e,?_⟩
       have hcs:X.env.cells.lookup x=some c:=eW I.ok hb e
       obtain⟨ov,oc,hoc,hdc⟩:=I.cell x c hcs
       have hoc1:=old c oc hoc
       obtain⟨oz,hoz,hdz⟩:=zz
       have hoz':h₁.get? c=some oz:=hoz
       rw[hoc1]at hoz'
       cases hoz'
       have cnf:c∉fp:=fun z'=>(hfp c z').2.2.2.2.1 x c hcs rfl
       obtain⟨sl,hh⟩:=I''.base.any hoc (I.freeC x c hcs) cnf
       exact⟨_,hh,hdz⟩
     ·show(cv own.length js σ).length=_
      exact J0.len
    ·obtain⟨o,e,d⟩:=T.obj _ _ st5 b hb'
     exact(hpin b hb' o e).2
   cases ok with
   | false=>
    rw[if_neg Bool.false_ne_true]at q7 ⊢
    exact back I7 rv hz q7
   | true=>
    rw[if_pos rfl]at q7 ⊢
    refine aq (he _ _ s7 σ6 H7 _ I7 q7) fun xv s8 ⟨v,H8,I8,r8,q8⟩=>?_
    have hDp:=I8.pin (D,du its q) (List.mem_append_right _ (List.mem_append_left _ (List.mem_singleton.mpr rfl)))
    have hD8:s8.heap.get? D=some { cls:=.type "list",data:=.seq its.toArray q }:=hDp.1
    have hl:=rv.length
    refine call_meets F.slot_list_append ⟨_,hD8,rfl⟩ F.entry_list_append (F.args_list_append_2 _ _) (PySem.list_append D its.toArray q xv (by rw[List.size_toArray];omega)) ⟨hD8,?_⟩
    have qq:=PySem.IsL.update hD8 (fun a=>a.push xv)
    have eqs:its.toArray.push xv=(its++[xv]).toArray:=by simp
    rw[eqs]at qq
    obtain⟨q2,hq2⟩:∃q2,(s8.heap.update D (Obj.mapSeq fun a=>a.push xv)).get? D=some (du (its++[xv]) q2):=⟨_,qq⟩
    -- without the pin of D,the record turns,then it is pinned again
    have I8a:Inv Y (fj fp s5.heap) σ6 H8 s8:=I8.pins_of fun p hp=>I8.pin p (List.mem_append_right _ (List.mem_append_right _ hp))
    have nD8:H8 D=none:=hDp.2.1
    have I9:Inv Y (fj fp s5.heap) σ6 H8 { s8 with heap:=s8.heap.update D (Obj.mapSeq fun a=>a.push xv),toks:=s8.toks }:=by
     refine I8a.turned (it:=D) (fun b o hb' e=>(Heap.get?_update_other s8.heap (Obj.mapSeq fun a=>a.push xv) (Ne.symm hb')).trans e) nD8 ndC (.inr (show @LE.le Nat _ s.heap.objs.size D by omega)) (fun x c e=>?_) fun p hp=>?_
     ·have h9:@LT.lt Nat _ c s.heap.objs.size:=I.cell_lt (eW I.ok hb e)
      exact Nat.ne_of_lt (show @LT.lt Nat _ c D by omega)
     ·have hp':p∈fj fp s5.heap:=by simpa[Y,cL]using hp
      obtain⟨h1,_⟩:=sU hp'
      exact fun z=>Dfp (z ▸ h1)
    refine back (ys':=ys++[v]) (its':=its++[xv]) (q':=q2) (I9.pins_of fun p hp=>?_) (rv.append (.cons r8 .nil)) (by rw[List.length_append,List.length_singleton];omega) q8
    rcases List.mem_append.mp hp with hp | hp
    ·have e:p=(D,du (its++[xv]) q2):=by simpa using hp
     subst e
     refine⟨hq2,nD8,ndC,fun z=>?_,fun v z=>by cases z⟩
     have h9:@LT.lt Nat _ D s.heap.objs.size:=I.stk_lt (b:=D) z
     omega
    ·exact I9.pin p (List.mem_append_right _ hp)
 exact codeAny_compStart_list (loop _ rfl) (T.self X.A 0 { s with heap:=h₁,toks:=s.toks+([]:List (Str×Value)).length } _ _ st1 (loop _ rfl))
theorem cE{elt tg iter:Expr}{ifs:List Expr}{sc:Scope}{pos:Pos}(own:List Str)(js:List Nat){wi:TI}{g:TG}{tc:TT}{te:TE}(hi:PI X tg iter wi)(hg:∀z,PG (cL X sc own js z) tg g)(ht:∀z,ir (cL X sc own js z) ifs tc)
  (he:∀z,PE (cL X sc own js z) elt te) (hc:X.calm=true:=by rfl) (hk:sc.kind=.function:=by rfl) (hb:eM sc X.env.scope=true:=by rfl) (hj:i5 sc X.N js=true:=by rfl)
  (hs:∀x,foldedSetIterable iter X.env x=pure x:=by intro _;rfl):PE X (.ListComp elt [⟨tg,iter,ifs,0⟩] sc pos) (lj own.length js wi g tc te):=by
 intro pins s σ H Q I h
 rw[eval_ListComp]
 refine wpAny_comprehension_free (use:=none) rfl hs (qt fun p hp hf=>I.ok.has p.1 (je hb hp hf)) hk (fun p hp hl=>ua hb hp hl) (aq (hi pins s σ H _ I h) fun v s1 h1=>aq h1 fun itv s2 h2=>?_)
 obtain⟨it,fp,tn,J,H2,e,I2,T,st2,f2,W,w0,turn⟩:=h2
 subst e
 refine qF (RR:=fun acc C=>compPost (model X.prog X.w) X.A X.xe none (EP X pins σ Q) acc C) hk hb hj hc hg ht he I2 T st2 f2 w0 turn ?_
 intro D C s' ys H' nD I' hC ⟨m,hm⟩ _ q
 refine⟨m,hm,fun h' hs'=>?_⟩
 obtain⟨f0,f1,f2,f3,f4,f5⟩:=hC
 exact⟨.ref D,_,I'.turned (t':=s'.toks) (it:=C) (fun b o hb' e=>(hs'.2 b hb').trans e) f0 f1 f3 f4 f5,rfl,q⟩
theorem lU{i:Nat}{y:Str}{py:Pos}{elt tg iter:Expr}{ifs:List Expr}{sc:Scope}{pos spos:Pos}(own:List Str)(js:List Nat){wi:TI}{g:TG}{tc:TT}{te:TE}(hN:X.N.Nodup)(hi':X.N[i]?=some y)(hx:Loc X.env.scope y)
  (hi:PI X tg iter wi) (hg:∀z,PG (cL X sc own js z) tg g) (ht:∀z,ir (cL X sc own js z) ifs tc)
  (he:∀z,PE (cL X sc own js z) elt te) (hsw:swapsWith (.ListComp elt [⟨tg,iter,ifs,0⟩] sc pos) (some (.Name y py)) spos.line X.env=pure true:=by rfl) (hc:X.calm=true:=by rfl) (hk:sc.kind=.function:=by rfl) (hb:eM sc X.env.scope=true:=by rfl) (hj:i5 sc X.N js=true:=by rfl)
  (hs:∀x,foldedSetIterable iter X.env x=pure x:=by intro _;rfl) (hf:X.fn y=true\/X.env.scope.names.lookup y=some .local:=by first | exact .inl rfl | exact .inr rfl | assumption) :
  PS X (.Assign [.Name y py] (.ListComp elt [⟨tg,iter,ifs,0⟩] sc pos) spos) (jU (lj own.length js wi g tc te) (iw i)):=by
 intro pins s σ H D' I h
 rw[exec_Assign_Name_used _ _ _ _ hsw]
 refine wpAny_bind (wpAny_standAt (wpAny_bind ?_))
 show wpAny _ X.A (do let _ ←comprehension (.ListComp elt [⟨tg,iter,ifs,0⟩] sc pos) sc X.env _ (newList []) false (eval iter X.env) (some (assign (.Name y py) X.env))) _ _ s
 refine wpAny_bind (wpAny_mono (wpAny_comprehension_free (use:=some (assign (.Name y py) X.env)) (Q:=fun _ s'=>SP X pins D' .next s') rfl hs (qt fun p hp hf=>I.ok.has p.1 (je hb hp hf)) hk (fun p hp hl=>ua hb hp hl)
  (aq (hi pins s σ H _ I h) fun v s1 h1=>aq h1 fun itv s2 h2=>?_)) (fun _ s' hq=>wpAny_pure (wpAny_pure hq)) fun _ _ e=>e)
 obtain⟨it,fp,tn,J,H2,e,I2,T,st2,f2,W,w0,turn⟩:=h2
 subst e
 refine qF (Q:=fun x H1=>iw i x σ H1 D'.nx) (RR:=fun acc C=>compPost (model X.prog X.w) X.A X.xe (some (assign (.Name y py) X.env)) (fun _ s'=>SP X pins D' .next s') acc C) hk hb hj hc hg ht he I2 T st2 f2 w0 turn ?_
 intro D C s' ys H' nD I' hC ⟨m,hm⟩ hCs q
 show wpAny _ X.A (assign (.Name y py) X.env (.ref D)) _ _ _
 refine wpAny_assign_Name (sf I' hN hi' hx (v:=.ref D) rfl (fun s'' I'' ⟨a,hsb,ha⟩=>?_) hf)
 obtain⟨f0,f1,f2,f3,f4,f5⟩:=hC
 have hac:a≠C:=by
  rcases ha with rfl | ha
  ·exact Ne.symm f1
  ·exact f4 y a ha
 refine⟨m,hm.sameBut hsb (Ne.symm hac),fun h' hs'=>?_⟩
 exact⟨_,_,I''.turned (t':=s''.toks) (it:=C) (fun b o hb' e=>(hs'.2 b hb').trans e) f0 f1 f3 f4 f5,q⟩
end
theorem gj{K:PySem.W.Frag}{a:Addr}{xs:List V}{n:Nat}{js:List Nat}{g:TG}{tc:TT}{te:TE}{Q:VK}{σ:St}{H:Hp}(Pv:Nat->List V->Hp->Prop)(hz:xs.length<=sizeLine)(h0:Pv 0 [] H)(hl:∀i ys H,i<=xs.length->Pv i ys H->af K H a xs/\ys.length<=i)
  (hs:∀i x ys H,xs[i]?=some x->Pv i ys H->g x (cv n js σ) H fun σ2 H3=>tc σ2 H3 fun b H4=>if b=true then te σ2 H4 fun v H5=>Pv (i+1) (ys++[v]) H5 else Pv (i+1) ys H4)
  (hd:∀ys H p,Pv xs.length ys H->H p=none->Q (.ref p) (upd H p (.lst ys))):fB (bY K a) n js g tc te σ H Q:=by
 refine⟨fun i m ys H=>m=xs.length-i/\i<=xs.length/\Pv i ys H,⟨xs.length,by simp,Nat.zero_le _,h0⟩,?_⟩
 rintro i m ys H ⟨rfl,hi,p⟩
 have q:=hl i ys H hi p
 by_cases hlt:i<xs.length
 ·refine .inr ⟨⟨xs,xs[i],q.1,by simp[hlt]⟩,by have:=q.2;omega,Pv (i+1),fun ys' H' p'=>⟨xs.length-(i+1),by omega,rfl,hlt,p'⟩,fun x H' y=>?_⟩
  obtain⟨e,y⟩:=y
  subst e
  exact hs i x ys _ (y xs q.1) p
 ·have e:i=xs.length:=by omega
  subst e
  exact .inl ⟨⟨xs,q.1,Nat.le_refl _⟩,fun p' hp=>hd ys H p' p hp⟩
theorem eS{K:PySem.W.Frag}{a:Addr}{xs:List V}{n:Nat}{js:List Nat}{g:TG}{tc:TT}{te:TE}{Q:VK}{σ:St}{H:Hp}(Pv:Nat->List V->Hp->Prop)(hz:xs.length<=sizeLine)(h0:Pv 0 [] H)(hl:∀i ys H,i<=xs.length->Pv i ys H->ag K H a xs/\ys.length<=i)
  (hs:∀i x ys H,xs[i]?=some x->Pv i ys H->g x (cv n js σ) H fun σ2 H3=>tc σ2 H3 fun b H4=>if b=true then te σ2 H4 fun v H5=>Pv (i+1) (ys++[v]) H5 else Pv (i+1) ys H4)
  (hd:∀ys H p,Pv xs.length ys H->H p=none->Q (.ref p) (upd H p (.lst ys))):fB (bS K a) n js g tc te σ H Q:=by
 refine⟨fun i m ys H=>m=xs.length-i/\i<=xs.length/\Pv i ys H,⟨xs.length,by simp,Nat.zero_le _,h0⟩,?_⟩
 rintro i m ys H ⟨rfl,hi,p⟩
 have q:=hl i ys H hi p
 by_cases hlt:i<xs.length
 ·refine .inr ⟨⟨xs,xs[i],q.1,by simp[hlt]⟩,by have:=q.2;omega,Pv (i+1),fun ys' H' p'=>⟨xs.length-(i+1),by omega,rfl,hlt,p'⟩,fun x H' y=>?_⟩
  obtain⟨e,y⟩:=y
  subst e
  exact hs i x ys _ (y xs q.1) p
 ·have e:i=xs.length:=by omega
  subst e
  exact .inl ⟨⟨xs,q.1,Nat.le_refl _⟩,fun p' hp=>hd ys H p' p hp⟩
theorem pb{lo:Int}{N n:Nat}{js:List Nat}{g:TG}{tc:TT}{te:TE}{Q:VK}{σ:St}{H:Hp}(Pv:Nat->List V->Hp->Prop)(hz:N<=sizeLine)(h0:Pv 0 [] H)(hl:∀i ys H,i<=N->Pv i ys H->ys.length<=i)
  (hs:∀i ys H,i<N->Pv i ys H->g (.int (lo+i)) (cv n js σ) H fun σ2 H3=>tc σ2 H3 fun b H4=>if b=true then te σ2 H4 fun v H5=>Pv (i+1) (ys++[v]) H5 else Pv (i+1) ys H4)
  (hd:∀ys H p,Pv N ys H->H p=none->Q (.ref p) (upd H p (.lst ys))):fB (dU lo N) n js g tc te σ H Q:=by
 refine⟨fun i m ys H=>m=N-i/\i<=N/\Pv i ys H,⟨N,by simp,Nat.zero_le _,h0⟩,?_⟩
 rintro i m ys H ⟨rfl,hi,p⟩
 have q:=hl i ys H hi p
 by_cases hlt:i<N
 ·refine .inr ⟨hlt,by omega,Pv (i+1),fun ys' H' p'=>⟨N-(i+1),by omega,rfl,hlt,p'⟩,fun x H' y=>?_⟩
  obtain⟨e,y⟩:=y
  subst e y
  exact hs i ys _ hlt p
 ·have e:i=N:=by omega
  subst e
  exact .inl ⟨Nat.le_refl _,fun p' hp=>hd ys H p' p hp⟩
end L2
set_option Elab.async false
set_option linter.all false
set_option maxRecDepth 100000
set_option maxHeartbeats 4000000
namespace L2
open PySem PySem.Spec PyProof.Rows
structure Cal(P:Program)(w:World)(K:PySem.W.Frag)(mg:Str->Option Value)(base:Heap)(x:Str)(k:Nat)(ps:List Str)(sp:Sp):Prop where
 ex:∃(f:Addr) (fd:FuncData),mg x=some (.ref f)/\PySem.W.keepIn K (.ref f)=true/\Binds K fd ps []/\FnOk P w K mg base eD k f fd ps sp
structure Dfn(K:PySem.W.Frag)(mg:Str->Option Value)(x:Str)(st:Stmt)(ps:List Str):Prop where
 ex:∃(f:Addr) (fd:FuncData),mg x=some (.ref f)/\Fun K x x st f fd/\Binds K fd ps []
section
variable {P:Program} {w:World} {K:PySem.W.Frag} {mg:Str->Option Value} {base:Heap}
theorem Dfn.ok{x:Str}{st:Stmt}{N ps:List Str}{k:Nat}{sp:Sp}(D:Dfn K mg x st ps)(S:FnScope N ps (aC st))(len:∀vs H Q E,sp vs H Q E->vs.length=ps.length)
  (hbody:∀(X:Cx) (hX:∃f cdv A outer s H E,X=(fP eD P w K mg base N x (aC st) f cdv A outer s H E).nox/\Room k X.A) (H:Hp) (vs:List V) (Q:VK) (E:XK),sp vs H Q E →
   ∃t,cn X (eE st) t/\t { nx:=fun _ H'=>Q .non H',rt:=Q } (start N vs) H):Cal P w K mg base x (k+1) ps sp:=by
 obtain⟨f,fd,hm,F,hb⟩:=D.ex
 exact⟨f,fd,hm,F.kp,hb,F.ok S len fun cdv A outer s H vs Q E hr h=>hbody _ ⟨f,cdv,A,outer,s,H,E,rfl,hr⟩ H vs Q E h⟩
end
section
variable {X:Cx}
theorem au{x:Str}{k j:Nat}{ps:List Str}{sp:Sp}{e:Expr}{es:List Expr}{t:TA}{p pos:Pos}(C:Cal X.prog X.w X.K X.mg X.base x j ps sp)(hr:Room k X.A)(ha:PA X (e::es) t)(hjk:j<=k:=by decide)(hg:Gl X x:=by rfl)(hdb:(x == ("__debug__":Str))=false:=by decide)
  (he:starEach (e::es) X.env=(false,eval e X.env)::starEach es X.env:=by rfl) (hpl:(backTo pos (starEach es X.env)).any (·.1)=false:=by rfl) :
  PE X (.Call (.Name x p) (e::es) [] pos) (gL sp [] E0 t):=by
 obtain⟨f,fd,hm,hk,hb,F⟩:=C.ex
 exact vS F (hr.mono hjk) hg hm hk hb .nil CA ha hdb he hpl
theorem qX:bg X (binaryOp .FloorDiv) (rI (fun _ j=>0<j/\j<2 ^ 64) fun i j=>.int (i / j)):=gE fun i j _ _ _ _ _ hc q=>by
 have h1:(0:Int)<j:=hc.1
 have h2:j<2 ^ 64:=hc.2
 refine floordiv_int (by omega) (by rw[Int.fdiv_eq_ediv_of_nonneg i (by omega)];exact q) (.inl (PyProof.noPylong_of_log2 ?_))
 have h0:j.natAbs≠0:=by omega
 have h64:j.natAbs<2 ^ 64:=by omega
 have:=(Nat.log2_lt h0).mpr h64
 omega
def fC(H:Hp):V->String->Prop
 | .non,n=>n = "NoneType"
 | .bl _,n=>n = "bool"
 | .int _,n=>n = "int"
 | .str _,n=>n = "str"
 | .ref a,n=>(n = "list"/\∃xs,H a=some (.lst xs))\/(n = "tuple"/\∃xs,H a=some (.tup xs))
 | _,_=>False
theorem fC.ty{K:PySem.W.Frag}{H:Hp}{x:V}{n:String}(h:fC H x n):TyOf K H x (.type n):=by
 cases x with
 | non=>cases(show n = "NoneType" from h);exact .non
 | bl b=>cases(show n = "bool" from h);exact .bl b
 | int i=>cases(show n = "int" from h);exact .int i
 | str z=>cases(show n = "str" from h);exact .str z
 | ref a=>
  rcases h with⟨rfl,xs,e⟩ | ⟨rfl,xs,e⟩
  ·exact .lst e
  ·exact .tup e
 | _=>exact False.elim h
def f6:String->String->Option Bool
 | "NoneType","tuple"=>some false | "NoneType","int"=>some false | "NoneType","bool"=>some false | "NoneType","list"=>some false | "NoneType","str"=>some false
 | "bool","tuple"=>some false | "bool","int"=>some true | "bool","bool"=>some true | "bool","list"=>some false | "bool","str"=>some false
 | "int","tuple"=>some false | "int","int"=>some true | "int","bool"=>some false | "int","list"=>some false | "int","str"=>some false
 | "str","tuple"=>some false | "str","int"=>some false | "str","bool"=>some false | "str","list"=>some false | "str","str"=>some true
 | "list","tuple"=>some false | "list","int"=>some false | "list","bool"=>some false | "list","list"=>some true | "list","str"=>some false
 | "tuple","tuple"=>some true | "tuple","int"=>some false | "tuple","bool"=>some false | "tuple","list"=>some false | "tuple","str"=>some false
 | _,_=>none
theorem wK{K:PySem.W.Frag}{n T:String}{b:Bool}(h:f6 n T=some b):PySem.W.kitOne K (.type n) (.type T)=some b:=by
 unfold f6 at h
 split at h<;>first
  | (cases h;kernel_rfl)
  | cases h
def sI:List V->Hp->VK->Prop:=fun xs H Q=>∃x n T b,xs=[x,.ty T]/\fC H x n/\f6 n T=some b/\Q (.bl b) H
theorem fo:bL X (.builtin "isinstance") sI:=by
 intro pins s σ H xs us Q I r h
 obtain⟨x,n,T,b,rfl,hk,hb,q⟩:=h
 obtain⟨u,w',rfl,r1,r2⟩:=vals2 r
 cases(show w'=Value.type T from r2)
 exact BZ I r1 hk.ty (wK hb) fun tk=>⟨.bl b,H,I.tok tk,rfl,q⟩
def fw(lo c:Int)(n:Nat):It:=⟨fun i _=>i<n,fun i H x H'=>H'=H/\x=.int (lo+i*c),fun i _=>n<=i⟩
theorem Ck{P:Program}{w:World}{K:PySem.W.Frag}{tg:Expr}(it:Addr)(lo c:Int)(n:Nat):Turn P w K tg (fw lo c n) [it] it (fun i h=>IsRangeIter h it (lo+(i:Nat)*c) ((n:Int)-(i:Nat)) c) where
 mem:=by simp
 obj:=fun i h st b hb=>by
  have e:b=it:=by simpa using hb
  subst e
  exact⟨_,st,fun v z=>by
   have z':Data.fields _=Data.cell v:=z
   cases z'⟩
 keep:=fun i h h' st k=>k it (by simp) _ st
 item:=by
  intro X hP hw hK hc i pins s σ H E I hf st hg
  subst hP hw hK
  obtain⟨f0,f1,f2,f3,f4,f5⟩:=hf it (by simp)
  have W:=Walks.range (prog:=X.prog) (w:=X.w) (I.ok.hd hc) it lo c n
  refine W.item i s _ _ hg st fun v h' tk hv st' kk=>?_
  obtain⟨t,rfl⟩:=hv
  have I1:Inv X pins σ H { s with heap:=h',toks:=tk }:=I.turned (fun b o hb e=>kk b o (by simpa using hb) e) f0 f1 f3 f4 f5
  exact⟨_,rfl,gP (s:={ s with heap:=h',toks:=tk }) (n:="range_iterator") st' rfl rfl (by decide) ⟨.int (lo+i*c),H,I1,⟨t,rfl⟩,⟨rfl,rfl⟩,st',fun b hb=>(hf b hb).1⟩⟩
 done:=by
  intro X hP hw hK hc i pins s σ H E I hf st hg
  subst hP hw hK
  obtain⟨f0,f1,f2,f3,f4,f5⟩:=hf it (by simp)
  exact wpAny_pyNext_range_end (I.ok.hd hc) st (by have:n<=i:=hg;omega) fun h' eb=>⟨rfl,I.turned (t':=s.toks) (fun b o hb e=>eb b o hb e) f0 f1 f3 f4 f5⟩
 self:=fun _ _ _ _ _ st h=>wpAny_pyIter_rangeiter st h
def g7(i j c:Int):Prop:=(-(2 ^ 40)<=i/\i<2 ^ 40)/\(-(2 ^ 40)<=j/\j<2 ^ 40)/\(-(2 ^ 29)<c/\c<2 ^ 29)/\c≠0
def dR(i j c:Int):Nat:=if 0<c then(if i<j then((j-i-1) / c+1).toNat else 0)else(if j<i then((i-j-1) / (-c)+1).toNat else 0)
theorem AJ(i j c:Int)(hc:c≠0):Builtin.Range.rangeSize i j c=(dR i j c:Nat):=by
 unfold Builtin.Range.rangeSize dR
 by_cases h:0<c
 ·rw[if_pos h,if_pos h]
  by_cases h2:i<j
  ·rw[if_pos h2,if_pos h2]
   have:0<=(j-i-1) / c:=Int.ediv_nonneg (by omega) (by omega)
   omega
  ·rw[if_neg h2,if_neg h2];rfl
 ·rw[if_neg h,if_neg h]
  by_cases h2:j<i
  ·rw[if_pos (show i>j from h2),if_pos h2]
   have:0<=(i-j-1) / (-c):=Int.ediv_nonneg (by omega) (by omega)
   omega
  ·rw[if_neg (show ¬i>j from h2),if_neg h2];rfl
theorem zS{i j c:Int}(h:g7 i j c):Builtin.Range.small i j c=true:=by
 obtain⟨⟨h1,h2⟩,⟨h3,h4⟩,⟨h5,h6⟩,h0⟩:=h
 have hb:Builtin.Range.rangeSize i j c<=2 ^ 42/\0<=Builtin.Range.rangeSize i j c:=by
  unfold Builtin.Range.rangeSize
  by_cases hc:c>0
  ·rw[if_pos hc]
   by_cases h':i<j
   ·rw[if_pos h']
    have e1:(j-i-1) / c<=j-i-1:=Int.ediv_le_self _ (by omega)
    have e2:0<=(j-i-1) / c:=Int.ediv_nonneg (by omega) (by omega)
    omega
   ·rw[if_neg h'];omega
  ·rw[if_neg hc]
   by_cases h':i>j
   ·rw[if_pos h']
    have e1:(i-j-1) / (-c)<=i-j-1:=Int.ediv_le_self _ (by omega)
    have e2:0<=(i-j-1) / (-c):=Int.ediv_nonneg (by omega) (by omega)
    omega
   ·rw[if_neg h'];omega
 unfold Builtin.Range.small
 generalize Builtin.Range.rangeSize i j c=z at hb ⊢
 have f:∀x:Int,-(2 ^ 62)<=x->x<2 ^ 62->Builtin.Range.rangeFitsLong x=true:=fun x h1 h2=>by
  unfold Builtin.Range.rangeFitsLong
  rw[decide_eq_true (show -(2 ^ 63)<=x by omega),decide_eq_true (show x<2 ^ 63 by omega)]
  rfl
 rw[f i (by omega) (by omega),f j (by omega) (by omega),f c (by omega) (by omega),f z (by omega) (by omega)]
 by_cases hc:c>0
 ·rw[if_pos hc,f (j+(c-1)) (by omega) (by omega),Bool.or_true];rfl
 ·rw[if_neg hc,f (j+(c+1)) (by omega) (by omega),Bool.or_true];rfl
def qE(ta:TA):TI:=fun σ H R=>ta σ H fun vs H1=>∃i j c:Int,vs=[.int i,.int j,.int c]/\g7 i j c/\R (fw i c (dR i j c)) H1
theorem B8{tg a b c:Expr}{ta:TA}{p pos:Pos}(hg:Gl X "range")(hm:X.mg "range" = none)(ha:PA X [a,b,c] ta)(hs:starEach [a,b,c] X.env=[(false,eval a X.env),(false,eval b X.env),(false,eval c X.env)]:=by rfl)
  (hs2:starEach [b,c] X.env=[(false,eval b X.env),(false,eval c X.env)]:=by rfl) :
  PI X tg (.Call (.Name "range" p) [a,b,c] [] pos) (qE ta):=by
 intro pins s σ H R I h
 refine Call_ (eZ I hg hm boot_range (PyProof.Rows.callWith_type1 (aq (ha pos pins s σ H _ I h) fun us s1 ⟨vs,H1,I1,r1,q1⟩=>?_) (by rw[hs,hs2]) (by rw[hs2];rfl)))
 obtain⟨i,j,c,e,hsm,q⟩:=q1
 subst e
 cases r1 with
 | cons r rr=>
  cases rr with
  | cons r' rr=>
   cases rr with
   | cons r'' rr=>
    cases rr
    obtain⟨t,rfl⟩:=r
    obtain⟨t',rfl⟩:=r'
    obtain⟨t'',rfl⟩:=r''
    have h0:c≠0:=hsm.2.2.2
    have h5:c.natAbs<1073741824:=by have:=hsm.2.2.1;omega
    refine call_range_3 h0 ?_ (.inl (PyProof.noPylong_small h5))
    refine wpAny_pyIter_range (IsRange.new ..) (zS hsm) ?_
    have I2:Inv X pins σ H1 { s1 with heap:=s1.heap.push { cls:=.type "range",data:=.fields #[.int i t,.int j t',.int c t''] },toks:=s1.toks }:=I1.kept fun b o e=>Heap.get?_push_of_some _ e
    refine⟨_,[_],_,_,H1,rfl,I2.kept (t':=s1.toks) fun b o e=>Heap.get?_push_of_some _ e,Ck _ i c (dR i j c),?_,fun b hb=>?_,q⟩
    ·show IsRangeIter _ _ (i+((0:Nat):Int)*c) (((dR i j c:Nat):Int)-((0:Nat):Int)) c
     rw[show i+((0:Nat):Int)*c=i by simp,show ((dR i j c:Nat):Int)-((0:Nat):Int)=Builtin.Range.rangeSize i j c by rw[AJ i j c h0];simp]
     exact Heap.get?_push_size _ rfl
    ·have e:=List.mem_singleton.mp hb
     subst e
     exact I2.fpOk (Nat.le_refl _) (I2.hok.fresh (Nat.le_refl _))
theorem AH{lo c:Int}{n:Nat}{g:TG}{tb:TS}{D:Ends}{σ:St}{H:Hp}(Pv:Nat->St->Hp->Prop)(h0:Pv 0 σ H)
  (hs:∀i σ H,i<n->Pv i σ H->g (.int (lo+i*c)) σ H fun σ2 H2=>tb { D with nx:=Pv (i+1),ct:=Pv (i+1),bk:=D.nx } σ2 H2) (hd:∀σ H,Pv n σ H->D.nx σ H) :
  ∃W:Nat->Nat->St->Hp->Prop,(∃m,W 0 m σ H)/\∀i m σ H,W i m σ H →
   ((fw lo c n).stop i H/\D.nx σ H)\/((fw lo c n).go i H/\∃N:St->Hp->Prop,(∀σ' H',N σ' H'->∃m',m'<m/\W (i+1) m' σ' H')/\∀x H',(fw lo c n).yld i H x H'->g x σ H' fun σ2 H2=>tb { D with nx:=N,ct:=N,bk:=D.nx } σ2 H2):=by
 refine⟨fun i m σ H=>m=n-i/\i<=n/\Pv i σ H,⟨n,by simp,Nat.zero_le _,h0⟩,?_⟩
 rintro i m σ H ⟨rfl,hi,p⟩
 by_cases hlt:i<n
 ·refine .inr ⟨hlt,Pv (i+1),fun σ' H' p'=>⟨n-(i+1),by omega,rfl,hlt,p'⟩,fun x H' y=>?_⟩
  obtain⟨e,y⟩:=y
  subst e y
  exact hs i σ _ hlt p
 ·have e:i=n:=by omega
  subst e
  exact .inl ⟨Nat.le_refl _,hd σ H p⟩
def jc(K:PySem.W.Frag):List V->Hp->VK->Prop:=fun xs H Q=>∃p ys,xs=[.ref p]/\(af K H p ys\/ag K H p ys)/\Q (.int ys.length) H
theorem Ci:bL X (.builtin "len") (jc X.K):=A3
def mL(K:PySem.W.Frag):List V->Hp->VK->Prop:=fun xs H Q=>∃p ys,xs=[.ref p]/\((af K H p ys/\∀l,H l=none->Q (.ref l) (upd H l (.tup ys)))\/(ag K H p ys/\Q (.ref p) H))
theorem Aw:bL X (.type "tuple") (mL X.K):=xT
def qB:List V->Hp->VK->Prop:=fun xs H Q=>∃i j,xs=[.int i,.int j]/\Q (.int (if j>i then j else i)) H
theorem mS(hc:X.calm=true):bL X (.builtin "max") qB:=wG hc
def uT:List V->Hp->VK->Prop:=fun xs H Q=>∃i j,xs=[.int i,.int j]/\Q (.int (if j<i then j else i)) H
theorem pL(hc:X.calm=true):bL X (.builtin "min") uT:=Bj hc
end
end L2
set_option Elab.async false
set_option linter.all false
set_option maxRecDepth 100000
set_option maxHeartbeats 4000000
namespace L2
open PySem PySem.Spec PyProof.Rows
def Ext(H H':Hp):Prop:=∀b o,H b=some o->H' b=some o
theorem Ext.rfl'(H:Hp):Ext H H:=fun _ _ h=>h
theorem Ext.trans{H H1 H2:Hp}(a:Ext H H1)(b:Ext H1 H2):Ext H H2:=fun x o h=>b x o (a x o h)
theorem Ext.none{H H':Hp}(e:Ext H H'){l:Addr}(h:H' l=Option.none):H l=Option.none:=by
 cases q:H l with
 | none=>rfl
 | some o=>rw[e l o q]at h;cases h
section
variable {X:Cx} (K:PySem.W.Frag)
theorem aJ(h:X.K=K:=by rfl):fW X (lD K):=by subst h;exact zt
theorem ax(h:X.K=K:=by rfl):fW X (m5 K):=by subst h;exact zM
theorem fE(h:X.K=K:=by rfl):mz X (lY K):=by subst h;exact BH
theorem cB(h:X.K=K:=by rfl):bL X (.builtin "len") (jc K):=by subst h;exact Ci
theorem fF(h:X.K=K:=by rfl):bL X (.type "tuple") (mL K):=by subst h;exact Aw
theorem cx{tg l:Expr}{tl:TE}(hl:PE X l tl)(h:X.K=K:=by rfl):PI X tg l (nt K tl):=by subst h;exact B3 hl
theorem dY{tg l:Expr}{tl:TE}(hl:PE X l tl)(h:X.K=K:=by rfl):PI X tg l (mU K tl):=by subst h;exact CH hl
theorem dZ{es:List Expr}{k:Nat}{t:cT}{n:Nat}{pos:Pos}(hc:X.calm=true)(hg:f9 X es t)(h:X.K=K:=by rfl)
  (hn:(assignEach es X.env).length=n:=by rfl) (hst:(assignEach es X.env).findIdx? (·.1)=none:=by rfl):PG X (.Tuple es k pos) (nv K n t):=by subst h;exact wO hc hg hn hst
theorem bx{o e:Expr}{es:List Expr}{to:TE}{t:TA}{name:Str}{apos cpos:Pos}{T id:String}{r:V->List V->Hp->VK->Prop}(pa:PlainAttrs T)(slot:Slot T name id)(hty:typeOf (.builtin id)=pure (.type "method_descriptor"))(hm:kl X id r)(ho:PE X o to)(ha:PA X (e::es) t)(h:X.K=K:=by rfl)
  (hbase:attributeBase o name X.env (eval o X.env)=eval o X.env:=by rfl)
  (hfew:((backTo cpos (starEach (e::es) X.env)).all (fun x=>!x.1) && (backToKw cpos (keywordEach [] X.env)).all (fun x=>x.1.isSome)
   && decide ((e::es).length+([]:List Keyword).length+(if([]:List Keyword).isEmpty then 0 else 1)<30))=true:=by rfl)
  (hline:(apos.endLine == cpos.line)=true:=by rfl) (hs:starEach (e::es) X.env=(false,eval e X.env)::starEach es X.env:=by rfl) (hplain:(backTo cpos (starEach es X.env)).any (·.1)=false:=by rfl) :
  PE X (.Call (.Attribute o name apos) (e::es) [] cpos) (lH K T r to t):=by subst h;exact we pa slot hty hm ho ha hbase hfew hline hs hplain
end
def pX(ns:List Int):TA:=fun _ H Q=>Q (ns.map V.int) H
inductive IntsE:List Expr->List Int->Prop
 | n:IntsE [] []
 | c {i j pos es ns}:IntsE es ns->IntsE (.Constant (.int i) j pos::es) (i::ns)
theorem fZ{X:Cx}{es:List Expr}{ns:List Int}(h:IntsE es ns):PA X es (pX ns):=by
 induction h with
 | n=>exact ab
 | @c i j pos es ns _ ih=>
  intro p pins s σ H Q I hq
  exact aa (e:=.Constant (.int i) j pos) ae ih rfl p pins s σ H Q I hq
theorem rd_ints{σ:St}{H:Hp}{ns:List Int}{R:List V->Hp->Prop}(h:R (ns.map V.int) H):pX ns σ H R:=h
def mr(c:TT)(t u:TS):TS:=fun D σ H=>∃R:St->Hp->Prop,(c σ H fun b H1=>if b=true then t { D with nx:=R } σ H1 else u { D with nx:=R } σ H1)/\∀σ' H',R σ' H'->D.nx σ' H'
theorem cw{X:Cx}{c:Expr}{a b:List Stmt}{tc:TT}{t u:TS}{pos:Pos}(hc:PT X c tc)(ha:cn X a t)(hb:cn X b u):PS X (.If c a b pos) (mr tc t u):=by
 intro pins s σ H D I h
 obtain⟨R,h,hR⟩:=h
 refine aq (bt hc ha hb pins s σ H { D with nx:=R } I h) fun f s1 q=>?_
 cases f with
 | next=>
  obtain⟨σ',H',I',q⟩:=q
  exact⟨σ',H',I',hR σ' H' q⟩
 | ret v=>exact q
 | brk=>exact q
 | cont=>exact q
def sr(K:PySem.W.Frag):V->Hp->(It->Hp->Prop)->Prop:=fun x H R=>∃a,x=.ref a/\(∃xs,af K H a xs)/\R (bY K a) H
def tj(K:PySem.W.Frag):V->Hp->(It->Hp->Prop)->Prop:=fun x H R=>∃a,x=.ref a/\(∃xs,ag K H a xs)/\R (bS K a) H
def vG:List V->Hp->(It->Hp->Prop)->Prop:=fun vs H R=>∃j:Int,vs=[.int j]/\-(2 ^ 62)<=j/\j<2 ^ 62/\R (dU 0 j.toNat) H
def u5:List V->Hp->(It->Hp->Prop)->Prop:=fun vs H R=>∃i j c:Int,vs=[.int i,.int j,.int c]/\g7 i j c/\R (fw i c (dR i j c)) H
def fg(J:It)(g:TG)(tb:TS)(D:Ends)(σ:St)(H:Hp):Prop:=∃W:Nat->Nat->St->Hp->Prop,(∃m,W 0 m σ H)/\∀i m σ H,W i m σ H →
 (J.stop i H/\D.nx σ H)\/(J.go i H/\∃N:St->Hp->Prop,(∀σ' H',N σ' H'->∃m',m'<m/\W (i+1) m' σ' H')/\∀x H',J.yld i H x H'->g x σ H' fun σ2 H2=>tb { D with nx:=N,ct:=N,bk:=D.nx } σ2 H2)
theorem forL{K:PySem.W.Frag}{a:Addr}{xs:List V}{g:TG}{tb:TS}{D:Ends}{σ:St}{H:Hp}(Pv:Nat->St->Hp->Prop)(h0:Pv 0 σ H)(hl:∀i σ H,i<=xs.length->Pv i σ H->af K H a xs)
  (hs:∀i x σ H,xs[i]?=some x->Pv i σ H->g x σ H fun σ2 H2=>tb ⟨Pv (i+1),D.rt,D.nx,Pv (i+1)⟩ σ2 H2) (hd:∀σ H,Pv xs.length σ H->D.nx σ H):fg (bY K a) g tb D σ H:=AV Pv h0 hl hs hd
theorem rV{K:PySem.W.Frag}{a:Addr}{xs:List V}{g:TG}{tb:TS}{D:Ends}{σ:St}{H:Hp}(Pv:Nat->St->Hp->Prop)(h0:Pv 0 σ H)(hl:∀i σ H,i<=xs.length->Pv i σ H->ag K H a xs)
  (hs:∀i x σ H,xs[i]?=some x->Pv i σ H->g x σ H fun σ2 H2=>tb ⟨Pv (i+1),D.rt,D.nx,Pv (i+1)⟩ σ2 H2) (hd:∀σ H,Pv xs.length σ H->D.nx σ H):fg (bS K a) g tb D σ H:=Ag Pv h0 hl hs hd
theorem forR{lo:Int}{n:Nat}{g:TG}{tb:TS}{D:Ends}{σ:St}{H:Hp}(Pv:Nat->St->Hp->Prop)(h0:Pv 0 σ H)
  (hs:∀i σ H,i<n->Pv i σ H->g (.int (lo+i)) σ H fun σ2 H2=>tb ⟨Pv (i+1),D.rt,D.nx,Pv (i+1)⟩ σ2 H2) (hd:∀σ H,Pv n σ H->D.nx σ H):fg (dU lo n) g tb D σ H:=yQ Pv h0 hs hd
theorem zl{lo c:Int}{n:Nat}{g:TG}{tb:TS}{D:Ends}{σ:St}{H:Hp}(Pv:Nat->St->Hp->Prop)(h0:Pv 0 σ H)
  (hs:∀i σ H,i<n->Pv i σ H->g (.int (lo+i*c)) σ H fun σ2 H2=>tb ⟨Pv (i+1),D.rt,D.nx,Pv (i+1)⟩ σ2 H2) (hd:∀σ H,Pv n σ H->D.nx σ H):fg (fw lo c n) g tb D σ H:=AH Pv h0 hs hd
def eR(H:Hp)(o:HO)(R:VK):Prop:=∀p,H p=none->R (.ref p) (upd H p o)
section
variable {K:PySem.W.Frag} {D:Ends} {σ:St} {H:Hp} {Q:VK} {ta tb tc te:TE} {t u:TS} {c c':TT}
theorem rd_seq(h:t ⟨u D,D.rt,D.bk,D.ct⟩ σ H):nB t u D σ H:=h
theorem rd_next(h:D.nx σ H):sH D σ H:=h
theorem rd_ret(h:te σ H D.rt):tu te D σ H:=h
theorem rd_asg{g:TG}(h:te σ H fun x H1=>g x σ H1 D.nx):jU te g D σ H:=h
theorem rd_drop(h:te σ H fun _ H1=>D.nx σ H1):rH te D σ H:=h
theorem rd_ifS(h:c σ H fun b H1=>if b=true then t D σ H1 else u D σ H1):oh c t u D σ H:=h
theorem gY(R:St->Hp->Prop)(h:c σ H fun b H1=>if b=true then t ⟨R,D.rt,D.bk,D.ct⟩ σ H1 else u ⟨R,D.rt,D.bk,D.ct⟩ σ H1)(k:∀σ' H',R σ' H'->D.nx σ' H'):mr c t u D σ H:=⟨R,h,k⟩
theorem bO(h:c σ H fun b H1=>if b=true then t D σ H1 else u D σ H1):mr c t u D σ H:=⟨D.nx,h,fun _ _ h=>h⟩
theorem rd_name{i:Nat}{v:V}{R:St->Hp->Prop}(h:R (σ.set i (some v)) H):iw i v σ H R:=h
theorem rd_var{i:Nat}{v:V}(e:σ[i]?=some (some v))(h:Q v H):lE i σ H Q:=⟨v,e,h⟩
theorem rd_c{v:V}(h:Q v H):tC v σ H Q:=h
theorem rd_op{r:R2}(h:ta σ H fun x H1=>tb σ H1 fun y H2=>r x y H2 Q):hJ r ta tb σ H Q:=h
theorem rd_un{r:V->Hp->VK->Prop}(h:ta σ H fun x H1=>r x H1 Q):sQ r ta σ H Q:=h
theorem rd_CB{r:List V->Hp->VK->Prop}{a:TA}(h:a σ H fun vs H1=>r vs H1 Q):mZ r a σ H Q:=h
theorem rd_cons{a:TA}{R:List V->Hp->Prop}(h:ta σ H fun x H1=>a σ H1 fun xs H2=>R (x::xs) H2):ny ta a σ H R:=h
theorem rd_nil{R:List V->Hp->Prop}(h:R [] H):mh σ H R:=h
theorem rd_test{R:Bool->Hp->Prop}(h:te σ H fun x H'=>∃k,x=.bl k/\R k H'):qC te σ H R:=h
theorem rd_B{R:Bool->Hp->Prop}(h:te σ H fun x H'=>∃k,x=.bl k/\R k H'):tB te σ H R:=h
theorem rd_exb{b:Bool}{R:Bool->Prop}(h:R b):∃k,V.bl b=V.bl k/\R k:=⟨b,rfl,h⟩
theorem rd_not{R:Bool->Hp->Prop}(h:c σ H fun b H1=>R (!b) H1):tN c σ H R:=h
theorem rd_and{R:Bool->Hp->Prop}(h:c σ H fun b H1=>if b=true then c' σ H1 R else R false H1):rp c c' σ H R:=h
theorem rd_or{R:Bool->Hp->Prop}(h:c σ H fun b H1=>if b=true then R true H1 else c' σ H1 R):vj c c' σ H R:=h
theorem rd_andV(h:ta σ H fun x H1=>∃k,x=.bl k/\if k=true then tb σ H1 Q else Q (.bl false) H1):sN ta tb σ H Q:=h
theorem rd_orV(h:ta σ H fun x H1=>∃k,x=.bl k/\if k=true then Q (.bl true) H1 else tb σ H1 Q):rD ta tb σ H Q:=h
theorem rd_notV(h:ta σ H fun x H1=>∃k,x=.bl k/\Q (.bl (!k)) H1):qM ta σ H Q:=h
theorem rd_ifE(h:c σ H fun b H1=>if b=true then ta σ H1 Q else tb σ H1 Q):o5 c ta tb σ H Q:=h
theorem rd_yes{R:Bool->Hp->Prop}(h:R true H):oV σ H R:=h
theorem rd_I0{g:Int->Int->V}{i j:Int}(h:Q (g i j) H):dG g (.int i) (.int j) H Q:=⟨i,j,rfl,rfl,h⟩
theorem rd_I{C:Int->Int->Prop}{g:Int->Int->V}{i j:Int}(hc:C i j)(h:Q (g i j) H):rI C g (.int i) (.int j) H Q:=⟨i,j,rfl,rfl,hc,h⟩
theorem rd_U{g:Int->V}{i:Int}(h:Q (g i) H):rU g (.int i) H Q:=⟨i,rfl,h⟩
theorem rd_EqI{i j:Int}(h:Q (.bl (decide (i=j))) H):ni (.int i) (.int j) H Q:=⟨rfl,by
 have e:decide (V.int i=V.int j)=decide (i=j):=by rw[Bool.eq_iff_iff];simp
 rw[e];exact h⟩
theorem rd_NeI{i j:Int}(h:Q (.bl (!decide (i=j))) H):iT (.int i) (.int j) H Q:=⟨rfl,by
 have e:decide (V.int i=V.int j)=decide (i=j):=by rw[Bool.eq_iff_iff];simp
 rw[e];exact h⟩
theorem rd_NeB{i j:Bool}(h:Q (.bl (!(i == j))) H):iT (.bl i) (.bl j) H Q:=⟨rfl,by rw[mi];exact h⟩
theorem aK{p:Addr}{xs:List V}{i:Int}{v:V}(e:af K H p xs)(a:bR xs i=some v)(h:Q v H):lD K (.ref p) (.int i) H Q:=⟨p,xs,i,v,rfl,rfl,e,a,h⟩
theorem aw{p:Addr}{xs:List V}{i:Int}{v:V}(e:ag K H p xs)(a:bR xs i=some v)(h:Q v H):m5 K (.ref p) (.int i) H Q:=⟨p,xs,i,v,rfl,rfl,e,a,h⟩
theorem dg{p:Addr}{xs:List V}(e:af K H p xs)(h:Q (.int xs.length) H):jc K [.ref p] H Q:=⟨p,xs,rfl,.inl e,h⟩
theorem iL{p:Addr}{xs:List V}(e:ag K H p xs)(h:Q (.int xs.length) H):jc K [.ref p] H Q:=⟨p,xs,rfl,.inr e,h⟩
theorem fL{p:Addr}{xs:List V}(e:af K H p xs)(h:eR H (.tup xs) Q):mL K [.ref p] H Q:=⟨p,xs,rfl,.inl ⟨e,h⟩⟩
theorem fm{x:V}{n T:String}{b:Bool}(hk:fC H x n)(hb:f6 n T=some b)(h:Q (.bl b) H):sI [x,.ty T] H Q:=⟨x,n,T,b,rfl,hk,hb,h⟩
theorem rd_max2{i j:Int}(h:Q (.int (if j>i then j else i)) H):qB [.int i,.int j] H Q:=⟨i,j,rfl,h⟩
theorem rd_min2{i j:Int}(h:Q (.int (if j<i then j else i)) H):uT [.int i,.int j] H Q:=⟨i,j,rfl,h⟩
theorem rd_call{sp:Sp}{a:TA}{E:XK}(h:a σ H fun vs H1=>sp (vs++[]) H1 Q E):gL sp [] E a σ H Q:=h
theorem rd_BM{T:String}{r:V->List V->Hp->VK->Prop}{a:TA}(h:te σ H fun x H1=>gJ K T x H1/\a σ H1 fun xs H2=>r x xs H2 Q):lH K T r te a σ H Q:=h
theorem rd_tup{a:TA}(h:a σ H fun xs H1=>xs.length<=sizeLine/\eR H1 (.tup xs) Q):mE a σ H Q:=h
theorem rd_lst{a:TA}(h:a σ H fun xs H1=>xs.length<=sizeLine/\eR H1 (.lst xs) Q):uE a σ H Q:=h
theorem rd_sl{r:V->Option Int->Option Int->Hp->VK->Prop}{tl th:TO}(h:te σ H fun x H1=>tl σ H1 fun l H2=>th σ H2 fun v H3=>r x l v H3 Q):tD r te tl th σ H Q:=h
theorem rd_noPart{R:Option Int->Hp->Prop}(h:R none H):oM σ H R:=h
theorem rd_part{R:Option Int->Hp->Prop}(h:te σ H fun x H1=>∃i,x=.int i/\R (some i) H1):tf te σ H R:=h
theorem rd_exi{i:Int}{R:Int->Prop}(h:R i):∃k,V.int i=V.int k/\R k:=⟨i,rfl,h⟩
theorem rd_chain{r r':R2}(h:ta σ H fun x H1=>tb σ H1 fun y H2=>r x y H2 fun z H3=>∃k,z=.bl k/\(if k=true then tc σ H3 fun w' H4=>r' y w' H4 Q else Q (.bl false) H3)):uC r r' ta tb tc σ H Q:=h
theorem rd_comp{n:Nat}{js:List Nat}{wi:TI}{g:TG}(h:wi σ H fun J H1=>fB J n js g c te σ H1 Q):lj n js wi g c te σ H Q:=h
theorem rd_iL{R:It->Hp->Prop}(h:te σ H fun x H1=>sr K x H1 R):nt K te σ H R:=h
theorem rd_iT{R:It->Hp->Prop}(h:te σ H fun x H1=>tj K x H1 R):mU K te σ H R:=h
theorem cC{p:Addr}{xs:List V}{R:It->Hp->Prop}(e:af K H p xs)(h:R (bY K p) H):sr K (.ref p) H R:=⟨p,rfl,⟨xs,e⟩,h⟩
theorem dQ{p:Addr}{xs:List V}{R:It->Hp->Prop}(e:ag K H p xs)(h:R (bS K p) H):tj K (.ref p) H R:=⟨p,rfl,⟨xs,e⟩,h⟩
theorem rd_i1{a:TA}{R:It->Hp->Prop}(h:a σ H fun vs H1=>vG vs H1 R):rL a σ H R:=h
theorem cV{j:Int}{R:It->Hp->Prop}(h1:-(2 ^ 62)<=j/\j<2 ^ 62)(h:R (dU 0 j.toNat) H):vG [.int j] H R:=⟨j,rfl,h1.1,h1.2,h⟩
theorem rd_i3{a:TA}{R:It->Hp->Prop}(h:a σ H fun vs H1=>u5 vs H1 R):qE a σ H R:=h
theorem yh{i j c:Int}{R:It->Hp->Prop}(h1:g7 i j c)(h:R (fw i c (dR i j c)) H):u5 [.int i,.int j,.int c] H R:=⟨i,j,c,rfl,h1,h⟩
theorem rd_for{wi:TI}{g:TG}(h:wi σ H fun J H1=>fg J g t D σ H1):vi wi g t D σ H:=h
theorem bH{l:Addr}{xs:List V}{y:V}(e:H l=some (.lst xs))(hz:xs.length<sizeLine)(h:Q .non (upd H l (.lst (xs++[y])))):rW (.ref l) [y] H Q:=⟨l,xs,y,rfl,rfl,e,hz,h⟩
theorem cy{p:Addr}{xs:List V}(e:af K H p xs):gJ K "list" (.ref p) H:=.inl ⟨rfl,xs,e⟩
theorem rd_sub{to ti:TE}{w:jQ}{v:V}{R:St->Hp->Prop}(h:to σ H fun o H1=>ti σ H1 fun i H2=>w o i v H2 fun H3=>R σ H3):pH to ti w v σ H R:=h
theorem xp{p:Addr}{xs:List V}{k:Int}{j:Nat}{v:V}{R:Hp->Prop}(e:H p=some (.lst xs))(a:eh xs.length k=some j)(h:R (upd H p (.lst (xs.set j v)))):pK (.ref p) (.int k) v H R:=⟨p,xs,k,j,rfl,rfl,e,a,h⟩
theorem dX{n:Nat}{g:cT}{a:Addr}{xs:List V}{R:St->Hp->Prop}(e:ag K H a xs)(hl:xs.length=n)(h:g xs σ H R):nv K n g (.ref a) σ H R:=⟨a,xs,rfl,e,hl,h⟩
theorem rd_gcons{g:TG}{gs:cT}{v:V}{r:List V}{R:St->Hp->Prop}(h:g v σ H fun σ' H'=>gs r σ' H' R):pf g gs (v::r) σ H R:=⟨v,r,rfl,h⟩
theorem rd_gnil{R:St->Hp->Prop}(h:R σ H):sV [] σ H R:=⟨rfl,h⟩
theorem iy{l b:Addr}{xs zs:List V}(e1:H l=some (.lst xs))(e2:H b=some (.lst zs))(hz:xs.length+zs.length<=sizeLine)(h:eR H (.lst (xs++zs)) Q):ph (.ref l) (.ref b) H Q:=⟨l,b,xs,zs,rfl,rfl,e1,e2,hz,h⟩
theorem iO{l:Addr}{k:Int}{xs:List V}(e:H l=some (.lst xs))(hk:0<=k/\k<10 ^ 6)(hz:xs.length*k.toNat<=sizeLine)(h:eR H (.lst (List.replicate k.toNat xs).flatten) Q):se (.ref l) (.int k) H Q:=
 ⟨l,k,xs,rfl,rfl,e,by omega,by omega,hz,h⟩
theorem fQ{a:Addr}{xs:List V}{lo hi:Option Int}(e:af K H a xs)(h:eR H (.lst (cY xs lo hi)) Q):lY K (.ref a) lo hi H Q:=⟨a,xs,rfl,e,h⟩
theorem ao{o:HO}{R:VK}(h:∀p H',Ext H H'->H' p=some o->H p=none->R (.ref p) H'):eR H o R:=fun p hp=>
 h p _ (fun b u e=>by rw[aG (cj e hp)];exact e) aI hp
theorem aX{p:Addr}{o:HO}(hp:H p=none):Ext H (upd H p o):=fun b u e=>by rw[aG (cj e hp)];exact e
theorem af.ext{H':Hp}{p:Addr}{xs:List V}(e:Ext H H')(h:af K H p xs):af K H' p xs:=by
 rcases h with(h | ⟨o,h⟩) | h
 ·exact .inl (.inl (e _ _ h))
 ·exact .inl (.inr ⟨o,e _ _ h⟩)
 ·exact .inr h
end
theorem ic{α:Type}{xs:List α}{i:Int}{v:α}(h0:0<=i)(h:xs[i.toNat]?=some v):bR xs i=some v:=by
 have:=dh h
 rwa [Int.toNat_of_nonneg h0]at this
theorem pz{n:Nat}{i:Int}(h0:0<=i)(h:i<n):eh n i=some i.toNat:=by unfold eh;rw[if_pos h0,if_pos h]
end L2
set_option Elab.async false
set_option linter.all false
set_option maxRecDepth 100000
set_option maxHeartbeats 4000000
namespace L2
open PySem PySem.Spec PyProof.Rows
def da:V->PyData->Prop
 | .non,.none=>True
 | .bl b,.bool c=>b=c
 | .int i,.int j=>i=j
 | .str x,.str y=>x=y/\(PyData.str y).canLay0=true
 | _,_=>False
def aZ(H:Hp):Nat->V->PyData->Prop
 | 0,x,d=>da x d
 | n+1,x,d=>da x d\/∃a xs ds,x=.ref a/\((H a=some (.tup xs)/\d=.tuple ds)\/(H a=some (.lst xs)/\d=.list ds))/\Paired (aZ H n) xs ds
section
variable {X:Cx} {pins:List (Addr×Obj)} {σ:St} {H:Hp} {s:Shared}
theorem da.reads{x:V}{d:PyData}{u:Value}(h:da x d)(r:RelV x u):∃as,Reads s.heap u d as:=by
 cases x with
 | non=>cases d<;>first | exact False.elim h | (cases r;exact⟨_,.none⟩)
 | bl b=>cases d<;>first | exact False.elim h | (cases(show b=_ from h);cases r;exact⟨_,.bool _⟩)
 | int i=>cases d<;>first | exact False.elim h | (cases(show i=_ from h);obtain⟨t,rfl⟩:=r;exact⟨_,.int _ t⟩)
 | str z=>cases d<;>first | exact False.elim h | (cases(show z=_/\_ from h).1;obtain⟨t,rfl⟩:=r;exact⟨_,.str _ t⟩)
 | _=>cases d<;>exact False.elim h
theorem da.lay{x:V}{d:PyData}(h:da x d):d.canLay0=true/\d.depth=0:=by
 cases x<;>cases d<;>first | exact False.elim h | exact ⟨rfl,rfl⟩ | exact ⟨h.2,rfl⟩
theorem lX{R:V->PyData->Prop}(ih:∀{x:V} {d:PyData} {u:Value},R x d->RelV x u->∃as,Reads s.heap u d as):∀{xs:List V} {ds:List PyData} {us:List Value},Paired R xs ds->Vals xs us->∃as,ReadsAll s.heap us ds as
 | _,_,_,.nil,.nil=>⟨_,.nil⟩
 | _,_,_,.cons h t,.cons r rt=>by
  obtain⟨as,ha⟩:=ih h r
  obtain⟨bs,hb⟩:=lX ih t rt
  exact⟨_,.cons ha hb⟩
theorem aZ.reads(I:Inv X pins σ H s):∀(n:Nat) {x:V} {d:PyData} {u:Value},aZ H n x d->RelV x u->∃as,Reads s.heap u d as
 | 0,_,_,_,h,r=>da.reads h r
 | n+1,x,d,u,h,r=>by
  rcases h with h | ⟨a,xs,ds,rfl,hh,hp⟩
  ·exact da.reads h r
  ·cases r
   rcases hh with⟨e,rfl⟩ | ⟨e,rfl⟩
   ·obtain⟨its,rv,⟨o,ho,hc,k,hd⟩,_⟩:=I.tuple (ag.of e)
    obtain⟨as,ha⟩:=lX (fun{x d u}=>aZ.reads I n) hp rv
    exact⟨_,.tuple ho hc hd (by simpa using ha)⟩
   ·obtain⟨its,k,rv,ho,_⟩:=I.lst e
    obtain⟨as,ha⟩:=lX (fun{x d u}=>aZ.reads I n) hp rv
    exact⟨_,.list ho rfl rfl (by simpa using ha)⟩
theorem jJ{R:V->PyData->Prop}{m:Nat}(ih:∀{x:V} {d:PyData},R x d->d.canLay0=true/\d.depth<=m):∀{xs:List V} {ds:List PyData},Paired R xs ds->PyData.canLayAll0 ds=true/\PyData.depthAll ds<=m
 | _,_,.nil=>⟨rfl,Nat.zero_le _⟩
 | _,_,.cons h t=>by
  obtain⟨h1,h2⟩:=ih h
  obtain⟨h3,h4⟩:=jJ ih t
  refine⟨?_,?_⟩
  ·simp only[PyData.canLayAll0,h1,h3,Bool.and_self]
  ·simp only[PyData.depthAll]
   exact Nat.max_le.mpr ⟨h2,h4⟩
theorem aZ.lay:∀(n:Nat) {x:V} {d:PyData},aZ H n x d->d.canLay0=true/\d.depth<=n
 | 0,_,_,h=>⟨(da.lay h).1,Nat.le_of_eq (da.lay h).2⟩
 | n+1,x,d,h=>by
  rcases h with h | ⟨a,xs,ds,rfl,hh,hp⟩
  ·exact⟨(da.lay h).1,by rw[(da.lay h).2];exact Nat.zero_le _⟩
  ·obtain⟨h1,h2⟩:=jJ (fun{x d}=>aZ.lay n) hp
   rcases hh with⟨e,rfl⟩ | ⟨e,rfl⟩
   ·exact⟨h1,Nat.succ_le_succ h2⟩
   ·exact⟨h1,Nat.succ_le_succ h2⟩
def oZ(neg:Bool):R2:=fun x y H Q=>∃n m d e,aZ H n x d/\aZ H m y e/\n<=50/\Q (.bl (if neg then !PyData.eqv d e else PyData.eqv d e)) H
theorem Cp{k:Nat}(hr:Room k X.A):bg X (compareOp .Eq) (oZ false):=by
 intro pins s σ H x y v u Q I rx ry h
 obtain⟨n,m,d,e,h1,h2,hn,q⟩:=h
 obtain⟨as,ra⟩:=aZ.reads I n h1 rx
 obtain⟨bs,rb⟩:=aZ.reads I m h2 ry
 have l1:=aZ.lay n h1
 have l2:=aZ.lay m h2
 have hu:=hr.units
 have hm:min d.depth e.depth<=50:=Nat.le_trans (Nat.min_le_left _ _) (Nat.le_trans l1.2 hn)
 exact SeqAt.compareEq_reads ra rb l1.1 l2.1 (by omega) ⟨.bl _,H,I,rfl,q⟩
theorem uz{k:Nat}(hr:Room k X.A):bg X (compareOp .NotEq) (oZ true):=by
 intro pins s σ H x y v u Q I rx ry h
 obtain⟨n,m,d,e,h1,h2,hn,q⟩:=h
 obtain⟨as,ra⟩:=aZ.reads I n h1 rx
 obtain⟨bs,rb⟩:=aZ.reads I m h2 ry
 have l1:=aZ.lay n h1
 have l2:=aZ.lay m h2
 have hu:=hr.units
 have hm:min d.depth e.depth<=50:=Nat.le_trans (Nat.min_le_left _ _) (Nat.le_trans l1.2 hn)
 exact SeqAt.compareNe_reads ra rb l1.1 l2.1 (by omega) ⟨.bl _,H,I,rfl,q⟩
end
end L2
set_option Elab.async false
set_option linter.all false
set_option maxRecDepth 100000
set_option maxHeartbeats 4000000
namespace L2
open PySem PySem.Spec PyProof.Rows
def BX(K:PySem.W.Frag):List V->Hp->VK->Prop:=fun xs H Q=>∃(p:Addr) (bs:List Bool),xs=[.ref p]/\af K H p (bs.map V.bl)/\Q (.bl (bs.all id)) H
theorem m8:∀{bs:List Bool} {us:List Value},Vals (bs.map V.bl) us->us=bs.map Value.bool
 | [],_,r=>by cases r;rfl
 | b::bs,_,r=>by
  cases r with
  | cons r t=>cases r;rw[m8 t];rfl
theorem all_range(bs:List Bool):((List.range bs.length).all fun i=>bs.getD i false)=bs.all id:=by
 rw[Bool.eq_iff_iff,List.all_eq_true,List.all_eq_true]
 constructor
 ·intro h b hb
  obtain⟨i,hi,e⟩:=List.mem_iff_getElem.mp hb
  have:=h i (List.mem_range.mpr hi)
  rw[List.getD_eq_getElem?_getD,List.getElem?_eq_getElem hi]at this
  rw[←e]
  exact this
 ·intro h i hi
  have hi':=List.mem_range.mp hi
  rw[List.getD_eq_getElem?_getD,List.getElem?_eq_getElem hi']
  exact h _ (List.getElem_mem hi')
theorem uU{X:Cx}(K:PySem.W.Frag)(hc:X.calm=true)(hK:X.K=K:=by rfl):bL X (.builtin "all") (BX K):=by
 subst hK
 intro pins s σ H xs us Q I r h
 obtain⟨p,bs,rfl,hq,q⟩:=h
 obtain⟨u,rfl,rx⟩:=vals1 r
 cases rx
 obtain⟨its,rv,pl,hz⟩:=I.list hq
 have eb:=m8 rv
 have hne:p≠s.heap.objs.size:=Nat.ne_of_lt (by obtain⟨o,n,e,_⟩:=pl;exact Heap.lt_size e)
 refine call_all_walk (wpAny_pyIter_list pl.isList ?_)
 have I1:Inv X pins σ H { s with heap:=s.heap.push { cls:=.type "list_iterator",data:=.fields #[.ref p,.int 0 0] } }:=I.kept (t':=s.toks) fun b o e=>Heap.get?_push_of_some _ e
 have hf:=I.fpOk (H':=H) (Nat.le_refl s.heap.objs.size) I.fresh
 refine⟨s.heap.objs.size,_,_,_,_,_,(fun i=>bs.getD i false),rfl,Walks.list (A:=X.A.in1) (I.ok.hd hc) _ p hne its.toArray,⟨⟨_,Heap.get?_push_size _ rfl,rfl,rfl⟩,?_⟩,?_,fun h' tk hk=>?_⟩
 ·exact pl.isList.push _
 ·intro i v s' Q' E' hv hQ
  rw[eb]at hv
  have hv':(bs.map Value.bool)[i]?=some v:=by simpa using hv
  rw[List.getElem?_map]at hv'
  cases eg:bs[i]? with
  | none=>rw[eg]at hv';cases hv'
  | some b=>
   rw[eg]at hv'
   cases hv'
   have eb':bs.getD i false=b:=by rw[List.getD_eq_getElem?_getD,eg];rfl
   have hQ':Q' (bs.getD i false) s':=hQ
   rw[eb']at hQ'
   exact wpAny_truthy_bool hQ'
 ·obtain⟨f0,f1,f2,f3,f4,f5⟩:=hf
  have hl:=rv.length
  rw[List.length_map]at hl
  refine⟨.bl (bs.all id),H,I1.turned (it:=s.heap.objs.size) (fun b o hb e=>hk b o (by simpa using hb) e) f0 f1 f3 f4 f5,?_,q⟩
  show Value.bool _=Value.bool _
  rw[List.size_toArray,←hl,all_range]
end L2
set_option Elab.async false
set_option linter.all false
set_option maxRecDepth 100000
set_option maxHeartbeats 4000000
namespace L2
open PySem PySem.Spec PyProof.Rows
def nJ(c:TT)(tb:TS):TS:=fun D σ H=>∃(W:Nat->St->Hp->Prop) (R:St->Hp->Prop),(∃m,W m σ H)/\(∀m σ H,W m σ H →
 c σ H fun b H1=>if b=true then ∃N:St->Hp->Prop,(∀σ' H',N σ' H'->∃m',m'<m/\W m' σ' H')/\tb ⟨N,D.rt,R,N⟩ σ H1 else R σ H1)/\∀σ H,R σ H->D.nx σ H
theorem uI{X:Cx}{pos:Pos}{c:Expr}{body:List Stmt}{tc:TT}{tb:TS}(hp:PassesOwn (model X.prog X.w) X.A X.env X.xe)(hc:PT X c tc)(hb:cn X body tb):PS X (.While c body [] pos) (nJ tc tb):=by
 intro pins s σ H D I h
 obtain⟨W,R,w0,hs,hR⟩:=h
 refine aq (Bp hp hc hb pins s σ H { D with nx:=R } I ⟨W,w0,hs⟩) fun f s1 q=>?_
 cases f with
 | next=>
  obtain⟨σ',H',I',q⟩:=q
  exact⟨σ',H',I',hR σ' H' q⟩
 | ret v=>exact q
 | brk=>exact q
 | cont=>exact q
section
variable {D:Ends} {σ:St} {H:Hp} {Q:VK} {te:TE} {t:TS} {c:TT}
theorem tL(W:Nat->St->Hp->Prop)(R:St->Hp->Prop)(m:Nat)(h0:W m σ H)(hs:∀m σ H,W m σ H->c σ H fun b H1=>if b=true then ∃N:St->Hp->Prop,(∀σ' H',N σ' H'->∃m',m'<m/\W m' σ' H')/\t ⟨N,D.rt,R,N⟩ σ H1 else R σ H1)(k:∀σ H,R σ H->D.nx σ H):nJ c t D σ H:=⟨W,R,⟨m,h0⟩,hs,k⟩
theorem rd_aug{i:Nat}{ti:iz}{x:V}(e:σ[i]?=some (some x))(h:te σ H fun y H1=>ti x y H1 fun z H2=>D.nx (σ.set i (some z)) H2):pW i te ti D σ H:=⟨x,e,h⟩
theorem rd_ipI{f:Int->Int->Int}{i j:Int}(h:Q (.int (f i j)) H):vm f (.int i) (.int j) H Q:=⟨i,j,rfl,rfl,h⟩
end
section
variable {prog:Program} {w:World} {A:Around} {E:Value->Shared->Prop} {s:Shared}
theorem n8{it t:Addr}{i:Nat}{ys:Array Value}{x:Value}{Q:Value->Shared->Prop}(gi:s.heap.IsTupleIter it t i)(gt:s.heap.IsTuple t ys)(gx:ys[i]?=some x)
  (q:∀h',h'.IsTupleIter it t (i+1)->Heap.SameBut it s.heap h'->Q x { s with heap:=h' }):wpAny (model prog w) A (Builtin.SmallTypes.nextOf (.ref it)) Q E s:=by
 obtain⟨u,gu,gc,gd⟩:=id gi
 obtain⟨v,gv,_,k,gk⟩:=gt
 unfold Builtin.SmallTypes.nextOf
 refine wpAny_bind (wpAny_callSpecial?_slot (name:=Str.ofString "__next__") gi.typeIs F.slot_tuple_iterator_next (wpAny_call_entry F.slot_tuple_iterator_next gi.typeIs F.entry_tuple_iterator_next ?_ (F.args_tuple_iterator_next_1 _)))
 show wpAny _ _ (field (Value.ref it) 0 >>= _) _ _ s
 refine wpAny_bind (wpAny_field gu gd (x:=Value.ref t) rfl ?_)
 show wpAny _ _ (if(Value.ref t == Value.none)=true then _ else _) _ _ s
 rw[if_neg (show ¬(Value.ref t == Value.none)=true from Bool.false_ne_true)]
 show wpAny _ _ (field (Value.ref it) 1 >>= _) _ _ s
 refine wpAny_bind (wpAny_field gu gd (x:=Value.int i 0) rfl ?_)
 show wpAny _ _ (seqItems? (Value.ref t) >>= _) _ _ s
 refine wpAny_bind (wpAny_seqItems gv gk ?_)
 simp only[Int.toNat_natCast,gx]
 refine wpAny_bind (wpAny_setField gu gd (by simp) (wpAny_pure ⟨x,rfl,wpAny_pure (q _ ?_ (Heap.SameBut.update ..))⟩))
 exact⟨_,Heap.get?_update_self _ gu (Obj.isFreed_of_fields (Obj.data_mapFields gd _)),(Obj.cls_mapFields ..).trans gc,by rw[Obj.data_mapFields gd];simp[rawInt]⟩
theorem mO{it t:Addr}{i:Nat}{ys:Array Value}{Q:Value->Shared->Prop}(hA:A.handled=none)(gi:s.heap.IsTupleIter it t i)(gt:s.heap.IsTuple t ys)(gx:ys[i]?=none)
  (q:∀h' e,Heap.ExtBut it s.heap h'->(∃o,h'.get? e=some o/\o.cls=.type "StopIteration")->E (.ref e) { s with heap:=h' }):wpAny (model prog w) A (Builtin.SmallTypes.nextOf (.ref it)) Q E s:=by
 obtain⟨u,gu,gc,gd⟩:=id gi
 obtain⟨v,gv,_,k,gk⟩:=gt
 unfold Builtin.SmallTypes.nextOf
 refine wpAny_bind (wpAny_callSpecial?_slot (name:=Str.ofString "__next__") gi.typeIs F.slot_tuple_iterator_next (wpAny_call_entry F.slot_tuple_iterator_next gi.typeIs F.entry_tuple_iterator_next ?_ (F.args_tuple_iterator_next_1 _)))
 show wpAny _ _ (field (Value.ref it) 0 >>= _) _ _ s
 refine wpAny_bind (wpAny_field gu gd (x:=Value.ref t) rfl ?_)
 show wpAny _ _ (if(Value.ref t == Value.none)=true then _ else _) _ _ s
 rw[if_neg (show ¬(Value.ref t == Value.none)=true from Bool.false_ne_true)]
 show wpAny _ _ (field (Value.ref it) 1 >>= _) _ _ s
 refine wpAny_bind (wpAny_field gu gd (x:=Value.int i 0) rfl ?_)
 show wpAny _ _ (seqItems? (Value.ref t) >>= _) _ _ s
 refine wpAny_bind (wpAny_seqItems gv gk ?_)
 simp only[Int.toNat_natCast,gx]
 refine wpAny_bind (wpAny_rule (wpAny_bind (wpAny_setField gu gd (by simp) ?_)))
 show wpAny _ _ (newExc (Value.type "StopIteration") [] >>= _) _ _ _
 refine wpAny_bind ?_
 simp only[newExc,newTuple]
 refine wpAny_bind (wpAny_newObj_type (hd:=by size_fits) ?_)
 refine wpAny_bind (m:=firstArgMember _ _) (wpAny_of_eq (a:=Value.none) (by first | rfl | (unfold firstArgMember;rfl)) ?_)
 refine wpAny_newObj_type (hd:=by size_fits) ?_
 simp only[raiseNew]
 refine wpAny_bind (wpAny_handled ?_)
 first | rw [show Around.handled A.in1=none from hA] | rw [hA]
 refine wpAny_bind (wpAny_pure (wpAny_throw ?_))
 exact q _ _ (((Heap.SameBut.update ..).extBut.push _).push _) ⟨_,Heap.get?_push_size _ rfl,rfl⟩
end
structure Sub(P:Program)(w:World)(K:PySem.W.Frag)(J:It)(it:Addr)(tn:Nat->Heap->Prop):Prop where
 obj:∀i h,tn i h->∃o,h.get? it=some o/\∀v,o.data≠.cell v
 keep:∀i h h',tn i h->(∀o,h.get? it=some o->h'.get? it=some o)->tn i h'
 item:∀(X:Cx),X.prog=P->X.w=w->X.K=K->∀(A:Around) (i:Nat) (pins:List (Addr×Obj)) (s:Shared) (σ:St) (H:Hp) (Q:Value->Shared->Prop) (E:Value->Shared->Prop),Inv X pins σ H s->bT X pins H it->tn i s.heap->J.go i H →
  (∀x u h',Inv X pins σ H { s with heap:=h' }->RelV x u->J.yld i H x H->tn (i+1) h'->Heap.SameBut it s.heap h'->Q u { s with heap:=h' })->wpAny (model P w) A (Builtin.SmallTypes.nextOf (.ref it)) Q E s
 done:∀(X:Cx),X.prog=P->X.w=w->X.K=K->∀(A:Around),A.handled=none->∀(i:Nat) (pins:List (Addr×Obj)) (s:Shared) (σ:St) (H:Hp) (Q:Value->Shared->Prop) (E:Value->Shared->Prop),Inv X pins σ H s->bT X pins H it->tn i s.heap->J.stop i H →
  (∀h' e,Heap.ExtBut it s.heap h'->(∃o,h'.get? e=some o/\o.cls=.type "StopIteration")->E (.ref e) { s with heap:=h' })->wpAny (model P w) A (Builtin.SmallTypes.nextOf (.ref it)) Q E s
theorem qJ{P:Program}{w:World}{K:PySem.W.Frag}(a it:Addr):Sub P w K (bY K a) it (fun i h=>h.IsListIter it a i) where
 obj:=fun i h st=>by
  obtain⟨o,e,c,d⟩:=st
  exact⟨o,e,fun v z=>by rw[d]at z;cases z⟩
 keep:=fun i h h' st k=>st.at k
 item:=by
  intro X hP hw hK A i pins s σ H Q E I hf st hg hQ
  subst hP hw hK
  obtain⟨xs,x,hq,hx⟩:=hg
  obtain⟨its,rv,p,hz⟩:=I.list hq
  obtain⟨u,hu,ru⟩:=rv.get hx
  obtain⟨f0,f1,f2,f3,f4,f5⟩:=hf
  exact wpAny_nextOf_list_item st p.isList (x:=u) (by simpa using hu) fun h' st' sb=>hQ x u h' (I.turned (t':=s.toks) (it:=it) (fun b o hb e=>(sb.2 b hb).trans e) f0 f1 f3 f4 f5) ru ⟨rfl,fun ys hy=>by rw[I.list_inj hy hq];exact hx⟩ st' sb
 done:=by
  intro X hP hw hK A hA i pins s σ H Q E I hf st hg hE
  subst hP hw hK
  obtain⟨xs,hq,hx⟩:=hg
  obtain⟨its,rv,p,hz⟩:=I.list hq
  have hl:=rv.length
  exact wpAny_nextOf_list_end hA st p.isList (by simp;omega) hE
theorem qZ{P:Program}{w:World}{K:PySem.W.Frag}(a it:Addr):Sub P w K (bS K a) it (fun i h=>h.IsTupleIter it a i) where
 obj:=fun i h st=>by
  obtain⟨o,e,c,d⟩:=st
  exact⟨o,e,fun v z=>by rw[d]at z;cases z⟩
 keep:=fun i h h' st k=>st.at k
 item:=by
  intro X hP hw hK A i pins s σ H Q E I hf st hg hQ
  subst hP hw hK
  obtain⟨xs,x,hq,hx⟩:=hg
  obtain⟨its,rv,p,hz⟩:=I.tuple hq
  obtain⟨u,hu,ru⟩:=rv.get hx
  obtain⟨f0,f1,f2,f3,f4,f5⟩:=hf
  exact n8 st (show s.heap.IsTuple a its.toArray from p) (x:=u) (by simpa using hu) fun h' st' sb=>hQ x u h' (I.turned (t':=s.toks) (it:=it) (fun b o hb e=>(sb.2 b hb).trans e) f0 f1 f3 f4 f5) ru ⟨rfl,fun ys hy=>by rw[I.tuple_inj hy hq];exact hx⟩ st' sb
 done:=by
  intro X hP hw hK A hA i pins s σ H Q E I hf st hg hE
  subst hP hw hK
  obtain⟨xs,hq,hx⟩:=hg
  obtain⟨its,rv,p,hz⟩:=I.tuple hq
  have hl:=rv.length
  exact mO hA st (show s.heap.IsTuple a its.toArray from p) (by simp;omega) hE
def fT(J1 J2:It):It:=⟨fun i H=>J1.go i H/\J2.go i H,fun i H x H'=>∃p u v,x=.ref p/\H p=none/\H'=upd H p (.tup [u,v])/\J1.yld i H u H/\J2.yld i H v H,fun i H=>J1.stop i H\/(J1.go i H/\J2.stop i H)⟩
structure Apart(z TI TO i1 i2:Addr):Prop where
 a:TI≠z
 b:TO≠z
 c:i1≠z
 d:i2≠z
 e:TI≠TO
 f:TI≠i1
 g:TI≠i2
 h:TO≠i1
 i:TO≠i2
 j:i1≠i2
section
variable {X:Cx} {pins:List (Addr×Obj)} {σ:St} {H:Hp} {s:Shared}
theorem Inv.same{it:Addr}{k h':Heap}(I:Inv X pins σ H { s with heap:=k })(f:bT X pins H it)(b:Heap.ExtBut it k h'):Inv X pins σ H { s with heap:=h' }:=by
 obtain⟨f0,f1,f2,f3,f4,f5⟩:=f
 exact Inv.turned (s:={ s with heap:=k }) (t':=s.toks) (it:=it) I (fun c o hb e=>b c o hb e) f0 f1 f3 f4 f5
theorem xk{J1 J2:It}{z TI TO i1 i2:Addr}{t1 t2:Nat->Heap->Prop}{A:Around}{E:Value->Shared->Prop}{a b:Value}{i:Nat}{Q:Value->Shared->Prop}(S1:Sub X.prog X.w X.K J1 i1 t1)(S2:Sub X.prog X.w X.K J2 i2 t2)(N:Apart z TI TO i1 i2)
  (I:Inv X pins σ H s) (hf:∀b∈[z,TI,TO,i1,i2],bT X pins H b) (gz:IsZip s.heap z TI TO .none) (gI:IsPair s.heap TI (.ref i1) (.ref i2)) (gO:IsPair s.heap TO a b) (g1:t1 i s.heap) (g2:t2 i s.heap) (go1:J1.go i H) (go2:J2.go i H)
  (q:∀x y h',Inv X pins σ (upd H s.heap.objs.size (.tup [x,y])) { s with heap:=h' }->J1.yld i H x H->J2.yld i H y H->IsZip h' z TI TO (rawInt s.heap.objs.size)->IsPair h' TI (.ref i1) (.ref i2)->(∃a b,IsPair h' TO a b)->t1 (i+1) h'->t2 (i+1) h'->Q (.ref s.heap.objs.size) { s with heap:=h' }) :
  wpAny (model X.prog X.w) A (Builtin.«zip.__next__» ⟨[.ref z],[]⟩) (fun fin s'=>∃v,fin=.done (.ret v)/\Q v s') E s:=by
 have fz:=hf z (by simp)
 have fO:=hf TO (by simp)
 have f1:=hf i1 (by simp)
 have f2:=hf i2 (by simp)
 show wpAny _ _ (field (Value.ref z) 2 >>= _) _ _ _
 refine wpAny_bind (wpAny_field gz rfl (x:=Value.bool false) rfl ?_)
 show wpAny _ _ (field (Value.ref z) 3 >>= _) _ _ _
 refine wpAny_bind (wpAny_field gz rfl (x:=Value.ref TI) rfl ?_)
 refine wpAny_bind (wpAny_seqItems gI rfl ?_)
 show wpAny _ _ (Builtin.SmallTypes.ownedTupleIsFree (Value.ref z) >>= _) _ _ _
 refine wpAny_bind ?_
 unfold Builtin.SmallTypes.ownedTupleIsFree
 refine wpAny_bind (wpAny_field gz rfl (x:=Value.none) rfl (wpAny_pure ?_))
 simp only[if_true]
 refine wpAny_bind (wpAny_rule ?_)
 refine wpAny_bind (wpAny_field gz rfl (x:=Value.ref TO) rfl ?_)
 refine wpAny_bind (wpAny_setField_rec gz (by simp) fun k1 gz1 b1=>?_)
 replace gz1:IsZip k1 z TI TO .ellipsis:=gz1
 have s1:=b1.1
 replace b1:=b1.extBut
 have I1:Inv X pins σ H { s with heap:=k1 }:=Inv.same (show Inv X pins σ H { s with heap:=s.heap }from I) fz b1
 refine wpAny_bind ?_
 simp only[List.zipIdx_cons,List.zipIdx_nil,List.forIn_cons,List.forIn_nil]
 refine wpAny_bind (wpAny_bind (wpAny_onRaise ?_))
 show wpAny _ _ (Builtin.SmallTypes.nextOf (Value.ref i1) >>= _) _ _ _
 refine wpAny_bind (S1.item X rfl rfl rfl _ i pins _ σ H _ _ I1 f1 (S1.keep i _ _ g1 fun o e=>b1 _ _ N.c e) go1 fun x ux k2 I2 rx yx t12 b2=>wpAny_pure ?_)
 replace I2:Inv X pins σ H { s with heap:=k2 }:=I2
 have s2:=b2.1
 replace b2:=b2.extBut
 have gO2:IsPair k2 TO a b:=b2 _ _ N.h (b1 _ _ N.b gO)
 refine wpAny_bind (wpAny_seqItems gO2 rfl ?_)
 refine wpAny_bind (wpAny_updateSeq_pair gO2 fun k3 gO3 b3=>?_)
 replace gO3:IsPair k3 TO ux b:=gO3
 have s3:=b3.1
 replace b3:=b3.extBut
 have I3:Inv X pins σ H { s with heap:=k3 }:=Inv.same I2 fO b3
 refine wpAny_bind (wpAny_letGo (wpAny_pure ?_))
 refine wpAny_bind (wpAny_bind (wpAny_onRaise ?_))
 show wpAny _ _ (Builtin.SmallTypes.nextOf (Value.ref i2) >>= _) _ _ _
 refine wpAny_bind (S2.item X rfl rfl rfl _ i pins _ σ H _ _ I3 f2 (S2.keep i _ _ g2 fun o e=>b3 _ _ (Ne.symm N.i) (b2 _ _ (Ne.symm N.j) (b1 _ _ N.d e))) go2 fun y uy k4 I4 ry yy t24 b4=>wpAny_pure ?_)
 replace I4:Inv X pins σ H { s with heap:=k4 }:=I4
 have s4:=b4.1
 replace b4:=b4.extBut
 have gO4:IsPair k4 TO ux b:=b4 _ _ N.i gO3
 refine wpAny_bind (wpAny_seqItems gO4 rfl ?_)
 refine wpAny_bind (wpAny_updateSeq_pair gO4 fun k5 gO5 b5=>?_)
 replace gO5:IsPair k5 TO ux uy:=gO5
 have s5:=b5.1
 replace b5:=b5.extBut
 have I5:Inv X pins σ H { s with heap:=k5 }:=Inv.same I4 fO b5
 refine wpAny_bind (wpAny_letGo (wpAny_pure (wpAny_pure ?_)))
 refine wpAny_bind (wpAny_seqItems gO5 rfl ?_)
 refine wpAny_bind (wpAny_newTuple ?_)
 have sz:k5.objs.size=s.heap.objs.size:=by rw[s5,s4,s3,s2,s1]
 have gz5:IsZip k5 z TI TO .ellipsis:=b5 _ _ (Ne.symm N.b) (b4 _ _ (Ne.symm N.d) (b3 _ _ (Ne.symm N.b) (b2 _ _ (Ne.symm N.c) gz1)))
 have gI5:IsPair k5 TI (.ref i1) (.ref i2):=b5 _ _ N.e (b4 _ _ N.g (b3 _ _ N.e (b2 _ _ N.f (b1 _ _ N.a gI))))
 have t15:t1 (i+1) k5:=S1.keep _ _ _ (S1.keep _ _ _ (S1.keep _ _ _ t12 fun o e=>b3 _ _ (Ne.symm N.h) e) fun o e=>b4 _ _ N.j e) fun o e=>b5 _ _ (Ne.symm N.h) e
 have t25:t2 (i+1) k5:=S2.keep _ _ _ t24 fun o e=>b5 _ _ (Ne.symm N.i) e
 have lz:z<k5.objs.size:=Heap.lt_size gz5
 have I6:Inv X pins σ (upd H k5.objs.size (.tup [x,y])) { s with heap:=k5.push { cls:=.type "tuple",data:=.seq #[ux,uy] } }:=
  I5.laid (t':=s.toks) (o:=.tup [x,y]) (fun b ob e=>Heap.get?_push_of_some _ e) (Nat.le_refl _) ⟨by show 2<=sizeLine;decide,[ux,uy],.cons rx (.cons ry .nil),IsTup.new _ _⟩
 have fz6:bT X pins (upd H k5.objs.size (.tup [x,y])) z:=by
  obtain⟨c0,c1,c2,c3,c4,c5⟩:=fz
  exact⟨by rw[aG (Nat.ne_of_lt lz)];exact c0,c1,c2,c3,c4,c5⟩
 show wpAny _ _ (Builtin.SmallTypes.ownedTupleHandOut (Value.ref z) (Value.ref k5.objs.size) >>= _) _ _ _
 refine wpAny_bind ?_
 unfold Builtin.SmallTypes.ownedTupleHandOut
 have gz6:IsZip (k5.push { cls:=.type "tuple",data:=.seq #[ux,uy] }) z TI TO .ellipsis:=Heap.get?_push_of_some _ gz5
 refine wpAny_bind (wpAny_setField_rec gz6 (by simp) fun k7 gz7 b7=>?_)
 replace gz7:IsZip k7 z TI TO (rawInt k5.objs.size):=gz7
 replace b7:=b7.extBut
 have I7:Inv X pins σ (upd H k5.objs.size (.tup [x,y])) { s with heap:=k7 }:=Inv.same I6 fz6 b7
 refine wpAny_setField_rec gz7 (by simp) fun k8 gz8 b8=>?_
 replace gz8:IsZip k8 z TI TO (rawInt k5.objs.size):=gz8
 replace b8:=b8.extBut
 have I8:Inv X pins σ (upd H k5.objs.size (.tup [x,y])) { s with heap:=k8 }:=Inv.same I7 fz6 b8
 have up:∀b o,b≠z->k5.get? b=some o->k8.get? b=some o:=fun b o ne e=>b8 _ _ ne (b7 _ _ ne (Heap.get?_push_of_some _ e))
 rw[sz]at I8 gz8
 refine wpAny_pure ⟨_,rfl,?_⟩
 show Q (.ref k5.objs.size) _
 rw[sz]
 exact q x y k8 I8 yx yy gz8 (up _ _ N.a gI5) ⟨_,_,up _ _ N.b gO5⟩ (S1.keep _ _ _ t15 fun o e=>up _ o N.c e) (S2.keep _ _ _ t25 fun o e=>up _ o N.d e)
theorem zr{J1 J2:It}{z TI TO i1 i2:Addr}{t1 t2:Nat->Heap->Prop}{A:Around}{E:Value->Shared->Prop}{a b:Value}{i:Nat}{Q:Fin->Shared->Prop}(hA:A.handled=none)(S1:Sub X.prog X.w X.K J1 i1 t1)(S2:Sub X.prog X.w X.K J2 i2 t2)(N:Apart z TI TO i1 i2)
  (I:Inv X pins σ H s) (hf:∀b∈[z,TI,TO,i1,i2],bT X pins H b) (gz:IsZip s.heap z TI TO .none) (gI:IsPair s.heap TI (.ref i1) (.ref i2)) (gO:IsPair s.heap TO a b) (g1:t1 i s.heap) (g2:t2 i s.heap) (st:J1.stop i H\/(J1.go i H/\J2.stop i H))
  (q:∀h' e,Inv X pins σ H { s with heap:=h' }->(∃o,h'.get? e=some o/\o.cls=.type "StopIteration")->E (.ref e) { s with heap:=h' }) :
  wpAny (model X.prog X.w) A (Builtin.«zip.__next__» ⟨[.ref z],[]⟩) Q E s:=by
 have fz:=hf z (by simp)
 have fO:=hf TO (by simp)
 have f1:=hf i1 (by simp)
 have f2:=hf i2 (by simp)
 show wpAny _ _ (field (Value.ref z) 2 >>= _) _ _ _
 refine wpAny_bind (wpAny_field gz rfl (x:=Value.bool false) rfl ?_)
 show wpAny _ _ (field (Value.ref z) 3 >>= _) _ _ _
 refine wpAny_bind (wpAny_field gz rfl (x:=Value.ref TI) rfl ?_)
 refine wpAny_bind (wpAny_seqItems gI rfl ?_)
 show wpAny _ _ (Builtin.SmallTypes.ownedTupleIsFree (Value.ref z) >>= _) _ _ _
 refine wpAny_bind ?_
 unfold Builtin.SmallTypes.ownedTupleIsFree
 refine wpAny_bind (wpAny_field gz rfl (x:=Value.none) rfl (wpAny_pure ?_))
 simp only[if_true]
 refine wpAny_bind (wpAny_rule ?_)
 refine wpAny_bind (wpAny_field gz rfl (x:=Value.ref TO) rfl ?_)
 refine wpAny_bind (wpAny_setField_rec gz (by simp) fun k1 gz1 b1=>?_)
 replace gz1:IsZip k1 z TI TO .ellipsis:=gz1
 replace b1:=b1.extBut
 have I1:Inv X pins σ H { s with heap:=k1 }:=Inv.same (show Inv X pins σ H { s with heap:=s.heap }from I) fz b1
 refine wpAny_bind ?_
 simp only[List.zipIdx_cons,List.zipIdx_nil,List.forIn_cons,List.forIn_nil]
 refine wpAny_bind (wpAny_bind (wpAny_onRaise ?_))
 show wpAny _ _ (Builtin.SmallTypes.nextOf (Value.ref i1) >>= _) _ _ _
 have t11:t1 i k1:=S1.keep i _ _ g1 fun o e=>b1 _ _ N.c e
 rcases st with st | ⟨go,st⟩
 ·refine wpAny_bind (S1.done X rfl rfl rfl _ hA i pins _ σ H _ _ I1 f1 t11 st fun k2 e b2 he=>?_)
  obtain⟨oe,hoe,hce⟩:=he
  have gz2:IsZip k2 z TI TO .ellipsis:=b2 _ _ (Ne.symm N.c) gz1
  have I2:Inv X pins σ H { s with heap:=k2 }:=Inv.same I1 f1 b2
  have ne:e≠z:=fun x=>by subst x;rw[gz2]at hoe;cases hoe;simp at hce
  exact wpAny_setField_rec gz2 (by simp) fun k3 _ b3=>q k3 e (Inv.same I2 fz b3.extBut) ⟨oe,b3.extBut _ _ ne hoe,hce⟩
 ·refine wpAny_bind (S1.item X rfl rfl rfl _ i pins _ σ H _ _ I1 f1 t11 go fun x ux k2 I2 rx yx t12 b2=>wpAny_pure ?_)
  replace I2:Inv X pins σ H { s with heap:=k2 }:=I2
  replace b2:=b2.extBut
  have gO2:IsPair k2 TO a b:=b2 _ _ N.h (b1 _ _ N.b gO)
  refine wpAny_bind (wpAny_seqItems gO2 rfl ?_)
  refine wpAny_bind (wpAny_updateSeq_pair gO2 fun k3 gO3 b3=>?_)
  replace b3:=b3.extBut
  have I3:Inv X pins σ H { s with heap:=k3 }:=Inv.same I2 fO b3
  refine wpAny_bind (wpAny_letGo (wpAny_pure ?_))
  refine wpAny_bind (wpAny_bind (wpAny_onRaise ?_))
  show wpAny _ _ (Builtin.SmallTypes.nextOf (Value.ref i2) >>= _) _ _ _
  refine wpAny_bind (S2.done X rfl rfl rfl _ hA i pins _ σ H _ _ I3 f2 (S2.keep i _ _ g2 fun o e=>b3 _ _ (Ne.symm N.i) (b2 _ _ (Ne.symm N.j) (b1 _ _ N.d e))) st fun k4 e b4 he=>?_)
  obtain⟨oe,hoe,hce⟩:=he
  have gz4:IsZip k4 z TI TO .ellipsis:=b4 _ _ (Ne.symm N.d) (b3 _ _ (Ne.symm N.b) (b2 _ _ (Ne.symm N.c) gz1))
  have I4:Inv X pins σ H { s with heap:=k4 }:=Inv.same I3 f2 b4
  have ne:e≠z:=fun x=>by subst x;rw[gz4]at hoe;cases hoe;simp at hce
  exact wpAny_setField_rec gz4 (by simp) fun k5 _ b5=>q k5 e (Inv.same I4 fz b5.extBut) ⟨oe,b5.extBut _ _ ne hoe,hce⟩
end
theorem xa{P:Program}{w:World}{K:PySem.W.Frag}{elts:List Expr}{kk:Nat}{ps:Pos}{J1 J2:It}{z TI TO i1 i2:Addr}{t1 t2:Nat->Heap->Prop}(S1:Sub P w K J1 i1 t1)(S2:Sub P w K J2 i2 t2)(N:Apart z TI TO i1 i2):
  Turn P w K (.Tuple elts kk ps) (fT J1 J2) [z,TI,TO,i1,i2] z (fun i h=>IsZip h z TI TO .none/\IsPair h TI (.ref i1) (.ref i2)/\(∃a b,IsPair h TO a b)/\t1 i h/\t2 i h) where
 mem:=by simp
 obj:=fun i h st b hb=>by
  obtain⟨gz,gI,⟨a,c,gO⟩,g1,g2⟩:=st
  simp only[List.mem_cons,List.not_mem_nil,or_false]at hb
  rcases hb with rfl | rfl | rfl | rfl | rfl
  ·exact⟨_,gz,fun v e=>by cases(show Data.fields _=Data.cell v from e)⟩
  ·exact⟨_,gI,fun v e=>by cases(show Data.seq _ _=Data.cell v from e)⟩
  ·exact⟨_,gO,fun v e=>by cases(show Data.seq _ _=Data.cell v from e)⟩
  ·exact S1.obj _ _ g1
  ·exact S2.obj _ _ g2
 keep:=fun i h h' st k=>by
  obtain⟨gz,gI,⟨a,c,gO⟩,g1,g2⟩:=st
  exact⟨k z (by simp) _ gz,k TI (by simp) _ gI,⟨a,c,k TO (by simp) _ gO⟩,S1.keep _ _ _ g1 fun o e=>k i1 (by simp) o e,S2.keep _ _ _ g2 fun o e=>k i2 (by simp) o e⟩
 item:=by
  intro X hP hw hK hc i pins s σ H E I hf st hg
  subst hP hw hK
  obtain⟨gz,gI,⟨a,c,gO⟩,g1,g2⟩:=st
  have gT:s.TypeIs (.ref z) "zip":=⟨_,gz,rfl⟩
  unfold pyNext
  refine wpAny_bind (wpAny_attempt (wpAny_callSpecial?_slot (name:=Str.ofString "__next__") gT F.slot_zip_next (wpAny_call_entry F.slot_zip_next gT F.entry_zip_next
   (xk S1 S2 N I hf gz gI gO g1 g2 hg.1 hg.2 fun x y h' I' yx yy gz' gI' gO' g1' g2'=>wpAny_pure ⟨_,rfl,?_⟩) (F.args_zip_next_1 _))))
  have lt:∀b∈[z,TI,TO,i1,i2],b≠s.heap.objs.size:=fun b hb=>by
   obtain⟨f0,f1,f2,f3,f4,f5⟩:=hf b hb
   simp only[List.mem_cons,List.not_mem_nil,or_false]at hb
   rcases hb with rfl | rfl | rfl | rfl | rfl
   ·exact Nat.ne_of_lt (Heap.lt_size gz)
   ·exact Nat.ne_of_lt (Heap.lt_size gI)
   ·exact Nat.ne_of_lt (Heap.lt_size gO)
   ·obtain⟨o,e,_⟩:=S1.obj _ _ g1;exact Nat.ne_of_lt (Heap.lt_size e)
   ·obtain⟨o,e,_⟩:=S2.obj _ _ g2;exact Nat.ne_of_lt (Heap.lt_size e)
  have fz:bT X pins (upd H s.heap.objs.size (.tup [x,y])) z:=by
   obtain⟨c0,c1,c2,c3,c4,c5⟩:=hf z (by simp)
   exact⟨by rw[aG (lt z (by simp))];exact c0,c1,c2,c3,c4,c5⟩
  obtain⟨a',c',gO'⟩:=gO'
  refine wpAny_letOwnedTupleGo_zip (s:={ s with heap:=h' }) gz' fun k gk bk=>?_
  refine⟨.ref s.heap.objs.size,upd H s.heap.objs.size (.tup [x,y]),Inv.same I' fz bk.extBut,rfl,⟨_,x,y,rfl,I.hok.fresh (Nat.le_refl _),rfl,yx,yy⟩,
   ⟨gk,bk.extBut _ _ N.a gI',⟨_,_,bk.extBut _ _ N.b gO'⟩,S1.keep _ _ _ g1' fun o e=>bk.extBut _ _ N.c e,S2.keep _ _ _ g2' fun o e=>bk.extBut _ _ N.d e⟩,fun b hb=>?_⟩
  rw[aG (lt b hb)]
  exact(hf b hb).1
 done:=by
  intro X hP hw hK hc i pins s σ H E I hf st hg
  subst hP hw hK
  obtain⟨gz,gI,⟨a,c,gO⟩,g1,g2⟩:=st
  have gT:s.TypeIs (.ref z) "zip":=⟨_,gz,rfl⟩
  unfold pyNext
  refine wpAny_bind (wpAny_attempt (wpAny_callSpecial?_slot (name:=Str.ofString "__next__") gT F.slot_zip_next (wpAny_call_entry F.slot_zip_next gT F.entry_zip_next
   (zr (I.ok.hd hc) S1 S2 N I hf gz gI gO g1 g2 hg fun h' e I' he=>?_) (F.args_zip_next_1 _))))
  obtain⟨o,ho,hc'⟩:=he
  refine wpAny_bind (wpAny_isInstance (s:={ s with heap:=h' }) (T:="StopIteration") (b:=true) ⟨o,ho,hc'⟩ isSubtype_stop ?_)
  exact wpAny_pure ⟨rfl,I'⟩
 self:=fun _ _ _ _ _ st h=>wpAny_pyIter_zip st.1 h
abbrev jb(h:Heap)(a:Addr):Heap:=h.push { cls:=.type "tuple_iterator",data:=.fields #[.ref a,.int 0 0] }
abbrev jh(h:Heap)(a b:Addr):Heap:=(jb h a).push { cls:=.type "tuple_iterator",data:=.fields #[.ref b,.int 0 0] }
abbrev kr(h:Heap)(a b:Addr):Heap:=(jh h a b).push { cls:=.type "tuple",data:=.seq #[.ref h.objs.size,.ref (jb h a).objs.size] }
abbrev ko(h:Heap)(a b:Addr):Heap:=(kr h a b).push { cls:=.type "tuple",data:=.seq #[.none,.none] }
abbrev gh(h:Heap)(a b:Addr):Heap:=(ko h a b).push { cls:=.type "zip",data:=.fields #[.none,.bool false,.bool false,.ref (jh h a b).objs.size,.ref (kr h a b).objs.size] }
theorem B6(a b:Addr)(xs ys:Array Value):Meets (Builtin.«zip.__new__» ⟨[.type "zip",.ref a,.ref b],[]⟩) (fun _ R s=>s.heap.IsTuple a xs/\s.heap.IsTuple b ys/\R (.ok (.ret (.ref (ko s.heap a b).objs.size))) { s with heap:=gh s.heap a b }):=
 .of_wp fun prog w A R s q=>by
  obtain⟨hp,g,d,tk,os⟩:=s;obtain⟨ga,gb,q⟩:=q
  have hsub:=sub_zip
  have gA:Heap.IsTuple (Shared.heap ⟨hp,g,d,tk,os⟩) a xs:=ga
  have gB:Heap.IsTuple (Shared.heap ⟨hp.push { cls:=.type "tuple_iterator",data:=.fields #[.ref a,.int 0 0] },g,d,tk,os⟩) b ys:=Heap.IsTuple.push gb _
  wp_walk using wpAny_pyIter_tuple gA,wpAny_pyIter_tuple gB
  exact⟨_,rfl,q⟩
theorem zV{prog:Program}{w:World}{A:Around}{E:Value->Shared->Prop}{s:Shared}{a b:Addr}{xs ys:Array Value}{Q:Value->Shared->Prop}(ga:s.heap.IsTuple a xs)(gb:s.heap.IsTuple b ys)
  (q:∀h',IsZip h' (s.heap.objs.size+4) (s.heap.objs.size+2) (s.heap.objs.size+3) .none->IsPair h' (s.heap.objs.size+2) (.ref s.heap.objs.size) (.ref (s.heap.objs.size+1))->IsPair h' (s.heap.objs.size+3) .none .none →
   h'.IsTupleIter s.heap.objs.size a 0->h'.IsTupleIter (s.heap.objs.size+1) b 0->(∀c o,s.heap.get? c=some o->h'.get? c=some o)->Q (.ref (s.heap.objs.size+4)) { s with heap:=h' }) :
  wpAny (model prog w) A (call (.type "zip") [.ref a,.ref b]) Q E s:=by
 refine callType_new F.called_zip (by decide) (F.typeCall_zip_2 _ _) (F.newCall_zip_2 _ _) (fun ob=>F.args_object_init_3 ob _ _) F.entry_zip_new (B6 a b xs ys) ⟨ga,gb,?_⟩
 have n1:(jb s.heap a).objs.size=s.heap.objs.size+1:=Heap.size_push ..
 have n2:(jh s.heap a b).objs.size=s.heap.objs.size+2:=by rw[Heap.size_push,n1]
 have n3:(kr s.heap a b).objs.size=s.heap.objs.size+3:=by rw[Heap.size_push,n2]
 have n4:(ko s.heap a b).objs.size=s.heap.objs.size+4:=by rw[Heap.size_push,n3]
 have k5:(gh s.heap a b).get? (ko s.heap a b).objs.size=some _:=Heap.get?_push_size _ rfl
 have k4:(gh s.heap a b).get? (kr s.heap a b).objs.size=some _:=Heap.get?_push_of_some _ (Heap.get?_push_size _ rfl)
 have k3:(gh s.heap a b).get? (jh s.heap a b).objs.size=some _:=Heap.get?_push_of_some _ (Heap.get?_push_of_some _ (Heap.get?_push_size _ rfl))
 have k2:(gh s.heap a b).get? (jb s.heap a).objs.size=some _:=Heap.get?_push_of_some _ (Heap.get?_push_of_some _ (Heap.get?_push_of_some _ (Heap.get?_push_size _ rfl)))
 have k1:(gh s.heap a b).get? s.heap.objs.size=some _:=Heap.get?_push_of_some _ (Heap.get?_push_of_some _ (Heap.get?_push_of_some _ (Heap.get?_push_of_some _ (Heap.get?_push_size _ rfl))))
 show _/\_
 rw[n2,n3,n4]at k5
 rw[n1,n2]at k3
 rw[n3]at k4
 rw[n1]at k2
 rw[n4]
 exact⟨⟨_,k5,rfl⟩,q _ k5 k3 k4 ⟨_,k1,rfl,rfl⟩ ⟨_,k2,rfl,rfl⟩ fun c o x=>Heap.get?_push_of_some _ (Heap.get?_push_of_some _ (Heap.get?_push_of_some _ (Heap.get?_push_of_some _ (Heap.get?_push_of_some _ x))))⟩
section
variable {K:PySem.W.Frag} {σ:St} {H:Hp} {Q:VK}
def lB(K:PySem.W.Frag):List V->Hp->(It->Hp->Prop)->Prop:=fun vs H R=>∃a b xs ys,vs=[.ref a,.ref b]/\((ag K H a xs/\ag K H b ys/\R (fT (bS K a) (bS K b)) H)\/(af K H a xs/\af K H b ys/\R (fT (bY K a) (bY K b)) H))
def sj(K:PySem.W.Frag)(ta:TA):TI:=fun σ H R=>ta σ H fun vs H1=>lB K vs H1 R
theorem Cu{X:Cx}{elts:List Expr}{kk:Nat}{ps:Pos}(K:PySem.W.Frag){a b:Expr}{ta:TA}{p pos:Pos}(hg:Gl X "zip")(hm:X.mg "zip" = none)(ha:PA X [a,b] ta)(hK:X.K=K:=by rfl)(hs:starEach [a,b] X.env=[(false,eval a X.env),(false,eval b X.env)]:=by rfl)(hs2:starEach [b] X.env=[(false,eval b X.env)]:=by rfl):
  PI X (.Tuple elts kk ps) (.Call (.Name "zip" p) [a,b] [] pos) (sj K ta):=by
 subst hK
 intro pins s σ H R I h
 refine Call_ (eZ I hg hm PyProof.Rows.boot_zip (PyProof.Rows.callWith_type1 (aq (ha pos pins s σ H _ I h) fun us s1 ⟨vs,H1,I1,r1,q1⟩=>?_) (by rw[hs,hs2]) (by rw[hs2];rfl)))
 obtain⟨l,m,xs,ys,e,q1⟩:=q1
 subst e
 cases r1 with
 | cons r rr=>
  cases rr with
  | cons r' rr=>
   cases rr
   cases r
   cases r'
   have mk:∀{J1 J2:It} {t1 t2:Nat->Heap->Prop},Sub X.prog X.w X.K J1 s1.heap.objs.size t1->Sub X.prog X.w X.K J2 (s1.heap.objs.size+1) t2->∀h',IsZip h' (s1.heap.objs.size+4) (s1.heap.objs.size+2) (s1.heap.objs.size+3) .none->IsPair h' (s1.heap.objs.size+2) (.ref s1.heap.objs.size) (.ref (s1.heap.objs.size+1)) →
     IsPair h' (s1.heap.objs.size+3) .none .none->t1 0 h'->t2 0 h'->(∀c o,s1.heap.get? c=some o->h'.get? c=some o)->R (fT J1 J2) H1->wpAny (model X.prog X.w) X.A (pyIter (.ref (s1.heap.objs.size+4))) (nu X pins σ (.Tuple elts kk ps) R) X.xe { s1 with heap:=h' }:=by
    intro J1 J2 t1 t2 S1 S2 h' gz gI gO g1 g2 k q
    refine wpAny_pyIter_zip (s:={ s1 with heap:=h' }) gz ?_
    have N:Apart (s1.heap.objs.size+4) (s1.heap.objs.size+2) (s1.heap.objs.size+3) s1.heap.objs.size (s1.heap.objs.size+1):=by
     constructor<;>(intro h;have h':@Eq Nat _ _:=h;omega)
    refine⟨s1.heap.objs.size+4,[s1.heap.objs.size+4,s1.heap.objs.size+2,s1.heap.objs.size+3,s1.heap.objs.size,s1.heap.objs.size+1],_,_,H1,rfl,I1.kept (t':=s1.toks) k,xa S1 S2 N,⟨gz,gI,⟨_,_,gO⟩,g1,g2⟩,fun b hb=>?_,q⟩
    have le:@LE.le Nat _ s1.heap.objs.size b:=by
     simp only[List.mem_cons,List.not_mem_nil,or_false]at hb
     rcases hb with rfl | rfl | rfl | rfl | rfl
     ·exact Nat.le_add_right _ _
     ·exact Nat.le_add_right _ _
     ·exact Nat.le_add_right _ _
     ·exact Nat.le_refl _
     ·exact Nat.le_add_right _ _
    exact I1.fpOk le (I1.hok.fresh le)
   rcases q1 with⟨ga,gb,q⟩ | ⟨ga,gb,q⟩
   ·obtain⟨its,_,p1,_⟩:=I1.tuple ga
    obtain⟨its2,_,p2,_⟩:=I1.tuple gb
    exact zV (show s1.heap.IsTuple l its.toArray from p1) (show s1.heap.IsTuple m its2.toArray from p2) fun h' gz gI gO g1 g2 k=>mk (qZ l _) (qZ m _) h' gz gI gO g1 g2 k q
   ·obtain⟨its,_,p1,_⟩:=I1.list ga
    obtain⟨its2,_,p2,_⟩:=I1.list gb
    exact call_zip_2 p1.isList p2.isList fun h' gz gI gO g1 g2 _ k=>mk (qJ l _) (qJ m _) h' gz gI gO g1 g2 k q
theorem rd_zip{a:TA}{R:It->Hp->Prop}(h:a σ H fun vs H1=>lB K vs H1 R):sj K a σ H R:=h
theorem BP{a b:Addr}{xs ys:List V}{R:It->Hp->Prop}(ha:af K H a xs)(hb:af K H b ys)(h:R (fT (bY K a) (bY K b)) H):lB K [.ref a,.ref b] H R:=⟨a,b,xs,ys,rfl,.inr ⟨ha,hb,h⟩⟩
theorem CJ{a b:Addr}{xs ys:List V}{n:Nat}{js:List Nat}{g:TG}{tc:TT}{te:TE}(Pv:Nat->List V->Hp->Prop)(hz:xs.length<=sizeLine)(h0:Pv 0 [] H)(hl:∀i zs H,Pv i zs H->ag K H a xs/\ag K H b ys/\zs.length<=i)
  (hs:∀i u v zs H p H',xs[i]?=some u->ys[i]?=some v->Pv i zs H->Ext H H'->H' p=some (.tup [u,v])->H p=none->g (.ref p) (cv n js σ) H' fun σ2 H3=>tc σ2 H3 fun b H4=>if b=true then te σ2 H4 fun v H5=>Pv (i+1) (zs++[v]) H5 else Pv (i+1) zs H4)
  (hd:∀zs H p,Pv (min xs.length ys.length) zs H->H p=none->Q (.ref p) (upd H p (.lst zs))):fB (fT (bS K a) (bS K b)) n js g tc te σ H Q:=by
 refine⟨fun i m zs H=>m=min xs.length ys.length-i/\i<=min xs.length ys.length/\Pv i zs H,⟨min xs.length ys.length,by simp,Nat.zero_le _,h0⟩,?_⟩
 rintro i m zs H ⟨rfl,hi,p⟩
 obtain⟨qa,qb,ql⟩:=hl i zs H p
 by_cases hlt:i<min xs.length ys.length
 ·have hx:i<xs.length:=by omega
  have hy:i<ys.length:=by omega
  refine .inr ⟨⟨⟨xs,xs[i],qa,by simp[hx]⟩,⟨ys,ys[i],qb,by simp[hy]⟩⟩,by omega,Pv (i+1),fun zs' H' p'=>⟨min xs.length ys.length-(i+1),by omega,rfl,hlt,p'⟩,fun x H' y=>?_⟩
  obtain⟨pp,u,v,rfl,hn,rfl,yu,yv⟩:=y
  exact hs i u v zs H pp _ (yu.2 xs qa) (yv.2 ys qb) p (aX hn) aI hn
 ·have e:i=min xs.length ys.length:=by omega
  refine .inl ⟨?_,fun p' hp=>hd zs H p' (e ▸ p) hp⟩
  by_cases h:xs.length<=i
  ·exact .inl ⟨xs,qa,h⟩
  ·exact .inr ⟨⟨xs,xs[i]'(by omega),qa,List.getElem?_eq_getElem (by omega)⟩,⟨ys,qb,by omega⟩⟩
theorem xn{a b:Addr}{xs ys:List V}{n:Nat}{js:List Nat}{g:TG}{tc:TT}{te:TE}(Pv:Nat->List V->Hp->Prop)(hz:xs.length<=sizeLine)(h0:Pv 0 [] H)(hl:∀i zs H,Pv i zs H->af K H a xs/\af K H b ys/\zs.length<=i)
  (hs:∀i u v zs H p H',xs[i]?=some u->ys[i]?=some v->Pv i zs H->Ext H H'->H' p=some (.tup [u,v])->H p=none->g (.ref p) (cv n js σ) H' fun σ2 H3=>tc σ2 H3 fun b H4=>if b=true then te σ2 H4 fun v H5=>Pv (i+1) (zs++[v]) H5 else Pv (i+1) zs H4)
  (hd:∀zs H p,Pv (min xs.length ys.length) zs H->H p=none->Q (.ref p) (upd H p (.lst zs))):fB (fT (bY K a) (bY K b)) n js g tc te σ H Q:=by
 refine⟨fun i m zs H=>m=min xs.length ys.length-i/\i<=min xs.length ys.length/\Pv i zs H,⟨min xs.length ys.length,by simp,Nat.zero_le _,h0⟩,?_⟩
 rintro i m zs H ⟨rfl,hi,p⟩
 obtain⟨qa,qb,ql⟩:=hl i zs H p
 by_cases hlt:i<min xs.length ys.length
 ·have hx:i<xs.length:=by omega
  have hy:i<ys.length:=by omega
  refine .inr ⟨⟨⟨xs,xs[i],qa,by simp[hx]⟩,⟨ys,ys[i],qb,by simp[hy]⟩⟩,by omega,Pv (i+1),fun zs' H' p'=>⟨min xs.length ys.length-(i+1),by omega,rfl,hlt,p'⟩,fun x H' y=>?_⟩
  obtain⟨pp,u,v,rfl,hn,rfl,yu,yv⟩:=y
  exact hs i u v zs H pp _ (yu.2 xs qa) (yv.2 ys qb) p (aX hn) aI hn
 ·have e:i=min xs.length ys.length:=by omega
  refine .inl ⟨?_,fun p' hp=>hd zs H p' (e ▸ p) hp⟩
  by_cases h:xs.length<=i
  ·exact .inl ⟨xs,qa,h⟩
  ·exact .inr ⟨⟨xs,xs[i]'(by omega),qa,List.getElem?_eq_getElem (by omega)⟩,⟨ys,qb,by omega⟩⟩
end
end L2
set_option Elab.async false
set_option linter.all false
set_option maxRecDepth 100000
set_option maxHeartbeats 4000000
namespace L2
open PySem PySem.Spec PyProof.Rows
mutual
inductive LitE:Expr->TE->Prop
 | non {j pos}:LitE (.Constant .none j pos) (tC .non)
 | bl {b j pos}:LitE (.Constant (.bool b) j pos) (tC (.bl b))
 | int {i j pos}:LitE (.Constant (.int i) j pos) (tC (.int i))
 | str {x j pos}:LitE (.Constant (.str x) j pos) (tC (.str x))
 | tup {es ta k pos}:LitsE es ta->LitE (.Tuple es k pos) (mE ta)
inductive LitsE:List Expr->TA->Prop
 | nil:LitsE [] mh
 | cons {e te es ta}:LitE e te->LitsE es ta->LitsE (e::es) (ny te ta)
end
end L2
set_option Elab.async false
set_option linter.all false
set_option maxRecDepth 100000
set_option maxHeartbeats 4000000
namespace L2
open PySem PySem.Spec PyProof.Rows
section
variable {X:Cx} {pins:List (Addr×Obj)} {σ:St} {H:Hp} {s:Shared}
end
section
variable {X:Cx} {pins:List (Addr×Obj)} {σ:St} {H:Hp} {s:Shared}
end
end L2
set_option Elab.async false
set_option linter.all false
set_option maxRecDepth 100000
set_option maxHeartbeats 4000000
namespace L2
open PySem PySem.Spec PyProof.Rows
section
variable {P:Program} {w:World} {K:PySem.W.Frag} {mg:Str->Option Value} {base:Heap}
end
end L2
set_option Elab.async false
set_option linter.all false
set_option maxRecDepth 100000
set_option maxHeartbeats 4000000
namespace L2
open PySem PySem.Spec PyProof.Rows
section
variable {prog:Program} {w:World} {A:Around} {E:Value->Shared->Prop}
theorem o6{it l:Addr}{ys:Array Value}(ne:l≠it):∀(n i:Nat) (s:Shared) (Q:List Value->Shared->Prop),s.heap.IsListIter it l i->s.heap.IsList l ys->i+n<=ys.size →
  (∀h',h'.IsListIter it l (i+n)->Heap.SameBut it s.heap h'->Q ((ys.toList.drop i).take n) { s with heap:=h' })->wpAny (model prog w) A (draw (.ref it) n) Q E s
 | 0,i,s,Q,gi,_,_,q=>by
  show wpAny _ _ (pure []) Q E s
  exact wpAny_pure (by simpa using q s.heap gi (Heap.SameBut.refl ..))
 | n+1,i,s,Q,gi,gl,le,q=>by
  have lt:i<ys.size:=by omega
  show wpAny _ _ (pyNext (Value.ref it) >>= _) Q E s
  refine wpAny_bind (wpAny_pyNext_list_item gi gl (x:=ys[i]) (by simp[lt]) fun k1 g1 b1=>?_)
  refine wpAny_bind (wpAny_holding (o6 ne n (i+1) _ _ g1 (gl.extBut b1.extBut ne) (by omega) fun k2 g2 b2=>wpAny_pure ?_))
  have e:ys.toList.drop i=ys[i]::ys.toList.drop (i+1):=by simp[List.drop_eq_getElem_cons,lt]
  have:=q k2 (by rw[show i+(n+1)=i+1+n by omega];exact g2) (b1.trans b2)
  rw[e,List.take_succ_cons]at this
  exact this
theorem yU{s:Shared}{l:Addr}{ys:Array Value}{Q:List Value->Shared->Prop}(hA:A.handled=none)(gl:s.heap.IsList l ys)
  (q:∀h',Heap.ExtBut s.heap.objs.size s.heap h'->Q ys.toList { s with heap:=h' }):wpAny (model prog w) A (unpackItems (.ref l) ys.size none) Q E s:=by
 have lt:l≠s.heap.objs.size:=by obtain⟨o,e,_⟩:=gl;exact Nat.ne_of_lt (Heap.lt_size e)
 unfold unpackItems
 refine wpAny_bind ?_
 unfold notIterableAtAll
 refine wpAny_bind (wpAny_specialOf gl.typeIs slot_list_iter.lookup ?_)
 refine wpAny_pure ?_
 simp only[Bool.false_eq_true,if_false]
 refine wpAny_bind (wpAny_holding (wpAny_pyIter_list gl ?_))
 refine wpAny_bind (wpAny_holding (o6 lt ys.size 0 _ _ ⟨_,Heap.get?_push_size _ rfl,rfl,rfl⟩ (gl.push _) (by omega) fun k1 g1 b1=>?_))
 rw[show List.take ys.size (List.drop 0 ys.toList)=ys.toList by rw[List.drop_zero];exact List.take_of_length_le (by simp),if_neg (by simp)]
 refine wpAny_bind (wpAny_holding (wpAny_pyNext_list_end hA g1 ((gl.push _).extBut b1.extBut lt) (by simp) fun k2 b2=>?_))
 simp only[Option.isSome_none,Bool.false_eq_true,if_false]
 exact wpAny_pure (q k2 fun b o nb e=>b2 b o nb (b1.extBut b o nb (Heap.get?_push_of_some _ e)))
theorem w5{s:Shared}{env:Env}{es:List Expr}{k:Nat}{pos:Pos}{l:Addr}{ys:Array Value}{Q:Unit->Shared->Prop}(hA:A.handled=none)(gl:s.heap.IsList l ys)(hn:(assignEach es env).length=ys.size)(hst:(assignEach es env).findIdx? (·.1)=none)
  (h:∀h',Heap.ExtBut s.heap.objs.size s.heap h'->wpAny (model prog w) A (assignInOrder ((assignEach es env).map (·.2)) ys.toList) Q E { s with heap:=h' }):wpAny (model prog w) A (assign (.Tuple es k pos) env (.ref l)) Q E s:=by
 rw[arm_assign_Tuple]
 refine wpAny_bind (wpAny_standAt ?_)
 unfold unpack
 rw[hn,hst]
 exact wpAny_bind (wpAny_holding (yU hA gl h))
end
section
variable {X:Cx} {pos:Pos}
def s9(K:PySem.W.Frag)(n:Nat)(t:cT):TG:=fun v σ H Q=>∃a xs,v=.ref a/\af K H a xs/\xs.length=n/\t xs σ H Q
theorem sD{es:List Expr}{k:Nat}{t:cT}{n:Nat}(K:PySem.W.Frag)(hc:X.calm=true)(h:f9 X es t)(hK:X.K=K:=by rfl)
  (hn:(assignEach es X.env).length=n:=by rfl) (hst:(assignEach es X.env).findIdx? (·.1)=none:=by rfl):PG X (.Tuple es k pos) (s9 K n t):=by
 subst hK
 intro pins s σ H v u Q I r hw
 obtain⟨a,xs,e1,hq,hl,hw⟩:=hw
 subst e1
 cases r
 obtain⟨its,rv,ht,hz⟩:=I.list hq
 refine w5 (I.ok.hd hc) ht.isList (by simp[hn,←hl,rv.length]) hst fun h' hx=>?_
 have I1:Inv X pins σ H { s with heap:=h' }:=I.kept (t':=s.toks) fun b o e=>hx b o (Nat.ne_of_lt (Heap.lt_size e)) e
 exact h pins _ σ H xs _ Q I1 (by simpa using rv) hw
end
theorem qL{K:PySem.W.Frag}{σ:St}{H:Hp}{n:Nat}{g:cT}{a:Addr}{xs:List V}{R:St->Hp->Prop}(e:af K H a xs)(hl:xs.length=n)(h:g xs σ H R):s9 K n g (.ref a) σ H R:=⟨a,xs,rfl,e,hl,h⟩
theorem rd_par{i j:Nat}{ta:TA}{D:Ends}{σ:St}{H:Hp}(h:ta σ H fun vs H1=>∃v w,vs=[v,w]/\D.nx ((σ.set i (some v)).set j (some w)) H1):u7 i j ta D σ H:=h
theorem rd_par2{v w:V}{R:V->V->Prop}(h:R v w):∃a b,[v,w]=[a,b]/\R a b:=⟨v,w,rfl,h⟩
end L2
set_option Elab.async false
set_option linter.all false
set_option maxRecDepth 100000
set_option maxHeartbeats 4000000
namespace L2
open PySem PySem.Spec PyProof.Rows
section
variable {κ:Type} [DecidableEq κ]
def bF(kvs:List (κ×V))(k:κ):Option V:=(kvs.find? fun kv=>decide (kv.1=k)).map (·.2)
def putK(kvs:List (κ×V))(k:κ)(v:V):List (κ×V):=
 if(kvs.any fun kv=>decide (kv.1=k))=true then kvs.map (fun kv=>if kv.1=k then(kv.1,v)else kv)else kvs++[(k,v)]
theorem iC{p:κ×V}{r:List (κ×V)}{k:κ}(e:p.1=k):bF (p::r) k=some p.2:=by simp[bF,List.find?_cons,e]
theorem fX{p:κ×V}{r:List (κ×V)}{k:κ}(e:¬p.1=k):bF (p::r) k=bF r k:=by simp[bF,List.find?_cons,e]
theorem jj(k:κ):∀kvs:List (κ×V),(kvs.any fun kv=>decide (kv.1=k))=(bF kvs k).isSome
 | []=>rfl
 | p::r=>by
  rw[List.any_cons]
  by_cases e:p.1=k
  ·simp only[iC e,decide_eq_true e,Bool.true_or,Option.isSome_some]
  ·rw[fX e,decide_eq_false e,Bool.false_or];exact jj k r
theorem sk(kvs:List (κ×V))(k:κ)(v:V):(putK kvs k v).length<=kvs.length+1:=by
 unfold putK
 split
 ·rw[List.length_map];omega
 ·rw[List.length_append,List.length_cons,List.length_nil];omega
theorem tK{kvs:List (κ×V)}{k:κ}(v:V)(h:bF kvs k=none):putK kvs k v=kvs++[(k,v)]:=by
 unfold putK
 rw[jj,h]
 exact if_neg (by decide)
theorem dz.isSome_eq{o:Option V}{u:Option Value}(r:dz o u):o.isSome=u.isSome:=by
 cases o with
 | none=>cases u with
  | none=>rfl
  | some _=>exact(show False from r).elim
 | some _=>cases u with
  | none=>exact(show False from r).elim
  | some _=>rfl
theorem KV.val{kvs:List (κ×V)}{vs:List (κ×Value)}(r:KV kvs vs)(k:κ):dz (bF kvs k) (valueAt vs k):=by
 unfold KV at r
 induction r with
 | nil=>exact True.intro
 | @cons p q ps qs h t ih=>
  obtain⟨h1,h2⟩:=h
  by_cases e:p.1=k
  ·have e':q.1=k:=h1.symm.trans e
   have b:valueAt (q::qs) k=some q.2:=by simp[valueAt,List.find?_cons,e']
   rw[iC e,b];exact h2
  ·have e':¬q.1=k:=fun z=>e (h1.trans z)
   have b:valueAt (q::qs) k=valueAt qs k:=by simp[valueAt,List.find?_cons,e']
   rw[fX e,b];exact ih
theorem KV.any{kvs:List (κ×V)}{vs:List (κ×Value)}(r:KV kvs vs)(k:κ):(kvs.any fun kv=>decide (kv.1=k))=vs.any fun kv=>decide (kv.1=k):=by
 unfold KV at r
 induction r with
 | nil=>rfl
 | cons h t ih=>rw[List.any_cons,List.any_cons,ih,h.1]
theorem KV.repl{kvs:List (κ×V)}{vs:List (κ×Value)}(r:KV kvs vs)(k:κ){y:V}{u:Value}(ry:RelV y u):
  KV (kvs.map fun kv=>if kv.1=k then(kv.1,y)else kv) (vs.map fun kv=>if kv.1=k then(kv.1,u)else kv):=by
 unfold KV at r ⊢
 induction r with
 | nil=>exact .nil
 | @cons p q ps qs h t ih=>
  rw[List.map_cons,List.map_cons]
  refine .cons ?_ ih
  obtain⟨h1,h2⟩:=h
  by_cases e:p.1=k
  ·rw[if_pos e,if_pos (h1.symm.trans e)];exact⟨h1,ry⟩
  ·rw[if_neg e,if_neg (fun z=>e (h1.trans z))];exact⟨h1,h2⟩
theorem KV.put{kvs:List (κ×V)}{vs:List (κ×Value)}(r:KV kvs vs)(k:κ){y:V}{u:Value}(ry:RelV y u):KV (putK kvs k y) (stored vs k u):=by
 unfold putK stored
 rw[r.any k]
 by_cases e:(vs.any fun kv=>decide (kv.1=k))=true
 ·rw[if_pos e,if_pos e];exact r.repl k ry
 ·rw[if_neg e,if_neg e];exact Paired.snoc r ⟨rfl,ry⟩
theorem KV.keys{kvs:List (κ×V)}{vs:List (κ×Value)}(r:KV kvs vs):kvs.map (·.1)=vs.map (·.1):=by
 unfold KV at r
 induction r with
 | nil=>rfl
 | cons h t ih=>rw[List.map_cons,List.map_cons,ih,h.1]
theorem KV.length{kvs:List (κ×V)}{vs:List (κ×Value)}(r:KV kvs vs):kvs.length=vs.length:=Paired.length r
end
theorem fI{P:Program}{w:World}{k:Key}{u:Value}(r:RelV (kV k) u):(bW P w).is k u=true:=by
 cases k with
 | inl i=>obtain⟨t,e⟩:=(show ∃t,u=Value.int i t from r);subst e;exact Bd P w i t
 | inr x=>obtain⟨t,e⟩:=(show ∃t,u=Value.str x t from r);subst e;exact kM P w x t
theorem ma{P:Program}{w:World}:∀{ks:List Key} {us:List Value},Vals (ks.map kV) us->ItemsAre (bW P w) ks us
 | [],_,r=>by rw[List.map_nil]at r;cases r;exact .nil
 | k::ks,_,r=>by
  rw[List.map_cons]at r
  cases r with
  | cons h t=>exact .cons (fI h) (ma t)
abbrev KT(H:Hp):List (List Key×V)->List (List Key×Addr×Value)->Prop:=Paired fun p q=>p.1=q.1/\H q.2.1=some (.tup (p.1.map kV))/\RelV p.2 q.2.2
theorem KT.val{H:Hp}{kvs:List (List Key×V)}{xs:List (List Key×Addr×Value)}(r:KT H kvs xs)(k:List Key):dz (bF kvs k) ((atKey xs k).map (·.2)):=by
 induction r with
 | nil=>exact True.intro
 | @cons p q ps qs h t ih=>
  obtain⟨h1,_,h2⟩:=h
  by_cases e:p.1=k
  ·have e':q.1=k:=h1.symm.trans e
   have b:atKey (q::qs) k=some q.2:=by simp[atKey,List.find?_cons,e']
   rw[iC e,b];exact h2
  ·have e':¬q.1=k:=fun z=>e (h1.trans z)
   have b:atKey (q::qs) k=atKey qs k:=by simp[atKey,List.find?_cons,e']
   rw[fX e,b];exact ih
theorem KT.repl{H:Hp}{kvs:List (List Key×V)}{xs:List (List Key×Addr×Value)}(r:KT H kvs xs)(k:List Key){y:V}{u:Value}(ry:RelV y u):
  KT H (kvs.map fun kv=>if kv.1=k then(kv.1,y)else kv) (xs.map (putAt k u)):=by
 induction r with
 | nil=>exact .nil
 | @cons p q ps qs h t ih=>
  rw[List.map_cons,List.map_cons]
  refine .cons ?_ ih
  obtain⟨h1,h2,h3⟩:=h
  unfold putAt
  by_cases e:p.1=k
  ·rw[if_pos e,if_pos (h1.symm.trans e)];exact⟨h1,h2,ry⟩
  ·rw[if_neg e,if_neg (fun z=>e (h1.trans z))];exact⟨h1,h2,h3⟩
theorem KT.put{H:Hp}{kvs:List (List Key×V)}{xs:List (List Key×Addr×Value)}(r:KT H kvs xs)(k:List Key){b:Addr}{y:V}{u:Value}(hb:H b=some (.tup (k.map kV)))(ry:RelV y u):
  KT H (putK kvs k y) (storedH xs k b u):=by
 have e:(kvs.any fun kv=>decide (kv.1=k))=(atKey xs k).isSome:=by
  rw[jj,(r.val k).isSome_eq,Option.isSome_map]
 unfold putK storedH
 rw[e]
 by_cases q:(atKey xs k).isSome=true
 ·rw[if_pos q,if_pos q];exact r.repl k ry
 ·rw[if_neg q,if_neg q];exact Paired.snoc r ⟨rfl,hb,ry⟩
theorem KT.keeps{H H':Hp}{kvs:List (List Key×V)}{xs:List (List Key×Addr×Value)}(r:KT H kvs xs)(ht:∀b ys,H b=some (.tup ys)->H' b=some (.tup ys)):KT H' kvs xs:=
 Paired.mapP r fun _ _ z=>⟨z.1,ht _ _ z.2.1,z.2.2⟩
section
variable {P:Program} {w:World} {H:Hp} {h:Heap} {a:Addr}
theorem uf{u:HO}(ok:br P w H h)(e:Rd H a u):bA P w H h a u:=e.ok ok
theorem iD{kvs:List (Key×V)}(ok:br P w H h)(e:Rd H a (.dK kvs)):kvs.length<=sizeLine/\(a == sysModules)=false/\∃vs,KV kvs vs/\h.DictOf (bW P w) a vs:=
 show bA P w H h a (.dK kvs)from uf ok e
theorem yV{kvs:List (Key×V)}(ok:br P w H h)(e:H a=some (.dK kvs)):kvs.length<=sizeLine/\(a == sysModules)=false/\∃vs,KV kvs vs/\h.DictOf (bW P w) a vs:=iD ok (.inl e)
theorem gq{ks:List Key}(ok:br P w H h)(e:H a=some (.tup (ks.map kV))):(tupleKind (bW P w)).is h ks a:=by
 obtain⟨_,its,r,o,h1,h2,n,h3⟩:=(show bA P w H h a (.tup (ks.map kV))from ok a _ e)
 exact⟨o,its.toArray,n,h1,h2,h3,by simpa using ma r⟩
theorem gR{kvs:List (List Key×V)}(ok:br P w H h)(e:Rd H a (.dT kvs)):kvs.length<=sizeLine/\(a == sysModules)=false ∧
  ∃xs,KT H kvs xs/\h.DictOfH (tupleKind (bW P w)) a xs:=by
 obtain⟨z,y,xs,r,o,es,ep,h1,h2,h3,h4,h5⟩:=(show bA P w H h a (.dT kvs)from uf ok e)
 refine⟨z,y,xs,r,o,es,ep,h1,h2,h3,h4,fun x hx=>?_,h5⟩
 have all:∀{l:List (List Key×V)} {m:List (List Key×Addr×Value)},KT H l m->∀x∈m,(tupleKind (bW P w)).is h x.1 x.2.1:=by
  intro l m q
  induction q with
  | nil=>intro x hx;exact nomatch hx
  | @cons p q ps qs hq t ih=>
   intro x hx
   rcases List.mem_cons.mp hx with e | hx
   ·subst e
    exact gq ok (by rw[←hq.1];exact hq.2.1)
   ·exact ih x hx
 exact all r x hx
theorem nQ{kvs:List (List Key×V)}(ok:br P w H h)(e:H a=some (.dT kvs)):kvs.length<=sizeLine/\(a == sysModules)=false ∧
  ∃xs,KT H kvs xs/\h.DictOfH (tupleKind (bW P w)) a xs:=gR ok (.inl e)
end
def cf(H:Hp)(a:Addr)(y:V)(r:Option V):Prop:=
 (∃kvs k,Rd H a (.dK kvs)/\y=kV k/\r=bF kvs k)\/∃kvs k b,Rd H a (.dT kvs)/\y=.ref b/\H b=some (.tup (k.map kV))/\r=bF kvs k
def fD(H:Hp)(a:Addr)(y v:V)(H':Hp):Prop:=
 (∃kvs k,H a=some (.dK kvs)/\y=kV k/\kvs.length<sizeLine/\H'=upd H a (.dK (putK kvs k v))) ∨
 ∃kvs k b,H a=some (.dT kvs)/\y=.ref b/\H b=some (.tup (k.map kV))/\kvs.length<sizeLine/\H'=upd H a (.dT (putK kvs k v))
theorem cf.t{H:Hp}{a b:Addr}{kvs:List (List Key×V)}{k:List Key}(e:H a=some (.dT kvs))(eb:H b=some (.tup (k.map kV))):cf H a (.ref b) (bF kvs k):=.inr ⟨kvs,k,b,.inl e,rfl,eb,rfl⟩
theorem fD.t{H:Hp}{a b:Addr}{kvs:List (List Key×V)}{k:List Key}{v:V}(e:H a=some (.dT kvs))(eb:H b=some (.tup (k.map kV)))(hl:kvs.length<sizeLine):
  fD H a (.ref b) v (upd H a (.dT (putK kvs k v))):=.inr ⟨kvs,k,b,e,rfl,eb,hl,rfl⟩
section
variable {X:Cx} {pins:List (Addr×Obj)} {σ:St} {H:Hp} {s:Shared} {a:Addr} {y v:V} {u r:Value} {o:Option V} {A:Around} {E:Value->Shared->Prop}
theorem Inv.big(I:Inv X pins σ H s):sysModules<s.heap.objs.size:=by
 have h:mainGlobals<s.heap.objs.size:=(I.mod.glob.keeps I.bk).lt
 exact Nat.lt_trans (by decide) h
theorem zO{Q:Value->Shared->Prop}(hu:A.units+1<cLine)(I:Inv X pins σ H s)(g:cf H a y (some v))(ry:RelV y u)(h:∀w' s',Inv X pins σ H s'->RelV v w'->Q w' s'):
  wpAny (model X.prog X.w) A (getItem (.ref a) u) Q E s:=by
 rcases g with⟨kvs,k,e,ey,l⟩ | ⟨kvs,k,b,e,ey,eb,l⟩
 ·subst ey
  obtain⟨z,hd,vs,rel,dd⟩:=iD I.hok e
  obtain⟨w',hw,rw'⟩:=dz.some_of (v:=v) (o:=valueAt vs k) (by rw[l];exact rel.val k)
  exact wpAny_getItem_of (fI ry) dd.mapOf hw (h w' _ (I.tok _) rw')
 ·subst ey
  cases(show u=Value.ref b from ry)
  obtain⟨z,hd,xs,rel,dd⟩:=gR I.hok e
  obtain⟨w',hw,rw'⟩:=dz.some_of (v:=v) (o:=(atKey xs k).map (·.2)) (by rw[l];exact rel.val k)
  obtain⟨p,hp,hp2⟩:=Option.map_eq_some_iff.mp hw
  refine wpAny_getItem_heap (tupleKind_room_in1 hu) (gq I.hok eb) dd hp ?_
  rw[hp2]
  exact h w' _ (I.tok _) rw'
theorem xf{Q:Value->Shared->Prop}(hu:A.units+1<cLine)(I:Inv X pins σ H s)(g:cf H a y o)(ry:RelV y u)(h:∀s',Inv X pins σ H s'->Q (.bool o.isSome) s'):
  wpAny (model X.prog X.w) A (compareOp .In u (.ref a)) Q E s:=by
 rcases g with⟨kvs,k,e,ey,l⟩ | ⟨kvs,k,b,e,ey,eb,l⟩
 ·subst ey
  obtain⟨z,hd,vs,rel,dd⟩:=iD I.hok e
  refine wpAny_in_of (fI ry) hd dd.mapOf ?_
  rw[←(rel.val k).isSome_eq,←l]
  exact h _ (I.tok _)
 ·subst ey
  cases(show u=Value.ref b from ry)
  obtain⟨z,hd,xs,rel,dd⟩:=gR I.hok e
  refine wpAny_in_heap (tupleKind_room_in1 hu) (gq I.hok eb) hd dd ?_
  have q:=(rel.val k).isSome_eq
  rw[Option.isSome_map]at q
  rw[←q,←l]
  exact h _ (I.tok _)
theorem yG{Q:Value->Shared->Prop}(hu:A.units+1<cLine)(I:Inv X pins σ H s)(g:cf H a y o)(ry:RelV y u)(h:∀s',Inv X pins σ H s'->Q (.bool (!o.isSome)) s'):
  wpAny (model X.prog X.w) A (compareOp .NotIn u (.ref a)) Q E s:=by
 rcases g with⟨kvs,k,e,ey,l⟩ | ⟨kvs,k,b,e,ey,eb,l⟩
 ·subst ey
  obtain⟨z,hd,vs,rel,dd⟩:=iD I.hok e
  refine wpAny_notIn_of (fI ry) hd dd.mapOf ?_
  rw[←(rel.val k).isSome_eq,←l]
  exact h _ (I.tok _)
 ·subst ey
  cases(show u=Value.ref b from ry)
  obtain⟨z,hd,xs,rel,dd⟩:=gR I.hok e
  refine wpAny_notIn_heap (tupleKind_room_in1 hu) (gq I.hok eb) hd dd ?_
  have q:=(rel.val k).isSome_eq
  rw[Option.isSome_map]at q
  rw[←q,←l]
  exact h _ (I.tok _)
theorem mw{h':Heap}{t':Nat}{ob:HO}(I:Inv X pins σ H s)(mu:gX (H a))(hs:Heap.SameBut a s.heap h')(he:∃q,h'.get? a=some q)(new:bA X.prog X.w (upd H a ob) h' a ob):
  Inv X pins σ (upd H a ob) { s with heap:=h',toks:=t' }:=
 I.write (x:=a) (e:=a) mu (.inl rfl) (fun b q hb z=>(hs.2 b hb).trans z) he new
theorem yM{P:Program}{w:World}{H':Hp}{h':Heap}{kvs:List (Key×V)}{vs:List (Key×Value)}(z:kvs.length<=sizeLine)(hd:(a == sysModules)=false)(rel:KV kvs vs)(dd:h'.DictOf (bW P w) a vs):
  bA P w H' h' a (.dK kvs):=⟨z,hd,vs,rel,dd⟩
theorem xm{H':Hp}{Q:Unit->Shared->Prop}(hu:A.units+1<cLine)(I:Inv X pins σ H s)(g:fD H a y v H')(ry:RelV y u)(rv:RelV v r)(h:∀s',Inv X pins σ H' s'->Q () s'):
  wpAny (model X.prog X.w) A (setItem (.ref a) u r) Q E s:=by
 rcases g with⟨kvs,k,e,ey,l,eH⟩ | ⟨kvs,k,b,e,ey,eb,l,eH⟩
 ·subst ey eH
  obtain⟨z,hd,vs,rel,dd⟩:=yV I.hok e
  have hz:vs.length<=sizeLine:=by rw[←rel.length];exact z
  have hl:(putK kvs k v).length<=sizeLine:=by have:=sk kvs k v;omega
  refine wpAny_setItem_pairs (hsz:=hz) (fI ry) dd fun h' dd' hs=>h _ ?_
  have he:∃q,h'.get? a=some q:=let ⟨q,_,_,hq,_⟩:=dd';⟨q,hq⟩
  exact mw I (by rw[e];exact True.intro) hs he (yM hl hd (rel.put k rv) dd')
 ·subst ey eH
  cases(show u=Value.ref b from ry)
  obtain⟨z,hd,xs,rel,dd⟩:=nQ I.hok e
  have hz:xs.length<=sizeLine:=by rw[←Paired.length rel];exact z
  have hl:(putK kvs k v).length<=sizeLine:=by have:=sk kvs k v;omega
  refine wpAny_setItem_heap (hsz:=hz) (tupleKind_room_in1 hu) (gq I.hok eb) dd fun h' dd' hs=>h _ ?_
  obtain⟨q,es,ep,hq,h2,h3,h4,_,h5⟩:=dd'
  refine mw I (by rw[e];exact True.intro) hs ⟨q,hq⟩ ⟨hl,hd,_,(rel.put k eb rv).keeps fun c ys ec=>?_,q,es,ep,hq,h2,h3,h4,h5⟩
  rw[aG (cg ec e (fun z=>nomatch z))]
  exact ec
end
section
variable {X:Cx} {pins:List (Addr×Obj)} {σ:St} {H:Hp} {s:Shared} {a:Addr} {kvs:List (Key×V)} {k:Key} {u:Value} {A:Around} {E:Value->Shared->Prop}
end
def kU(i:Expr):Prop:=∀ov iv,subscripted i false ov iv=operate [ov,iv] (getItem ov iv)
theorem vC{prog:Program}{w:World}{A:Around}{E:Value->Shared->Prop}{s:Shared}{env:Env}{value slice:Expr}{pos:Pos}{T id:String}{Q:Value->Shared->Prop}
  (hl:typeLookup (.type T) "__getitem__" = pure (some (.builtin id))) (hs:kU slice)
  (h:wpAny (model prog w) A (eval value env) (fun o s₁=>wpAny (model prog w) A (eval slice env) (fun i s₂=>s₂.TypeIs o T/\wpAny (model prog w) A (getItem o i) Q E s₂) E s₁) E s) :
  wpAny (model prog w) A (eval (.Subscript value slice pos) env) Q E s:=by
 refine Subscript_ (wpAny_mono h (fun o s₁ h₁=>wpAny_mono h₁ (fun i s₂ h₂=>?_) fun _ _ x=>x) fun _ _ x=>x)
 obtain⟨hT,h₂⟩:=h₂
 unfold subscriptTail
 refine wpAny_bind ?_
 rw[getitemInPython_of_ne hT.not_modules]
 refine wpAny_bind (wpAny_specialOf hT hl ?_)
 have fin:wpAny (model prog w) A (subscripted slice false o i) (fun r s₃=>wpAny (model prog w) A (letTemporaryGo value o r >>= fun _=>pure r) Q E s₃) E s₂:=by
  rw[hs o i]
  exact wpAny_operating (wpAny_mono h₂ (fun r s₃ h₃=>wpAny_bind (wpAny_letTemporaryGo (wpAny_pure h₃))) fun _ _ x=>x)
 first
  | exact wpAny_pure (wpAny_bind fin)
  | exact wpAny_bind (wpAny_pure (wpAny_bind fin))
  | exact wpAny_bind fin
theorem wR{X:Cx}{pins:List (Addr×Obj)}{σ:St}{H:Hp}{s:Shared}{a:Addr}{y:V}{o:Option V}(I:Inv X pins σ H s)(g:cf H a y o):s.TypeIs (.ref a) "dict":=by
 rcases g with⟨kvs,k,e,_,_⟩ | ⟨kvs,k,b,e,_,_,_⟩
 ·obtain⟨_,_,vs,_,dd⟩:=iD I.hok e
  exact dd.typeIs
 ·obtain⟨_,_,xs,_,dd⟩:=gR I.hok e
  exact dd.typeIs
def sO(td ty:TE):TE:=fun σ H Q=>td σ H fun x H1=>ty σ H1 fun y H2=>∃a v,x=.ref a/\cf H2 a y (some v)/\Q v H2
def ue(ty td:TE):TE:=fun σ H Q=>ty σ H fun y H1=>td σ H1 fun x H2=>∃a o,x=.ref a/\cf H2 a y o/\Q (.bl o.isSome) H2
def o2(ty td:TE):TE:=fun σ H Q=>ty σ H fun y H1=>td σ H1 fun x H2=>∃a o,x=.ref a/\cf H2 a y o/\Q (.bl (!o.isSome)) H2
def pJ(td ty tv:TE):TS:=fun D σ H=>tv σ H fun v H1=>td σ H1 fun x H2=>ty σ H2 fun y H3=>∃a H4,x=.ref a/\fD H3 a y v H4/\D.nx σ H4
section
variable {X:Cx} {o i e value:Expr} {pos pos' tpos:Pos} {td ty tv:TE}
theorem oD(hu:X.A.units+1<cLine)(ho:PE X o td)(hi:PE X i ty)(hs:kU i):PE X (.Subscript o i pos) (sO td ty):=by
 intro pins s σ H Q I h
 refine vC PySem.F.slot_dict_getitem.lookup hs (aq (ho pins s σ H _ I h) fun u s1 ⟨x,H1,I1,rx,q1⟩=>aq (hi pins s1 σ H1 _ I1 q1) fun iv s2 ⟨y,H2,I2,ry,a,v,ex,g,q2⟩=>?_)
 subst ex
 obtain rfl:u=Value.ref a:=rx
 exact⟨wR I2 g,zO hu I2 g ry fun w' s3 I3 rw'=>⟨v,H2,I3,rw',q2⟩⟩
theorem Be(hu:X.A.units+1<cLine)(hi:PE X i ty)(ho:PE X o td):PC X .In i o (ue ty td):=by
 intro pins s σ H Q I h
 refine aq (hi pins s σ H _ I h) fun iv s1 ⟨y,H1,I1,ry,q1⟩=>aq (ho pins s1 σ H1 _ I1 q1) fun u s2 ⟨x,H2,I2,rx,a,ov,ex,g,q2⟩=>?_
 subst ex
 obtain rfl:u=Value.ref a:=rx
 exact xf hu I2 g ry fun s3 I3=>⟨.bl ov.isSome,H2,I3,rfl,q2⟩
theorem m7(hu:X.A.units+1<cLine)(hi:PE X i ty)(ho:PE X o td):PC X .NotIn i o (o2 ty td):=by
 intro pins s σ H Q I h
 refine aq (hi pins s σ H _ I h) fun iv s1 ⟨y,H1,I1,ry,q1⟩=>aq (ho pins s1 σ H1 _ I1 q1) fun u s2 ⟨x,H2,I2,rx,a,ov,ex,g,q2⟩=>?_
 subst ex
 obtain rfl:u=Value.ref a:=rx
 exact yG hu I2 g ry fun s3 I3=>⟨.bl (!ov.isSome),H2,I3,rfl,q2⟩
theorem rP(hu:X.A.units+1<cLine)(ho:PE X o td)(hi:PE X i ty)(hv:PE X value tv)(hs:swapsWith value (some (.Subscript o i pos')) pos.line X.env=pure false):
  PS X (.Assign [.Subscript o i pos'] value pos) (pJ td ty tv):=by
 intro pins s σ H D I h
 refine wpAny_Assign_Subscript (aq (hv pins s σ H _ I h) fun r s1 ⟨v,H1,I1,rv,q1⟩=>aq (ho pins s1 σ H1 _ I1 q1) fun u s2 ⟨x,H2,I2,rx,q2⟩=>aq (hi pins s2 σ H2 _ I2 q2) fun iv s3 ⟨y,H3,I3,ry,a,H4,ex,g,q3⟩=>?_) hs
 subst ex
 obtain rfl:u=Value.ref a:=rx
 exact xm hu I3 g ry rv fun s4 I4=>⟨σ,H4,I4,q3⟩
end
theorem rm{P:Program}{w:World}{H:Hp}(h:Heap)(hb:sysModules<h.objs.size):bA P w H (h.push { cls:=.type "dict",data:=.dict #[] }) h.objs.size (.dT []):=
 ⟨Nat.zero_le _,beq_eq_false_iff_ne.mpr (Ne.symm (Nat.ne_of_lt hb)),[],.nil,_,#[],0,Heap.get?_push_size _ rfl,⟨rfl,rfl,rfl⟩,rfl,rfl,List.nodup_nil⟩
def wM:TE:=fun _ H Q=>∀p,H p=none->Q (.ref p) (upd H p (.dT []))
section
variable {X:Cx} {pos:Pos}
theorem wU:PE X (.Dict [] [] pos) wM:=fun pins s σ H Q I h=>
 wpAny_Dict_empty ⟨.ref s.heap.objs.size,_,I.laid (a:=s.heap.objs.size) (o:=.dT []) (t':=s.toks) (fun _ _ q=>Heap.get?_push_of_some _ q) (Nat.le_refl _) (rm s.heap I.big),rfl,h _ (I.hok.fresh (Nat.le_refl _))⟩
end
section
variable {X:Cx} {pins:List (Addr×Obj)} {σ:St} {H:Hp} {s:Shared} {a:Addr} {y d:V} {u r:Value} {o:Option V} {A:Around} {E:Value->Shared->Prop}
end
section
variable {X:Cx} {o e f:Expr} {apos cpos:Pos} {td ty tx:TE}
end
section
variable {X:Cx} {pins:List (Addr×Obj)} {σ:St} {H:Hp} {s:Shared} {a:Addr} {kvs:List (Key×V)} {A:Around} {E:Value->Shared->Prop}
end
section
variable {X:Cx} {pins:List (Addr×Obj)} {σ:St} {H:Hp} {s:Shared} {a:Addr} {y:V} {u:Value} {A:Around} {E:Value->Shared->Prop}
end
end L2
namespace L2
open PySem PySem.Spec PyProof.Rows
section
variable {X:Cx}
end
section
variable {κ:Type} [DecidableEq κ]
end
end L2
set_option Elab.async false
set_option linter.all false
set_option maxRecDepth 100000
set_option maxHeartbeats 4000000
namespace L2
open PySem PySem.Spec PyProof.Rows
section
variable {P:Program} {w:World} {K:PySem.W.Frag} {mg:Str->Option Value} {base:Heap} {N:List Str} {qual:Str} {scope:Scope} {f:Addr} {cd:Value} {A:Around} {outer:List Env} {s₀:Shared} {H₀:Hp} {E:XK}
end
end L2
set_option Elab.async false
set_option linter.all false
set_option maxRecDepth 100000
set_option maxHeartbeats 4000000
namespace L2
open PySem PySem.Spec PyProof.Rows
section
variable {prog:Program} {w:World} {A:Around} {E:Value->Shared->Prop} {K:PySem.W.Frag} {x D:Addr} {ox:Obj} {s:Shared}
end
section
variable {X:Cx} {pins:List (Addr×Obj)} {σ:St} {H:Hp} {s:Shared} {x:Addr} {oe:Obj}
end
section
variable {P:Program} {w:World} {K:PySem.W.Frag} {mg:Str->Option Value} {base:Heap} {N:List Str} {qual:Str} {scope:Scope} {f:Addr} {cd:Value} {A:Around} {outer:List Env} {s₀:Shared} {H₀:Hp} {E:XK}
end
section
end
section
variable {P:Program} {w:World} {K:PySem.W.Frag} {mg:Str->Option Value} {base:Heap} {N:List Str} {qual:Str} {scope:Scope} {f:Addr} {cd:Value} {A:Around} {outer:List Env} {s₀:Shared} {H₀:Hp} {E:XK}
end
section
variable {K:PySem.W.Frag} {D:Ends} {σ:St} {H:Hp} {Q:VK} {E:XK} {C x:Addr}
end
section
variable {K:PySem.W.Frag} {D:Ends} {σ:St} {H:Hp} {E:St->XK} {C:Addr} {i:Nat} {t u tb:Ends->(St->XK)->St->Hp->Prop} {ts:Addr->Addr->TS} {c:TT}
end
end L2
set_option linter.all false
set_option maxRecDepth 100000
namespace Tb
open PySem
def nx(m i:Nat):Nat:=(i*5+1) % (m+1)
def it(m:Nat):Nat->Nat->Nat
 | 0,i=>i
 | n+1,i=>it m n (nx m i)
theorem j6(m:Nat):∀a b i,it m (a+b) i=it m b (it m a i)
 | 0,b,i=>by rw[Nat.zero_add];rfl
 | a+1,b,i=>by rw[Nat.succ_add];exact j6 m a b (nx m i)
def lG(m:Nat):Nat->Nat->List Nat
 | 0,_=>[]
 | n+1,i=>i::lG m n (nx m i)
theorem oO{m:Nat}:∀{n i j:Nat},j∈lG m n i->∃k,k<n/\it m k i=j
 | 0,_,_,h=>by cases h
 | n+1,i,j,h=>by
  rcases List.mem_cons.mp h with rfl | h
  ·exact⟨0,Nat.succ_pos _,rfl⟩
  ·obtain⟨k,hk,e⟩:=oO h
   exact⟨k+1,Nat.succ_lt_succ hk,e⟩
def good(m:Nat):Bool:=(List.range (m+1)).all (fun j=>(lG m (m+1) 0).contains j) && it m (m+1) 0 == 0
theorem Au:good 7=true:=by decide +kernel
theorem xA:good 31=true:=by decide +kernel
theorem BW:good 127=true:=by decide +kernel
theorem Br:good 511=true:=by decide +kernel
def Mask(m:Nat):Prop:=m=7\/m=31\/m=127\/m=511
theorem Mask.good{m:Nat}(h:Mask m):good m=true:=by
 rcases h with rfl | rfl | rfl | rfl
 ·exact Au
 ·exact xA
 ·exact BW
 ·exact Br
theorem nK{m:Nat}(h:Mask m){j:Nat}(hj:j<=m):∃k,k<=m/\it m k 0=j:=by
 have:=h.good
 unfold Tb.good at this
 rw[Bool.and_eq_true,List.all_eq_true]at this
 have h1:=this.1 j (List.mem_range.mpr (by omega))
 rw[List.contains_iff_mem]at h1
 obtain⟨k,hk,e⟩:=oO h1
 exact⟨k,by omega,e⟩
theorem round0{m:Nat}(h:Mask m):it m (m+1) 0=0:=by
 have:=h.good
 unfold Tb.good at this
 rw[Bool.and_eq_true]at this
 exact eq_of_beq this.2
theorem reach{m:Nat}(h:Mask m){i j:Nat}(hi:i<=m)(hj:j<=m):∃k,k<=m/\it m k i=j:=by
 obtain⟨a,ha,ea⟩:=nK h hi
 obtain⟨b,hb,eb⟩:=nK h hj
 rcases Nat.lt_or_ge b a with hlt | hge
 ·refine⟨m+1-a+b,by omega,?_⟩
  rw[←ea,←j6,show a+(m+1-a+b)=(m+1)+b by omega,j6,round0 h]
  exact eb
 ·refine⟨b-a,by omega,?_⟩
  rw[←ea,←j6,show a+(b-a)=b by omega]
  exact eb
def lp(m:Nat):Nat->Nat×Nat->Nat×Nat
 | 0,s=>s
 | n+1,s=>lp m n (SetTable.leap m s.1 s.2)
theorem lL(m:Nat):∀n s,lp m (n+1) s=SetTable.leap m (lp m n s).1 (lp m n s).2
 | 0,s=>rfl
 | n+1,s=>by
  show lp m (n+1) (SetTable.leap m s.1 s.2)=_
  rw[lL m n]
  rfl
theorem sh(m:Nat):∀n s,(lp m n s).2=s.2 / 32 ^ n
 | 0,s=>by simp[lp]
 | n+1,s=>by
  rw[lL m n s]
  show(lp m n s).2 / 32=_
  rw[sh m n s,Nat.div_div_eq_div_mul,Nat.pow_succ]
theorem tU(m:Nat):∀n s,s.1<=m->(lp m n s).1<=m
 | 0,s,h=>h
 | n+1,s,h=>by
  rw[lL m n s]
  show(_ % (m+1))<=m
  have:=Nat.mod_lt ((lp m n s).1*5+1+(lp m n s).2 / 32) (show 0<m+1 by omega)
  omega
theorem pC(m:Nat):∀n i,(lp m n (i,0)).1=it m n i
 | 0,i=>rfl
 | n+1,i=>by
  show(lp m n (SetTable.leap m i 0)).1=it m n (nx m i)
  have:SetTable.leap m i 0=(nx m i,0):=rfl
  rw[this]
  exact pC m n _
theorem rK(m:Nat):∀a b s,lp m (a+b) s=lp m b (lp m a s)
 | 0,b,s=>by rw[Nat.zero_add];rfl
 | a+1,b,s=>by rw[Nat.succ_add];exact rK m a b _
theorem qx{m:Nat}(h:Mask m){i p j:Nat}(hi:i<=m)(hp:p<2 ^ 64)(hj:j<=m):∃n,n<=m+13/\(lp m n (i,p)).1=j:=by
 have hz:(lp m 13 (i,p)).2=0:=by
  rw[sh]
  exact Nat.div_eq_of_lt (Nat.lt_of_lt_of_le hp (by decide))
 obtain⟨k,hk,e⟩:=reach h (tU m 13 (i,p) hi) hj
 refine⟨13+k,by omega,?_⟩
 rw[rK]
 have:lp m 13 (i,p)=((lp m 13 (i,p)).1,0):=by rw[←hz]
 rw[this,pC]
 exact e
theorem qY(h:Int):SetTable.bits h<2 ^ 64:=by
 unfold SetTable.bits
 have h1:=Int.emod_lt_of_pos h (show(0:Int)<2 ^ 64 by decide)
 have h2:=Int.emod_nonneg h (show(2:Int) ^ 64≠0 by decide)
 omega
def bX(t:SetTable):Nat->SetTable.Probe->SetTable.Probe
 | 0,p=>p
 | n+1,p=>bX t n (t.advance p)
theorem lq(t:SetTable):∀a b p,bX t (a+b) p=bX t b (bX t a p)
 | 0,b,p=>by rw[Nat.zero_add];rfl
 | a+1,b,p=>by rw[Nat.succ_add];exact lq t a b _
def at_(t:SetTable)(s:Nat×Nat):SetTable.Probe:={ j:=s.1,more:=SetTable.runEnd t.mask s.1-s.1,i:=s.1,perturb:=s.2,dummy:=none }
theorem rY(t:SetTable):∀(r:Nat) (p:SetTable.Probe),p.more=r->bX t (r+1) p={ p with j:=(SetTable.leap t.mask p.i p.perturb).1,more:=SetTable.runEnd t.mask (SetTable.leap t.mask p.i p.perturb).1-(SetTable.leap t.mask p.i p.perturb).1,i:=(SetTable.leap t.mask p.i p.perturb).1,perturb:=(SetTable.leap t.mask p.i p.perturb).2 }
 | 0,p,h=>by
  show t.advance p=_
  unfold SetTable.advance
  rw[if_neg (by omega)]
 | r+1,p,h=>by
  show bX t (r+1) (t.advance p)=_
  have e:t.advance p={ p with j:=p.j+1,more:=p.more-1 }:=by
   unfold SetTable.advance
   rw[if_pos (by omega)]
  rw[e,rY t r _ (by show p.more-1=r;omega)]
theorem By(t:SetTable)(s:Nat×Nat):∃k,k<=10/\bX t k (at_ t s)=at_ t (SetTable.leap t.mask s.1 s.2):=by
 refine⟨SetTable.runEnd t.mask s.1-s.1+1,?_,?_⟩
 ·unfold SetTable.runEnd
  split<;>omega
 ·exact(rY t (SetTable.runEnd t.mask s.1-s.1) (at_ t s) rfl).trans rfl
theorem uu(t:SetTable):∀(n:Nat) (s:Nat×Nat),∃k,k<=10*n/\bX t k (at_ t s)=at_ t (lp t.mask n s)
 | 0,s=>⟨0,Nat.le_refl _,rfl⟩
 | n+1,s=>by
  obtain⟨k1,h1,e1⟩:=By t s
  obtain⟨k2,h2,e2⟩:=uu t n (SetTable.leap t.mask s.1 s.2)
  refine⟨k1+k2,by omega,?_⟩
  rw[lq,e1,e2]
  rfl
theorem yD(t:SetTable)(h:Int):t.probeStart h=at_ t (SetTable.bits h % (t.mask+1),SetTable.bits h):=rfl
theorem ya{t:SetTable}(hm:Mask t.mask){j:Nat}(hj:j<=t.mask)(h:Int):∃K,K<10*SetTable.turns t.mask/\(bX t K (t.probeStart h)).j=j:=by
 have h1:SetTable.bits h % (t.mask+1)<=t.mask:=by
  have:=Nat.mod_lt (SetTable.bits h) (show 0<t.mask+1 by omega)
  omega
 obtain⟨n,hn,e⟩:=qx hm h1 (qY h) hj
 obtain⟨K,hK,eK⟩:=uu t n (SetTable.bits h % (t.mask+1),SetTable.bits h)
 refine⟨K,by unfold SetTable.turns;omega,?_⟩
 rw[yD,eK]
 exact e
theorem vw{t:SetTable}{j i:Nat}(h:t.slot j=.live i):t.place[i]?=some j:=by
 unfold SetTable.slot at h
 dsimp only at h
 split at h
 ·rename_i hq
  cases h
  exact eq_of_beq hq
 ·split at h<;>cases h
theorem rE(j:Nat):SetTable.has #[] j=false:=rfl
theorem o4{t:SetTable}(hd:t.dummies = #[])(j:Nat):t.slot j=.empty\/∃i,t.slot j=.live i:=by
 unfold SetTable.slot
 dsimp only
 split
 ·exact .inr ⟨_,rfl⟩
 ·rw[hd,rE]
  exact .inl rfl
theorem nU:∀(n:Nat) (l:List Nat),(∀j,j<n->j∈l)->n<=l.length
 | 0,l,_=>Nat.zero_le _
 | n+1,l,h=>by
  have hn:=h n (Nat.lt_succ_self n)
  have:=nU n (l.erase n) fun j hj=>(List.mem_erase_of_ne (by omega)).mpr (h j (by omega))
  rw[List.length_erase_of_mem hn]at this
  have:0<l.length:=List.length_pos_of_mem hn
  omega
theorem wC{t:SetTable}(hd:t.dummies = #[])(h:t.place.size<=t.mask):∃j,j<=t.mask/\t.slot j=.empty:=by
 rcases Classical.em (∃j,j<=t.mask/\t.slot j=.empty)with h1 | h1
 ·exact h1
 ·exfalso
  have:=nU (t.mask+1) t.place.toList fun j hj=>by
   rcases o4 hd j with h2 | ⟨i,h2⟩
   ·exact absurd ⟨j,by omega,h2⟩ h1
   ·have:=vw h2
    rw[←Array.getElem?_toList]at this
    exact List.mem_of_getElem? this
  rw[Array.length_toList]at this
  omega
theorem lr(t:SetTable):∀n p,(bX t n p).dummy=p.dummy
 | 0,p=>rfl
 | n+1,p=>by
  show(bX t n (t.advance p)).dummy=_
  rw[lr t n]
  unfold SetTable.advance
  split<;>rfl
theorem Af{t:SetTable}(hd:t.dummies = #[])(hash:Nat->Int)(h:Int):∀(K fuel:Nat) (p:SetTable.Probe),K<fuel->p.dummy=none->t.slot (bX t K p).j=.empty →
  (∃j,SetTable.probe.go t hash h fuel p=some (.empty j none))\/∃k j i,k<K/\SetTable.probe.go t hash h fuel p=some (.candidate j i (bX t (k+1) p))/\t.slot j=.live i:=by
 intro K
 induction K with
 | zero=>
  intro fuel p hf hp hs
  obtain⟨f,rfl⟩:∃f,fuel=f+1:=⟨fuel-1,by omega⟩
  refine .inl ⟨p.j,?_⟩
  have hs':t.slot p.j=.empty:=hs
  unfold SetTable.probe.go
  rw[hs']
  dsimp only
  rw[hp]
 | succ K ih=>
  intro fuel p hf hp hs
  obtain⟨f,rfl⟩:∃f,fuel=f+1:=⟨fuel-1,by omega⟩
  unfold SetTable.probe.go
  rcases o4 hd p.j with h1 | ⟨i,h1⟩
  ·rw[h1]
   dsimp only
   rw[hp]
   exact .inl ⟨p.j,rfl⟩
  ·rw[h1]
   dsimp only
   by_cases hq:(hash i == h)=true
   ·rw[if_pos hq]
    exact .inr ⟨0,p.j,i,Nat.succ_pos _,rfl,h1⟩
   ·rw[if_neg hq]
    have hp':(t.advance p).dummy=none:=by
     have:=lr t 1 p
     rw[hp]at this
     exact this
    rcases ih f (t.advance p) (by omega) hp' hs with⟨j,e⟩ | ⟨k,j,i',hk,e,hl⟩
    ·exact .inl ⟨j,e⟩
    ·exact .inr ⟨k+1,j,i',by omega,e,hl⟩
theorem pE{α:Type}:∀{l:List (Option α)} {j:Nat} {k:α},l[j]?=some none->((l.set j (some k)).filterMap id).Perm (k::l.filterMap id)
 | [],j,k,h=>by cases h
 | x::l,0,k,h=>by
  have:x=none:=by simpa using h
  subst this
  exact .refl _
 | x::l,j+1,k,h=>by
  have h':l[j]?=some none:=by simpa using h
  have ih:=pE (k:=k) h'
  cases x with
  | none=>exact ih
  | some y=>exact(List.Perm.cons y ih).trans (.swap _ _ _)
theorem ym{α:Type}(l:List (Option α)):(l.filterMap id).length+(l.filter (·.isNone)).length=l.length:=by
 induction l with
 | nil=>rfl
 | cons x l ih=>
  cases x<;>simp at ih ⊢<;>omega
theorem zA{m:Nat}(hm:Mask m)(owner:Array (Option Nat))(hz:owner.size=m+1){j:Nat}(hj:owner[j]?=some none):∀(fuel n i p:Nat),i<=m->n<fuel->(lp m n (i,p)).1=j →
  ∃j',SetTable.layClean.free m owner fuel i p=some j'/\owner[j']?=some none:=by
 intro fuel
 induction fuel with
 | zero=>intro n i p _ h;omega
 | succ fuel ih=>
  intro n i p hi hn he
  unfold SetTable.layClean.free
  split
  ·rename_i k hk
   have h1:=List.find?_some hk
   have h2:=List.mem_range.mp (List.mem_of_find?_eq_some hk)
   refine⟨i+k,rfl,?_⟩
   have hb:i+k<owner.size:=by
    rw[hz]
    unfold SetTable.runEnd at h2
    split at h2<;>omega
   rw[Array.getElem?_eq_getElem hb]
   have:owner.getD (i+k) (some 0)=owner[i+k]:=by
    rw[Array.getD_eq_getD_getElem?,Array.getElem?_eq_getElem hb]
    rfl
   rw[this]at h1
   congr 1
   cases hq:owner[i+k]with
   | none=>rfl
   | some y=>rw[hq]at h1;cases h1
  ·rename_i hk
   cases n with
   | zero=>
    exfalso
    have h0:i=j:=he
    have:=List.find?_eq_none.mp hk 0 (List.mem_range.mpr (by unfold SetTable.runEnd;split<;>omega))
    rw[Nat.add_zero,h0,Array.getD_eq_getD_getElem?,hj]at this
    simp at this
   | succ n=>
    have:=tU m 1 (i,p) hi
    exact ih n (SetTable.leap m i p).1 (SetTable.leap m i p).2 this (by omega) he
def j9(mask:Nat)(acc:Option (Array (Option Nat)×Nat))(h:Int):Option (Array (Option Nat)×Nat):=do
 let (owner,k) ←acc
 let j ←SetTable.layClean.free mask owner (SetTable.turns mask) (SetTable.bits h % (mask+1)) (SetTable.bits h)
 pure (owner.setIfInBounds j (some k),k+1)
theorem zJ{l:List (Option Nat)}(h:(l.filterMap id).length<l.length):∃j:Nat,l[j]?=some none:=by
 have:=ym l
 have h1:0<(l.filter (·.isNone)).length:=by omega
 obtain⟨x,hx⟩:=List.exists_mem_of_length_pos h1
 obtain⟨hx1,hx2⟩:=List.mem_filter.mp hx
 have:x=none:=by cases x<;>simp_all
 subst this
 obtain⟨j,hj⟩:=List.getElem?_of_mem hx1
 exact⟨j,hj⟩
theorem pU{m:Nat}(hm:Mask m):∀(hs:List Int) (owner:Array (Option Nat)) (k:Nat),owner.size=m+1->(owner.toList.filterMap id).Perm (List.range k)->k+hs.length<=m →
  ∃owner',hs.foldl (j9 m) (some (owner,k))=some (owner',k+hs.length)/\owner'.size=m+1/\(owner'.toList.filterMap id).Perm (List.range (k+hs.length))
 | [],owner,k,h1,h2,h3=>⟨owner,rfl,h1,h2⟩
 | h::hs,owner,k,h1,h2,h3=>by
  rw[List.length_cons]at h3 ⊢
  have hlt:(owner.toList.filterMap id).length<owner.toList.length:=by
   rw[h2.length_eq,List.length_range,Array.length_toList,h1]
   omega
  obtain⟨j,hj⟩:=zJ hlt
  rw[Array.getElem?_toList]at hj
  have hjm:j<=m:=by
   have:=(Array.getElem?_eq_some_iff.mp hj).1
   omega
  have hi:SetTable.bits h % (m+1)<=m:=by
   have:=Nat.mod_lt (SetTable.bits h) (show 0<m+1 by omega)
   omega
  obtain⟨n,hn,en⟩:=qx hm hi (qY h) hjm
  obtain⟨j',e',hj'⟩:=zA hm owner h1 hj (SetTable.turns m) n _ _ hi (by unfold SetTable.turns;omega) en
  have step:j9 m (some (owner,k)) h=some (owner.setIfInBounds j' (some k),k+1):=by
   unfold j9
   simp[e']
  rw[List.foldl_cons,step]
  have hp:((owner.setIfInBounds j' (some k)).toList.filterMap id).Perm (List.range (k+1)):=by
   rw[Array.toList_setIfInBounds]
   rw[←Array.getElem?_toList]at hj'
   refine(pE hj').trans ?_
   rw[List.range_succ]
   exact(List.Perm.cons k h2).trans (List.perm_append_comm (l₁:=[k]) (l₂:=List.range k))
  obtain⟨o',f1,f2,f3⟩:=pU hm hs (owner.setIfInBounds j' (some k)) (k+1) (by simpa using h1) hp (by omega)
  exact⟨o',by rw[f1];congr 2;omega,f2,by rw[show k+(hs.length+1)=k+1+hs.length by omega];exact f3⟩
theorem y7(t:SetTable){hashes:Array Int}{wanted m:Nat}(hm:Mask m)(hw:SetTable.sizeAbove wanted-1=m)(hn:hashes.size<=m):
  ∃t' order,t.relaid hashes wanted=some (t',order)/\t'.place.size=hashes.size/\t'.dummies = #[]/\t'.mask=m/\order.toList.Perm (List.range hashes.size):=by
 obtain⟨o',f1,f2,f3⟩:=pU hm hashes.toList (Array.replicate (m+1) none) 0 (by simp) (by simp) (by rw[Array.length_toList];omega)
 rw[Array.length_toList,Nat.zero_add]at f1 f3
 have hlay:SetTable.layClean m hashes=some o':=by
  show(hashes.foldl (j9 m) (some (Array.replicate (m+1) none,0))).map (·.1)=some o'
  rw[←Array.foldl_toList,f1]
  rfl
 have hsnd:((List.range (m+1)).filterMap fun j=>(o'.getD j none).map (j,·)).map (·.2)=o'.toList.filterMap id:=by
  rw[List.map_filterMap]
  have:o'.toList=(List.range (m+1)).map fun j=>o'.getD j none:=by
   apply List.ext_getElem
   ·rw[Array.length_toList,List.length_map,List.length_range,f2]
   ·intro i h1 h2
    rw[Array.length_toList]at h1
    simp[h1]
  rw[this,List.filterMap_map]
  congr 1
  funext j
  show((o'.getD j none).map (j,·)).map (·.2)=o'.getD j none
  cases o'.getD j none<;>rfl
 have hrel:t.relaid hashes wanted=some (({ mask:=m,place:=(((List.range (m+1)).filterMap fun j=>(o'.getD j none).map (j,·)).map (·.1)).toArray,dummies:=#[],finger:=t.finger,led:=t.led,moves:=t.movedTo m,plain:=t.plain }:SetTable),(((List.range (m+1)).filterMap fun j=>(o'.getD j none).map (j,·)).map (·.2)).toArray):=by
  unfold SetTable.relaid
  rw[hw]
  unfold SetTable.laid
  rw[hlay]
  rfl
 refine⟨_,_,hrel,?_,rfl,rfl,?_⟩
 ·show(((List.range (m+1)).filterMap fun j=>(o'.getD j none).map (j,·)).map (·.1)).toArray.size=_
  rw[List.size_toArray,List.length_map]
  have:=congrArg List.length hsnd
  rw[List.length_map,f3.length_eq,List.length_range]at this
  exact this
 ·show(((List.range (m+1)).filterMap fun j=>(o'.getD j none).map (j,·)).map (·.2)).toArray.toList.Perm _
  rw[List.toList_toArray,hsnd]
  exact f3
theorem lP{α:Type}(xs:Array α)(p:Nat)(x:α):(SetTable.insertAt xs p x).size=xs.size+1:=by
 unfold SetTable.insertAt
 simp
 omega
theorem Cn{α:Type}{xs:Array α}{p:Nat}{x e:α}(h:e∈(SetTable.insertAt xs p x).toList):e=x\/e∈xs.toList:=by
 unfold SetTable.insertAt at h
 simp only[Array.toList_append,Array.toList_push,Array.toList_extract,List.mem_append,List.mem_singleton]at h
 rcases h with(h | h) | h
 ·exact .inr (List.mem_of_mem_take (by simpa using h))
 ·exact .inl h
 ·exact .inr (List.mem_of_mem_drop (List.mem_of_mem_take h))
theorem yf:SetTable.sizeAbove 20-1=31:=by decide +kernel
theorem wH:SetTable.sizeAbove 76-1=127:=by decide +kernel
theorem xD:SetTable.sizeAbove 308-1=511:=by decide +kernel
end Tb
set_option Elab.async false
set_option linter.all false
set_option maxRecDepth 100000
set_option maxHeartbeats 4000000
namespace L2
open PySem PySem.Spec PyProof.Rows
section
variable {P:Program} {w:World} {A:Around} {E:Value->Shared->Prop} {s:Shared} {K:Type} [DecidableEq K] {knd:KeyKind P w K}
theorem nS{ks:List K}{vs:List Value}(h:ItemsAre knd ks vs):∀v∈vs,∀b,v≠.ref b:=fun v hv b e=>by
 have:=h.byValue v hv
 subst e
 cases this
theorem Bk(n:Nat){v:Value}(h:∀b,v≠.ref b):ofAClassStatement n v=pure false:=by
 cases v with
 | ref b=>exact absurd rfl (h b)
 | _=>unfold ofAClassStatement;rfl
theorem rg{ks:List K}{b:Addr}{Q:Bool->Shared->Prop}(hk:IsTupleKey knd s.heap ks b)(h:Q false s):wpAny (model P w) A (ofAClassStatement 8 (.ref b)) Q E s:=by
 have hT:=hk.typeIs
 obtain⟨o,items,n,ho,hc,hd,hi⟩:=hk
 unfold ofAClassStatement
 refine wpAny_bind (wpAny_typeOf hT ?_)
 dsimp only
 refine wpAny_bind (wpAny_pure ?_)
 simp only[Bool.not_true,Bool.false_eq_true,if_false]
 refine wpAny_bind (wpAny_seqItems ho hd ?_)
 dsimp only
 refine wpAny_bind ?_
 rw[←Array.forIn_toList]
 refine wpAny_forIn_list _ (fun rest r s'=>r.1=none/\s'=s/\∀v∈rest,∀b,v≠.ref b) _ ?_ ?_ _ _ ⟨rfl,rfl,nS hi⟩
 ·rintro v rest r s' ⟨hr,rfl,hall⟩
  rw[Bk _ (hall v List.mem_cons_self)]
  refine wpAny_bind (wpAny_pure ?_)
  simp only[Bool.false_eq_true,if_false]
  exact wpAny_pure ⟨rfl,rfl,fun u hu=>hall u (List.mem_cons_of_mem _ hu)⟩
 ·rintro⟨r1,r2⟩ s' ⟨hr,rfl,_⟩
  simp only at hr
  subst hr
  exact wpAny_pure h
theorem B9{ks:List K}{b:Addr}{l:List Value}{Q:Bool->Shared->Prop}(hk:IsTupleKey knd s.heap ks b)(hl:∀y∈l,∃b' k',y=.ref b'/\IsTupleKey knd s.heap k' b')(h:Q false s):wpAny (model P w) A (searchCouldBeSeen (.ref b) l) Q E s:=by
 unfold searchCouldBeSeen
 refine wpAny_bind ?_
 refine wpAny_forIn_list _ (fun rest r s'=>r.1=none/\s'=s/\∀y∈rest,∃b' k',y=.ref b'/\IsTupleKey knd s.heap k' b') _ ?_ ?_ _ _ ⟨rfl,rfl,hl⟩
 ·rintro v rest r s' ⟨hr,rfl,hall⟩
  obtain⟨b',k',rfl,hk'⟩:=hall v List.mem_cons_self
  have next:∀y∈rest,∃b' k',y=.ref b'/\IsTupleKey knd s'.heap k' b':=fun y hy=>hall y (List.mem_cons_of_mem _ hy)
  dsimp only
  split
  ·exact wpAny_pure ⟨rfl,rfl,next⟩
  ·refine wpAny_bind (wpAny_eqIsQuiet_tuple hk ?_)
   simp only[Bool.not_true,Bool.false_eq_true,if_false]
   refine wpAny_bind (wpAny_eqIsQuiet_tuple hk' ?_)
   simp only[Bool.not_true,Bool.false_eq_true,if_false]
   refine wpAny_bind (rg hk ?_)
   simp only[Bool.false_eq_true,if_false]
   refine wpAny_bind (rg hk' ?_)
   simp only[Bool.false_eq_true,if_false]
   exact wpAny_pure ⟨rfl,rfl,next⟩
 ·rintro⟨r1,r2⟩ s' ⟨hr,rfl,_⟩
  simp only at hr
  subst hr
  exact wpAny_pure h
theorem Ak{a b:Addr}{k:List K}{h:Int}{o:Obj}{es:Array (Int×Value)}{ep:Nat}{t:SetTable}(hu:A.units<cLine)(hk:IsTupleKey knd s.heap k b)(ho:s.heap.get? a=some o)(hd:o.data=.set es ep t)(hf:t.fits es.size=true)(hm:Tb.Mask t.mask)(hdm:t.dummies = #[])
  (hall:∀e∈es.toList,∃b' k',e.2=.ref b'/\IsTupleKey knd s.heap k' b'/\k'≠k) {Q:SetFound->Shared->Prop} (hQ:∀j,Q (.free j false) s) :
  ∀(K fuel:Nat) (stand:Option SetTable.Probe),K<fuel->K<10*SetTable.turns t.mask->(stand.getD (t.probeStart h)).dummy=none->t.slot (Tb.bX t K (stand.getD (t.probeStart h))).j=.empty →
   wpAny (model P w) A (setSearchFrom a (.ref b) h true fuel stand) Q E s:=by
 intro K
 induction K using Nat.strongRecOn with
 | ind K ih=>
  intro fuel stand hfu hK hdu hs
  obtain⟨f,rfl⟩:∃f,fuel=f+1:=⟨fuel-1,by omega⟩
  unfold setSearchFrom
  refine wpAny_bind (wpAny_setState_of ho hd hf ?_)
  dsimp only
  have hg:t.gaveWay=false:=by
   unfold SetTable.gaveWay
   rcases hm with e | e | e | e<;>rw[e]<;>rfl
  have hsz:t.place.size=es.size:=by
   simp only[SetTable.fits,Bool.and_eq_true,beq_iff_eq]at hf
   exact hf.1
  have hsm:t.sameMemory t.moves t.mask=some true:=by
   unfold SetTable.sameMemory
   rw[if_pos (beq_self_eq_true _)]
  rw[hg]
  simp only[Bool.false_eq_true,if_false]
  generalize hr:t.probe _ h (stand.getD (t.probeStart h))=r
  obtain⟨g,hr⟩:∃g,SetTable.probe.go t g h (10*SetTable.turns t.mask) (stand.getD (t.probeStart h))=r:=⟨_,hr⟩
  rcases Tb.Af hdm g h K _ _ hK hdu hs with⟨j,e⟩ | ⟨k',j,i,hk',e,hl⟩
  ·rw[e]at hr
   subst hr
   exact wpAny_pure (hQ j)
  ·rw[e]at hr
   subst hr
   have hpl:=Tb.vw hl
   have hi:i<es.size:=by
    rw[←hsz]
    exact(Array.getElem?_eq_some_iff.mp hpl).1
   have hmem:es[i]∈es.toList:=by simp
   obtain⟨b',k2,hy,hk2,hne⟩:=hall _ hmem
   have hes:es[i]?=some (es[i].1,.ref b'):=by
    rw[Array.getElem?_eq_getElem hi,←hy]
   have hst:∀y∈((es.filter fun x=>x.1 == h).toList.map fun x=>x.2),∃b' k',y=Value.ref b'/\IsTupleKey knd s.heap k' b':=fun y hy=>by
    obtain⟨e0,he0,rfl⟩:=List.mem_map.mp hy
    have he1:e0∈es.toList:=by
     have:=Array.mem_toList_iff.mp he0
     exact Array.mem_toList_iff.mpr (Array.mem_filter.mp this).1
    obtain⟨b3,k3,h1,h2,_⟩:=hall e0 he1
    exact⟨b3,k3,h1,h2⟩
   have again:wpAny (model P w) A (setSearchFrom a (.ref b) h true f (some (Tb.bX t (k'+1) (stand.getD (t.probeStart h))))) Q E s:=by
    refine ih (K-(k'+1)) (by omega) f _ (by omega) (by omega) ?_ ?_
    ·show(Tb.bX t (k'+1) _).dummy=none
     rw[Tb.lr]
     exact hdu
    ·show t.slot (Tb.bX t (K-(k'+1)) (Tb.bX t (k'+1) _)).j=_
     rw[←Tb.lq,show k'+1+(K-(k'+1))=K by omega]
     exact hs
   have same:isSame (Value.ref b') (Value.ref b')=pure true:=by
    unfold isSame
    simp
   dsimp only
   cases hled:t.led
   ·simp only[Bool.not_false,if_true]
    refine wpAny_bind (B9 hk hst ?_)
    simp only[Bool.false_eq_true,if_false]
    rw[hes]
    dsimp only
    refine wpAny_bind (wpAny_holding (wpAny_eqBool_tuple hu hk2 hk ?_))
    rw[decide_eq_false hne]
    refine wpAny_bind (wpAny_setState_of ho hd hf ?_)
    dsimp only
    simp only[Bool.and_false,Bool.false_eq_true,if_false,hsm,if_true,hl,hes,same]
    exact wpAny_bind (wpAny_pure (wpAny_bind (wpAny_pure again)))
   ·simp only[Bool.not_true,Bool.false_eq_true,if_false]
    rw[hes]
    dsimp only
    refine wpAny_bind (wpAny_holding (wpAny_eqBool_tuple hu hk2 hk ?_))
    rw[decide_eq_false hne]
    refine wpAny_bind (wpAny_setState_of ho hd hf ?_)
    dsimp only
    simp only[Bool.and_false,Bool.false_eq_true,if_false,hsm,if_true,hl,hes,same]
    exact wpAny_bind (wpAny_pure (wpAny_bind (wpAny_pure again)))
def dS(knd:KeyKind P w K)(h:Heap)(a:Addr)(ks:List (List K)):Prop:=
 ∃o es ep t,h.get? a=some o/\o.ExactSet/\o.data=.set es ep t/\t.place.size=es.size/\t.dummies = #[]/\Tb.Mask t.mask/\es.size*5<t.mask*3/\es.size=ks.length/\∀e∈es.toList,∃b k,e.2=.ref b/\k∈ks/\IsTupleKey knd h k b
theorem md{h h':Heap}{a b:Addr}{k:List K}{o:Obj}{es:Array (Int×Value)}{ep:Nat}{t:SetTable}(hk:IsTupleKey knd h k b)(ho:h.get? a=some o)(hd:o.data=.set es ep t)(hs:Heap.SameBut a h h'):IsTupleKey knd h' k b:=by
 obtain⟨o',items,n,ho',hc,hd',hi⟩:=hk
 have hne:b≠a:=by
  rintro rfl
  rw[ho]at ho'
  cases ho'
  rw[hd]at hd'
  cases hd'
 exact⟨o',items,n,(hs.2 b hne).trans ho',hc,hd',hi⟩
theorem vQ(n:Nat){v:Value}(h:∀b,v≠.ref b):∃c,hashByValue n v=pure c:=by
 cases v with
 | ref b=>exact absurd rfl (h b)
 | _=>exact⟨_,by cases n<;>unfold hashByValue<;>rfl⟩
theorem xX{ks:List K}{b:Addr}{Q:Bool->Shared->Prop}(hk:IsTupleKey knd s.heap ks b)(h:∀c,Q c s):wpAny (model P w) A (hashByValue 8 (.ref b)) Q E s:=by
 have hT:=hk.typeIs
 obtain⟨o,items,n,ho,hc,hd,hi⟩:=hk
 unfold hashByValue
 refine wpAny_bind (wpAny_specialOf hT F.slot_tuple_hash.lookup ?_)
 dsimp only
 refine wpAny_bind (wpAny_seqItems ho hd ?_)
 dsimp only[Option.getD_some]
 refine wpAny_bind ?_
 rw[←Array.forIn_toList]
 refine wpAny_forIn_list _ (fun rest r s'=>(r.1=none\/∃c,r.1=some c)/\s'=s/\∀v∈rest,∀b,v≠.ref b) _ ?_ ?_ _ _ ⟨.inl rfl,rfl,nS hi⟩
 ·rintro v rest r s' ⟨hr,rfl,hall⟩
  obtain⟨c,hc'⟩:=vQ 7 (hall v List.mem_cons_self)
  rw[hc']
  refine wpAny_bind (wpAny_pure ?_)
  cases c
  ·show wpAny _ _ (pure (ForInStep.done (some false,()))) _ _ _
   exact wpAny_pure (wpAny_pure (h false))
  ·simp only[Bool.not_true,Bool.false_eq_true,if_false]
   exact wpAny_pure ⟨.inl rfl,rfl,fun u hu=>hall u (List.mem_cons_of_mem _ hu)⟩
 ·rintro⟨r1,r2⟩ s' ⟨hr,rfl,_⟩
  simp only at hr
  rcases hr with rfl | ⟨c,rfl⟩
  ·exact wpAny_pure (h true)
  ·exact wpAny_pure (h c)
theorem xc{α:Type}{es:Array α}{order:Array Nat}(h:order.toList.Perm (List.range es.size)):(order.filterMap (es[·]?)).size=es.size/\∀e∈(order.filterMap (es[·]?)).toList,e∈es.toList:=by
 have key:∀l:List Nat,(∀i∈l,i<es.size)->(l.filterMap (es[·]?)).length=l.length/\∀e∈l.filterMap (es[·]?),e∈es.toList:=by
  intro l
  induction l with
  | nil=>intro _;exact⟨rfl,fun e he=>by cases he⟩
  | cons x l ih=>
   intro hl
   obtain⟨i1,i2⟩:=ih fun i hi=>hl i (List.mem_cons_of_mem _ hi)
   have hx:=hl x List.mem_cons_self
   have e:(x::l).filterMap (es[·]?)=es[x]::l.filterMap (es[·]?):=by
    rw[List.filterMap_cons]
    simp[hx]
   rw[e]
   refine⟨by rw[List.length_cons,List.length_cons,i1],fun y hy=>?_⟩
   rcases List.mem_cons.mp hy with rfl | hy
   ·simp
   ·exact i2 y hy
 have hlt:∀i∈order.toList,i<es.size:=fun i hi=>List.mem_range.mp (h.mem_iff.mp hi)
 obtain⟨k1,k2⟩:=key order.toList hlt
 rw[Array.toList_filterMap]
 refine⟨?_,k2⟩
 rw[←Array.length_toList,Array.toList_filterMap,k1,h.length_eq,List.length_range]
theorem yo{a:Addr}{o:Obj}{es es1:Array (Int×Value)}{ep n:Nat}{t t1:SetTable}{ks1:List (List K)}{Q:Bool->Shared->Prop}(ho:s.heap.get? a=some o)(hex:o.ExactSet)(hd:o.data=.set es ep t)(hs1:es1.size=n+1)(hp1:t1.place.size=es1.size)(hdm1:t1.dummies = #[])
  (hm1:Tb.Mask t1.mask) (hfull:n*5<t1.mask*3) (hn:n<200) (hlen:ks1.length=n+1) (hall1:∀e∈es1.toList,∃b k,e.2=.ref b/\k∈ks1/\IsTupleKey knd s.heap k b)
  (h:∀h',Heap.SameBut a s.heap h'->dS knd h' a ks1->Q true { s with heap:=h' }) :
  wpAny (model P w) A (do
   storeSet a es1 t1
   if(!false && t1.tooFull)=true then do
    setRelay a (SetTable.grown (n+1))
    pure true
   else pure true) Q E s:=by
 have hline:n+1<=sizeLine:=Nat.le_trans (show n+1<=1000 by omega) (by decide)
 refine wpAny_bind (wpAny_storeSet_of ho hd ?_ (by omega))
 have ho1:(s.heap.update a (Obj.putSet es1 t1)).get? a=some { o with data:=.set es1 (ep+1) t1 }:=by
  have:=Heap.get?_update_self (Obj.putSet es1 t1) ho (by rw[putSet_of es1 t1 hd];rfl)
  rw[putSet_of es1 t1 hd]at this
  exact this
 have hsb1:=Heap.SameBut.update s.heap a (Obj.putSet es1 t1)
 generalize s.heap.update a (Obj.putSet es1 t1)=h1 at ho1 hsb1
 have hall2:∀e∈es1.toList,∃b k,e.2=.ref b/\k∈ks1/\IsTupleKey knd h1 k b:=fun e he=>by
  obtain⟨b,k,z1,z2,z3⟩:=hall1 e he
  exact⟨b,k,z1,z2,md z3 ho hd hsb1⟩
 have hfill:t1.fill=n+1:=by
  unfold SetTable.fill
  rw[hdm1,hp1,hs1]
  rfl
 by_cases hq:t1.tooFull=true
 ·rw[hq]
  simp only[Bool.not_false,Bool.and_self,if_true]
  have hq':t1.mask*3<=(n+1)*5:=by
   unfold SetTable.tooFull at hq
   rw[hfill]at hq
   simpa using hq
  obtain⟨m,hm,hw,hmn,hlt⟩:∃m,Tb.Mask m/\SetTable.sizeAbove (SetTable.grown (n+1))-1=m/\n+1<=m/\(n+1)*5<m*3/\SetTable.sizeAbove (SetTable.grown (n+1))<=sizeLine:=by
   have hg:SetTable.grown (n+1)=(n+1)*4:=by
    unfold SetTable.grown
    rw[if_neg (by omega)]
   rw[hg]
   rcases hm1 with e | e | e | e<;>rw[e]at hfull hq'
   ·obtain rfl:n=4:=by omega
    exact⟨31,.inr (.inl rfl),Tb.yf,by omega,by omega,by decide +kernel⟩
   ·obtain rfl:n=18:=by omega
    exact⟨127,.inr (.inr (.inl rfl)),Tb.wH,by omega,by omega,by decide +kernel⟩
   ·obtain rfl:n=76:=by omega
    exact⟨511,.inr (.inr (.inr rfl)),Tb.xD,by omega,by omega,by decide +kernel⟩
   ·omega
  have hfit1:t1.fits es1.size=true:=by
   simp only[SetTable.fits,Bool.and_eq_true,beq_iff_eq,decide_eq_true_eq]
   refine⟨hp1,?_⟩
   rw[hfill]
   rcases hm1 with e | e | e | e<;>omega
  obtain⟨t2,order,hrel,hp2,hd2,hm2,hperm⟩:=Tb.y7 t1 (hashes:=es1.map (·.1)) hm hw (by rw[Array.size_map];omega)
  rw[Array.size_map]at hp2 hperm
  obtain⟨r1,r2⟩:=xc hperm
  refine wpAny_bind ?_
  unfold setRelay
  refine wpAny_bind (wpAny_setState_of (s:={ s with heap:=h1 }) ho1 rfl hfit1 ?_)
  dsimp only
  rw[if_neg (Nat.not_lt.mpr hlt.2),hrel]
  refine wpAny_bind ?_
  show wpAny _ _ (do
   if(order.filterMap (es1[·]?)).size != es1.size then unsupported "internal:set-table-lost-an-element"
   pure (order.filterMap (es1[·]?),t2)) _ _ _
  rw[r1]
  simp only[bne_self_eq_false,Bool.false_eq_true,if_false]
  refine wpAny_pure ?_
  dsimp only
  refine wpAny_storeSet_of (s:={ s with heap:=h1 }) ho1 rfl ?_ (by rw[r1];omega)
  have ho2:(h1.update a (Obj.putSet (order.filterMap (es1[·]?)) t2)).get? a=some { o with data:=.set (order.filterMap (es1[·]?)) (ep+1+1) t2 }:=by
   have:=Heap.get?_update_self (Obj.putSet (order.filterMap (es1[·]?)) t2) ho1 (by rw[putSet_of _ _ (o:={ o with data:=.set es1 (ep+1) t1 }) rfl];rfl)
   rw[putSet_of _ _ (o:={ o with data:=.set es1 (ep+1) t1 }) rfl]at this
   exact this
  have hsb2:=Heap.SameBut.update h1 a (Obj.putSet (order.filterMap (es1[·]?)) t2)
  refine wpAny_pure (h _ (hsb1.trans hsb2) ⟨_,_,_,t2,ho2,hex,rfl,by rw[r1];exact hp2,hd2,by rw[hm2];exact hm,by rw[r1,hm2,hs1];exact hlt.1,by rw[r1,hs1,hlen],fun e he=>?_⟩)
  obtain⟨b,k,z1,z2,z3⟩:=hall2 e (r2 e he)
  exact⟨b,k,z1,z2,md z3 ho1 rfl hsb2⟩
 ·have hq0:t1.tooFull=false:=by simpa using hq
  rw[hq0]
  simp only[Bool.and_false,Bool.false_eq_true,if_false]
  have hq':(n+1)*5<t1.mask*3:=by
   unfold SetTable.tooFull at hq0
   rw[hfill]at hq0
   simpa using hq0
  exact wpAny_pure (h h1 hsb1 ⟨_,es1,_,t1,ho1,hex,rfl,hp1,hdm1,hm1,by rw[hs1];exact hq',by rw[hs1,hlen],hall2⟩)
theorem Al{a b:Addr}{k:List K}{ks:List (List K)}{hsh:Int}{Q:Bool->Shared->Prop}(hu:A.units<cLine)(hk:IsTupleKey knd s.heap k b)(hS:dS knd s.heap a ks)(hnew:k∉ks)(hsz:ks.length<200)
  (h:∀h',Heap.SameBut a s.heap h'->dS knd h' a (k::ks)->Q true { s with heap:=h' }):wpAny (model P w) A (setAddHashed a (.ref b) hsh) Q E s:=by
 obtain⟨o,es,ep,t,ho,hex,hd,hp,hdm,hm,hfull,hlen,hall⟩:=hS
 have hle:es.size<=t.mask:=by omega
 have hf:t.fits es.size=true:=by
  simp only[SetTable.fits,Bool.and_eq_true,beq_iff_eq,decide_eq_true_eq]
  refine⟨hp,?_⟩
  unfold SetTable.fill
  rw[hdm,hp]
  simpa using hle
 obtain⟨j0,hj0,hs0⟩:=Tb.wC hdm (by rw[hp];exact hle)
 obtain⟨N,hN,eN⟩:=Tb.ya hm hj0 hsh
 have hall':∀e∈es.toList,∃b' k',e.2=.ref b'/\IsTupleKey knd s.heap k' b'/\k'≠k:=fun e he=>by
  obtain⟨b',k',h1,h2,h3⟩:=hall e he
  exact⟨b',k',h1,h3,fun z=>hnew (z ▸ h2)⟩
 unfold setAddHashed setAddHashedIn
 refine wpAny_holding (wpAny_bind (wpAny_setState_of ho hd hf ?_))
 dsimp only
 have hsc:byScan (.ref b) es=false:=rfl
 rw[hsc]
 simp only[Bool.false_eq_true,if_false]
 unfold setSearch
 have hturn:10*SetTable.turns t.mask<100000:=by
  unfold SetTable.turns
  rcases hm with e | e | e | e<;>rw[e]<;>decide
 refine wpAny_bind (Ak hu hk ho hd hf hm hdm hall' (fun j=>?_) N 100000 none (by omega) hN rfl (by show t.slot (Tb.bX t N (t.probeStart hsh)).j=_;rw[eN];exact hs0))
 dsimp only
 refine wpAny_bind (wpAny_setState_of ho hd hf ?_)
 dsimp only
 have hput:(t.put j).1.place.size=es.size+1/\(t.put j).1.dummies = #[]/\(t.put j).1.mask=t.mask:=by
  refine⟨?_,?_,rfl⟩
  ·show(SetTable.insertAt t.place (SetTable.below t.place j) j).size=_
   rw[Tb.lP,hp]
  ·show(if SetTable.has t.dummies j=true then _ else t.dummies) = #[]
   rw[hdm,Tb.rE]
   rfl
 have hins:∀e∈(SetTable.insertAt es (t.put j).2 (hsh,Value.ref b)).toList,∃b' k',e.2=.ref b'/\k'∈k::ks/\IsTupleKey knd s.heap k' b':=fun e he=>by
  rcases Tb.Cn he with rfl | he
  ·exact⟨b,k,rfl,List.mem_cons_self,hk⟩
  ·obtain⟨b',k',z1,z2,z3⟩:=hall e he
   exact⟨b',k',z1,List.mem_cons_of_mem _ z2,z3⟩
 have fin:∀c:Bool,wpAny (model P w) A (do
   storeSet a (SetTable.insertAt es (t.put j).2 (hsh,Value.ref b)) (if c=true then(t.put j).1 else{ (t.put j).1 with plain:=false })
   if(!false && (if c=true then(t.put j).1 else{ (t.put j).1 with plain:=false }).tooFull)=true then do
    setRelay a (SetTable.grown (es.size+1))
    pure true
   else pure true) Q E s:=fun c=>by
  refine yo (ks1:=k::ks) ho hex hd (Tb.lP _ _ _) ?_ ?_ ?_ ?_ (by omega) (by rw[List.length_cons,hlen]) hins h
  ·rw[Tb.lP]
   cases c<;>exact hput.1
  ·cases c<;>exact hput.2.1
  ·cases c<;>exact hm
  ·cases c<;>exact hfull
 cases hpl:(t.put j).1.plain
 ·simp only[Bool.false_eq_true,if_false]
  exact wpAny_bind (wpAny_pure (fin true))
 ·simp only[if_true]
  exact wpAny_bind (xX hk fin)
end
section
variable {P:Program} {w:World} {A:Around} {K:Type} [DecidableEq K] {knd:KeyKind P w K} {I:Addr} {fp wr:List Addr} {G:Array GenState->Array GenState->Prop} {n:Nat} {Pz:Nat->Value->Prop} {St:Nat->Shared->Prop}
theorem dS.moved{h h':Heap}{a:Addr}{ks:List (List K)}{wr:List Addr}(hS:dS knd h a ks)(hk:∀b o,b∉wr->h.get? b=some o->h'.get? b=some o)(ha:a∉wr)(hw:∀b∈wr,∀o,h.get? b=some o->∃vs,o.data=.fields vs):dS knd h' a ks:=by
 obtain⟨o,es,ep,t,ho,hex,hd,h1,h2,h3,h4,h5,hall⟩:=hS
 refine⟨o,es,ep,t,hk a o ha ho,hex,hd,h1,h2,h3,h4,h5,fun e he=>?_⟩
 obtain⟨b,k,z1,z2,o',items,m,ho',hc,hd',hi⟩:=hall e he
 refine⟨b,k,z1,z2,o',items,m,hk b o' (fun hb=>?_) ho',hc,hd',hi⟩
 obtain⟨vs,hv⟩:=hw b hb o' ho'
 rw[hd']at hv
 cases hv
theorem wa(W:WalksS P w A.in1 I fp wr G n Pz St)(S:Addr)(hS:S∉fp)(hu:A.in1.units<cLine)(bs:List Addr)(kk:List (List K))(hnk:kk.length=n)(hnd:kk.Nodup)(hsz:n<200)
  (hval:∀i v,Pz i v->∃b,v=.ref b/\bs[i]?=some b) (hwr:∀i s,St i s->∀b∈wr,∀o,s.heap.get? b=some o->∃vs,o.data=.fields vs) {R:Result->Shared->Prop} :
  ∀(m i:Nat) (s:Shared),n-i=m->i<=n->St i s->dS knd s.heap S (kk.take i).reverse->(∀(j:Nat) (b:Addr) (k:List K),bs[j]?=some b->kk[j]?=some k->IsTupleKey knd s.heap k b) →
   (∀s',Moved (S::wr) G s s'->dS knd s'.heap S kk.reverse->R (.ok (.ret .none)) s') →
   codeAny (model P w) A (.builtin "set.update.loop" ⟨[.ref S,.ref I],[]⟩) R s:=by
 have hSw:S∉wr:=fun z=>hS (W.sub _ z)
 have more:∀b∈wr,b∈S::wr:=fun b z=>List.mem_cons_of_mem _ z
 intro m
 induction m with
 | zero=>
  intro i s hm hi hst hset hkeys hR
  obtain rfl:i=n:=by omega
  refine codeAny_builtin F.entry_set_update_loop ?_
  rw[Around.under_plainId F.plain_set_update_loop _]
  show wpAny _ A.in1 (pyNext (.ref I) >>= _) _ _ s
  refine wpAny_bind (W.done s _ _ hst fun s' mv=>?_)
  rw[←hnk,List.take_length]at hset
  exact wpAny_pure (hR s' (mv.mono more) (hset.moved mv.heap hSw (hwr _ s hst)))
 | succ m ih=>
  intro i s hm hi hst hset hkeys hR
  have hlt:i<n:=by omega
  refine codeAny_builtin F.entry_set_update_loop ?_
  rw[Around.under_plainId F.plain_set_update_loop _]
  show wpAny _ A.in1 (pyNext (.ref I) >>= _) _ _ s
  refine wpAny_bind (W.item i s _ _ hlt hst fun v s' hP hst' mv=>?_)
  obtain⟨b,rfl,hb⟩:=hval i v hP
  have hki:kk[i]?=some kk[i]:=List.getElem?_eq_getElem (by omega)
  have hset':=hset.moved mv.heap hSw (hwr _ s hst)
  have hkeys':∀(j:Nat) (b:Addr) (k:List K),bs[j]?=some b->kk[j]?=some k->IsTupleKey knd s'.heap k b:=fun j b k e1 e2=>by
   obtain⟨o',items,q,ho',hc,hd',hi'⟩:=hkeys j b k e1 e2
   refine⟨o',items,q,mv.heap b o' (fun hbw=>?_) ho',hc,hd',hi'⟩
   obtain⟨vs,hv⟩:=hwr _ s hst b hbw o' ho'
   rw[hd']at hv
   cases hv
  show wpAny _ A.in1 (holding [Value.ref b] (setAdd S (.ref b)) >>= _) _ _ s'
  refine wpAny_bind (wpAny_holding ?_)
  unfold setAdd
  refine wpAny_holding (wpAny_bind (wpAny_pyHash_tuple hu (hkeys' i b _ hb hki) ?_))
  have hnew:kk[i]∉(kk.take i).reverse:=by
   rw[List.mem_reverse]
   intro z
   obtain⟨q,hq,e⟩:=List.mem_iff_getElem.mp z
   rw[List.length_take]at hq
   rw[List.getElem_take]at e
   have:=(List.getElem_inj hnd).mp e
   omega
  have htk:(kk.take (i+1)).reverse=kk[i]::(kk.take i).reverse:=by
   rw[List.take_add_one,hki,List.reverse_append]
   rfl
  refine Al (s:={ s' with toks:=s'.toks+(kk[i].length+1) }) hu (hkeys' i b _ hb hki) hset' hnew (by rw[List.length_reverse,List.length_take];omega) fun h' sb hset2=>?_
  obtain⟨oS,esS,epS,tS,hoS,_,hdS,_⟩:=id hset'
  refine wpAny_pure ⟨plainId_quiet F.plain_set_update_loop _,ih (i+1) _ (by omega) hlt (W.frame _ s' _ _ hst' (Nat.le_add_right _ _) fun c hc o e=>?_) (by rw[htk];exact hset2) (fun j c k e1 e2=>md (hkeys' j c k e1 e2) hoS hdS sb) fun s'' mv2 hS2=>?_⟩
  ·rw[sb.2 c (fun z:c=S=>hS (z ▸ hc))]
   exact e
  ·refine hR s'' (Moved.trans W.gtrans ((mv.mono more).then_heap (Nat.le_add_right _ _) fun c o hc e=>?_) mv2) hS2
   rw[sb.2 c (fun z:c=S=>hc (by rw[z];exact List.mem_cons_self))]
   exact e
end
end L2
set_option Elab.async false
set_option linter.all false
set_option maxRecDepth 100000
set_option maxHeartbeats 4000000
namespace L2
open PySem PySem.Spec PyProof.Rows
section
variable {P:Program} {w:World} {A:Around} {E:Value->Shared->Prop} {s:Shared} {K:Type} [DecidableEq K] {knd:KeyKind P w K}
abbrev bV(led:Bool):Obj:={ cls:=.type "set",dict:=none,data:=.set #[] 0 (.fresh 0 0 led) }
def rQ(knd:KeyKind P w K)(s:Shared)(kk:List (List K))(h':Heap):Prop:=
 dS knd h' s.heap.objs.size kk.reverse/\∀b o,b<s.heap.objs.size->s.heap.get? b=some o->h'.get? b=some o
theorem xW:isSubtype (.type "tuple") (.type "frozenset")=pure false:=by
 rw[isSubtype_type]
 kernel_rfl
theorem ze{t:Addr}{ys:Array Value}{bs:List Addr}{kk:List (List K)}{Q:Value->Shared->Prop}(hA:A.handled=none)(hu:A.units+5<cLine)(gt:s.heap.IsTuple t ys)(hb:ys.toList=bs.map Value.ref)
  (hn:kk.length=ys.size) (hnd:kk.Nodup) (hz:ys.size<200) (hkey:∀(j:Nat) (b:Addr) (k:List K),bs[j]?=some b->kk[j]?=some k->IsTupleKey knd s.heap k b)
  (h:∀(h':Heap) (tk:Nat),rQ knd s kk h'->Q (.ref s.heap.objs.size) { s with heap:=h',toks:=tk }):wpAny (model P w) A (call (.type "set") [.ref t]) Q E s:=by
 have x1:=F.called_set.notType
 have x2:=F.called_set.canCreate
 have x3:=F.typeCall_set_1 (.ref t)
 have x4:=F.called_set.made
 have x5:=F.called_set.sub
 obtain⟨c,tl,x6⟩:=F.called_set.mro
 refine wpAny_call (codeAny_of_tree ?_)
 show wpAny _ _ (callAny (.type "set") _) _ _ _
 refine wpAny_pure ⟨Code.quiet_builtin _ (by decide +kernel),codeAny_builtin F.entry_type_call ?_⟩
 rw[Around.under_plain (weight_type_call_type "set" [.ref t] []) rfl]
 repeat (any_goals (first | assumption | wp_step))
 refine codeAny_mono (code_set_new_1 (.ref t) (E:=E) (Q₁:=fun v s1=>∃led,v=.ref s.heap.objs.size/\s1={ s with heap:=s.heap.push (bV led) }) fun led=>⟨led,rfl,rfl⟩) fun r s1 hr=>?_
 cases r with
 | error e=>exact hr
 | ok fl=>
  cases fl with
  | ret v=>
   obtain⟨led,rfl,rfl⟩:=hr
   have gS:(s.heap.push (bV led)).get? s.heap.objs.size=some (bV led):=Heap.get?_push_size _ rfl
   have hT:Shared.TypeIs { s with heap:=s.heap.push (bV led) } (.ref s.heap.objs.size) "set":=⟨_,gS,rfl⟩
   have x7:=F.called_set.init.lookup
   have x8:=F.called_set.init.bind (.ref s.heap.objs.size)
   repeat (any_goals (first | assumption | wp_step))
   refine codeAny_mono (codeAny_call_builtin (R:=wants (fun r s2=>r=.none/\∃h' tk,s2={ s with heap:=h',toks:=tk }/\rQ knd s kk h') E) F.called_set.init.plain F.entry_set_init (check_set_init_1 hT ?_)) fun r2 s2 hr2=>?_
   ·have g1:(s.heap.push (bV led)).IsTuple t ys:=gt.push _
    have hlt:t<s.heap.objs.size:=by
     obtain⟨o,ho,_⟩:=gt
     exact Heap.lt_size ho
    obtain⟨ol,hol,hcl,nl,hdl⟩:=id g1
    obtain⟨c0,d0,dt,sl⟩:=ol
    simp only at hcl hdl
    subst hcl hdl
    have y1:=F.sub_tuple_set
    have y2:=xW
    have y3:(Value.type "tuple" == Value.type "dict")=false:=by decide
    unfold Builtin.«set.__init__» noKeywords Builtin.Frozenset.updateFrom
    generalize hit:pyIter=PI
    wp_walk
    subst hit
    refine wpAny_pyIter_tuple g1 ?_
    refine wpAny_bind (wpAny_runValue ?_)
    have e1:(s.heap.push (bV led)).objs.size=s.heap.objs.size+1:=Heap.size_push _ _
    have hA3:A.in1.in1.in1.handled=none:=by simp[hA]
    have hne:t≠(s.heap.push (bV led)).objs.size:=by
     rw[e1]
     exact Nat.ne_of_lt (Nat.lt_succ_of_lt hlt)
    have hSf:s.heap.objs.size∉[(s.heap.push (bV led)).objs.size,t]:=by
     intro z
     rcases List.mem_cons.mp z with z | z
     ·rw[e1]at z
      exact Nat.ne_of_lt (Nat.lt_succ_self _) z
     ·exact Nat.ne_of_gt hlt (List.mem_singleton.mp z)
    have hbs:∀i:Nat,ys[i]?=(bs[i]?).map Value.ref:=fun i=>by
     rw[←Array.getElem?_toList,hb,List.getElem?_map]
    refine wa (knd:=knd) ((Walks.tuple hA3 _ t hne ys).toS) s.heap.objs.size hSf (by simp only[Around.in1_units];omega) bs kk hn hnd hz (fun i v hv=>?_) (fun i s' hs b hb' o ho=>?_) (ys.size-0) 0 _ (by omega) (Nat.zero_le _) ⟨⟨_,Heap.get?_push_size _ rfl,rfl,rfl⟩,g1.push _⟩ ⟨bV led,#[],0,_,Heap.get?_push_of_some _ gS,⟨rfl,rfl,rfl⟩,rfl,rfl,rfl,  .inl rfl,(show 0*5<7*3 by decide),rfl,fun e he=>by simp at he⟩ (fun j b k e1 e2=>?_) fun s' mv hS'=>?_
    ·have hv':ys[i]?=some v:=hv
     rw[hbs i]at hv'
     obtain⟨b,e,rfl⟩:=Option.map_eq_some_iff.mp hv'
     exact⟨b,rfl,e⟩
    ·cases List.mem_singleton.mp hb'
     obtain⟨o',ho',_,hd'⟩:=hs.1
     rw[ho']at ho
     cases ho
     exact⟨_,hd'⟩
    ·obtain⟨o,items,q,ho,r⟩:=hkey j b k e1 e2
     exact⟨o,items,q,Heap.get?_push_of_some _ (Heap.get?_push_of_some _ ho),r⟩
    ·obtain⟨h',g',d',tk',os'⟩:=s'
     have q1:g'=s.gens:=mv.gens
     have q2:d'=s.drawn:=mv.drawn
     have q3:os'=s.os:=mv.os
     subst q1 q2 q3
     show wpAny _ _ _ _ _ _
     refine wpAny_pure ?_
     show wpAny _ _ (ret Value.none) _ _ _
     refine wpAny_pure ⟨rfl,h',tk',rfl,hS',fun b o hb e=>mv.heap b o (fun z=>?_) (Heap.get?_push_of_some _ (Heap.get?_push_of_some _ e))⟩
     rcases List.mem_cons.mp z with z | z
     ·exact Nat.ne_of_lt hb z
     ·have z:=List.mem_singleton.mp z
      rw[e1]at z
      exact Nat.ne_of_lt (Nat.lt_succ_of_lt hb) z
   ·cases r2 with
    | error e=>exact hr2
    | ok f2=>
     cases f2 with
     | ret r=>
      obtain⟨rfl,h',tk,rfl,hS'⟩:=hr2
      repeat (any_goals (first | assumption | wp_step))
      exact h _ _ hS'
     | _=>exact hr2.elim
  | _=>exact hr.elim
end
end L2
set_option Elab.async false
set_option linter.all false
set_option maxRecDepth 100000
set_option maxHeartbeats 4000000
namespace L2
open PySem PySem.Spec PyProof.Rows
def gF(a:Addr)(n:Nat):HO:=.ext fun h=>∃o es ep t,h.get? a=some o/\o.ExactSet/\o.data=.set es ep t/\t.fits es.size=true/\es.size=n
theorem zp{P:Program}{w:World}{H:Hp}{h:Heap}{a:Addr}{ks:List (List Key)}(S:dS (bW P w) h a ks):bA P w H h a (gF a ks.length):=by
 obtain⟨o,es,ep,t,ho,hex,hd,hp,hdm,hm,hfull,hlen,_⟩:=S
 refine⟨⟨o,es,ep,t,ho,hex,hd,?_,hlen⟩,⟨o,ho⟩,fun h1 h2 z k=>?_⟩
 ·simp only[SetTable.fits,Bool.and_eq_true,beq_iff_eq,decide_eq_true_eq]
  refine⟨hp,?_⟩
  unfold SetTable.fill
  rw[hdm,hp]
  have:es.size<=t.mask:=by omega
  simpa using this
 ·obtain⟨o',es',ep',t',ho',r⟩:=z
  exact⟨o',es',ep',t',k _ ho',r⟩
def bB(H:Hp)(p:Addr)(kk:List (List Key)):Prop:=∃bs:List Addr,H p=some (.tup (bs.map V.ref))/\bs.length=kk.length/\∀(j:Nat) (b:Addr) (k:List Key),bs[j]?=some b->kk[j]?=some k->H b=some (.tup (k.map kV))
theorem bB.ext{H H':Hp}{p:Addr}{kk:List (List Key)}(e:Ext H H')(h:bB H p kk):bB H' p kk:=by
 obtain⟨bs,h1,h2,h3⟩:=h
 exact⟨bs,e _ _ h1,h2,fun j b k e1 e2=>e _ _ (h3 j b k e1 e2)⟩
theorem uj:∀{bs:List Addr} {us:List Value},Vals (bs.map V.ref) us->us=bs.map Value.ref
 | [],_,.nil=>rfl
 | b::bs,_,.cons r t=>by
  rw[List.map_cons,←uj (bs:=bs) t]
  exact congrArg (· :: _) r
section
variable {X:Cx}
def n5:List V->Hp->VK->Prop:=fun xs H Q=>∃p kk,xs=[.ref p]/\bB H p kk/\kk.Nodup/\kk.length<200/\∀l,H l=none->Q (.ref l) (upd H l (gF l kk.length))
theorem xt{k:Nat}(hr:Room k X.A):bL X (.type "set") n5:=by
 intro pins s σ H xs us Q I r h
 obtain⟨p,kk,rfl,⟨bs,h1,h2,h3⟩,hnd,hz,q⟩:=h
 obtain⟨u,rfl,rx⟩:=vals1 r
 cases rx
 obtain⟨_,its,rv,gt⟩:=I.hok p _ h1
 have ei:=uj rv
 subst ei
 have hu:=hr.units
 have hA:=hr.hd
 refine ze (knd:=bW X.prog X.w) (kk:=kk) (bs:=bs) hA (by omega) (show s.heap.IsTuple p _ from gt) rfl (by simp[h2]) hnd (by simp[h2];exact hz) (fun j b k e1 e2=>?_) fun h' tk hm=>?_
 ·obtain⟨_,is,rk,o,ho,hc,n,hd⟩:=I.hok b _ (h3 j b k e1 e2)
  exact⟨o,_,n,ho,hc,hd,ma rk⟩
 ·have hok:=zp (H:=upd H s.heap.objs.size (gF s.heap.objs.size kk.length)) hm.1
  rw[List.length_reverse]at hok
  exact⟨.ref s.heap.objs.size,_,I.laid (t':=tk) (fun b o e=>hm.2 b o (Heap.lt_size e) e) (Nat.le_refl _) hok,rfl,q _ (I.hok.fresh (Nat.le_refl _))⟩
def qQ:List V->Hp->VK->Prop:=fun xs H Q=>∃p n,xs=[.ref p]/\H p=some (gF p n)/\n<200/\Q (.int n) H
theorem Bc:bL X (.builtin "len") qQ:=by
 intro pins s σ H xs us Q I r h
 obtain⟨p,n,rfl,hp,hn,q⟩:=h
 obtain⟨u,rfl,rx⟩:=vals1 r
 cases rx
 obtain⟨⟨o,es,ep,t,ho,hex,hd,hf,hs⟩,_⟩:=I.hok p _ hp
 refine call_len_set ho hex hd hf (by omega) ⟨.int n,H,I.tok _,⟨s.toks+1,by rw[hs]⟩,q⟩
theorem wN{H:Hp}{Q:VK}{p:Addr}{kk:List (List Key)}(h:bB H p kk)(hnd:kk.Nodup)(hz:kk.length<200)(q:∀l H',Ext H H'->H' l=some (gF l kk.length)->Q (.ref l) H'):n5 [.ref p] H Q:=
 ⟨p,kk,rfl,h,hnd,hz,fun l hl=>q l _ (aX hl) aI⟩
theorem vL{H:Hp}{Q:VK}{p:Addr}{n:Nat}(h:H p=some (gF p n))(hn:n<200)(q:Q (.int n) H):qQ [.ref p] H Q:=⟨p,n,rfl,h,hn,q⟩
end
end L2
set_option Elab.async false
set_option linter.all false
set_option maxRecDepth 100000
set_option maxHeartbeats 4000000
namespace L2
open PySem PySem.Spec PyProof.Rows
section
variable {X:Cx} {pins:List (Addr×Obj)} {σ:St} {H:Hp} {s:Shared}
theorem Inv.turnedNew{h':Heap}{L:List Addr}{o:HO}{t':Nat}(I:Inv X pins σ H s)(k:∀b u,b∉L->s.heap.get? b=some u->h'.get? b=some u)(f:∀b∈L,bT X pins H b)
  (new:bA X.prog X.w (upd H s.heap.objs.size o) h' s.heap.objs.size o):Inv X pins σ (upd H s.heap.objs.size o) { s with heap:=h',toks:=t' }:=by
 have hn:H s.heap.objs.size=none:=I.hok.fresh (Nat.le_refl _)
 have nin:∀b u,H b=some u->b∉L:=fun b u e z=>by
  rw[(f b z).1]at e
  cases e
 have up:∀b u,H b=some u->upd H s.heap.objs.size o b=some u:=fun b u e=>by
  rw[aG (cj e hn)]
  exact e
 refine I.step (g':=s.gens) (d':=s.drawn) (ch:=L) (fun b hb=>?_) (fun b u _ _ hc e _=>k b u hc e) (fun b u _ _ hc e _=>⟨u.slots,k b u hc e⟩) (fun b u _ e n=>?_) (fun b u hc e=>⟨u,k b u hc e⟩) (fun b xs e=>up b _ e) (fun b u v e=>up b _ e) (fun b ps e=>⟨#[],by rw[up b _ e];simp⟩) (fun m hm=>?_) (fun b u e=>?_) I.bare
 ·obtain⟨f0,f1,f2,f3,f4,f5⟩:=f b hb
  exact⟨f3,f1,f4,f5⟩
 ·rw[aG (Nat.ne_of_lt (Heap.lt_size e))]
  exact n
 ·obtain⟨u,es,ep,hu,r⟩:=hm
  exact⟨u,es,ep,k _ u (fun z=>(f _ z).2.1 rfl) hu,r⟩
 ·by_cases hb:b=s.heap.objs.size
  ·subst hb
   rw[aI]at e
   cases e
   exact new
  ·rw[aG hb]at e
   refine(I.hok b u e).stay (fun c v hc q=>k c v ?_ q) (fun c q=>up c _ q) fun c xs q=>up c _ q
   rcases hc with z | z
   ·rw[z];exact nin b u e
   ·exact nin c _ z
end
theorem yF{P:Program}{w:World}{A:Around}(hA:A.handled=none)(it t:Addr)(ne:t≠it)(ys:Array Value):Draws P w A it [it,t] ys.size (fun i v=>ys[i]?=some v) (fun i h=>h.IsTupleIter it t i/\h.IsTuple t ys) where
 live:=fun i h st=>by
  obtain⟨⟨o,ho,_⟩,_⟩:=st
  exact⟨o,ho⟩
 frame:=fun i h h' st k=>by
  obtain⟨⟨o,ho,r⟩,⟨u,hu,q⟩⟩:=st
  exact⟨⟨o,k it (by simp) o ho,r⟩,⟨u,k t (by simp) u hu,q⟩⟩
 item:=fun i s Q E hi st hQ=>n8 st.1 st.2 (x:=ys[i]) (by simp[hi]) fun h' gi sb=>hQ _ h' s.toks (by simp[hi]) ⟨gi,by
  obtain⟨u,hu,q⟩:=st.2
  exact⟨u,(sb.2 t ne).trans hu,q⟩⟩ sb
 done:=fun s Q E st hE=>mO hA st.1 st.2 (by simp) hE
abbrev jX(h:Heap)(a:Addr):Heap:=h.push { cls:=.type "tuple_iterator",data:=.fields #[.ref a,.int 0 0] }
abbrev lJ(h:Heap)(a:Addr):Heap:=(jX h a).push { cls:=.type "enumerate",data:=.fields #[.none,.bool false,.ref h.objs.size,rawInt 0,.none,.none] }
open AutoSeq1 (wpAny_loadPart')in
theorem wb(a:Addr)(ys:Array Value)(ob:Obj):Meets (Builtin.«enumerate.__new__» ⟨[.type "enumerate",.ref a],[]⟩) (fun _ R s=>s.heap.get? a=some ob/\s.heap.IsTuple a ys/\R (.ok (.ret (.ref (jX s.heap a).objs.size))) { s with heap:=lJ s.heap a }):=
 .of_wp fun prog w A R s q=>by
  obtain⟨hp,g,d,tk,os⟩:=s
  obtain⟨ga,gt,q⟩:=q
  have hsub:=sub_enumerate
  obtain⟨o,go,gc,n,gd⟩:=id gt
  obtain⟨c0,d0,dt,sl⟩:=o
  simp only at gc gd
  subst gc gd
  have gT:Heap.IsTuple (Shared.heap ⟨hp,g,d,tk,os⟩) a ys:=gt
  wp_walk using wpAny_loadPart' go
  refine wpAny_stack_any fun st=>wpAny_pure ?_
  split
  ·rename_i c _ _ _ _ _
   cases(c == Value.type "enumerate")<;>(wp_walk using wpAny_loadPart' go,wpAny_pyIter_tuple gT;exact⟨_,rfl,q⟩)
  ·wp_walk using wpAny_loadPart' go,wpAny_pyIter_tuple gT
   exact⟨_,rfl,q⟩
theorem zL{prog:Program}{w:World}{A:Around}{E:Value->Shared->Prop}{s:Shared}{a:Addr}{ys:Array Value}{Q:Value->Shared->Prop}(gt:s.heap.IsTuple a ys)
  (q:∀h',IsEnum h' (s.heap.objs.size+1) s.heap.objs.size 0 .none->h'.IsTupleIter s.heap.objs.size a 0->(∀c o,s.heap.get? c=some o->h'.get? c=some o)->Q (.ref (s.heap.objs.size+1)) { s with heap:=h' }) :
  wpAny (model prog w) A (call (.type "enumerate") [.ref a]) Q E s:=by
 obtain⟨o,go,r⟩:=id gt
 refine callType_new F.called_enumerate (by decide) (F.typeCall_enumerate_1 _) (F.newCall_enumerate_1 _) (fun ob=>F.args_object_init_2 ob _) F.entry_enumerate_new (wb a ys o) ⟨go,gt,?_⟩
 have n1:(jX s.heap a).objs.size=s.heap.objs.size+1:=Heap.size_push ..
 have k2:(lJ s.heap a).get? (jX s.heap a).objs.size=some _:=Heap.get?_push_size _ rfl
 have k1:(lJ s.heap a).get? s.heap.objs.size=some _:=Heap.get?_push_of_some _ (Heap.get?_push_size _ rfl)
 show _/\_
 rw[n1]at k2 ⊢
 exact⟨⟨_,k2,rfl⟩,q _ k2 ⟨_,k1,rfl,rfl⟩ fun c o x=>Heap.get?_push_of_some _ (Heap.get?_push_of_some _ x)⟩
def fG(K:PySem.W.Frag)(a:Addr):It:=⟨(bS K a).go,fun i H x H'=>∃p v,x=.ref p/\H p=none/\H'=upd H p (.tup [.int i,v])/\(bS K a).yld i H v H,(bS K a).stop⟩
theorem Cz{P:Program}{w:World}{K:PySem.W.Frag}{elts:List Expr}{kk:Nat}{ps:Pos}(a e it:Addr)(ne:e≠it):Turn P w K (.Tuple elts kk ps) (fG K a) [e,it] e (fun i h=>(∃old,IsEnum h e it i old)/\h.IsTupleIter it a i) where
 mem:=by simp
 obj:=fun i h st b hb=>by
  obtain⟨⟨old,ge⟩,o,go,gc,gd⟩:=st
  rcases List.mem_cons.mp hb with rfl | hb
  ·exact⟨_,ge,fun v z=>by cases(show Data.fields _=Data.cell v from z)⟩
  ·cases List.mem_singleton.mp hb
   exact⟨o,go,fun v z=>by rw[gd]at z;cases z⟩
 keep:=fun i h h' st k=>by
  obtain⟨⟨old,ge⟩,gi⟩:=st
  exact⟨⟨old,k e (by simp) _ ge⟩,gi.at fun o z=>k it (by simp) o z⟩
 item:=by
  intro X hP hw hK hc i pins s σ H E I hf st hg
  subst hP hw hK
  obtain⟨⟨old,ge⟩,gi⟩:=st
  obtain⟨xs,x,hq,hx⟩:=hg
  obtain⟨its,rv,p,hz⟩:=I.tuple hq
  obtain⟨u,hu,ru⟩:=rv.get hx
  have hi:i<its.toArray.size:=by
   have:=(List.getElem?_eq_some_iff.mp hu).1
   simpa using this
  have hA:X.A.in1.handled=none:=I.ok.hd hc
  have hta:a≠it:=fun z=>by
   obtain⟨o,ho,hcl,_⟩:=p
   obtain⟨o',ho',hcl',_⟩:=gi
   rw[z,ho']at ho
   cases ho
   rw[hcl]at hcl'
   exact absurd (Value.type.inj hcl') (by decide)
  have hea:e∉[it,a]:=fun z=>by
   rcases List.mem_cons.mp z with z | z
   ·exact ne z
   ·cases List.mem_singleton.mp z
    obtain⟨o,ho,hcl,_⟩:=p
    rw[ge]at ho
    cases ho
    exact absurd (Value.type.inj hcl) (by decide)
  refine wpAny_pyNext_enum_itemD (yF hA it a hta its.toArray) ge ⟨gi,show s.heap.IsTuple a its.toArray from p⟩ hi ne hea fun y h' tk hy geo gs gT gz gk=>⟨_,rfl,?_⟩
  have ey:y=u:=by
   have:its[i]?=some y:=by simpa using hy
   rw[hu]at this
   exact(Option.some.inj this).symm
  subst ey
  have lt:∀b∈[e,it],b≠s.heap.objs.size:=fun b hb=>by
   rcases List.mem_cons.mp hb with rfl | hb
   ·exact Nat.ne_of_lt (Heap.lt_size ge)
   ·cases List.mem_singleton.mp hb
    obtain⟨o,ho,_⟩:=gi
    exact Nat.ne_of_lt (Heap.lt_size ho)
  have I1:Inv X pins σ (upd H s.heap.objs.size (.tup [.int i,x])) { s with heap:=h',toks:=tk+1 }:=
   Inv.turnedNew (L:=[e,it]) I (fun b o hb z=>gk b o (fun q=>hb (by simp[q])) (fun q=>hb (by simp[q])) z) hf ⟨by show 2<=sizeLine;decide,[.int i tk,y],.cons ⟨tk,rfl⟩ (.cons ru .nil),⟨_,gT,rfl,_,rfl⟩⟩
  have fe:bT X pins (upd H s.heap.objs.size (.tup [.int i,x])) e:=by
   obtain⟨c0,c1,c2,c3,c4,c5⟩:=hf e (by simp)
   exact⟨by rw[aG (lt e (by simp))];exact c0,c1,c2,c3,c4,c5⟩
  refine wpAny_letOwnedTupleGo_enum (s:={ s with heap:=h',toks:=tk+1 }) geo fun k gk' bk=>?_
  refine⟨.ref s.heap.objs.size,upd H s.heap.objs.size (.tup [.int i,x]),Inv.same (s:={ s with heap:=h',toks:=tk+1 }) (k:=h') I1 fe bk.extBut,rfl,⟨_,x,rfl,I.hok.fresh (Nat.le_refl _),rfl,rfl,fun zs hzs=>by rw[I.tuple_inj hzs hq];exact hx⟩,⟨⟨y,by simpa using gk'⟩,gs.1.at fun o z=>bk.extBut it o (Ne.symm ne) z⟩,fun b hb=>?_⟩
  rw[aG (lt b hb)]
  exact(hf b hb).1
 done:=by
  intro X hP hw hK hc i pins s σ H E I hf st hg
  subst hP hw hK
  obtain⟨⟨old,ge⟩,gi⟩:=st
  obtain⟨xs,hq,hx⟩:=hg
  obtain⟨its,rv,p,hz⟩:=I.tuple hq
  have hA:X.A.in1.handled=none:=I.ok.hd hc
  have gT:s.TypeIs (.ref e) "enumerate":=⟨_,ge,rfl⟩
  have hl:=rv.length
  unfold pyNext
  refine wpAny_bind (wpAny_attempt (wpAny_callSpecial?_slot (name:=Str.ofString "__next__") gT F.slot_enumerate_next (wpAny_call_entry F.slot_enumerate_next gT F.entry_enumerate_next ?_ (F.args_enumerate_next_1 _))))
  show wpAny _ _ (field (Value.ref e) 2 >>= _) _ _ _
  refine wpAny_bind (wpAny_field ge rfl (x:=Value.ref it) rfl ?_)
  refine wpAny_bind (mO hA gi (show s.heap.IsTuple a its.toArray from p) (by simp;omega) fun h' x he hx'=>?_)
  obtain⟨o,ho,hc'⟩:=hx'
  refine wpAny_bind (wpAny_isInstance (s:={ s with heap:=h' }) (T:="StopIteration") (b:=true) ⟨o,ho,hc'⟩ isSubtype_stop ?_)
  exact wpAny_pure ⟨rfl,Inv.same (k:=s.heap) I (hf it (by simp)) he⟩
 self:=fun _ _ _ _ _ st h=>by
  obtain⟨⟨old,ge⟩,_⟩:=st
  exact wpAny_pyIter_enum ge h
section
variable {K:PySem.W.Frag} {σ:St} {H:Hp} {Q:VK}
def nc(K:PySem.W.Frag):List V->Hp->(It->Hp->Prop)->Prop:=fun vs H R=>∃a xs,vs=[.ref a]/\ag K H a xs/\R (fG K a) H
def qz(K:PySem.W.Frag)(ta:TA):TI:=fun σ H R=>ta σ H fun vs H1=>nc K vs H1 R
theorem pw{X:Cx}{elts:List Expr}{kk:Nat}{ps:Pos}(K:PySem.W.Frag){a:Expr}{ta:TA}{p pos:Pos}(hg:Gl X "enumerate")(hm:X.mg "enumerate" = none)(ha:PA X [a] ta)(hK:X.K=K:=by rfl)(hs:starEach [a] X.env=[(false,eval a X.env)]:=by rfl):
  PI X (.Tuple elts kk ps) (.Call (.Name "enumerate" p) [a] [] pos) (qz K ta):=by
 subst hK
 intro pins s σ H R I h
 refine Call_ (eZ I hg hm PyProof.Rows.boot_enumerate (PyProof.Rows.callWith_type1 (aq (ha pos pins s σ H _ I h) fun us s1 ⟨vs,H1,I1,r1,q1⟩=>?_) (by rw[hs];rfl) rfl))
 obtain⟨l,xs,e,hq,q⟩:=q1
 subst e
 obtain⟨u,rfl,rx⟩:=vals1 r1
 cases rx
 obtain⟨its,_,p1,_⟩:=I1.tuple hq
 refine zL (show s1.heap.IsTuple l its.toArray from p1) fun h' ge gi k=>?_
 refine wpAny_pyIter_enum (s:={ s1 with heap:=h' }) ge ?_
 refine⟨s1.heap.objs.size+1,[s1.heap.objs.size+1,s1.heap.objs.size],_,_,H1,rfl,I1.kept (t':=s1.toks) k,Cz l (s1.heap.objs.size+1) s1.heap.objs.size (fun z=>by have z':@Eq Nat _ _:=z;omega),⟨⟨_,ge⟩,gi⟩,fun b hb=>?_,q⟩
 have le:@LE.le Nat _ s1.heap.objs.size b:=by
  rcases List.mem_cons.mp hb with rfl | hb
  ·exact Nat.le_add_right _ _
  ·cases List.mem_singleton.mp hb
   exact Nat.le_refl _
 exact I1.fpOk le (I1.hok.fresh le)
theorem rd_enum{a:TA}{R:It->Hp->Prop}(h:a σ H fun vs H1=>nc K vs H1 R):qz K a σ H R:=h
theorem pS{a:Addr}{xs:List V}{R:It->Hp->Prop}(ha:ag K H a xs)(h:R (fG K a) H):nc K [.ref a] H R:=⟨a,xs,rfl,ha,h⟩
theorem BE{a:Addr}{xs:List V}{g:TG}{tb:TS}{D:Ends}(Pv:Nat->St->Hp->Prop)(h0:Pv 0 σ H)(hl:∀i σ H,i<=xs.length->Pv i σ H->ag K H a xs)
  (hs:∀i u σ H p H',xs[i]?=some u->Pv i σ H->Ext H H'->H' p=some (.tup [.int i,u])->H p=none->g (.ref p) σ H' fun σ2 H2=>tb { D with nx:=Pv (i+1),ct:=Pv (i+1),bk:=D.nx } σ2 H2) (hd:∀σ H,Pv xs.length σ H->D.nx σ H) :
  ∃W:Nat->Nat->St->Hp->Prop,(∃m,W 0 m σ H)/\∀i m σ H,W i m σ H →
   ((fG K a).stop i H/\D.nx σ H)\/((fG K a).go i H/\∃N:St->Hp->Prop,(∀σ' H',N σ' H'->∃m',m'<m/\W (i+1) m' σ' H')/\∀x H',(fG K a).yld i H x H'->g x σ H' fun σ2 H2=>tb { D with nx:=N,ct:=N,bk:=D.nx } σ2 H2):=by
 refine⟨fun i m σ H=>m=xs.length-i/\i<=xs.length/\Pv i σ H,⟨xs.length,by simp,Nat.zero_le _,h0⟩,?_⟩
 rintro i m σ H ⟨rfl,hi,p⟩
 have qa:=hl i σ H hi p
 by_cases hlt:i<xs.length
 ·refine .inr ⟨⟨xs,xs[i],qa,by simp[hlt]⟩,Pv (i+1),fun σ' H' p'=>⟨xs.length-(i+1),by omega,rfl,hlt,p'⟩,fun x H' y=>?_⟩
  obtain⟨pp,u,rfl,hn,rfl,yu⟩:=y
  exact hs i u σ H pp _ (yu.2 xs qa) p (aX hn) aI hn
 ·have e:i=xs.length:=by omega
  subst e
  exact .inl ⟨⟨xs,qa,Nat.le_refl _⟩,hd σ H p⟩
end
section
variable {X:Cx}
def mM(neg:Bool):R2:=fun x y H Q=>∃n p xs d ds,aZ H n x d/\y=.ref p/\H p=some (.lst xs)/\Paired (aZ H n) xs ds/\n<=50/\Q (.bl (if neg then !(ds.any fun e=>PyData.eqv e d)else ds.any fun e=>PyData.eqv e d)) H
theorem CI{k:Nat}(hr:Room k X.A):bg X (compareOp .In) (mM false):=by
 intro pins s σ H x y v u Q I rx ry h
 obtain⟨n,p,xs,d,ds,h1,rfl,h2,h3,hn,q⟩:=h
 have h4:aZ H (n+1) (.ref p) (.list ds):=.inr ⟨p,xs,ds,rfl,.inr ⟨h2,rfl⟩,h3⟩
 obtain⟨as,ra⟩:=aZ.reads I n h1 rx
 obtain⟨bs,rb⟩:=aZ.reads I (n+1) h4 ry
 have l1:=aZ.lay n h1
 have l2:=jJ (fun{x d}=>aZ.lay (H:=H) n) h3
 have hu:=hr.units
 have hm:min (PyData.depthAll ds) d.depth<=50:=Nat.le_trans (Nat.min_le_right _ _) (Nat.le_trans l1.2 hn)
 exact SeqAt.in_list_reads rb ra l2.1 l1.1 (by omega) ⟨.bl _,H,I,rfl,q⟩
theorem wX{k:Nat}(hr:Room k X.A):bg X (compareOp .NotIn) (mM true):=by
 intro pins s σ H x y v u Q I rx ry h
 obtain⟨n,p,xs,d,ds,h1,rfl,h2,h3,hn,q⟩:=h
 have h4:aZ H (n+1) (.ref p) (.list ds):=.inr ⟨p,xs,ds,rfl,.inr ⟨h2,rfl⟩,h3⟩
 obtain⟨as,ra⟩:=aZ.reads I n h1 rx
 obtain⟨bs,rb⟩:=aZ.reads I (n+1) h4 ry
 have l1:=aZ.lay n h1
 have l2:=jJ (fun{x d}=>aZ.lay (H:=H) n) h3
 have hu:=hr.units
 have hm:min (PyData.depthAll ds) d.depth<=50:=Nat.le_trans (Nat.min_le_right _ _) (Nat.le_trans l1.2 hn)
 exact SeqAt.notIn_list_reads rb ra l2.1 l1.1 (by omega) ⟨.bl _,H,I,rfl,q⟩
theorem Bo{neg:Bool}{n:Nat}{x:V}{p:Addr}{xs:List V}{d:PyData}{ds:List PyData}{H:Hp}{Q:VK}(h1:aZ H n x d)(h2:H p=some (.lst xs))(h3:Paired (aZ H n) xs ds)(hn:n<=50)(q:Q (.bl (if neg then !(ds.any fun e=>PyData.eqv e d)else ds.any fun e=>PyData.eqv e d)) H):mM neg x (.ref p) H Q:=
 ⟨n,p,xs,d,ds,h1,rfl,h2,h3,hn,q⟩
end
end L2
set_option Elab.async false
set_option linter.all false
set_option maxRecDepth 100000
set_option maxHeartbeats 4000000
namespace L2
open PySem PySem.Spec PyProof.Rows
abbrev Row3:=Str×Tok×Value
def ki(w:World)(e:Row3):DictEntry:=⟨PyData.keyHash w.params e.1,.str e.1 e.2.1,e.2.2⟩
def gC(w:World)(l:List Row3)(ep:Nat):Obj:={ cls:=.type "dict",dict:=none,data:=.dict (l.map (ki w)).toArray ep,slots:=#[] }
structure GDict(w:World)(K:PySem.W.Frag)(a:Addr)(kvs:List (Key×V)):Prop where
 has:∃l ep,K.lookup a=some (gC w l ep)/\KV kvs (l.map fun e=>((Sum.inr e.1:Key),e.2.2))
 nd:(kvs.map (·.1)).Nodup
 sm:(a == sysModules)=false
theorem tY{P:Program}{w:World}:∀l:List Row3,Pairs (bW P w) (l.map (ki w)) (l.map fun e=>((Sum.inr e.1:Key),e.2.2))
 | []=>.nil
 | e::l=>.cons (kM P w e.1 e.2.1) rfl (tY l)
theorem xY{P:Program}{w:World}(l:List Row3):KeysOf (bW P w) (l.map (ki w)).toArray:=fun e he=>by
 have he':e∈l.map (ki w):=by simpa using he
 obtain⟨x,_,rfl⟩:=List.mem_map.mp he'
 exact⟨.inr x.1,kM P w x.1 x.2.1,rfl⟩
theorem GDict.at{X:Cx}{pins:List (Addr×Obj)}{σ:St}{H:Hp}{s:Shared}{a:Addr}{kvs:List (Key×V)}(D:GDict X.w X.K a kvs)(I:Inv X pins σ H s):∃vs,KV kvs vs/\s.heap.DictOf (bW X.prog X.w) a vs:=by
 obtain⟨l,ep,hl,r⟩:=D.has
 refine⟨_,r,gC X.w l ep,_,ep,I.kIn _ _ hl,⟨rfl,rfl,rfl⟩,rfl,xY l,tY l,?_⟩
 rw[←r.keys]
 exact D.nd
section
variable {X:Cx} {x:Str} {a:Addr} {kvs:List (Key×V)} {i:Expr} {ty:TE} {p pos:Pos}
def o8(kvs:List (Key×V))(ty:TE):TE:=fun σ H Q=>ty σ H fun y H1=>∃k v,y=kV k/\bF kvs k=some v/\Q v H1
def uD(neg:Bool)(kvs:List (Key×V))(ty:TE):TE:=fun σ H Q=>ty σ H fun y H1=>∃k,y=kV k/\Q (.bl (if neg then !(bF kvs k).isSome else(bF kvs k).isSome)) H1
theorem si(hg:Gl X x)(hm:X.mg x=some (.ref a))(D:GDict X.w X.K a kvs)(hi:PE X i ty)(hs:kU i)(hd:(x == ("__debug__":Str))=false:=by decide):PE X (.Subscript (.Name x p) i pos) (o8 kvs ty):=by
 intro pins s σ H Q I h
 refine vC PySem.F.slot_dict_getitem.lookup hs (jf I hg hm (aq (hi pins s σ H _ I h) fun iv s2 ⟨y,H2,I2,ry,k,v,ey,hv,q⟩=>?_) hd)
 subst ey
 obtain⟨vs,rel,dd⟩:=D.at I2
 obtain⟨w',hw,rw'⟩:=dz.some_of (v:=v) (o:=valueAt vs k) (by rw[←hv];exact rel.val k)
 exact⟨dd.typeIs,wpAny_getItem_of (fI ry) dd.mapOf hw ⟨v,H2,I2.tok _,rw',q⟩⟩
theorem Bg(hg:Gl X x)(hm:X.mg x=some (.ref a))(D:GDict X.w X.K a kvs)(hi:PE X i ty)(hd:(x == ("__debug__":Str))=false:=by decide):PC X .In i (.Name x p) (uD false kvs ty):=by
 intro pins s σ H Q I h
 refine aq (hi pins s σ H _ I h) fun iv s1 ⟨y,H1,I1,ry,k,ey,q⟩=>jf I1 hg hm ?_ hd
 subst ey
 obtain⟨vs,rel,dd⟩:=D.at I1
 refine wpAny_in_of (fI ry) D.sm dd.mapOf ?_
 rw[←(rel.val k).isSome_eq]
 exact⟨.bl (bF kvs k).isSome,H1,I1.tok _,rfl,q⟩
theorem rd_gget{σ:St}{H:Hp}{Q:VK}(h:ty σ H fun y H1=>∃k v,y=kV k/\bF kvs k=some v/\Q v H1):o8 kvs ty σ H Q:=h
theorem rd_gin{neg:Bool}{σ:St}{H:Hp}{Q:VK}(h:ty σ H fun y H1=>∃k,y=kV k/\Q (.bl (if neg then !(bF kvs k).isSome else(bF kvs k).isSome)) H1):uD neg kvs ty σ H Q:=h
theorem oJ{R:V->Prop}{z:Str}{v:V}(hv:bF kvs (.inr z)=some v)(h:R v):∃k v,V.str z=kV k/\bF kvs k=some v/\R v:=⟨.inr z,v,rfl,hv,h⟩
def qN:R2:=fun x y H Q=>∃a b,x=.str a/\y=.str b/\Q (.bl (!decide (b.cps.toList<a.cps.toList))) H
theorem uB:bg X (compareOp .LtE) qN:=by
 intro pins s σ H x y v u Q I rx ry h
 obtain⟨a,b,rfl,rfl,q⟩:=h
 obtain⟨t,rfl⟩:=rx
 obtain⟨t',rfl⟩:=ry
 exact PySem.P.le_str ⟨.bl _,H,I,rfl,q⟩
theorem rd_leS{a b:Str}{H:Hp}{Q:VK}(h:Q (.bl (!decide (b.cps.toList<a.cps.toList))) H):qN (.str a) (.str b) H Q:=⟨a,b,rfl,rfl,h⟩
theorem kQ{α β:Type}{f g:α->Option β}:∀{l:List α},(∀x∈l,f x=g x)->l.filterMap f=l.filterMap g
 | [],_=>rfl
 | x::l,h=>by
  rw[List.filterMap_cons,List.filterMap_cons,h x List.mem_cons_self,kQ fun y hy=>h y (List.mem_cons_of_mem _ hy)]
theorem yR(n:Nat)(xs:List Value)(h:xs.length=n):(List.range n).filterMap (fun i:Nat=>xs[((n:Int)-1+(i:Int)*(-1)).toNat]?)=xs.reverse:=by
 refine List.ext_getElem? fun i=>?_
 have e:(List.range n).filterMap (fun i:Nat=>xs[((n:Int)-1+(i:Int)*(-1)).toNat]?)=(List.range n).map (fun i:Nat=>xs.reverse.getD i .none):=by
  rw[←List.filterMap_eq_map]
  refine kQ fun i hi=>?_
  have hi:=List.mem_range.mp hi
  have:((n:Int)-1+(i:Int)*(-1)).toNat=n-1-i:=by omega
  rw[this,Function.comp_apply,List.getD_eq_getElem?_getD,List.getElem?_reverse (by omega),h,List.getElem?_eq_getElem (show n-1-i<xs.length by omega)]
  rfl
 rw[e,List.getElem?_map]
 by_cases hi:i<n
 ·rw[List.getElem?_eq_getElem (by simpa using hi),List.getElem?_eq_getElem (by simpa[h]using hi)]
  simp[List.getD_eq_getElem?_getD,h,hi]
 ·rw[List.getElem?_eq_none (by simpa using hi),List.getElem?_eq_none (by simpa[h]using hi)]
  rfl
theorem BO(its:List Value):slicePick its.toArray none none (some (-1))=its.reverse.toArray:=by
 unfold slicePick
 have e:sliceBounds none none (some (-1)) its.toArray.size=((its.length:Int)-1,-1,-1):=by
  unfold sliceBounds
  simp
 rw[e]
 refine congrArg List.toArray ?_
 rw[←yR its.length its rfl]
 unfold sliceRange
 simp only
 rw[if_neg (by decide),List.filterMap_map]
 have el:(if(its.length:Int)-1 > -1 then((its.length:Int)-1 - -1 - -1-1) / - -1 else 0).toNat=its.length:=by
  rw[show (- -1:Int)=1 by decide,Int.ediv_one]
  split<;>omega
 rw[el]
 refine kQ fun i hi=>?_
 rw[Function.comp_apply,show (its.length:Int)-1 + -1*(i:Int)=(its.length:Int)-1+(i:Int) * -1 by omega]
 simp
theorem Vals.rev{xs:List V}{us:List Value}(r:Vals xs us):Vals xs.reverse us.reverse:=by
 induction r with
 | nil=>exact .nil
 | cons h t ih=>
  rw[List.reverse_cons,List.reverse_cons]
  exact Vals.append ih (.cons h .nil)
def iA(K:PySem.W.Frag):V->Hp->VK->Prop:=fun x H Q=>∃a xs,x=.ref a/\af K H a xs/\eR H (.lst xs.reverse) Q
def nO(K:PySem.W.Frag)(te:TE)(ts:TO):TE:=fun σ H Q=>te σ H fun x H1=>ts σ H1 fun k H2=>k=some (-1)/\iA K x H2 Q
theorem Cd{e st:Expr}{te:TE}{ts:TO}{p2:Pos}(K:PySem.W.Frag)(he:PE X e te)(hs:PO X (some st) ts)(hK:X.K=K:=by rfl):PE X (.Subscript e (.Slice none none (some st) p2) pos) (nO K te ts):=by
 subst hK
 intro pins s σ H Q I h
 refine Subscript_ (aq (he pins s σ H _ I h) fun v s1 ⟨x,H1,I1,r1,q1⟩=>?_)
 refine wpAny_Slice ?_
 rw[evalPart_none]
 refine wpAny_pure (wpAny_pure ?_)
 refine aq (hs pins s1 σ H1 _ I1 q1) fun vs s2 ⟨k,H2,I2,pk,q2⟩=>?_
 obtain⟨rfl,a,xs,rfl,hx,q⟩:=q2
 cases pk with
 | int i tk=>
 cases r1
 have I3:Inv X pins σ H2 { s2 with heap:=s2.heap.push { cls:=.type "slice",data:=.fields #[.none,.none,.int (-1) tk] } }:=I2.kept (t':=s2.toks) fun b ob q=>Heap.get?_push_of_some _ q
 obtain⟨its,r,ht,hz⟩:=I3.list hx
 have hlen:=r.length
 show wpAny (model X.prog X.w) X.A (subscriptTail e (.Slice none none (some st) p2) (.ref a) (.ref s2.heap.objs.size)) (EP X pins σ Q) X.xe { s2 with heap:=s2.heap.push { cls:=.type "slice",data:=.fields #[.none,.none,.int (-1) tk] } }
 refine tail_any (ops:=[.ref a,.ref s2.heap.objs.size]) ht.isList.typeIs slot_list_getitem.lookup (wpAny_getItem_list_slice ht.isList (Heap.IsSliceOf.new ..) .none .none (.int (-1) tk) (by decide) ?_ (by rw[List.size_toArray];omega)) (by with_unfolding_all rfl)
 rw[BO]
 exact⟨.ref _,_,I3.laid (t':=s2.toks) (o:=.lst xs.reverse) (fun b ob e=>Heap.get?_push_of_some _ e) (Nat.le_refl _) ⟨by rw[List.length_reverse];exact hz,_,0,r.rev,Heap.get?_push_size _ rfl⟩,rfl,q _ (I3.hok.fresh (Nat.le_refl _))⟩
theorem rd_revL{K:PySem.W.Frag}{te:TE}{ts:TO}{σ:St}{H:Hp}{Q:VK}(h:te σ H fun x H1=>ts σ H1 fun k H2=>k=some (-1)/\iA K x H2 Q):nO K te ts σ H Q:=h
theorem uX{K:PySem.W.Frag}{H:Hp}{Q:VK}{a:Addr}{xs:List V}(e:af K H a xs)(h:eR H (.lst xs.reverse) Q):iA K (.ref a) H Q:=⟨a,xs,rfl,e,h⟩
theorem rd_dget{td:TE}{σ:St}{H:Hp}{Q:VK}(h:td σ H fun x H1=>ty σ H1 fun y H2=>∃a v,x=.ref a/\cf H2 a y (some v)/\Q v H2):sO td ty σ H Q:=h
end
end L2
set_option Elab.async false
set_option linter.all false
set_option maxRecDepth 100000
set_option maxHeartbeats 4000000
namespace L2
open PySem PySem.Spec PyProof.Rows
theorem AI:typeLookup (.type "list_reverseiterator") "__len__" = pure none:=by rw[typeLookup_type,builtinLookup_eq_fast];kernel_rfl
theorem wc:typeLookup (.type "list_reverseiterator") "__length_hint__" = pure (some (.builtin "list_reverseiterator.__length_hint__")):=by rw[typeLookup_type,builtinLookup_eq_fast];kernel_rfl
section
variable {prog:Program} {w:World} {A:Around} {E:Value->Shared->Prop} {s:Shared} {r d:Addr}
theorem An{Q:Bool->Shared->Prop}(hT:s.TypeIs (.ref r) "list_reverseiterator")(h:Q false s):wpAny (model prog w) A (Builtin.List.listLengthHint (.ref r)) Q E s:=by
 unfold Builtin.List.listLengthHint
 refine wpAny_bind (wpAny_specialOf hT AI ?_)
 show wpAny _ _ (specialOf (Value.ref r) (Str.ofString "__length_hint__") >>= _) _ _ _
 refine wpAny_bind (wpAny_specialOf hT wc ?_)
 generalize hid:("list_reverseiterator.__length_hint__":String)=id0
 wp_delta
 rw[show splitId id0=some ("list_reverseiterator","__length_hint__")from by subst hid;decide +kernel]
 subst hid
 refine wpAny_bind (wpAny_isInstance (T:="list_reverseiterator") (b:=true) hT (by rw[isSubtype_type];kernel_rfl) ?_)
 refine wpAny_ite_split (fun hab=>absurd hab (by decide)) (fun _=>?_)
 refine wpAny_ite_split (fun _=>?_) (fun hab=>absurd (by decide +kernel) hab)
 refine wpAny_ite_split (fun hab=>absurd hab (by decide +kernel)) (fun _=>?_)
 exact wpAny_pure h
theorem wq{R:Result->Shared->Prop}{items:Array Value}(hh:A.handled=none)(hne:d≠r)(hit:s.heap.IsRevIter r d ((items.size:Int)-1))(hl:s.heap.IsList d items)(S:Addr)(hSr:S≠r)(hSd:S≠d)(res:Value)(c₀:Nat)(hS:s.heap.get? S=some { cls:=.type "list",data:=.seq #[] c₀ })
  (hR:∀h' tk acc' c',(∀b o,b≠S->b≠r->s.heap.get? b=some o->h'.get? b=some o)->h'.get? S=some { cls:=.type "list",dict:=none,data:=.seq acc' c',slots:=#[] }->ItemsOf (fun i v=>items[items.size-1-i]?=some v) acc' items.size->R (.ok (.ret res)) { s with heap:=h',toks:=tk }) (hn:items.size<=sizeLine) :
  wpAny (model prog w) A.in1 (Builtin.List.listExtendWith (.ref S) (.ref r) res)
   (fun fin s'=>match fin with | .done f=>R (.ok f) s' | .again c'=>c'.quiet=true/\codeAny (model prog w) A c' R s') (fun e s'=>R (.error e) s') s:=by
 have hSf:S∉[r,d]:=by simp only[List.mem_cons,List.not_mem_nil,or_false,not_or];exact⟨hSr,hSd⟩
 have W:=Walks.listRev (prog:=prog) (w:=w) (A:=A.in1) hh r d hne items
 have st:0<=items.size/\s.heap.IsRevIter r d ((items.size:Int)-1-((0:Nat):Int))/\s.heap.IsList d items:=⟨Nat.zero_le _,by rw[show (items.size:Int)-1-((0:Nat):Int)=(items.size:Int)-1 by omega];exact hit,hl⟩
 unfold Builtin.List.listExtendWith
 refine wpAny_bind (wpAny_typeOf (T:="list_reverseiterator") hit.typeIs ?_)
 have h1:Builtin.List.listSameRef (.ref S) (.ref r)=false:=by simp[Builtin.List.listSameRef,hSr]
 have h2:(Value.type "list_reverseiterator" == Value.type "list")=false:=by decide
 have h3:(Value.type "list_reverseiterator" == Value.type "tuple")=false:=by decide
 simp only[h1,h2,h3,Bool.or_false,Bool.false_eq_true,if_false]
 refine wpAny_bind (W.self 0 _ _ _ st ?_)
 refine wpAny_bind (wpAny_holding (An hit.typeIs ?_))
 refine wpAny_ite_split (fun hab=>absurd hab (by decide +kernel)) (fun _=>?_)
 refine wpAny_pure ⟨plainId_quiet PySem.F.plain_extend_loop _,?_⟩
 refine codeAny_extend_loopS W.toS hn S hSf res items.size 0 s #[] c₀ rfl (Nat.zero_le _) st hS (ItemsOf.nil _) fun s' acc' c' hm hS' hacc=>?_
 rw[Moved.eq_with hm]
 refine hR s'.heap s'.toks acc' c' (fun b o hb hb2 e=>hm.heap b o (fun hmem=>?_) e) hS' hacc
 rcases List.mem_cons.mp hmem with e' | hmem
 ·exact hb e'
 ·exact hb2 (List.mem_singleton.mp hmem)
theorem vN{R:Result->Shared->Prop}{items:Array Value}(hh:A.handled=none)(hne:d≠r)(hit:s.heap.IsRevIter r d ((items.size:Int)-1))(hl:s.heap.IsList d items)(S:Addr)(hSr:S≠r)(hSd:S≠d)(hS:s.heap.get? S=some { cls:=.type "list",data:=.seq #[] })
  (hR:∀h' tk acc' c',(∀b o,b≠S->b≠r->s.heap.get? b=some o->h'.get? b=some o)->h'.get? S=some { cls:=.type "list",dict:=none,data:=.seq acc' c',slots:=#[] }->ItemsOf (fun i v=>items[items.size-1-i]?=some v) acc' items.size->R (.ok (.ret .none)) { s with heap:=h',toks:=tk }) (hn:items.size<=sizeLine) :
  wpAny (model prog w) A.in1 (Builtin.«list.__init__» ⟨[.ref S,.ref r],[]⟩)
   (fun fin s'=>match fin with | .done f=>R (.ok f) s' | .again c'=>c'.quiet=true/\codeAny (model prog w) A c' R s') (fun e s'=>R (.error e) s') s:=by
 show wpAny _ _ (do let old ←Builtin.List.listItems (.ref S);Builtin.List.listUpdate (.ref S) (fun _=>#[]);letGo old.toList.reverse;Builtin.List.listExtendWith (.ref S) (.ref r) .none) _ _ s
 refine wpAny_bind ?_
 unfold Builtin.List.listItems
 refine wpAny_bind (wpAny_seqItems hS rfl (wpAny_pure ?_))
 show wpAny _ _ (updateSeq S (fun _=>#[]) >>= fun _=>letGo (#[]:Array Value).toList.reverse >>= fun _=>Builtin.List.listExtendWith (.ref S) (.ref r) .none) _ _ s
 refine wpAny_bind (wpAny_updateSeq hS rfl ?_)
 have hS₂:=Heap.get?_update_self (Obj.mapSeq (fun _=>(#[]:Array Value))) hS rfl
 have oth:∀b o,b≠S->s.heap.get? b=some o->(s.heap.update S (Obj.mapSeq (fun _=>(#[]:Array Value)))).get? b=some o:=
  fun b o hb e=>(Heap.get?_update_other _ _ (Ne.symm hb)).trans e
 refine wpAny_bind (wpAny_letGo ?_)
 refine wq hh hne (hit.at fun o e=>oth _ _ hSr.symm e) (hl.at fun o e=>oth _ _ hSd.symm e) S hSr hSd .none _ hS₂ (fun h' tk acc' c' hk hS' hacc=>?_) hn
 exact hR h' tk acc' c' (fun b o hb hb2 e=>hk b o hb hb2 (oth b o hb e)) hS' hacc
theorem Cj{Q:Value->Shared->Prop}{items:Array Value}(hh:A.handled=none)(hne:d≠r)(hit:s.heap.IsRevIter r d ((items.size:Int)-1))(hl:s.heap.IsList d items)(hn:items.size<=sizeLine)
  (hQ:∀h' tk acc' c',(∀b o,b≠r->s.heap.get? b=some o->h'.get? b=some o)->h'.get? s.heap.objs.size=some { cls:=.type "list",dict:=none,data:=.seq acc' c',slots:=#[] }->ItemsOf (fun i v=>items[items.size-1-i]?=some v) acc' items.size->Q (.ref s.heap.objs.size) { s with heap:=h',toks:=tk }) :
  wpAny (model prog w) A (call (.type "list") [.ref r]) Q E s:=by
 refine callType_codes (Q₁:=fun obj s₁=>obj=.ref s.heap.objs.size/\s₁={ s with heap:=s.heap.push { cls:=.type "list",data:=.seq #[] } }) PySem.F.called_list (PySem.F.typeCall_list_1 _) PySem.F.entry_list_init
  (code_list_new _ ⟨rfl,rfl⟩) fun obj s₁ h₁=>?_
 obtain⟨rfl,rfl⟩:=h₁
 have hS:(s.heap.push { cls:=.type "list",data:=.seq #[] }).get? s.heap.objs.size=some { cls:=.type "list",data:=.seq #[] }:=Heap.get?_push_size _ rfl
 have l1:r<s.heap.objs.size:=let ⟨o,ho,_⟩:=hit;Heap.lt_size ho
 have l2:d<s.heap.objs.size:=let ⟨o,ho,_⟩:=hl;Heap.lt_size ho
 refine⟨⟨_,hS,rfl⟩,PySem.F.args_list_init_2 _ _,vN (A:=A.in1) hh hne (hit.at fun o e=>Heap.get?_push_of_some _ e) (hl.at fun o e=>Heap.get?_push_of_some _ e) _ (Nat.ne_of_gt l1) (Nat.ne_of_gt l2) hS (fun h' tk acc' c' hk hS' hacc=>?_) hn⟩
 exact⟨rfl,hQ h' tk acc' c' (fun b o hb e=>hk b o (Nat.ne_of_lt (Heap.lt_size e)) hb (Heap.get?_push_of_some _ e)) hS' hacc⟩
end
theorem AA{its:List Value}{acc:Array Value}(h:ItemsOf (fun i v=>its.toArray[its.toArray.size-1-i]?=some v) acc its.toArray.size):acc=its.reverse.toArray:=by
 have h1:acc.size=its.length:=h.1.trans List.size_toArray
 have h2:=h.2
 refine Array.ext_getElem? fun i=>?_
 by_cases hi:i<acc.size
 ·have h3:=h2 i acc[i] (Array.getElem?_eq_getElem hi)
  rw[Array.getElem?_eq_getElem hi,←h3,List.getElem?_toArray,List.getElem?_toArray,List.size_toArray,List.getElem?_reverse (by omega)]
 ·rw[Array.getElem?_eq_none (by omega),List.getElem?_toArray,List.getElem?_eq_none (by rw[List.length_reverse];omega)]
section
variable {X:Cx}
def uZ(K:PySem.W.Frag)(te:TE):TE:=fun σ H Q=>te σ H fun x H1=>iA K x H1 Q
theorem BU{e:Expr}{te:TE}{p p2 pos pos2:Pos}(K:PySem.W.Frag)(hc:X.calm=true)(hg:Gl X "list")(hm:X.mg "list" = none)(hg2:Gl X "reversed")(hm2:X.mg "reversed" = none)(he:PE X e te)(hK:X.K=K:=by rfl)
  (h1:starEach [e] X.env=(false,eval e X.env)::starEach [] X.env:=by rfl)
  (h2:starEach [.Call (.Name "reversed" p2) [e] [] pos2] X.env=(false,eval (.Call (.Name "reversed" p2) [e] [] pos2) X.env)::starEach [] X.env:=by rfl) :
  PE X (.Call (.Name "list" p) [.Call (.Name "reversed" p2) [e] [] pos2] [] pos) (uZ K te):=by
 subst hK
 intro pins s σ H Q I h
 refine wpAny_Call_Name_kw (eZ I hg hm PyProof.Rows.boot_list ?_ (by decide) (by decide))
 refine PyProof.Rows.callWith_type1 ?_ h2 rfl
 rw[h2]
 show wpAny _ _ (spliced ((false,eval (.Call (.Name "reversed" p2) [e] [] pos2) X.env)::backTo pos (starEach [] X.env))) _ _ s
 refine Calls.spliced_cons ?_
 refine wpAny_Call_Name_kw (eZ I hg2 hm2 PyProof.Rows.boot_reversed ?_ (by decide) (by decide))
 refine PyProof.Rows.callWith_type1 ?_ h1 rfl
 rw[h1]
 show wpAny _ _ (spliced ((false,eval e X.env)::backTo pos2 (starEach [] X.env))) _ _ s
 refine Calls.spliced_cons (aq (he pins s σ H _ I h) fun u s1 ⟨x,H1,I1,r1,q1⟩=>?_)
 refine Calls.spliced_nil ?_
 obtain⟨a,xs,rfl,hx,q⟩:=q1
 cases r1
 obtain⟨its,r,pl,hz⟩:=I1.list hx
 have hlen:=r.length
 refine call_reversed_list pl.isList ?_
 refine Calls.spliced_nil ?_
 have la:a<s1.heap.objs.size:=let ⟨o,ho,_⟩:=pl.isList;Heap.lt_size ho
 have hsz:(s1.heap.push (revObj a ((its.toArray.size:Int)-1))).objs.size=s1.heap.objs.size+1:=Heap.size_push ..
 refine Cj (items:=its.toArray) (d:=a) (r:=s1.heap.objs.size) (I1.ok.hd hc) (Nat.ne_of_lt la) ⟨_,Heap.get?_push_size _ rfl,rfl,rfl⟩ (pl.isList.at fun o e=>Heap.get?_push_of_some _ e) (by rw[List.size_toArray];omega) fun h' tk acc' c' hk hS' hacc=>?_
 have hk':∀b o,s1.heap.get? b=some o->h'.get? b=some o:=fun b o e=>hk b o (Nat.ne_of_lt (Heap.lt_size e)) (Heap.get?_push_of_some _ e)
 have hle:s1.heap.objs.size<=(s1.heap.push (revObj a ((its.toArray.size:Int)-1))).objs.size:=by rw[hsz];exact Nat.le_succ _
 rw[AA hacc]at hS'
 exact⟨.ref _,_,I1.laid (t':=tk) (o:=.lst xs.reverse) hk' hle ⟨by rw[List.length_reverse];exact hz,_,c',r.rev,hS'⟩,rfl,q _ (I1.hok.fresh hle)⟩
def sR(tk tv:TE):TE:=fun σ H Q=>∀p,H p=none->tk σ (upd H p (.dT [])) fun x H1=>tv σ H1 fun v H2=>∃b k,x=.ref b/\H2 b=some (.tup (List.map kV k))/\H2 p=some (.dT [])/\Q (.ref p) (upd H2 p (.dT [(k,v)]))
theorem qu{ek ev:Expr}{tk tv:TE}{pos:Pos}(hu:X.A.units+1<cLine)(hk:PE X ek tk)(hv:PE X ev tv):PE X (.Dict [some ek] [ev] pos) (sR tk tv):=by
 intro pins s σ H Q I q
 have hn:=I.hok.fresh (Nat.le_refl s.heap.objs.size)
 have I1:=I.laid (a:=s.heap.objs.size) (o:=.dT []) (h':=s.heap.push { cls:=.type "dict",data:=.dict #[] }) (t':=s.toks) (fun _ _ q=>Heap.get?_push_of_some _ q) (Nat.le_refl _) (rm s.heap I.big)
 refine wpAny_Dict_any rfl rfl (by simp) (by simp) ?_
 refine pairTrees_cons_walk (aq (hk pins _ σ _ _ I1 (q _ hn)) fun u s1 ⟨x,H1,I1,rx,q1⟩=>aq (hv pins s1 σ H1 _ I1 q1) fun w2 s2 ⟨v,H2,I2,ry,q2⟩=>pairTrees_nil_walk ?_)
 obtain⟨b,k,rfl,hb,e,q3⟩:=q2
 cases(show u=Value.ref b from rx)
 obtain⟨z,hd,xs,rel,dd⟩:=nQ I2.hok e
 have hz:xs.length<=sizeLine:=by rw[←Paired.length rel];exact Nat.zero_le _
 unfold storeAll
 rw[List.forIn_cons]
 refine wpAny_bind (wpAny_bind (wpAny_dictSet_heap (hsz:=hz) (show(tupleKind (bW X.prog X.w)).room X.A from Nat.lt_of_succ_lt hu) (gq I2.hok hb) dd fun h' dd' hs=>wpAny_pure ?_))
 dsimp only
 rw[List.forIn_nil]
 refine wpAny_pure ⟨.ref s.heap.objs.size,_,?_,rfl,q3⟩
 obtain⟨q,es,ep,hq,h2,h3,h4,_,h5⟩:=dd'
 refine mw I2 (by rw[e];exact True.intro) hs ⟨q,hq⟩ ⟨by rw[sizeLine_eq];simp,hd,_,(rel.put k hb ry).keeps fun c ys ec=>?_,q,es,ep,hq,h2,h3,h4,h5⟩
 rw[aG (cg ec e (fun z=>nomatch z))]
 exact ec
theorem rd_lrev{K:PySem.W.Frag}{te:TE}{σ:St}{H:Hp}{Q:VK}(h:te σ H fun x H1=>iA K x H1 Q):uZ K te σ H Q:=h
theorem rd_disp1{tk tv:TE}{σ:St}{H:Hp}{Q:VK}(h:∀p,H p=none->tk σ (upd H p (.dT [])) fun x H1=>tv σ H1 fun v H2=>∃b k,x=.ref b/\H2 b=some (.tup (List.map kV k))/\H2 p=some (.dT [])/\Q (.ref p) (upd H2 p (.dT [(k,v)]))):sR tk tv σ H Q:=h
theorem rd_din{ty td:TE}{σ:St}{H:Hp}{Q:VK}(h:ty σ H fun y H1=>td σ H1 fun x H2=>∃a o,x=.ref a/\cf H2 a y o/\Q (.bl o.isSome) H2):ue ty td σ H Q:=h
theorem rd_dnin{ty td:TE}{σ:St}{H:Hp}{Q:VK}(h:ty σ H fun y H1=>td σ H1 fun x H2=>∃a o,x=.ref a/\cf H2 a y o/\Q (.bl (!o.isSome)) H2):o2 ty td σ H Q:=h
theorem rd_dput{td ty tv:TE}{D:Ends}{σ:St}{H:Hp}(h:tv σ H fun v H1=>td σ H1 fun x H2=>ty σ H2 fun y H3=>∃a H4,x=.ref a/\fD H3 a y v H4/\D.nx σ H4):pJ td ty tv D σ H:=h
end
end L2
set_option Elab.async false
set_option linter.all false
set_option maxRecDepth 100000
set_option maxHeartbeats 4000000
namespace L2
open PySem PySem.Spec PyProof.Rows
section
variable {X:Cx}
end
end L2
set_option Elab.async false
set_option linter.all false
set_option maxRecDepth 100000
set_option maxHeartbeats 4000000
namespace L2
open PySem PySem.Spec PyProof.Rows
def ip(z:Str):It:=⟨fun i _=>i<z.cps.size,fun i H x H'=>H'=H/\∃c,z.cps[i]?=some c/\x=.str ⟨#[c]⟩,fun i _=>z.cps.size<=i⟩
theorem zN{P:Program}{w:World}{K:PySem.W.Frag}{tg:Expr}(z:Str)(t:Tok)(it:Addr):Turn P w K tg (ip z) [it] it (fun i h=>h.IsStrIter it (strIterType z) z t i) where
 mem:=by simp
 obj:=fun i h st b hb=>by
  have e:b=it:=by simpa using hb
  subst e
  obtain⟨o,e,c,d⟩:=st
  exact⟨o,e,fun v z=>by rw[d]at z;cases z⟩
 keep:=fun i h h' st k=>by
  obtain⟨o,e,r⟩:=st
  exact⟨o,k it (by simp) o e,r⟩
 item:=by
  intro X hP hw hK hc i pins s σ H E I hf st hg
  subst hP hw hK
  have hx:z.cps[i]?=some z.cps[i]:=Array.getElem?_eq_getElem hg
  obtain⟨f0,f1,f2,f3,f4,f5⟩:=hf it (by simp)
  have fin:∀(ty:String),ty=strIterType z->["enumerate","zip","dict_itemiterator","dict_reverseitemiterator","odict_iterator","itertools.zip_longest","itertools.pairwise"].contains ty=false->∀h',h'.IsStrIter it ty z t (i+1)->Heap.SameBut it s.heap h' →
    ∃u,some (Value.str ⟨#[z.cps[i]]⟩ s.toks)=some u/\wpAny (model X.prog X.w) X.A (letOwnedTupleGo tg (.ref it) u) (fun _ s2=>∃x H',Inv X pins σ H' s2/\RelV x u/\(ip z).yld i H x H'/\s2.heap.IsStrIter it (strIterType z) z t (i+1)/\∀b∈[it],H' b=none) E { s with heap:=h',toks:=s.toks+1 }:=by
   intro ty hty hn h' st' sb
   have I1:Inv X pins σ H { s with heap:=h',toks:=s.toks+1 }:=I.turned (fun b o hb e=>(sb.2 b hb).trans e) f0 f1 f3 f4 f5
   obtain⟨o,e,c,d⟩:=id st'
   exact⟨_,rfl,gP (s:={ s with heap:=h',toks:=s.toks+1 }) e c d hn ⟨.str ⟨#[z.cps[i]]⟩,H,I1,⟨_,rfl⟩,⟨rfl,_,hx,rfl⟩,by rw[←hty];exact st',fun b hb=>(hf b hb).1⟩⟩
  cases ha:z.cps.all (· < 128)with
  | true=>
   have et:strIterType z = "str_ascii_iterator":=by unfold strIterType;rw[ha];rfl
   rw[et]at st
   exact wpAny_pyNext_ascii_item st hx fun h' st' sb=>fin _ et.symm (by decide) h' st' sb
  | false=>
   have et:strIterType z = "str_iterator":=by unfold strIterType;rw[ha];rfl
   rw[et]at st
   exact wpAny_pyNext_wide_item st hx fun h' st' sb=>fin _ et.symm (by decide) h' st' sb
 done:=by
  intro X hP hw hK hc i pins s σ H E I hf st hg
  subst hP hw hK
  have hx:z.cps[i]?=none:=Array.getElem?_eq_none hg
  obtain⟨f0,f1,f2,f3,f4,f5⟩:=hf it (by simp)
  have fin:∀h',Heap.ExtBut it s.heap h'->(none:Option Value)=none/\Inv X pins σ H { s with heap:=h' }:=fun h' eb=>⟨rfl,I.turned (t':=s.toks) (fun b o hb e=>eb b o hb e) f0 f1 f3 f4 f5⟩
  cases ha:z.cps.all (· < 128)with
  | true=>
   have et:strIterType z = "str_ascii_iterator":=by unfold strIterType;rw[ha];rfl
   rw[et]at st
   exact wpAny_pyNext_ascii_end (I.ok.hd hc) st hx fin
  | false=>
   have et:strIterType z = "str_iterator":=by unfold strIterType;rw[ha];rfl
   rw[et]at st
   exact wpAny_pyNext_wide_end (I.ok.hd hc) st hx fin
 self:=fun A i s Q E st h=>by
  cases ha:z.cps.all (· < 128)with
  | true=>
   have et:strIterType z = "str_ascii_iterator":=by unfold strIterType;rw[ha];rfl
   rw[et]at st
   exact wpAny_pyIter_striter_ascii st h
  | false=>
   have et:strIterType z = "str_iterator":=by unfold strIterType;rw[ha];rfl
   rw[et]at st
   exact wpAny_pyIter_striter_wide st h
section
variable {X:Cx} {tg:Expr}
def o3(tl:TE):TI:=fun σ H R=>tl σ H fun x H1=>∃z,x=.str z/\R (ip z) H1
theorem tZ{l:Expr}{tl:TE}(hl:PE X l tl):PI X tg l (o3 tl):=by
 intro pins s σ H R I h
 refine aq (hl pins s σ H _ I h) fun v s1 ⟨x,H1,I1,r1,q1⟩=>?_
 obtain⟨z,rfl,q⟩:=q1
 obtain⟨t,rfl⟩:=r1
 refine wpAny_pyIter_strU ?_
 refine⟨s1.heap.objs.size,[s1.heap.objs.size],_,_,H1,rfl,I1.kept (t':=s1.toks) fun b o e=>Heap.get?_push_of_some _ e,zN z t _,⟨_,Heap.get?_push_size _ rfl,rfl,rfl⟩,fun b hb=>?_,q⟩
 have e:b=s1.heap.objs.size:=by simpa using hb
 subst e
 exact I1.fpOk (Nat.le_refl _) (I1.hok.fresh (Nat.le_refl _))
end
theorem rd_iS{te:TE}{σ:St}{H:Hp}{R:It->Hp->Prop}(h:te σ H fun x H1=>∃z,x=.str z/\R (ip z) H1):o3 te σ H R:=h
theorem p7{z:Str}{g:TG}{tb:TS}{D:Ends}{σ:St}{H:Hp}(Pv:Nat->St->Hp->Prop)(h0:Pv 0 σ H)
  (hs:∀i c σ H,z.cps[i]?=some c->Pv i σ H->g (.str ⟨#[c]⟩) σ H fun σ2 H2=>tb ⟨Pv (i+1),D.rt,D.nx,Pv (i+1)⟩ σ2 H2) (hd:∀σ H,Pv z.cps.size σ H->D.nx σ H):fg (ip z) g tb D σ H:=by
 refine⟨fun i m σ H=>m=z.cps.size-i/\i<=z.cps.size/\Pv i σ H,⟨_,rfl,Nat.zero_le _,h0⟩,?_⟩
 rintro i m σ H ⟨rfl,hi,p⟩
 rcases Nat.lt_or_ge i z.cps.size with l | l
 ·refine .inr ⟨l,Pv (i+1),fun σ' H' q=>⟨z.cps.size-(i+1),by omega,rfl,l,q⟩,?_⟩
  rintro x H' ⟨rfl,c,hc,rfl⟩
  exact hs i c σ H' hc p
 ·have:i=z.cps.size:=by omega
  subst this
  exact .inl ⟨l,hd σ H p⟩
section
variable {prog:Program} {w:World} {A:Around} {E:Value->Shared->Prop} {s:Shared}
theorem yj{it d:Addr}{i ep:Nat}{od:Obj}{es:Array DictEntry}{Q:Option Value->Shared->Prop}(hit:s.heap.IsKeyIter it d i es.size ep)(hod:s.heap.get? d=some od)(hdd:od.data=.dict es ep)(hlt:i<es.size)
  (hQ:∀h',h'.IsKeyIter it d (i+1) es.size ep->Heap.SameBut it s.heap h'->Q (some es[i].key) { s with heap:=h' }):wpAny (model prog w) A (pyNext (.ref it)) Q E s:=by
 obtain⟨o,ho,hc,hd⟩:=id hit
 have T:=hit.typeIs
 unfold pyNext
 refine wpAny_bind (wpAny_attempt (wpAny_callSpecial?_slot (name:=Str.ofString "__next__") T F.slot_dict_keyiterator_next (wpAny_call_entry F.slot_dict_keyiterator_next T F.entry_dict_keyiterator_next ?_ (F.args_dict_keyiterator_next_1 _))))
 refine wpAny_bind (wpAny_pure (wpAny_bind (wpAny_bind ?_)))
 first | refine wpAny_bind (wpAny_typeNameOfWhole_keyiter T (wpAny_pure ?_)) | refine wpAny_bind (wpAny_typeNameOf_keyiter T (wpAny_pure ?_))
 refine wpAny_bind (wpAny_fieldsOf ho hd ?_)
 simp only[show Builtin.Dict_items.ownsTuple "dict_keyiterator" = false by decide,Bool.false_eq_true,if_false]
 show wpAny _ _ (if(Value.ref d == Value.none)=true then _ else _) _ _ s
 rw[if_neg (show ¬((Value.ref d == Value.none)=true)from Bool.false_ne_true)]
 refine wpAny_bind (wpAny_pure (wpAny_bind (wpAny_dictEntries hod hdd ?_)))
 rw[if_neg (by simp)]
 refine wpAny_bind (wpAny_pure (wpAny_bind (wpAny_dictEpoch hod hdd ?_)))
 rw[if_neg (by simp)]
 refine wpAny_pure ?_
 simp only[show ¬((i:Int)<0) by omega,if_false,Int.toNat_natCast,Array.getElem?_eq_getElem hlt]
 refine wpAny_bind ?_
 first | refine wpAny_bind (wpAny_typeNameOfWhole_keyiter T (wpAny_pure ?_)) | refine wpAny_bind (wpAny_typeNameOf_keyiter T (wpAny_pure ?_))
 refine wpAny_bind (wpAny_isOneOf_keyiter T ?_)
 show wpAny _ _ (setField (.ref it) 1 (rawInt ((i:Int)+1)) >>= _) _ _ s
 refine wpAny_bind (wpAny_setField ho hd (by simp) ?_)
 have hit':(s.heap.update it (Obj.mapFields (·.setIfInBounds 1 (rawInt ((i:Int)+1))))).IsKeyIter it d (i+1) es.size ep:=
  ⟨_,Heap.get?_update_self _ ho (Obj.isFreed_of_fields (Obj.data_mapFields hd _)),(Obj.cls_mapFields ..).trans hc,by rw[Obj.data_mapFields hd];simp[rawInt]⟩
 refine wpAny_bind (wpAny_holding ?_)
 refine wpAny_bind (wpAny_isOneOf_keyiter (s:={ s with heap:=s.heap.update it (Obj.mapFields (·.setIfInBounds 1 (rawInt ((i:Int)+1)))) }) hit'.typeIs ?_)
 show wpAny _ _ (pure es[i].key) _ _ _
 exact wpAny_pure (wpAny_pure ⟨_,rfl,wpAny_pure (hQ _ hit' (Heap.SameBut.update ..))⟩)
theorem vH{it d:Addr}{i ep:Nat}{od:Obj}{es:Array DictEntry}{Q:Option Value->Shared->Prop}(hh:A.handled=none)(hit:s.heap.IsKeyIter it d i es.size ep)(hod:s.heap.get? d=some od)(hdd:od.data=.dict es ep)(hge:es.size<=i)
  (hQ:∀h',Heap.ExtBut it s.heap h'->Q none { s with heap:=h' }):wpAny (model prog w) A (pyNext (.ref it)) Q E s:=by
 obtain⟨o,ho,hc,hd⟩:=id hit
 have T:=hit.typeIs
 unfold pyNext
 refine wpAny_bind (wpAny_attempt (wpAny_callSpecial?_slot (name:=Str.ofString "__next__") T F.slot_dict_keyiterator_next (wpAny_call_entry F.slot_dict_keyiterator_next T F.entry_dict_keyiterator_next ?_ (F.args_dict_keyiterator_next_1 _))))
 refine wpAny_bind (wpAny_pure (wpAny_bind (wpAny_bind ?_)))
 first | refine wpAny_bind (wpAny_typeNameOfWhole_keyiter T (wpAny_pure ?_)) | refine wpAny_bind (wpAny_typeNameOf_keyiter T (wpAny_pure ?_))
 refine wpAny_bind (wpAny_fieldsOf ho hd ?_)
 simp only[show Builtin.Dict_items.ownsTuple "dict_keyiterator" = false by decide,Bool.false_eq_true,if_false]
 show wpAny _ _ (if(Value.ref d == Value.none)=true then _ else _) _ _ s
 rw[if_neg (show ¬((Value.ref d == Value.none)=true)from Bool.false_ne_true)]
 refine wpAny_bind (wpAny_pure (wpAny_bind (wpAny_dictEntries hod hdd ?_)))
 rw[if_neg (by simp)]
 refine wpAny_bind (wpAny_pure (wpAny_bind (wpAny_dictEpoch hod hdd ?_)))
 rw[if_neg (by simp)]
 refine wpAny_pure ?_
 simp only[show ¬((i:Int)<0) by omega,if_false,Int.toNat_natCast,Array.getElem?_eq_none hge]
 refine wpAny_bind ?_
 first | refine wpAny_bind (wpAny_typeNameOfWhole_keyiter T (wpAny_pure ?_)) | refine wpAny_bind (wpAny_typeNameOf_keyiter T (wpAny_pure ?_))
 show wpAny _ _ (setField (.ref it) 0 .none >>= _) _ _ s
 refine wpAny_bind (wpAny_setField ho hd (by simp) ?_)
 show wpAny _ _ (newExc (.type "StopIteration") [] >>= _) _ _ _
 refine wpAny_bind ?_
 simp only[newExc,newTuple]
 refine wpAny_bind (wpAny_newObj_type ?_ (by size_fits))
 refine wpAny_bind (m:=firstArgMember _ _) (wpAny_of_eq (a:=Value.none) (by first | rfl | (simp only[firstArgMember];rfl)) ?_)
 refine wpAny_newObj_type ?_ (by size_fits)
 simp only[raiseNew]
 refine wpAny_bind (wpAny_handled ?_)
 rw[show A.in1.handled=none from hh]
 refine wpAny_bind (wpAny_pure (wpAny_throw ?_))
 refine wpAny_bind (wpAny_isInstance (T:="StopIteration") (b:=true) ⟨_,Heap.get?_push_size _ rfl,rfl⟩ isSubtype_stop ?_)
 exact wpAny_pure (hQ _ (((Heap.SameBut.update ..).extBut.push _).push _))
theorem wt{d:Addr}{od:Obj}{es:Array DictEntry}{ep:Nat}{Q:Value->Shared->Prop}(hd:(d == sysModules)=false)(ho:s.heap.get? d=some od)(hx:od.ExactDict)(hdat:od.data=.dict es ep)
  (hQ:Q (.ref s.heap.objs.size) { s with heap:=s.heap.push { cls:=.type "dict_keyiterator",data:=.fields #[.ref d,.int 0 0,.int es.size 0,.int ep 0] } }):wpAny (model prog w) A (pyIter (.ref d)) Q E s:=by
 have T:s.TypeIs (.ref d) "dict":=⟨od,ho,hx.1⟩
 refine wpAny_pyIter_slot T F.slot_dict_iter (wpAny_call_entry F.slot_dict_iter T F.entry_dict_iter ?_ (F.args_dict_iter_1 _))
 unfold Builtin.«dict.__iter__»
 refine wpAny_bind ?_
 unfold Builtin.Dict.dictSlotNone
 refine wpAny_bind (wpAny_notOrdered_dict T ?_)
 show wpAny _ _ (pure (Value.ref d)) _ _ s
 refine wpAny_pure ?_
 show wpAny _ _ (Builtin.Dict.showsAll d >>= _) _ _ s
 unfold Builtin.Dict.showsAll
 rw[if_neg (by rw[hd];exact Bool.false_ne_true)]
 refine wpAny_bind (wpAny_pure (wpAny_bind (wpAny_dictEntries ho hdat (wpAny_bind (wpAny_dictEpoch ho hdat ?_)))))
 refine wpAny_bind (wpAny_newObj_type (wpAny_pure ⟨_,rfl,"dict_keyiterator",_,⟨_,Heap.get?_push_size _ rfl,rfl⟩,F.slot_dict_keyiterator_next.lookup,?_⟩))
 simpa[rawInt]using hQ
end
section
variable {X:Cx} {tg:Expr}
theorem AD{H:Hp}{kvs:List (List Key×V)}{xs:List (List Key×Addr×Value)}(r:KT H kvs xs):Paired (fun b (kv:List Key×V)=>H b=some (.tup (kv.1.map kV))) (xs.map (·.2.1)) kvs:=by
 induction r with
 | nil=>exact .nil
 | cons h _ ih=>exact .cons h.2.1 ih
end
end L2
set_option Elab.async false
set_option linter.all false
set_option maxRecDepth 100000
set_option maxHeartbeats 4000000
namespace L2
open PySem PySem.Spec PyProof.Rows
theorem rG:∀{xs:List V} {us:List Value},xs.length=us.length->(∀(j:Nat) v,us[j]?=some v->∃x,xs[j]?=some x/\RelV x v)->Vals xs us
 | [],[],_,_=>.nil
 | [],_::_,h,_=>by simp at h
 | _::_,[],h,_=>by simp at h
 | x::xs,u::us,h,g=>by
  obtain⟨y,hy,r⟩:=g 0 u rfl
  cases hy
  exact .cons r (rG (by simpa using h) fun j v hv=>by
   obtain⟨y,hy,r⟩:=g (j+1) v hv
   exact⟨y,hy,r⟩)
section
variable {X:Cx}
def kJ(z y:Str):Int:=match Builtin.Str.occurrences z y 0 z.length 1 with | i::_=>(i:Int) | []=>-1
def yT:V->List V->Hp->VK->Prop:=fun x vs H Q=>∃z y,x=.str z/\vs=[.str y]/\Q (.int (kJ z y)) H
theorem Ba:kl X "str.find" yT:=by
 intro pins s σ H x vs v us Q I rx rv h
 obtain⟨z,y,rfl,rfl,q⟩:=h
 obtain⟨t,rfl⟩:=rx
 obtain⟨u,rfl,t',rfl⟩:=vals1 rv
 exact call_gives F.slot_str_find (typeIs_str _ _ _) F.entry_str_find (F.args_str_find_2 _ _) (gives_str_find z y t t') (show EP X pins σ Q (.int (kJ z y) _) _ from⟨.int _,H,I.tok _,⟨_,rfl⟩,q⟩)
def x9:List V->Hp->VK->Prop:=fun xs H Q=>∃z,xs=[.str z]/\z.cps.size<=sizeLine/\∀l,H l=none->Q (.ref l) (upd H l (.lst (z.cps.toList.map fun c=>V.str ⟨#[c]⟩)))
theorem xM(hc:X.calm=true):bL X (.type "list") x9:=by
 intro pins s σ H xs us Q I r h
 obtain⟨z,rfl,hz,q⟩:=h
 obtain⟨u,rfl,t,rfl⟩:=vals1 r
 refine call_list_str (I.ok.hd hc) z t (hn:=hz) fun h' tk acc' c' hk hS' hacc=>?_
 have rel:Vals (z.cps.toList.map fun c=>V.str ⟨#[c]⟩) acc'.toList:=by
  refine rG (by rw[List.length_map,Array.length_toList,Array.length_toList,hacc.1]) fun j v hv=>?_
  obtain⟨c,u,hcc,rfl⟩:=hacc.2 j v (by rw[←Array.getElem?_toList];exact hv)
  exact⟨.str ⟨#[c]⟩,by rw[List.getElem?_map,Array.getElem?_toList,hcc];rfl,_,rfl⟩
 exact⟨.ref s.heap.objs.size,_,I.laid (t':=tk) (o:=.lst (z.cps.toList.map fun c=>V.str ⟨#[c]⟩)) hk (Nat.le_refl _) ⟨by rw[List.length_map,Array.length_toList];exact hz,_,c',rel,by simpa using hS'⟩,rfl,q _ (I.hok.fresh (Nat.le_refl _))⟩
def rJoin(K:PySem.W.Frag):V->List V->Hp->VK->Prop:=fun x vs H Q=>∃l zs,x=.str ⟨#[]⟩/\vs=[.ref l]/\af K H l (List.map V.str zs)/\(zs.map (·.length)).sum<=1000/\Q (.str (Txt.join ⟨#[]⟩ zs)) H
theorem rj:∀{zs:List Str} {us:List Value},Vals (zs.map V.str) us->StrsAre us zs
 | [],_,r=>by cases r;exact .nil
 | z::zs,_,r=>by
  cases r with
  | cons h t=>
   obtain⟨t',rfl⟩:=h
   exact .cons z t' (rj t)
theorem B7(K:PySem.W.Frag)(hK:X.K=K:=by rfl):kl X "str.join" (rJoin K):=by
 subst hK
 intro pins s σ H x vs v us Q I rx rv h
 obtain⟨l,zs,rfl,rfl,hl,hz,q⟩:=h
 obtain⟨t,rfl⟩:=rx
 obtain⟨u,rfl,ru⟩:=vals1 rv
 cases ru
 obtain⟨its,r,pl,hsz⟩:=I.list hl
 exact PyProof.Rows.join_list pl.isList (by simpa using rj r) (by show _+_*0<=_;omega) fun t' k=>⟨.str _,H,I.tok _,⟨_,rfl⟩,q⟩
end
theorem tI(a b:Nat):Builtin.bitAnd (a:Int) (b:Int)=((a &&& b:Nat):Int):=by
 unfold Builtin.bitAnd
 rw[decide_eq_true (Int.natCast_nonneg a),decide_eq_true (Int.natCast_nonneg b)]
 simp
theorem xF(a b:Nat):Builtin.bitOr (a:Int) (b:Int)=((a ||| b:Nat):Int):=by
 unfold Builtin.bitOr Builtin.bitAnd
 rw[show decide (0<=Builtin.bitNot (a:Int))=false from decide_eq_false (by unfold Builtin.bitNot;omega),show decide (0<=Builtin.bitNot (b:Int))=false from decide_eq_false (by unfold Builtin.bitNot;omega)]
 have e:∀c:Nat,Builtin.bitNot (Builtin.bitNot (c:Int))=(c:Int):=fun c=>by unfold Builtin.bitNot;omega
 simp only[e,Int.toNat_natCast]
def B1(K:PySem.W.Frag):List V->Hp->VK->Prop:=fun xs H Q=>∃(p:Addr) (bs:List Bool),xs=[.ref p]/\af K H p (bs.map V.bl)/\Q (.bl (bs.any id)) H
theorem any_range(bs:List Bool):((List.range bs.length).any fun i=>bs.getD i false)=bs.any id:=by
 rw[Bool.eq_iff_iff,List.any_eq_true,List.any_eq_true]
 constructor
 ·rintro⟨i,hi,h⟩
  have hi':=List.mem_range.mp hi
  rw[List.getD_eq_getElem?_getD,List.getElem?_eq_getElem hi']at h
  exact⟨_,List.getElem_mem hi',h⟩
 ·rintro⟨b,hb,h⟩
  obtain⟨i,hi,e⟩:=List.mem_iff_getElem.mp hb
  refine⟨i,List.mem_range.mpr hi,?_⟩
  rw[List.getD_eq_getElem?_getD,List.getElem?_eq_getElem hi,e]
  exact h
theorem Cs{X:Cx}(K:PySem.W.Frag)(hc:X.calm=true)(hK:X.K=K:=by rfl):bL X (.builtin "any") (B1 K):=by
 subst hK
 intro pins s σ H xs us Q I r h
 obtain⟨p,bs,rfl,hq,q⟩:=h
 obtain⟨u,rfl,rx⟩:=vals1 r
 cases rx
 obtain⟨its,rv,pl,hz⟩:=I.list hq
 have eb:=m8 rv
 have hne:p≠s.heap.objs.size:=Nat.ne_of_lt (by obtain⟨o,n,e,_⟩:=pl;exact Heap.lt_size e)
 refine call_any_walk (wpAny_pyIter_list pl.isList ?_)
 have I1:Inv X pins σ H { s with heap:=s.heap.push { cls:=.type "list_iterator",data:=.fields #[.ref p,.int 0 0] } }:=I.kept (t':=s.toks) fun b o e=>Heap.get?_push_of_some _ e
 have hf:=I.fpOk (H':=H) (Nat.le_refl s.heap.objs.size) I.fresh
 refine⟨s.heap.objs.size,_,_,_,_,_,(fun i=>bs.getD i false),rfl,Walks.list (A:=X.A.in1) (I.ok.hd hc) _ p hne its.toArray,⟨⟨_,Heap.get?_push_size _ rfl,rfl,rfl⟩,?_⟩,?_,fun h' tk hk=>?_⟩
 ·exact pl.isList.push _
 ·intro i v s' Q' E' hv hQ
  rw[eb]at hv
  have hv':(bs.map Value.bool)[i]?=some v:=by simpa using hv
  rw[List.getElem?_map]at hv'
  cases eg:bs[i]? with
  | none=>rw[eg]at hv';cases hv'
  | some b=>
   rw[eg]at hv'
   cases hv'
   have eb':bs.getD i false=b:=by rw[List.getD_eq_getElem?_getD,eg];rfl
   have hQ':Q' (bs.getD i false) s':=hQ
   rw[eb']at hQ'
   exact wpAny_truthy_bool hQ'
 ·obtain⟨f0,f1,f2,f3,f4,f5⟩:=hf
  have hl:=rv.length
  rw[List.length_map]at hl
  refine⟨.bl (bs.any id),H,I1.turned (it:=s.heap.objs.size) (fun b o hb e=>hk b o (by simpa using hb) e) f0 f1 f3 f4 f5,?_,q⟩
  show Value.bool _=Value.bool _
  rw[List.size_toArray,←hl,any_range]
end L2
set_option Elab.async false
set_option linter.all false
set_option maxRecDepth 100000
set_option maxHeartbeats 4000000
namespace L2
open PySem PySem.Spec PyProof.Rows
section
variable {X:Cx}
end
end L2
set_option Elab.async false
set_option linter.all false
set_option maxRecDepth 100000
set_option maxHeartbeats 4000000
namespace L2
open PySem PySem.Spec PyProof.Rows
abbrev cK(w:World):Bool:=!w.params.followText "set-order"
theorem Av(t:SetTable)(es:Array (Int×Value))(h:Int)(x:Value):(layNew t es h x).2.1.led=t.led:=by
 unfold layNew
 split
 ·show((t.put _).1.orStandIn _).led=t.led
  unfold SetTable.orStandIn
  split<;>rfl
 ·rfl
theorem BA{mask finger moves:Nat}{led plain:Bool}{hs:Array Int}{t:SetTable}{o:Array Nat}(h:SetTable.laid mask finger moves led plain hs=some (t,o)):t.led=led/\t.plain=plain:=by
 unfold SetTable.laid at h
 cases e:SetTable.layClean mask hs with
 | none=>rw[e]at h;cases h
 | some ow=>
  rw[e]at h
  cases h
  exact⟨rfl,rfl⟩
theorem yd(t:SetTable)(es:Array (Int×Value))(n:Nat):(relayAll t es n).2.1.led=t.led/\(t.plain=false->(relayAll t es n).2.1.plain=false):=by
 unfold relayAll
 split
 ·rename_i t' o e
  have:=BA e
  dsimp only
  split
  ·exact⟨this.1,fun h=>this.2.trans h⟩
  ·exact⟨rfl,fun _=>rfl⟩
 ·exact⟨rfl,fun _=>rfl⟩
section
variable {P:Program} {w:World} {A:Around} {E:Value->Shared->Prop} {s:Shared}
theorem vd(k:Str)(tk:Tok):(PySem.strKind P w).is k (.str k tk)=true:=by
 show Value.isStrOf k (.str k tk)=true
 simp[Value.isStrOf]
def cM(P:Program)(w:World)(h:Heap)(a:Addr)(S:Str->Bool)(n:Nat):Prop:=
 ∃o es ep t,h.get? a=some o/\o.ExactSet/\o.data=.set es ep t/\ElemsOf (PySem.strKind P w) es.toList/\(∀k,S k=true↔∃e∈es.toList,(PySem.strKind P w).is k e.2=true)/\es.size<scanBound/\t.fits es.size=true/\es.size=n/\t.led=cK w/\(t.plain=false\/es.size=0)
theorem cM.store{h:Heap}{a:Addr}{o:Obj}{es es':Array (Int×Value)}{ep:Nat}{t t':SetTable}{S':Str->Bool}(ho:h.get? a=some o)(hex:o.ExactSet)(hd:o.data=.set es ep t)
  (hel:ElemsOf (PySem.strKind P w) es'.toList) (hmem:∀k,S' k=true↔∃e∈es'.toList,(PySem.strKind P w).is k e.2=true) (hb:es'.size<scanBound) (hf:t'.fits es'.size=true) (hl:t'.led=cK w) (hp:t'.plain=false) :
  (h.update a (Obj.putSet es' t')).get? a=some { o with data:=.set es' (ep+1) t' }/\cM P w (h.update a (Obj.putSet es' t')) a S' es'.size:=by
 have hg:(h.update a (Obj.putSet es' t')).get? a=some { o with data:=.set es' (ep+1) t' }:=by
  have:=Heap.get?_update_self (Obj.putSet es' t') ho (by rw[putSet_of es' t' hd];rfl)
  rw[putSet_of es' t' hd]at this
  exact this
 exact⟨hg,_,es',ep+1,t',hg,hex,rfl,hel,hmem,hb,hf,rfl,hl,.inl hp⟩
theorem ug {g : Bool → Sem Unit} (hg : ∀ (b : Bool) (s₁ : Shared) (Q' : Unit → Shared → Prop), Q' () s₁ → wpAny (model P w) A (g b) Q' E s₁)
    {a : Addr} {o : Obj} {es es1 : Array (Int × Value)} {ep : Nat} {t t2 : SetTable} {S' : Str → Bool} (ho : s.heap.get? a = some o) (hex : o.ExactSet) (hd : o.data = .set es ep t)
    (hel1 : ElemsOf (PySem.strKind P w) es1.toList) (hmem1 : ∀ k', S' k' = true ↔ ∃ e ∈ es1.toList, (PySem.strKind P w).is k' e.2 = true) (hb1 : es1.size < scanBound) (hf2 : t2.fits es1.size = true) (hl2 : t2.led = cK w) (hp2 : t2.plain = false) {wd : Bool} {R : Option Bool → Shared → Prop}
    (h : ∀ h', Heap.SameBut a s.heap h' → cM P w h' a S' es1.size → R (some true) { s with heap := h' }) :
    wpAny (model P w) A (do
        storeSet a es1 t2
        if (!wd && t2.tooFull) = true then do
            g (relayAll t2 es1 (SetTable.grown es1.size)).2.2
            storeSet a (relayAll t2 es1 (SetTable.grown es1.size)).1 (relayAll t2 es1 (SetTable.grown es1.size)).2.1
            pure (some true)
          else pure (some true)) R E s := by
  refine wpAny_bind (wpAny_storeSet_of ho hd ?_ (fits_of_scanBound hb1))
  obtain ⟨ho1, hS1⟩ := cM.store (P := P) ho hex hd hel1 hmem1 hb1 hf2 hl2 hp2
  have hsb1 := Heap.SameBut.update s.heap a (Obj.putSet es1 t2)
  split
  · have hp := relayAll_perm t2 es1 (SetTable.grown es1.size)
    have hfr := relayAll_fits t2 es1 (SetTable.grown es1.size)
    obtain ⟨l1, l2⟩ := yd t2 es1 (SetTable.grown es1.size)
    generalize relayAll t2 es1 (SetTable.grown es1.size) = Rl at hp hfr l1 l2 ⊢
    obtain ⟨es2, t3, gave⟩ := Rl
    dsimp only at hp hfr l1 l2 ⊢
    have hsz : es2.size = es1.size := by rw [← Array.length_toList, hp.length_eq, Array.length_toList]
    refine wpAny_bind (hg _ _ _ (wpAny_bind (wpAny_storeSet_of ho1 rfl ?_ (fits_of_scanBound (by omega)))))
    obtain ⟨_, hS2⟩ := cM.store (P := P) (w := w) (S' := S') ho1 hex rfl (hel1.perm hp) (fun k' => (hmem1 k').trans ⟨fun ⟨e, he, q⟩ => ⟨e, hp.mem_iff.mpr he, q⟩, fun ⟨e, he, q⟩ => ⟨e, hp.mem_iff.mp he, q⟩⟩) (by omega) hfr (l1.trans hl2) (l2 hp2)
    rw [hsz] at hS2
    exact wpAny_pure (h _ (hsb1.trans (Heap.SameBut.update _ a _)) hS2)
  · exact wpAny_pure (h _ hsb1 hS1)
theorem Cc{a:Addr}{S:Str->Bool}{n:Nat}{k:Str}{tk:Tok}{Q:Bool->Shared->Prop}(hS:cM P w s.heap a S n)(hroom:n+1<scanBound)
  (h:∀h' b,Heap.SameBut a s.heap h'->cM P w h' a (fun k'=>S k' || decide (k'=k)) (if S k then n else n+1)->Q b { s with heap:=h' }) :
  wpAny (model P w) A (setAddHashed a (.str k tk) ((PySem.strKind P w).hash k)) Q E s:=by
 obtain⟨o,es,ep,t,ho,hex,hd,hel,hmem,hb,hf,hn,hled,hpl⟩:=hS
 have hkey:(PySem.strKind P w).is k (.str k tk)=true:=vd k tk
 have hsc:(Value.str k tk).scannable=true:=rfl
 unfold setAddHashed setAddHashedIn
 refine wpAny_holding (wpAny_bind (wpAny_setState_of ho hd hf ?_))
 dsimp only
 rw[byScan_of hsc hb hel]
 simp only[↓reduceIte]
 unfold setAddByScan
 refine wpAny_bind (wpAny_bind (wpAny_rule (wpAny_bind (wpAny_setScan_of hkey ho hd hf hel ?_))))
 cases hr:List.findIdx? (fun e=>(PySem.strKind P w).is k e.2) es.toList with
 | some j=>
  dsimp only
  obtain⟨hj,hpj,_⟩:=List.findIdx?_eq_some_iff_getElem.mp hr
  have hSk:S k=true:=(hmem k).mpr ⟨es.toList[j],List.getElem_mem hj,hpj⟩
  refine wpAny_pure (wpAny_pure ?_)
  have e:s={ s with heap:=s.heap }:=by cases s;rfl
  rw[e]
  refine h s.heap _ (Heap.SameBut.refl a s.heap) ⟨o,es,ep,t,ho,hex,hd,hel,fun k'=>?_,hb,hf,by rw[hSk];exact hn,hled,hpl⟩
  rw[Bool.or_eq_true,decide_eq_true_eq,←hmem k']
  exact⟨fun hk=>hk.elim id (fun e=>e ▸ hSk),.inl⟩
 | none=>
  dsimp only
  have hSk:S k=false:=by
   cases hk:S k with
   | false=>rfl
   | true=>
    obtain⟨e,he,hp⟩:=(hmem k).mp hk
    have:=List.findIdx?_eq_none_iff.mp hr e he
    rw[hp]at this
    cases this
  have hgw:∀(b:Bool) {s₁:Shared} {Q':Unit->Shared->Prop},Q' () s₁->wpAny (model P w) A (match b with | true=>rule "set.scan.the-table-gave-way" | false=>pure ()) Q' E s₁:=
   fun b s₁ Q' hq=>by cases b<;>first | exact wpAny_pure hq | exact wpAny_rule hq
  have hperm:=layNew_perm t es ((PySem.strKind P w).hash k) (.str k tk)
  have hfits:=layNew_fits t es ((PySem.strKind P w).hash k) (.str k tk)
  have hl1:=Av t es ((PySem.strKind P w).hash k) (.str k tk)
  generalize layNew t es ((PySem.strKind P w).hash k) (.str k tk)=L at hperm hfits hl1 ⊢
  obtain⟨es1,t1,wd,gave⟩:=L
  dsimp only at hperm hfits hl1 ⊢
  rw[Array.toList_push]at hperm
  have hel1:ElemsOf (PySem.strKind P w) es1.toList:=(hel.push hkey hsc).perm hperm
  have hmem1:∀k',(S k' || decide (k'=k))=true↔∃e∈es1.toList,(PySem.strKind P w).is k' e.2=true:=mem_push_iff hkey hmem hperm
  have hsz1:es1.size=n+1:=by rw[←Array.length_toList,hperm.length_eq,List.length_append,Array.length_toList,hn];rfl
  refine wpAny_bind (hgw _ ?_)
  have hend:∀h' b,Heap.SameBut a s.heap h'->cM P w h' a (fun k'=>S k' || decide (k'=k)) es1.size->Q b { s with heap:=h' }:=by
   intro h' b hsb hS'
   refine h h' b hsb ?_
   rw[hSk,if_neg Bool.false_ne_true,←hsz1]
   exact hS'
  by_cases htp:t1.plain=true
  ·rw[if_pos htp]
   refine wpAny_bind ?_
   rw[hashByValue_scannable 8 hsc]
   refine wpAny_pure ?_
   rw[show plainKind (.str k tk)=false from rfl]
   simp only[Bool.false_eq_true,if_false]
   refine ug ?_ ho hex hd hel1 hmem1 (by omega) (SetTable.fits_plain_off hfits) (hl1.trans hled) rfl ?_
   ·intro b s₁ Q' hq
    cases b<;>first | exact wpAny_pure hq | exact wpAny_rule hq
   ·intro h' hsb hS'
    dsimp only
    exact wpAny_pure (hend h' _ hsb hS')
  ·rw[if_neg htp]
   refine wpAny_bind (wpAny_pure ?_)
   simp only[if_true]
   refine ug ?_ ho hex hd hel1 hmem1 (by omega) hfits (hl1.trans hled) (by simpa using htp) ?_
   ·intro b s₁ Q' hq
    cases b<;>first | exact wpAny_pure hq | exact wpAny_rule hq
   ·intro h' hsb hS'
    dsimp only
    exact wpAny_pure (hend h' _ hsb hS')
end
theorem tJ:∀{vs:List Value} {zs:List Str},StrsAre vs zs->∀(i:Nat) (v:Value),vs[i]?=some v->∃z t,v=.str z t/\zs[i]?=some z
 | _,_,.nil,i,v,h=>by simp at h
 | _,_,.cons z t _,0,v,h=>by cases h;exact⟨z,t,rfl,rfl⟩
 | _,_,.cons z t r,i+1,v,h=>tJ r i v h
theorem zj{D ds:List Str}(hd:D.Nodup)(hs:∀k∈D,k∈ds)(hl:ds.length=D.length):ds.Perm D:=by
 induction D generalizing ds with
 | nil=>
  rw[List.length_nil,List.length_eq_zero_iff]at hl
  subst hl
  exact .refl _
 | cons d D ih=>
  have hm:=hs d List.mem_cons_self
  have p1:=List.perm_cons_erase hm
  have hd':=List.nodup_cons.mp hd
  refine p1.trans ((ih hd'.2 (fun k hk=>?_) ?_).cons d)
  ·refine(List.mem_erase_of_ne ?_).mpr (hs k (List.mem_cons_of_mem _ hk))
   rintro rfl
   exact hd'.1 hk
  ·rw[List.length_erase_of_mem hm,hl]
   rfl
section
variable {P:Program} {w:World} {A:Around} {E:Value->Shared->Prop} {s:Shared}
def dn(P:Program)(w:World)(h:Heap)(a:Addr)(D:List Str):Prop:=D.Nodup/\cM P w h a (fun k=>decide (k∈D)) D.length
theorem rZ:∀{l:List (Int×Value)},ElemsOf (PySem.strKind P w) l->∃ds,StrsAre (l.map (·.2)) ds/\∀e∈l,∀k,(PySem.strKind P w).is k e.2=true->k∈ds
 | [],_=>⟨[],.nil,fun e he=>by cases he⟩
 | e::l,h=>by
  obtain⟨ds,h1,h2⟩:=rZ (l:=l) fun x hx=>h x (List.mem_cons_of_mem _ hx)
  obtain⟨⟨k,hk,_⟩,_⟩:=h e List.mem_cons_self
  obtain⟨t,ht⟩:=Value.isStrOf_shape (x:=k) hk
  refine⟨k::ds,?_,fun x hx k' hk'=>?_⟩
  ·rw[List.map_cons,ht]
   exact .cons k t h1
  ·rcases List.mem_cons.mp hx with rfl | hx
   ·rw[ht]at hk'
    obtain⟨u,hu⟩:=Value.isStrOf_shape (x:=k') (v:=.str k t) hk'
    cases hu
    exact List.mem_cons_self
   ·exact List.mem_cons_of_mem _ (h2 x hx k' hk')
theorem dn.elems{h:Heap}{a:Addr}{D:List Str}(hS:dn P w h a D):∃o es ep t ds,h.get? a=some o/\o.ExactSet/\o.data=.set es ep t/\t.fits es.size=true/\t.led=cK w/\(t.plain=false\/es.size=0)/\es.size<scanBound/\es.size=D.length/\StrsAre (es.toList.map (·.2)) ds/\ds.Perm D:=by
 obtain⟨hnd,o,es,ep,t,ho,hex,hd,hel,hmem,hb,hf,hn,hled,hpl⟩:=hS
 obtain⟨ds,h1,h2⟩:=rZ hel
 refine⟨o,es,ep,t,ds,ho,hex,hd,hf,hled,hpl,hb,hn,h1,zj hnd (fun k hk=>?_) ?_⟩
 ·obtain⟨e,he,hke⟩:=(hmem k).mp (decide_eq_true hk)
  exact h2 e he k hke
 ·rw[←StrsAre.length h1,List.length_map,Array.length_toList,hn]
theorem cM.moved{h h':Heap}{a:Addr}{S:Str->Bool}{n:Nat}(hS:cM P w h a S n)(hk:∀o,h.get? a=some o->h'.get? a=some o):cM P w h' a S n:=by
 obtain⟨o,es,ep,t,ho,r⟩:=hS
 exact⟨o,es,ep,t,hk _ ho,r⟩
theorem vV{h:Heap}{a:Addr}{D:List Str}{k:Str}(hd:D.Nodup)(hS:cM P w h a (fun k'=>decide (k'∈D) || decide (k'=k)) (if decide (k∈D)then D.length else D.length+1)):∃D',dn P w h a D'/\D'.length<=D.length+1/\∀x,x∈D'↔x∈D\/x=k:=by
 by_cases hk:k∈D
 ·refine⟨D,⟨hd,?_⟩,Nat.le_succ _,fun x=>⟨.inl,fun z=>z.elim id fun e=>e ▸ hk⟩⟩
  rw[decide_eq_true hk,if_pos rfl]at hS
  have e:(fun k'=>decide (k'∈D) || decide (k'=k))=fun k'=>decide (k'∈D):=by
   funext k'
   by_cases e:k'=k
   ·subst e;simp[hk]
   ·simp[e]
  rw[e]at hS
  exact hS
 ·refine⟨k::D,⟨List.nodup_cons.mpr ⟨hk,hd⟩,?_⟩,Nat.le_refl _,fun x=>by rw[List.mem_cons];exact⟨fun z=>z.symm,fun z=>z.symm⟩⟩
  rw[decide_eq_false hk,if_neg Bool.false_ne_true]at hS
  have e:(fun k'=>decide (k'∈D) || decide (k'=k))=fun k'=>decide (k'∈k::D):=by
   funext k'
   simp only[List.mem_cons]
   by_cases e:k'=k<;>by_cases e2:k'∈D<;>simp[e,e2]
  rw[e]at hS
  exact hS
theorem zo{I:Addr}{fp wr:List Addr}{G:Array GenState->Array GenState->Prop}{n:Nat}{Pz:Nat->Value->Prop}{St:Nat->Shared->Prop}(W:WalksS P w A.in1 I fp wr G n Pz St)(S:Addr)(hS:S∉fp)(zs:List Str)(hnz:zs.length=n)(hsz:n+1<scanBound)
  (hval:∀i v,Pz i v->∃z t,v=.str z t/\zs[i]?=some z) {R:Result->Shared->Prop} :
  ∀(m i:Nat) (s:Shared) (D:List Str),n-i=m->i<=n->St i s->dn P w s.heap S D->D.length<=i->(∀k,k∈D↔k∈zs.take i) →
   (∀s' D,Moved (S::wr) G s s'->dn P w s'.heap S D->(∀k,k∈D↔k∈zs)->R (.ok (.ret .none)) s') →
   codeAny (model P w) A (.builtin "set.update.loop" ⟨[.ref S,.ref I],[]⟩) R s:=by
 have hSw:S∉wr:=fun z=>hS (W.sub _ z)
 have more:∀b∈wr,b∈S::wr:=fun b z=>List.mem_cons_of_mem _ z
 intro m
 induction m with
 | zero=>
  intro i s D hm hi hst hset _ hD hR
  obtain rfl:i=n:=by omega
  refine codeAny_builtin F.entry_set_update_loop ?_
  rw[Around.under_plainId F.plain_set_update_loop _]
  show wpAny _ A.in1 (pyNext (.ref I) >>= _) _ _ s
  refine wpAny_bind (W.done s _ _ hst fun s' mv=>?_)
  rw[←hnz,List.take_length]at hD
  exact wpAny_pure (hR s' D (mv.mono more) ⟨hset.1,hset.2.moved fun o=>mv.heap S o hSw⟩ hD)
 | succ m ih=>
  intro i s D hm hi hst hset hDl hD hR
  have hlt:i<n:=by omega
  refine codeAny_builtin F.entry_set_update_loop ?_
  rw[Around.under_plainId F.plain_set_update_loop _]
  show wpAny _ A.in1 (pyNext (.ref I) >>= _) _ _ s
  refine wpAny_bind (W.item i s _ _ hlt hst fun v s' hP hst' mv=>?_)
  obtain⟨z,t,rfl,hz⟩:=hval i v hP
  have hset':cM P w s'.heap S (fun k=>decide (k∈D)) D.length:=hset.2.moved fun o=>mv.heap S o hSw
  show wpAny _ A.in1 (holding [Value.str z t] (setAdd S (.str z t)) >>= _) _ _ s'
  refine wpAny_bind (wpAny_holding ?_)
  unfold setAdd
  refine wpAny_holding (wpAny_bind ((PySem.strKind P w).pyHash (k:=z) (vd z t) ?_))
  refine Cc (s:={ s' with toks:=s'.toks+1 }) hset' (by omega) fun h' b sb hset2=>?_
  obtain⟨D',hD1,hD2,hD3⟩:=vV hset.1 hset2
  have htk:∀k,k∈D'↔k∈zs.take (i+1):=fun k=>by
   rw[hD3,hD k,List.take_add_one,hz,List.mem_append]
   simp
  refine wpAny_pure ⟨plainId_quiet F.plain_set_update_loop _,ih (i+1) _ D' (by omega) hlt (W.frame _ s' _ _ hst' (Nat.le_succ _) fun c hc o e=>?_) hD1 (by omega) htk fun s'' D2 mv2 hS2=>hR s'' D2 (Moved.trans W.gtrans ((mv.mono more).then_heap (Nat.le_succ _) fun c o hc e=>?_) mv2) hS2⟩
  ·rw[sb.2 c (fun z:c=S=>hS (z ▸ hc))]
   exact e
  ·rw[sb.2 c (fun z:c=S=>hc (by rw[z];exact List.mem_cons_self))]
   exact e
theorem wA(a:Value){Q₁:Value->Shared->Prop}(h:Q₁ (.ref s.heap.objs.size) { s with heap:=s.heap.push (bV (cK w)) }):
  codeAny (model P w) A (.call (.builtin "set.__new__") ⟨[.type "set",a],[]⟩) (wants Q₁ E) s:=by
 refine codeAny_of_tree ?_
 show wpAny _ A.in1 (do checkBuiltinCall "set.__new__" ⟨[.type "set",a],[]⟩;again (.builtin "set.__new__" ⟨[.type "set",a],[]⟩)) _ _ s
 refine wpAny_bind (wpAny_of_eq (F.newCall_set_1 a) (wpAny_pure ⟨plainId_quiet F.plain_set_new _,codeAny_builtin F.entry_set_new ?_⟩))
 rw[Around.under_plainId F.plain_set_new _]
 unfold Builtin.«set.__new__» Builtin.Frozenset.newClass
 have hsub:=sub_set_self
 obtain⟨hp,g,d,tk,os⟩:=s
 dsimp only
 wp_walk
 refine wpAny_askSetting (wpAny_pure ?_)
 dsimp only
 simp only[newObj]
 refine wpAny_bind (wpAny_alloc (wpAny_pure ?_))
 exact wpAny_pure h
theorem w9{l:Addr}{ys:Array Value}{zs:List Str}{Q:Value->Shared->Prop}(hA:A.handled=none)(gt:s.heap.IsList l ys)(hz:StrsAre ys.toList zs)(hsz:ys.size+1<scanBound)
  (h:∀(h':Heap) (tk:Nat) (D:List Str),dn P w h' s.heap.objs.size D->(∀k,k∈D↔k∈zs)->(∀b o,b<s.heap.objs.size->s.heap.get? b=some o->h'.get? b=some o)->Q (.ref s.heap.objs.size) { s with heap:=h',toks:=tk }):wpAny (model P w) A (call (.type "set") [.ref l]) Q E s:=by
 have x1:=F.called_set.notType
 have x2:=F.called_set.canCreate
 have x3:=F.typeCall_set_1 (.ref l)
 have x4:=F.called_set.made
 have x5:=F.called_set.sub
 obtain⟨c,tl,x6⟩:=F.called_set.mro
 refine wpAny_call (codeAny_of_tree ?_)
 show wpAny _ _ (callAny (.type "set") _) _ _ _
 refine wpAny_pure ⟨Code.quiet_builtin _ (by decide +kernel),codeAny_builtin F.entry_type_call ?_⟩
 rw[Around.under_plain (weight_type_call_type "set" [.ref l] []) rfl]
 repeat (any_goals (first | assumption | wp_step))
 refine codeAny_mono (wA (.ref l) (E:=E) (Q₁:=fun v s1=>v=.ref s.heap.objs.size/\s1={ s with heap:=s.heap.push (bV (cK w)) }) ⟨rfl,rfl⟩) fun r s1 hr=>?_
 cases r with
 | error e=>exact hr
 | ok fl=>
  cases fl with
  | ret v=>
   obtain⟨rfl,rfl⟩:=hr
   have gS:(s.heap.push (bV (cK w))).get? s.heap.objs.size=some (bV (cK w)):=Heap.get?_push_size _ rfl
   have hT:Shared.TypeIs { s with heap:=s.heap.push (bV (cK w)) } (.ref s.heap.objs.size) "set":=⟨_,gS,rfl⟩
   have x7:=F.called_set.init.lookup
   have x8:=F.called_set.init.bind (.ref s.heap.objs.size)
   repeat (any_goals (first | assumption | wp_step))
   refine codeAny_mono (codeAny_call_builtin (R:=wants (fun r s2=>r=.none/\∃h' tk D,s2={ s with heap:=h',toks:=tk }/\dn P w h' s.heap.objs.size D/\(∀k,k∈D↔k∈zs)/\∀b o,b<s.heap.objs.size->s.heap.get? b=some o->h'.get? b=some o) E) F.called_set.init.plain F.entry_set_init (check_set_init_1 hT ?_)) fun r2 s2 hr2=>?_
   ·have g1:(s.heap.push (bV (cK w))).IsList l ys:=gt.push _
    have hlt:l<s.heap.objs.size:=by
     obtain⟨o,ho,_⟩:=gt
     exact Heap.lt_size ho
    obtain⟨ol,hol,hcl,nl,hdl⟩:=id g1
    obtain⟨c0,d0,dt,sl⟩:=ol
    simp only at hcl hdl
    subst hcl hdl
    have y1:=F.sub_list_set
    have y2:=F.sub_list_frozenset
    have y3:(Value.type "list" == Value.type "dict")=false:=by decide
    unfold Builtin.«set.__init__» noKeywords Builtin.Frozenset.updateFrom
    generalize hit:pyIter=PI
    wp_walk
    subst hit
    refine wpAny_pyIter_list g1 ?_
    refine wpAny_bind (wpAny_runValue ?_)
    have e1:(s.heap.push (bV (cK w))).objs.size=s.heap.objs.size+1:=Heap.size_push _ _
    have hA3:A.in1.in1.in1.handled=none:=by simp[hA]
    have hne:l≠(s.heap.push (bV (cK w))).objs.size:=by
     rw[e1]
     exact Nat.ne_of_lt (Nat.lt_succ_of_lt hlt)
    have hSf:s.heap.objs.size∉[(s.heap.push (bV (cK w))).objs.size,l]:=by
     intro z
     rcases List.mem_cons.mp z with z | z
     ·rw[e1]at z
      exact Nat.ne_of_lt (Nat.lt_succ_self _) z
     ·exact Nat.ne_of_gt hlt (List.mem_singleton.mp z)
    have hzl:zs.length=ys.size:=by rw[←StrsAre.length hz,Array.length_toList]
    refine zo ((Walks.list hA3 _ l hne ys).toS) s.heap.objs.size hSf zs hzl hsz (fun i v hv=>?_) (ys.size-0) 0 _ [] (by omega) (Nat.zero_le _) ⟨⟨_,Heap.get?_push_size _ rfl,rfl,rfl⟩,g1.push _⟩
     ⟨List.nodup_nil,bV (cK w),#[],0,_,Heap.get?_push_of_some _ gS,⟨rfl,rfl,rfl⟩,rfl,fun e he=>by simp at he,fun k=>by simp,by decide,by rfl,rfl,rfl,.inr rfl⟩ (Nat.le_refl _) (fun k=>by simp) fun s' D mv hS' hD=>?_
    ·exact tJ hz i v (by rw[Array.getElem?_toList];exact hv)
    ·obtain⟨h',g',d',tk',os'⟩:=s'
     have q1:g'=s.gens:=mv.gens
     have q2:d'=s.drawn:=mv.drawn
     have q3:os'=s.os:=mv.os
     subst q1 q2 q3
     show wpAny _ _ _ _ _ _
     refine wpAny_pure ?_
     show wpAny _ _ (ret Value.none) _ _ _
     refine wpAny_pure ⟨rfl,h',tk',D,rfl,hS',hD,fun b o hb e=>mv.heap b o (fun z=>?_) (Heap.get?_push_of_some _ (Heap.get?_push_of_some _ e))⟩
     rcases List.mem_cons.mp z with z | z
     ·exact Nat.ne_of_lt hb z
     ·have z:=List.mem_singleton.mp z
      rw[e1]at z
      exact Nat.ne_of_lt (Nat.lt_succ_of_lt hb) z
   ·cases r2 with
    | error e=>exact hr2
    | ok f2=>
     cases f2 with
     | ret r=>
      obtain⟨rfl,h',tk,D,rfl,hS',hD,hk⟩:=hr2
      repeat (any_goals (first | assumption | wp_step))
      exact h _ _ D hS' hD hk
     | _=>exact hr2.elim
  | _=>exact hr.elim
end
end L2
set_option Elab.async false
set_option linter.all false
set_option maxRecDepth 100000
set_option maxHeartbeats 4000000
namespace L2
open PySem PySem.Spec PyProof.Rows
namespace SF
theorem nH:entryFor table "set.__iter__" = some Builtin.«frozenset.__iter__»:=entryFor_alias (id':="frozenset.__iter__") (by kernel_rfl) rfl (by decide +kernel) (by kernel_rfl)
theorem uk(a:Value):argsOk "set.__iter__" ⟨[a],[]⟩:=by unfold argsOk;kernel_rfl
theorem slot_next:Slot "set_iterator" "__next__" "set_iterator.__next__":=
 .of (owner:="set_iterator") (n:="__next__") (by rw[typeLookup_type,builtinLookup_eq_fast];kernel_rfl) (by decide +kernel) (by decide +kernel) (by decide +kernel)
  (by first | exact .inl (by decide +kernel) | exact .inr (by decide +kernel)) (by rw[isSubtype_type];kernel_rfl)
theorem entry_next:entryFor table "set_iterator.__next__" = some Builtin.«set_iterator.__next__»:=entryFor_of_fast (by kernel_rfl)
theorem args_next(a:Value):argsOk "set_iterator.__next__" ⟨[a],[]⟩:=by unfold argsOk;kernel_rfl
theorem rJ:Slot "set_iterator" "__iter__" "set_iterator.__iter__":=
 .of (owner:="set_iterator") (n:="__iter__") (by rw[typeLookup_type,builtinLookup_eq_fast];kernel_rfl) (by decide +kernel) (by decide +kernel) (by decide +kernel)
  (by first | exact .inl (by decide +kernel) | exact .inr (by decide +kernel)) (by rw[isSubtype_type];kernel_rfl)
theorem vY:entryFor table "set_iterator.__iter__" = some Builtin.«dict_keyiterator.__iter__»:=entryFor_alias (id':="dict_keyiterator.__iter__") (by kernel_rfl) rfl (by decide +kernel) (by kernel_rfl)
theorem vO(a:Value):argsOk "set_iterator.__iter__" ⟨[a],[]⟩:=by unfold argsOk;kernel_rfl
end SF
section
variable {P:Program} {w:World} {A:Around} {E:Value->Shared->Prop} {s:Shared}
theorem zq{n:Nat}{Q:Nat->Shared->Prop}(hn:n≠0)(h:∀i d,i<n->Q i { s with drawn:=d }):wpAny (model P w) A (choose .order n) Q E s:=fun Γ p hΓ=>by
 unfold choose
 rw[Sem.wp_choose]
 exact⟨hn,by rw[Sem.wp_pure];exact h _ _ (Nat.mod_lt _ (Nat.pos_of_ne_zero hn))⟩
theorem f7{α:Type}:∀{l:List α} {i:Nat} (h:i<l.length),(l[i]::l.eraseIdx i).Perm l
 | [],i,h=>by cases h
 | x::l,0,h=>.refl _
 | x::l,i+1,h=>by
  have:=f7 (l:=l) (i:=i) (Nat.lt_of_succ_lt_succ h)
  exact(List.Perm.swap _ _ _).trans (this.cons x)
theorem uc{α:Type}:∀(n:Nat) (xs:List α) (s:Shared) {Q:List α->Shared->Prop},n=xs.length->(∀ys d,ys.Perm xs->Q ys { s with drawn:=d })->wpAny (model P w) A (drawOrder n xs) Q E s
 | 0,xs,s,Q,hn,h=>by
  obtain rfl:=List.length_eq_zero_iff.mp hn.symm
  unfold drawOrder
  exact wpAny_pure (h [] s.drawn (.refl _))
 | n+1,[],s,Q,hn,h=>by cases hn
 | n+1,x::xs,s,Q,hn,h=>by
  unfold drawOrder
  refine wpAny_bind (zq (by simp) fun i d hi=>?_)
  have e:(x::xs)[i]?=some (x::xs)[i]:=List.getElem?_eq_getElem hi
  rw[e]
  dsimp only
  refine wpAny_bind (uc n _ { s with drawn:=d } (by rw[List.length_eraseIdx_of_lt hi,←hn];rfl) fun ys d' hp=>wpAny_pure (h _ d' ?_))
  exact(List.Perm.cons _ hp).trans (f7 hi)
theorem vD{α:Type}(next:Nat->Nat):∀(fuel k:Nat) (left:List α) (out:Array α),fuel=left.length->(pickOrder.go next fuel k left out).toList.Perm (out.toList++left)
 | 0,k,left,out,h=>by
  obtain rfl:=List.length_eq_zero_iff.mp h.symm
  unfold pickOrder.go
  rw[List.append_nil]
 | fuel+1,k,left,out,h=>by
  unfold pickOrder.go
  have hlt:next k % left.length<left.length:=Nat.mod_lt _ (by omega)
  rw[List.getElem?_eq_getElem hlt]
  dsimp only
  refine(vD next fuel (k+1) _ _ (by rw[List.length_eraseIdx_of_lt hlt];omega)).trans ?_
  rw[Array.toList_push,List.append_assoc]
  exact(f7 hlt).append_left _
theorem gH{α:Type}(next:Nat->Nat)(xs:Array α):(pickOrder next xs).toList.Perm xs.toList:=by
 have:=vD next xs.size 0 xs.toList #[] (by simp)
 rw[List.nil_append]at this
 exact this
end
end L2
set_option Elab.async false
set_option linter.all false
set_option maxRecDepth 100000
set_option maxHeartbeats 4000000
namespace L2
open PySem PySem.Spec PyProof.Rows
section
variable {P:Program} {w:World} {A:Around} {E:Value->Shared->Prop} {s:Shared}
abbrev aP(a:Addr)(first:Value)(i n ep:Nat):Obj:={ cls:=.type "set_iterator",data:=.fields #[first,rawInt i,.ref a,rawInt n,rawInt ep] }
theorem lR{it:Addr}{h1:Heap}{Q:Option Value->Shared->Prop}(hh:A.handled=none)(he:Heap.ExtBut it s.heap h1)(hQ:∀h',Heap.ExtBut it s.heap h'->Q none { s with heap:=h' }):
  wpAny (model P w) A.in1 (newExc (.type "StopIteration") [] >>= raiseNew) (fun r s'=>∃v,r=Fin.done (.ret v)/\wpAny (model P w) A (pure (some v)) Q E s') (fun e s'=>wpAny (model P w) A (do if ←isInstance e (.type "StopIteration")then pure none else throw e) Q E s') { s with heap:=h1 }:=by
 refine wpAny_bind ?_
 simp only[newExc,newTuple]
 refine wpAny_bind (wpAny_newObj_type ?_ (by size_fits))
 refine wpAny_bind (m:=firstArgMember _ _) (wpAny_of_eq (a:=Value.none) (by first | rfl | (simp only[firstArgMember];rfl)) ?_)
 refine wpAny_newObj_type ?_ (by size_fits)
 simp only[raiseNew]
 refine wpAny_bind (wpAny_handled ?_)
 rw[show A.in1.handled=none from hh]
 refine wpAny_bind (wpAny_pure (wpAny_throw ?_))
 refine wpAny_bind (wpAny_isInstance (T:="StopIteration") (b:=true) ⟨_,Heap.get?_push_size _ rfl,rfl⟩ isSubtype_stop ?_)
 exact wpAny_pure (hQ _ ((he.push _).push _))
theorem gw{it a:Addr}{first x:Value}{i n ep k:Nat}{f':Array Value}{h:Heap}(ho:h.get? it=some (aP a first i n ep))(hf:(#[first,rawInt i,.ref a,rawInt n,rawInt ep]:Array Value).setIfInBounds k x=f'):
  (h.update it (Obj.mapFields (·.setIfInBounds k x))).get? it=some { cls:=.type "set_iterator",data:=.fields f' }:=by
 have:=Heap.get?_update_self (Obj.mapFields (·.setIfInBounds k x)) ho (Obj.isFreed_of_fields (Obj.data_mapFields rfl _))
 rw[this,←hf]
 rfl
theorem za{it a:Addr}{i ep:Nat}{o:Obj}{es:Array (Int×Value)}{t:SetTable}{Q:Option Value->Shared->Prop}(hT:w.params.followText "set-order" = true)(hit:s.heap.get? it=some (aP a (rawInt 0) i es.size ep))(ho:s.heap.get? a=some o)(hd:o.data=.set es ep t)(hf:t.fits es.size=true)
  {x:Int×Value} (hx:(pickOrder (w.params.setOrder a ep) es)[i]?=some x) (hQ:∀h',h'.get? it=some (aP a (rawInt 0) (i+1) es.size ep)->Heap.SameBut it s.heap h'->Q (some x.2) { s with heap:=h' }):wpAny (model P w) A (pyNext (.ref it)) Q E s:=by
 have T:s.TypeIs (.ref it) "set_iterator":=⟨_,hit,rfl⟩
 unfold pyNext
 refine wpAny_bind (wpAny_attempt (wpAny_callSpecial?_slot (name:=Str.ofString "__next__") T SF.slot_next (wpAny_call_entry SF.slot_next T SF.entry_next ?_ (SF.args_next _))))
 show wpAny _ _ (fieldsOf (.ref it) >>= _) _ _ s
 refine wpAny_bind (wpAny_fieldsOf hit rfl ?_)
 show wpAny _ _ (setEntries a >>= _) _ _ s
 unfold setEntries
 refine wpAny_bind (wpAny_bind (wpAny_setState_of ho hd hf (wpAny_pure ?_)))
 rw[if_neg (by simp)]
 show wpAny _ _ (setNext a 0 _ _ >>= _) _ _ s
 unfold setNext
 refine wpAny_bind (wpAny_bind (wpAny_setState_of ho hd hf ?_))
 dsimp only
 unfold setsByText
 refine wpAny_bind (wpAny_bind (wpAny_askSetting (wpAny_pure ?_)))
 rw[show (model P w).w.params.followText "set-order" = true from hT]
 simp only[if_true]
 rw[if_neg (by simp)]
 unfold setWalk
 refine wpAny_bind (wpAny_bind (wpAny_setState_of ho hd hf ?_))
 dsimp only
 unfold setsByText
 refine wpAny_bind (wpAny_bind (wpAny_askSetting (wpAny_pure ?_)))
 rw[show (model P w).w.params.followText "set-order" = true from hT]
 simp only[if_true]
 refine wpAny_bind (wpAny_askSetting (wpAny_pure ?_))
 rw[Int.toNat_natCast]
 have hx':(pickOrder ((model P w).w.params.setOrder a ep) es)[i]?=some x:=hx
 rw[hx']
 refine wpAny_pure ?_
 dsimp only[Option.map_some,Option.map_none]
 refine wpAny_bind (wpAny_setField hit rfl (by simp) ?_)
 have e1:=gw (k:=0) (x:=rawInt (0:Nat)) hit rfl
 have e1':(s.heap.update it (Obj.mapFields (·.setIfInBounds 0 (rawInt (0:Nat))))).get? it=some (aP a (rawInt 0) i es.size ep):=e1
 refine wpAny_bind (wpAny_setField (s:={ s with heap:=s.heap.update it (Obj.mapFields (·.setIfInBounds 0 (rawInt (0:Nat)))) }) e1' rfl (by simp) ?_)
 have e2:=gw (k:=1) (x:=rawInt ((i:Int)+1)) e1' rfl
 refine wpAny_pure ⟨_,rfl,wpAny_pure (hQ _ ?_ ((Heap.SameBut.update ..).trans (Heap.SameBut.update ..)))⟩
 exact e2
theorem A1{it a:Addr}{i ep:Nat}{o:Obj}{es:Array (Int×Value)}{t:SetTable}{Q:Option Value->Shared->Prop}(hh:A.handled=none)(hT:w.params.followText "set-order" = true)(hit:s.heap.get? it=some (aP a (rawInt 0) i es.size ep))(ho:s.heap.get? a=some o)(hd:o.data=.set es ep t)(hf:t.fits es.size=true)
  (hx:(pickOrder (w.params.setOrder a ep) es)[i]?=none) (hQ:∀h',Heap.ExtBut it s.heap h'->Q none { s with heap:=h' }):wpAny (model P w) A (pyNext (.ref it)) Q E s:=by
 have T:s.TypeIs (.ref it) "set_iterator":=⟨_,hit,rfl⟩
 unfold pyNext
 refine wpAny_bind (wpAny_attempt (wpAny_callSpecial?_slot (name:=Str.ofString "__next__") T SF.slot_next (wpAny_call_entry SF.slot_next T SF.entry_next ?_ (SF.args_next _))))
 show wpAny _ _ (fieldsOf (.ref it) >>= _) _ _ s
 refine wpAny_bind (wpAny_fieldsOf hit rfl ?_)
 show wpAny _ _ (setEntries a >>= _) _ _ s
 unfold setEntries
 refine wpAny_bind (wpAny_bind (wpAny_setState_of ho hd hf (wpAny_pure ?_)))
 rw[if_neg (by simp)]
 show wpAny _ _ (setNext a 0 _ _ >>= _) _ _ s
 unfold setNext
 refine wpAny_bind (wpAny_bind (wpAny_setState_of ho hd hf ?_))
 dsimp only
 unfold setsByText
 refine wpAny_bind (wpAny_bind (wpAny_askSetting (wpAny_pure ?_)))
 rw[show (model P w).w.params.followText "set-order" = true from hT]
 simp only[if_true]
 rw[if_neg (by simp)]
 unfold setWalk
 refine wpAny_bind (wpAny_bind (wpAny_setState_of ho hd hf ?_))
 dsimp only
 unfold setsByText
 refine wpAny_bind (wpAny_bind (wpAny_askSetting (wpAny_pure ?_)))
 rw[show (model P w).w.params.followText "set-order" = true from hT]
 simp only[if_true]
 refine wpAny_bind (wpAny_askSetting (wpAny_pure ?_))
 rw[Int.toNat_natCast]
 have hx':(pickOrder ((model P w).w.params.setOrder a ep) es)[i]?=none:=hx
 rw[hx']
 refine wpAny_pure ?_
 dsimp only[Option.map_some,Option.map_none]
 refine wpAny_bind (wpAny_setField hit rfl (by simp) ?_)
 exact lR (s:=s) (it:=it) hh (Heap.SameBut.update ..).extBut hQ
theorem Aq{it a:Addr}{i ep:Nat}{o:Obj}{es:Array (Int×Value)}{t:SetTable}{Q:Option Value->Shared->Prop}{T0:Addr}{ys:List Nat}(hT0:s.heap.get? T0=some (seqObj "tuple" (ys.map fun(i:Nat)=>rawInt i).toArray 0))(hit:s.heap.get? it=some (aP a (.ref T0) i es.size ep))(ho:s.heap.get? a=some o)(hd:o.data=.set es ep t)(hf:t.fits es.size=true)
  {y:Nat} {x:Int×Value} (hy:ys[i]?=some y) (hx:es[y]?=some x) (hQ:∀h',h'.get? it=some (aP a (.ref T0) (i+1) es.size ep)->Heap.SameBut it s.heap h'->Q (some x.2) { s with heap:=h' }):wpAny (model P w) A (pyNext (.ref it)) Q E s:=by
 have T:s.TypeIs (.ref it) "set_iterator":=⟨_,hit,rfl⟩
 unfold pyNext
 refine wpAny_bind (wpAny_attempt (wpAny_callSpecial?_slot (name:=Str.ofString "__next__") T SF.slot_next (wpAny_call_entry SF.slot_next T SF.entry_next ?_ (SF.args_next _))))
 show wpAny _ _ (fieldsOf (.ref it) >>= _) _ _ s
 refine wpAny_bind (wpAny_fieldsOf hit rfl ?_)
 show wpAny _ _ (setEntries a >>= _) _ _ s
 unfold setEntries
 refine wpAny_bind (wpAny_bind (wpAny_setState_of ho hd hf (wpAny_pure ?_)))
 rw[if_neg (by simp)]
 show wpAny _ _ (seqItems? (.ref T0) >>= _) _ _ s
 refine wpAny_bind (wpAny_seqItems hT0 rfl ?_)
 dsimp only
 rw[Int.toNat_natCast]
 have hpl:((ys.map fun(i:Nat)=>rawInt i).toArray:Array Value)[i]?=some (rawInt y):=by
  rw[List.getElem?_toArray,List.getElem?_map,hy]
  rfl
 rw[hpl]
 show wpAny _ _ (setNextDrawn a _ _ >>= _) _ _ s
 unfold setNextDrawn
 refine wpAny_bind (wpAny_bind (wpAny_setState_of ho hd hf ?_))
 dsimp only
 rw[if_neg (by simp)]
 simp only[Int.toNat_natCast]
 rw[hx]
 refine wpAny_pure ?_
 refine wpAny_bind (wpAny_setField hit rfl (by simp) ?_)
 have e2:=gw (k:=1) (x:=rawInt ((i:Int)+1)) hit rfl
 exact wpAny_pure ⟨_,rfl,wpAny_pure (hQ _ e2 (Heap.SameBut.update ..))⟩
theorem yE{it a:Addr}{i ep:Nat}{o:Obj}{es:Array (Int×Value)}{t:SetTable}{Q:Option Value->Shared->Prop}{T0:Addr}{ys:List Nat}(hh:A.handled=none)(hT0:s.heap.get? T0=some (seqObj "tuple" (ys.map fun(i:Nat)=>rawInt i).toArray 0))(hit:s.heap.get? it=some (aP a (.ref T0) i es.size ep))(ho:s.heap.get? a=some o)(hd:o.data=.set es ep t)(hf:t.fits es.size=true)
  (hy:ys[i]?=none) (hQ:∀h',Heap.ExtBut it s.heap h'->Q none { s with heap:=h' }):wpAny (model P w) A (pyNext (.ref it)) Q E s:=by
 have T:s.TypeIs (.ref it) "set_iterator":=⟨_,hit,rfl⟩
 unfold pyNext
 refine wpAny_bind (wpAny_attempt (wpAny_callSpecial?_slot (name:=Str.ofString "__next__") T SF.slot_next (wpAny_call_entry SF.slot_next T SF.entry_next ?_ (SF.args_next _))))
 show wpAny _ _ (fieldsOf (.ref it) >>= _) _ _ s
 refine wpAny_bind (wpAny_fieldsOf hit rfl ?_)
 show wpAny _ _ (setEntries a >>= _) _ _ s
 unfold setEntries
 refine wpAny_bind (wpAny_bind (wpAny_setState_of ho hd hf (wpAny_pure ?_)))
 rw[if_neg (by simp)]
 show wpAny _ _ (seqItems? (.ref T0) >>= _) _ _ s
 refine wpAny_bind (wpAny_seqItems hT0 rfl ?_)
 dsimp only
 rw[Int.toNat_natCast]
 have hpl:((ys.map fun(i:Nat)=>rawInt i).toArray:Array Value)[i]?=none:=by
  rw[List.getElem?_toArray,List.getElem?_map,hy]
  rfl
 rw[hpl]
 refine wpAny_bind (wpAny_setField hit rfl (by simp) ?_)
 have e1:=gw (k:=0) (x:=rawInt 0) hit rfl
 have e1':(s.heap.update it (Obj.mapFields (·.setIfInBounds 0 (rawInt 0)))).get? it=some (aP a (rawInt 0) i es.size ep):=e1
 refine wpAny_bind (wpAny_setField (s:={ s with heap:=s.heap.update it (Obj.mapFields (·.setIfInBounds 0 (rawInt 0))) }) e1' rfl (by simp) ?_)
 exact lR (s:=s) (it:=it) hh ((Heap.SameBut.update ..).trans (Heap.SameBut.update ..)).extBut hQ
theorem mF{it a:Addr}{first:Value}{i n ep:Nat}{Q:Value->Shared->Prop}(hit:s.heap.get? it=some (aP a first i n ep))(h:Q (.ref it) s):wpAny (model P w) A (pyIter (.ref it)) Q E s:=by
 have T:s.TypeIs (.ref it) "set_iterator":=⟨_,hit,rfl⟩
 refine wpAny_pyIter_slot T SF.rJ (wpAny_call_entry SF.rJ T SF.vY ?_ (SF.vO _))
 show wpAny _ _ (ret (.ref it)) _ _ s
 exact wpAny_pure ⟨_,rfl,"set_iterator",_,T,SF.slot_next.lookup,h⟩
theorem uv(hh:A.handled=none)(hT:w.params.followText "set-order" = true)(I a:Addr)(hne:a≠I){o:Obj}{es:Array (Int×Value)}{ep:Nat}{t:SetTable}(hd:o.data=.set es ep t)(hf:t.fits es.size=true):
  Walks P w A I [I,a] [I] es.size (fun i v=>∃x,(pickOrder (w.params.setOrder a ep) es)[i]?=some x/\v=x.2) (fun i h=>h.get? I=some (aP a (rawInt 0) i es.size ep)/\h.get? a=some o) where
 sub:=fun b hb=>by simp at hb;simp[hb]
 frame:=fun _ _ _ st hk=>⟨hk I (by simp) _ st.1,hk a (by simp) _ st.2⟩
 item:=fun i s Q E hi st hQ=>by
  have hl:(pickOrder (w.params.setOrder a ep) es).size=es.size:=by
   rw[←Array.length_toList,(gH _ es).length_eq,Array.length_toList]
  have hx:=getElem?_pos (pickOrder (w.params.setOrder a ep) es) i (by omega)
  refine za hT st.1 st.2 hd hf hx fun h' hit' sb=>?_
  exact hQ _ h' s.toks ⟨_,hx,rfl⟩ ⟨hit',(sb.2 a hne).trans st.2⟩ fun b o hb e=>sb.extBut b o (fun h=>hb (by simp[h])) e
 done:=fun s Q E st hQ=>by
  have hl:(pickOrder (w.params.setOrder a ep) es).size=es.size:=by
   rw[←Array.length_toList,(gH _ es).length_eq,Array.length_toList]
  exact A1 hh hT st.1 st.2 hd hf (Array.getElem?_eq_none (by omega)) fun h' he'=>hQ h' s.toks fun b o hb e=>he' b o (fun h=>hb (by simp[h])) e
 self:=fun _ _ _ _ st hQ=>mF st.1 hQ
theorem wJ(hh:A.handled=none)(I a T0:Addr)(hne:a≠I)(hneT:T0≠I){o:Obj}{es:Array (Int×Value)}{ep:Nat}{t:SetTable}{ys:List Nat}(hd:o.data=.set es ep t)(hf:t.fits es.size=true)(hy:ys.Perm (List.range es.size)):
  Walks P w A I [I,a,T0] [I] es.size (fun i v=>∃y x,ys[i]?=some y/\es[y]?=some x/\v=x.2) (fun i h=>h.get? I=some (aP a (.ref T0) i es.size ep)/\h.get? a=some o/\h.get? T0=some (seqObj "tuple" (ys.map fun(i:Nat)=>rawInt i).toArray 0)) where
 sub:=fun b hb=>by simp at hb;simp[hb]
 frame:=fun _ _ _ st hk=>⟨hk I (by simp) _ st.1,hk a (by simp) _ st.2.1,hk T0 (by simp) _ st.2.2⟩
 item:=fun i s Q E hi st hQ=>by
  have hl:ys.length=es.size:=by rw[hy.length_eq,List.length_range]
  have hyi:=List.getElem?_eq_getElem (l:=ys) (i:=i) (by omega)
  have hlt:ys[i]<es.size:=List.mem_range.mp (hy.mem_iff.mp (List.getElem_mem (by omega)))
  have hx:=getElem?_pos es ys[i] hlt
  refine Aq st.2.2 st.1 st.2.1 hd hf hyi hx fun h' hit' sb=>?_
  exact hQ _ h' s.toks ⟨_,_,hyi,hx,rfl⟩ ⟨hit',(sb.2 a hne).trans st.2.1,(sb.2 T0 hneT).trans st.2.2⟩ fun b o hb e=>sb.extBut b o (fun h=>hb (by simp[h])) e
 done:=fun s Q E st hQ=>by
  have hl:ys.length=es.size:=by rw[hy.length_eq,List.length_range]
  exact yE hh st.2.2 st.1 st.2.1 hd hf (List.getElem?_eq_none (by omega)) fun h' he'=>hQ h' s.toks fun b o hb e=>he' b o (fun h=>hb (by simp[h])) e
 self:=fun _ _ _ _ st hQ=>mF st.1 hQ
theorem yc{a:Addr}{o:Obj}{es:Array (Int×Value)}{ep:Nat}{t:SetTable}{Q:Value->Shared->Prop}(ho:s.heap.get? a=some o)(hex:o.ExactSet)(hd:o.data=.set es ep t)(hf:t.fits es.size=true)(hpl:t.plain=false)(h2:2<=es.size)(hsz:es.size<=sizeLine)
  (hT:w.params.followText "set-order" = true->Q (.ref s.heap.objs.size) { s with heap:=s.heap.push (aP a (rawInt 0) 0 es.size ep) })
  (hD:w.params.followText "set-order" = false->∀(ys:List Nat) d,ys.Perm (List.range es.size)->Q (.ref (s.heap.objs.size+1)) { s with heap:=(s.heap.push (seqObj "tuple" (ys.map fun(i:Nat)=>rawInt i).toArray 0)).push (aP a (.ref s.heap.objs.size) 0 es.size ep),drawn:=d }) :
  wpAny (model P w) A (pyIter (.ref a)) Q E s:=by
 have T:s.TypeIs (.ref a) "set":=⟨o,ho,hex.1⟩
 refine wpAny_pyIter_slot T F.slot_set_iter (wpAny_call_entry F.slot_set_iter T SF.nH ?_ (SF.uk _))
 show wpAny _ _ (Builtin.Frozenset.sizeOf a >>= _) _ _ s
 unfold Builtin.Frozenset.sizeOf setEntries
 refine wpAny_bind (wpAny_bind (wpAny_bind (wpAny_setState_of ho hd hf (wpAny_pure (wpAny_pure ?_)))))
 show wpAny _ _ (setDrawn a >>= _) _ _ s
 unfold setDrawn
 refine wpAny_bind (wpAny_bind (wpAny_setState_of ho hd hf ?_))
 dsimp only
 unfold setsByText
 refine wpAny_bind (wpAny_bind (wpAny_askSetting (wpAny_pure (wpAny_pure ?_))))
 cases hq:w.params.followText "set-order"
 ·rw[if_pos (by
   show(!(w.params.followText "set-order") && (!t.plain && decide (es.size>1)))=true
   rw[hq,hpl,decide_eq_true (by omega)]
   rfl)]
  refine wpAny_bind (uc _ _ s (by rw[List.length_range]) fun ys d hp=>?_)
  have hyl:ys.length=es.size:=by rw[hp.length_eq,List.length_range]
  simp only[newTuple]
  refine wpAny_bind (wpAny_newObj_type ?_ (by show(List.map _ ys).toArray.size<=sizeLine;rw[List.size_toArray,List.length_map,hyl];exact hsz))
  unfold setEpoch
  refine wpAny_bind (wpAny_bind (wpAny_setState_of (s:={ s with heap:=s.heap.push (seqObj "tuple" (ys.map fun(i:Nat)=>rawInt i).toArray 0),drawn:=d }) (Heap.get?_push_of_some _ ho) hd hf (wpAny_pure ?_)))
  simp only[newFields]
  have hs1:(s.heap.push (seqObj "tuple" (ys.map fun(i:Nat)=>rawInt i).toArray 0)).objs.size=s.heap.objs.size+1:=Heap.size_push _ _
  refine wpAny_bind (wpAny_newObj_type (wpAny_pure ⟨_,rfl,"set_iterator",_,⟨_,Heap.get?_push_size _ rfl,rfl⟩,SF.slot_next.lookup,?_⟩) (by size_fits))
  have:=hD hq ys d hp
  rw[←hs1]at this
  exact this
 ·rw[if_neg (by
   show ¬(!(w.params.followText "set-order") && (!t.plain && decide (es.size>1)))=true
   rw[hq]
   simp)]
  refine wpAny_bind (wpAny_pure ?_)
  unfold setEpoch
  refine wpAny_bind (wpAny_bind (wpAny_setState_of ho hd hf (wpAny_pure ?_)))
  simp only[newFields]
  refine wpAny_bind (wpAny_newObj_type (wpAny_pure ⟨_,rfl,"set_iterator",_,⟨_,Heap.get?_push_size _ rfl,rfl⟩,SF.slot_next.lookup,?_⟩) (by size_fits))
  exact hT hq
end
end L2
set_option Elab.async false
set_option linter.all false
set_option maxRecDepth 100000
set_option maxHeartbeats 4000000
namespace L2
open PySem PySem.Spec PyProof.Rows
namespace Tb
theorem mY{α:Type}(es:Array α):∀(l:List Nat),(∀i∈l,i<es.size)->∀n:Nat,(l.filterMap (es[·]?))[n]?=(l[n]?).bind (es[·]?)
 | [],_,n=>by simp
 | x::l,h,n=>by
  have hx:=h x List.mem_cons_self
  have e:(x::l).filterMap (es[·]?)=es[x]::l.filterMap (es[·]?):=by
   rw[List.filterMap_cons]
   simp[hx]
  rw[e]
  cases n with
  | zero=>simp[hx]
  | succ n=>simpa using mY es l (fun i hi=>h i (List.mem_cons_of_mem _ hi)) n
end Tb
section
variable {P:Program} {w:World} {A:Around} {E:Value->Shared->Prop} {s:Shared}
theorem wx:Slot "set" "__len__" "set.__len__":=
 .of (owner:="set") (n:="__len__") (by rw[typeLookup_type,builtinLookup_eq_fast];kernel_rfl) (by decide +kernel) (by decide +kernel) (by decide +kernel)
  (by first | exact .inl (by decide +kernel) | exact .inr (by decide +kernel)) (by rw[isSubtype_type];kernel_rfl)
theorem sub_set_set:isSubtype (.type "set") (.type "set")=pure true:=by rw[isSubtype_type];kernel_rfl
theorem split_len:splitId "set.__len__" = some ("set","__len__"):=by kernel_rfl
theorem mR{a:Addr}{Q:Bool->Shared->Prop}(T:s.TypeIs (.ref a) "set")(h:Q false s):wpAny (model P w) A (Builtin.List.listLengthHint (.ref a)) Q E s:=by
 unfold Builtin.List.listLengthHint
 refine wpAny_bind (wpAny_specialOf T wx.lookup ?_)
 dsimp only
 rw[split_len]
 dsimp only
 refine wpAny_bind (wpAny_isInstance (T:="set") (b:=true) T sub_set_set ?_)
 simp only[Bool.not_true,Bool.false_eq_true,if_false]
 rw[if_pos (by first | rfl | decide +kernel | kernel_rfl)]
 refine wpAny_bind (wpAny_typeOf T ?_)
 exact wpAny_pure h
theorem Ad{a:Addr}{o:Obj}{es:Array (Int×Value)}{ep:Nat}{t:SetTable}{Q:List Value->Shared->Prop}(hA:A.handled=none)(ho:s.heap.get? a=some o)(hex:o.ExactSet)(hd:o.data=.set es ep t)(hf:t.fits es.size=true)(hpl:t.plain=false)(h2:2<=es.size)(hsz:es.size<=sizeLine)
  (hQ:∀(h':Heap) (tk:Nat) d (vs:List Value),vs.Perm (es.toList.map (·.2))->s.toks<=tk->s.heap.objs.size<h'.objs.size->(∀b o,b<s.heap.objs.size->s.heap.get? b=some o->h'.get? b=some o)->Q vs { s with heap:=h',toks:=tk,drawn:=d }):wpAny (model P w) A (collect (.ref a)) Q E s:=by
 have T:s.TypeIs (.ref a) "set":=⟨o,ho,hex.1⟩
 have hlt:a<s.heap.objs.size:=Heap.lt_size ho
 unfold collect
 refine wpAny_bind (wpAny_runValue (codeAny_builtin F.entry_proto_collect ?_))
 rw[Around.under_plainId F.plain_proto_collect _]
 show wpAny _ A.in1 (newList [] >>= fun l=>again (.builtin "list.__iadd__" ⟨[l,.ref a],[]⟩)) _ _ s
 refine wpAny_bind (wpAny_newObj_type ?_)
 refine wpAny_pure ⟨plainId_quiet F.plain_list_iadd _,codeAny_builtin F.entry_list_iadd ?_⟩
 rw[Around.under_plainId F.plain_list_iadd _]
 show wpAny _ A.in1 (Builtin.List.listExtendWith (.ref s.heap.objs.size) (.ref a) (.ref s.heap.objs.size)) _ _ { s with heap:=s.heap.push (seqObj "list" #[] 0) }
 unfold Builtin.List.listExtendWith
 have ho1:(s.heap.push (seqObj "list" #[] 0)).get? a=some o:=Heap.get?_push_of_some _ ho
 have hs1:(s.heap.push (seqObj "list" #[] 0)).objs.size=s.heap.objs.size+1:=Heap.size_push _ _
 refine wpAny_bind (wpAny_typeOf (T:="set") ⟨o,ho1,hex.1⟩ ?_)
 have q1:Builtin.List.listSameRef (.ref s.heap.objs.size) (.ref a)=false:=by
  have:s.heap.objs.size≠a:=Nat.ne_of_gt hlt
  simp[Builtin.List.listSameRef,this]
 have q2:(Value.type "set" == Value.type "list")=false:=by decide
 have q3:(Value.type "set" == Value.type "tuple")=false:=by decide
 simp only[q1,q2,q3,Bool.or_false,Bool.false_eq_true,if_false]
 refine wpAny_bind (yc (s:={ s with heap:=s.heap.push (seqObj "list" #[] 0) }) ho1 hex hd hf hpl h2 hsz (fun hT=>?_) (fun hT ys d hp=>?_))
 ·have hneI:a≠(s.heap.push (seqObj "list" #[] 0)).objs.size:=by
   rw[hs1]
   exact Nat.ne_of_lt (Nat.lt_succ_of_lt hlt)
  refine wpAny_bind (wpAny_holding (mR (s:={ s with heap:=(s.heap.push (seqObj "list" #[] 0)).push (aP a (rawInt 0) 0 es.size ep),drawn:=s.drawn }) ⟨o,Heap.get?_push_of_some _ ho1,hex.1⟩ ?_))
  rw[if_pos (by first | rfl | decide +kernel | kernel_rfl)]
  refine wpAny_bind (wpAny_rule ?_)
  have hS₁:((s.heap.push (seqObj "list" #[] 0)).push (aP a (rawInt 0) 0 es.size ep)).get? s.heap.objs.size=some (seqObj "list" #[] 0):=Heap.get?_push_of_some _ (Heap.get?_push_size _ rfl)
  refine wpAny_bind ?_
  show wpAny _ A.in1 (updateSeq s.heap.objs.size (·.push .none) >>= fun _=>updateSeq s.heap.objs.size (·.pop)) _ _ { s with heap:=(s.heap.push (seqObj "list" #[] 0)).push (aP a (rawInt 0) 0 es.size ep),drawn:=s.drawn }
  refine wpAny_bind (wpAny_updateSeq hS₁ rfl ?_)
  have hS₂:=Heap.get?_update_self (Obj.mapSeq (·.push Value.none)) hS₁ rfl
  refine wpAny_updateSeq (s:={ s with heap:=((s.heap.push (seqObj "list" #[] 0)).push (aP a (rawInt 0) 0 es.size ep)).update s.heap.objs.size (Obj.mapSeq (·.push Value.none)),drawn:=s.drawn }) hS₂ rfl ?_
  have hS₃:=Heap.get?_update_self (Obj.mapSeq (·.pop)) hS₂ rfl
  have oth:∀b o,b≠s.heap.objs.size->((s.heap.push (seqObj "list" #[] 0)).push (aP a (rawInt 0) 0 es.size ep)).get? b=some o →
    ((((s.heap.push (seqObj "list" #[] 0)).push (aP a (rawInt 0) 0 es.size ep)).update s.heap.objs.size (Obj.mapSeq (·.push Value.none))).update s.heap.objs.size (Obj.mapSeq (·.pop))).get? b=some o:=
   fun b o hb e=>(Heap.get?_update_other _ _ (Ne.symm hb)).trans ((Heap.get?_update_other _ _ (Ne.symm hb)).trans e)
  have hW:=uv (P:=P) (A:=A.in1) (by simp[hA]) hT (s.heap.push (seqObj "list" #[] 0)).objs.size a hneI hd hf
  refine wpAny_pure ⟨plainId_quiet F.plain_extend_loop _,codeAny_extend_loopS hW.toS hsz _ (by rw[hs1];simp only[List.mem_cons,List.not_mem_nil,or_false,not_or];exact⟨Nat.ne_of_lt (Nat.lt_succ_self _),Nat.ne_of_gt hlt⟩) _ es.size 0 { s with heap:=(((s.heap.push (seqObj "list" #[] 0)).push (aP a (rawInt 0) 0 es.size ep)).update s.heap.objs.size (Obj.mapSeq (·.push Value.none))).update s.heap.objs.size (Obj.mapSeq (·.pop)),drawn:=s.drawn } _ _ rfl (Nat.zero_le _)
   ⟨oth _ _ (by rw[hs1];exact Nat.succ_ne_self _) (Heap.get?_push_size _ rfl),oth _ _ (Nat.ne_of_lt hlt) (Heap.get?_push_of_some _ ho1)⟩ hS₃ (ItemsOf.nil _) fun s' acc' c' hm hS' hacc=>?_⟩
  show wpAny _ A (load s.heap.objs.size >>= _) _ _ s'
  refine wpAny_bind (wpAny_load hS' ?_)
  obtain⟨h',g',d',tk',os'⟩:=s'
  have z1:g'=s.gens:=hm.gens
  have z2:d'=s.drawn:=hm.drawn
  have z3:os'=s.os:=hm.os
  subst z1 z2 z3
  refine wpAny_pure (hQ h' tk' _ _ ?_ hm.toks (Heap.lt_size hS') fun b o' hb e=>hm.heap b o' (fun z=>?_) (oth b o' (Nat.ne_of_lt hb) ?_))
  ·refine List.Perm.trans (List.Perm.of_eq ?_) ((gH (w.params.setOrder a ep) es).map (·.2))
   have hl:(pickOrder (w.params.setOrder a ep) es).size=es.size:=by
    rw[←Array.length_toList,(gH _ es).length_eq,Array.length_toList]
   apply List.ext_getElem
   ·rw[Array.length_toList,List.length_map,Array.length_toList,hacc.1,hl]
   ·intro i q1 q2
    rw[Array.length_toList]at q1
    obtain⟨x,hx,hv⟩:=hacc.2 i acc'[i] (getElem?_pos acc' i q1)
    rw[Array.getElem_toList,hv,List.getElem_map,Array.getElem_toList]
    obtain⟨_,e⟩:=Array.getElem?_eq_some_iff.mp hx
    rw[e]
  ·rcases List.mem_cons.mp z with z | z
   ·exact Nat.ne_of_lt hb z
   ·have z:=List.mem_singleton.mp z
    rw[z]at hb
    exact absurd hb (by rw[hs1];exact Nat.not_lt.mpr (by exact Nat.le_succ _))
  ·exact Heap.get?_push_of_some _ (Heap.get?_push_of_some _ e)
 ·have hneI:a≠(s.heap.push (seqObj "list" #[] 0)).objs.size+1:=by
   rw[hs1]
   exact Nat.ne_of_lt (Nat.lt_succ_of_lt (Nat.lt_succ_of_lt hlt))
  have hs2:((s.heap.push (seqObj "list" #[] 0)).push (seqObj "tuple" (ys.map fun(i:Nat)=>rawInt i).toArray 0)).objs.size=(s.heap.push (seqObj "list" #[] 0)).objs.size+1:=Heap.size_push _ _
  have gI:(((s.heap.push (seqObj "list" #[] 0)).push (seqObj "tuple" (ys.map fun(i:Nat)=>rawInt i).toArray 0)).push (aP a (.ref (s.heap.push (seqObj "list" #[] 0)).objs.size) 0 es.size ep)).get? ((s.heap.push (seqObj "list" #[] 0)).objs.size+1)=some (aP a (.ref (s.heap.push (seqObj "list" #[] 0)).objs.size) 0 es.size ep):=by
   rw[←hs2]
   exact Heap.get?_push_size _ rfl
  refine wpAny_bind (wpAny_holding (mR (s:={ s with heap:=((s.heap.push (seqObj "list" #[] 0)).push (seqObj "tuple" (ys.map fun(i:Nat)=>rawInt i).toArray 0)).push (aP a (.ref (s.heap.push (seqObj "list" #[] 0)).objs.size) 0 es.size ep),drawn:=d }) ⟨o,Heap.get?_push_of_some _ (Heap.get?_push_of_some _ ho1),hex.1⟩ ?_))
  rw[if_pos (by first | rfl | decide +kernel | kernel_rfl)]
  refine wpAny_bind (wpAny_rule ?_)
  have hS₁:(((s.heap.push (seqObj "list" #[] 0)).push (seqObj "tuple" (ys.map fun(i:Nat)=>rawInt i).toArray 0)).push (aP a (.ref (s.heap.push (seqObj "list" #[] 0)).objs.size) 0 es.size ep)).get? s.heap.objs.size=some (seqObj "list" #[] 0):=Heap.get?_push_of_some _ (Heap.get?_push_of_some _ (Heap.get?_push_size _ rfl))
  refine wpAny_bind ?_
  show wpAny _ A.in1 (updateSeq s.heap.objs.size (·.push .none) >>= fun _=>updateSeq s.heap.objs.size (·.pop)) _ _ { s with heap:=((s.heap.push (seqObj "list" #[] 0)).push (seqObj "tuple" (ys.map fun(i:Nat)=>rawInt i).toArray 0)).push (aP a (.ref (s.heap.push (seqObj "list" #[] 0)).objs.size) 0 es.size ep),drawn:=d }
  refine wpAny_bind (wpAny_updateSeq hS₁ rfl ?_)
  have hS₂:=Heap.get?_update_self (Obj.mapSeq (·.push Value.none)) hS₁ rfl
  refine wpAny_updateSeq (s:={ s with heap:=(((s.heap.push (seqObj "list" #[] 0)).push (seqObj "tuple" (ys.map fun(i:Nat)=>rawInt i).toArray 0)).push (aP a (.ref (s.heap.push (seqObj "list" #[] 0)).objs.size) 0 es.size ep)).update s.heap.objs.size (Obj.mapSeq (·.push Value.none)),drawn:=d }) hS₂ rfl ?_
  have hS₃:=Heap.get?_update_self (Obj.mapSeq (·.pop)) hS₂ rfl
  have oth:∀b o,b≠s.heap.objs.size->(((s.heap.push (seqObj "list" #[] 0)).push (seqObj "tuple" (ys.map fun(i:Nat)=>rawInt i).toArray 0)).push (aP a (.ref (s.heap.push (seqObj "list" #[] 0)).objs.size) 0 es.size ep)).get? b=some o →
    (((((s.heap.push (seqObj "list" #[] 0)).push (seqObj "tuple" (ys.map fun(i:Nat)=>rawInt i).toArray 0)).push (aP a (.ref (s.heap.push (seqObj "list" #[] 0)).objs.size) 0 es.size ep)).update s.heap.objs.size (Obj.mapSeq (·.push Value.none))).update s.heap.objs.size (Obj.mapSeq (·.pop))).get? b=some o:=
   fun b o hb e=>(Heap.get?_update_other _ _ (Ne.symm hb)).trans ((Heap.get?_update_other _ _ (Ne.symm hb)).trans e)
  have hW:=wJ (P:=P) (w:=w) (A:=A.in1) (by simp[hA]) ((s.heap.push (seqObj "list" #[] 0)).objs.size+1) a (s.heap.push (seqObj "list" #[] 0)).objs.size hneI (Nat.ne_of_lt (Nat.lt_succ_self _)) hd hf hp
  refine wpAny_pure ⟨plainId_quiet F.plain_extend_loop _,codeAny_extend_loopS hW.toS hsz _ (by rw[hs1];simp only[List.mem_cons,List.not_mem_nil,or_false,not_or];exact⟨Nat.ne_of_lt (Nat.lt_succ_of_lt (Nat.lt_succ_self _)),Nat.ne_of_gt hlt,Nat.ne_of_lt (Nat.lt_succ_self _)⟩) _ es.size 0 { s with heap:=((((s.heap.push (seqObj "list" #[] 0)).push (seqObj "tuple" (ys.map fun(i:Nat)=>rawInt i).toArray 0)).push (aP a (.ref (s.heap.push (seqObj "list" #[] 0)).objs.size) 0 es.size ep)).update s.heap.objs.size (Obj.mapSeq (·.push Value.none))).update s.heap.objs.size (Obj.mapSeq (·.pop)),drawn:=d } _ _ rfl (Nat.zero_le _)
   ⟨oth _ _ (by rw[hs1];exact Nat.ne_of_gt (Nat.lt_succ_of_lt (Nat.lt_succ_self _))) gI,oth _ _ (Nat.ne_of_lt hlt) (Heap.get?_push_of_some _ (Heap.get?_push_of_some _ ho1)),oth _ _ (by rw[hs1];exact Nat.succ_ne_self _) (Heap.get?_push_of_some _ (Heap.get?_push_size _ rfl))⟩ hS₃ (ItemsOf.nil _) fun s' acc' c' hm hS' hacc=>?_⟩
  show wpAny _ A (load s.heap.objs.size >>= _) _ _ s'
  refine wpAny_bind (wpAny_load hS' ?_)
  obtain⟨h',g',d',tk',os'⟩:=s'
  have z1:g'=s.gens:=hm.gens
  have z2:d'=d:=hm.drawn
  have z3:os'=s.os:=hm.os
  subst z1 z2 z3
  refine wpAny_pure (hQ h' tk' _ _ ?_ hm.toks (Heap.lt_size hS') fun b o' hb e=>hm.heap b o' (fun z=>?_) (oth b o' (Nat.ne_of_lt hb) ?_))
  ·have hyl:ys.length=es.size:=by rw[hp.length_eq,List.length_range]
   have e0:acc'.toList=(ys.filterMap (es[·]?)).map (·.2):=by
    apply List.ext_getElem?
    intro i
    rw[List.getElem?_map,Tb.mY es ys (fun y hy=>List.mem_range.mp (hp.mem_iff.mp hy))]
    by_cases q1:i<acc'.size
    ·have e1:=getElem?_pos acc' i q1
     obtain⟨y,x,hy,hx,hv⟩:=hacc.2 i acc'[i] e1
     have e2:acc'.toList[i]?=some acc'[i]:=by rw[Array.getElem?_toList];exact e1
     rw[e2,hy,Option.bind_some,hx,hv]
     rfl
    ·have e2:acc'.toList[i]?=none:=List.getElem?_eq_none (by rw[Array.length_toList];omega)
     rw[e2,List.getElem?_eq_none (by rw[hyl,←hacc.1];omega)]
     rfl
   rw[e0]
   refine List.Perm.map _ ?_
   have e3:(List.range es.size).filterMap (es[·]?)=es.toList:=by
    apply List.ext_getElem?
    intro n
    have e4:es.toList[n]?=es[n]?:=Array.getElem?_toList
    rw[e4,Tb.mY es _ (fun i hi=>List.mem_range.mp hi)]
    by_cases hn:n<es.size
    ·rw[List.getElem?_range hn]
     rfl
    ·have e5:(List.range es.size)[n]?=none:=List.getElem?_eq_none (by rw[List.length_range];omega)
     rw[e5,Array.getElem?_eq_none (by omega)]
     rfl
   rw[←e3]
   exact hp.filterMap _
  ·rcases List.mem_cons.mp z with z | z
   ·exact Nat.ne_of_lt hb z
   ·have z:=List.mem_singleton.mp z
    rw[z]at hb
    exact absurd hb (by rw[hs1];exact Nat.not_lt.mpr (by exact Nat.le_succ_of_le (Nat.le_succ _)))
  ·exact Heap.get?_push_of_some _ (Heap.get?_push_of_some _ (Heap.get?_push_of_some _ e))
end
end L2
set_option Elab.async false
set_option linter.all false
set_option maxRecDepth 100000
set_option maxHeartbeats 4000000
namespace L2
open PySem PySem.Spec PyProof.Rows
section
variable {P:Program} {w:World} {A:Around} {E:Value->Shared->Prop} {s:Shared}
theorem Cg(j:Nat):SetTable.below #[j] 0=0:=by
 unfold SetTable.below
 show SetTable.below.go #[j] 0 1 0 1=0
 unfold SetTable.below.go
 rw[if_pos (by decide)]
 show(if(#[j]:Array Nat).getD 0 0<0 then _ else _)=0
 rw[if_neg (Nat.not_lt_zero _)]
 rfl
theorem wD(j:Nat):SetTable.below #[j] (j+1)=1:=by
 unfold SetTable.below
 show SetTable.below.go #[j] (j+1) 1 0 1=1
 unfold SetTable.below.go
 rw[if_pos (by decide)]
 show(if(#[j]:Array Nat).getD 0 (j+1)<j+1 then _ else _)=1
 rw[if_pos (show(#[j]:Array Nat).getD 0 (j+1)<j+1 from Nat.lt_succ_self j)]
 rfl
theorem oC{xs:Array Nat}(h:xs.size=1):∃j,xs = #[j]:=by
 refine⟨xs[0],?_⟩
 apply Array.ext
 ·simp[h]
 ·intro i h1 h2
  have:i=0:=by simp at h2;exact h2
  subst this
  rfl
theorem A2{xs:Array Nat}(h:xs.size=1){j:Nat}(hj:xs[0]?=some j):SetTable.below xs (j+1)=1:=by
 obtain⟨k,rfl⟩:=oC h
 cases hj
 exact wD _
theorem yB{xs:Array Nat}(h:xs.size<=1):SetTable.below xs 0=0:=by
 by_cases h0:xs.size=0
 ·rw[Array.eq_empty_of_size_eq_zero h0]
  rfl
 ·obtain⟨k,rfl⟩:=oC (show xs.size=1 by omega)
  exact Cg _
theorem BS{it a:Addr}{i ep slot:Nat}{o:Obj}{es:Array (Int×Value)}{t:SetTable}{Q:Option Value->Shared->Prop}(hT:w.params.followText "set-order" = false)(hit:s.heap.get? it=some (aP a (rawInt (slot:Int)) i es.size ep))(ho:s.heap.get? a=some o)(hd:o.data=.set es ep t)(hf:t.fits es.size=true)(h1:es.size<=1)(hl:t.led=true)
  {x:Int×Value} {j:Nat} (hx:es[SetTable.below t.place slot]?=some x) (hj:t.place[SetTable.below t.place slot]?=some j) (hQ:∀h',h'.get? it=some (aP a (rawInt ((j+1:Nat):Int)) (i+1) es.size ep)->Heap.SameBut it s.heap h'->Q (some x.2) { s with heap:=h' }):wpAny (model P w) A (pyNext (.ref it)) Q E s:=by
 have T:s.TypeIs (.ref it) "set_iterator":=⟨_,hit,rfl⟩
 unfold pyNext
 refine wpAny_bind (wpAny_attempt (wpAny_callSpecial?_slot (name:=Str.ofString "__next__") T SF.slot_next (wpAny_call_entry SF.slot_next T SF.entry_next ?_ (SF.args_next _))))
 show wpAny _ _ (fieldsOf (.ref it) >>= _) _ _ s
 refine wpAny_bind (wpAny_fieldsOf hit rfl ?_)
 show wpAny _ _ (setEntries a >>= _) _ _ s
 unfold setEntries
 refine wpAny_bind (wpAny_bind (wpAny_setState_of ho hd hf (wpAny_pure ?_)))
 rw[if_neg (by simp)]
 show wpAny _ _ (setNext a slot _ _ >>= _) _ _ s
 unfold setNext
 refine wpAny_bind (wpAny_bind (wpAny_setState_of ho hd hf ?_))
 dsimp only
 unfold setsByText
 refine wpAny_bind (wpAny_bind (wpAny_askSetting (wpAny_pure ?_)))
 rw[show (model P w).w.params.followText "set-order" = false from hT]
 simp only[Bool.false_eq_true,if_false]
 have hdr:¬((!t.plain && decide (es.size>1))=true):=by
  rw[decide_eq_false (by omega),Bool.and_false]
  exact Bool.false_ne_true
 split
 ·rename_i hh
  exact absurd hh hdr
 ·refine wpAny_bind ?_
  show wpAny _ _ (if(!t.led && !es.isEmpty)=true then unsupported _ else pure ()) _ _ _
  rw[if_neg (by rw[hl];exact Bool.false_ne_true)]
  refine wpAny_pure (wpAny_pure ?_)
  rw[hx,hj]
  dsimp only
  refine wpAny_bind (wpAny_setField hit rfl (by simp) ?_)
  have e1':(s.heap.update it (Obj.mapFields (·.setIfInBounds 0 (rawInt ((j+1:Nat):Int))))).get? it=some (aP a (rawInt ((j+1:Nat):Int)) i es.size ep):=gw (k:=0) (x:=rawInt ((j+1:Nat):Int)) hit rfl
  refine wpAny_bind (wpAny_setField (s:={ s with heap:=s.heap.update it (Obj.mapFields (·.setIfInBounds 0 (rawInt ((j+1:Nat):Int)))) }) e1' rfl (by simp) ?_)
  have e2:=gw (k:=1) (x:=rawInt ((i:Int)+1)) e1' rfl
  refine wpAny_pure ⟨_,rfl,wpAny_pure (hQ _ ?_ ((Heap.SameBut.update ..).trans (Heap.SameBut.update ..)))⟩
  exact e2
theorem B4{it a:Addr}{i ep slot:Nat}{o:Obj}{es:Array (Int×Value)}{t:SetTable}{Q:Option Value->Shared->Prop}(hh:A.handled=none)(hT:w.params.followText "set-order" = false)(hit:s.heap.get? it=some (aP a (rawInt (slot:Int)) i es.size ep))(ho:s.heap.get? a=some o)(hd:o.data=.set es ep t)(hf:t.fits es.size=true)(h1:es.size<=1)(hl:t.led=true)
  (hx:es[SetTable.below t.place slot]?=none) (hQ:∀h',Heap.ExtBut it s.heap h'->Q none { s with heap:=h' }):wpAny (model P w) A (pyNext (.ref it)) Q E s:=by
 have T:s.TypeIs (.ref it) "set_iterator":=⟨_,hit,rfl⟩
 unfold pyNext
 refine wpAny_bind (wpAny_attempt (wpAny_callSpecial?_slot (name:=Str.ofString "__next__") T SF.slot_next (wpAny_call_entry SF.slot_next T SF.entry_next ?_ (SF.args_next _))))
 show wpAny _ _ (fieldsOf (.ref it) >>= _) _ _ s
 refine wpAny_bind (wpAny_fieldsOf hit rfl ?_)
 show wpAny _ _ (setEntries a >>= _) _ _ s
 unfold setEntries
 refine wpAny_bind (wpAny_bind (wpAny_setState_of ho hd hf (wpAny_pure ?_)))
 rw[if_neg (by simp)]
 show wpAny _ _ (setNext a slot _ _ >>= _) _ _ s
 unfold setNext
 refine wpAny_bind (wpAny_bind (wpAny_setState_of ho hd hf ?_))
 dsimp only
 unfold setsByText
 refine wpAny_bind (wpAny_bind (wpAny_askSetting (wpAny_pure ?_)))
 rw[show (model P w).w.params.followText "set-order" = false from hT]
 simp only[Bool.false_eq_true,if_false]
 have hdr:¬((!t.plain && decide (es.size>1))=true):=by
  rw[decide_eq_false (by omega),Bool.and_false]
  exact Bool.false_ne_true
 split
 ·rename_i hh
  exact absurd hh hdr
 ·refine wpAny_bind ?_
  show wpAny _ _ (if(!t.led && !es.isEmpty)=true then unsupported _ else pure ()) _ _ _
  rw[if_neg (by rw[hl];exact Bool.false_ne_true)]
  refine wpAny_pure (wpAny_pure ?_)
  rw[hx]
  dsimp only
  refine wpAny_bind (wpAny_setField hit rfl (by simp) ?_)
  exact lR (s:=s) (it:=it) hh (Heap.SameBut.update ..).extBut hQ
theorem Cy(hh:A.handled=none)(hT:w.params.followText "set-order" = false)(I a:Addr)(hne:a≠I){o:Obj}{es:Array (Int×Value)}{ep:Nat}{t:SetTable}(hd:o.data=.set es ep t)(hf:t.fits es.size=true)(h1:es.size<=1)(hl:t.led=true)(hp:t.place.size=es.size):
  Walks P w A I [I,a] [I] es.size (fun i v=>∃x,es[i]?=some x/\v=x.2) (fun i h=>(∃slot:Nat,h.get? I=some (aP a (rawInt (slot:Int)) i es.size ep)/\SetTable.below t.place slot=i)/\h.get? a=some o) where
 sub:=fun b hb=>by simp at hb;simp[hb]
 frame:=fun _ _ _ st hk=>by
  obtain⟨⟨slot,h1,h2⟩,h3⟩:=st
  exact⟨⟨slot,hk I (by simp) _ h1,h2⟩,hk a (by simp) _ h3⟩
 item:=fun i s Q E hi st hQ=>by
  obtain⟨⟨slot,q1,q2⟩,q3⟩:=st
  have hi0:i=0:=by omega
  subst hi0
  have hx:=getElem?_pos es 0 hi
  have hj:=getElem?_pos t.place 0 (by omega)
  refine BS hT q1 q3 hd hf h1 hl (by rw[q2];exact hx) (by rw[q2];exact hj) fun h' hit' sb=>?_
  refine hQ _ h' s.toks ⟨_,hx,rfl⟩ ⟨⟨_,hit',?_⟩,(sb.2 a hne).trans q3⟩ fun b o hb e=>sb.extBut b o (fun h=>hb (by simp[h])) e
  exact A2 (by omega) hj
 done:=fun s Q E st hQ=>by
  obtain⟨⟨slot,q1,q2⟩,q3⟩:=st
  exact B4 hh hT q1 q3 hd hf h1 hl (by rw[q2];exact Array.getElem?_eq_none (Nat.le_refl _)) fun h' he'=>hQ h' s.toks fun b o hb e=>he' b o (fun h=>hb (by simp[h])) e
 self:=fun i s Q E st hQ=>by
  obtain⟨⟨slot,q1,q2⟩,q3⟩:=st
  exact mF q1 hQ
theorem zx{a:Addr}{o:Obj}{es:Array (Int×Value)}{ep:Nat}{t:SetTable}{Q:Value->Shared->Prop}(ho:s.heap.get? a=some o)(hex:o.ExactSet)(hd:o.data=.set es ep t)(hf:t.fits es.size=true)(h1:es.size<=1)
  (hT:Q (.ref s.heap.objs.size) { s with heap:=s.heap.push (aP a (rawInt 0) 0 es.size ep) }) :
  wpAny (model P w) A (pyIter (.ref a)) Q E s:=by
 have T:s.TypeIs (.ref a) "set":=⟨o,ho,hex.1⟩
 refine wpAny_pyIter_slot T F.slot_set_iter (wpAny_call_entry F.slot_set_iter T SF.nH ?_ (SF.uk _))
 show wpAny _ _ (Builtin.Frozenset.sizeOf a >>= _) _ _ s
 unfold Builtin.Frozenset.sizeOf setEntries
 refine wpAny_bind (wpAny_bind (wpAny_bind (wpAny_setState_of ho hd hf (wpAny_pure (wpAny_pure ?_)))))
 show wpAny _ _ (setDrawn a >>= _) _ _ s
 unfold setDrawn
 refine wpAny_bind (wpAny_bind (wpAny_setState_of ho hd hf ?_))
 dsimp only
 unfold setsByText
 refine wpAny_bind (wpAny_bind (wpAny_askSetting (wpAny_pure (wpAny_pure ?_))))
 rw[if_neg (by
  show ¬(!(w.params.followText "set-order") && (!t.plain && decide (es.size>1)))=true
  rw[decide_eq_false (by omega)]
  simp)]
 refine wpAny_bind (wpAny_pure ?_)
 unfold setEpoch
 refine wpAny_bind (wpAny_bind (wpAny_setState_of ho hd hf (wpAny_pure ?_)))
 simp only[newFields]
 refine wpAny_bind (wpAny_newObj_type (wpAny_pure ⟨_,rfl,"set_iterator",_,⟨_,Heap.get?_push_size _ rfl,rfl⟩,SF.slot_next.lookup,?_⟩) (by size_fits))
 exact hT
theorem Ao{a:Addr}{o:Obj}{es:Array (Int×Value)}{ep:Nat}{t:SetTable}{Q:List Value->Shared->Prop}(hA:A.handled=none)(ho:s.heap.get? a=some o)(hex:o.ExactSet)(hd:o.data=.set es ep t)(hf:t.fits es.size=true)(h1:es.size<=1)(hled:t.led=cK w)(hp:t.place.size=es.size)
  (hQ:∀(h':Heap) (tk:Nat) d (vs:List Value),vs.Perm (es.toList.map (·.2))->s.toks<=tk->s.heap.objs.size<h'.objs.size->(∀b o,b<s.heap.objs.size->s.heap.get? b=some o->h'.get? b=some o)->Q vs { s with heap:=h',toks:=tk,drawn:=d }):wpAny (model P w) A (collect (.ref a)) Q E s:=by
 have hsz:es.size<=sizeLine:=Nat.le_trans h1 (by decide)
 have hlt:a<s.heap.objs.size:=Heap.lt_size ho
 obtain⟨Pz,St,hW,hSt,hPm⟩:∃(Pz:Nat->Value->Prop) (St:Addr->Nat->Heap->Prop),(∀I,a≠I->Walks P w A.in1.in1 I [I,a] [I] es.size Pz (St I))/\(∀I h,h.get? I=some (aP a (rawInt 0) 0 es.size ep)->h.get? a=some o->St I 0 h)/\∀acc:Array Value,acc.size=es.size->(∀i v,acc[i]?=some v->Pz i v)->acc.toList.Perm (es.toList.map (·.2)):=by
  cases hq:w.params.followText "set-order" with
  | true=>
   refine⟨_,_,fun I hI=>uv (by simp[hA]) hq I a hI hd hf,fun I h h1 h2=>⟨h1,h2⟩,fun acc hacc1 hacc2=>?_⟩
   refine List.Perm.trans (List.Perm.of_eq ?_) ((gH (w.params.setOrder a ep) es).map (·.2))
   have hl:(pickOrder (w.params.setOrder a ep) es).size=es.size:=by
    rw[←Array.length_toList,(gH _ es).length_eq,Array.length_toList]
   apply List.ext_getElem
   ·rw[Array.length_toList,List.length_map,Array.length_toList,hacc1,hl]
   ·intro i q1 q2
    rw[Array.length_toList]at q1
    obtain⟨x,hx,hv⟩:=hacc2 i acc[i] (getElem?_pos acc i q1)
    rw[Array.getElem_toList,hv,List.getElem_map,Array.getElem_toList]
    obtain⟨_,e⟩:=Array.getElem?_eq_some_iff.mp hx
    rw[e]
  | false=>
   have hl:t.led=true:=by
    rw[hled]
    show(!w.params.followText "set-order")=true
    rw[hq]
    rfl
   refine⟨_,_,fun I hI=>Cy (by simp[hA]) hq I a hI hd hf h1 hl hp,fun I h q1 q2=>⟨⟨0,q1,?_⟩,q2⟩,fun acc hacc1 hacc2=>List.Perm.of_eq ?_⟩
   ·exact yB (by omega)
   ·apply List.ext_getElem
    ·rw[Array.length_toList,List.length_map,Array.length_toList,hacc1]
    ·intro i q1 q2
     rw[Array.length_toList]at q1
     obtain⟨x,hx,hv⟩:=hacc2 i acc[i] (getElem?_pos acc i q1)
     rw[Array.getElem_toList,hv,List.getElem_map,Array.getElem_toList]
     obtain⟨_,e⟩:=Array.getElem?_eq_some_iff.mp hx
     rw[e]
 unfold collect
 refine wpAny_bind (wpAny_runValue (codeAny_builtin F.entry_proto_collect ?_))
 rw[Around.under_plainId F.plain_proto_collect _]
 show wpAny _ A.in1 (newList [] >>= fun l=>again (.builtin "list.__iadd__" ⟨[l,.ref a],[]⟩)) _ _ s
 refine wpAny_bind (wpAny_newObj_type ?_)
 refine wpAny_pure ⟨plainId_quiet F.plain_list_iadd _,codeAny_builtin F.entry_list_iadd ?_⟩
 rw[Around.under_plainId F.plain_list_iadd _]
 show wpAny _ A.in1 (Builtin.List.listExtendWith (.ref s.heap.objs.size) (.ref a) (.ref s.heap.objs.size)) _ _ { s with heap:=s.heap.push (seqObj "list" #[] 0) }
 unfold Builtin.List.listExtendWith
 have ho1:(s.heap.push (seqObj "list" #[] 0)).get? a=some o:=Heap.get?_push_of_some _ ho
 have hs1:(s.heap.push (seqObj "list" #[] 0)).objs.size=s.heap.objs.size+1:=Heap.size_push _ _
 refine wpAny_bind (wpAny_typeOf (T:="set") ⟨o,ho1,hex.1⟩ ?_)
 have q1:Builtin.List.listSameRef (.ref s.heap.objs.size) (.ref a)=false:=by
  have:s.heap.objs.size≠a:=Nat.ne_of_gt hlt
  simp[Builtin.List.listSameRef,this]
 have q2:(Value.type "set" == Value.type "list")=false:=by decide
 have q3:(Value.type "set" == Value.type "tuple")=false:=by decide
 simp only[q1,q2,q3,Bool.or_false,Bool.false_eq_true,if_false]
 refine wpAny_bind (zx (s:={ s with heap:=s.heap.push (seqObj "list" #[] 0) }) ho1 hex hd hf h1 ?_)
 have hneI:a≠(s.heap.push (seqObj "list" #[] 0)).objs.size:=by
  rw[hs1]
  exact Nat.ne_of_lt (Nat.lt_succ_of_lt hlt)
 refine wpAny_bind (wpAny_holding (mR (s:={ s with heap:=(s.heap.push (seqObj "list" #[] 0)).push (aP a (rawInt 0) 0 es.size ep),drawn:=s.drawn }) ⟨o,Heap.get?_push_of_some _ ho1,hex.1⟩ ?_))
 rw[if_pos (by first | rfl | decide +kernel | kernel_rfl)]
 refine wpAny_bind (wpAny_rule ?_)
 have hS₁:((s.heap.push (seqObj "list" #[] 0)).push (aP a (rawInt 0) 0 es.size ep)).get? s.heap.objs.size=some (seqObj "list" #[] 0):=Heap.get?_push_of_some _ (Heap.get?_push_size _ rfl)
 refine wpAny_bind ?_
 show wpAny _ A.in1 (updateSeq s.heap.objs.size (·.push .none) >>= fun _=>updateSeq s.heap.objs.size (·.pop)) _ _ { s with heap:=(s.heap.push (seqObj "list" #[] 0)).push (aP a (rawInt 0) 0 es.size ep),drawn:=s.drawn }
 refine wpAny_bind (wpAny_updateSeq hS₁ rfl ?_)
 have hS₂:=Heap.get?_update_self (Obj.mapSeq (·.push Value.none)) hS₁ rfl
 refine wpAny_updateSeq (s:={ s with heap:=((s.heap.push (seqObj "list" #[] 0)).push (aP a (rawInt 0) 0 es.size ep)).update s.heap.objs.size (Obj.mapSeq (·.push Value.none)),drawn:=s.drawn }) hS₂ rfl ?_
 have hS₃:=Heap.get?_update_self (Obj.mapSeq (·.pop)) hS₂ rfl
 have oth:∀b o,b≠s.heap.objs.size->((s.heap.push (seqObj "list" #[] 0)).push (aP a (rawInt 0) 0 es.size ep)).get? b=some o →
   ((((s.heap.push (seqObj "list" #[] 0)).push (aP a (rawInt 0) 0 es.size ep)).update s.heap.objs.size (Obj.mapSeq (·.push Value.none))).update s.heap.objs.size (Obj.mapSeq (·.pop))).get? b=some o:=
  fun b o hb e=>(Heap.get?_update_other _ _ (Ne.symm hb)).trans ((Heap.get?_update_other _ _ (Ne.symm hb)).trans e)
 refine wpAny_pure ⟨plainId_quiet F.plain_extend_loop _,codeAny_extend_loopS (hW _ hneI).of_in1.toS hsz _ (by rw[hs1];simp only[List.mem_cons,List.not_mem_nil,or_false,not_or];exact⟨Nat.ne_of_lt (Nat.lt_succ_self _),Nat.ne_of_gt hlt⟩) _ es.size 0 { s with heap:=(((s.heap.push (seqObj "list" #[] 0)).push (aP a (rawInt 0) 0 es.size ep)).update s.heap.objs.size (Obj.mapSeq (·.push Value.none))).update s.heap.objs.size (Obj.mapSeq (·.pop)),drawn:=s.drawn } _ _ rfl (Nat.zero_le _)
  (hSt _ _ (oth _ _ (by rw[hs1];exact Nat.succ_ne_self _) (Heap.get?_push_size _ rfl)) (oth _ _ (Nat.ne_of_lt hlt) (Heap.get?_push_of_some _ ho1))) hS₃ (ItemsOf.nil _) fun s' acc' c' hm hS' hacc=>?_⟩
 show wpAny _ A (load s.heap.objs.size >>= _) _ _ s'
 refine wpAny_bind (wpAny_load hS' ?_)
 obtain⟨h',g',d',tk',os'⟩:=s'
 have z1:g'=s.gens:=hm.gens
 have z2:d'=s.drawn:=hm.drawn
 have z3:os'=s.os:=hm.os
 subst z1 z2 z3
 refine wpAny_pure (hQ h' tk' _ _ (hPm acc' hacc.1 hacc.2) hm.toks (Heap.lt_size hS') fun b o' hb e=>hm.heap b o' (fun z=>?_) (oth b o' (Nat.ne_of_lt hb) ?_))
 ·rcases List.mem_cons.mp z with z | z
  ·exact Nat.ne_of_lt hb z
  ·have z:=List.mem_singleton.mp z
   rw[z]at hb
   exact absurd hb (by rw[hs1];exact Nat.not_lt.mpr (by exact Nat.le_succ _))
 ·exact Heap.get?_push_of_some _ (Heap.get?_push_of_some _ e)
theorem wo{a:Addr}{D:List Str}{Q:List Value->Shared->Prop}(hA:A.handled=none)(hS:dn P w s.heap a D)
  (hQ:∀(h':Heap) (tk:Nat) d (vs:List Value) (ds:List Str),StrsAre vs ds->ds.Perm D->s.toks<=tk->s.heap.objs.size<h'.objs.size->(∀b o,b<s.heap.objs.size->s.heap.get? b=some o->h'.get? b=some o)->Q vs { s with heap:=h',toks:=tk,drawn:=d }):wpAny (model P w) A (collect (.ref a)) Q E s:=by
 obtain⟨o,es,ep,t,ds,ho,hex,hd,hf,hled,hpl,hb,hn,hs,hpm⟩:=hS.elems
 have key:∀(h':Heap) (tk:Nat) d (vs:List Value),vs.Perm (es.toList.map (·.2))->s.toks<=tk->s.heap.objs.size<h'.objs.size->(∀b o,b<s.heap.objs.size->s.heap.get? b=some o->h'.get? b=some o)->Q vs { s with heap:=h',toks:=tk,drawn:=d }:=fun h' tk d vs hv q1 q2 q3=>by
  have hst:StrsAre vs (vs.map strOf):=strsAre_map vs fun v hv'=>hs.all v (hv.mem_iff.mp hv')
  refine hQ h' tk d vs _ hst ?_ q1 q2 q3
  refine((hv.map strOf).trans (List.Perm.of_eq ?_)).trans hpm
  exact hs.strs
 by_cases h1:es.size<=1
 ·have hp:t.place.size=es.size:=by
   simp only[SetTable.fits,Bool.and_eq_true,beq_iff_eq,decide_eq_true_eq]at hf
   exact hf.1
  exact Ao hA ho hex hd hf h1 hled hp key
 ·have hpl':t.plain=false:=hpl.resolve_right (by omega)
  exact Ad hA ho hex hd hf hpl' (by omega) (Nat.le_trans (Nat.le_of_lt hb) (by decide)) key
theorem AQ{a:Addr}{D:List Str}{Q:Value->Shared->Prop}(hA:A.handled=none)(hS:dn P w s.heap a D)(h64:D.length<64)
  (h:∀(h':Heap) (tk:Nat) d (l:Addr) (vs:List Value) (ss:List Str),s.heap.objs.size<=l->(∃e,h'.get? l=some (seqObj "list" vs.toArray e))->StrsAre vs ss->ss.Perm D->sortedS ss=true->s.toks<=tk →
   (∀b o,b<s.heap.objs.size->s.heap.get? b=some o->h'.get? b=some o)->Q (.ref l) { s with heap:=h',toks:=tk,drawn:=d }) :
  wpAny (model P w) A (call (.builtin "sorted") [.ref a]) Q E s:=by
 refine Calls.call_function_entry kind_sorted plain_sorted entry_sorted (args_sorted1 _) ?_
 unfold Builtin.«sorted»
 refine wpAny_bind (m:=checkCount "sorted" 1 1 _) (wpAny_pure ?_)
 refine wpAny_bind (wo (by simp[hA]) hS fun h1 tk d vs ds hst hpm htk hsz1 hk1=>?_)
 have hvl:vs.length=D.length:=by rw[StrsAre.length hst,hpm.length_eq]
 refine wpAny_bind (wpAny_newList ?_ (Nat.le_trans (show vs.length<=64 by omega) (by decide)))
 have hoL:(h1.push (seqObj "list" vs.toArray 0)).get? h1.objs.size=some (seqObj "list" vs.toArray 0):=Heap.get?_push_size _ rfl
 refine wpAny_bind (wpAny_holding (wpAny_call_entry slot_list_sort ⟨_,hoL,rfl⟩ entry_list_sort (list_sort_treeK (s:={ s with heap:=h1.push (seqObj "list" vs.toArray 0),toks:=tk,drawn:=d }) PyProof.Rows.strKind_oneLt hoL hst.keysOf (fun v₁ v₂ rest e=>keyKind_strs (by rw[←e];exact hst)) (by omega) fun st' hp hs=>⟨_,rfl,?_⟩) (args_list_sort _)))
 refine wpAny_pure ⟨_,rfl,?_⟩
 obtain⟨ss',q1,q2,q3⟩:=sorted_out_str hst hp hs
 refine h _ tk d h1.objs.size ((arrOf st').map (·.2)).toList ss' (Nat.le_of_lt hsz1) ?_ q1 (q2.trans hpm) q3 htk fun b o' hb e=>?_
 ·obtain⟨e1,r1⟩:∃e1,((h1.push (seqObj "list" vs.toArray 0)).update h1.objs.size (Obj.mapSeq fun _=>#[])).get? h1.objs.size=some (seqObj "list" #[] e1):=⟨_,get?_update_seq hoL (fun _=>#[])⟩
  have r2:(((((h1.push (seqObj "list" vs.toArray 0)).update h1.objs.size (Obj.mapSeq fun _=>#[])).push (seqObj "tuple" vs.toArray 0)).push (seqObj "list" #[] 0))).get? h1.objs.size=some (seqObj "list" #[] e1):=Heap.get?_push_of_some _ (Heap.get?_push_of_some _ r1)
  have r3:=get?_update_seq r2 (fun _=>(arrOf st').map (·.2))
  exact⟨_,by rw[Array.toArray_toList];exact r3⟩
 ·have hb1:b<h1.objs.size:=Nat.lt_trans hb hsz1
  have e1:=hk1 b o' hb e
  unfold sortedHeap
  refine(Heap.get?_update_other _ _ (Nat.ne_of_gt hb1)).trans (Heap.get?_push_of_some _ (Heap.get?_push_of_some _ ((Heap.get?_update_other _ _ (Nat.ne_of_gt hb1)).trans (Heap.get?_push_of_some _ e1))))
end
end L2
set_option Elab.async false
set_option linter.all false
set_option maxRecDepth 100000
set_option maxHeartbeats 4000000
namespace L2
open PySem PySem.Spec PyProof.Rows
def j2(P:Program)(w:World)(a:Addr)(D:List Str):HO:=.ext fun h=>dn P w h a D
theorem Aj{P:Program}{w:World}{H:Hp}{h:Heap}{a:Addr}{D:List Str}(S:dn P w h a D):bA P w H h a (j2 P w a D):=by
 refine⟨S,?_,fun h1 h2 z k=>?_⟩
 ·obtain⟨_,o,es,ep,t,ho,_⟩:=S
  exact⟨o,ho⟩
 ·exact⟨z.1,z.2.moved k⟩
theorem kS:∀{zs:List Str} {us:List Value},Vals (zs.map V.str) us->StrsAre us zs
 | [],_,.nil=>.nil
 | z::zs,_,.cons r t=>by
  obtain⟨tk,rfl⟩:=r
  exact .cons z tk (kS (zs:=zs) t)
theorem mf:∀{us:List Value} {zs:List Str},StrsAre us zs->Vals (zs.map V.str) us
 | _,_,.nil=>.nil
 | _,_,.cons z t r=>.cons ⟨t,rfl⟩ (mf r)
section
variable {X:Cx} {pins:List (Addr×Obj)} {σ:St} {H:Hp} {s:Shared}
theorem Inv.dr(I:Inv X pins σ H s)(d:Drawn):Inv X pins σ H { s with drawn:=d }:=⟨I.ok,I.os,I.bare,I.base,I.loc,I.cell,I.free,I.freeC,I.pin,I.hok,I.len⟩
end
section
variable {X:Cx}
def yH(P:Program)(w:World):List V->Hp->VK->Prop:=fun xs H Q=>∃p zs,xs=[.ref p]/\H p=some (.lst (List.map V.str zs))/\zs.length<=4000 ∧
 ∀l D,H l=none->D.Nodup->(∀z,z∈D↔z∈zs)->Q (.ref l) (upd H l (j2 P w l D))
theorem y4{k:Nat}(hr:Room k X.A):bL X (.type "set") (yH X.prog X.w):=by
 intro pins s σ H xs us Q I r h
 obtain⟨p,zs,rfl,hp,hz,q⟩:=h
 obtain⟨u,rfl,rx⟩:=vals1 r
 cases rx
 obtain⟨_,its,n,rv,gt⟩:=I.hok p _ hp
 have hst:=kS rv
 have hl:its.length=zs.length:=StrsAre.length hst
 refine w9 hr.hd (ys:=its.toArray) (zs:=zs) (show s.heap.IsList p _ from⟨_,gt,rfl,n,rfl⟩) hst (by rw[List.size_toArray,hl];exact Nat.lt_of_le_of_lt (Nat.succ_le_succ hz) (by decide)) fun h' tk D hS hD hk=>?_
 have hfr:=I.hok.fresh (Nat.le_refl _)
 exact⟨.ref s.heap.objs.size,_,I.laid (t':=tk) (fun b o e=>hk b o (Heap.lt_size e) e) (Nat.le_refl _) (Aj hS),rfl,q _ D hfr hS.1 hD⟩
def AO(P:Program)(w:World):List V->Hp->VK->Prop:=fun xs H Q=>∃(p:Addr) (D:List Str),xs=[.ref p]/\H p=some (j2 P w p D)/\D.length<64 ∧
 ∀l (ss:List Str),H l=none->ss.Perm D->sortedS ss=true->Q (.ref l) (upd H l (.lst (List.map V.str ss)))
theorem wY{k:Nat}(hr:Room k X.A):bL X (.builtin "sorted") (AO X.prog X.w):=by
 intro pins s σ H xs us Q I r h
 obtain⟨p,D,rfl,hp,hl,q⟩:=h
 obtain⟨u,rfl,rx⟩:=vals1 r
 cases rx
 obtain⟨hO,_⟩:=I.hok p _ hp
 refine AQ hr.hd (show dn X.prog X.w s.heap p D from hO) hl fun h' tk d l vs ss hle hlst hst hpm hso htk hk=>?_
 have hfr:=I.hok.fresh hle
 obtain⟨e,he⟩:=hlst
 have hsl:ss.length=D.length:=hpm.length_eq
 refine⟨.ref l,_,((I.dr d).laid (t':=tk) (o:=.lst (ss.map V.str)) (fun b o e=>hk b o (Heap.lt_size e) e) hle ?_),rfl,q l ss hfr hpm hso⟩
 exact⟨by rw[List.length_map];exact Nat.le_trans (show ss.length<=64 by omega) (by decide),vs,e,mf hst,he⟩
def pj(K:PySem.W.Frag)(tl:TE):TI:=fun σ H R=>tl σ H fun x H1=>∃a,x=.ref a/\(((∃xs,af K H1 a xs)/\R (bY K a) H1)\/((∃xs,ag K H1 a xs)/\R (bS K a) H1))
theorem BQ(K:PySem.W.Frag){tg l:Expr}{tl:TE}(hl:PE X l tl)(hK:X.K=K:=by rfl):PI X tg l (pj K tl):=by
 subst hK
 intro pins s σ H R I h
 refine aq (hl pins s σ H _ I h) fun v s1 ⟨x,H1,I1,r1,q1⟩=>?_
 obtain⟨a,e,q1⟩:=q1
 subst e
 cases r1
 rcases q1 with⟨⟨xs,hq⟩,q⟩ | ⟨⟨xs,hq⟩,q⟩
 ·obtain⟨its,rv,p,hz⟩:=I1.list hq
  refine wpAny_pyIter_list p.isList ?_
  refine⟨s1.heap.objs.size,[s1.heap.objs.size],_,_,H1,rfl,I1.kept (t':=s1.toks) fun b o e=>Heap.get?_push_of_some _ e,r6 a _,⟨_,Heap.get?_push_size _ rfl,rfl,rfl⟩,fun b hb=>?_,q⟩
  have e:b=s1.heap.objs.size:=by simpa using hb
  subst e
  exact I1.fpOk (Nat.le_refl _) (I1.hok.fresh (Nat.le_refl _))
 ·obtain⟨its,rv,p,hz⟩:=I1.tuple hq
  refine wpAny_pyIter_tuple (show s1.heap.IsTuple a its.toArray from p) ?_
  refine⟨s1.heap.objs.size,[s1.heap.objs.size],_,_,H1,rfl,I1.kept (t':=s1.toks) fun b o e=>Heap.get?_push_of_some _ e,pP a _,⟨_,Heap.get?_push_size _ rfl,rfl,rfl⟩,fun b hb=>?_,q⟩
  have e:b=s1.heap.objs.size:=by simpa using hb
  subst e
  exact I1.fpOk (Nat.le_refl _) (I1.hok.fresh (Nat.le_refl _))
end
theorem rd_iLT{K:PySem.W.Frag}{te:TE}{σ:St}{H:Hp}{R:It->Hp->Prop}(h:te σ H fun x H1=>∃a,x=.ref a/\(((∃xs,af K H1 a xs)/\R (bY K a) H1)\/((∃xs,ag K H1 a xs)/\R (bS K a) H1))):pj K te σ H R:=h
end L2
set_option Elab.async false
set_option linter.all false
set_option maxRecDepth 100000
set_option maxHeartbeats 4000000
namespace L2
open PySem PySem.Spec PyProof.Rows
section
variable {P:Program} {w:World} {A:Around} {E:Value->Shared->Prop} {s:Shared}
end
section
variable {X:Cx}
end
end L2
set_option Elab.async false
set_option linter.all false
set_option maxRecDepth 100000
set_option maxHeartbeats 4000000
namespace L2
open PySem PySem.Spec PyProof.Rows
section
variable {X:Cx}
def rq(i j:Int):Prop:=0<=j/\j<=1000/\i.natAbs.log2<30000
theorem Bm:bg X (binaryOp .LShift) (rI rq fun i j=>.int (i*2 ^ j.toNat)):=gE fun i j _ _ _ _ _ hc q=>by
 obtain⟨h0,h1,h2⟩:=hc
 refine PyProof.Rows.lshift_int h0 ?_ q
 have:Builtin.Int.intBits i<=30000:=by
  unfold Builtin.Int.intBits
  split<;>omega
 omega
end
end L2
set_option Elab.async false
set_option linter.all false
set_option maxRecDepth 100000
set_option maxHeartbeats 4000000
namespace L2
open PySem PySem.Spec PyProof.Rows
section
variable {X:Cx} {pins:List (Addr×Obj)} {σ:St} {H:Hp} {s:Shared}
end
section
variable {X:Cx}
end
end L2
set_option Elab.async false
set_option linter.all false
set_option maxRecDepth 100000
set_option maxHeartbeats 4000000
namespace L2
open PySem PySem.Spec PyProof.Rows
section
variable {X:Cx}
end
end L2
set_option Elab.async false
set_option linter.all false
set_option maxRecDepth 100000
set_option maxHeartbeats 4000000
namespace L2
open PySem PySem.W PySem.Spec PyProof.Rows
theorem yL{prog:Program}{w:World}{d:Addr}{od:Obj}{es:Array DictEntry}{ep:Nat}(hm:(d == sysModules)=false)(hx:od.ExactDict)(hdat:od.data=.dict es ep):KdlSrc prog w "dict" d d es.size (fun i v=>∃h:i<es.size,v=es[i].key) (fun h=>h.get? d=some od) where
 type:=fun _ ho=>⟨od,ho,hx.1⟩
 there:=fun _ ho=>⟨Heap.lt_size ho,Heap.lt_size ho⟩
 keep:=fun _ _ ho hk=>hk d (.inl rfl) od ho
 notList:=by decide
 notTuple:=by decide
 hint:=fun _ _ _ _ ho hq=>kdl_hint_dict ⟨od,ho,hx.1⟩ hq
 iter:=fun A s hh ho=>by
  have hne:d≠s.heap.objs.size:=Nat.ne_of_lt (Heap.lt_size ho)
  refine⟨_,fun i h=>h.IsKeyIter s.heap.objs.size d i es.size ep/\h.get? d=some od,(fun E Q hq=>wt hm ho hx hdat hq),?_,⟨⟨_,Heap.get?_push_size _ rfl,rfl,rfl⟩,Heap.get?_push_of_some _ ho⟩⟩
  exact{
   sub:=fun b hb=>by simp at hb;simp[hb]
   frame:=fun _ _ _ st hk=>⟨st.1.at fun o e=>hk _ (by simp) o e,hk d (by simp) od st.2⟩
   item:=fun i s1 Q E hi st hQ=>yj st.1 st.2 hdat hi fun h' st' sb=>hQ _ h' s1.toks ⟨hi,rfl⟩ ⟨st',(sb.2 d hne).trans st.2⟩ fun b o hb e=>(sb.2 b (fun z=>hb (by simp[z]))).trans e
   done:=fun s1 Q E st hQ=>vH hh st.1 st.2 hdat (Nat.le_refl _) fun h' eb=>hQ h' s1.toks fun b o hb e=>eb b o (fun z=>hb (by simp[z])) e
   self:=fun _ _ _ _ st hQ=>wpAny_pyIter_keyiter st.1 hQ }
theorem rB:∀bs:List Addr,Vals (bs.map V.ref) (bs.map Value.ref)
 | []=>.nil
 | _::bs=>.cons rfl (rB bs)
section
variable {X:Cx}
def wW:List V->Hp->VK->Prop:=fun xs H Q=>∃p kvs,xs=[.ref p]/\H p=some (.dT kvs)/\∀l (bs:List Addr),H l=none->Paired (fun b (kv:List Key×V)=>H b=some (.tup (kv.1.map kV))) bs kvs->Q (.ref l) (upd H l (.lst (bs.map V.ref)))
theorem zE{k:Nat}(hr:Room k X.A):bL X (.type "list") wW:=by
 intro pins s σ H xs us Q I r h
 obtain⟨p,kvs,rfl,hp,q⟩:=h
 obtain⟨u,rfl,rx⟩:=vals1 r
 cases rx
 obtain⟨hz,hm,xs,rel,od,es,ep,ho,hx,hdat,hes,hnd⟩:=I.hok p _ hp
 have hsz:es.size=xs.length:=by rw[←Array.length_toList,hes,List.length_map]
 have hxl:=Paired.length rel
 refine kdl_call (yL hm hx hdat) hr.hd ho (by rw[hsz,←hxl];exact hz) fun h' tk acc' c' hk hS' hacc=>?_
 have he:acc'=((xs.map (·.2.1)).map Value.ref).toArray:=by
  have h1:acc'.size=xs.length:=hacc.1.trans hsz
  refine Array.ext_getElem? fun i=>?_
  by_cases hi:i<acc'.size
  ·obtain⟨hi2,h3⟩:=hacc.2 i acc'[i] (Array.getElem?_eq_getElem hi)
   have h4:es.toList[i]?=some es[i]:=by rw[Array.getElem?_toList,Array.getElem?_eq_getElem hi2]
   rw[hes,List.getElem?_map,List.getElem?_eq_getElem (by omega)]at h4
   rw[Array.getElem?_eq_getElem hi,h3,←Option.some.inj h4,List.getElem?_toArray,List.getElem?_map,List.getElem?_map,List.getElem?_eq_getElem (by omega)]
   rfl
  ·rw[Array.getElem?_eq_none (by omega),List.getElem?_toArray,List.getElem?_eq_none (by rw[List.length_map,List.length_map];omega)]
 rw[he]at hS'
 exact⟨.ref s.heap.objs.size,_,I.laid (t':=tk) (o:=.lst ((xs.map (·.2.1)).map V.ref)) hk (Nat.le_refl _) ⟨by rw[List.length_map,List.length_map,←hxl];exact hz,_,c',rB _,hS'⟩,rfl,q _ _ (I.hok.fresh (Nat.le_refl _)) (AD rel)⟩
def xh:List V->Hp->VK->Prop:=fun xs H Q=>∃p zs,xs=[.ref p]/\H p=some (.lst (List.map V.str zs))/\zs.length<64/\∀l (ss:List Str),H l=none->ss.Perm zs->sortedS ss=true->Q (.ref l) (upd H l (.lst (List.map V.str ss)))
theorem zH:bL X (.builtin "sorted") xh:=by
 intro pins s σ H xs us Q I r h
 obtain⟨p,zs,rfl,hp,hz,q⟩:=h
 obtain⟨u,rfl,rx⟩:=vals1 r
 cases rx
 obtain⟨_,its,n,rv,gt⟩:=I.hok p _ hp
 have hst:=kS rv
 have hl:=StrsAre.length hst
 refine sorted_strs (show s.heap.IsList p its.toArray from⟨_,gt,rfl,n,rfl⟩) hst (by omega) fun out ss' a1 a2 a3=>?_
 obtain⟨e,he⟩:=sortedAll_at s.heap its out
 have hle:s.heap.objs.size<=s.heap.objs.size+1:=Nat.le_succ _
 have hsl:=a2.length_eq
 exact⟨.ref (s.heap.objs.size+1),_,I.laid (t':=s.toks) (o:=.lst (ss'.map V.str)) (fun b o eb=>sortedAll_old eb) hle ⟨by rw[List.length_map];exact Nat.le_trans (show ss'.length<=64 by omega) (by decide),_,e,mf a1,by rw[Array.toArray_toList];exact he⟩,rfl,q _ ss' (I.hok.fresh hle) a2 a3⟩
end
end L2
set_option linter.all false
namespace St
section
variable {b s:Int} {o a:List Int}
end
end St
set_option linter.all false
namespace St
end St
set_option linter.all false
namespace St
end St
set_option linter.all false
namespace St
end St
set_option linter.all false
namespace St
end St
set_option Elab.async false
set_option linter.all false
namespace Bfs
theorem nz:∀(N:Nat) (l:List Nat),l.Nodup->(∀x∈l,x<N)->l.length<=N
 | 0,l,_,h=>by
  cases l with
  | nil=>exact Nat.le_refl _
  | cons x l=>exact absurd (h x List.mem_cons_self) (Nat.not_lt_zero _)
 | N+1,l,hn,h=>by
  have ih:=nz N (l.erase N) (hn.erase N) (fun x hx=>by
   have:=h x (List.mem_of_mem_erase hx)
   have hne:x≠N:=fun e=>by
    subst e
    exact(List.Nodup.not_mem_erase hn) hx
   omega)
  by_cases hm:N∈l
  ·rw[List.length_erase_of_mem hm]at ih
   omega
  ·rw[List.erase_of_not_mem hm]at ih
   omega
abbrev Pl:=Int×Int
def inR(T:Int)(x:Pl):Prop:=0<=x.1/\x.1<12/\0<=x.2/\x.2<=T
theorem zF{T:Int}{l:List Pl}(hT:T<=2000)(hn:l.Nodup)(h:∀x∈l,inR T x):l.length<=24012:=by
 have hmap:(l.map fun x=>(x.1*2001+x.2).toNat).Nodup:=by
  unfold List.Nodup at hn ⊢
  rw[List.pairwise_map]
  refine List.Pairwise.imp_of_mem ?_ hn
  intro a b ha hb hab e
  obtain⟨a1,a2,a3,a4⟩:=h a ha
  obtain⟨b1,b2,b3,b4⟩:=h b hb
  refine hab (Prod.ext ?_ ?_)<;>omega
 have:=nz 24012 _ hmap (fun y hy=>by
  obtain⟨x,hx,rfl⟩:=List.mem_map.mp hy
  obtain⟨a1,a2,a3,a4⟩:=h x hx
  omega)
 rwa [List.length_map]at this
section
variable (nx:Pl->Nat->Option Pl) (s:Pl)
inductive Wk:Nat->Pl->Prop
 | zero:Wk 0 s
 | succ {n:Nat} {x y:Pl} {k:Nat}:Wk n x->nx x k=some y->Wk (n+1) y
def cz(n:Nat)(x:Pl):Prop:=Wk nx s n x/\∀m,m<n->¬Wk nx s m x
theorem cz.uniq{n m:Nat}{x:Pl}(h:cz nx s n x)(g:cz nx s m x):n=m:=by
 rcases Nat.lt_trichotomy n m with l | l | l
 ·exact absurd h.1 (g.2 n l)
 ·exact l
 ·exact absurd g.1 (h.2 m l)
abbrev Ent:=Pl×Nat×Option (Pl×Nat)
structure QI(q:List Ent)(i B:Nat):Prop where
 nd:(q.map (·.1)).Nodup
 par:∀e∈q,(e.2.2=none/\e.1=s/\e.2.1=0)\/∃p k d o,e.2.2=some (p,k)/\nx p k=some e.1/\e.2.1=d+1/\(p,d,o)∈q
 le:∀e∈q,e.2.1<=B+1
 lo:∀j e,q[j]?=some e->i<=j->B<=e.2.1
 srt:q.Pairwise fun a b=>a.2.1<=b.2.1
 cl:∀j e,j<i->q[j]?=some e->∀k y,nx e.1 k=some y->∃e'∈q,e'.1=y/\e'.2.1<=e.2.1+1
 s0:(s,0,none)∈q
theorem QI.begin:QI nx s [(s,0,none)] 0 0:=by
 refine⟨by simp,?_,?_,?_,by simp,?_,by simp⟩
 ·intro e he
  rw[List.mem_singleton]at he
  subst he
  exact .inl ⟨rfl,rfl,rfl⟩
 ·intro e he
  rw[List.mem_singleton]at he
  subst he
  simp
 ·intro j e _ _
  exact Nat.zero_le _
 ·intro j e hj
  exact absurd hj (Nat.not_lt_zero _)
variable {nx s}
theorem QI.wk{q:List Ent}{i B:Nat}(h:QI nx s q i B):∀(d:Nat) (e:Ent),e∈q->e.2.1=d->Wk nx s d e.1
 | 0,e,he,hd=>by
  rcases h.par e he with⟨_,hs,_⟩ | ⟨p,k,d,o,_,_,hd',_⟩
  ·rw[hs];exact .zero
  ·omega
 | d+1,e,he,hd=>by
  rcases h.par e he with⟨_,_,h0⟩ | ⟨p,k,d',o,_,hn,hd',hm⟩
  ·omega
  ·have:d'=d:=by omega
   subst this
   exact .succ (QI.wk h d' _ hm rfl) hn
theorem QI.all {q : List Ent} {i B : Nat} (h : QI nx s q i B) : ∀ (n : Nat) (y : Pl), Wk nx s n y → (n ≤ B ∨ i = q.length) → ∃ e ∈ q, e.1 = y ∧ e.2.1 ≤ n := by
  intro n y w
  induction w with
  | zero => intro _; exact ⟨_, h.s0, rfl, Nat.le_refl _⟩
  | @succ n x y k w hk ih =>
    intro hB
    obtain ⟨e, he, hx, hd⟩ := ih (by rcases hB with h | h; · left; omega
                                     · exact .inr h)
    obtain ⟨j, hj⟩ := List.getElem?_of_mem he
    have hji : j < i := by
      rcases hB with hB | hB
      · rcases Nat.lt_or_ge j i with l | l
        · exact l
        · have := h.lo j e hj l
          omega
      · rw [hB]
        exact (List.getElem?_eq_some_iff.mp hj).1
    obtain ⟨e', he', hy, hd'⟩ := h.cl j e hji hj k y (by rw [hx]; exact hk)
    exact ⟨e', he', hy, by omega⟩
theorem Bv{q:List Ent}(hn:(q.map (·.1)).Nodup){e e':Ent}(h:e∈q)(h':e'∈q)(he:e.1=e'.1):e=e':=by
 induction q with
 | nil=>cases h
 | cons a q ih=>
  rw[List.map_cons,List.nodup_cons]at hn
  rcases List.mem_cons.mp h with r | r<;>rcases List.mem_cons.mp h' with r' | r'
  ·rw[r,r']
  ·subst r
   exact absurd (List.mem_map.mpr ⟨e',r',he.symm⟩) hn.1
  ·subst r'
   exact absurd (List.mem_map.mpr ⟨e,r,he⟩) hn.1
  ·exact ih hn.2 r r'
theorem QI.dist{q:List Ent}{i B:Nat}(h:QI nx s q i B){e:Ent}(he:e∈q):cz nx s e.2.1 e.1:=by
 refine⟨h.wk _ e he rfl,fun m hm w=>?_⟩
 have:=h.le e he
 obtain⟨e',he',hy,hd⟩:=h.all m e.1 w (.inl (by omega))
 have:=Bv h.nd he' he hy
 subst this
 omega
theorem QI.done{q:List Ent}{B:Nat}(h:QI nx s q q.length B){y:Pl}(hy:y∉q.map (·.1))(n:Nat):¬cz nx s n y:=fun d=>by
 obtain⟨e,he,hx,_⟩:=h.all n y d.1 (.inr rfl)
 exact hy (List.mem_map.mpr ⟨e,he,hx⟩)
theorem qm{q:List Ent}(hs:q.Pairwise fun a b=>a.2.1<=b.2.1){i j:Nat}{a b:Ent}(ha:q[i]?=some a)(hb:q[j]?=some b)(hij:i<=j):a.2.1<=b.2.1:=by
 rcases Nat.lt_or_ge i j with l | l
 ·obtain⟨h1,e1⟩:=List.getElem?_eq_some_iff.mp ha
  obtain⟨h2,e2⟩:=List.getElem?_eq_some_iff.mp hb
  have:=List.pairwise_iff_getElem.mp hs i j h1 h2 l
  rw[e1,e2]at this
  exact this
 ·have:i=j:=by omega
  subst this
  rw[ha]at hb
  cases hb
  exact Nat.le_refl _
theorem QI.deepAt{q:List Ent}{i B:Nat}(h:QI nx s q i B):∀(j:Nat) (e:Ent),q[j]?=some e->e.2.1<=j:=by
 intro j
 induction j using Nat.strongRecOn with
 | _ j ih=>
  intro e he
  rcases h.par e (List.mem_of_getElem? he)with⟨_,_,h0⟩ | ⟨p,k,d,o,_,_,hd,hm⟩
  ·omega
  ·obtain⟨j',hj'⟩:=List.getElem?_of_mem hm
   have hlt:j'<j:=by
    rcases Nat.lt_or_ge j' j with l | l
    ·exact l
    ·have:=qm h.srt he hj' l
     dsimp only at this
     omega
   have:=ih j' hlt _ hj'
   dsimp only at this
   omega
theorem QI.deep{q:List Ent}{i B:Nat}(h:QI nx s q i B){e:Ent}(he:e∈q):e.2.1<=q.length:=by
 obtain⟨j,hj⟩:=List.getElem?_of_mem he
 have h1:=h.deepAt j e hj
 have h2:=(List.getElem?_eq_some_iff.mp hj).1
 omega
structure QF(q:List Ent)(i:Nat)(h:Ent)(ks:List Nat)(m:Nat):Prop where
 at_:q[i]?=some h
 nd:(q.map (·.1)).Nodup
 par:∀e∈q,(e.2.2=none/\e.1=s/\e.2.1=0)\/∃p k d o,e.2.2=some (p,k)/\nx p k=some e.1/\e.2.1=d+1/\(p,d,o)∈q
 le:∀e∈q,e.2.1<=h.2.1+1
 srt:q.Pairwise fun a b=>a.2.1<=b.2.1
 cl:∀j e,j<i->q[j]?=some e->∀k y,nx e.1 k=some y->∃e'∈q,e'.1=y/\e'.2.1<=e.2.1+1
 ch:∀k∈ks.take m,∀y,nx h.1 k=some y->∃e'∈q,e'.1=y/\e'.2.1<=h.2.1+1
 s0:(s,0,none)∈q
theorem QI.look{q:List Ent}{i B:Nat}{h:Ent}(H:QI nx s q i B)(ha:q[i]?=some h)(ks:List Nat):QF (nx:=nx) (s:=s) q i h ks 0:=by
 refine⟨ha,H.nd,H.par,fun e he=>?_,H.srt,H.cl,fun k hk=>by simp at hk,H.s0⟩
 have:=H.le e he
 have:=H.lo i h ha (Nat.le_refl _)
 omega
theorem QF.next{q:List Ent}{i:Nat}{h:Ent}{ks:List Nat}(H:QF (nx:=nx) (s:=s) q i h ks ks.length)(hk:∀k y,nx h.1 k=some y->k∈ks):QI nx s q (i+1) h.2.1:=by
 refine⟨H.nd,H.par,H.le,fun j e hj hij=>qm H.srt H.at_ hj (by omega),H.srt,fun j e hj he k y hy=>?_,H.s0⟩
 rcases Nat.lt_or_ge j i with l | l
 ·exact H.cl j e l he k y hy
 ·have:j=i:=by omega
  subst this
  have e':=H.at_
  rw[he]at e'
  cases e'
  exact H.ch k (by rw[List.take_length];exact hk k y hy) y hy
theorem QF.skip{q:List Ent}{i:Nat}{h:Ent}{ks:List Nat}{m k:Nat}(H:QF (nx:=nx) (s:=s) q i h ks m)(hk:ks[m]?=some k)(hy:∀y,nx h.1 k=some y->y∈q.map (·.1)):QF (nx:=nx) (s:=s) q i h ks (m+1):=by
 refine⟨H.at_,H.nd,H.par,H.le,H.srt,H.cl,fun k' hk' y hy'=>?_,H.s0⟩
 rw[List.take_succ,hk]at hk'
 rcases List.mem_append.mp hk' with z | z
 ·exact H.ch k' z y hy'
 ·have:k'=k:=by simpa using z
  subst this
  obtain⟨e,he,hx⟩:=List.mem_map.mp (hy y hy')
  exact⟨e,he,hx,H.le e he⟩
theorem QF.add{q:List Ent}{i:Nat}{h:Ent}{ks:List Nat}{m k:Nat}{y:Pl}(H:QF (nx:=nx) (s:=s) q i h ks m)(hk:ks[m]?=some k)(hy:nx h.1 k=some y)(hn:y∉q.map (·.1)):
  QF (nx:=nx) (s:=s) (q++[(y,h.2.1+1,some (h.1,k))]) i h ks (m+1):=by
 have hil:=(List.getElem?_eq_some_iff.mp H.at_).1
 have hmem:h∈q:=List.mem_of_getElem? H.at_
 refine⟨by rw[List.getElem?_append_left hil];exact H.at_,?_,?_,?_,?_,?_,?_,List.mem_append_left _ H.s0⟩
 ·rw[List.map_append,List.nodup_append]
  refine⟨H.nd,by simp,fun a ha b hb e=>?_⟩
  have:b=y:=by simpa using hb
  subst this
  subst e
  exact hn ha
 ·intro e he
  rcases List.mem_append.mp he with z | z
  ·rcases H.par e z with p | ⟨p,k',d,o,h1,h2,h3,h4⟩
   ·exact .inl p
   ·exact .inr ⟨p,k',d,o,h1,h2,h3,List.mem_append_left _ h4⟩
  ·have:e=(y,h.2.1+1,some (h.1,k)):=by simpa using z
   subst this
   exact .inr ⟨h.1,k,h.2.1,h.2.2,rfl,hy,rfl,List.mem_append_left _ hmem⟩
 ·intro e he
  rcases List.mem_append.mp he with z | z
  ·exact H.le e z
  ·have:e=(y,h.2.1+1,some (h.1,k)):=by simpa using z
   subst this
   exact Nat.le_refl _
 ·rw[List.pairwise_append]
  refine⟨H.srt,by simp,fun a ha b hb=>?_⟩
  have:b=(y,h.2.1+1,some (h.1,k)):=by simpa using hb
  subst this
  exact H.le a ha
 ·intro j e hj he k' y' hy'
  rw[List.getElem?_append_left (by omega)]at he
  obtain⟨e',h1,h2⟩:=H.cl j e hj he k' y' hy'
  exact⟨e',List.mem_append_left _ h1,h2⟩
 ·intro k' hk' y' hy'
  rw[List.take_succ,hk]at hk'
  rcases List.mem_append.mp hk' with z | z
  ·obtain⟨e',h1,h2⟩:=H.ch k' z y' hy'
   exact⟨e',List.mem_append_left _ h1,h2⟩
  ·have:k'=k:=by simpa using z
   subst this
   rw[hy]at hy'
   cases hy'
   exact⟨_,List.mem_append_right _ List.mem_cons_self,rfl,Nat.le_refl _⟩
def gone:Pl->List Nat->Option Pl
 | x,[]=>some x
 | x,k::r=>(nx x k).bind fun y=>gone y r
end
end Bfs
set_option Elab.async false
set_option linter.all false
namespace Bfs
inductive Rw(S:Pl->Pl->Prop):Nat->Pl->Pl->Prop
 | nil {x:Pl}:Rw S 0 x x
 | snoc {n:Nat} {x y z:Pl}:Rw S n x y->S y z->Rw S (n+1) x z
theorem Rw.trans{S:Pl->Pl->Prop}{n k:Nat}{x y z:Pl}(h:Rw S n x y)(g:Rw S k y z):Rw S (n+k) x z:=by
 induction g with
 | nil=>exact h
 | snoc _ hs ih=>exact .snoc (ih h) hs
theorem Rw.fn{S:Pl->Pl->Prop}{n:Nat}{x y:Pl}(h:Rw S n x y):∃w:Nat->Pl,w 0=x/\w n=y/\∀i,i<n->S (w i) (w (i+1)):=by
 induction h with
 | @nil x=>exact⟨fun _=>x,rfl,rfl,fun i hi=>absurd hi (Nat.not_lt_zero _)⟩
 | @snoc n x y z _ hs ih=>
  obtain⟨w,h0,hn,hw⟩:=ih
  refine⟨fun i=>if i<=n then w i else z,by simp[h0],(by show(if n+1<=n then w (n+1)else z)=z;rw[if_neg (by omega)]),fun i hi=>?_⟩
  try dsimp only
  rcases Nat.lt_or_ge i n with l | l
  ·rw[if_pos (by omega),if_pos (by omega)]
   exact hw i l
  ·have:i=n:=by omega
   subst this
   rw[if_pos (Nat.le_refl _),if_neg (by omega),hn]
   exact hs
theorem tT{S:Pl->Pl->Prop}{w:Nat->Pl}{i:Nat}:∀(k:Nat),(∀j,i<=j->j<i+k->S (w j) (w (j+1)))->Rw S k (w i) (w (i+k))
 | 0,_=>.nil
 | k+1,h=>.snoc (tT k fun j h1 h2=>h j h1 (by omega)) (h (i+k) (by omega) (by omega))
theorem kq{S:Pl->Pl->Prop}{w:Nat->Pl}{i j:Nat}(hij:i<=j)(h:∀k,i<=k->k<j->S (w k) (w (k+1))):Rw S (j-i) (w i) (w j):=by
 have:=tT (S:=S) (w:=w) (i:=i) (j-i) (fun k h1 h2=>h k h1 (by omega))
 rwa [show i+(j-i)=j by omega]at this
theorem nj{h:Nat->Int}{l:Int}:∀(P:Nat),(∀i,i<P->h (i+1)<=h i+1)->h 0<=l->l<=h P->∃u,u<=P/\h u=l/\∀i,u<i->i<=P->l<h i
 | 0,_,h0,hP=>⟨0,Nat.le_refl _,by omega,fun i h1 h2=>by omega⟩
 | P+1,hs,h0,hP=>by
  by_cases e:h (P+1)=l
  ·exact⟨P+1,Nat.le_refl _,e,fun i h1 h2=>by omega⟩
  ·have:=hs P (by omega)
   obtain⟨u,hu,hl,hi⟩:=nj P (fun i hi=>hs i (by omega)) h0 (by omega)
   refine⟨u,by omega,hl,fun i h1 h2=>?_⟩
   rcases Nat.lt_or_ge P i with g | g
   ·have:i=P+1:=by omega
    subst this
    omega
   ·exact hi i h1 g
theorem Bu{h:Nat->Int}{l:Int}{P n:Nat}(hP:P<=n)(hs:∀i,P<=i->i<n->h i<=h (i+1)+1)(h0:h n<=l)(hl:l<=h P):∃d,P<=d/\d<=n/\h d=l/\∀i,P<=i->i<d->l<h i:=by
 obtain⟨u,hu,hul,hui⟩:=nj (h:=fun i=>h (n-i)) (l:=l) (n-P) (fun i hi=>by
  have:=hs (n-(i+1)) (by omega) (by omega)
  rwa [show n-(i+1)+1=n-i by omega]at this) (by simpa using h0) (by
  try dsimp only
  rw[show n-(n-P)=P by omega];exact hl)
 refine⟨n-u,by omega,by omega,hul,fun i h1 h2=>?_⟩
 have:=hui (n-i) (by omega) (by omega)
 (try dsimp only at this)
 rwa [show n-(n-i)=i by omega]at this
theorem code_inj{m r s r' s':Int}(hs:0<=s)(hs1:s<m)(hs':0<=s')(hs1':s'<m)(e:r*m+s=r'*m+s'):r=r'/\s=s':=by
 have h1:s=s':=by
  have:=congrArg (· % m) e
  (try dsimp only at this)
  rw[Int.add_comm,Int.add_mul_emod_self_right,Int.add_comm (r'*m),Int.add_mul_emod_self_right,Int.emod_eq_of_lt hs hs1,Int.emod_eq_of_lt hs' hs1']at this
  exact this
 refine⟨?_,h1⟩
 have h2:r*m=r'*m:=by omega
 exact Int.eq_of_mul_eq_mul_right (by omega) h2
theorem mN{m r s:Int}(hr:0<=r)(hr1:r<m)(hs:0<=s)(hs1:s<m):0<=r*m+s/\r*m+s<m*m:=by
 have h1:0<=r*m:=Int.mul_nonneg hr (by omega)
 have h2:(r+1)*m<=m*m:=Int.mul_le_mul_of_nonneg_right (by omega) (by omega)
 rw[Int.add_mul,Int.one_mul]at h2
 omega
theorem twice{K:Nat}(code:Nat->Nat)(h:∀j,j<=K->code j<K):∃i j,i<j/\j<=K/\code i=code j:=by
 refine Classical.byContradiction fun no=>?_
 have hn:((List.range (K+1)).map code).Nodup:=by
  unfold List.Nodup
  rw[List.pairwise_map]
  refine List.Pairwise.imp_of_mem ?_ (List.pairwise_lt_range (n:=K+1))
  intro a b ha hb hab e
  exact no ⟨a,b,hab,by have:=List.mem_range.mp hb;omega,e⟩
 have:=nz K _ hn (fun x hx=>by
  obtain⟨j,hj,rfl⟩:=List.mem_map.mp hx
  exact h j (by have:=List.mem_range.mp hj;omega))
 rw[List.length_map,List.length_range]at this
 omega
theorem cut{S:Pl->Pl->Prop}{m:Int}(hm:0<m)(h1:∀x y,S x y->y.2<=x.2+1/\x.2<=y.2+1)(h2:∀x y c,S x y->0<=c->1<=x.2-c->1<=y.2-c->S (x.1,x.2-c) (y.1,y.2-c))
  (h3:∀x y,S x y->0<=y.1/\y.1<m) {b:Int} (hb:0<=b):∀(n:Nat) (x g:Pl),Rw S n x g->0<=x.1->x.1<m->x.2<=b->g.2<=b->∃n',n'<=n/\Rw (fun a c=>S a c/\c.2<=b+m*m) n' x g:=by
 intro n
 induction n using Nat.strongRecOn with
 | _ n ih=>
  intro x g hw x0 x1 xb gb
  obtain⟨w,hw0,hwn,hws⟩:=hw.fn
  by_cases hall:∀i,i<=n->(w i).2<=b+m*m
  ·refine⟨n,Nat.le_refl _,?_⟩
   have:=kq (S:=fun a c=>S a c/\c.2<=b+m*m) (w:=w) (Nat.zero_le n) (fun k _ hk=>⟨hws k hk,hall (k+1) (by omega)⟩)
   rw[hw0,hwn]at this
   exact this
  ·obtain⟨P,hP⟩:=Classical.not_forall.mp hall
   obtain⟨hPn,hPh⟩:P<=n/\b+m*m<(w P).2:=by
    by_cases c:P<=n
    ·exact⟨c,by
      by_cases d:(w P).2<=b+m*m
      ·exact absurd (fun _=>d) hP
      ·omega⟩
    ·exact absurd (fun z=>absurd z c) hP
   have hmm:0<=m*m:=Int.mul_nonneg (by omega) (by omega)
   have room:∀i,i<=n->0<=(w i).1/\(w i).1<m:=by
    intro i hi
    cases i with
    | zero=>rw[hw0];exact⟨x0,x1⟩
    | succ i=>exact h3 _ _ (hws i (by omega))
   have hu:∀j:Nat,∃u,(j<=(m*m).toNat->u<=P/\(w u).2=b+1+j/\∀i,u<i->i<=P->b+1+j<(w i).2):=by
    intro j
    by_cases hj:j<=(m*m).toNat
    ·obtain⟨u,a1,a2,a3⟩:=nj (h:=fun i=>(w i).2) (l:=b+1+j) P (fun i hi=>(h1 _ _ (hws i (by omega))).1) (by(try dsimp only);rw[hw0];omega) (by(try dsimp only);omega)
     exact⟨u,fun _=>⟨a1,a2,a3⟩⟩
    ·exact⟨0,fun z=>absurd z hj⟩
   have hd:∀j:Nat,∃d,(j<=(m*m).toNat->P<=d/\d<=n/\(w d).2=b+1+j/\∀i,P<=i->i<d->b+1+j<(w i).2):=by
    intro j
    by_cases hj:j<=(m*m).toNat
    ·obtain⟨d,a1,a2,a3,a4⟩:=Bu (h:=fun i=>(w i).2) (l:=b+1+j) hPn (fun i _ hi=>(h1 _ _ (hws i hi)).2) (by(try dsimp only);rw[hwn];omega) (by(try dsimp only);omega)
     exact⟨d,fun _=>⟨a1,a2,a3,a4⟩⟩
    ·exact⟨0,fun z=>absurd z hj⟩
   obtain⟨u,hu⟩:=Classical.axiomOfChoice hu
   obtain⟨d,hd⟩:=Classical.axiomOfChoice hd
   obtain⟨i,j,hij,hjK,hcode⟩:=twice (K:=(m*m).toNat) (fun j=>((w (u j)).1*m+(w (d j)).1).toNat) (fun j hj=>by
    have a1:=hu j hj
    have a2:=hd j hj
    have r1:=room (u j) (by omega)
    have r2:=room (d j) (by omega)
    have:=mN r1.1 r1.2 r2.1 r2.2
    try dsimp only
    omega)
   obtain⟨ui1,ui2,ui3⟩:=hu i (by omega)
   obtain⟨uj1,uj2,uj3⟩:=hu j hjK
   obtain⟨di0,di1,di2,di3⟩:=hd i (by omega)
   obtain⟨dj0,dj1,dj2,dj3⟩:=hd j hjK
   have hr:(w (u i)).1=(w (u j)).1/\(w (d i)).1=(w (d j)).1:=by
    have r1:=room (u i) (by omega)
    have r2:=room (d i) (by omega)
    have r3:=room (u j) (by omega)
    have r4:=room (d j) (by omega)
    have c1:=mN r1.1 r1.2 r2.1 r2.2
    have c2:=mN r3.1 r3.2 r4.1 r4.2
    (try dsimp only at hcode)
    exact code_inj r2.1 r2.2 r4.1 r4.2 (by omega)
   have huu:u i<u j:=by
    rcases Nat.lt_trichotomy (u i) (u j)with z | z | z
    ·exact z
    ·rw[z]at ui2;omega
    ·have:=uj3 (u i) z ui1;omega
   have hdd:d j<d i:=by
    rcases Nat.lt_trichotomy (d j) (d i)with z | z | z
    ·exact z
    ·rw[z]at dj2;omega
    ·have:=dj3 (d i) di0 z;omega
   have s1:Rw S (u i-0) (w 0) (w (u i)):=kq (Nat.zero_le _) (fun k _ hk=>hws k (by omega))
   have s3:Rw S (n-d i) (w (d i)) (w n):=kq di1 (fun k _ hk=>hws k hk)
   have hi:∀k,u j<=k->k<=d j->b+1+j<=(w k).2:=by
    intro k k1 k2
    rcases Nat.lt_or_ge k P with z | z
    ·rcases Nat.lt_or_ge (u j) k with y | y
     ·have:=uj3 k y (by omega);omega
     ·have:k=u j:=by omega
      subst this;omega
    ·rcases Nat.lt_or_ge k (d j)with y | y
     ·have:=dj3 k z y;omega
     ·have:k=d j:=by omega
      subst this;omega
   have s2:Rw S (d j-u j) ((w (u j)).1,(w (u j)).2-(j-i:Nat)) ((w (d j)).1,(w (d j)).2-(j-i:Nat)):=
    kq (S:=S) (w:=fun k=>((w k).1,(w k).2-(j-i:Nat))) (show u j<=d j by omega) (fun k k1 k2=>h2 _ _ _ (hws k (by omega)) (by omega) (by have:=hi k k1 (by omega);omega) (by have:=hi (k+1) (by omega) (by omega);omega))
   have e1:((w (u j)).1,(w (u j)).2-((j-i:Nat):Int))=w (u i):=Prod.ext hr.1.symm (by(try dsimp only);omega)
   have e2:((w (d j)).1,(w (d j)).2-((j-i:Nat):Int))=w (d i):=Prod.ext hr.2.symm (by(try dsimp only);omega)
   rw[e1,e2]at s2
   have s:=(s1.trans s2).trans s3
   rw[hw0,hwn]at s
   obtain⟨n',hn',hr'⟩:=ih _ (by omega) x g s x0 x1 xb gb
   exact⟨n',by omega,hr'⟩
theorem Rw.wk{nx:Pl->Nat->Option Pl}{s y:Pl}{n:Nat}{S:Pl->Pl->Prop}(hS:∀a c,S a c->∃k,nx a k=some c)(h:Rw S n s y):Wk nx s n y:=by
 induction h with
 | nil=>exact .zero
 | snoc _ hk ih=>
  obtain⟨k,hk⟩:=hS _ _ hk
  exact .succ ih hk
theorem AY{nx:Pl->Nat->Option Pl}{s y:Pl}:∀(n:Nat),Wk nx s n y->∃k,k<=n/\cz nx s k y:=by
 intro n
 induction n using Nat.strongRecOn with
 | _ n ih=>
  intro w
  by_cases h:∃k,k<n/\Wk nx s k y
  ·obtain⟨k,hk,w'⟩:=h
   obtain⟨k',h1,h2⟩:=ih k hk w'
   exact⟨k',by omega,h2⟩
  ·exact⟨n,Nat.le_refl _,w,fun k hk w'=>h ⟨k,hk,w'⟩⟩
end Bfs
set_option Elab.async false
set_option linter.all false
namespace Bfs
end Bfs
set_option Elab.async false
set_option linter.all false
set_option maxRecDepth 100000
namespace My
open PySem L2 St
set_option maxHeartbeats 4000000
def stq (i : Nat) : Stmt := PySem.Challenge.pw_stairrooms_k63_common_words.main.body.getD i (.Pass ⟨0, 0, 0, 0⟩)
local macro_rules | `(tactic| walk_at "cond") => `(tactic| first | decide | omega | (dsimp only; omega) | (unfold jL; omega) | (unfold oF; exact ⟨by decide, by decide, by decide⟩) | (dsimp only; exact ⟨by omega, by omega⟩) | exact .inr ⟨by decide, by decide⟩ | exact .inl ⟨by decide, by decide⟩ | (unfold g7; omega))
local macro_rules | `(tactic| walk_at "rd") => do
 let ts ← ("seq ret retN asg drop ifS next name var c op un CB cons nil ints test B exb not and or andV orV notV ifE yes I0 I U EqI NeI EqB NeB call BM tup lst sl noPart part exi chain comp iL iT i1 i2 i3 for tTru intB max2 min2 sub gcons gnil aug ipI zip rev par par2 lam calV raise fs try bseq bnext bplain bif bcall enum gget gin revL leS disp dget lrev disp1 din dnin dput min3 iS iD bm0 revS iD2 iLT thaw iD3 iDL dgt2".splitOn " ").toArray.mapM fun n =>
  let i := Lean.mkIdent (.mkSimple ("rd_" ++ n))
  if n == "var" || n == "aug" then `(tacticSeq| ((with_reducible apply $i); (exact rfl)))
  else if n == "I" then `(tacticSeq| ((with_reducible apply $i); (walk_at "cond")))
  else `(tacticSeq| with_reducible refine $i ?_)
 `(tactic| repeat (first $[| $ts]* | dsimp only))
structure Blt(mg:Str->Option Value):Prop where
 len_:mg "len" = none
 isinstance_:mg "isinstance" = none
 tuple_:mg "tuple" = none
 list_:mg "list" = none
 int_:mg "int" = none
 bool_:mg "bool" = none
 range_:mg "range" = none
 zip_:mg "zip" = none
 max_:mg "max" = none
 min_:mg "min" = none
 abs_:mg "abs" = none
 all_:mg "all" = none
 enumerate_:mg "enumerate" = none
 set_:mg "set" = none
 str_:mg "str" = none
 reversed_:mg "reversed" = none
 any_:mg "any" = none
 sorted_:mg "sorted" = none
def isInt:V->Bool
 | .int _=>true
 | _=>false
theorem B5{H:Hp}{v:V}{n:String}(h:fC H v n):∃b c,f6 n "int" = some b/\f6 n "bool" = some c/\(b && !c)=isInt v:=by
 cases v with
 | non=>cases(show n = "NoneType" from h);exact⟨_,_,rfl,rfl,rfl⟩
 | bl b=>cases(show n = "bool" from h);exact⟨_,_,rfl,rfl,rfl⟩
 | int i=>cases(show n = "int" from h);exact⟨_,_,rfl,rfl,rfl⟩
 | str z=>cases(show n = "str" from h);exact⟨_,_,rfl,rfl,rfl⟩
 | ref a=>rcases h with⟨rfl,xs,e⟩ | ⟨rfl,xs,e⟩<;>exact⟨_,_,rfl,rfl,rfl⟩
 | _=>exact False.elim h
def mI(K:PySem.W.Frag):Sp:=fun vs H Q _=>∃v n,vs=[v]/\fC H v n/\Q (.bl (isInt v)) H
abbrev jW:Stmt:=stq 7
theorem rC:FnScope ["thing"] ["thing"] (aC jW):=⟨rfl,rfl,rfl,by decide +kernel,rfl,by decide +kernel,by decide +kernel⟩
theorem xy{P:Program}{w:World}{K:PySem.W.Frag}{mg:Str->Option Value}{base:Heap}(D:Dfn K mg "is_whole" jW ["thing"])(T:Blt mg):Cal P w K mg base "is_whole" 1 ["thing"] (mI K):=by
 have nd:=(rC).nd
 refine D.ok rC (fun vs H Q E h=>?_) (fun X hX H vs Q E h=>?_)
 ·obtain⟨v,n,rfl,_⟩:=h;rfl
 ·obtain⟨f,cdv,A,outer,s,H0,E0,rfl,hr⟩:=hX
  obtain⟨v,n,rfl,hk,q⟩:=h
  obtain⟨b,c,hb,hc,e⟩:=B5 hk
  refine⟨_,(aj (aA (dJ (aU fo rfl T.isinstance_ PyProof.Rows.boot_isinstance (aa (pv 0) (aa (fu (v:=.ty "int") rfl T.int_ PyProof.Rows.boot_int rfl) ab))) (eu (yz (aU fo rfl T.isinstance_ PyProof.Rows.boot_isinstance (aa (pv 0) (aa (fu (v:=.ty "bool") rfl T.bool_ PyProof.Rows.boot_bool rfl) ab)))))))),?_⟩
  walk_at "rd"
  refine fm hk hb ?_
  walk_at "rd"
  cases b with
  | false=>refine ay ?_;rw[←e]at q;exact q
  | true=>
   refine aD ?_
   walk_at "rd"
   refine fm hk hc ?_
   walk_at "rd"
   rw[←e]at q;exact q
structure Way where
 room:Int
 deed:Str
 other:Int
 sign:Str
 deriving DecidableEq
abbrev Way.key(w:Way):List Key:=[.inl w.room,.inr w.deed,.inl w.other,.inr w.sign]
abbrev Way.vs(w:Way):List V:=[.int w.room,.str w.deed,.int w.other,.str w.sign]
theorem Way.key_inj{w u:Way}(h:w.key=u.key):w=u:=by
 cases w;cases u
 simp only[Way.key,List.cons.injEq,Sum.inl.injEq,Sum.inr.injEq]at h
 obtain⟨rfl,rfl,rfl,rfl,_⟩:=h
 rfl
def mK(z:Str):Prop:=∃c:Nat,97<=c/\c<=122/\z=⟨#[c]⟩
def bq(z:Str):Prop:=z = "up"\/z = "down"\/z = "stay"\/z = "zero"
structure Way.Ok(m:Int)(w:Way):Prop where
 r0:0<=w.room
 r1:w.room<m
 o0:0<=w.other
 o1:w.other<m
 dd:bq w.deed
 sg:mK w.sign
structure HOuse(m:Int)(ws:List Way):Prop where
 m1:1<=m
 m12:m<=12
 few:ws.length<=100
 ok:∀w∈ws,w.Ok m
 nd:ws.Nodup
theorem HOuse.keys{m:Int}{ws:List Way}(h:HOuse m ws):(ws.map Way.key).Nodup:=by
 have:=h.nd
 unfold List.Nodup at this ⊢
 rw[List.pairwise_map]
 exact this.imp fun ne e=>ne (Way.key_inj e)
def aM(H:Hp)(v:V)(m:Int)(ws:List Way):Prop:=∃p q,v=.ref p/\H p=some (.tup [.int m,.ref q])/\bB H q (ws.map Way.key)
theorem aM.ext{H H':Hp}{v:V}{m:Int}{ws:List Way}(e:Ext H H')(h:aM H v m ws):aM H' v m ws:=by
 obtain⟨p,q,rfl,h1,h2⟩:=h
 exact⟨p,q,rfl,e _ _ h1,h2.ext e⟩
theorem bG{n:Nat}(h:n<=1000):n<=sizeLine:=Nat.le_trans h (by decide)
def i4(K:PySem.W.Frag):Sp:=fun vs H Q _=>∃i m,vs=[.int i,.int m]/\0<=i/\i<m/\Q (.bl true) H
abbrev iM:Stmt:=stq 14
theorem tO:FnScope ["thing","many"] ["thing","many"] (aC iM):=⟨rfl,rfl,rfl,by decide +kernel,rfl,by decide +kernel,by decide +kernel⟩
theorem vR{P:Program}{w:World}{K:PySem.W.Frag}{mg:Str->Option Value}{base:Heap}(D:Dfn K mg "is_room" iM ["thing","many"])(T:Blt mg)(C_is_whole:Cal P w K mg base "is_whole" 1 ["thing"] (mI K)):Cal P w K mg base "is_room" 2 ["thing","many"] (i4 K):=by
 have nd:=(tO).nd
 refine D.ok tO (fun vs H Q E h=>?_) (fun X hX H vs Q E h=>?_)
 ·obtain⟨i,m,rfl,_⟩:=h;rfl
 ·obtain⟨f,cdv,A,outer,s,H0,E0,rfl,hr⟩:=hX
  obtain⟨i,m,rfl,h0,h1,q⟩:=h
  refine⟨_,(aj (aA (dJ (au C_is_whole hr (aa (pv 0) ab)) (eu (kZ jr fc ae (pv 0) (pv 1)))))),?_⟩
  walk_at "rd"
  refine⟨_,"int",rfl,rfl,?_⟩
  refine rd_exb ?_
  refine aD ?_
  walk_at "rd"
  rw[decide_eq_true h0]
  refine aD ?_
  walk_at "rd"
  rw[decide_eq_true h1]
  exact q
def j3:List (Key×V):=[(.inr "up",.str "down"),(.inr "down",.str "up"),(.inr "stay",.str "stay"),(.inr "zero",.str "zero")]
theorem uW{w:World}{K:PySem.W.Frag}{a:Addr}{t1 t2 t3 t4 t5 t6 t7 t8:Tok}{ep:Nat}(h:K.lookup a=some (gC w [("up",t1,.str "down" t2),("down",t3,.str "up" t4),("stay",t5,.str "stay" t6),("zero",t7,.str "zero" t8)] ep))(hs:(a == sysModules)=false):GDict w K a j3:=
 ⟨⟨_,_,h,.cons ⟨rfl,⟨_,rfl⟩⟩ (.cons ⟨rfl,⟨_,rfl⟩⟩ (.cons ⟨rfl,⟨_,rfl⟩⟩ (.cons ⟨rfl,⟨_,rfl⟩⟩ .nil)))⟩,by decide +kernel,hs⟩
def cU(z:Str):Str:=if z = "up" then "down" else if z = "down" then "up" else z
theorem oB{z:Str}(h:bq z):bF j3 (.inr z)=some (.str (cU z)):=by
 rcases h with rfl | rfl | rfl | rfl<;>decide +kernel
def t9(K:PySem.W.Frag):Sp:=fun vs H Q _=>∃z,vs=[.str z]/\bq z/\Q (.bl true) H
abbrev iR:Stmt:=stq 15
theorem nW:FnScope ["thing"] ["thing"] (aC iR):=⟨rfl,rfl,rfl,by decide +kernel,rfl,by decide +kernel,by decide +kernel⟩
theorem yN{P:Program}{w:World}{K:PySem.W.Frag}{mg:Str->Option Value}{base:Heap}(D:Dfn K mg "is_deed" iR ["thing"])(T:Blt mg)(g_TURNED:∃a,mg "TURNED" = some (.ref a)/\GDict w K a j3):Cal P w K mg base "is_deed" 1 ["thing"] (t9 K):=by
 have nd:=(nW).nd
 refine D.ok nW (fun vs H Q E h=>?_) (fun X hX H vs Q E h=>?_)
 ·obtain⟨z,rfl,_⟩:=h;rfl
 ·obtain⟨f,cdv,A,outer,s,H0,E0,rfl,hr⟩:=hX
  obtain⟨a_TURNED,m_TURNED,d_TURNED⟩:=g_TURNED
  obtain⟨z,rfl,hz,q⟩:=h
  refine⟨_,(aj (aA (dJ (aU fo rfl T.isinstance_ PyProof.Rows.boot_isinstance (aa (pv 0) (aa (fu (v:=.ty "str") rfl T.str_ PyProof.Rows.boot_str rfl) ab))) (eu (um (Bg rfl m_TURNED d_TURNED (pv 0)) (by with_unfolding_all rfl)))))),?_⟩
  walk_at "rd"
  refine fm (n:="str") rfl (b:=true) rfl ?_
  walk_at "rd"
  refine aD ?_
  walk_at "rd"
  refine⟨.inr z,rfl,?_⟩
  rw[oB hz]
  exact q
theorem zG {c : Nat} (h : 97 ≤ c) : (!decide (([c] : List Nat) < (Str.ofString "a").cps.toList)) = true := by
  have e : (Str.ofString "a").cps.toList = [97] := by decide +kernel
  rw [e, decide_eq_false (fun z => by rw [List.cons_lt_cons_iff] at z; rcases z with z | ⟨_, z⟩; · omega
                                      · cases z)]
  rfl
theorem zm {c : Nat} (h : c ≤ 122) : (!decide ((Str.ofString "z").cps.toList < ([c] : List Nat))) = true := by
  have e : (Str.ofString "z").cps.toList = [122] := by decide +kernel
  rw [e, decide_eq_false (fun z => by rw [List.cons_lt_cons_iff] at z; rcases z with z | ⟨_, z⟩; · omega
                                      · cases z)]
  rfl
def oa(K:PySem.W.Frag):Sp:=fun vs H Q _=>∃z,vs=[.str z]/\mK z/\Q (.bl true) H
abbrev ji:Stmt:=stq 16
theorem oj:FnScope ["thing"] ["thing"] (aC ji):=⟨rfl,rfl,rfl,by decide +kernel,rfl,by decide +kernel,by decide +kernel⟩
theorem zi{P:Program}{w:World}{K:PySem.W.Frag}{mg:Str->Option Value}{base:Heap}(D:Dfn K mg "is_sign" ji ["thing"])(T:Blt mg):Cal P w K mg base "is_sign" 1 ["thing"] (oa K):=by
 have nd:=(oj).nd
 refine D.ok oj (fun vs H Q E h=>?_) (fun X hX H vs Q E h=>?_)
 ·obtain⟨z,rfl,_⟩:=h;rfl
 ·obtain⟨f,cdv,A,outer,s,H0,E0,rfl,hr⟩:=hX
  obtain⟨z,rfl,⟨c,hc1,hc2,rfl⟩,q⟩:=h
  refine⟨_,(aj (aA (dJ (aU fo rfl T.isinstance_ PyProof.Rows.boot_isinstance (aa (pv 0) (aa (fu (v:=.ty "str") rfl T.str_ PyProof.Rows.boot_str rfl) ab))) (dJ (fb bE (aU vh rfl T.len_ PySem.boot_len (aa (pv 0) ab)) ae (aF _)) (eu (kZ uB uB aH (pv 0) aH)))))),?_⟩
  walk_at "rd"
  refine fm (n:="str") rfl (b:=true) rfl ?_
  walk_at "rd"
  refine aD ?_
  walk_at "rd"
  refine⟨_,rfl,bG (show 1<=1000 by decide),?_⟩
  walk_at "rd"
  refine aD ?_
  walk_at "rd"
  rw[zG hc1]
  refine aD ?_
  walk_at "rd"
  rw[zm hc2]
  exact q
theorem mP{H:Hp}{p:Addr}{xs:List V}(h:H p=some (.tup xs)):fC H (.ref p) "tuple":=.inr ⟨rfl,xs,h⟩
def vn(K:PySem.W.Frag):Sp:=fun vs H Q _=>∃p w m,vs=[.ref p,.int m]/\H p=some (.tup (Way.vs w))/\w.Ok m/\Q (.bl true) H
abbrev i8:Stmt:=stq 17
theorem oQ:FnScope ["thing","many"] ["thing","many"] (aC i8):=⟨rfl,rfl,rfl,by decide +kernel,rfl,by decide +kernel,by decide +kernel⟩
theorem wg{P:Program}{w:World}{K:PySem.W.Frag}{mg:Str->Option Value}{base:Heap}(D:Dfn K mg "is_way" i8 ["thing","many"])(T:Blt mg)(C_is_sign:Cal P w K mg base "is_sign" 1 ["thing"] (oa K))(C_is_deed:Cal P w K mg base "is_deed" 1 ["thing"] (t9 K))(C_is_room:Cal P w K mg base "is_room" 2 ["thing","many"] (i4 K)):Cal P w K mg base "is_way" 3 ["thing","many"] (vn K):=by
 have nd:=(oQ).nd
 refine D.ok oQ (fun vs H Q E h=>?_) (fun X hX H vs Q E h=>?_)
 ·obtain⟨p,w,m,rfl,_⟩:=h;rfl
 ·obtain⟨f,cdv,A,outer,s,H0,E0,rfl,hr⟩:=hX
  obtain⟨p,w,m,rfl,hp,ok,q⟩:=h
  refine⟨_,(ah (bt (PW.pt (df (dv (cH (aU fo rfl T.isinstance_ PyProof.Rows.boot_isinstance (aa (pv 0) (aa (fu (v:=.ty "tuple") rfl T.tuple_ PyProof.Rows.boot_tuple rfl) ab))))) (eA (aL fV (aU (cB K) rfl T.len_ PySem.boot_len (aa (pv 0) ab)) ae (aF _))))) (aj (aA dC)) aO)
    (ah (bt (PW.pt (df (dv (cH (au C_is_room hr (aa (ai (ax K) (pv 0) ae (fun _ _=>rfl)) (aa (pv 1) ab))))) (eA (dv (cH (au C_is_room hr (aa (ai (ax K) (pv 0) ae (fun _ _=>rfl)) (aa (pv 1) ab)))))))) (aj (aA dC)) aO)
    (aj (aA (dJ (au C_is_deed hr (aa (ai (ax K) (pv 0) ae (fun _ _=>rfl)) ab)) (eu (au C_is_sign hr (aa (ai (ax K) (pv 0) ae (fun _ _=>rfl)) ab)))))))),?_⟩
  walk_at "rd"
  refine fm (mP hp) (b:=true) rfl ?_
  walk_at "rd"
  refine ay ?_
  walk_at "rd"
  refine iL (ag.of hp) ?_
  walk_at "rd"
  refine ay ?_
  walk_at "rd"
  refine aw (ag.of hp) (v:=.int w.room) rfl ?_
  walk_at "rd"
  refine⟨_,_,rfl,ok.r0,ok.r1,?_⟩
  walk_at "rd"
  refine ay ?_
  walk_at "rd"
  refine aw (ag.of hp) (v:=.int w.other) rfl ?_
  walk_at "rd"
  refine⟨_,_,rfl,ok.o0,ok.o1,?_⟩
  walk_at "rd"
  refine ay ?_
  walk_at "rd"
  refine aw (ag.of hp) (v:=.str w.deed) rfl ?_
  walk_at "rd"
  refine⟨_,rfl,ok.dd,?_⟩
  walk_at "rd"
  refine aD ?_
  walk_at "rd"
  refine aw (ag.of hp) (v:=.str w.sign) rfl ?_
  walk_at "rd"
  exact⟨_,rfl,ok.sg,q⟩
theorem bB.item{H:Hp}{ws:List Way}{bs:List Addr}(h:∀(j:Nat) (b:Addr) (k:List Key),bs[j]?=some b->(ws.map Way.key)[j]?=some k->H b=some (.tup (k.map kV))){j:Nat}{b:Addr}{w:Way}(e1:bs[j]?=some b)(e2:ws[j]?=some w):H b=some (.tup w.vs):=
 h j b w.key e1 (by rw[List.getElem?_map,e2];rfl)
def tW(K:PySem.W.Frag):Sp:=fun vs H Q _=>∃q ws m,vs=[.ref q,.int m]/\bB H q (ws.map Way.key)/\HOuse m ws/\∀H',Ext H H'->Q (.bl true) H'
abbrev jG:Stmt:=stq 18
theorem vo:FnScope ["thing","many"] ["thing","many"] (aC jG):=⟨rfl,rfl,rfl,by decide +kernel,rfl,by decide +kernel,by decide +kernel⟩
theorem zu{P:Program}{w:World}{K:PySem.W.Frag}{mg:Str->Option Value}{base:Heap}(D:Dfn K mg "are_ways" jG ["thing","many"])(T:Blt mg)(g_GREATEST_WAYS:∃t,mg "GREATEST_WAYS" = some (.int 100 t))(C_is_way:Cal P w K mg base "is_way" 3 ["thing","many"] (vn K)):Cal P w K mg base "are_ways" 4 ["thing","many"] (tW K):=by
 have nd:=(vo).nd
 refine D.ok vo (fun vs H Q E h=>?_) (fun X hX H vs Q E h=>?_)
 ·obtain⟨p,w,m,rfl,_⟩:=h;rfl
 ·obtain⟨f,cdv,A,outer,s,H0,E0,rfl,hr⟩:=hX
  obtain⟨t_GREATEST_WAYS,c_GREATEST_WAYS⟩:=g_GREATEST_WAYS
  obtain⟨q,ws,m,rfl,hw,ok,qq⟩:=h
  obtain⟨bs,h1,h2,h3⟩:=id hw
  rw[List.length_map]at h2
  have hfew:=ok.few
  refine⟨_,(ah (bt (PW.pt (df (dv (cH (aU fo rfl T.isinstance_ PyProof.Rows.boot_isinstance (aa (pv 0) (aa (fu (v:=.ty "tuple") rfl T.tuple_ PyProof.Rows.boot_tuple rfl) ab))))) (eA (aL eB (aU (cB K) rfl T.len_ PySem.boot_len (aa (pv 0) ab)) (fx (v:=.int 100) rfl c_GREATEST_WAYS ⟨_,rfl⟩) (aF _))))) (aj (aA dC)) aO)
    (aj (aA (dJ (aU (uU K rfl) rfl T.all_ PyProof.Rows.boot_all (aa (cE ["way"] [1] (dY K (pv 0)) (fun _=>(aB (i:=0) (show(["way","many"]:List Str).Nodup from by decide +kernel) rfl (Or.inl rfl) (Or.inr rfl))) (fun _=>cN) (fun _=>(au C_is_way hr (aa (pv 0) (aa (pv 1) ab))))) ab)) (eu (fb bE (aU Bc rfl T.len_ PySem.boot_len (aa (dN (xt hr) rfl T.set_ PyProof.Rows.boot_set (aa (pv 0) ab)) ab)) (aU (cB K) rfl T.len_ PySem.boot_len (aa (pv 0) ab)) (aF _))))))),?_⟩
  walk_at "rd"
  refine fm (mP h1) (b:=true) rfl ?_
  walk_at "rd"
  refine ay ?_
  walk_at "rd"
  refine iL (ag.of h1) ?_
  walk_at "rd"
  rw[decide_eq_false (show ¬((100:Int)<((bs.map V.ref).length:Nat)) by rw[List.length_map];omega)]
  refine ay ?_
  walk_at "rd"
  refine dQ (ag.of h1) ?_
  refine eS (xs:=bs.map V.ref) (fun i ys H'=>Ext H H'/\ys=(List.replicate i true).map V.bl) (bG (by rw[List.length_map];omega)) ⟨fun _ _ z=>z,rfl⟩ (fun i ys H' hi h=>⟨ag.of (h.1 _ _ h1),by rw[h.2];simp⟩) ?_ ?_
  ·rintro i x ys H' hx ⟨e,rfl⟩
   rw[List.getElem?_map]at hx
   obtain⟨b,hb,rfl⟩:=Option.map_eq_some_iff.mp hx
   have hi:i<ws.length:=by
    rw[←h2]
    exact(List.getElem?_eq_some_iff.mp hb).1
   have hwi:ws[i]?=some ws[i]:=List.getElem?_eq_getElem hi
   walk_at "rd"
   refine aD ?_
   walk_at "rd"
   refine⟨b,ws[i],m,rfl,e _ _ (bB.item h3 hb hwi),ok.ok _ (List.getElem_mem hi),e,?_⟩
   rw[List.replicate_succ',List.map_append]
   rfl
  ·rintro ys H' p ⟨e,rfl⟩ hp
   walk_at "rd"
   have eN:Ext H (upd H' p (.lst ((List.replicate (bs.map V.ref).length true).map V.bl))):=e.trans (aX hp)
   refine⟨p,List.replicate (bs.map V.ref).length true,rfl,af.of aI,?_⟩
   rw[show (List.replicate (bs.map V.ref).length true).all id=true by simp]
   walk_at "rd"
   refine aD ?_
   walk_at "rd"
   refine wN (hw.ext eN) ok.keys (by rw[List.length_map];omega) fun l H2 e2 hl=>?_
   walk_at "rd"
   refine vL hl (by rw[List.length_map];omega) ?_
   walk_at "rd"
   refine iL (ag.of ((eN.trans e2) _ _ h1)) ?_
   walk_at "rd"
   rw[show decide (((((ws.map Way.key).length:Nat):Int))=((bs.map V.ref).length:Nat))=true by rw[List.length_map,List.length_map,h2];simp]
   exact qq _ (eN.trans e2)
def nX(K:PySem.W.Frag):Sp:=fun vs H Q _=>∃v m ws,vs=[v]/\aM H v m ws/\HOuse m ws/\∀H',Ext H H'->Q (.bl true) H'
abbrev iQ:Stmt:=stq 19
theorem vy:FnScope ["thing"] ["thing"] (aC iQ):=⟨rfl,rfl,rfl,by decide +kernel,rfl,by decide +kernel,by decide +kernel⟩
theorem v9{P:Program}{w:World}{K:PySem.W.Frag}{mg:Str->Option Value}{base:Heap}(D:Dfn K mg "is_house" iQ ["thing"])(T:Blt mg)(g_GREATEST_MANY:∃t,mg "GREATEST_MANY" = some (.int 12 t))(C_are_ways:Cal P w K mg base "are_ways" 4 ["thing","many"] (tW K))(C_is_whole:Cal P w K mg base "is_whole" 1 ["thing"] (mI K)):Cal P w K mg base "is_house" 5 ["thing"] (nX K):=by
 have nd:=(vy).nd
 refine D.ok vy (fun vs H Q E h=>?_) (fun X hX H vs Q E h=>?_)
 ·obtain⟨p,w,m,rfl,_⟩:=h;rfl
 ·obtain⟨f,cdv,A,outer,s,H0,E0,rfl,hr⟩:=hX
  obtain⟨t_GREATEST_MANY,c_GREATEST_MANY⟩:=g_GREATEST_MANY
  obtain⟨v,m,ws,rfl,⟨p,r,rfl,h1,h2⟩,ok,q⟩:=h
  have m1:=ok.m1
  have m2:=ok.m12
  refine⟨_,(ah (bt (PW.pt (df (dv (cH (aU fo rfl T.isinstance_ PyProof.Rows.boot_isinstance (aa (pv 0) (aa (fu (v:=.ty "tuple") rfl T.tuple_ PyProof.Rows.boot_tuple rfl) ab))))) (eA (aL fV (aU (cB K) rfl T.len_ PySem.boot_len (aa (pv 0) ab)) ae (aF _))))) (aj (aA dC)) aO)
    (aj (aA (dJ (au C_is_whole hr (aa (ai (ax K) (pv 0) ae (fun _ _=>rfl)) ab)) (dJ (kZ jr jr ae (ai (ax K) (pv 0) ae (fun _ _=>rfl)) (fx (v:=.int 12) rfl c_GREATEST_MANY ⟨_,rfl⟩)) (eu (au C_are_ways hr (aa (ai (ax K) (pv 0) ae (fun _ _=>rfl)) (aa (ai (ax K) (pv 0) ae (fun _ _=>rfl)) ab))))))))),?_⟩
  walk_at "rd"
  refine fm (mP h1) (b:=true) rfl ?_
  walk_at "rd"
  refine ay ?_
  walk_at "rd"
  refine iL (ag.of h1) ?_
  walk_at "rd"
  refine ay ?_
  walk_at "rd"
  refine aw (ag.of h1) (v:=.int m) rfl ?_
  walk_at "rd"
  refine⟨_,"int",rfl,rfl,?_⟩
  refine rd_exb (aD ?_)
  walk_at "rd"
  refine aw (ag.of h1) (v:=.int m) rfl ?_
  walk_at "rd"
  rw[decide_eq_true m1]
  refine aD ?_
  walk_at "rd"
  rw[decide_eq_true m2]
  refine aD ?_
  walk_at "rd"
  refine aw (ag.of h1) (v:=.ref r) rfl ?_
  walk_at "rd"
  refine aw (ag.of h1) (v:=.int m) rfl ?_
  walk_at "rd"
  exact⟨r,ws,m,rfl,h2,ok,q⟩
def gm(K:PySem.W.Frag):Sp:=fun vs H Q _=>∃v m ws,vs=[v]/\aM H v m ws/\HOuse m ws/\∀H',Ext H H'->Q .non H'
abbrev kE:Stmt:=stq 20
theorem vA:FnScope ["thing"] ["thing"] (aC kE):=⟨rfl,rfl,rfl,by decide +kernel,rfl,by decide +kernel,by decide +kernel⟩
theorem Bb{P:Program}{w:World}{K:PySem.W.Frag}{mg:Str->Option Value}{base:Heap}(D:Dfn K mg "refuse_no_house" kE ["thing"])(T:Blt mg)(C_is_house:Cal P w K mg base "is_house" 5 ["thing"] (nX K)):Cal P w K mg base "refuse_no_house" 6 ["thing"] (gm K):=by
 have nd:=(vA).nd
 refine D.ok vA (fun vs H Q E h=>?_) (fun X hX H vs Q E h=>?_)
 ·obtain⟨p,w,m,rfl,_⟩:=h;rfl
 ·obtain⟨f,cdv,A,outer,s,H0,E0,rfl,hr⟩:=hX
  obtain⟨v,m,ws,rfl,h1,ok,q⟩:=h
  refine⟨_,(aj (bt (dv (cH (au C_is_house hr (aa (pv 0) ab)))) (aj fh) aO)),?_⟩
  walk_at "rd"
  refine⟨v,m,ws,rfl,h1,ok,fun H' e=>?_⟩
  refine rd_exb (ay ?_)
  walk_at "rd"
  exact q H' e
theorem av{n:Nat}(h:n<=1000000):n<=sizeLine:=Nat.le_trans h (by decide)
def m3(K:PySem.W.Frag):Sp:=fun vs H Q _=>∃(a:Addr) (ns:List Int) (k:Int),vs=[.ref a,.int k]/\af K H a (ns.map V.int)/\ns.length<=63/\0<=k/\∀z,Q (.int z) H
theorem sd{ns:List Int}{i:Int}(h0:0<=i)(h:i<ns.length):∃z,bR (ns.map V.int) i=some (.int z)/\ns[i.toNat]?=some z:=by
 have hi:i.toNat<ns.length:=by omega
 refine⟨ns[i.toNat],ic h0 ?_,List.getElem?_eq_getElem hi⟩
 rw[List.getElem?_map,List.getElem?_eq_getElem hi]
 rfl
abbrev jF:Stmt:=stq 56
theorem sv:FnScope ["_law_script","_law_k"] ["_law_script","_law_k"] (aC jF):=⟨rfl,rfl,rfl,by decide +kernel,rfl,by decide +kernel,by decide +kernel⟩
theorem CB{P:Program}{w:World}{K:PySem.W.Frag}{mg:Str->Option Value}{base:Heap}(D:Dfn K mg "_law_cell" jF ["_law_script","_law_k"])(T:Blt mg):Cal P w K mg base "_law_cell" 1 ["_law_script","_law_k"] (m3 K):=by
 have nd:=(sv).nd
 refine D.ok sv (fun vs H Q E h=>?_) (fun X hX H vs Q E h=>?_)
 ·obtain⟨a,ns,k,rfl,_⟩:=h;rfl
 ·obtain⟨f,cdv,A,outer,s,H0,E0,rfl,hr⟩:=hX
  obtain⟨a,ns,k,rfl,ha,hl,hk,q⟩:=h
  refine⟨_,(ah (bt (aL bE (aU (cB K) rfl T.len_ PySem.boot_len (aa (pv 0) ab)) ae (aF _)) (aj (aA (ak bU ae (ak aN (pv 1) ae)))) aO)
    (ah (bt (aL fc (pv 1) (aU (cB K) rfl T.len_ PySem.boot_len (aa (pv 0) ab)) (aF _)) (aj (aA (ai (aJ K) (pv 0) (pv 1) (fun _ _=>rfl)))) aO)
    (aj (aA (ak aN (ai (aJ K) (pv 0) (ak bQ (pv 1) (aU (cB K) rfl T.len_ PySem.boot_len (aa (pv 0) ab))) (fun _ _=>rfl)) (ak bU ae (pv 1))))))),?_⟩
  walk_at "rd"
  refine dg ha ?_
  walk_at "rd"
  rw[List.length_map]
  by_cases h0:(ns.length:Int)=0
  ·rw[decide_eq_true h0]
   refine aD ?_
   walk_at "rd"
   exact q _
  ·rw[decide_eq_false h0]
   refine ay ?_
   walk_at "rd"
   refine dg ha ?_
   walk_at "rd"
   rw[List.length_map]
   by_cases h1:k<ns.length
   ·rw[decide_eq_true h1]
    refine aD ?_
    obtain⟨z,hz,_⟩:=sd hk h1
    walk_at "rd"
    refine aK ha hz ?_
    exact q _
   ·rw[decide_eq_false h1]
    refine ay ?_
    walk_at "rd"
    refine dg ha ?_
    rw[List.length_map]
    have hp:(0:Int)<ns.length:=by omega
    refine rd_I hp ?_
    obtain⟨z,hz,_⟩:=sd (ns:=ns) (Int.emod_nonneg k (by omega)) (Int.emod_lt_of_pos k hp)
    refine aK ha hz ?_
    walk_at "rd"
    exact q _
def oH(K:PySem.W.Frag):Sp:=fun vs H Q _=>∃c k p,vs=[.int c,.int k,.int p]/\0<=k/\k<100000/\0<p/\∀z,0<=z->z<p->Q (.int z) H
abbrev jt:Stmt:=stq 57
theorem qU:FnScope ["_law_cell_here","_law_k","_law_prime","_law_far"] ["_law_cell_here","_law_k","_law_prime"] (aC jt):=⟨rfl,rfl,rfl,by decide +kernel,rfl,by decide +kernel,by decide +kernel⟩
theorem A7{P:Program}{w:World}{K:PySem.W.Frag}{mg:Str->Option Value}{base:Heap}(D:Dfn K mg "_law_mixed" jt ["_law_cell_here","_law_k","_law_prime"])(T:Blt mg):Cal P w K mg base "_law_mixed" 1 ["_law_cell_here","_law_k","_law_prime"] (oH K):=by
 have nd:=(qU).nd
 refine D.ok qU (fun vs H Q E h=>?_) (fun X hX H vs Q E h=>?_)
 ·obtain⟨c,k,p,rfl,_⟩:=h;rfl
 ·obtain⟨f,cdv,A,outer,s,H0,E0,rfl,hr⟩:=hX
  obtain⟨c,k,p,rfl,hk,hk2,hp,q⟩:=h
  refine⟨_,(ah (az (i:=3) nd rfl (Or.inl rfl) (ak bQ (ak bU (ak aN (ak aN (ak aN (pv 0) (ak bU (ak bU ae (pv 1)) (pv 1))) (ak bU ae (pv 1))) ae) ae) ae))
    (ah (az (i:=3) nd rfl (Or.inl rfl) (ak bQ (ak bU (pv 3) (pv 3)) ae))
    (aj (aA (ak bQ (ak bU (pv 3) ae) (pv 2)))))),?_⟩
  walk_at "rd"
  exact q _ (Int.emod_nonneg _ (by omega)) (Int.emod_lt_of_pos _ hp)
theorem bJ{H H2:Hp}{q:Addr}{o:HO}(e:Ext H H2)(hq:H q=none):Ext H (upd H2 q o):=fun b u hb=>by
 rw[aG (cj hb hq)]
 exact e b u hb
def eX(K:PySem.W.Frag):Sp:=fun vs H Q _=>∃(c:Int) (w:Addr) (ws:List Int) (p:Int),vs=[.int c,.ref w,.int p]/\H w=some (.lst (ws.map V.int))/\(∀x∈ws,0<x/\x<2 ^ 40)/\ws.length<=10000/\0<p ∧
 ∀(q:Addr) (ds:List Int) (H':Hp),Ext H H'->H' q=some (.lst (ds.map V.int))->H q=none->ds.length=ws.length->(∀(i:Nat) d x,ds[i]?=some d->ws[i]?=some x->0<=d/\d<x)->Q (.ref q) H'
theorem fq{K:PySem.W.Frag}{H:Hp}{c:Int}{w:Addr}{p:Int}{Q:VK}{xe:XK}(ws:List Int)(h1:H w=some (.lst (ws.map V.int)))(h2:∀x∈ws,0<x/\x<2 ^ 40)(h3:ws.length<=10000)(h4:0<p)
  (k:∀(q:Addr) (ds:List Int) (H':Hp),Ext H H'->H' q=some (.lst (ds.map V.int))->H q=none->ds.length=ws.length->(∀(i:Nat) d x,ds[i]?=some d->ws[i]?=some x->0<=d/\d<x)->Q (.ref q) H'):eX K [.int c,.ref w,.int p] H Q xe:=⟨c,w,ws,p,rfl,h1,h2,h3,h4,k⟩
abbrev jn:Stmt:=stq 58
theorem ud:FnScope ["_law_cell_here","_law_widths","_law_prime","_law_left","_law_found","_law_k"] ["_law_cell_here","_law_widths","_law_prime"] (aC jn):=⟨rfl,rfl,rfl,by decide +kernel,rfl,by decide +kernel,by decide +kernel⟩
theorem As{P:Program}{w:World}{K:PySem.W.Frag}{mg:Str->Option Value}{base:Heap}(D:Dfn K mg "_law_draws" jn ["_law_cell_here","_law_widths","_law_prime"])(T:Blt mg)(C__law_mixed:Cal P w K mg base "_law_mixed" 1 ["_law_cell_here","_law_k","_law_prime"] (oH K)):Cal P w K mg base "_law_draws" 2 ["_law_cell_here","_law_widths","_law_prime"] (eX K):=by
 have nd:=(ud).nd
 refine D.ok ud (fun vs H Q E h=>?_) (fun X hX H vs Q E h=>?_)
 ·obtain⟨c,w,ws,p,rfl,_⟩:=h;rfl
 ·obtain⟨f,cdv,A,outer,s,H0,E0,rfl,hr⟩:=hX
  obtain⟨c,w,ws,p,rfl,hw,hpos,hlen,hp,q⟩:=h
  refine⟨_,(ah (az (i:=3) nd rfl (Or.inl rfl) ae)
    (ah (cw (aL tm (pv 0) (ak iB ae ae) (aF _)) (aj (az (i:=3) nd rfl (Or.inl rfl) (ak cR (pv 0) (ak iB ae ae)))) aO)
    (ah (az (i:=4) nd rfl (Or.inl rfl) (aR ab))
    (ah (bC PassesOwn.never rfl (cW rfl T.range_ (aa (aU (cB K) rfl T.len_ PySem.boot_len (aa (pv 1) ab)) ab)) (aB (i:=5) nd rfl (Or.inl rfl)) (aj (cw (aL eB (pv 3) ae (aF _)) (ah (aV (bx K PySem.F.plainAttrs_list PySem.F.slot_list_append PySem.F.type_list_append bI (pv 4) (aa (ak bQ (pv 3) (ai (aJ K) (pv 1) (pv 5) (fun _ _=>rfl))) ab)))
    (aj (az (i:=3) nd rfl (Or.inl rfl) (ak qX (pv 3) (ai (aJ K) (pv 1) (pv 5) (fun _ _=>rfl)))))) (aj (aV (bx K PySem.F.plainAttrs_list PySem.F.slot_list_append PySem.F.type_list_append bI (pv 4) (aa (ak bQ (au C__law_mixed hr (aa (pv 0) (aa (pv 5) (aa (pv 2) ab)))) (ai (aJ K) (pv 1) (pv 5) (fun _ _=>rfl))) ab)))))))
    (aj (aA (pv 4))))))),?_⟩
  walk_at "rd"
  refine gY (fun σ' H'=>H'=H/\∃l,σ'=[some (.int c),some (.ref w),some (.int p),some (.int l),none,none]) ?_ ?_
  ·walk_at "rd"
   refine eY (fun h=>?_) (fun h=>?_)
   ·walk_at "rd"
    exact⟨rfl,_,rfl⟩
   ·walk_at "rd"
    exact⟨rfl,_,rfl⟩
  rintro σ' H' ⟨rfl,l,rfl⟩
  walk_at "rd"
  refine⟨av (by simp),ao fun f H1 e1 hf hfn=>?_⟩
  walk_at "rd"
  refine dg (af.of (e1 _ _ hw)) ?_
  rw[List.length_map]
  walk_at "rd"
  refine cV (by omega) ?_
  refine forR (fun i σ H2=>Ext H' H2/\∃(l:Int) (k:Option V) (ds:List Int),σ=[some (.int c),some (.ref w),some (.int p),some (.int l),some (.ref f),k]/\H2 f=some (.lst (ds.map V.int))/\ds.length=i/\∀(i:Nat) d x,ds[i]?=some d->ws[i]?=some x->0<=d/\d<x)
   ⟨e1,l,none,[],rfl,hf,rfl,fun i d x hd=>by simp at hd⟩ ?_ ?_
  ·rintro i σ H2 hi ⟨e2,l,k,ds,rfl,hf2,hds,hb⟩
   rw[Int.toNat_natCast]at hi
   have hwi:ws[i]?=some ws[i]:=List.getElem?_eq_getElem hi
   have hx:=hpos ws[i] (List.getElem_mem hi)
   have hat:bR (ws.map V.int) (0+(i:Int))=some (.int ws[i]):=by
    rw[Int.zero_add]
    exact dh (by rw[List.getElem?_map,hwi];rfl)
   have next:∀d,0<=d->d<ws[i]->∀(j:Nat) (d' x:Int),(ds++[d])[j]?=some d'->ws[j]?=some x->0<=d'/\d'<x:=fun d h0 h1 j d' x hj hx'=>by
    rcases Nat.lt_or_ge j ds.length with h | h
    ·rw[List.getElem?_append_left h]at hj
     exact hb j d' x hj hx'
    ·rw[List.getElem?_append_right h]at hj
     have hj0:j-ds.length=0:=by
      rcases Nat.eq_zero_or_pos (j-ds.length)with h | h
      ·exact h
      ·rw[List.getElem?_eq_none (by simp;omega)]at hj;cases hj
     rw[hj0]at hj
     have hji:j=i:=by omega
     subst hji
     rw[hwi]at hx'
     cases hx'
     have:d=d':=by simpa using hj
     rw[←this]
     exact⟨h0,h1⟩
   walk_at "rd"
   refine bO ?_
   walk_at "rd"
   refine eY (fun h=>?_) (fun h=>?_)
   ·have h':1<l:=by simpa using h
    walk_at "rd"
    refine⟨cy (af.of hf2),?_⟩
    walk_at "rd"
    refine aK (af.of (e2 _ _ hw)) hat ?_
    refine rd_I (show 0<ws[i] by omega) ?_
    walk_at "rd"
    refine bH hf2 (by rw[List.length_map];exact Nat.lt_of_le_of_lt (show ds.length<=10000 by omega) (by decide)) ?_
    walk_at "rd"
    refine aK (af.of (bJ e2 hfn _ _ hw)) hat ?_
    refine rd_I (show 0<ws[i]/\ws[i]<2 ^ 64 by omega) ?_
    walk_at "rd"
    refine⟨bJ e2 hfn,_,_,ds++[l % ws[i]],rfl,?_,by rw[List.length_append,hds];rfl,next _ (Int.emod_nonneg _ (by omega)) (Int.emod_lt_of_pos _ (by omega))⟩
    rw[aI,List.map_append]
    rfl
   ·walk_at "rd"
    refine⟨cy (af.of hf2),?_⟩
    walk_at "rd"
    refine⟨c,0+(i:Int),p,rfl,by omega,by omega,hp,fun z hz0 hz1=>?_⟩
    walk_at "rd"
    refine aK (af.of (e2 _ _ hw)) hat ?_
    refine rd_I (show 0<ws[i] by omega) ?_
    walk_at "rd"
    refine bH hf2 (by rw[List.length_map];exact Nat.lt_of_le_of_lt (show ds.length<=10000 by omega) (by decide)) ?_
    walk_at "rd"
    refine⟨bJ e2 hfn,_,_,ds++[z % ws[i]],rfl,?_,by rw[List.length_append,hds];rfl,next _ (Int.emod_nonneg _ (by omega)) (Int.emod_lt_of_pos _ (by omega))⟩
    rw[aI,List.map_append]
    rfl
  ·rintro σ H2 ⟨e2,l,k,ds,rfl,hf2,hds,hb⟩
   walk_at "rd"
   exact q f ds H2 e2 hf2 hfn (by rw[hds,Int.toNat_natCast]) hb
def tH(K:PySem.W.Frag):Sp:=fun vs H Q _=>∃c w,vs=[.int c,.int w]/\0<w/\w<2 ^ 64/\∀z,Q (.int z) H
abbrev jz:Stmt:=stq 59
theorem uP:FnScope ["_law_cell_here","_law_width"] ["_law_cell_here","_law_width"] (aC jz):=⟨rfl,rfl,rfl,by decide +kernel,rfl,by decide +kernel,by decide +kernel⟩
theorem zg{P:Program}{w:World}{K:PySem.W.Frag}{mg:Str->Option Value}{base:Heap}(D:Dfn K mg "_law_spare" jz ["_law_cell_here","_law_width"])(T:Blt mg):Cal P w K mg base "_law_spare" 1 ["_law_cell_here","_law_width"] (tH K):=by
 have nd:=(uP).nd
 refine D.ok uP (fun vs H Q E h=>?_) (fun X hX H vs Q E h=>?_)
 ·obtain⟨c,w,rfl,_⟩:=h;rfl
 ·obtain⟨f,cdv,A,outer,s,H0,E0,rfl,hr⟩:=hX
  obtain⟨c,w,rfl,h1,h2,q⟩:=h
  refine⟨_,(ah (bt (aL tm (pv 0) (ak iB ae ae) (aF _)) (aj (aA (ak aN (ak qX (ak cR (pv 0) (ak iB ae ae)) (pv 1)) (ak iB ae ae)))) aO)
    (aj (aA (ak aN (pv 0) ae)))),?_⟩
  walk_at "rd"
  refine eY (fun h=>?_) (fun h=>?_)
  ·walk_at "rd"
   exact q _
  ·walk_at "rd"
   exact q _
def aE(H:Hp)(bs:List Addr)(ws:List Way):Prop:=bs.length=ws.length/\∀(j:Nat) (b:Addr) (w:Way),bs[j]?=some b->ws[j]?=some w->H b=some (.tup w.vs)
theorem aE.ext{H H':Hp}{bs:List Addr}{ws:List Way}(e:Ext H H')(h:aE H bs ws):aE H' bs ws:=⟨h.1,fun j b w e1 e2=>e _ _ (h.2 j b w e1 e2)⟩
theorem aE.put{H:Hp}{f:Addr}{xs ys:List V}{bs:List Addr}{ws:List Way}(hf:H f=some (.lst xs))(h:aE H bs ws):aE (upd H f (.lst ys)) bs ws:=⟨h.1,fun j b w e1 e2=>by
 have:=h.2 j b w e1 e2
 rw[aG (cg this hf (by intro z;cases z))]
 exact this⟩
theorem aE.nil(H:Hp):aE H [] []:=⟨rfl,fun j b w e=>by simp at e⟩
theorem aE.snoc{H:Hp}{bs:List Addr}{ws:List Way}{b:Addr}{w:Way}(h:aE H bs ws)(hb:H b=some (.tup w.vs)):aE H (bs++[b]) (ws++[w]):=by
 refine⟨by simp[h.1],fun j b' w' e1 e2=>?_⟩
 rcases Nat.lt_or_ge j bs.length with hj | hj
 ·rw[List.getElem?_append_left hj]at e1
  rw[List.getElem?_append_left (by rw[←h.1];exact hj)]at e2
  exact h.2 j b' w' e1 e2
 ·rw[List.getElem?_append_right hj]at e1
  rw[List.getElem?_append_right (by rw[←h.1];exact hj),←h.1]at e2
  cases hk:j-bs.length with
  | zero=>
   rw[hk]at e1 e2
   cases e1;cases e2
   exact hb
  | succ k=>rw[hk]at e1;simp at e1
theorem aE.ways{H:Hp}{p:Addr}{bs:List Addr}{ws:List Way}(h:aE H bs ws)(hp:H p=some (.tup (bs.map V.ref))):bB H p (ws.map Way.key):=
 ⟨bs,hp,by rw[List.length_map];exact h.1,fun j b k e1 e2=>by
  rw[List.getElem?_map]at e2
  obtain⟨w,hw,rfl⟩:=Option.map_eq_some_iff.mp e2
  exact h.2 j b w e1 hw⟩
theorem bB.al{H:Hp}{p:Addr}{ws:List Way}(h:bB H p (ws.map Way.key)):∃bs:List Addr,H p=some (.tup (bs.map V.ref))/\aE H bs ws:=by
 obtain⟨bs,h1,h2,h3⟩:=h
 rw[List.length_map]at h2
 exact⟨bs,h1,h2,fun j b w e1 e2=>bB.item h3 e1 e2⟩
abbrev Way.D(w:Way):PyData:=.tuple [.int w.room,.str w.deed,.int w.other,.str w.sign]
structure Way.Lay(w:Way):Prop where
 d:(PyData.str w.deed).canLay0=true
 s:(PyData.str w.sign).canLay0=true
theorem BM:∀c:Fin 123,97<=c.1->(PyData.str ⟨#[c.1]⟩).canLay0=true:=by decide +kernel
theorem Way.Ok.lay{m:Int}{w:Way}(h:w.Ok m):w.Lay:=by
 constructor
 ·rcases h.dd with e | e | e | e<;>rw[e]<;>decide +kernel
 ·obtain⟨c,h1,h2,e⟩:=h.sg
  rw[e]
  exact BM ⟨c,Nat.lt_succ_of_le h2⟩ h1
theorem Way.rep{H:Hp}{b:Addr}{w:Way}(h:H b=some (.tup w.vs))(l:w.Lay):aZ H 1 (.ref b) w.D:=
 .inr ⟨b,w.vs,_,rfl,.inl ⟨h,rfl⟩,.cons rfl (.cons ⟨rfl,l.d⟩ (.cons rfl (.cons ⟨rfl,l.s⟩ .nil)))⟩
theorem Way.eqv(w u:Way):PyData.eqv w.D u.D=decide (w=u):=by
 simp only[PyData.eqv,PyData.eqvAll]
 by_cases h:w=u
 ·subst h;simp
 ·rw[decide_eq_false h]
  obtain⟨a,b,c,d⟩:=w
  obtain⟨a',b',c',d'⟩:=u
  simp only[Way.mk.injEq,not_and]at h
  simp only[Bool.and_true,Bool.and_eq_false_iff,beq_eq_false_iff_ne]
  by_cases h1:a=a'
  ·by_cases h2:b=b'
   ·by_cases h3:c=c'
    ·exact .inr (.inr (.inr (h h1 h2 h3)))
    ·exact .inr (.inr (.inl h3))
   ·exact .inr (.inl h2)
  ·exact .inl h1
theorem aE.reps{H:Hp}:∀{bs:List Addr} {ws:List Way},aE H bs ws->(∀w∈ws,w.Lay)->Paired (aZ H 1) (bs.map V.ref) (ws.map Way.D)
 | [],[],_,_=>.nil
 | [],_::_,h,_=>by cases h.1
 | _::_,[],h,_=>by cases h.1
 | b::bs,w::ws,h,l=>.cons (Way.rep (h.2 0 b w rfl rfl) (l w List.mem_cons_self)) (aE.reps ⟨Nat.succ.inj h.1,fun j b w e1 e2=>h.2 (j+1) b w e1 e2⟩ fun u hu=>l u (List.mem_cons_of_mem _ hu))
theorem Ac(ws:List Way)(w:Way):((ws.map Way.D).any fun e=>PyData.eqv e w.D)=decide (w∈ws):=by
 rw[List.any_map]
 induction ws with
 | nil=>rfl
 | cons u ws ih=>
  rw[List.any_cons,ih,Function.comp_apply,Way.eqv]
  by_cases h:w∈ws
  ·simp[h]
  ·by_cases e:u=w
   ·simp[e]
   ·have:¬w=u:=fun z=>e z.symm
    simp[h,e,this]
def kj(K:PySem.W.Frag):Sp:=fun vs H Q _=>∃l bs ws,vs=[.ref l]/\H l=some (.lst (bs.map V.ref))/\aE H bs ws/\(∀w∈ws,Way.Lay w)/\ws.length<=200 ∧
 ∀q H' us,Ext H H'->bB H' q (List.map Way.key us)->us.Nodup->(∀u∈us,u∈ws)->us.length<=ws.length->Q (.ref q) H'
abbrev iG:Stmt:=stq 60
theorem qp:FnScope ["_law_ways","_law_found","_law_way"] ["_law_ways"] (aC iG):=⟨rfl,rfl,rfl,by decide +kernel,rfl,by decide +kernel,by decide +kernel⟩
theorem xl{P:Program}{w:World}{K:PySem.W.Frag}{mg:Str->Option Value}{base:Heap}(D:Dfn K mg "_law_unlike" iG ["_law_ways"])(T:Blt mg):Cal P w K mg base "_law_unlike" 1 ["_law_ways"] (kj K):=by
 have nd:=(qp).nd
 refine D.ok qp (fun vs H Q E h=>?_) (fun X hX H vs Q E h=>?_)
 ·obtain⟨l,bs,ws,rfl,_⟩:=h;rfl
 ·obtain⟨f,cdv,A,outer,s,H0,E0,rfl,hr⟩:=hX
  obtain⟨l,bs,ws,rfl,hl,al,lay,hlen,q⟩:=h
  refine⟨_,(ah (az (i:=1) nd rfl (Or.inl rfl) (aR ab))
    (ah (bC PassesOwn.never rfl (cx K (pv 0)) (aB (i:=2) nd rfl (Or.inl rfl)) (aj (cw (aL (wX hr) (pv 2) (pv 1) (by with_unfolding_all rfl)) (aj (aV (bx K PySem.F.plainAttrs_list PySem.F.slot_list_append PySem.F.type_list_append bI (pv 1) (aa (pv 2) ab)))) aO)))
    (aj (aA (dN (fF K) rfl T.tuple_ PyProof.Rows.boot_tuple (aa (pv 1) ab)))))),?_⟩
  walk_at "rd"
  refine⟨av (by simp),ao fun f H1 e1 hf hfn=>?_⟩
  walk_at "rd"
  refine cC (af.of (e1 _ _ hl)) ?_
  refine forL (xs:=bs.map V.ref) (fun i σ H2=>Ext H H2/\∃(k:Option V) (cs:List Addr) (us:List Way),σ=[some (.ref l),some (.ref f),k]/\H2 f=some (.lst (cs.map V.ref))/\aE H2 cs us/\us.Nodup/\(∀u∈us,u∈ws)/\us.length<=i)
   ⟨e1,none,[],[],rfl,hf,aE.nil _,List.nodup_nil,fun u hu=>by simp at hu,Nat.le_refl _⟩ (fun i σ H2 _ h=>af.of (h.1 _ _ hl)) ?_ ?_
  ·rintro i x σ H2 hx ⟨e2,k,cs,us,rfl,hf2,al2,nd2,sub2,len2⟩
   rw[List.getElem?_map]at hx
   obtain⟨b,hb,rfl⟩:=Option.map_eq_some_iff.mp hx
   have hi:i<ws.length:=by
    rw[←al.1]
    exact(List.getElem?_eq_some_iff.mp hb).1
   have hwi:ws[i]?=some ws[i]:=List.getElem?_eq_getElem hi
   have hbw:=e2 _ _ (al.2 i b _ hb hwi)
   walk_at "rd"
   refine bO ?_
   walk_at "rd"
   refine Bo (Way.rep hbw (lay _ (List.getElem_mem hi))) hf2 (al2.reps fun u hu=>lay u (sub2 u hu)) (by decide) ?_
   simp only[if_true,Ac]
   refine rd_exb ?_
   by_cases hm:ws[i]∈us
   ·rw[decide_eq_true hm]
    refine ay ?_
    walk_at "rd"
    exact⟨e2,_,cs,us,rfl,hf2,al2,nd2,sub2,by omega⟩
   ·rw[decide_eq_false hm]
    refine aD ?_
    walk_at "rd"
    refine⟨cy (af.of hf2),?_⟩
    walk_at "rd"
    refine bH hf2 (by rw[List.length_map,al2.1];exact Nat.lt_of_le_of_lt (show us.length<=1000 by omega) (by decide)) ?_
    walk_at "rd"
    refine⟨bJ e2 hfn,_,cs++[b],us++[ws[i]],rfl,by rw[aI,List.map_append];rfl,(al2.put hf2).snoc ?_,?_,?_,by simp;omega⟩
    ·rw[aG (cg hbw hf2 (by intro z;cases z))]
     exact hbw
    ·rw[List.nodup_append]
     exact⟨nd2,by simp,fun a ha c hc=>by rw[List.mem_singleton.mp hc];exact fun z=>hm (z ▸ ha)⟩
    ·intro u hu
     rcases List.mem_append.mp hu with hu | hu
     ·exact sub2 u hu
     ·rw[List.mem_singleton.mp hu];exact List.getElem_mem hi
  ·rintro σ H2 ⟨e2,k,cs,us,rfl,hf2,al2,nd2,sub2,len2⟩
   walk_at "rd"
   refine fL (af.of hf2) (ao fun p H3 e3 hp _=>?_)
   exact q p H3 us (e2.trans e3) ((al2.ext e3).ways hp) nd2 sub2 (by rw[List.length_map,al.1]at len2;exact len2)
def gD(z:Str):Prop:=∃c:Nat,97<=c/\c<=99/\z=⟨#[c]⟩
structure Way.Ok3(m:Int)(w:Way):Prop where
 r0:0<=w.room
 r1:w.room<m
 o0:0<=w.other
 o1:w.other<m
 dd:bq w.deed
 sg:gD w.sign
structure HOuse3(m:Int)(ws:List Way):Prop where
 m1:1<=m
 m12:m<=12
 few:ws.length<=100
 ok:∀w∈ws,w.Ok3 m
 nd:ws.Nodup
theorem Way.Ok3.ok{m:Int}{w:Way}(h:w.Ok3 m):w.Ok m:=by
 obtain⟨c,h1,h2,h3⟩:=h.sg
 exact⟨h.r0,h.r1,h.o0,h.o1,h.dd,c,h1,by omega,h3⟩
theorem Way.Ok3.lay{m:Int}{w:Way}(h:w.Ok3 m):w.Lay:=h.ok.lay
theorem HOuse3.house{m:Int}{ws:List Way}(h:HOuse3 m ws):HOuse m ws:=⟨h.m1,h.m12,h.few,fun w hw=>(h.ok w hw).ok,h.nd⟩
def gn(z:Str):Prop:=z = "a"\/z = "b"\/z = "c"
theorem gD.sg{z:Str}(h:gD z):gn z:=by
 obtain⟨c,h1,h2,rfl⟩:=h
 have:c=97\/c=98\/c=99:=by omega
 rcases this with rfl | rfl | rfl
 ·exact .inl (by decide +kernel)
 ·exact .inr (.inl (by decide +kernel))
 ·exact .inr (.inr (by decide +kernel))
theorem yC{ds:List Int}{i:Nat}(h:i+4<=ds.length):∃a b c d,cY (ds.map V.int) (some (i:Int)) (some ((i+4:Nat):Int))=[.int a,.int b,.int c,.int d]/\ds[i]?=some a/\ds[i+1]?=some b/\ds[i+2]?=some c/\ds[i+3]?=some d:=by
 refine⟨ds[i],ds[i+1],ds[i+2],ds[i+3],?_,List.getElem?_eq_getElem _,List.getElem?_eq_getElem _,List.getElem?_eq_getElem _,List.getElem?_eq_getElem _⟩
 unfold cY
 rw[HT.fN,HT.fN,List.length_map,Nat.min_eq_left (by omega),Nat.min_eq_left (by omega),show i+4-i=4 by omega,←List.map_drop,←List.map_take]
 rw[List.drop_eq_getElem_cons (show i<ds.length by omega),List.drop_eq_getElem_cons (show i+1<ds.length by omega),List.drop_eq_getElem_cons (show i+1+1<ds.length by omega),List.drop_eq_getElem_cons (show i+1+1+1<ds.length by omega)]
 rfl
def ee:List Int:=[8,12,13,31]++(List.replicate 30 ([12,6,12,3]:List Int)).flatten
theorem Am{k:Nat}(h:k<30):ee[4+4*k]?=some 12/\ee[4+4*k+1]?=some 6/\ee[4+4*k+2]?=some 12/\ee[4+4*k+3]?=some 3:=by
 have:∀k:Fin 30,ee[4+4*k.val]?=some 12/\ee[4+4*k.val+1]?=some 6/\ee[4+4*k.val+2]?=some 12/\ee[4+4*k.val+3]?=some 3:=by decide +kernel
 exact this ⟨k,h⟩
def qw(K:PySem.W.Frag):Sp:=fun vs H Q _=>∃c p,vs=[.int c,.int p]/\0<p/\∀v m ws H',Ext H H'->aM H' v m ws->HOuse3 m ws->Q v H'
theorem BD{e:Int}(h0:0<=e)(h1:e<6):∃z,bR ([.str "up",.str "down",.str "stay",.str "zero",.str "up",.str "down"]:List V) e=some (.str z)/\bq z:=by
 have:e=0\/e=1\/e=2\/e=3\/e=4\/e=5:=by omega
 rcases this with rfl | rfl | rfl | rfl | rfl | rfl
 ·exact⟨_,rfl,.inl rfl⟩
 ·exact⟨_,rfl,.inr (.inl rfl)⟩
 ·exact⟨_,rfl,.inr (.inr (.inl rfl))⟩
 ·exact⟨_,rfl,.inr (.inr (.inr rfl))⟩
 ·exact⟨_,rfl,.inl rfl⟩
 ·exact⟨_,rfl,.inr (.inl rfl)⟩
theorem yl:(Str.ofString "abc").cps.toList=[97,98,99]:=by decide +kernel
theorem sX{e:Int}(h0:0<=e)(h1:e<3):∃c,bR (Str.ofString "abc").cps.toList e=some c/\97<=c/\c<=99:=by
 rw[yl]
 have:e=0\/e=1\/e=2:=by omega
 rcases this with rfl | rfl | rfl
 ·exact⟨97,rfl,by decide,by decide⟩
 ·exact⟨98,rfl,by decide,by decide⟩
 ·exact⟨99,rfl,by decide,by decide⟩
theorem zQ{e:Int}(h0:0<=e)(h1:e<8):∃w:Int,bR (([4,4,4,5,3,2,5,12]:List Int).map V.int) e=some (.int w)/\1<=w/\w<=12:=by
 have:e=0\/e=1\/e=2\/e=3\/e=4\/e=5\/e=6\/e=7:=by omega
 rcases this with rfl | rfl | rfl | rfl | rfl | rfl | rfl | rfl<;>exact⟨_,rfl,by decide,by decide⟩
theorem aM.mk{H:Hp}{p q:Addr}{m:Int}{ws:List Way}(h1:H p=some (.tup [.int m,.ref q]))(h2:bB H q (ws.map Way.key)):aM H (.ref p) m ws:=⟨p,q,rfl,h1,h2⟩
abbrev ky:Stmt:=stq 61
theorem q9:FnScope ["_law_cell_here","_law_prime","_law_draws_here","_law_many","_law_often","_law_ways","_law_k","_law_room","_law_deed","_law_other","_law_sign","_law_word"] ["_law_cell_here","_law_prime"] (aC ky):=⟨rfl,rfl,rfl,by decide +kernel,rfl,by decide +kernel,by decide +kernel⟩
theorem AX{P:Program}{w:World}{K:PySem.W.Frag}{mg:Str->Option Value}{base:Heap}(D:Dfn K mg "_law_drawn_house" ky ["_law_cell_here","_law_prime"])(T:Blt mg)(C__law_unlike:Cal P w K mg base "_law_unlike" 1 ["_law_ways"] (kj K))(C__law_draws:Cal P w K mg base "_law_draws" 2 ["_law_cell_here","_law_widths","_law_prime"] (eX K)):Cal P w K mg base "_law_drawn_house" 3 ["_law_cell_here","_law_prime"] (qw K):=by
 have nd:=(q9).nd
 refine D.ok q9 (fun vs H Q E h=>?_) (fun X hX H vs Q E h=>?_)
 ·obtain⟨c,p,rfl,_⟩:=h;rfl
 ·obtain⟨f,cdv,A,outer,s,H0,E0,rfl,hr⟩:=hX
  obtain⟨c,p,rfl,hp,q⟩:=h
  refine⟨_,(@ah _ _ _ _ _ (@az _ _ 2 _ _ _ _ nd rfl (Or.inl rfl) (au C__law_draws hr (@aa _ _ _ _ _ (pv 0) (@aa _ _ _ _ _ (ak g8 (@aR _ _ _ _ (fZ (.c (.c (.c (.c .n)))))) (ak j4 (@aR _ _ _ _ (fZ (.c (.c (.c (.c .n)))))) ae)) (@aa _ _ _ _ _ (pv 1) ab rfl) rfl) rfl)) rfl (Or.inl rfl))
    (@ah _ _ _ _ _ (@az _ _ 3 _ _ _ _ nd rfl (Or.inl rfl) (ak aN ae (ak bQ (@ai _ _ _ _ _ _ _ (aJ K) (pv 2) ae (fun _ _=>rfl)) (@ai _ _ _ _ _ _ _ (aJ K) (@aR _ _ _ _ (fZ (.c (.c (.c (.c (.c (.c (.c (.c .n)))))))))) (@ai _ _ _ _ _ _ _ (aJ K) (pv 2) ae (fun _ _=>rfl)) (fun _ _=>rfl)))) rfl (Or.inl rfl))
    (@ah _ _ _ _ _ (@az _ _ 4 _ _ _ _ nd rfl (Or.inl rfl) (@ai _ _ _ _ _ _ _ (aJ K) (pv 2) ae (fun _ _=>rfl)) rfl (Or.inl rfl))
    (@ah _ _ _ _ _ (cw (aL bE (@ai _ _ _ _ _ _ _ (aJ K) (pv 2) ae (fun _ _=>rfl)) ae (aF _)) (@aj _ _ _ (@az _ _ 4 _ _ _ _ nd rfl (Or.inl rfl) (@ai _ _ _ _ _ _ _ (aJ K) (pv 2) ae (fun _ _=>rfl)) rfl (Or.inl rfl))) aO)
    (@ah _ _ _ _ _ (@az _ _ 5 _ _ _ _ nd rfl (Or.inl rfl) (@aR _ _ _ _ ab) rfl (Or.inl rfl))
    (@ah _ _ _ _ _ (bC PassesOwn.never rfl (cW rfl T.range_ (@aa _ _ _ _ _ (pv 4) ab rfl)) (aB (i:=6) nd rfl (Or.inl rfl)) (@ah _ _ _ _ _ (@ju _ _ _ _ _ _ (fM (fE K) (pv 2) (dF (ak aN ae (ak bU ae (pv 6)))) (dF (ak aN ae (ak bU ae (pv 6))))) (sD (n:=4) K rfl (bo (aB (i:=7) nd rfl (Or.inl rfl)) (bo (aB (i:=8) nd rfl (Or.inl rfl)) (bo (aB (i:=9) nd rfl (Or.inl rfl)) (bo (aB (i:=10) nd rfl (Or.inl rfl)) dw))))) rfl rfl rfl)
    (@ah _ _ _ _ _ (@az _ _ 11 _ _ _ _ nd rfl (Or.inl rfl) (@ai _ _ _ _ _ _ _ (aJ K) (@aR _ _ _ _ (@aa _ _ _ _ _ aH (@aa _ _ _ _ _ aH (@aa _ _ _ _ _ aH (@aa _ _ _ _ _ aH (@aa _ _ _ _ _ aH (@aa _ _ _ _ _ aH ab rfl) rfl) rfl) rfl) rfl) rfl)) (pv 8) (fun _ _=>rfl)) rfl (Or.inl rfl))
    (@aj _ _ _ (aV (bx K PySem.F.plainAttrs_list PySem.F.slot_list_append PySem.F.type_list_append bI (pv 5) (@aa _ _ _ _ _ (@aQ _ _ _ _ _ (@aa _ _ _ _ _ (ak bQ (pv 7) (pv 3)) (@aa _ _ _ _ _ (pv 11) (@aa _ _ _ _ _ (ak bQ (pv 9) (pv 3)) (@aa _ _ _ _ _ (@ai _ _ _ _ _ _ _ mn aH (pv 10) (fun _ _=>rfl)) ab rfl) rfl) rfl) rfl)) ab rfl)))))))
    (@aj _ _ _ (@aA _ _ _ _ (@aQ _ _ _ _ _ (@aa _ _ _ _ _ (pv 3) (@aa _ _ _ _ _ (au C__law_unlike hr (@aa _ _ _ _ _ (pv 5) ab rfl)) ab rfl) rfl)))))))))),?_⟩
  walk_at "rd"
  refine⟨av (by simp),ao fun w0 G1 f1 hw0 _=>?_⟩
  walk_at "rd"
  refine⟨av (by simp),ao fun w1 G2 f2 hw1 _=>?_⟩
  walk_at "rd"
  refine iO hw1 (by omega) (av (by decide)) (ao fun w2 G3 f3 hw2 _=>?_)
  walk_at "rd"
  refine iy (f3 _ _ (f2 _ _ hw0)) hw2 (av (by decide)) (ao fun w3 G4 f4 hw3 _=>?_)
  walk_at "rd"
  refine fq ee hw3 (by decide +kernel) (by decide +kernel) (hp) fun dq ds H1 e1 hd hdn hl hb=>?_
  have eH:Ext H H1:=f1.trans (f2.trans (f3.trans (f4.trans e1)))
  have hl':ds.length=124:=hl
  have at_:∀(i:Nat) (x:Int),ee[i]?=some x->∃d,ds[i]?=some d/\0<=d/\d<x:=fun i x hx=>by
   have hi:i<ds.length:=by
    rw[hl]
    exact(List.getElem?_eq_some_iff.mp hx).1
   exact⟨ds[i],List.getElem?_eq_getElem hi,hb i _ x (List.getElem?_eq_getElem hi) hx⟩
  obtain⟨d0,g0,b00,b01⟩:=at_ 0 8 rfl
  obtain⟨d1,g1,b10,b11⟩:=at_ 1 12 rfl
  obtain⟨d2,g2,b20,b21⟩:=at_ 2 13 rfl
  obtain⟨d3,g3,b30,b31⟩:=at_ 3 31 rfl
  have pick:∀{i:Nat} {d:Int},ds[i]?=some d->bR (ds.map V.int) (i:Int)=some (.int d):=fun{i d} h=>dh (by rw[List.getElem?_map,h];rfl)
  walk_at "rd"
  refine aK (af.of hd) (pick (i:=1) g1) ?_
  walk_at "rd"
  refine⟨av (by simp),ao fun mq H2 e2 hmq _=>?_⟩
  walk_at "rd"
  refine aK (af.of (e2 _ _ hd)) (pick (i:=0) g0) ?_
  obtain⟨w,hw,hw1',hw2'⟩:=zQ b00 b01
  refine aK (af.of hmq) hw ?_
  try refine rd_I (show(0:Int)<w by omega) ?_
  walk_at "rd"
  have r0:0<=d1 % w:=Int.emod_nonneg _ (by omega)
  have r1:d1 % w<w:=Int.emod_lt_of_pos _ (by omega)
  obtain⟨m,hm,m1,m2⟩:∃m,1+d1 % w=m/\1<=m/\m<=12:=⟨_,rfl,by omega,by omega⟩
  rw[hm]
  refine aK (af.of (e2 _ _ hd)) (pick (i:=2) g2) ?_
  walk_at "rd"
  have eH2:Ext H H2:=eH.trans e2
  have hd2:=e2 _ _ hd
  refine gY (fun σ' H'=>H'=H2/\∃o:Nat,o<=30/\σ'=[some (.int c),some (.int p),some (.ref dq),some (.int m),some (.int o),none,none,none,none,none,none,none]) ?_ ?_
  ·walk_at "rd"
   refine aK (af.of hd2) (pick (i:=0) g0) ?_
   walk_at "rd"
   refine eY (fun h=>?_) (fun h=>?_)
   ·walk_at "rd"
    refine aK (af.of hd2) (pick (i:=3) g3) ?_
    walk_at "rd"
    exact⟨rfl,d3.toNat,by omega,by rw[Int.toNat_of_nonneg b30];rfl⟩
   ·walk_at "rd"
    exact⟨rfl,d2.toNat,by omega,by rw[Int.toNat_of_nonneg b20];rfl⟩
  rintro σ' H' ⟨rfl,o,ho,rfl⟩
  clear hw hw1' hw2' r0 r1 b00 b01 b10 b11 b20 b21 b30 b31
  walk_at "rd"
  refine⟨av (by simp),ao fun f H3 e3 hf hfn=>?_⟩
  walk_at "rd"
  refine cV (by omega) ?_
  refine forR (fun i σ H4=>Ext H' H4/\∃(k1 k2 k3 k4 k5 k6:Option V) (cs:List Addr) (us:List Way),σ=[some (.int c),some (.int p),some (.ref dq),some (.int m),some (.int o),some (.ref f),k1,k2,k3,k4,k5,k6]/\H4 f=some (.lst (cs.map V.ref))/\aE H4 cs us/\(∀u∈us,u.Ok3 m)/\us.length=i)
   ⟨e3,none,none,none,none,none,none,[],[],rfl,hf,aE.nil _,fun u hu=>by simp at hu,rfl⟩ ?_ ?_
  ·rintro i σ H4 hi ⟨e4,k1,k2,k3,k4,k5,k6,cs,us,rfl,hf4,al,ok,len⟩
   rw[Int.toNat_natCast]at hi
   have hi30:i<30:=by omega
   obtain⟨a,b,c',d,hcut,ga,gb,gc,gd⟩:=yC (ds:=ds) (i:=4+4*i) (by omega)
   obtain⟨y0,y1,y2,y3⟩:=Am hi30
   have ba:=hb _ _ _ ga y0
   have bb:=hb _ _ _ gb y1
   have bc:=hb _ _ _ gc y2
   have bd:=hb _ _ _ gd y3
   have hd4:=e4 _ _ hd2
   walk_at "rd"
   refine fQ (af.of hd4) (ao fun t H5 e5 ht htn=>?_)
   rw[show (4:Int)+4*(0+(i:Int))=((4+4*i:Nat):Int) by omega,show (8:Int)+4*(0+(i:Int))=((4+4*i+4:Nat):Int) by omega,hcut]at ht
   walk_at "rd"
   refine qL (af.of ht) rfl ?_
   walk_at "rd"
   refine⟨av (by simp),ao fun u1 H6 e6 hu1 _=>?_⟩
   walk_at "rd"
   obtain⟨z,hz,okz⟩:=BD bb.1 bb.2
   refine aK (af.of hu1) hz ?_
   walk_at "rd"
   have hf6:=e6 _ _ (e5 _ _ hf4)
   refine⟨cy (af.of hf6),?_⟩
   walk_at "rd"
   try refine rd_I (show(0:Int)<m by omega) ?_
   walk_at "rd"
   try refine rd_I (show(0:Int)<m by omega) ?_
   walk_at "rd"
   obtain⟨s,hs,s1,s2⟩:=sX bd.1 bd.2
   refine⟨_,_,s,rfl,rfl,bG (by decide +kernel),hs,?_⟩
   walk_at "rd"
   refine⟨av (by simp),ao fun v H7 e7 hv _=>?_⟩
   have hf7:=e7 _ _ hf6
   walk_at "rd"
   refine bH hf7 (by rw[List.length_map,al.1,len];exact Nat.lt_of_le_of_lt (show i<=1000 by omega) (by decide)) ?_
   walk_at "rd"
   have al7:aE H7 cs us:=((al.ext e5).ext e6).ext e7
   have hv7:H7 v=some (.tup (Way.vs ⟨a % m,z,c' % m,⟨#[s]⟩⟩)):=hv
   refine⟨bJ (e4.trans (e5.trans (e6.trans e7))) hfn,_,_,_,_,_,_,cs++[v],us++[⟨a % m,z,c' % m,⟨#[s]⟩⟩],rfl,by rw[aI,List.map_append];rfl,(al7.put hf7).snoc ?_,?_,by simp[len]⟩
   ·rw[aG (cg hv7 hf7 (by intro z;cases z))]
    exact hv7
   ·intro u hu
    rcases List.mem_append.mp hu with hu | hu
    ·exact ok u hu
    ·rw[List.mem_singleton.mp hu]
     exact⟨Int.emod_nonneg _ (by omega),Int.emod_lt_of_pos _ (by omega),Int.emod_nonneg _ (by omega),Int.emod_lt_of_pos _ (by omega),okz,s,s1,s2,rfl⟩
  ·rintro σ H4 ⟨e4,k1,k2,k3,k4,k5,k6,cs,us,rfl,hf4,al,ok,len⟩
   rw[Int.toNat_natCast]at len
   walk_at "rd"
   refine⟨f,cs,us,rfl,hf4,al,fun u hu=>(ok u hu).lay,by omega,fun r H5 ws e5 hws nd sub ln=>?_⟩
   walk_at "rd"
   refine⟨av (by simp),ao fun t H6 e6 ht _=>?_⟩
   exact q _ m ws H6 (eH2.trans (e4.trans (e5.trans e6))) (aM.mk ht (hws.ext e6)) ⟨m1,m2,by omega,fun u hu=>ok u (sub u hu),nd⟩
structure WL(H0 H:Hp)(f:Addr)(us:List Way):Prop where
 ext:Ext H0 H
 at_:∃cs:List Addr,H f=some (.lst (cs.map V.ref))/\aE H cs us
theorem WL.nil{H0 H:Hp}{f:Addr}(e:Ext H0 H)(hf:H f=some (.lst [])):WL H0 H f []:=⟨e,[],hf,aE.nil _⟩
theorem WL.push{H0 H H1:Hp}{f v:Addr}{us:List Way}{w:Way}(h:WL H0 H f us)(hfn:H0 f=none)(e:Ext H H1)(hv:H1 v=some (.tup w.vs)):
  ∃xs,H1 f=some (.lst xs)/\xs.length=us.length/\WL H0 (upd H1 f (.lst (xs++[.ref v]))) f (us++[w]):=by
 obtain⟨e0,cs,hf,al⟩:=h
 have hf1:=e _ _ hf
 refine⟨cs.map V.ref,hf1,by rw[List.length_map];exact al.1,bJ (e0.trans e) hfn,cs++[v],by rw[aI,List.map_append];rfl,((al.ext e).put hf1).snoc ?_⟩
 rw[aG (cg hv hf1 (by intro z;cases z))]
 exact hv
theorem WL.ty{K:PySem.W.Frag}{H0 H H1:Hp}{f:Addr}{us:List Way}(h:WL H0 H f us)(e:Ext H H1):gJ K "list" (.ref f) H1:=by
 obtain⟨_,cs,hf,al⟩:=h
 exact cy (af.of (e _ _ hf))
theorem kG:gD "a":=⟨97,by decide,by decide,by decide +kernel⟩
theorem iq:gD "b":=⟨98,by decide,by decide,by decide +kernel⟩
theorem nq:gD "c":=⟨99,by decide,by decide,by decide +kernel⟩
theorem jD:bq "up":=.inl rfl
theorem kY:bq "down":=.inr (.inl rfl)
theorem ft:bq "stay":=.inr (.inr (.inl rfl))
theorem mB:bq "zero":=.inr (.inr (.inr rfl))
theorem cm{n:Nat}(h:n<=1000):n<sizeLine:=Nat.lt_of_le_of_lt h (by decide)
theorem kA{a b:V}{e:Int}(h0:0<=e)(h1:e<2):∃v,bR [a,b] e=some v/\(v=a\/v=b):=by
 have:e=0\/e=1:=by omega
 rcases this with rfl | rfl
 ·exact⟨a,rfl,.inl rfl⟩
 ·exact⟨b,rfl,.inr rfl⟩
theorem dE{m:Int}{us:List Way}{w:Way}(h:∀u∈us,u.Ok3 m)(hw:w.Ok3 m):∀u∈us++[w],u.Ok3 m:=fun u hu=>by
 rcases List.mem_append.mp hu with hu | hu
 ·exact h u hu
 ·rw[List.mem_singleton.mp hu];exact hw
theorem BY:(Str.ofString "ab").cps.toList=[97,98]:=by decide +kernel
theorem yW{e:Int}(h0:0<=e)(h1:e<2):∃c,bR (Str.ofString "ab").cps.toList e=some c/\97<=c/\c<=99:=by
 rw[BY]
 have:e=0\/e=1:=by omega
 rcases this with rfl | rfl
 ·exact⟨97,rfl,by decide,by decide⟩
 ·exact⟨98,rfl,by decide,by decide⟩
theorem b6{ws ds:List Int}(hl:ds.length=ws.length)(hb:∀(i:Nat) (d x:Int),ds[i]?=some d->ws[i]?=some x->0<=d/\d<x)(i:Nat){x:Int}(hx:ws[i]?=some x):∃d,bR (ds.map V.int) (i:Int)=some (.int d)/\0<=d/\d<x:=by
 have hi:i<ds.length:=by
  rw[hl]
  exact(List.getElem?_eq_some_iff.mp hx).1
 have g:ds[i]?=some ds[i]:=List.getElem?_eq_getElem hi
 exact⟨ds[i],dh (by rw[List.getElem?_map,g];rfl),hb i _ x g hx⟩
def qG(K:PySem.W.Frag):Sp:=fun vs H Q _=>∃c p,vs=[.int c,.int p]/\0<p/\∀v m ws H',Ext H H'->aM H' v m ws->HOuse3 m ws->Q v H'
abbrev jO:Stmt:=stq 63
theorem pV:FnScope ["_law_cell_here","_law_prime","_law_draws_here","_law_up","_law_down","_law_many","_law_ways","_law_k"] ["_law_cell_here","_law_prime"] (aC jO):=⟨rfl,rfl,rfl,by decide +kernel,rfl,by decide +kernel,by decide +kernel⟩
theorem xZ{P:Program}{w:World}{K:PySem.W.Frag}{mg:Str->Option Value}{base:Heap}(D:Dfn K mg "_law_gate_house" jO ["_law_cell_here","_law_prime"])(T:Blt mg)(C__law_unlike:Cal P w K mg base "_law_unlike" 1 ["_law_ways"] (kj K))(C__law_draws:Cal P w K mg base "_law_draws" 2 ["_law_cell_here","_law_widths","_law_prime"] (eX K)):Cal P w K mg base "_law_gate_house" 3 ["_law_cell_here","_law_prime"] (qG K):=by
 have nd:=(pV).nd
 refine D.ok pV (fun vs H Q E h=>?_) (fun X hX H vs Q E h=>?_)
 ·obtain⟨c,p,rfl,_⟩:=h;rfl
 ·obtain⟨f,cdv,A,outer,s,H0,E0,rfl,hr⟩:=hX
  obtain⟨c,p,rfl,hp,q⟩:=h
  refine⟨_,(@ah _ _ _ _ _ (@az _ _ 2 _ _ _ _ nd rfl (Or.inl rfl) (au C__law_draws hr (@aa _ _ _ _ _ (pv 0) (@aa _ _ _ _ _ (@aR _ _ _ _ (fZ (.c (.c (.c (.c (.c (.c (.c .n))))))))) (@aa _ _ _ _ _ (pv 1) ab rfl) rfl) rfl)) rfl (Or.inl rfl))
    (@ah _ _ _ _ _ (lT (i:=3) (j:=4) rfl nd rfl rfl (by decide) rfl rfl (@aa _ _ _ _ _ (ak aN ae (@ai _ _ _ _ _ _ _ (aJ K) (pv 2) ae (fun _ _=>rfl))) (@aa _ _ _ _ _ (ak aN ae (@ai _ _ _ _ _ _ _ (aJ K) (pv 2) ae (fun _ _=>rfl))) ab rfl) rfl) rfl)
    (@ah _ _ _ _ _ (@az _ _ 5 _ _ _ _ nd rfl (Or.inl rfl) (ak aN (ak aN (pv 3) (pv 4)) ae) rfl (Or.inl rfl))
    (@ah _ _ _ _ _ (@az _ _ 6 _ _ _ _ nd rfl (Or.inl rfl) (@aR _ _ _ _ ab) rfl (Or.inl rfl))
    (@ah _ _ _ _ _ (bC PassesOwn.never rfl (cW rfl T.range_ (@aa _ _ _ _ _ (pv 3) ab rfl)) (aB (i:=7) nd rfl (Or.inl rfl)) (@aj _ _ _ (aV (bx K PySem.F.plainAttrs_list PySem.F.slot_list_append PySem.F.type_list_append bI (pv 6) (@aa _ _ _ _ _ (@aQ _ _ _ _ _ (@aa _ _ _ _ _ (pv 7) (@aa _ _ _ _ _ aH (@aa _ _ _ _ _ (ak bQ (ak aN (pv 7) ae) (pv 3)) (@aa _ _ _ _ _ (@ai _ _ _ _ _ _ _ mn aH (@ai _ _ _ _ _ _ _ (aJ K) (pv 2) ae (fun _ _=>rfl)) (fun _ _=>rfl)) ab rfl) rfl) rfl) rfl)) ab rfl)))))
    (@ah _ _ _ _ _ (aV (bx K PySem.F.plainAttrs_list PySem.F.slot_list_append PySem.F.type_list_append bI (pv 6) (@aa _ _ _ _ _ (@aQ _ _ _ _ _ (@aa _ _ _ _ _ (ak bQ (@ai _ _ _ _ _ _ _ (aJ K) (pv 2) ae (fun _ _=>rfl)) (pv 3)) (@aa _ _ _ _ _ aH (@aa _ _ _ _ _ (pv 3) (@aa _ _ _ _ _ aH ab rfl) rfl) rfl) rfl)) ab rfl)))
    (@ah _ _ _ _ _ (bC PassesOwn.never rfl (cW rfl T.range_ (@aa _ _ _ _ _ (pv 4) ab rfl)) (aB (i:=7) nd rfl (Or.inl rfl)) (@aj _ _ _ (aV (bx K PySem.F.plainAttrs_list PySem.F.slot_list_append PySem.F.type_list_append bI (pv 6) (@aa _ _ _ _ _ (@aQ _ _ _ _ _ (@aa _ _ _ _ _ (ak aN (pv 3) (pv 7)) (@aa _ _ _ _ _ aH (@aa _ _ _ _ _ (ak aN (pv 3) (ak bQ (ak aN (pv 7) ae) (pv 4))) (@aa _ _ _ _ _ aH ab rfl) rfl) rfl) rfl)) ab rfl)))))
    (@ah _ _ _ _ _ (aV (bx K PySem.F.plainAttrs_list PySem.F.slot_list_append PySem.F.type_list_append bI (pv 6) (@aa _ _ _ _ _ (@aQ _ _ _ _ _ (@aa _ _ _ _ _ (ak aN (pv 3) (ak bQ (@ai _ _ _ _ _ _ _ (aJ K) (pv 2) ae (fun _ _=>rfl)) (pv 4))) (@aa _ _ _ _ _ aH (@aa _ _ _ _ _ (ak cR (pv 5) ae) (@aa _ _ _ _ _ aH ab rfl) rfl) rfl) rfl)) ab rfl)))
    (@ah _ _ _ _ _ (aV (bx K PySem.F.plainAttrs_list PySem.F.slot_list_append PySem.F.type_list_append bI (pv 6) (@aa _ _ _ _ _ (@aQ _ _ _ _ _ (@aa _ _ _ _ _ (ak cR (pv 5) ae) (@aa _ _ _ _ _ (@ai _ _ _ _ _ _ _ (aJ K) (@aR _ _ _ _ (@aa _ _ _ _ _ aH (@aa _ _ _ _ _ aH ab rfl) rfl)) (@ai _ _ _ _ _ _ _ (aJ K) (pv 2) ae (fun _ _=>rfl)) (fun _ _=>rfl)) (@aa _ _ _ _ _ (@ai _ _ _ _ _ _ _ (aJ K) (@aR _ _ _ _ (@aa _ _ _ _ _ ae (@aa _ _ _ _ _ (ak cR (pv 5) ae) ab rfl) rfl)) (@ai _ _ _ _ _ _ _ (aJ K) (pv 2) ae (fun _ _=>rfl)) (fun _ _=>rfl)) (@aa _ _ _ _ _ aH ab rfl) rfl) rfl) rfl)) ab rfl)))
    (@aj _ _ _ (@aA _ _ _ _ (@aQ _ _ _ _ _ (@aa _ _ _ _ _ (pv 5) (@aa _ _ _ _ _ (au C__law_unlike hr (@aa _ _ _ _ _ (pv 6) ab rfl)) ab rfl) rfl))))))))))))),?_⟩
  walk_at "rd"
  refine⟨av (by simp),ao fun w0 G1 f1 hw0 _=>?_⟩
  walk_at "rd"
  refine fq [6,5,6,5,2,2,2] hw0 (by decide) (by decide) (hp) fun dq ds H1 e1 hd hdn hl hb=>?_
  have eH:Ext H H1:=f1.trans e1
  obtain⟨d0,g0,b00,b01⟩:=b6 hl hb 0 rfl
  obtain⟨d1,g1,b10,b11⟩:=b6 hl hb 1 rfl
  obtain⟨d2,g2,b20,b21⟩:=b6 hl hb 2 rfl
  obtain⟨d3,g3,b30,b31⟩:=b6 hl hb 3 rfl
  obtain⟨d4,g4,b40,b41⟩:=b6 hl hb 4 rfl
  obtain⟨d5,g5,b50,b51⟩:=b6 hl hb 5 rfl
  obtain⟨d6,g6,b60,b61⟩:=b6 hl hb 6 rfl
  clear hb hl
  walk_at "rd"
  refine aK (af.of hd) g0 ?_
  walk_at "rd"
  refine aK (af.of hd) g1 ?_
  walk_at "rd"
  obtain⟨U,hU⟩:∃U:Nat,1+d0=(U:Int):=⟨(1+d0).toNat,by omega⟩
  obtain⟨D,hD⟩:∃D:Nat,1+d1=(D:Int):=⟨(1+d1).toNat,by omega⟩
  rw[hU,hD]
  have u1:1<=U:=by omega
  have u6:U<=6:=by omega
  have v1:1<=D:=by omega
  have v5:D<=5:=by omega
  clear b00 b01 b10 b11 hU hD
  obtain⟨m,hm⟩:∃m:Int,(U:Int)+(D:Int)+1=m:=⟨_,rfl⟩
  rw[hm]
  refine⟨av (by simp),ao fun f H2 e2 hf hfn=>?_⟩
  walk_at "rd"
  refine cV (by omega) ?_
  have hfn0:H1 f=none:=hfn
  refine forR (fun i σ H3=>∃(k:Option V) (us:List Way),σ=[some (.int c),some (.int p),some (.ref dq),some (.int U),some (.int D),some (.int m),some (.ref f),k]/\WL H1 H3 f us/\(∀u∈us,u.Ok3 m)/\us.length=i)
   ⟨none,[],rfl,WL.nil e2 hf,fun u hu=>by simp at hu,rfl⟩ ?_ ?_
  ·rintro i σ H3 hi ⟨k,us,rfl,wl,ok,len⟩
   rw[Int.toNat_natCast]at hi
   walk_at "rd"
   refine⟨wl.ty (Ext.rfl' _),?_⟩
   walk_at "rd"
   try refine rd_I (show(0:Int)<(U:Int) by omega) ?_
   walk_at "rd"
   refine aK (af.of (wl.ext _ _ hd)) g4 ?_
   obtain⟨s,hs,s1,s2⟩:=yW b40 b41
   refine⟨_,_,s,rfl,rfl,bG (by decide +kernel),hs,?_⟩
   walk_at "rd"
   refine⟨av (by simp),ao fun v H4 e4 hv _=>?_⟩
   walk_at "rd"
   obtain⟨xs,hx,hlx,wl'⟩:=wl.push (w:=⟨0+(i:Int),"up",(0+(i:Int)+1) % (U:Int),⟨#[s]⟩⟩) hfn0 e4 hv
   refine bH hx (cm (by omega)) ?_
   walk_at "rd"
   exact⟨_,_,rfl,wl',dE ok ⟨by show 0<=0+(i:Int);omega,by show 0+(i:Int)<m;omega,Int.emod_nonneg _ (by omega),Int.lt_trans (Int.emod_lt_of_pos _ (by omega)) (by omega),jD,s,s1,s2,rfl⟩,by simp[len]⟩
  rintro σ H3 ⟨k,us,rfl,wl,ok,len⟩
  rw[Int.toNat_natCast]at len
  walk_at "rd"
  refine⟨wl.ty (Ext.rfl' _),?_⟩
  walk_at "rd"
  refine aK (af.of (wl.ext _ _ hd)) g2 ?_
  try refine rd_I (show(0:Int)<(U:Int) by omega) ?_
  walk_at "rd"
  refine⟨av (by simp),ao fun v H4 e4 hv _=>?_⟩
  walk_at "rd"
  have r0:0<=d2 % (U:Int):=Int.emod_nonneg _ (by omega)
  have r1:d2 % (U:Int)<U:=Int.emod_lt_of_pos _ (by omega)
  obtain⟨xs,hx,hlx,wl2⟩:=wl.push (w:=⟨d2 % (U:Int),"stay",(U:Int),"b"⟩) hfn0 e4 hv
  have ok2:=dE ok (w:=⟨d2 % (U:Int),"stay",(U:Int),"b"⟩) ⟨r0,by show d2 % (U:Int)<m;omega,by show 0<=(U:Int);omega,by show(U:Int)<m;omega,ft,iq⟩
  refine bH hx (cm (by omega)) ?_
  generalize upd H4 f _=H5 at wl2 ⊢
  generalize hus2:us++[_]=us2 at wl2 ok2
  have len2:us2.length=U+1:=by rw[←hus2];simp[len]
  clear hus2 hx hlx hv e4 r0 r1 wl ok len
  walk_at "rd"
  refine cV (by omega) ?_
  refine forR (fun i σ H3=>∃(k:Option V) (us:List Way),σ=[some (.int c),some (.int p),some (.ref dq),some (.int U),some (.int D),some (.int m),some (.ref f),k]/\WL H1 H3 f us/\(∀u∈us,u.Ok3 m)/\us.length=U+1+i)
   ⟨_,us2,rfl,wl2,ok2,len2⟩ ?_ ?_
  ·rintro i σ H3 hi ⟨k,us,rfl,wl,ok,len⟩
   rw[Int.toNat_natCast]at hi
   walk_at "rd"
   refine⟨wl.ty (Ext.rfl' _),?_⟩
   walk_at "rd"
   try refine rd_I (show(0:Int)<(D:Int) by omega) ?_
   walk_at "rd"
   refine⟨av (by simp),ao fun v H4 e4 hv _=>?_⟩
   walk_at "rd"
   have r0:0<=(0+(i:Int)+1) % (D:Int):=Int.emod_nonneg _ (by omega)
   have r1:(0+(i:Int)+1) % (D:Int)<D:=Int.emod_lt_of_pos _ (by omega)
   obtain⟨xs,hx,hlx,wl'⟩:=wl.push (w:=⟨(U:Int)+(0+(i:Int)),"down",(U:Int)+(0+(i:Int)+1) % (D:Int),"a"⟩) hfn0 e4 hv
   refine bH hx (cm (by omega)) ?_
   walk_at "rd"
   exact⟨_,_,rfl,wl',dE ok ⟨by show 0<=(U:Int)+(0+(i:Int));omega,by show(U:Int)+(0+(i:Int))<m;omega,by show 0<=(U:Int)+(0+(i:Int)+1) % (D:Int);omega,by show(U:Int)+(0+(i:Int)+1) % (D:Int)<m;omega,kY,kG⟩,by simp[len];omega⟩
  clear wl2 ok2 len2
  rintro σ H3 ⟨k,us,rfl,wl,ok,len⟩
  rw[Int.toNat_natCast]at len
  walk_at "rd"
  refine⟨wl.ty (Ext.rfl' _),?_⟩
  walk_at "rd"
  refine aK (af.of (wl.ext _ _ hd)) g3 ?_
  try refine rd_I (show(0:Int)<(D:Int) by omega) ?_
  walk_at "rd"
  refine⟨av (by simp),ao fun v H4 e4 hv _=>?_⟩
  walk_at "rd"
  have r0:0<=d3 % (D:Int):=Int.emod_nonneg _ (by omega)
  have r1:d3 % (D:Int)<D:=Int.emod_lt_of_pos _ (by omega)
  obtain⟨xs,hx,hlx,wl2⟩:=wl.push (w:=⟨(U:Int)+d3 % (D:Int),"zero",m-1,"c"⟩) hfn0 e4 hv
  have ok2:=dE ok (w:=⟨(U:Int)+d3 % (D:Int),"zero",m-1,"c"⟩) ⟨by show 0<=(U:Int)+d3 % (D:Int);omega,by show(U:Int)+d3 % (D:Int)<m;omega,by show 0<=m-1;omega,by show m-1<m;omega,mB,nq⟩
  refine bH hx (cm (by omega)) ?_
  generalize upd H4 f _=H5 at wl2 ⊢
  generalize hus2:us++[_]=us2 at wl2 ok2
  have len2:us2.length=U+D+2:=by rw[←hus2];simp[len];omega
  clear hus2 hx hlx hv e4 r0 r1 wl ok len
  walk_at "rd"
  refine⟨wl2.ty (Ext.rfl' _),?_⟩
  walk_at "rd"
  refine⟨av (by simp),ao fun t1 H6 e6 ht1 _=>?_⟩
  walk_at "rd"
  refine aK (af.of (e6 _ _ (wl2.ext _ _ hd))) g5 ?_
  obtain⟨x5,hx5,ax5⟩:=kA (a:=V.str "up") (b:=V.str "stay") b50 b51
  refine aK (af.of ht1) hx5 ?_
  walk_at "rd"
  refine⟨av (by simp),ao fun t2 H7 e7 ht2 _=>?_⟩
  walk_at "rd"
  refine aK (af.of (e7 _ _ (e6 _ _ (wl2.ext _ _ hd)))) g6 ?_
  obtain⟨x6,hx6,ax6⟩:=kA (a:=V.int 0) (b:=V.int (m-1)) b60 b61
  refine aK (af.of ht2) hx6 ?_
  walk_at "rd"
  refine⟨av (by simp),ao fun v H8 e8 hv _=>?_⟩
  walk_at "rd"
  obtain⟨z,rfl,oz⟩:∃z,x5=.str z/\bq z:=by
   rcases ax5 with rfl | rfl
   ·exact⟨_,rfl,jD⟩
   ·exact⟨_,rfl,ft⟩
  obtain⟨y,rfl,y0,y1⟩:∃y:Int,x6=.int y/\0<=y/\y<m:=by
   rcases ax6 with rfl | rfl
   ·exact⟨_,rfl,by omega,by omega⟩
   ·exact⟨_,rfl,by omega,by omega⟩
  obtain⟨xs,hx,hlx,wl3⟩:=wl2.push (w:=⟨m-1,z,y,"b"⟩) hfn0 (e6.trans (e7.trans e8)) hv
  have ok3:=dE ok2 (w:=⟨m-1,z,y,"b"⟩) ⟨by show 0<=m-1;omega,by show m-1<m;omega,y0,y1,oz,iq⟩
  refine bH hx (cm (by omega)) ?_
  generalize upd H8 f _=H9 at wl3 ⊢
  generalize hus3:us2++[_]=us3 at wl3 ok3
  have len3:us3.length=U+D+3:=by rw[←hus3];simp[len2]
  walk_at "rd"
  obtain⟨ew,cs,hcs,al⟩:=wl3
  refine⟨f,cs,us3,rfl,hcs,al,fun u hu=>(ok3 u hu).lay,by omega,fun r I1 ws e5 hws nd sub ln=>?_⟩
  walk_at "rd"
  refine⟨av (by simp),ao fun t I2 e6' ht _=>?_⟩
  exact q _ m ws I2 (eH.trans (ew.trans (e5.trans e6'))) (aM.mk ht (hws.ext e6')) ⟨by omega,by omega,by omega,fun u hu=>ok3 u (sub u hu),nd⟩
theorem aE.rev{H:Hp}{bs:List Addr}{ws:List Way}(h:aE H bs ws):aE H bs.reverse ws.reverse:=by
 refine⟨by rw[List.length_reverse,List.length_reverse];exact h.1,fun j b w e1 e2=>?_⟩
 have hj:j<bs.length:=by
  have:=(List.getElem?_eq_some_iff.mp e1).1
  simpa using this
 rw[List.getElem?_reverse hj]at e1
 rw[List.getElem?_reverse (by rw[←h.1];exact hj),←h.1]at e2
 exact h.2 _ b w e1 e2
theorem gf{us:List Way}{w:Way}(h:us.Nodup)(hw:w∉us):(us++[w]).Nodup:=by
 rw[List.nodup_append]
 exact⟨h,by simp,fun a ha c hc=>by rw[List.mem_singleton.mp hc];exact fun z=>hw (z ▸ ha)⟩
theorem hV{P:Way->Prop}{us:List Way}{w:Way}(h:∀u∈us,P u)(hw:P w):∀u∈us++[w],P u:=fun u hu=>by
 rcases List.mem_append.mp hu with hu | hu
 ·exact h u hu
 ·rw[List.mem_singleton.mp hu];exact hw
theorem pQ:(Str.ofString "a")≠"b":=by decide +kernel
theorem qP:(Str.ofString "a")≠"c":=by decide +kernel
theorem my:(Str.ofString "b")≠"c":=by decide +kernel
def oK(K:PySem.W.Frag):Sp:=fun vs H Q _=>∃c p,vs=[.int c,.int p]/\0<p/\∀v m ws H',Ext H H'->aM H' v m ws->HOuse3 m ws->Q v H'
abbrev ka:Stmt:=stq 62
theorem rF:FnScope ["_law_cell_here","_law_prime","_law_draws_here","_law_one","_law_two","_law_many","_law_ways","_law_k"] ["_law_cell_here","_law_prime"] (aC ka):=⟨rfl,rfl,rfl,by decide +kernel,rfl,by decide +kernel,by decide +kernel⟩
theorem yr{P:Program}{w:World}{K:PySem.W.Frag}{mg:Str->Option Value}{base:Heap}(D:Dfn K mg "_law_ring_house" ka ["_law_cell_here","_law_prime"])(T:Blt mg)(C__law_draws:Cal P w K mg base "_law_draws" 2 ["_law_cell_here","_law_widths","_law_prime"] (eX K)):Cal P w K mg base "_law_ring_house" 3 ["_law_cell_here","_law_prime"] (oK K):=by
 have nd:=(rF).nd
 refine D.ok rF (fun vs H Q E h=>?_) (fun X hX H vs Q E h=>?_)
 ·obtain⟨c,p,rfl,_⟩:=h;rfl
 ·obtain⟨f,cdv,A,outer,s,H0,E0,rfl,hr⟩:=hX
  obtain⟨c,p,rfl,hp,q⟩:=h
  refine⟨_,(@ah _ _ _ _ _ (@az _ _ 2 _ _ _ _ nd rfl (Or.inl rfl) (au C__law_draws hr (@aa _ _ _ _ _ (pv 0) (@aa _ _ _ _ _ (@aR _ _ _ _ (fZ (.c (.c (.c (.c (.c (.c (.c .n))))))))) (@aa _ _ _ _ _ (pv 1) ab rfl) rfl) rfl)) rfl (Or.inl rfl))
    (@ah _ _ _ _ _ (lT (i:=3) (j:=4) rfl nd rfl rfl (by decide) rfl rfl (@aa _ _ _ _ _ (ak aN ae (@ai _ _ _ _ _ _ _ (aJ K) (pv 2) ae (fun _ _=>rfl))) (@aa _ _ _ _ _ (ak aN ae (@ai _ _ _ _ _ _ _ (aJ K) (pv 2) ae (fun _ _=>rfl))) ab rfl) rfl) rfl)
    (@ah _ _ _ _ _ (@az _ _ 5 _ _ _ _ nd rfl (Or.inl rfl) (ak aN (ak aN (pv 3) (pv 4)) ae) rfl (Or.inl rfl))
    (@ah _ _ _ _ _ (@az _ _ 6 _ _ _ _ nd rfl (Or.inl rfl) (@aR _ _ _ _ (@aa _ _ _ _ _ (@aQ _ _ _ _ _ (@aa _ _ _ _ _ ae (@aa _ _ _ _ _ aH (@aa _ _ _ _ _ ae (@aa _ _ _ _ _ aH ab rfl) rfl) rfl) rfl)) (@aa _ _ _ _ _ (@aQ _ _ _ _ _ (@aa _ _ _ _ _ ae (@aa _ _ _ _ _ (@ai _ _ _ _ _ _ _ (aJ K) (@aR _ _ _ _ (@aa _ _ _ _ _ aH (@aa _ _ _ _ _ aH ab rfl) rfl)) (@ai _ _ _ _ _ _ _ (aJ K) (pv 2) ae (fun _ _=>rfl)) (fun _ _=>rfl)) (@aa _ _ _ _ _ (ak aN ae (pv 3)) (@aa _ _ _ _ _ aH ab rfl) rfl) rfl) rfl)) ab rfl) rfl)) rfl (Or.inl rfl))
    (@ah _ _ _ _ _ (bC PassesOwn.never rfl (cW rfl T.range_ (@aa _ _ _ _ _ (pv 3) ab rfl)) (aB (i:=7) nd rfl (Or.inl rfl)) (@aj _ _ _ (aV (bx K PySem.F.plainAttrs_list PySem.F.slot_list_append PySem.F.type_list_append bI (pv 6) (@aa _ _ _ _ _ (@aQ _ _ _ _ _ (@aa _ _ _ _ _ (ak aN ae (pv 7)) (@aa _ _ _ _ _ aH (@aa _ _ _ _ _ (ak aN ae (ak bQ (ak aN (pv 7) ae) (pv 3))) (@aa _ _ _ _ _ aH ab rfl) rfl) rfl) rfl)) ab rfl)))))
    (@ah _ _ _ _ _ (bC PassesOwn.never rfl (cW rfl T.range_ (@aa _ _ _ _ _ (pv 4) ab rfl)) (aB (i:=7) nd rfl (Or.inl rfl)) (@aj _ _ _ (aV (bx K PySem.F.plainAttrs_list PySem.F.slot_list_append PySem.F.type_list_append bI (pv 6) (@aa _ _ _ _ _ (@aQ _ _ _ _ _ (@aa _ _ _ _ _ (ak aN (ak aN ae (pv 3)) (pv 7)) (@aa _ _ _ _ _ (@ai _ _ _ _ _ _ _ (aJ K) (@aR _ _ _ _ (@aa _ _ _ _ _ aH (@aa _ _ _ _ _ aH ab rfl) rfl)) (@ai _ _ _ _ _ _ _ (aJ K) (pv 2) ae (fun _ _=>rfl)) (fun _ _=>rfl)) (@aa _ _ _ _ _ (ak aN (ak aN ae (pv 3)) (ak bQ (ak aN (pv 7) ae) (pv 4))) (@aa _ _ _ _ _ aH ab rfl) rfl) rfl) rfl)) ab rfl)))))
    (@ah _ _ _ _ _ (aV (bx K PySem.F.plainAttrs_list PySem.F.slot_list_append PySem.F.type_list_append bI (pv 6) (@aa _ _ _ _ _ (@aQ _ _ _ _ _ (@aa _ _ _ _ _ ae (@aa _ _ _ _ _ aH (@aa _ _ _ _ _ (ak cR (pv 5) ae) (@aa _ _ _ _ _ aH ab rfl) rfl) rfl) rfl)) ab rfl)))
    (@ah _ _ _ _ _ (aV (bx K PySem.F.plainAttrs_list PySem.F.slot_list_append PySem.F.type_list_append bI (pv 6) (@aa _ _ _ _ _ (@aQ _ _ _ _ _ (@aa _ _ _ _ _ (ak aN ae (pv 3)) (@aa _ _ _ _ _ aH (@aa _ _ _ _ _ (ak cR (pv 5) ae) (@aa _ _ _ _ _ aH ab rfl) rfl) rfl) rfl)) ab rfl)))
    (@ah _ _ _ _ _ (cw (aL bE (@ai _ _ _ _ _ _ _ (aJ K) (pv 2) ae (fun _ _=>rfl)) ae (aF _)) (@aj _ _ _ (aV (bx K PySem.F.plainAttrs_list PySem.F.slot_list_append PySem.F.type_list_append bI (pv 6) (@aa _ _ _ _ _ (@aQ _ _ _ _ _ (@aa _ _ _ _ _ (ak cR (pv 5) ae) (@aa _ _ _ _ _ aH (@aa _ _ _ _ _ (ak cR (pv 5) ae) (@aa _ _ _ _ _ aH ab rfl) rfl) rfl) rfl)) ab rfl)))) aO)
    (@ah _ _ _ _ _ (cw (aL bE (@ai _ _ _ _ _ _ _ (aJ K) (pv 2) ae (fun _ _=>rfl)) ae (aF _)) (@aj _ _ _ (aV (bx K PySem.F.plainAttrs_list PySem.F.slot_list_append PySem.F.type_list_append bI (pv 6) (@aa _ _ _ _ _ (@aQ _ _ _ _ _ (@aa _ _ _ _ _ (ak cR (pv 5) ae) (@aa _ _ _ _ _ aH (@aa _ _ _ _ _ ae (@aa _ _ _ _ _ aH ab rfl) rfl) rfl) rfl)) ab rfl)))) aO)
    (@ah _ _ _ _ _ (cw (aL bE (@ai _ _ _ _ _ _ _ (aJ K) (pv 2) ae (fun _ _=>rfl)) ae (aF _)) (@aj _ _ _ (@az _ _ 6 _ _ _ _ nd rfl (Or.inl rfl) (Cd K (pv 6) (dF (lN lQ ae))) rfl (Or.inl rfl))) aO)
    (@aj _ _ _ (@aA _ _ _ _ (@aQ _ _ _ _ _ (@aa _ _ _ _ _ (pv 5) (@aa _ _ _ _ _ (dN (fF K) rfl T.tuple_ PyProof.Rows.boot_tuple (@aa _ _ _ _ _ (pv 6) ab rfl)) ab rfl) rfl))))))))))))))),?_⟩
  walk_at "rd"
  refine⟨av (by simp),ao fun w0 G1 f1 hw0 _=>?_⟩
  walk_at "rd"
  refine fq [5,5,2,2,4,4,2] hw0 (by decide) (by decide) (hp) fun dq ds H1 e1 hd hdn hl hb=>?_
  have eH:Ext H H1:=f1.trans e1
  obtain⟨d0,g0,b00,b01⟩:=b6 hl hb 0 rfl
  obtain⟨d1,g1,b10,b11⟩:=b6 hl hb 1 rfl
  obtain⟨d2,g2,b20,b21⟩:=b6 hl hb 2 rfl
  obtain⟨d3,g3,b30,b31⟩:=b6 hl hb 3 rfl
  obtain⟨d4,g4,_⟩:=b6 hl hb 4 rfl
  obtain⟨d5,g5,_⟩:=b6 hl hb 5 rfl
  obtain⟨d6,g6,_⟩:=b6 hl hb 6 rfl
  clear hb hl
  walk_at "rd"
  refine aK (af.of hd) g0 ?_
  walk_at "rd"
  refine aK (af.of hd) g1 ?_
  walk_at "rd"
  obtain⟨U,hU⟩:∃U:Nat,1+d0=(U:Int):=⟨(1+d0).toNat,by omega⟩
  obtain⟨D,hD⟩:∃D:Nat,1+d1=(D:Int):=⟨(1+d1).toNat,by omega⟩
  rw[hU,hD]
  have u1:1<=U:=by omega
  have u6:U<=5:=by omega
  have v1:1<=D:=by omega
  have v5:D<=5:=by omega
  clear b00 b01 b10 b11 hU hD
  obtain⟨m,hm⟩:∃m:Int,(U:Int)+(D:Int)+2=m:=⟨_,rfl⟩
  rw[hm]
  -- the first two ways
  refine⟨av (by simp),ao fun a1 H2 e2 ha1 _=>?_⟩
  walk_at "rd"
  refine⟨av (by simp),ao fun t1 H3 e3 ht1 _=>?_⟩
  walk_at "rd"
  refine aK (af.of (e3 _ _ (e2 _ _ hd))) g2 ?_
  obtain⟨x2,hx2,ax2⟩:=kA (a:=V.str "stay") (b:=V.str "zero") b20 b21
  refine aK (af.of ht1) hx2 ?_
  walk_at "rd"
  obtain⟨z2,rfl,oz2⟩:∃z,x2=.str z/\bq z:=by
   rcases ax2 with rfl | rfl
   ·exact⟨_,rfl,ft⟩
   ·exact⟨_,rfl,mB⟩
  refine⟨av (by simp),ao fun a2 H4 e4 ha2 _=>?_⟩
  walk_at "rd"
  refine⟨av (by simp),ao fun f H5 e5 hf hfn=>?_⟩
  have e15:Ext H1 H5:=e2.trans (e3.trans (e4.trans e5))
  have hfn0:H1 f=none:=(e2.trans (e3.trans e4)).none hfn
  obtain⟨y1,hy1⟩:∃y:Way,y=⟨0,"stay",1,"a"⟩:=⟨_,rfl⟩
  obtain⟨y2,hy2⟩:∃y:Way,y=⟨0,z2,1+(U:Int),"b"⟩:=⟨_,rfl⟩
  have wl0:WL H1 H5 f [y1,y2]:=by
   refine⟨e15,[a1,a2],hf,?_⟩
   have k1:H5 a1=some (.tup y1.vs):=by rw[hy1];exact e5 _ _ (e4 _ _ (e3 _ _ ha1))
   have k2:H5 a2=some (.tup y2.vs):=by rw[hy2];exact e5 _ _ ha2
   exact((aE.nil H5).snoc k1).snoc k2
  have ok0:∀u∈[y1,y2],u.Ok3 m:=by
   intro u hu
   rcases List.mem_cons.mp hu with rfl | hu
   ·subst hy1;exact⟨Int.le_refl _,by show(0:Int)<m;omega,by show(0:Int)<=1;decide,by show(1:Int)<m;omega,ft,kG⟩
   ·rw[List.mem_singleton.mp hu];subst hy2;exact⟨Int.le_refl _,by show(0:Int)<m;omega,by show(0:Int)<=1+(U:Int);omega,by show 1+(U:Int)<m;omega,oz2,iq⟩
  have nd0:[y1,y2].Nodup:=by
   subst hy1 hy2
   refine List.nodup_cons.mpr ⟨fun z=>?_,by simp⟩
   have:=congrArg Way.sign (List.mem_singleton.mp z)
   exact pQ this
  have pr0:∀u∈[y1,y2],u.room<=((0:Nat):Int)/\u.sign≠"c":=by
   intro u hu
   rcases List.mem_cons.mp hu with rfl | hu
   ·subst hy1;exact⟨Int.le_refl _,qP⟩
   ·rw[List.mem_singleton.mp hu];subst hy2;exact⟨Int.le_refl _,my⟩
  have ln0:[y1,y2].length=2:=rfl
  generalize [y1,y2]=us0 at wl0 ok0 nd0 pr0 ln0
  clear hy1 hy2 ha1 ha2 ht1 hf e2 e3 e4 e5
  walk_at "rd"
  refine cV (by omega) ?_
  refine forR (fun i σ H3=>∃(k:Option V) (us:List Way),σ=[some (.int c),some (.int p),some (.ref dq),some (.int U),some (.int D),some (.int m),some (.ref f),k]/\WL H1 H3 f us/\(∀u∈us,u.Ok3 m)/\us.Nodup/\(∀u∈us,u.room<=(i:Int)/\u.sign≠"c")/\us.length=2+i)
   ⟨none,us0,rfl,wl0,ok0,nd0,pr0,ln0⟩ ?_ ?_
  ·rintro i σ H3 hi ⟨k,us,rfl,wl,ok,nd',pr,len⟩
   rw[Int.toNat_natCast]at hi
   walk_at "rd"
   refine⟨wl.ty (Ext.rfl' _),?_⟩
   walk_at "rd"
   try refine rd_I (show(0:Int)<(U:Int) by omega) ?_
   walk_at "rd"
   refine⟨av (by simp),ao fun v H4 e4 hv _=>?_⟩
   walk_at "rd"
   have r0:0<=(0+(i:Int)+1) % (U:Int):=Int.emod_nonneg _ (by omega)
   have r1:(0+(i:Int)+1) % (U:Int)<U:=Int.emod_lt_of_pos _ (by omega)
   obtain⟨xs,hx,hlx,wl'⟩:=wl.push (w:=⟨1+(0+(i:Int)),"up",1+(0+(i:Int)+1) % (U:Int),"a"⟩) hfn0 e4 hv
   refine bH hx (cm (by omega)) ?_
   walk_at "rd"
   refine⟨_,_,rfl,wl',dE ok ⟨by show 0<=1+(0+(i:Int));omega,by show 1+(0+(i:Int))<m;omega,by show 0<=1+(0+(i:Int)+1) % (U:Int);omega,by show 1+(0+(i:Int)+1) % (U:Int)<m;omega,jD,kG⟩,gf nd' fun z=>?_,hV (fun u hu=>⟨by have:=(pr u hu).1;omega,(pr u hu).2⟩) ⟨by show 1+(0+(i:Int))<=_;omega,qP⟩,by simp[len];omega⟩
   have:=(pr _ z).1
   have:1+(0+(i:Int))<=(i:Int):=this
   omega
  clear wl0 ok0 nd0 pr0 ln0
  rintro σ H3 ⟨k,us,rfl,wl,ok,nd',pr,len⟩
  rw[Int.toNat_natCast]at pr len
  walk_at "rd"
  refine cV (by omega) ?_
  refine forR (fun i σ H3=>∃(k:Option V) (us:List Way),σ=[some (.int c),some (.int p),some (.ref dq),some (.int U),some (.int D),some (.int m),some (.ref f),k]/\WL H1 H3 f us/\(∀u∈us,u.Ok3 m)/\us.Nodup/\(∀u∈us,u.room<=(U:Int)+(i:Int)/\u.sign≠"c"/\(u.room=1+(U:Int)->u.sign = "b"))/\us.length=2+U+i)
   ⟨_,us,rfl,wl,ok,nd',fun u hu=>⟨by have:=(pr u hu).1;omega,(pr u hu).2,fun z=>by have:=(pr u hu).1;omega⟩,len⟩ ?_ ?_
  ·clear wl ok nd' pr len
   rintro i σ H3 hi ⟨k,us,rfl,wl,ok,nd',pr,len⟩
   rw[Int.toNat_natCast]at hi
   walk_at "rd"
   refine⟨wl.ty (Ext.rfl' _),?_⟩
   walk_at "rd"
   refine⟨av (by simp),ao fun t1 H6 e6 ht1 _=>?_⟩
   walk_at "rd"
   refine aK (af.of (e6 _ _ (wl.ext _ _ hd))) g3 ?_
   obtain⟨x3,hx3,ax3⟩:=kA (a:=V.str "up") (b:=V.str "down") b30 b31
   refine aK (af.of ht1) hx3 ?_
   walk_at "rd"
   obtain⟨z3,rfl,oz3⟩:∃z,x3=.str z/\bq z:=by
    rcases ax3 with rfl | rfl
    ·exact⟨_,rfl,jD⟩
    ·exact⟨_,rfl,kY⟩
   try refine rd_I (show(0:Int)<(D:Int) by omega) ?_
   walk_at "rd"
   refine⟨av (by simp),ao fun v H4 e4 hv _=>?_⟩
   walk_at "rd"
   have r0:0<=(0+(i:Int)+1) % (D:Int):=Int.emod_nonneg _ (by omega)
   have r1:(0+(i:Int)+1) % (D:Int)<D:=Int.emod_lt_of_pos _ (by omega)
   obtain⟨xs,hx,hlx,wl'⟩:=wl.push (w:=⟨1+(U:Int)+(0+(i:Int)),z3,1+(U:Int)+(0+(i:Int)+1) % (D:Int),"b"⟩) hfn0 (e6.trans e4) hv
   refine bH hx (cm (by omega)) ?_
   walk_at "rd"
   refine⟨_,_,rfl,wl',dE ok ⟨by show 0<=1+(U:Int)+(0+(i:Int));omega,by show 1+(U:Int)+(0+(i:Int))<m;omega,by show 0<=1+(U:Int)+(0+(i:Int)+1) % (D:Int);omega,by show 1+(U:Int)+(0+(i:Int)+1) % (D:Int)<m;omega,oz3,iq⟩,gf nd' fun z=>?_,hV (fun u hu=>⟨by have:=(pr u hu).1;omega,(pr u hu).2⟩) ⟨by show 1+(U:Int)+(0+(i:Int))<=_;omega,my,fun _=>rfl⟩,by simp[len];omega⟩
   have:=(pr _ z).1
   have:1+(U:Int)+(0+(i:Int))<=(U:Int)+(i:Int):=this
   omega
  clear wl ok nd' pr len
  rintro σ H3 ⟨k,us,rfl,wl,ok,nd',pr,len⟩
  rw[Int.toNat_natCast]at pr len
  walk_at "rd"
  -- (1,stay,m-1,c)
  refine⟨wl.ty (Ext.rfl' _),?_⟩
  walk_at "rd"
  refine⟨av (by simp),ao fun v H4 e4 hv _=>?_⟩
  walk_at "rd"
  obtain⟨xs,hx,hlx,wl2⟩:=wl.push (w:=⟨1,"stay",m-1,"c"⟩) hfn0 e4 hv
  have ok2:=dE ok (w:=⟨1,"stay",m-1,"c"⟩) ⟨by show(0:Int)<=1;decide,by show(1:Int)<m;omega,by show 0<=m-1;omega,by show m-1<m;omega,ft,nq⟩
  have nd2:=gf nd' (w:=⟨1,"stay",m-1,"c"⟩) fun z=>(pr _ z).2.1 rfl
  have pr2:=hV (P:=fun u=>u.room<=(U:Int)+(D:Int)/\(u.room=1+(U:Int)->u.sign = "b")) (fun u hu=>⟨(pr u hu).1,(pr u hu).2.2⟩) (w:=⟨1,"stay",m-1,"c"⟩) ⟨by show(1:Int)<=_;omega,fun z=>by have:(1:Int)=1+(U:Int):=z;omega⟩
  refine bH hx (cm (by omega)) ?_
  generalize upd H4 f _=H5 at wl2 ⊢
  generalize hus2:us++[_]=us2 at wl2 ok2 nd2 pr2
  have len2:us2.length=3+U+D:=by rw[←hus2];simp[len];omega
  clear hus2 hx hlx hv e4 wl ok nd' pr len
  walk_at "rd"
  -- (1+U,stay,m-1,a)
  refine⟨wl2.ty (Ext.rfl' _),?_⟩
  walk_at "rd"
  refine⟨av (by simp),ao fun v H4 e4 hv _=>?_⟩
  walk_at "rd"
  obtain⟨xs,hx,hlx,wl3⟩:=wl2.push (w:=⟨1+(U:Int),"stay",m-1,"a"⟩) hfn0 e4 hv
  have ok3:=dE ok2 (w:=⟨1+(U:Int),"stay",m-1,"a"⟩) ⟨by show(0:Int)<=1+(U:Int);omega,by show 1+(U:Int)<m;omega,by show 0<=m-1;omega,by show m-1<m;omega,ft,kG⟩
  have nd3:=gf nd2 (w:=⟨1+(U:Int),"stay",m-1,"a"⟩) fun z=>pQ ((pr2 _ z).2 rfl)
  have pr3:=hV (P:=fun u=>u.room<=(U:Int)+(D:Int)) (fun u hu=>(pr2 u hu).1) (w:=⟨1+(U:Int),"stay",m-1,"a"⟩) (by show 1+(U:Int)<=_;omega)
  refine bH hx (cm (by omega)) ?_
  generalize upd H4 f _=H6 at wl3 ⊢
  generalize hus3:us2++[_]=us3 at wl3 ok3 nd3 pr3
  have len3:us3.length=4+U+D:=by rw[←hus3];simp[len2];omega
  clear hus3 hx hlx hv e4 wl2 ok2 nd2 pr2 len2
  walk_at "rd"
  -- the two that may be left out
  refine gY (fun σ' H'=>∃(k:Option V) (us:List Way),σ'=[some (.int c),some (.int p),some (.ref dq),some (.int U),some (.int D),some (.int m),some (.ref f),k]/\WL H1 H' f us/\(∀u∈us,u.Ok3 m)/\us.Nodup/\(∀u∈us,u.room<=(U:Int)+(D:Int)\/u.sign = "c")/\us.length<=5+U+D) ?_ ?_
  ·walk_at "rd"
   refine aK (af.of (wl3.ext _ _ hd)) g4 ?_
   walk_at "rd"
   refine eY (fun h=>?_) (fun h=>?_)
   ·walk_at "rd"
    refine⟨wl3.ty (Ext.rfl' _),?_⟩
    walk_at "rd"
    refine⟨av (by simp),ao fun v H4 e4 hv _=>?_⟩
    walk_at "rd"
    obtain⟨xs,hx,hlx,wl4⟩:=wl3.push (w:=⟨m-1,"down",m-1,"c"⟩) hfn0 e4 hv
    refine bH hx (cm (by omega)) ?_
    walk_at "rd"
    exact⟨_,_,rfl,wl4,dE ok3 ⟨by show 0<=m-1;omega,by show m-1<m;omega,by show 0<=m-1;omega,by show m-1<m;omega,kY,nq⟩,gf nd3 fun z=>by have:m-1<=(U:Int)+(D:Int):=pr3 _ z;omega,hV (fun u hu=>.inl (pr3 u hu)) (.inr rfl),by simp[len3];omega⟩
   ·walk_at "rd"
    exact⟨_,us3,rfl,wl3,ok3,nd3,fun u hu=>.inl (pr3 u hu),by omega⟩
  clear wl3 ok3 nd3 pr3 len3
  rintro σ' H7 ⟨k,us,rfl,wl,ok,nd',pr,len⟩
  walk_at "rd"
  refine gY (fun σ' H'=>∃(k:Option V) (us:List Way),σ'=[some (.int c),some (.int p),some (.ref dq),some (.int U),some (.int D),some (.int m),some (.ref f),k]/\WL H1 H' f us/\(∀u∈us,u.Ok3 m)/\us.Nodup/\us.length<=6+U+D) ?_ ?_
  ·walk_at "rd"
   refine aK (af.of (wl.ext _ _ hd)) g5 ?_
   walk_at "rd"
   refine eY (fun h=>?_) (fun h=>?_)
   ·walk_at "rd"
    refine⟨wl.ty (Ext.rfl' _),?_⟩
    walk_at "rd"
    refine⟨av (by simp),ao fun v H4 e4 hv _=>?_⟩
    walk_at "rd"
    obtain⟨xs,hx,hlx,wl4⟩:=wl.push (w:=⟨m-1,"zero",0,"b"⟩) hfn0 e4 hv
    refine bH hx (cm (by omega)) ?_
    walk_at "rd"
    exact⟨_,_,rfl,wl4,dE ok ⟨by show 0<=m-1;omega,by show m-1<m;omega,by show(0:Int)<=0;decide,by show(0:Int)<m;omega,mB,iq⟩,gf nd' (fun z=>(pr _ z).elim (fun y=>by have:m-1<=(U:Int)+(D:Int):=y;omega) fun y=>my y),by simp;omega⟩
   ·walk_at "rd"
    exact⟨_,us,rfl,wl,ok,nd',by omega⟩
  clear wl ok nd' pr len
  rintro σ' H8 ⟨k,us,rfl,wl,ok,nd',len⟩
  walk_at "rd"
  -- backward or not
  refine gY (fun σ' H'=>∃(k:Option V) (f:Addr) (cs:List Addr) (us:List Way),σ'=[some (.int c),some (.int p),some (.ref dq),some (.int U),some (.int D),some (.int m),some (.ref f),k]/\Ext H1 H'/\H' f=some (.lst (cs.map V.ref))/\aE H' cs us/\(∀u∈us,u.Ok3 m)/\us.Nodup/\us.length<=6+U+D) ?_ ?_
  ·walk_at "rd"
   refine aK (af.of (wl.ext _ _ hd)) g6 ?_
   walk_at "rd"
   obtain⟨ew,cs,hcs,al⟩:=wl
   refine eY (fun h=>?_) (fun h=>?_)
   ·walk_at "rd"
    refine⟨rfl,uX (af.of hcs) (ao fun r H9 e9 hr9 _=>?_)⟩
    walk_at "rd"
    exact⟨_,r,cs.reverse,us.reverse,rfl,ew.trans e9,by rw[hr9,List.map_reverse],(al.ext e9).rev,fun u hu=>ok u (List.mem_reverse.mp hu),List.pairwise_reverse.mpr (nd'.imp fun h=>Ne.symm h),by rw[List.length_reverse];omega⟩
   ·walk_at "rd"
    exact⟨_,f,cs,us,rfl,ew,hcs,al,ok,nd',by omega⟩
  clear wl ok nd' len
  rintro σ' H9 ⟨k,g,cs,us,rfl,ew,hcs,al,ok,nd',len⟩
  walk_at "rd"
  refine fL (af.of hcs) (ao fun r I1 i1 hr1 _=>?_)
  walk_at "rd"
  refine⟨av (by simp),ao fun t I2 i2 ht _=>?_⟩
  exact q _ m us I2 (eH.trans (ew.trans (i1.trans i2))) (aM.mk ht (((al.ext i1).ways hr1).ext i2)) ⟨by omega,by omega,by omega,ok,nd'⟩
def sJ(K:PySem.W.Frag):Sp:=fun vs H Q _=>∃c p,vs=[.int c,.int p]/\0<p/\∀v m ws H',Ext H H'->aM H' v m ws->HOuse3 m ws->Q v H'
abbrev km:Stmt:=stq 64
theorem vF:FnScope ["_law_cell_here","_law_prime","_law_kind","_law_left"] ["_law_cell_here","_law_prime"] (aC km):=⟨rfl,rfl,rfl,by decide +kernel,rfl,by decide +kernel,by decide +kernel⟩
theorem xQ{P:Program}{w:World}{K:PySem.W.Frag}{mg:Str->Option Value}{base:Heap}(D:Dfn K mg "_law_house" km ["_law_cell_here","_law_prime"])(T:Blt mg)(C__law_drawn_house:Cal P w K mg base "_law_drawn_house" 3 ["_law_cell_here","_law_prime"] (qw K))(C__law_gate_house:Cal P w K mg base "_law_gate_house" 3 ["_law_cell_here","_law_prime"] (qG K))(C__law_ring_house:Cal P w K mg base "_law_ring_house" 3 ["_law_cell_here","_law_prime"] (oK K))(C__law_spare:Cal P w K mg base "_law_spare" 1 ["_law_cell_here","_law_width"] (tH K))(C__law_draws:Cal P w K mg base "_law_draws" 2 ["_law_cell_here","_law_widths","_law_prime"] (eX K)):Cal P w K mg base "_law_house" 4 ["_law_cell_here","_law_prime"] (sJ K):=by
 have nd:=(vF).nd
 refine D.ok vF (fun vs H Q E h=>?_) (fun X hX H vs Q E h=>?_)
 ·obtain⟨c,p,rfl,_⟩:=h;rfl
 ·obtain⟨f,cdv,A,outer,s,H0,E0,rfl,hr⟩:=hX
  obtain⟨c,p,rfl,hp,q⟩:=h
  refine⟨_,(ah (az (i:=2) nd rfl (Or.inl rfl) (ai (aJ K) (au C__law_draws hr (aa (pv 0) (aa (aR (aa ae ab)) (aa (pv 1) ab)))) ae (fun _ _=>rfl)))
    (ah (az (i:=3) nd rfl (Or.inl rfl) (au C__law_spare hr (aa (pv 0) (aa ae ab))))
    (ah (bt (aL bE (pv 2) ae (aF _)) (aj (aA (au C__law_ring_house hr (aa (pv 3) (aa (pv 1) ab))))) aO)
    (ah (bt (aL bE (pv 2) ae (aF _)) (aj (aA (au C__law_gate_house hr (aa (pv 3) (aa (pv 1) ab))))) aO)
    (aj (aA (au C__law_drawn_house hr (aa (pv 3) (aa (pv 1) ab))))))))),?_⟩
  walk_at "rd"
  refine⟨av (by simp),ao fun w0 G1 f1 hw0 _=>?_⟩
  walk_at "rd"
  refine fq [8] hw0 (by decide) (by decide) (hp) fun dq ds H1 e1 hd hdn hl hb=>?_
  have eH:Ext H H1:=f1.trans e1
  obtain⟨d0,g0,_⟩:=b6 hl hb 0 rfl
  walk_at "rd"
  refine aK (af.of hd) g0 ?_
  walk_at "rd"
  refine⟨c,8,rfl,by decide,by decide,fun z=>?_⟩
  walk_at "rd"
  refine eY (fun h=>?_) (fun h=>?_)
  ·walk_at "rd"
   exact⟨z,p,rfl,hp,fun v m ws H' e hv ok=>q v m ws H' (eH.trans e) hv ok⟩
  ·walk_at "rd"
   refine eY (fun h=>?_) (fun h=>?_)
   ·walk_at "rd"
    exact⟨z,p,rfl,hp,fun v m ws H' e hv ok=>q v m ws H' (eH.trans e) hv ok⟩
   ·walk_at "rd"
    exact⟨z,p,rfl,hp,fun v m ws H' e hv ok=>q v m ws H' (eH.trans e) hv ok⟩
def Way.turn(w:Way):Way:=⟨w.other,cU w.deed,w.room,w.sign⟩
theorem AW{z:Str}(h:bq z):bq (cU z):=by
 rcases h with rfl | rfl | rfl | rfl
 ·exact .inr (.inl (by decide +kernel))
 ·exact .inl (by decide +kernel)
 ·exact .inr (.inr (.inl (by decide +kernel)))
 ·exact .inr (.inr (.inr (by decide +kernel)))
theorem vB{z:Str}(h:bq z):cU (cU z)=z:=by
 rcases h with rfl | rfl | rfl | rfl<;>decide +kernel
theorem Way.turn_turn{m:Int}{w:Way}(h:w.Ok m):w.turn.turn=w:=by
 obtain⟨a,b,c,d⟩:=w
 show(⟨a,cU (cU b),c,d⟩:Way)=_
 rw[vB h.dd]
theorem Way.Ok.turn{m:Int}{w:Way}(h:w.Ok m):w.turn.Ok m:=⟨h.o0,h.o1,h.r0,h.r1,AW h.dd,h.sg⟩
theorem HOuse.turn{m:Int}{ws:List Way}(h:HOuse m ws):HOuse m (ws.map Way.turn) where
 m1:=h.m1
 m12:=h.m12
 few:=by rw[List.length_map];exact h.few
 ok:=fun w hw=>by
  obtain⟨u,hu,rfl⟩:=List.mem_map.mp hw
  exact(h.ok u hu).turn
 nd:=by
  have nd:=h.nd
  unfold List.Nodup at nd ⊢
  rw[List.pairwise_map]
  refine nd.imp_of_mem fun{a b} ha hb ne e=>ne ?_
  rw[←Way.turn_turn (h.ok a ha),←Way.turn_turn (h.ok b hb),e]
def uV(K:PySem.W.Frag):Sp:=fun vs H Q _=>∃p w,vs=[.ref p]/\H p=some (.tup (Way.vs w))/\bq w.deed/\∀v H',Ext H H'->H' v=some (.tup (Way.vs w.turn))->Q (.ref v) H'
abbrev kn:Stmt:=stq 22
theorem uG:FnScope ["way"] ["way"] (aC kn):=⟨rfl,rfl,rfl,by decide +kernel,rfl,by decide +kernel,by decide +kernel⟩
theorem yn{P:Program}{w:World}{K:PySem.W.Frag}{mg:Str->Option Value}{base:Heap}(D:Dfn K mg "turned_way" kn ["way"])(T:Blt mg)(g_TURNED:∃a,mg "TURNED" = some (.ref a)/\GDict w K a j3):Cal P w K mg base "turned_way" 1 ["way"] (uV K):=by
 have nd:=(uG).nd
 refine D.ok uG (fun vs H Q E h=>?_) (fun X hX H vs Q E h=>?_)
 ·obtain⟨p,w,rfl,_⟩:=h;rfl
 ·obtain⟨f,cdv,A,outer,s,H0,E0,rfl,hr⟩:=hX
  obtain⟨a_TURNED,m_TURNED,d_TURNED⟩:=g_TURNED
  obtain⟨p,w,rfl,hp,od,q⟩:=h
  refine⟨_,(aj (aA (aQ (aa (ai (ax K) (pv 0) ae (fun _ _=>rfl)) (aa (si rfl m_TURNED d_TURNED (ai (ax K) (pv 0) ae (fun _ _=>rfl)) (fun _ _=>rfl)) (aa (ai (ax K) (pv 0) ae (fun _ _=>rfl)) (aa (ai (ax K) (pv 0) ae (fun _ _=>rfl)) ab))))))),?_⟩
  walk_at "rd"
  refine aw (ag.of hp) (v:=.int w.other) rfl ?_
  walk_at "rd"
  refine aw (ag.of hp) (v:=.str w.deed) rfl ?_
  walk_at "rd"
  refine oJ (oB od) ?_
  walk_at "rd"
  refine aw (ag.of hp) (v:=.int w.room) rfl ?_
  walk_at "rd"
  refine aw (ag.of hp) (v:=.str w.sign) rfl ?_
  walk_at "rd"
  exact⟨av (by simp),ao fun v H' e hv _=>q v H' e hv⟩
def uJ(K:PySem.W.Frag):Sp:=fun vs H Q _=>∃v m ws,vs=[v]/\aM H v m ws/\HOuse m ws/\∀u H',Ext H H'->aM H' u m (List.map Way.turn ws)->Q u H'
abbrev jM:Stmt:=stq 23
theorem nN:FnScope ["house"] ["house"] (aC jM):=⟨rfl,rfl,rfl,by decide +kernel,rfl,by decide +kernel,by decide +kernel⟩
theorem ye{P:Program}{w:World}{K:PySem.W.Frag}{mg:Str->Option Value}{base:Heap}(D:Dfn K mg "turned_about" jM ["house"])(T:Blt mg)(C_turned_way:Cal P w K mg base "turned_way" 1 ["way"] (uV K))(C_refuse_no_house:Cal P w K mg base "refuse_no_house" 6 ["thing"] (gm K)):Cal P w K mg base "turned_about" 7 ["house"] (uJ K):=by
 have nd:=(nN).nd
 refine D.ok nN (fun vs H Q E h=>?_) (fun X hX H vs Q E h=>?_)
 ·obtain⟨v,m,ws,rfl,_⟩:=h;rfl
 ·obtain⟨f,cdv,A,outer,s,H0,E0,rfl,hr⟩:=hX
  obtain⟨v,m,ws,rfl,h1,ok,q⟩:=h
  have hfew:=ok.few
  refine⟨_,(ah (aV (au C_refuse_no_house hr (aa (pv 0) ab)))
    (aj (aA (aQ (aa (ai (ax K) (pv 0) ae (fun _ _=>rfl)) (aa (dN (fF K) rfl T.tuple_ PyProof.Rows.boot_tuple (aa (cE ["way"] [] (dY K (ai (ax K) (pv 0) ae (fun _ _=>rfl))) (fun _=>(aB (i:=0) (show(["way"]:List Str).Nodup from by decide +kernel) rfl (Or.inl rfl) (Or.inr rfl))) (fun _=>cN) (fun _=>(au C_turned_way hr (aa (pv 0) ab)))) ab)) ab)))))),?_⟩
  walk_at "rd"
  refine⟨v,m,ws,rfl,h1,ok,fun H1 e1=>?_⟩
  obtain⟨p,r,rfl,g1,g2⟩:=h1.ext e1
  obtain⟨bs,g3,al⟩:=bB.al g2
  walk_at "rd"
  refine aw (ag.of g1) (v:=.int m) rfl ?_
  walk_at "rd"
  refine aw (ag.of g1) (v:=.ref r) rfl ?_
  refine dQ (ag.of g3) ?_
  refine eS (xs:=bs.map V.ref) (fun i ys H'=>Ext H1 H'/\∃cs,ys=cs.map V.ref/\aE H' cs ((ws.take i).map Way.turn)) (bG (by rw[List.length_map,al.1];omega)) ⟨Ext.rfl' _,[],rfl,aE.nil _⟩ (fun i ys H' hi h=>⟨ag.of (h.1 _ _ g3),?_⟩) ?_ ?_
  ·obtain⟨_,cs,rfl,hc,_⟩:=h
   rw[List.length_map,hc,List.length_map,List.length_take]
   exact Nat.min_le_left _ _
  ·rintro i x ys H' hx ⟨e2,cs,rfl,al2⟩
   rw[List.getElem?_map]at hx
   obtain⟨b,hb,rfl⟩:=Option.map_eq_some_iff.mp hx
   have hi:i<ws.length:=by
    rw[←al.1]
    exact(List.getElem?_eq_some_iff.mp hb).1
   have hwi:ws[i]?=some ws[i]:=List.getElem?_eq_getElem hi
   walk_at "rd"
   refine aD ?_
   walk_at "rd"
   refine⟨b,ws[i],rfl,e2 _ _ (al.2 i b _ hb hwi),(ok.ok _ (List.getElem_mem hi)).dd,fun v H3 e3 hv=>?_⟩
   refine⟨e2.trans e3,cs++[v],by rw[List.map_append];rfl,?_⟩
   rw[List.take_add_one,hwi,List.map_append]
   exact(al2.ext e3).snoc hv
  ·rintro ys H' l ⟨e2,cs,rfl,al2⟩ hl
   rw[List.length_map,al.1,List.take_length]at al2
   walk_at "rd"
   have e3:Ext H1 (upd H' l (.lst (cs.map V.ref))):=e2.trans (aX hl)
   have al3:=al2.ext (aX (o:=.lst (cs.map V.ref)) hl)
   have hl3:upd H' l (.lst (cs.map V.ref)) l=some (.lst (cs.map V.ref)):=aI
   generalize upd H' l (.lst (cs.map V.ref))=H4 at e3 al3 hl3 ⊢
   refine fL (af.of hl3) (ao fun t H5 e5 ht _=>?_)
   walk_at "rd"
   refine⟨av (by simp),ao fun u H6 e6 hu _=>?_⟩
   exact q _ H6 (e1.trans (e3.trans (e5.trans e6))) (aM.mk hu (((al3.ext e5).ways ht).ext e6))
theorem ib{a b:Str}:decide (V.str a=V.str b)=decide (a=b):=by
 by_cases h:a=b
 ·subst h;simp
 ·rw[decide_eq_false h,decide_eq_false (fun z=>h (V.str.inj z))]
theorem bz{a b:Str}{H:Hp}{Q:VK}(h:Q (.bl (decide (a=b))) H):ni (.str a) (.str b) H Q:=⟨rfl,by rw[ib];exact h⟩
theorem w6{a b:Str}{H:Hp}{Q:VK}(h:Q (.bl (!decide (a=b))) H):iT (.str a) (.str b) H Q:=⟨rfl,by rw[ib];exact h⟩
theorem fJ{α β:Type}{F:α->β->Prop}{cs:List α}{ts:List β}(h:Paired F cs ts):∀{i:Nat} {c:α},cs[i]?=some c->∃t,ts[i]?=some t/\F c t:=by
 induction h with
 | nil=>intro i c e;simp at e
 | cons h t ih=>
  intro i c e
  cases i with
  | zero=>cases e;exact⟨_,rfl,h⟩
  | succ i=>exact ih e
theorem jA{α β:Type}{F:α->β->Prop}{cs:List α}{ts:List β}(h:Paired F cs ts):∀{i:Nat} {t:β},ts[i]?=some t->∃c,cs[i]?=some c/\F c t:=by
 induction h with
 | nil=>intro i c e;simp at e
 | cons h t ih=>
  intro i c e
  cases i with
  | zero=>cases e;exact⟨_,rfl,h⟩
  | succ i=>exact ih e
abbrev aY(H:Hp)(a:Addr)(x:Bfs.Pl):Prop:=H a=some (.tup [.int x.1,.int x.2])
abbrev aS(x:Bfs.Pl):List Key:=[.inl x.1,.inl x.2]
theorem nM{x y:Bfs.Pl}(h:aS x=aS y):x=y:=by
 simp only[aS,List.cons.injEq,Sum.inl.injEq,and_true]at h
 exact Prod.ext h.1 h.2
theorem aY.put{H:Hp}{f a:Addr}{x:Bfs.Pl}{o o':HO}(hf:H f=some o)(hn:∀xs,o≠.tup xs)(h:aY H a x):aY (upd H f o') a x:=by
 show upd H f o' a=_
 rw[aG (cg h hf (fun z=>hn _ z.symm))]
 exact h
def fH(m:Int)(x:Bfs.Pl):Prop:=0<=x.1/\x.1<m/\0<=x.2/\x.2<=1000
def qd(K:PySem.W.Frag):Sp:=fun vs H Q _=>∃hp hq m l as xs,vs=[.ref hp,.ref l]/\H hp=some (.tup [.int m,hq])/\H l=some (.lst (List.map V.ref as))/\Paired (aY H) as xs/\(∀x∈xs,fH m x)/\Q .non H
abbrev jl:Stmt:=stq 21
theorem uQ:FnScope ["house","places","place"] ["house","places"] (aC jl):=⟨rfl,rfl,rfl,by decide +kernel,rfl,by decide +kernel,by decide +kernel⟩
theorem xJ{P:Program}{w:World}{K:PySem.W.Frag}{mg:Str->Option Value}{base:Heap}(D:Dfn K mg "refuse_bad_places" jl ["house","places"])(T:Blt mg)(g_GREATEST_NUMBER:∃t,mg "GREATEST_NUMBER" = some (.int 1000 t))(C_is_room:Cal P w K mg base "is_room" 2 ["thing","many"] (i4 K)):Cal P w K mg base "refuse_bad_places" 3 ["house","places"] (qd K):=by
 have nd:=(uQ).nd
 refine D.ok uQ (fun vs H Q E h=>?_) (fun X hX H vs Q E h=>?_)
 ·obtain⟨hp,hq,m,l,as,xs,rfl,_⟩:=h;rfl
 ·obtain⟨f,cdv,A,outer,s,H0,E0,rfl,hr⟩:=hX
  obtain⟨t_GREATEST_NUMBER,c_GREATEST_NUMBER⟩:=g_GREATEST_NUMBER
  obtain⟨hp,hq,m,l,as,xs,rfl,h1,h2,h3,hin,q⟩:=h
  refine⟨_,(ah (bC PassesOwn.never rfl (cx K (pv 1)) (aB (i:=2) nd rfl (Or.inl rfl)) (aj (bt (PW.pt (df (dv (cH (au C_is_room hr (aa (ai (ax K) (pv 2) ae (fun _ _=>rfl)) (aa (ai (ax K) (pv 0) ae (fun _ _=>rfl)) ab))))) (eA (aL fc (ai (ax K) (pv 2) ae (fun _ _=>rfl)) ae (aF _))))) (aj fh) aO)))
    (aj (bC PassesOwn.never rfl (cx K (pv 1)) (aB (i:=2) nd rfl (Or.inl rfl)) (aj (bt (aL eB (ai (ax K) (pv 2) ae (fun _ _=>rfl)) (fx (v:=.int 1000) rfl c_GREATEST_NUMBER ⟨_,rfl⟩) (aF _)) (aj fh) aO))))),?_⟩
  walk_at "rd"
  refine cC (af.of h2) ?_
  refine forL (xs:=List.map V.ref as) (fun i σ H'=>H'=H/\∃k,σ=[some (.ref hp),some (.ref l),k]) ⟨rfl,none,rfl⟩ (fun i σ H' _ h=>by rw[h.1];exact af.of h2) ?_ ?_
  ·rintro i x σ H' hx ⟨rfl,k,rfl⟩
   rw[List.getElem?_map]at hx
   obtain⟨b,hb,rfl⟩:=Option.map_eq_some_iff.mp hx
   obtain⟨t,ht,hp3⟩:=fJ h3 hb
   obtain⟨r0,r1,n0,n1⟩:=hin t (List.mem_of_getElem? ht)
   walk_at "rd"
   refine aw (ag.of hp3) (v:=.int t.1) rfl ?_
   walk_at "rd"
   refine aw (ag.of h1) (v:=.int m) rfl ?_
   walk_at "rd"
   refine⟨_,_,rfl,r0,r1,?_⟩
   walk_at "rd"
   refine ay ?_
   walk_at "rd"
   refine aw (ag.of hp3) (v:=.int t.2) rfl ?_
   walk_at "rd"
   rw[decide_eq_false (show ¬t.2<0 by omega)]
   refine ay ?_
   walk_at "rd"
   exact⟨rfl,_,rfl⟩
  ·rintro σ H' ⟨rfl,k,rfl⟩
   walk_at "rd"
   refine cC (af.of h2) ?_
   refine forL (xs:=List.map V.ref as) (fun i σ H2=>H2=H'/\∃k,σ=[some (.ref hp),some (.ref l),k]) ⟨rfl,_,rfl⟩ (fun i σ H2 _ h=>by rw[h.1];exact af.of h2) ?_ ?_
   ·rintro i x σ H2 hx ⟨rfl,k,rfl⟩
    rw[List.getElem?_map]at hx
    obtain⟨b,hb,rfl⟩:=Option.map_eq_some_iff.mp hx
    obtain⟨t,ht,hp3⟩:=fJ h3 hb
    obtain⟨r0,r1,n0,n1⟩:=hin t (List.mem_of_getElem? ht)
    walk_at "rd"
    refine aw (ag.of hp3) (v:=.int t.2) rfl ?_
    walk_at "rd"
    rw[decide_eq_false (show ¬(1000:Int)<t.2 by omega)]
    refine ay ?_
    walk_at "rd"
    exact⟨rfl,_,rfl⟩
   ·rintro σ H2 ⟨rfl,k,rfl⟩
    walk_at "rd"
    exact q
def fU(w:Way)(r n:Int):Bool:=decide (w.room=r) && (if decide (w.deed = "down")=true then decide (0<n)else(!decide (w.deed = "zero") || decide (n=0)))
def tM(K:PySem.W.Frag):Sp:=fun vs H Q _=>∃b w p x,vs=[.ref b,.ref p]/\H b=some (.tup (Way.vs w))/\aY H p x/\Q (.bl (fU w x.1 x.2)) H
abbrev jN:Stmt:=stq 24
theorem qT:FnScope ["way","place"] ["way","place"] (aC jN):=⟨rfl,rfl,rfl,by decide +kernel,rfl,by decide +kernel,by decide +kernel⟩
theorem yJ{P:Program}{w:World}{K:PySem.W.Frag}{mg:Str->Option Value}{base:Heap}(D:Dfn K mg "is_open" jN ["way","place"])(T:Blt mg):Cal P w K mg base "is_open" 1 ["way","place"] (tM K):=by
 have nd:=(qT).nd
 refine D.ok qT (fun vs H Q E h=>?_) (fun X hX H vs Q E h=>?_)
 ·obtain⟨b,w,p,x,rfl,_⟩:=h;rfl
 ·obtain⟨f,cdv,A,outer,s,H0,E0,rfl,hr⟩:=hX
  obtain⟨b,w,p,⟨r,n⟩,rfl,h1,h2,q⟩:=h
  refine⟨_,(ah (bt (aL fV (ai (ax K) (pv 0) ae (fun _ _=>rfl)) (ai (ax K) (pv 1) ae (fun _ _=>rfl)) (aF _)) (aj (aA dC)) aO)
    (ah (bt (aL bE (ai (ax K) (pv 0) ae (fun _ _=>rfl)) aH (aF _)) (aj (aA (fb eB (ai (ax K) (pv 1) ae (fun _ _=>rfl)) ae (aF _)))) aO)
    (aj (aA (xr (fb fV (ai (ax K) (pv 0) ae (fun _ _=>rfl)) aH (aF _)) (eu (fb bE (ai (ax K) (pv 1) ae (fun _ _=>rfl)) ae (aF _)))))))),?_⟩
  walk_at "rd"
  refine aw (ag.of h1) (v:=.int w.room) rfl ?_
  walk_at "rd"
  refine aw (ag.of h2) (v:=.int r) rfl ?_
  walk_at "rd"
  unfold fU at q
  dsimp only at q
  by_cases e:w.room=r
  ·rw[decide_eq_true e]
   refine ay ?_
   walk_at "rd"
   rw[decide_eq_true e,Bool.true_and]at q
   refine aw (ag.of h1) (v:=.str w.deed) rfl ?_
   walk_at "rd"
   refine bz ?_
   refine rd_exb ?_
   cases ed:decide (w.deed = "down")with
   | true=>
    rw[ed]at q
    refine aD ?_
    walk_at "rd"
    refine aw (ag.of h2) (v:=.int n) rfl ?_
    walk_at "rd"
    exact q
   | false=>
    rw[ed]at q
    refine ay ?_
    walk_at "rd"
    refine aw (ag.of h1) (v:=.str w.deed) rfl ?_
    walk_at "rd"
    refine w6 ?_
    refine rd_exb ?_
    cases ez:decide (w.deed = "zero")with
    | true=>
     rw[ez]at q
     refine ay ?_
     walk_at "rd"
     refine aw (ag.of h2) (v:=.int n) rfl ?_
     walk_at "rd"
     exact q
    | false=>
     rw[ez]at q
     exact aD q
  ·rw[decide_eq_false e]
   refine aD ?_
   walk_at "rd"
   rw[decide_eq_false e,Bool.false_and]at q
   exact q
def lh:List (Key×V):=[(.inr "up",.int 1),(.inr "down",.int (-1)),(.inr "stay",.int 0),(.inr "zero",.int 0)]
theorem BF{w:World}{K:PySem.W.Frag}{a:Addr}{t1 t2 t3 t4 t5 t6 t7 t8:Tok}{ep:Nat}(h:K.lookup a=some (gC w [("up",t1,.int 1 t2),("down",t3,.int (-1) t4),("stay",t5,.int 0 t6),("zero",t7,.int 0 t8)] ep))(hs:(a == sysModules)=false):GDict w K a lh:=
 ⟨⟨_,_,h,.cons ⟨rfl,⟨_,rfl⟩⟩ (.cons ⟨rfl,⟨_,rfl⟩⟩ (.cons ⟨rfl,⟨_,rfl⟩⟩ (.cons ⟨rfl,⟨_,rfl⟩⟩ .nil)))⟩,by decide +kernel,hs⟩
def rz(z:Str):Int:=if z = "up" then 1 else if z = "down" then -1 else 0
theorem Bl{z:Str}(h:bq z):bF lh (.inr z)=some (.int (rz z)):=by
 rcases h with rfl | rfl | rfl | rfl<;>decide +kernel
def pe(K:PySem.W.Frag):Sp:=fun vs H Q _=>∃b w,vs=[.ref b]/\H b=some (.tup (Way.vs w))/\bq w.deed/\Q (.int (rz w.deed)) H
abbrev jq:Stmt:=stq 25
theorem r9:FnScope ["way"] ["way"] (aC jq):=⟨rfl,rfl,rfl,by decide +kernel,rfl,by decide +kernel,by decide +kernel⟩
theorem vP{P:Program}{w:World}{K:PySem.W.Frag}{mg:Str->Option Value}{base:Heap}(D:Dfn K mg "raised_by" jq ["way"])(T:Blt mg)(g_RAISED:∃a,mg "RAISED" = some (.ref a)/\GDict w K a lh):Cal P w K mg base "raised_by" 1 ["way"] (pe K):=by
 have nd:=(r9).nd
 refine D.ok r9 (fun vs H Q E h=>?_) (fun X hX H vs Q E h=>?_)
 ·obtain⟨b,w,rfl,_⟩:=h;rfl
 ·obtain⟨f,cdv,A,outer,s,H0,E0,rfl,hr⟩:=hX
  obtain⟨a_RAISED,m_RAISED,d_RAISED⟩:=g_RAISED
  obtain⟨b,w,rfl,h1,hd,q⟩:=h
  refine⟨_,(aj (aA (si rfl m_RAISED d_RAISED (ai (ax K) (pv 0) ae (fun _ _=>rfl)) (fun _ _=>rfl)))),?_⟩
  walk_at "rd"
  refine aw (ag.of h1) (v:=.str w.deed) rfl ?_
  exact oJ (Bl hd) q
theorem A8(z:Str):-1<=rz z:=by
 unfold rz
 split
 ·decide
 ·split<;>decide
theorem yK(z:Str):rz z<=1:=by
 unfold rz
 split
 ·decide
 ·split<;>decide
def u3(K:PySem.W.Frag):Sp:=fun vs H Q _=>∃b w p x,vs=[.ref b,.ref p]/\H b=some (.tup (Way.vs w))/\bq w.deed/\aY H p x/\∀t H',Ext H H'->aY H' t (w.other,x.2+rz w.deed)->H t=none->Q (.ref t) H'
abbrev i9:Stmt:=stq 26
theorem oG:FnScope ["way","place"] ["way","place"] (aC i9):=⟨rfl,rfl,rfl,by decide +kernel,rfl,by decide +kernel,by decide +kernel⟩
theorem Ct{P:Program}{w:World}{K:PySem.W.Frag}{mg:Str->Option Value}{base:Heap}(D:Dfn K mg "led_to" i9 ["way","place"])(T:Blt mg)(C_raised_by:Cal P w K mg base "raised_by" 1 ["way"] (pe K)):Cal P w K mg base "led_to" 2 ["way","place"] (u3 K):=by
 have nd:=(oG).nd
 refine D.ok oG (fun vs H Q E h=>?_) (fun X hX H vs Q E h=>?_)
 ·obtain⟨b,w,p,x,rfl,_⟩:=h;rfl
 ·obtain⟨f,cdv,A,outer,s,H0,E0,rfl,hr⟩:=hX
  obtain⟨b,w,p,⟨r,n⟩,rfl,h1,hd,h2,q⟩:=h
  refine⟨_,(aj (aA (aQ (aa (ai (ax K) (pv 0) ae (fun _ _=>rfl)) (aa (ak aN (ai (ax K) (pv 1) ae (fun _ _=>rfl)) (au C_raised_by hr (aa (pv 0) ab))) ab))))),?_⟩
  walk_at "rd"
  refine aw (ag.of h1) (v:=.int w.other) rfl ?_
  walk_at "rd"
  refine aw (ag.of h2) (v:=.int n) rfl ?_
  walk_at "rd"
  refine⟨b,w,rfl,h1,hd,?_⟩
  walk_at "rd"
  refine⟨av (by simp),ao fun t H1 e1 ht htn=>?_⟩
  exact q t H1 e1 ht htn
theorem rf{K:PySem.W.Frag}{a:Addr}{xs:List V}{g:TG}{tb:TS}{D:Ends}{σ:St}{H:Hp}(Pv:Nat->St->Hp->Prop)(h0:Pv 0 σ H)(hl:∀i σ H,i<=xs.length->Pv i σ H->ag K H a xs)
  (hs:∀i u σ H p H',xs[i]?=some u->Pv i σ H->Ext H H'->H' p=some (.tup [.int i,u])->H p=none->g (.ref p) σ H' fun σ2 H2=>tb { D with nx:=Pv (i+1),ct:=Pv (i+1),bk:=D.nx } σ2 H2) (hd:∀σ H,Pv xs.length σ H->D.nx σ H) :
  fg (fG K a) g tb D σ H:=BE Pv h0 hl hs hd
def bu(z:Str)(n:Int):Option Int:=
 if decide (z = "up")=true then some (n+1)else if decide (z = "down")=true then(if decide (0<n)=true then some (n-1)else none)else if decide (z = "stay")=true then some n else if decide (z = "zero")=true then(if decide (n=0)=true then some n else none)else none
def di(w:Way)(r n:Int)(j:Nat):List (Int×Int×Int):=if decide (w.room=r)=true then((bu w.deed n).map fun n'=>((j:Int),w.other,n')).toList else[]
def cS(ws:List Way)(r n:Int):Nat->List (Int×Int×Int)
 | 0=>[]
 | k+1=>cS ws r n k++((ws[k]?).map fun w=>di w r n k).getD []
theorem yb{ws:List Way}{r n:Int}{i:Nat}{w:Way}(h:ws[i]?=some w):cS ws r n (i+1)=cS ws r n i++di w r n i:=by
 show _++((ws[i]?).map fun w=>di w r n i).getD []=_
 rw[h]
 rfl
theorem xI(w:Way)(r n:Int)(j:Nat):(di w r n j).length<=1:=by
 unfold di
 split
 ·cases bu w.deed n<;>simp
 ·simp
theorem sL(ws:List Way)(r n:Int):∀k,(cS ws r n k).length<=k
 | 0=>Nat.le_refl _
 | k+1=>by
  have:=sL ws r n k
  show(cS ws r n k++((ws[k]?).map fun w=>di w r n k).getD []).length<=k+1
  rw[List.length_append]
  cases h:ws[k]? with
  | none=>simp;omega
  | some w=>
   have:=xI w r n k
   simp;omega
theorem sW{w:Way}{r n:Int}{j:Nat}(h:w.room≠r):di w r n j=[]:=by
 unfold di
 rw[decide_eq_false h]
 rfl
theorem eP{w:Way}{r n:Int}{j:Nat}{o:Option Int}(h:w.room=r)(hs:bu w.deed n=o):di w r n j=(o.map fun n'=>((j:Int),w.other,n')).toList:=by
 unfold di
 rw[decide_eq_true h,hs]
 rfl
def cq(H:Hp)(c:Addr)(t:Int×Int×Int):Prop:=∃d,H c=some (.tup [.int t.1,.ref d])/\H d=some (.tup [.int t.2.1,.int t.2.2])
theorem vE{H H':Hp}(f:∀c t,cq H c t->cq H' c t){cs:List Addr}{ts:List (Int×Int×Int)}(h:Paired (cq H) cs ts):Paired (cq H') cs ts:=by
 induction h with
 | nil=>exact .nil
 | cons h t ih=>exact .cons (f _ _ h) ih
theorem xg{H:Hp}{cs:List Addr}{ts:List (Int×Int×Int)}{c:Addr}{t:Int×Int×Int}(h:Paired (cq H) cs ts)(ht:cq H c t):Paired (cq H) (cs++[c]) (ts++[t]):=by
 induction h with
 | nil=>exact .cons ht .nil
 | cons h _ ih=>exact .cons h ih
theorem cq.ext{H H':Hp}(e:Ext H H'){c:Addr}{t:Int×Int×Int}(h:cq H c t):cq H' c t:=by
 obtain⟨d,h1,h2⟩:=h
 exact⟨d,e _ _ h1,e _ _ h2⟩
theorem cq.put{H:Hp}{f:Addr}{xs ys:List V}(hf:H f=some (.lst xs)){c:Addr}{t:Int×Int×Int}(h:cq H c t):cq (upd H f (.lst ys)) c t:=by
 obtain⟨d,h1,h2⟩:=h
 exact⟨d,by rw[aG (cg h1 hf (by intro z;cases z))];exact h1,by rw[aG (cg h2 hf (by intro z;cases z))];exact h2⟩
structure BL(H0 H:Hp)(f:Addr)(ts:List (Int×Int×Int)):Prop where
 ext:Ext H0 H
 at_:∃cs:List Addr,H f=some (.lst (cs.map V.ref))/\Paired (cq H) cs ts
theorem BL.push{H0 H H1:Hp}{f c d:Addr}{ts:List (Int×Int×Int)}{j o n:Int}(h:BL H0 H f ts)(hfn:H0 f=none)(e:Ext H H1)(hd:H1 d=some (.tup [.int o,.int n]))(hc:H1 c=some (.tup [.int j,.ref d])):
  ∃xs,H1 f=some (.lst xs)/\xs.length=ts.length/\BL H0 (upd H1 f (.lst (xs++[.ref c]))) f (ts++[(j,o,n)]):=by
 obtain⟨e0,cs,hf,al⟩:=h
 have hf1:=e _ _ hf
 have hp:cq H1 c (j,o,n):=⟨d,hc,hd⟩
 refine⟨cs.map V.ref,hf1,by rw[List.length_map];exact Paired.length al,bJ (e0.trans e) hfn,cs++[c],by rw[aI,List.map_append];rfl,xg (vE (fun _ _ z=>(z.ext e).put hf1) al) (hp.put hf1)⟩
theorem BL.ty{K:PySem.W.Frag}{H0 H H1:Hp}{f:Addr}{ts:List (Int×Int×Int)}(h:BL H0 H f ts)(e:Ext H H1):gJ K "list" (.ref f) H1:=by
 obtain⟨_,cs,hf,al⟩:=h
 exact cy (af.of (e _ _ hf))
theorem BL.step{H0 H H1:Hp}{f:Addr}{ts:List (Int×Int×Int)}(h:BL H0 H f ts)(e:Ext H H1):BL H0 H1 f ts:=by
 obtain⟨e0,cs,hf,al⟩:=h
 exact⟨e0.trans e,cs,e _ _ hf,vE (fun _ _ z=>z.ext e) al⟩
theorem rh:decide ((Str.ofString "up")=Str.ofString "down")=false:=by decide +kernel
theorem Aa:decide ((Str.ofString "up")=Str.ofString "stay")=false:=by decide +kernel
theorem oY:decide ((Str.ofString "up")=Str.ofString "zero")=false:=by decide +kernel
theorem jH:decide ((Str.ofString "down")=Str.ofString "up")=false:=by decide +kernel
theorem nV:decide ((Str.ofString "down")=Str.ofString "stay")=false:=by decide +kernel
theorem qS:decide ((Str.ofString "down")=Str.ofString "zero")=false:=by decide +kernel
theorem kb:decide ((Str.ofString "stay")=Str.ofString "up")=false:=by decide +kernel
theorem gZ:decide ((Str.ofString "stay")=Str.ofString "down")=false:=by decide +kernel
theorem jx:decide ((Str.ofString "zero")=Str.ofString "up")=false:=by decide +kernel
theorem hZ:decide ((Str.ofString "zero")=Str.ofString "down")=false:=by decide +kernel
theorem pB:decide ((Str.ofString "zero")=Str.ofString "stay")=false:=by decide +kernel
theorem cA(z:Str):decide (z=z)=true:=decide_eq_true rfl
theorem eo(n:Int):bu "up" n=some (n+1):=by unfold bu;rw[cA];rfl
theorem dO(n:Int):bu "down" n=if decide (0<n)=true then some (n-1)else none:=by unfold bu;rw[jH,cA];rfl
theorem de(n:Int):bu "stay" n=some n:=by unfold bu;rw[kb,gZ,cA];rfl
theorem dM(n:Int):bu "zero" n=if decide (n=0)=true then some n else none:=by unfold bu;rw[jx,hZ,pB,cA];rfl
def qO(K:PySem.W.Frag):Sp:=fun vs H Q _=>∃v m ws p r n,vs=[v,.ref p]/\aM H v m ws/\HOuse m ws/\H p=some (.tup [.int r,.int n]) ∧
 ∀l H' cs,Ext H H'->H l=none->H' l=some (.lst (List.map V.ref cs))->Paired (cq H') cs (cS ws r n ws.length)->Q (.ref l) H'
abbrev iZ:Stmt:=stq 65
theorem uM:FnScope ["_law_house_here","_law_place","_law_found","_law_k","_law_room","_law_deed","_law_other","_law_sign"] ["_law_house_here","_law_place"] (aC iZ):=⟨rfl,rfl,rfl,by decide +kernel,rfl,by decide +kernel,by decide +kernel⟩
theorem AM{P:Program}{w:World}{K:PySem.W.Frag}{mg:Str->Option Value}{base:Heap}(D:Dfn K mg "_law_behind" iZ ["_law_house_here","_law_place"])(T:Blt mg):Cal P w K mg base "_law_behind" 1 ["_law_house_here","_law_place"] (qO K):=by
 have nd:=(uM).nd
 refine D.ok uM (fun vs H Q E h=>?_) (fun X hX H vs Q E h=>?_)
 ·obtain⟨v,m,ws,p,r,n,rfl,_⟩:=h;rfl
 ·obtain⟨f,cdv,A,outer,s,H0,E0,rfl,hr⟩:=hX
  obtain⟨v,m,ws,p,r,n,rfl,⟨hh,t,rfl,g1,g2⟩,ok,hp,q⟩:=h
  obtain⟨bs,g3,al⟩:=bB.al g2
  have hfew:=ok.few
  refine⟨_,(ah (az (i:=2) nd rfl (Or.inl rfl) (aR ab))
    (ah (bC PassesOwn.never rfl (pw K rfl T.enumerate_ (aa (ai (ax K) (pv 0) ae (fun _ _=>rfl)) ab)) (dZ (n:=2) K rfl (bo (aB (i:=3) nd rfl (Or.inl rfl)) (bo (dZ (n:=4) K rfl (bo (aB (i:=4) nd rfl (Or.inl rfl)) (bo (aB (i:=5) nd rfl (Or.inl rfl)) (bo (aB (i:=6) nd rfl (Or.inl rfl)) (bo (aB (i:=7) nd rfl (Or.inl rfl)) dw))))) dw))) (aj (cw (aL bE (pv 4) (ai (ax K) (pv 1) ae (fun _ _=>rfl)) (aF _)) (ah (cw (aL bE (pv 5) aH (aF _)) (aj (aV (bx K PySem.F.plainAttrs_list PySem.F.slot_list_append PySem.F.type_list_append bI (pv 2) (aa (aQ (aa (pv 3) (aa (aQ (aa (pv 6) (aa (ak aN (ai (ax K) (pv 1) ae (fun _ _=>rfl)) ae) ab))) ab))) ab)))) aO)
    (ah (cw (PW.pt (ij (aL bE (pv 5) aH (aF _)) (iN (aL eB (ai (ax K) (pv 1) ae (fun _ _=>rfl)) ae (aF _))))) (aj (aV (bx K PySem.F.plainAttrs_list PySem.F.slot_list_append PySem.F.type_list_append bI (pv 2) (aa (aQ (aa (pv 3) (aa (aQ (aa (pv 6) (aa (ak cR (ai (ax K) (pv 1) ae (fun _ _=>rfl)) ae) ab))) ab))) ab)))) aO)
    (aj (cw (PW.pt (df (aL bE (pv 5) aH (aF _)) (eA (PW.pt (ij (aL bE (pv 5) aH (aF _)) (iN (aL bE (ai (ax K) (pv 1) ae (fun _ _=>rfl)) ae (aF _)))))))) (aj (aV (bx K PySem.F.plainAttrs_list PySem.F.slot_list_append PySem.F.type_list_append bI (pv 2) (aa (aQ (aa (pv 3) (aa (aQ (aa (pv 6) (aa (ai (ax K) (pv 1) ae (fun _ _=>rfl)) ab))) ab))) ab)))) aO)))) aO)))
    (aj (aA (pv 2))))),?_⟩
  walk_at "rd"
  refine⟨av (by simp),ao fun f H1 e1 hf hfn=>?_⟩
  walk_at "rd"
  refine aw (ag.of (e1 _ _ g1)) (v:=.ref t) rfl ?_
  walk_at "rd"
  refine pS (ag.of (e1 _ _ g3)) ?_
  refine rf (xs:=bs.map V.ref) (fun i σ H'=>∃k1 k2 k3 k4 k5,σ=[some (.ref hh),some (.ref p),some (.ref f),k1,k2,k3,k4,k5]/\BL H H' f (cS ws r n i)) ⟨none,none,none,none,none,rfl,e1,[],hf,.nil⟩ (fun i σ H' _ h=>by obtain⟨_,_,_,_,_,_,bl⟩:=h;exact ag.of (bl.ext _ _ g3)) ?_ ?_
  ·rintro i u σ H2 pp H3 hu ⟨k1,k2,k3,k4,k5,rfl,bl0⟩ e3 hpp _
   rw[List.getElem?_map]at hu
   obtain⟨b,hb,rfl⟩:=Option.map_eq_some_iff.mp hu
   have hi:i<ws.length:=by
    rw[←al.1]
    exact(List.getElem?_eq_some_iff.mp hb).1
   have hwi:ws[i]?=some ws[i]:=List.getElem?_eq_getElem hi
   have bl:=bl0.step e3
   have hw:=bl.ext _ _ (al.2 i b _ hb hwi)
   have hp3:=bl.ext _ _ hp
   have okw:=(ok.ok _ (List.getElem_mem hi)).dd
   rw[yb hwi]
   have hlen:=sL ws r n i
   generalize cS ws r n i=ts at bl hlen
   clear bl0 hwi
   generalize ws[i]=w at hw okw ⊢
   obtain⟨room,deed,other,sign⟩:=w
   refine dX (ag.of hpp) rfl ?_
   walk_at "rd"
   refine dX (ag.of hw) rfl ?_
   walk_at "rd"
   refine bO ?_
   walk_at "rd"
   refine aw (ag.of hp3) (v:=.int r) rfl ?_
   walk_at "rd"
   by_cases er:room=r
   rotate_left
   ·rw[decide_eq_false er]
    refine ay ?_
    walk_at "rd"
    refine⟨_,_,_,_,_,rfl,?_⟩
    rw[sW er,List.append_nil]
    exact bl
   ·rw[decide_eq_true er]
    refine aD ?_
    rcases okw with e | e | e | e<;>(simp only at e;subst e)
    ·rw[eP er (eo n)]
     walk_at "rd"
     refine bO ?_
     walk_at "rd"
     refine bz ?_
     rw[cA]
     refine rd_exb (aD ?_)
     walk_at "rd"
     refine⟨bl.ty (Ext.rfl' _),?_⟩
     walk_at "rd"
     refine aw (ag.of hp3) (v:=.int n) rfl ?_
     walk_at "rd"
     refine⟨av (by simp),ao fun d H4 e4 hd _=>?_⟩
     walk_at "rd"
     refine⟨av (by simp),ao fun c H5 e5 hc _=>?_⟩
     walk_at "rd"
     obtain⟨xs,hx,hlx,bl'⟩:=bl.push hfn (e4.trans e5) (e5 _ _ hd) hc
     refine bH hx (cm (by omega)) ?_
     generalize upd H5 f _=H6 at bl' ⊢
     walk_at "rd"
     refine bO ?_
     walk_at "rd"
     refine bz ?_
     rw[rh]
     refine rd_exb (ay ?_)
     refine ay ?_
     walk_at "rd"
     refine bO ?_
     walk_at "rd"
     refine bz ?_
     rw[Aa]
     refine rd_exb (ay ?_)
     walk_at "rd"
     refine bz ?_
     rw[oY]
     refine rd_exb (ay ?_)
     refine ay ?_
     walk_at "rd"
     exact⟨_,_,_,_,_,rfl,bl'⟩
    ·-- down
     walk_at "rd"
     refine bO ?_
     walk_at "rd"
     refine bz ?_
     rw[jH]
     refine rd_exb (ay ?_)
     walk_at "rd"
     refine bO ?_
     walk_at "rd"
     refine bz ?_
     rw[cA]
     refine rd_exb (aD ?_)
     walk_at "rd"
     refine aw (ag.of hp3) (v:=.int n) rfl ?_
     walk_at "rd"
     by_cases hn:0<n
     ·rw[decide_eq_true hn]
      refine aD ?_
      walk_at "rd"
      refine⟨bl.ty (Ext.rfl' _),?_⟩
      walk_at "rd"
      refine aw (ag.of hp3) (v:=.int n) rfl ?_
      walk_at "rd"
      refine⟨av (by simp),ao fun d H4 e4 hd _=>?_⟩
      walk_at "rd"
      refine⟨av (by simp),ao fun c H5 e5 hc _=>?_⟩
      walk_at "rd"
      obtain⟨xs,hx,hlx,bl'⟩:=bl.push hfn (e4.trans e5) (e5 _ _ hd) hc
      refine bH hx (cm (by omega)) ?_
      generalize upd H5 f _=H6 at bl' ⊢
      walk_at "rd"
      refine bO ?_
      walk_at "rd"
      refine bz ?_
      rw[nV]
      refine rd_exb (ay ?_)
      walk_at "rd"
      refine bz ?_
      rw[qS]
      refine rd_exb (ay ?_)
      refine ay ?_
      walk_at "rd"
      refine⟨_,_,_,_,_,rfl,?_⟩
      rw[eP er (dO n),decide_eq_true hn]
      exact bl'
     ·rw[decide_eq_false hn]
      refine ay ?_
      walk_at "rd"
      refine bO ?_
      walk_at "rd"
      refine bz ?_
      rw[nV]
      refine rd_exb (ay ?_)
      walk_at "rd"
      refine bz ?_
      rw[qS]
      refine rd_exb (ay ?_)
      refine ay ?_
      walk_at "rd"
      refine⟨_,_,_,_,_,rfl,?_⟩
      rw[eP er (dO n),decide_eq_false hn]
      simpa using bl
    ·-- stay
     walk_at "rd"
     refine bO ?_
     walk_at "rd"
     refine bz ?_
     rw[kb]
     refine rd_exb (ay ?_)
     walk_at "rd"
     refine bO ?_
     walk_at "rd"
     refine bz ?_
     rw[gZ]
     refine rd_exb (ay ?_)
     refine ay ?_
     walk_at "rd"
     refine bO ?_
     walk_at "rd"
     refine bz ?_
     rw[cA]
     refine rd_exb (aD ?_)
     refine aD ?_
     walk_at "rd"
     refine⟨bl.ty (Ext.rfl' _),?_⟩
     walk_at "rd"
     refine aw (ag.of hp3) (v:=.int n) rfl ?_
     walk_at "rd"
     refine⟨av (by simp),ao fun d H4 e4 hd _=>?_⟩
     walk_at "rd"
     refine⟨av (by simp),ao fun c H5 e5 hc _=>?_⟩
     walk_at "rd"
     obtain⟨xs,hx,hlx,bl'⟩:=bl.push hfn (e4.trans e5) (e5 _ _ hd) hc
     refine bH hx (cm (by omega)) ?_
     generalize upd H5 f _=H6 at bl' ⊢
     walk_at "rd"
     refine⟨_,_,_,_,_,rfl,?_⟩
     rw[eP er (de n)]
     exact bl'
    ·-- zero
     walk_at "rd"
     refine bO ?_
     walk_at "rd"
     refine bz ?_
     rw[jx]
     refine rd_exb (ay ?_)
     walk_at "rd"
     refine bO ?_
     walk_at "rd"
     refine bz ?_
     rw[hZ]
     refine rd_exb (ay ?_)
     refine ay ?_
     walk_at "rd"
     refine bO ?_
     walk_at "rd"
     refine bz ?_
     rw[pB]
     refine rd_exb (ay ?_)
     walk_at "rd"
     refine bz ?_
     rw[cA]
     refine rd_exb (aD ?_)
     walk_at "rd"
     refine aw (ag.of hp3) (v:=.int n) rfl ?_
     walk_at "rd"
     by_cases hn:n=0
     ·rw[decide_eq_true hn]
      refine aD ?_
      walk_at "rd"
      refine⟨bl.ty (Ext.rfl' _),?_⟩
      walk_at "rd"
      refine aw (ag.of hp3) (v:=.int n) rfl ?_
      walk_at "rd"
      refine⟨av (by simp),ao fun d H4 e4 hd _=>?_⟩
      walk_at "rd"
      refine⟨av (by simp),ao fun c H5 e5 hc _=>?_⟩
      walk_at "rd"
      obtain⟨xs,hx,hlx,bl'⟩:=bl.push hfn (e4.trans e5) (e5 _ _ hd) hc
      refine bH hx (cm (by omega)) ?_
      generalize upd H5 f _=H6 at bl' ⊢
      walk_at "rd"
      refine⟨_,_,_,_,_,rfl,?_⟩
      rw[eP er (dM n),decide_eq_true hn]
      exact bl'
     ·rw[decide_eq_false hn]
      refine ay ?_
      walk_at "rd"
      refine⟨_,_,_,_,_,rfl,?_⟩
      rw[eP er (dM n),decide_eq_false hn]
      simpa using bl
  ·rintro σ H' ⟨k1,k2,k3,k4,k5,rfl,bl⟩
   rw[List.length_map,al.1]at bl
   obtain⟨ew,cs,hcs,hpd⟩:=bl
   walk_at "rd"
   exact q f H' cs ew hfn hcs hpd
theorem AK{α:Type}{l:List α}(hn:l.Nodup){i j:Nat}{a:α}(hi:l[i]?=some a)(hj:l[j]?=some a):i=j:=by
 obtain⟨h1,e1⟩:=List.getElem?_eq_some_iff.mp hi
 obtain⟨h2,e2⟩:=List.getElem?_eq_some_iff.mp hj
 rcases Nat.lt_trichotomy i j with z | z | z
 ·exact absurd (e1.trans e2.symm) (List.pairwise_iff_getElem.mp hn i j h1 h2 z)
 ·exact z
 ·exact absurd (e2.trans e1.symm) (List.pairwise_iff_getElem.mp hn j i h2 h1 z)
def cO(ws:List Way)(r:Int)(k:Nat):List Nat:=(List.range k).filter fun j=>(ws[j]?).any fun w=>decide (w.room=r)
theorem yS{ws:List Way}{r:Int}{i:Nat}{w:Way}(h:ws[i]?=some w):cO ws r (i+1)=cO ws r i++if w.room=r then[i]else[]:=by
 unfold cO
 rw[List.range_succ,List.filter_append]
 congr 1
 simp only[List.filter_cons,List.filter_nil,h,Option.any_some]
 by_cases e:w.room=r
 ·rw[decide_eq_true e,if_pos rfl,if_pos e]
 ·rw[decide_eq_false e,if_neg (by decide),if_neg e]
theorem zh(ws:List Way)(r:Int)(k:Nat):(cO ws r k).length<=k:=by
 unfold cO
 exact Nat.le_trans (List.length_filter_le _ _) (Nat.le_of_eq List.length_range)
theorem Cv{ws:List Way}{r:Int}{j:Nat}{w:Way}(h:ws[j]?=some w)(e:w.room=r):j∈cO ws r ws.length:=by
 unfold cO
 rw[List.mem_filter,List.mem_range,h]
 exact⟨(List.getElem?_eq_some_iff.mp h).1,by simp[e]⟩
theorem CC{ws:List Way}{r:Int}{j:Nat}(h:j∈cO ws r ws.length):∃w,ws[j]?=some w/\w.room=r:=by
 unfold cO at h
 rw[List.mem_filter,List.mem_range]at h
 have e:=List.getElem?_eq_getElem h.1
 rw[e]at h
 exact⟨_,e,by simpa using h.2⟩
theorem ie{n:Nat}(h:n<=24100):n<sizeLine:=Nat.lt_of_le_of_lt h (by decide)
abbrev bj(l:List Nat):List V:=l.map fun j:Nat=>V.int (j:Int)
theorem mX(l:List Nat)(k:Nat):bj (l++[k])=bj l++[.int (k:Int)]:=List.map_append
structure CT(H:Hp)(c:Addr)(m:Int)(ls:List Addr)(ws:List Way)(k:Nat):Prop where
 at_:H c=some (.lst (List.map V.ref ls))
 len:ls.length=m.toNat
 nd:ls.Nodup
 it:∀(r:Nat) (l:Addr),ls[r]?=some l->H l=some (.lst (bj (cO ws r k)))
theorem CT.ext{H H':Hp}{c:Addr}{m:Int}{ls:List Addr}{ws:List Way}{k:Nat}(e:Ext H H')(h:CT H c m ls ws k):CT H' c m ls ws k:=
 ⟨e _ _ h.at_,h.len,h.nd,fun r l hl=>e _ _ (h.it r l hl)⟩
def qV(K:PySem.W.Frag):Sp:=fun vs H Q _=>∃v m ws,vs=[v]/\aM H v m ws/\HOuse m ws/\∀c ls H',Ext H H'->CT H' c m ls ws ws.length->Q (.ref c) H'
abbrev iI:Stmt:=stq 32
theorem qh:FnScope ["house","counts","count","way"] ["house"] (aC iI):=⟨rfl,rfl,rfl,by decide +kernel,rfl,by decide +kernel,by decide +kernel⟩
theorem xC{P:Program}{w:World}{K:PySem.W.Frag}{mg:Str->Option Value}{base:Heap}(D:Dfn K mg "counts_by_room" iI ["house"])(T:Blt mg):Cal P w K mg base "counts_by_room" 1 ["house"] (qV K):=by
 have nd:=(qh).nd
 refine D.ok qh (fun vs H Q E h=>?_) (fun X hX H vs Q E h=>?_)
 ·obtain⟨v,m,ws,rfl,_⟩:=h;rfl
 ·obtain⟨f,cdv,A,outer,s,H0,E0,rfl,hr⟩:=hX
  obtain⟨v,m,ws,rfl,⟨hh,t,rfl,g1,g2⟩,ok,q⟩:=h
  obtain⟨bs,g3,al⟩:=bB.al g2
  have hfew:=ok.few
  have m1:=ok.m1
  have m2:=ok.m12
  refine⟨_,(ah (lU (i:=1) ["room"] [] nd rfl (Or.inl rfl) (cW rfl T.range_ (aa (ai (ax K) (pv 0) ae (fun _ _=>rfl)) ab)) (fun _=>(aB (i:=0) (show(["room"]:List Str).Nodup from by decide +kernel) rfl (Or.inl rfl) (Or.inr rfl))) (fun _=>cN) (fun _=>(aR ab)))
    (ah (bC PassesOwn.never rfl (pw K rfl T.enumerate_ (aa (ai (ax K) (pv 0) ae (fun _ _=>rfl)) ab)) (dZ (n:=2) K rfl (bo (aB (i:=2) nd rfl (Or.inl rfl)) (bo (aB (i:=3) nd rfl (Or.inl rfl)) dw))) (aj (aV (bx K PySem.F.plainAttrs_list PySem.F.slot_list_append PySem.F.type_list_append bI (ai (aJ K) (pv 1) (ai (ax K) (pv 3) ae (fun _ _=>rfl)) (fun _ _=>rfl)) (aa (pv 2) ab)))))
    (aj (aA (pv 1))))),?_⟩
  walk_at "rd"
  refine aw (ag.of g1) (v:=.int m) rfl ?_
  walk_at "rd"
  refine cV ⟨by omega,by omega⟩ ?_
  refine pb (fun i ys H'=>Ext H H'/\∃ls:List Addr,ys=List.map V.ref ls/\ls.length=i/\ls.Nodup/\∀l∈ls,H' l=some (.lst [])/\H l=none) (bG (by omega)) ⟨Ext.rfl' _,[],rfl,rfl,List.nodup_nil,fun l h=>by cases h⟩ (fun i ys H' _ h=>by obtain⟨_,ls,rfl,hl,_⟩:=h;rw[List.length_map,hl];exact Nat.le_refl _) ?_ ?_
  ·rintro i ys H' hi ⟨e,ls,rfl,hl,hnd,hls⟩
   walk_at "rd"
   refine aD ?_
   walk_at "rd"
   refine⟨av (by simp),ao fun l H1 e1 hl1 hln=>?_⟩
   refine⟨e.trans e1,ls++[l],by rw[List.map_append];rfl,by rw[List.length_append,hl];rfl,?_,?_⟩
   ·rw[List.nodup_append]
    refine⟨hnd,by simp,fun a ha b hb z=>?_⟩
    have:b=l:=by simpa using hb
    subst this
    subst z
    rw[(hls a ha).1]at hln
    cases hln
   ·intro a ha
    rcases List.mem_append.mp ha with z | z
    ·exact⟨e1 _ _ (hls a z).1,(hls a z).2⟩
    ·have:a=l:=by simpa using z
     subst this
     exact⟨hl1,e.none hln⟩
  ·rintro ys H1 c ⟨e,ls,rfl,hl,hnd,hls⟩ hc
   walk_at "rd"
   have eN:Ext H (upd H1 c (.lst (List.map V.ref ls))):=e.trans (aX hc)
   have hcH:H c=none:=e.none hc
   have ct0:CT (upd H1 c (.lst (List.map V.ref ls))) c m ls ws 0:=⟨aI,hl,hnd,fun r l hl=>by
    have:=(hls l (List.mem_of_getElem? hl)).1
    rw[aG (cj this hc)]
    exact this⟩
   have hcl:∀l∈ls,H l=none:=fun l h=>(hls l h).2
   generalize upd H1 c (.lst (List.map V.ref ls))=H2 at eN ct0 ⊢
   clear hls hc e H1
   refine aw (ag.of (eN _ _ g1)) (v:=.ref t) rfl ?_
   walk_at "rd"
   refine pS (ag.of (eN _ _ g3)) ?_
   refine rf (xs:=bs.map V.ref) (fun i σ H'=>∃k1 k2,σ=[some (.ref hh),some (.ref c),k1,k2]/\Ext H H'/\CT H' c m ls ws i) ⟨none,none,rfl,eN,ct0⟩ (fun i σ H' _ h=>by obtain⟨_,_,_,e,_⟩:=h;exact ag.of (e _ _ g3)) ?_ ?_
   ·rintro i u σ H3 pp H4 hu ⟨k1,k2,rfl,e3,ct3⟩ e4 hpp _
    rw[List.getElem?_map]at hu
    obtain⟨b,hb,rfl⟩:=Option.map_eq_some_iff.mp hu
    have hi:i<ws.length:=by
     rw[←al.1]
     exact(List.getElem?_eq_some_iff.mp hb).1
    have hwi:ws[i]?=some ws[i]:=List.getElem?_eq_getElem hi
    have e34:=e3.trans e4
    have ct:=ct3.ext e4
    have okw:=ok.ok _ (List.getElem_mem hi)
    have hw:=e34 _ _ (al.2 i b _ hb hwi)
    have csu:=fun r:Nat=>yS (r:=(r:Int)) hwi
    clear ct3
    generalize ws[i]=w at hw okw csu hwi
    have r0:=okw.r0
    have r1:=okw.r1
    have hlr:w.room.toNat<ls.length:=by rw[ct.len];omega
    have hlg:ls[w.room.toNat]?=some ls[w.room.toNat]:=List.getElem?_eq_getElem hlr
    generalize ls[w.room.toNat]=l at hlg
    have hl:=ct.it _ _ hlg
    have hlen:=zh ws (w.room.toNat:Nat) i
    refine dX (ag.of hpp) rfl ?_
    walk_at "rd"
    refine aw (ag.of hw) (v:=.int w.room) rfl ?_
    refine aK (af.of ct.at_) (v:=.ref l) ?_ ?_
    ·refine ic r0 ?_
     rw[List.getElem?_map,hlg]
     rfl
    refine⟨cy (af.of hl),?_⟩
    walk_at "rd"
    refine bH hl (cm (by rw[List.length_map];omega)) ?_
    have lc:l≠c:=cg hl ct.at_ (fun z=>by
     have z':=HO.lst.inj z
     have hlc:=congrArg List.length z'
     cases hcn:cO ws (w.room.toNat:Nat) i with
     | nil=>
      rw[hcn]at hlc
      rw[List.length_map,List.length_map]at hlc
      have:ls.length=0:=hlc.symm
      omega
     | cons a r=>
      rw[hcn]at z'
      cases ls with
      | nil=>cases z'
      | cons x y=>cases(List.cons.inj z').1)
    walk_at "rd"
    refine⟨_,_,rfl,bJ e34 (hcl l (List.mem_of_getElem? hlg)),?_⟩
    refine⟨by rw[aG lc.symm];exact ct.at_,ct.len,ct.nd,fun r l' hl'=>?_⟩
    rw[csu r]
    by_cases er:r=w.room.toNat
    ·subst er
     rw[hlg]at hl'
     cases hl'
     rw[aI,if_pos (by omega),mX]
    ·have nl:l'≠l:=fun z=>er (by
      subst z
      exact AK ct.nd hl' hlg)
     rw[aG nl,if_neg (by omega),List.append_nil]
     exact ct.it r l' hl'
   ·rintro σ H' ⟨k1,k2,rfl,e3,ct⟩
    rw[List.length_map,al.1]at ct
    walk_at "rd"
    exact q c ls H' e3 ct
def bN(m:Int)(x g:Bfs.Pl):Int:=(if g.2>x.2 then g.2 else x.2)+m*m
def oo(K:PySem.W.Frag):Sp:=fun vs H Q _=>∃v m ws a b x g,vs=[v,.ref a,.ref b]/\aM H v m ws/\HOuse m ws/\aY H a x/\aY H b g/\Q (.int (bN m x g)) H
abbrev kz:Stmt:=stq 33
theorem oN:FnScope ["house","place","goal"] ["house","place","goal"] (aC kz):=⟨rfl,rfl,rfl,by decide +kernel,rfl,by decide +kernel,by decide +kernel⟩
theorem zB{P:Program}{w:World}{K:PySem.W.Frag}{mg:Str->Option Value}{base:Heap}(D:Dfn K mg "greatest_met" kz ["house","place","goal"])(T:Blt mg):Cal P w K mg base "greatest_met" 1 ["house","place","goal"] (oo K):=by
 have nd:=(oN).nd
 refine D.ok oN (fun vs H Q E h=>?_) (fun X hX H vs Q E h=>?_)
 ·obtain⟨v,m,ws,a,b,x,g,rfl,_⟩:=h;rfl
 ·obtain⟨f,cdv,A,outer,s,H0,E0,rfl,hr⟩:=hX
  obtain⟨v,m,ws,a,b,x,g,rfl,⟨hh,t,rfl,g1,g2⟩,ok,hx,hg,q⟩:=h
  have m1:=ok.m1
  have m2:=ok.m12
  refine⟨_,(aj (aA (ak aN (aU (mS rfl) rfl T.max_ PyProof.Rows.boot_max (aa (ai (ax K) (pv 1) ae (fun _ _=>rfl)) (aa (ai (ax K) (pv 2) ae (fun _ _=>rfl)) ab))) (ak bU (ai (ax K) (pv 0) ae (fun _ _=>rfl)) (ai (ax K) (pv 0) ae (fun _ _=>rfl)))))),?_⟩
  walk_at "rd"
  refine aw (ag.of hx) (v:=.int x.2) rfl ?_
  walk_at "rd"
  refine aw (ag.of hg) (v:=.int g.2) rfl ?_
  walk_at "rd"
  refine aw (ag.of g1) (v:=.int m) rfl ?_
  walk_at "rd"
  refine aw (ag.of g1) (v:=.int m) rfl ?_
  walk_at "rd"
  try refine rd_I (.inl ⟨by omega,by omega⟩) ?_
  walk_at "rd"
  exact q
def bD(ws:List Way)(T:Int)(x:Bfs.Pl)(k:Nat):Option Bfs.Pl:=
 (ws[k]?).bind fun w=>if w.room=x.1 then(bu w.deed x.2).bind fun n=>if n<=T then some (w.other,n)else none else none
theorem rX:rz "up" = 1:=by decide +kernel
theorem rA:rz "down" = -1:=by decide +kernel
theorem tp:rz "stay" = 0:=by decide +kernel
theorem vq:rz "zero" = 0:=by decide +kernel
theorem oA{z:Str}{n n':Int}(hz:bq z)(h:bu z n=some n'):n'=n+rz z:=by
 rcases hz with e | e | e | e<;>rw[e]at h ⊢
 ·rw[eo]at h;rw[rX];cases h;rfl
 ·rw[dO]at h
  rw[rA]
  split at h
  ·cases h;omega
  ·cases h
 ·rw[de]at h;rw[tp];cases h;omega
 ·rw[dM]at h
  rw[vq]
  split at h
  ·cases h;omega
  ·cases h
theorem p8{w:Way}(hz:bq w.deed)(x:Bfs.Pl):fU w x.1 x.2=true↔w.room=x.1/\bu w.deed x.2=some (x.2+rz w.deed):=by
 unfold fU
 rcases hz with e | e | e | e<;>rw[e]
 ·rw[rh,oY,eo,rX];simp
 ·rw[cA,dO,rA]
  by_cases h:0<x.2
  ·rw[decide_eq_true h];simp[Int.sub_eq_add_neg]
  ·rw[decide_eq_false h];simp
 ·rw[gZ,decide_eq_false (show ¬(Str.ofString "stay")=Str.ofString "zero" by decide +kernel),de,tp];simp
 ·rw[hZ,cA,dM,vq]
  by_cases h:x.2=0
  ·rw[decide_eq_true h];simp
  ·rw[decide_eq_false h];simp
theorem Bi{ws:List Way}{T:Int}{x:Bfs.Pl}{k:Nat}{w:Way}(h:ws[k]?=some w)(hz:bq w.deed)(ho:fU w x.1 x.2=true)(ht:x.2+rz w.deed<=T):bD ws T x k=some (w.other,x.2+rz w.deed):=by
 obtain⟨h1,h2⟩:=(p8 hz x).mp ho
 unfold bD
 rw[h,Option.bind_some,if_pos h1,h2,Option.bind_some,if_pos ht]
theorem iV{ws:List Way}{T:Int}{x y:Bfs.Pl}{k:Nat}(h:bD ws T x k=some y):∃w,ws[k]?=some w/\w.room=x.1/\bu w.deed x.2=some y.2/\y.1=w.other/\y.2<=T:=by
 unfold bD at h
 obtain⟨w,hw,h⟩:=Option.bind_eq_some_iff.mp h
 split at h
 ·rename_i hr
  obtain⟨n,hn,h⟩:=Option.bind_eq_some_iff.mp h
  split at h
  ·rename_i ht
   cases h
   exact⟨w,hw,hr,hn,rfl,ht⟩
  ·cases h
 ·cases h
theorem qj{ws:List Way}{T:Int}{x y:Bfs.Pl}{k:Nat}{w:Way}(hw:ws[k]?=some w)(hz:bq w.deed)(h:bD ws T x k=some y):fU w x.1 x.2=true/\y=(w.other,x.2+rz w.deed)/\x.2+rz w.deed<=T:=by
 obtain⟨w',hw',hr,hs,ho,ht⟩:=iV h
 rw[hw]at hw'
 cases hw'
 have e:=oA hz hs
 rw[e]at ht hs
 exact⟨(p8 hz x).mpr ⟨hr,hs⟩,Prod.ext ho e,ht⟩
theorem gQ{z:Str}{n n':Int}(hz:bq z)(h0:0<=n)(h:bu z n=some n'):0<=n':=by
 rcases hz with e | e | e | e<;>rw[e]at h
 ·rw[eo]at h;cases h;omega
 ·rw[dO]at h
  split at h
  ·rename_i g
   have:=of_decide_eq_true g
   cases h;omega
  ·cases h
 ·rw[de]at h;cases h;exact h0
 ·rw[dM]at h
  split at h
  ·cases h;exact h0
  ·cases h
def eV(H:Hp)(v:V):Option (Bfs.Pl×Nat)->Prop
 | none=>v=.non
 | some (p,k)=>∃a b,v=.ref a/\H a=some (.tup [.ref b,.int (k:Int)])/\aY H b p
theorem eV.ext{H H':Hp}(e:Ext H H'){v:V}{o:Option (Bfs.Pl×Nat)}(h:eV H v o):eV H' v o:=by
 cases o with
 | none=>exact h
 | some pk=>
  obtain⟨a,b,h1,h2,h3⟩:=h
  exact⟨a,b,h1,e _ _ h2,e _ _ h3⟩
theorem eV.put{H:Hp}{f:Addr}{u u':HO}(hf:H f=some u)(hn:∀xs,u≠.tup xs){v:V}{o:Option (Bfs.Pl×Nat)}(h:eV H v o):eV (upd H f u') v o:=by
 cases o with
 | none=>exact h
 | some pk=>
  obtain⟨a,b,h1,h2,h3⟩:=h
  exact⟨a,b,h1,by rw[aG (cg h2 hf (fun z=>hn _ z.symm))];exact h2,aY.put hf hn h3⟩
abbrev mC(H:Hp)(kv:List Key×V)(e:Bfs.Ent):Prop:=kv.1=aS e.1/\eV H kv.2 e.2.2
abbrev zW(H:Hp)(a:Addr)(e:Bfs.Ent):Prop:=aY H a e.1
section
variable {β:Type} {F:List Key×V->β->Prop} {key:β->Bfs.Pl} {kvs:List (List Key×V)} {q:List β}
theorem fY(hF:∀kv e,F kv e->kv.1=aS (key e))(h:Paired F kvs q){x:Bfs.Pl}(hx:x∉q.map key):bF kvs (aS x)=none:=by
 induction h with
 | nil=>rfl
 | @cons a b as bs h t ih=>
  rw[List.map_cons,List.mem_cons,not_or]at hx
  rw[fX (fun z=>hx.1 (nM (z.symm.trans (hF _ _ h))))]
  exact ih hx.2
theorem il(hF:∀kv e,F kv e->kv.1=aS (key e))(h:Paired F kvs q)(nd:(q.map key).Nodup){e:β}(he:e∈q):∃v,bF kvs (aS (key e))=some v/\F (aS (key e),v) e:=by
 induction h with
 | nil=>cases he
 | @cons a b as bs h t ih=>
  rw[List.map_cons,List.nodup_cons]at nd
  rcases List.mem_cons.mp he with z | z
  ·subst z
   have e1:=hF _ _ h
   refine⟨a.2,iC e1,?_⟩
   rw[←e1]
   exact h
  ·obtain⟨v,h1,h2⟩:=ih nd.2 z
   refine⟨v,?_,h2⟩
   rw[fX (fun w=>nd.1 ?_)]
   ·exact h1
   ·rw[nM ((hF _ _ h).symm.trans w)]
    exact List.mem_map.mpr ⟨e,z,rfl⟩
end
structure FF(H0 H:Hp)(f rw:Addr)(q:List Bfs.Ent):Prop where
 ext:Ext H0 H
 fn:H0 f=none
 rn:H0 rw=none
 d:∃kvs,H f=some (.dT kvs)/\Paired (mC H) kvs q
 r:∃as,H rw=some (.lst (List.map V.ref as))/\Paired (zW H) as q
theorem FF.step{H0 H H1:Hp}{f rw:Addr}{q:List Bfs.Ent}(h:FF H0 H f rw q)(e:Ext H H1):FF H0 H1 f rw q:=by
 obtain⟨h1,h2,h3,⟨kvs,h4,h5⟩,as,h6,h7⟩:=h
 exact⟨h1.trans e,h2,h3,⟨kvs,e _ _ h4,Paired.mapP h5 fun _ _ z=>⟨z.1,z.2.ext e⟩⟩,as,e _ _ h6,Paired.mapP h7 fun _ _ z=>e _ _ z⟩
theorem FF.push{H0 H:Hp}{f rw th t b:Addr}{q:List Bfs.Ent}{y p:Bfs.Pl}{k d:Nat}(h:FF H0 H f rw q)(hy:y∉q.map (·.1))(hth:aY H th y)(hb:aY H b p)(ht:H t=some (.tup [.ref b,.int (k:Int)])):
  ∃kvs,H f=some (.dT kvs)/\kvs.length=q.length/\∃as,upd H f (.dT (putK kvs (aS y) (.ref t))) rw=some (.lst (List.map V.ref as))/\as.length=q.length ∧
   FF H0 (upd (upd H f (.dT (putK kvs (aS y) (.ref t)))) rw (.lst (List.map V.ref as++[.ref th]))) f rw (q++[(y,d,some (p,k))]):=by
 obtain⟨h1,h2,h3,⟨kvs,h4,h5⟩,as,h6,h7⟩:=h
 have nf:∀xs,(HO.dT kvs)≠.tup xs:=fun xs z=>by cases z
 have nr:∀xs,(HO.lst (List.map V.ref as))≠.tup xs:=fun xs z=>by cases z
 have ne:rw≠f:=cg h6 h4 (by intro z;cases z)
 have h6':upd H f (.dT (putK kvs (aS y) (.ref t))) rw=some (.lst (List.map V.ref as)):=by rw[aG ne];exact h6
 have vp:eV H (.ref t) (some (p,k)):=⟨t,b,rfl,ht,hb⟩
 refine⟨kvs,h4,Paired.length h5,as,h6',Paired.length h7,bJ (bJ h1 h2) h3,h2,h3,⟨kvs++[(aS y,.ref t)],?_,?_⟩,as++[th],?_,?_⟩
 ·rw[aG ne.symm,aI,tK _ (fY (fun _ _ z=>z.1) h5 hy)]
 ·exact Paired.snoc (Paired.mapP h5 fun _ _ z=>⟨z.1,(z.2.put h4 nf).put h6' nr⟩) ⟨rfl,(vp.put h4 nf).put h6' nr⟩
 ·rw[aI,List.map_append];rfl
 ·exact Paired.snoc (Paired.mapP h7 fun _ _ z=>aY.put h6' nr (aY.put h4 nf z)) (aY.put h6' nr (aY.put h4 nf hth))
def dA(m T:Int)(x:Bfs.Pl):Prop:=0<=x.1/\x.1<m/\0<=x.2/\x.2<=T
theorem dA.few{m T:Int}{l:List Bfs.Pl}(hm:m<=12)(hT:T<=2000)(hn:l.Nodup)(h:∀x∈l,dA m T x):l.length<=24012:=
 Bfs.zF hT hn fun x hx=>by
  obtain⟨a,b,c,d⟩:=h x hx
  exact⟨a,by omega,c,d⟩
theorem wV{m T:Int}{ws:List Way}(ok:HOuse m ws){x y:Bfs.Pl}{k:Nat}(hx:0<=x.2)(h:bD ws T x k=some y):dA m T y:=by
 obtain⟨w,hw,hr,hs,ho,ht⟩:=iV h
 have okw:=ok.ok w (List.mem_of_getElem? hw)
 exact⟨by rw[ho];exact okw.o0,by rw[ho];exact okw.o1,gQ okw.dd hx hs,ht⟩
def tE(H1:Hp)(ws:List Way)(m T:Int)(x:Bfs.Pl)(v:V)(pa ga c f rw:Addr)(M:Nat)(σ:St)(H':Hp):Prop:=
 ∃q i B k1 k2 k3 k4,σ=[some v,some (.ref pa),some (.ref ga),some (.int T),some (.ref c),some (.ref f),some (.ref rw),some (.int ((i:Nat):Int)),k1,k2,k3,k4]/\FF H1 H' f rw q/\Bfs.QI (bD ws T) x q i B/\(∀e∈q,dA m T e.1)/\i<=q.length/\M+i=24013
def Bz(H1:Hp)(ws:List Way)(T:Int)(x g:Bfs.Pl)(v:V)(pa ga c f rw:Addr)(σ:St)(H':Hp):Prop:=
 ∃q i B k0 k1 k2 k3 k4,σ=[some v,some (.ref pa),some (.ref ga),some (.int T),some (.ref c),some (.ref f),some (.ref rw),k0,k1,k2,k3,k4]/\FF H1 H' f rw q/\Bfs.QI (bD ws T) x q i B/\q.length<=24012/\(i=q.length\/g∈q.map (·.1))
def y8(H1:Hp)(ws:List Way)(m T:Int)(x:Bfs.Pl)(v:V)(pa ga c f rw b:Addr)(i:Nat)(h:Bfs.Ent)(ks:List Nat)(j:Nat)(σ:St)(H':Hp):Prop:=
 ∃q k1 k2 k3,σ=[some v,some (.ref pa),some (.ref ga),some (.int T),some (.ref c),some (.ref f),some (.ref rw),some (.int ((i:Nat):Int)),some (.ref b),k1,k2,k3]/\FF H1 H' f rw q/\Bfs.QF (nx:=bD ws T) (s:=x) q (i-1) h ks j/\(∀e∈q,dA m T e.1)/\aY H' b h.1
theorem xV{m:Int}{x g:Bfs.Pl}(h0:0<=m)(hm:m<=12)(hx:x.2<=1000)(hg:g.2<=1000):bN m x g<=2000:=by
 unfold bN
 have:m*m<=12*12:=Int.mul_le_mul hm hm h0 (by decide)
 split<;>omega
theorem xS{m:Int}{x g:Bfs.Pl}(h0:0<=m):x.2<=bN m x g/\g.2<=bN m x g:=by
 unfold bN
 have:0<=m*m:=Int.mul_nonneg h0 h0
 split<;>constructor<;>omega
def nZ(K:PySem.W.Frag):Sp:=fun vs H Q _=>∃v m ws pa ga x g,vs=[v,.ref pa,.ref ga]/\aM H v m ws/\HOuse m ws/\aY H pa x/\aY H ga g/\fH m x/\fH m g ∧
 ∀f H' kvs q i B,Ext H H'->H' f=some (.dT kvs)->Paired (mC H') kvs q->Bfs.QI (bD ws (bN m x g)) x q i B->q.length<=24012->(i=q.length\/g∈q.map (·.1))->Q (.ref f) H'
abbrev j5:Stmt:=stq 34
theorem oX:FnScope ["house","place","goal","greatest","counts","found","row","looked","here","count","way","there"] ["house","place","goal"] (aC j5):=⟨rfl,rfl,rfl,by decide +kernel,rfl,by decide +kernel,by decide +kernel⟩
theorem Ca{P:Program}{w:World}{K:PySem.W.Frag}{mg:Str->Option Value}{base:Heap}(D:Dfn K mg "found_from" j5 ["house","place","goal"])(T:Blt mg)(C_is_open:Cal P w K mg base "is_open" 1 ["way","place"] (tM K))(C_led_to:Cal P w K mg base "led_to" 2 ["way","place"] (u3 K))(C_counts_by_room:Cal P w K mg base "counts_by_room" 1 ["house"] (qV K))(C_greatest_met:Cal P w K mg base "greatest_met" 1 ["house","place","goal"] (oo K)):Cal P w K mg base "found_from" 3 ["house","place","goal"] (nZ K):=by
 have nd:=(oX).nd
 refine D.ok oX (fun vs H Q E h=>?_) (fun X hX H vs Q E h=>?_)
 ·obtain⟨v,m,ws,pa,ga,x,g,rfl,_⟩:=h;rfl
 ·obtain⟨f,cdv,A,outer,s,H0,E0,rfl,hr⟩:=hX
  obtain⟨v,m,ws,pa,ga,x,g,rfl,hv,ok,hx,hg,ix,ig,q⟩:=h
  have m1:=ok.m1
  have m2:=ok.m12
  have hfew:=ok.few
  have hT:=xV (m:=m) (x:=x) (g:=g) (by omega) m2 ix.2.2.2 ig.2.2.2
  have hxT:=(xS (m:=m) (x:=x) (g:=g) (by omega)).1
  refine⟨_,(ah (az (i:=3) nd rfl (Or.inl rfl) (au C_greatest_met hr (aa (pv 0) (aa (pv 1) (aa (pv 2) ab)))))
    (ah (az (i:=4) nd rfl (Or.inl rfl) (au C_counts_by_room hr (aa (pv 0) ab)))
    (ah (az (i:=5) nd rfl (Or.inl rfl) (qu (dP hr) (pv 1) ik))
    (ah (az (i:=6) nd rfl (Or.inl rfl) (aR (aa (pv 1) ab)))
    (ah (az (i:=7) nd rfl (Or.inl rfl) ae)
    (ah (uI PassesOwn.never (PW.pt (ij (aL fc (pv 7) (aU (cB K) rfl T.len_ PySem.boot_len (aa (pv 6) ab)) (aF _)) (iN (ng (m7 (dP hr) (pv 2) (pv 5)) (by with_unfolding_all rfl))))) (ah (az (i:=8) nd rfl (Or.inl rfl) (ai (aJ K) (pv 6) (pv 7) (fun _ _=>rfl)))
    (ah (zw (i:=7) nd rfl (Or.inl rfl) ae zX)
    (aj (bC PassesOwn.never rfl (cx K (ai (aJ K) (pv 4) (ai (ax K) (pv 8) ae (fun _ _=>rfl)) (fun _ _=>rfl))) (aB (i:=9) nd rfl (Or.inl rfl)) (ah (az (i:=10) nd rfl (Or.inl rfl) (ai (ax K) (ai (ax K) (pv 0) ae (fun _ _=>rfl)) (pv 9) (fun _ _=>rfl)))
    (ah (az (i:=11) nd rfl (Or.inl rfl) (au C_led_to hr (aa (pv 10) (aa (pv 8) ab))))
    (aj (cw (PW.pt (ij (cH (au C_is_open hr (aa (pv 10) (aa (pv 8) ab)))) (ij (aL jr (ai (ax K) (pv 11) ae (fun _ _=>rfl)) (pv 3) (aF _)) (iN (ng (m7 (dP hr) (pv 11) (pv 5)) (by with_unfolding_all rfl)))))) (ah (rP (dP hr) (pv 5) (pv 11) (aQ (aa (pv 8) (aa (pv 9) ab))) rfl)
    (aj (aV (bx K PySem.F.plainAttrs_list PySem.F.slot_list_append PySem.F.type_list_append bI (pv 6) (aa (pv 11) ab))))) aO)))))))))
    (aj (aA (pv 5))))))))),?_⟩
  walk_at "rd"
  refine⟨v,m,ws,pa,ga,x,g,rfl,hv,ok,hx,hg,?_⟩
  generalize bN m x g=T at q hT hxT ⊢
  walk_at "rd"
  refine⟨v,m,ws,rfl,hv,ok,fun c ls H1 e1 ct=>?_⟩
  walk_at "rd"
  refine fun f hfn=>?_
  walk_at "rd"
  refine⟨pa,aS x,rfl,(aX hfn) _ _ (e1 _ _ hx),aI,?_⟩
  walk_at "rd"
  refine⟨av (by simp),ao fun rw H3 e3 hrw hrn=>?_⟩
  walk_at "rd"
  have e13:Ext H1 (upd (upd H1 f (.dT [])) f (.dT [(aS x,.non)])):=fun b o hb=>by
   rw[aG (cj hb hfn),aG (cj hb hfn)];exact hb
  have hrn1:H1 rw=none:=e13.none hrn
  have hf3:H3 f=some (.dT [(aS x,.non)]):=e3 _ _ aI
  have ff0:FF H1 H3 f rw [(x,0,none)]:=⟨e13.trans e3,hfn,hrn1,⟨_,hf3,.cons ⟨rfl,rfl⟩ .nil⟩,[pa],hrw,.cons (e3 _ _ (e13 _ _ (e1 _ _ hx))) .nil⟩
  refine tL (tE H1 ws m T x v pa ga c f rw) (Bz H1 ws T x g v pa ga c f rw) 24013 ⟨[(x,0,none)],0,0,_,_,_,_,rfl,ff0,Bfs.QI.begin _ _,?_,by simp,rfl⟩ ?_ ?_
  ·intro e he
   rw[List.mem_singleton]at he
   subst he
   exact⟨ix.1,ix.2.1,ix.2.2.1,hxT⟩
  ·clear ff0 hf3 hrn1 e13 hrw hrn e3
   rintro M σ H4 ⟨qq,i,B,k1,k2,k3,k4,rfl,ff,qi,hin,hi,hM⟩
   have hqn:qq.length<=24012:=by
    have:=dA.few m2 hT qi.nd (fun y hy=>by
     obtain⟨e,he,rfl⟩:=List.mem_map.mp hy
     exact hin e he)
    rwa [List.length_map]at this
   obtain⟨kvs,hd,pk⟩:=ff.d
   obtain⟨as,hr,pr⟩:=ff.r
   have hal:=Paired.length pr
   have hg4:aY H4 ga g:=ff.ext _ _ (e1 _ _ hg)
   walk_at "rd"
   refine dg (af.of hr) ?_
   walk_at "rd"
   by_cases hlt:i<qq.length
   rotate_left
   ·rw[decide_eq_false (show ¬((i:Nat):Int)<((List.map V.ref as).length:Nat) by rw[List.length_map,hal];omega)]
    refine ay ?_
    refine ay ?_
    exact⟨qq,i,B,_,_,_,_,_,rfl,ff,qi,hqn,.inl (by omega)⟩
   ·rw[decide_eq_true (show((i:Nat):Int)<((List.map V.ref as).length:Nat) by rw[List.length_map,hal];omega)]
    refine aD ?_
    walk_at "rd"
    refine⟨f,_,rfl,cf.t hd (k:=aS g) hg4,?_⟩
    by_cases hgk:g∈qq.map (·.1)
    ·obtain⟨e,he,rfl⟩:=List.mem_map.mp hgk
     obtain⟨v1,hv1,_⟩:=il (fun _ _ z=>z.1) pk qi.nd he
     rw[hv1]
     refine rd_exb (ay ?_)
     exact⟨qq,i,B,_,_,_,_,_,rfl,ff,qi,hqn,.inr hgk⟩
    ·rw[fY (fun _ _ z=>z.1) pk hgk]
     refine rd_exb (aD ?_)
     refine⟨fun σ' H'=>∃m',m'<M/\tE H1 ws m T x v pa ga c f rw m' σ' H',fun _ _ h=>h,?_⟩
     have hqi:=List.getElem?_eq_getElem hlt
     generalize qq[i]=hh at hqi
     obtain⟨b,hb,hbp⟩:=jA pr hqi
     have qf:=qi.look hqi (cO ws hh.1.1 ws.length)
     have hih:=hin hh (List.mem_of_getElem? hqi)
     obtain⟨hr0,hr1,hn0,hn1⟩:=hih
     clear qi hgk hg4 pr hal pk hd
     walk_at "rd"
     refine aK (af.of hr) (dh (v:=.ref b) (by rw[List.getElem?_map,hb];rfl)) ?_
     walk_at "rd"
     refine aw (ag.of hbp) (v:=.int hh.1.1) rfl ?_
     walk_at "rd"
     have ct4:=ct.ext ff.ext
     have hlr:hh.1.1.toNat<ls.length:=by rw[ct.len];omega
     have hlg:ls[hh.1.1.toNat]?=some ls[hh.1.1.toNat]:=List.getElem?_eq_getElem hlr
     generalize ls[hh.1.1.toNat]=l at hlg
     have hll:=ct.it _ _ hlg
     rw[show ((hh.1.1.toNat:Nat):Int)=hh.1.1 by omega]at hll
     refine aK (af.of ct4.at_) (v:=.ref l) (ic hr0 (by rw[List.getElem?_map,hlg];rfl)) ?_
     refine cC (af.of (ff.ext _ _ hll)) ?_
     obtain⟨hp,ht,rfl,g1,g2⟩:=hv.ext e1
     obtain⟨bs,g3,al⟩:=bB.al g2
     refine forL (xs:=bj (cO ws hh.1.1 ws.length)) (y8 H1 ws m T x (.ref hp) pa ga c f rw b (i+1) hh (cO ws hh.1.1 ws.length)) ?_ (fun j σ H' _ h=>?_) ?_ ?_
     ·exact⟨qq,k2,k3,k4,rfl,ff,qf,hin,hbp⟩
     ·obtain⟨_,_,_,_,_,ff',_⟩:=h
      exact af.of (ff'.ext _ _ hll)
     ·clear qf ff hbp hr hqi hlt hqn hin
      rintro j u σ H5 hu ⟨q5,c1,c2,c3,rfl,ff,qf,hin,hbp⟩
      rw[List.getElem?_map]at hu
      obtain⟨k,hk,rfl⟩:=Option.map_eq_some_iff.mp hu
      obtain⟨w,hw,hroom⟩:=CC (List.mem_of_getElem? hk)
      have okw:=ok.ok w (List.mem_of_getElem? hw)
      have hkb:k<bs.length:=by rw[al.1];exact(List.getElem?_eq_some_iff.mp hw).1
      have hbk:=List.getElem?_eq_getElem hkb
      generalize bs[k]=bk at hbk
      have hwt:=al.2 k bk w hbk hw
      have hqn:q5.length<=24012:=by
       have:=dA.few m2 hT qf.nd (fun y hy=>by
        obtain⟨e,he,rfl⟩:=List.mem_map.mp hy
        exact hin e he)
       rwa [List.length_map]at this
      walk_at "rd"
      refine aw (ag.of (ff.ext _ _ g1)) (v:=.ref ht) rfl ?_
      walk_at "rd"
      refine aw (ag.of (ff.ext _ _ g3)) (v:=.ref bk) (dh (by rw[List.getElem?_map,hbk];rfl)) ?_
      walk_at "rd"
      refine⟨bk,w,b,hh.1,rfl,ff.ext _ _ hwt,okw.dd,hbp,fun th H6 e6 hth hthn=>?_⟩
      have ff6:=ff.step e6
      have hb6:aY H6 b hh.1:=e6 _ _ hbp
      clear ff hbp
      walk_at "rd"
      refine bO ?_
      walk_at "rd"
      refine⟨bk,w,b,hh.1,rfl,ff6.ext _ _ hwt,hb6,?_⟩
      refine rd_exb ?_
      cases ho:fU w hh.1.1 hh.1.2 with
      | false=>
       refine ay ?_
       refine ay ?_
       walk_at "rd"
       exact⟨q5,_,_,_,rfl,ff6,qf.skip hk (fun y hy=>by rw[(qj hw okw.dd hy).1]at ho;cases ho),hin,hb6⟩
      | true=>
       refine aD ?_
       walk_at "rd"
       refine aw (ag.of hth) (v:=.int (hh.1.2+rz w.deed)) rfl ?_
       walk_at "rd"
       by_cases hle:hh.1.2+rz w.deed<=T
       rotate_left
       ·rw[decide_eq_false hle]
        refine ay ?_
        refine ay ?_
        walk_at "rd"
        exact⟨q5,_,_,_,rfl,ff6,qf.skip hk (fun y hy=>absurd (qj hw okw.dd hy).2.2 hle),hin,hb6⟩
       ·rw[decide_eq_true hle]
        refine aD ?_
        walk_at "rd"
        have hy:=Bi (T:=T) hw okw.dd ho hle
        obtain⟨kvs,hd,pk⟩:=ff6.d
        refine⟨f,_,rfl,cf.t hd (k:=aS (w.other,hh.1.2+rz w.deed)) hth,?_⟩
        by_cases hnew:(w.other,hh.1.2+rz w.deed)∈q5.map (·.1)
        ·obtain⟨e,he,hee⟩:=List.mem_map.mp hnew
         obtain⟨v1,hv1,_⟩:=il (fun _ _ z=>z.1) pk qf.nd he
         rw[hee]at hv1
         rw[hv1]
         refine rd_exb (ay ?_)
         walk_at "rd"
         exact⟨q5,_,_,_,rfl,ff6,qf.skip hk (fun y hy'=>by rw[hy]at hy';cases hy';exact hnew),hin,hb6⟩
        ·rw[fY (fun _ _ z=>z.1) pk hnew]
         refine rd_exb (aD ?_)
         clear pk hd
         walk_at "rd"
         refine⟨av (by simp),ao fun t H7 e7 ht7 _=>?_⟩
         walk_at "rd"
         obtain⟨kvs,hd,hkl,as,hr7,hal,ff8⟩:=(ff6.step e7).push (d:=hh.2.1+1) hnew (e7 _ _ hth) (e7 _ _ hb6) ht7
         have hb8:=aY.put (o':=.lst (List.map V.ref as++[.ref th])) hr7 (fun xs z=>by cases z) (aY.put (o':=.dT (putK kvs (aS (w.other,hh.1.2+rz w.deed)) (.ref t))) hd (fun xs z=>by cases z) (e7 _ _ hb6))
         refine⟨f,_,rfl,fD.t hd (k:=aS (w.other,hh.1.2+rz w.deed)) (e7 _ _ hth) (ie (by omega)),?_⟩
         walk_at "rd"
         refine⟨cy (af.of hr7),?_⟩
         walk_at "rd"
         refine bH hr7 (ie (by rw[List.length_map];omega)) ?_
         refine⟨_,_,_,_,rfl,ff8,qf.add hk hy hnew,?_,hb8⟩
         intro e he
         rcases List.mem_append.mp he with z | z
         ·exact hin e z
         ·rw[List.mem_singleton]at z
          subst z
          exact wV ok hn0 hy
     ·rintro σ H5 ⟨q5,c1,c2,c3,rfl,ff5,qf5,hin5,hbp5⟩
      rw[List.length_map]at qf5
      refine⟨M-1,by omega,q5,i+1,hh.2.1,_,_,_,_,rfl,ff5,qf5.next (fun k y hy=>?_),hin5,?_,by omega⟩
      ·obtain⟨w,hw,hr,_⟩:=iV hy
       exact Cv hw hr
      ·have:=(List.getElem?_eq_some_iff.mp qf5.at_).1
       omega
  ·rintro σ H4 ⟨qq,i,B,k0,k1,k2,k3,k4,rfl,ff,qi,hqn,hend⟩
   obtain⟨kvs,hd,pk⟩:=ff.d
   walk_at "rd"
   exact q f H4 kvs qq i B (e1.trans ff.ext) hd pk qi hqn hend
def sy(K:PySem.W.Frag):Sp:=fun vs H Q _=>∃(f ga:Addr) (kvs:List (List Key×V)) (q:List Bfs.Ent) (nx:Bfs.Pl->Nat->Option Bfs.Pl) (s:Bfs.Pl) (i B:Nat) (e:Bfs.Ent),vs=[.ref f,.ref ga]/\H f=some (.dT kvs)/\Paired (mC H) kvs q/\Bfs.QI nx s q i B/\aY H ga e.1/\e∈q/\e.2.1<=24012 ∧
 ∀l H' ks,Ext H H'->H' l=some (.lst (bj ks))->H l=none->ks.length=e.2.1->Bfs.gone (nx:=nx) s ks=some e.1->Q (.ref l) H'
def qK(H:Hp)(f ga l:Addr)(q:List Bfs.Ent)(nx:Bfs.Pl->Nat->Option Bfs.Pl)(e:Bfs.Ent)(M:Nat)(σ:St)(H':Hp):Prop:=
 ∃v u ks,σ=[some (.ref f),some (.ref ga),some (.ref l),some v]/\Ext H H'/\H' l=some (.lst (bj ks))/\u∈q/\eV H' v u.2.2/\u.2.1=M/\ks.length+M=e.2.1/\Bfs.gone (nx:=nx) u.1 ks.reverse=some e.1
abbrev ke:Stmt:=stq 35
theorem pI:FnScope ["found","goal","walk","step"] ["found","goal"] (aC ke):=⟨rfl,rfl,rfl,by decide +kernel,rfl,by decide +kernel,by decide +kernel⟩
theorem v8{P:Program}{w:World}{K:PySem.W.Frag}{mg:Str->Option Value}{base:Heap}(D:Dfn K mg "walk_back" ke ["found","goal"])(T:Blt mg):Cal P w K mg base "walk_back" 1 ["found","goal"] (sy K):=by
 have nd:=(pI).nd
 refine D.ok pI (fun vs H Q E h=>?_) (fun X hX H vs Q E h=>?_)
 ·obtain⟨f,ga,kvs,q,nx,s,i,B,e,rfl,_⟩:=h;rfl
 ·obtain⟨f,cdv,A,outer,s,H0,E0,rfl,hr⟩:=hX
  obtain⟨f,ga,kvs,q,nx,s,i,B,e,rfl,hf,pk,qi,hg,he,hle,qq⟩:=h
  refine⟨_,(ah (az (i:=2) nd rfl (Or.inl rfl) (aR ab))
    (ah (az (i:=3) nd rfl (Or.inl rfl) (oD (dP hr) (pv 0) (pv 1) (fun _ _=>rfl)))
    (ah (uI PassesOwn.never (aL Ax (pv 3) ik (aF _)) (ah (aV (bx K PySem.F.plainAttrs_list PySem.F.slot_list_append PySem.F.type_list_append bI (pv 2) (aa (ai (ax K) (pv 3) ae (fun _ _=>rfl)) ab)))
    (aj (az (i:=3) nd rfl (Or.inl rfl) (oD (dP hr) (pv 0) (ai (ax K) (pv 3) ae (fun _ _=>rfl)) (fun _ _=>rfl))))))
    (aj (aA (BU K rfl rfl T.list_ rfl T.reversed_ (pv 2))))))),?_⟩
  walk_at "rd"
  refine⟨av (by simp),ao fun l H1 e1 hl hln=>?_⟩
  walk_at "rd"
  obtain⟨v0,hv0,_,hp0⟩:=il (fun _ _ z=>z.1) pk qi.nd he
  refine⟨f,v0,rfl,by rw[←hv0];exact cf.t (e1 _ _ hf) (k:=aS e.1) (e1 _ _ hg),?_⟩
  walk_at "rd"
  refine tL (qK H f ga l q nx e) (fun σ H'=>∃v ks,σ=[some (.ref f),some (.ref ga),some (.ref l),some v]/\Ext H H'/\H' l=some (.lst (bj ks))/\ks.length=e.2.1/\Bfs.gone (nx:=nx) s ks.reverse=some e.1) e.2.1 ⟨v0,e,[],rfl,e1,hl,he,hp0.ext e1,rfl,by simp,rfl⟩ ?_ ?_
  ·rintro M σ H4 ⟨v,u,ks,rfl,e4,hl4,hu,hvp,hM,hks,hgo⟩
   walk_at "rd"
   rcases qi.par u hu with⟨p1,p2,p3⟩ | ⟨p,k,d,o,p1,p2,p3,p4⟩
   ·rw[p1]at hvp
    obtain rfl:v=.non:=hvp
    refine⟨rfl,?_⟩
    refine rd_exb (ay ?_)
    exact⟨_,ks,rfl,e4,hl4,by omega,by rw[←p2];exact hgo⟩
   ·rw[p1]at hvp
    obtain⟨a,b,rfl,ha,hb⟩:=hvp
    refine⟨rfl,?_⟩
    rw[decide_eq_false (show ¬(V.ref a=V.non) by intro z;cases z)]
    refine rd_exb (aD ?_)
    refine⟨fun σ' H'=>∃m',m'<M/\qK H f ga l q nx e m' σ' H',fun _ _ h=>h,?_⟩
    walk_at "rd"
    refine⟨cy (af.of hl4),?_⟩
    walk_at "rd"
    refine aw (ag.of ha) (v:=.int (k:Int)) rfl ?_
    walk_at "rd"
    refine bH hl4 (ie (by rw[List.length_map];omega)) ?_
    walk_at "rd"
    have nl:∀xs,(HO.lst (bj ks))≠.tup xs:=fun xs z=>by cases z
    have ha5:upd H4 l (.lst (bj ks++[.int (k:Int)])) a=some (.tup [.ref b,.int (k:Int)]):=by
     rw[aG (cg ha hl4 (by intro z;cases z))];exact ha
    have hb5:=aY.put (o':=.lst (bj ks++[.int (k:Int)])) hl4 nl hb
    refine aw (ag.of ha5) (v:=.ref b) rfl ?_
    obtain⟨v1,hv1,_,hp1⟩:=il (fun _ _ z=>z.1) pk qi.nd p4
    have hf5:upd H4 l (.lst (bj ks++[.int (k:Int)])) f=some (.dT kvs):=by
     rw[aG (cg (e4 _ _ hf) hl4 (by intro z;cases z))];exact e4 _ _ hf
    have eH:Ext H (upd H4 l (.lst (bj ks++[.int (k:Int)]))):=bJ e4 hln
    refine⟨f,v1,rfl,by rw[←hv1];exact cf.t hf5 (k:=aS p) hb5,?_⟩
    walk_at "rd"
    refine⟨d,by omega,v1,(p,d,o),ks++[k],rfl,eH,by rw[aI,mX],p4,hp1.ext eH,rfl,by rw[List.length_append];simp;omega,?_⟩
    rw[List.reverse_append]
    show(nx p k).bind _=_
    rw[p2]
    exact hgo
  ·rintro σ H4 ⟨v,ks,rfl,e4,hl4,hks,hgo⟩
   walk_at "rd"
   refine uX (af.of hl4) (ao fun r H5 e5 hr hrn=>?_)
   refine qq r H5 ks.reverse (e4.trans e5) ?_ (e4.none hrn) (by rw[List.length_reverse];exact hks) hgo
   rw[hr,←List.map_reverse]
def ur(K:PySem.W.Frag):Sp:=fun vs H Q _=>∃v m ws pa ga x g,vs=[v,.ref pa,.ref ga]/\aM H v m ws/\HOuse m ws/\aY H pa x/\aY H ga g/\fH m x/\fH m g ∧
 ((∀n,¬Bfs.cz (bD ws (bN m x g)) x n g)->∀H',Ext H H'->Q .non H')/\∀n l H' ks,Bfs.cz (bD ws (bN m x g)) x n g->n<=24012->Ext H H'->H l=none->H' l=some (.lst (bj ks))->ks.length=n->Bfs.gone (nx:=bD ws (bN m x g)) x ks=some g->Q (.ref l) H'
abbrev jI:Stmt:=stq 36
theorem qH:FnScope ["house","place","goal","found"] ["house","place","goal"] (aC jI):=⟨rfl,rfl,rfl,by decide +kernel,rfl,by decide +kernel,by decide +kernel⟩
theorem B2{P:Program}{w:World}{K:PySem.W.Frag}{mg:Str->Option Value}{base:Heap}(D:Dfn K mg "sought_walk" jI ["house","place","goal"])(T:Blt mg)(C_walk_back:Cal P w K mg base "walk_back" 1 ["found","goal"] (sy K))(C_found_from:Cal P w K mg base "found_from" 3 ["house","place","goal"] (nZ K)):Cal P w K mg base "sought_walk" 4 ["house","place","goal"] (ur K):=by
 have nd:=(qH).nd
 refine D.ok qH (fun vs H Q E h=>?_) (fun X hX H vs Q E h=>?_)
 ·obtain⟨v,m,ws,pa,ga,x,g,rfl,_⟩:=h;rfl
 ·obtain⟨f,cdv,A,outer,s,H0,E0,rfl,hr⟩:=hX
  obtain⟨v,m,ws,pa,ga,x,g,rfl,hv,ok,hx,hg,ix,ig,qn,qy⟩:=h
  refine⟨_,(ah (az (i:=3) nd rfl (Or.inl rfl) (au C_found_from hr (aa (pv 0) (aa (pv 1) (aa (pv 2) ab)))))
    (ah (bt (ng (m7 (dP hr) (pv 2) (pv 3)) (by with_unfolding_all rfl)) (aj (aA ik)) aO)
    (aj (aA (au C_walk_back hr (aa (pv 3) (aa (pv 2) ab))))))),?_⟩
  walk_at "rd"
  refine⟨v,m,ws,pa,ga,x,g,rfl,hv,ok,hx,hg,ix,ig,fun f H1 kvs q i B e1 hf pk qi hql hend=>?_⟩
  generalize bN m x g=T at qn qy qi
  walk_at "rd"
  refine⟨f,_,rfl,cf.t hf (k:=aS g) (e1 _ _ hg),?_⟩
  by_cases hgk:g∈q.map (·.1)
  ·obtain⟨e,he,rfl⟩:=List.mem_map.mp hgk
   obtain⟨v1,hv1,_⟩:=il (fun _ _ z=>z.1) pk qi.nd he
   rw[hv1]
   refine rd_exb (ay ?_)
   walk_at "rd"
   have hd:=qi.dist he
   have hlv:e.2.1<=24012:=Nat.le_trans (qi.deep he) hql
   refine⟨f,ga,kvs,q,bD ws T,x,i,B,e,rfl,hf,pk,qi,e1 _ _ hg,he,hlv,fun l H2 ks e2 hl hln hks hgo=>?_⟩
   exact qy _ l H2 ks hd hlv (e1.trans e2) (e1.none hln) hl hks hgo
  ·rw[fY (fun _ _ z=>z.1) pk hgk]
   refine rd_exb (aD ?_)
   walk_at "rd"
   refine qn (fun n=>?_) H1 e1
   rcases hend with h | h
   ·subst h
    exact qi.done hgk n
   ·exact absurd h hgk
def vv(K:PySem.W.Frag):Sp:=fun vs H Q _=>∃v m ws pa ga x g,vs=[v,.ref pa,.ref ga]/\aM H v m ws/\HOuse m ws/\aY H pa x/\aY H ga g/\fH m x/\fH m g ∧
 ((∀n,¬Bfs.cz (bD ws (bN m x g)) x n g)->∀H',Ext H H'->Q .non H')/\∀n l H' ks,Bfs.cz (bD ws (bN m x g)) x n g->n<=24012->Ext H H'->H l=none->H' l=some (.lst (bj ks))->ks.length=n->Bfs.gone (nx:=bD ws (bN m x g)) x ks=some g->Q (.ref l) H'
abbrev jS:Stmt:=stq 37
theorem pF:FnScope ["house","place","goal"] ["house","place","goal"] (aC jS):=⟨rfl,rfl,rfl,by decide +kernel,rfl,by decide +kernel,by decide +kernel⟩
theorem xK{P:Program}{w:World}{K:PySem.W.Frag}{mg:Str->Option Value}{base:Heap}(D:Dfn K mg "shortest" jS ["house","place","goal"])(T:Blt mg)(C_sought_walk:Cal P w K mg base "sought_walk" 4 ["house","place","goal"] (ur K))(C_refuse_bad_places:Cal P w K mg base "refuse_bad_places" 3 ["house","places"] (qd K))(C_refuse_no_house:Cal P w K mg base "refuse_no_house" 6 ["thing"] (gm K)):Cal P w K mg base "shortest" 7 ["house","place","goal"] (vv K):=by
 have nd:=(pF).nd
 refine D.ok pF (fun vs H Q E h=>?_) (fun X hX H vs Q E h=>?_)
 ·obtain⟨v,m,ws,pa,ga,x,g,rfl,_⟩:=h;rfl
 ·obtain⟨f,cdv,A,outer,s,H0,E0,rfl,hr⟩:=hX
  obtain⟨v,m,ws,pa,ga,x,g,rfl,hv,ok,hx,hg,ix,ig,qn,qy⟩:=h
  refine⟨_,(ah (aV (au C_refuse_no_house hr (aa (pv 0) ab)))
    (ah (aV (au C_refuse_bad_places hr (aa (pv 0) (aa (aR (aa (pv 1) (aa (pv 2) ab))) ab))))
    (aj (aA (au C_sought_walk hr (aa (pv 0) (aa (pv 1) (aa (pv 2) ab)))))))),?_⟩
  walk_at "rd"
  refine⟨v,m,ws,rfl,hv,ok,fun H1 e1=>?_⟩
  walk_at "rd"
  refine⟨av (by simp),ao fun l H2 e2 hl _=>?_⟩
  walk_at "rd"
  have e12:=e1.trans e2
  obtain⟨hh,t,rfl,g1,g2⟩:=hv.ext e12
  refine⟨hh,_,m,l,[pa,ga],[x,g],rfl,g1,hl,.cons (e12 _ _ hx) (.cons (e12 _ _ hg) .nil),?_,?_⟩
  ·intro y hy
   rcases List.mem_cons.mp hy with rfl | hy
   ·exact ix
   ·rw[List.mem_singleton]at hy
    subst hy
    exact ig
  walk_at "rd"
  exact⟨_,m,ws,pa,ga,x,g,rfl,⟨hh,t,rfl,g1,g2⟩,ok,e12 _ _ hx,e12 _ _ hg,ix,ig,fun h H' e=>qn h H' (e12.trans e),fun n l H' ks hd hn e hln hl hks hgo=>qy n l H' ks hd hn (e12.trans e) (e12.none hln) hl hks hgo⟩
def cQ(d:Str)(b:Nat):Nat:=if decide (d = "up")=true then b*2 else if decide (d = "down")=true then b / 2 else if decide (d = "zero")=true then b &&& 1 else b
theorem kO(b:Nat):cQ "up" b=b*2:=by unfold cQ;rw[cA];rfl
theorem lW(b:Nat):cQ "down" b=b / 2:=by unfold cQ;rw[jH,cA];rfl
theorem mJ(b:Nat):cQ "stay" b=b:=by unfold cQ;rw[kb,gZ,decide_eq_false (show ¬(Str.ofString "stay")=Str.ofString "zero" by decide +kernel)];rfl
theorem lM(b:Nat):cQ "zero" b=b &&& 1:=by unfold cQ;rw[jx,hZ,cA];rfl
theorem lA(n:Nat):(1:Nat).testBit n=decide (n=0):=by
 cases n with
 | zero=>rfl
 | succ n=>rw[Nat.testBit_succ];simp
theorem iP{d:Str}(hd:bq d)(b n':Nat):(cQ d b).testBit n'=true↔∃n:Nat,b.testBit n=true/\bu d (n:Int)=some (n':Int):=by
 rcases hd with rfl | rfl | rfl | rfl
 ·rw[kO]
  constructor
  ·intro h
   cases n' with
   | zero=>rw[Nat.testBit_zero]at h;simp at h
   | succ n=>
    rw[Nat.testBit_succ,Nat.mul_div_cancel _ (by decide)]at h
    exact⟨n,h,by rw[eo];rfl⟩
  ·rintro⟨n,h,e⟩
   rw[eo]at e
   have:n'=n+1:=by have:=Option.some.inj e;omega
   subst this
   rw[Nat.testBit_succ,Nat.mul_div_cancel _ (by decide)]
   exact h
 ·rw[lW]
  constructor
  ·intro h
   rw[←Nat.testBit_succ]at h
   refine⟨n'+1,h,?_⟩
   rw[dO,decide_eq_true (show(0:Int)<((n'+1:Nat):Int) by omega),if_pos rfl]
   congr 1;omega
  ·rintro⟨n,h,e⟩
   rw[dO]at e
   split at e
   ·rename_i g
    have g:=of_decide_eq_true g
    have:n=n'+1:=by have:=Option.some.inj e;omega
    subst this
    rw[←Nat.testBit_succ]
    exact h
   ·cases e
 ·rw[mJ]
  constructor
  ·intro h
   exact⟨n',h,by rw[de]⟩
  ·rintro⟨n,h,e⟩
   rw[de]at e
   have:n=n':=by have:=Option.some.inj e;omega
   subst this
   exact h
 ·rw[lM,Nat.testBit_and,lA,Bool.and_eq_true,decide_eq_true_iff]
  constructor
  ·rintro⟨h,rfl⟩
   exact⟨0,h,by rw[dM];rfl⟩
  ·rintro⟨n,h,e⟩
   rw[dM]at e
   split at e
   ·rename_i g
    have g:=of_decide_eq_true g
    have e:=Option.some.inj e
    have h0:n=0:=by omega
    have h1:n'=0:=by omega
    subst h0
    exact⟨by rw[h1];exact h,h1⟩
   ·cases e
theorem AG{d:Str}(hd:bq d){b k:Nat}(h:b<2 ^ k):cQ d b<2 ^ (k+1):=by
 rw[Nat.pow_succ]
 rcases hd with rfl | rfl | rfl | rfl
 ·rw[kO];omega
 ·rw[lW];omega
 ·rw[mJ];omega
 ·rw[lM]
  have:=Nat.and_le_left (n:=b) (m:=1)
  omega
theorem Cm{a b k:Nat}(ha:a<2 ^ k)(hb:b<2 ^ k):a ||| b<2 ^ k:=Nat.or_lt_two_pow ha hb
def iH(K:PySem.W.Frag):Sp:=fun vs H Q _=>∃v m ws p q,vs=[v,.int p,.int q]/\aM H v m ws/\HOuse m ws/\0<=p/\p<m/\0<=q/\q<m/\∀H',Ext H H'->Q .non H'
abbrev jo:Stmt:=stq 42
theorem sq:FnScope ["house","p","q"] ["house","p","q"] (aC jo):=⟨rfl,rfl,rfl,by decide +kernel,rfl,by decide +kernel,by decide +kernel⟩
theorem Ay{P:Program}{w:World}{K:PySem.W.Frag}{mg:Str->Option Value}{base:Heap}(D:Dfn K mg "refuse_bad_rooms" jo ["house","p","q"])(T:Blt mg)(C_is_room:Cal P w K mg base "is_room" 2 ["thing","many"] (i4 K))(C_refuse_no_house:Cal P w K mg base "refuse_no_house" 6 ["thing"] (gm K)):Cal P w K mg base "refuse_bad_rooms" 7 ["house","p","q"] (iH K):=by
 have nd:=(sq).nd
 refine D.ok sq (fun vs H Q E h=>?_) (fun X hX H vs Q E h=>?_)
 ·obtain⟨v,m,ws,p,q,rfl,_⟩:=h;rfl
 ·obtain⟨f,cdv,A,outer,s,H0,E0,rfl,hr⟩:=hX
  obtain⟨v,m,ws,p,q,rfl,hv,ok,p0,p1,q0,q1,qq⟩:=h
  refine⟨_,(ah (aV (au C_refuse_no_house hr (aa (pv 0) ab)))
    (aj (bt (PW.pt (df (dv (cH (au C_is_room hr (aa (pv 1) (aa (ai (ax K) (pv 0) ae (fun _ _=>rfl)) ab))))) (eA (dv (cH (au C_is_room hr (aa (pv 2) (aa (ai (ax K) (pv 0) ae (fun _ _=>rfl)) ab)))))))) (aj fh) aO))),?_⟩
  walk_at "rd"
  refine⟨v,m,ws,rfl,hv,ok,fun H1 e1=>?_⟩
  obtain⟨hh,t,rfl,g1,g2⟩:=hv.ext e1
  walk_at "rd"
  refine aw (ag.of g1) (v:=.int m) rfl ?_
  walk_at "rd"
  refine⟨_,_,rfl,p0,p1,?_⟩
  walk_at "rd"
  refine ay ?_
  walk_at "rd"
  refine aw (ag.of g1) (v:=.int m) rfl ?_
  walk_at "rd"
  refine⟨_,_,rfl,q0,q1,?_⟩
  walk_at "rd"
  refine ay ?_
  walk_at "rd"
  exact qq H1 e1
def aW(m r:Int):List Nat:=(List.range m.toNat).map fun i:Nat=>if(i:Int)=r then 1 else 0
theorem dm(m r:Int):(aW m r).length=m.toNat:=by unfold aW;rw[List.length_map,List.length_range]
theorem y9{m r:Int}{i:Nat}(h:i<m.toNat):(aW m r).take (i+1)=(aW m r).take i++[if(i:Int)=r then 1 else 0]:=by
 rw[List.take_succ]
 congr 1
 unfold aW
 rw[List.getElem?_map,List.getElem?_range h]
 rfl
def kg(K:PySem.W.Frag):Sp:=fun vs H Q _=>∃v m ws r,vs=[v,.int r]/\aM H v m ws/\HOuse m ws/\∀l H',Ext H H'->H' l=some (.lst (bj (aW m r)))->H l=none->Q (.ref l) H'
abbrev kD:Stmt:=stq 43
theorem oR:FnScope ["house","room"] ["house","room"] (aC kD):=⟨rfl,rfl,rfl,by decide +kernel,rfl,by decide +kernel,by decide +kernel⟩
theorem yA{P:Program}{w:World}{K:PySem.W.Frag}{mg:Str->Option Value}{base:Heap}(D:Dfn K mg "alone_at_zero" kD ["house","room"])(T:Blt mg):Cal P w K mg base "alone_at_zero" 1 ["house","room"] (kg K):=by
 have nd:=(oR).nd
 refine D.ok oR (fun vs H Q E h=>?_) (fun X hX H vs Q E h=>?_)
 ·obtain⟨v,m,ws,r,rfl,_⟩:=h;rfl
 ·obtain⟨f,cdv,A,outer,s,H0,E0,rfl,hr⟩:=hX
  obtain⟨v,m,ws,r,rfl,⟨hh,t,rfl,g1,g2⟩,ok,q⟩:=h
  have m1:=ok.m1
  have m2:=ok.m12
  refine⟨_,(aj (aA (cE ["other"] [1] (cW rfl T.range_ (aa (ai (ax K) (pv 0) ae (fun _ _=>rfl)) ab)) (fun _=>(aB (i:=0) (show(["other","room"]:List Str).Nodup from by decide +kernel) rfl (Or.inl rfl) (Or.inr rfl))) (fun _=>cN) (fun _=>(CG (aL bE (pv 0) (pv 1) (aF _)) ae ae))))),?_⟩
  walk_at "rd"
  refine aw (ag.of g1) (v:=.int m) rfl ?_
  walk_at "rd"
  refine cV ⟨by omega,by omega⟩ ?_
  refine pb (fun i ys H'=>H'=H/\ys=bj ((aW m r).take i)) (bG (by omega)) ⟨rfl,rfl⟩ (fun i ys H' _ h=>by rw[h.2,List.length_map,List.length_take];omega) ?_ ?_
  ·rintro i ys H' hi ⟨rfl,rfl⟩
   walk_at "rd"
   refine aD ?_
   walk_at "rd"
   rw[y9 hi,mX]
   by_cases e:(i:Int)=r
   ·rw[decide_eq_true (show 0+(i:Int)=r by omega),if_pos e]
    refine aD ?_
    walk_at "rd"
    exact⟨rfl,rfl⟩
   ·rw[decide_eq_false (show ¬0+(i:Int)=r by omega),if_neg e]
    refine ay ?_
    walk_at "rd"
    exact⟨rfl,rfl⟩
  ·rintro ys H' l ⟨rfl,rfl⟩ hl
   rw[List.take_of_length_le (by rw[dm];exact Nat.le_refl _)]
   exact q l _ (aX hl) aI hl
def vk(K:PySem.W.Frag):Sp:=fun vs H Q _=>∃d b,vs=[.str d,.int ((b:Nat):Int)]/\bq d/\b<2 ^ 25001/\Q (.int ((cQ d b:Nat):Int)) H
abbrev jg:Stmt:=stq 44
theorem qe:FnScope ["deed","bits"] ["deed","bits"] (aC jg):=⟨rfl,rfl,rfl,by decide +kernel,rfl,by decide +kernel,by decide +kernel⟩
theorem wQ{P:Program}{w:World}{K:PySem.W.Frag}{mg:Str->Option Value}{base:Heap}(D:Dfn K mg "led_bits" jg ["deed","bits"])(T:Blt mg):Cal P w K mg base "led_bits" 1 ["deed","bits"] (vk K):=by
 have nd:=(qe).nd
 refine D.ok qe (fun vs H Q E h=>?_) (fun X hX H vs Q E h=>?_)
 ·obtain⟨d,b,rfl,_⟩:=h;rfl
 ·obtain⟨f,cdv,A,outer,s,H0,E0,rfl,hr⟩:=hX
  obtain⟨d,b,rfl,hd,hb,q⟩:=h
  refine⟨_,(ah (bt (aL bE (pv 0) aH (aF _)) (aj (aA (ak Bm (pv 1) ae))) aO)
    (ah (bt (aL bE (pv 0) aH (aF _)) (aj (aA (ak vX (pv 1) ae))) aO)
    (ah (bt (aL bE (pv 0) aH (aF _)) (aj (aA (ak sM (pv 1) ae))) aO)
    (aj (aA (pv 1)))))),?_⟩
  walk_at "rd"
  refine bz ?_
  refine rd_exb ?_
  rcases hd with rfl | rfl | rfl | rfl
  ·rw[cA]
   rw[kO]at q
   refine aD ?_
   walk_at "rd"
   refine rd_I (show rq _ _ from⟨by decide,by decide,?_⟩) ?_
   ·rw[Int.natAbs_natCast]
    by_cases h0:b=0
    ·subst h0;decide
    ·exact Nat.lt_of_lt_of_le ((Nat.log2_lt h0).mpr hb) (by decide)
   ·exact q
  ·rw[jH]
   refine ay ?_
   walk_at "rd"
   refine bz ?_
   rw[cA]
   rw[lW]at q
   refine rd_exb (aD ?_)
   walk_at "rd"
   try refine rd_I (show(0:Int)<=1 by decide) ?_
   exact q
  ·rw[kb]
   refine ay ?_
   walk_at "rd"
   refine bz ?_
   rw[gZ]
   refine rd_exb (ay ?_)
   walk_at "rd"
   refine bz ?_
   rw[decide_eq_false (show ¬(Str.ofString "stay")=Str.ofString "zero" by decide +kernel)]
   refine rd_exb (ay ?_)
   rw[mJ]at q
   walk_at "rd"
   exact q
  ·rw[jx]
   refine ay ?_
   walk_at "rd"
   refine bz ?_
   rw[hZ]
   refine rd_exb (ay ?_)
   walk_at "rd"
   refine bz ?_
   rw[cA]
   refine rd_exb (aD ?_)
   rw[lM]at q
   walk_at "rd"
   rw[show (1:Int)=((1:Nat):Int)from rfl,tI]
   exact q
def dW(ps:List Nat)(L:List Nat)(w:Way):List Nat:=L.set w.other.toNat (L.getD w.other.toNat 0 ||| cQ w.deed (ps.getD w.room.toNat 0))
def b9(us:List Way)(ps:List Nat):List Nat:=us.foldl (dW ps) (List.replicate ps.length 0)
theorem uS(ps L:List Nat)(w:Way):(dW ps L w).length=L.length:=by unfold dW;rw[List.length_set]
theorem qD(ps:List Nat):∀(us:List Way) (L:List Nat),(us.foldl (dW ps) L).length=L.length
 | [],L=>rfl
 | w::us,L=>by rw[List.foldl_cons,qD ps us,uS]
theorem gg(us:List Way)(ps:List Nat):(b9 us ps).length=ps.length:=by unfold b9;rw[qD,List.length_replicate]
theorem wZ{us:List Way}{ps:List Nat}{i:Nat}{w:Way}(h:us[i]?=some w):b9 (us.take (i+1)) ps=dW ps (b9 (us.take i) ps) w:=by
 unfold b9
 rw[List.take_succ,h,List.foldl_append]
 rfl
theorem mW{L:List Nat}{k:Nat}(h:∀b∈L,b<2 ^ k)(i:Nat):L.getD i 0<2 ^ k:=by
 rw[List.getD_eq_getElem?_getD]
 cases e:L[i]? with
 | none=>exact Nat.two_pow_pos _
 | some b=>exact h b (List.mem_of_getElem? e)
theorem zU{L:List Nat}{i b x:Nat}(h:x∈L.set i b):x∈L\/x=b:=by
 rcases List.mem_or_eq_of_mem_set h with z | z
 ·exact .inl z
 ·exact .inr z
theorem rM{ps:List Nat}{k:Nat}(hp:∀b∈ps,b<2 ^ k):∀(us:List Way) (L:List Nat),(∀w∈us,bq w.deed)->(∀b∈L,b<2 ^ (k+1))->∀b∈us.foldl (dW ps) L,b<2 ^ (k+1)
 | [],L,_,h=>h
 | w::us,L,hu,h=>by
  rw[List.foldl_cons]
  refine rM hp us _ (fun u hu'=>hu u (List.mem_cons_of_mem _ hu')) fun b hb=>?_
  rcases zU hb with z | z
  ·exact h b z
  ·rw[z]
   exact Cm (mW h _) (AG (hu w List.mem_cons_self) (mW hp _))
theorem lF{us:List Way}{ps:List Nat}{k:Nat}(hu:∀w∈us,bq w.deed)(hp:∀b∈ps,b<2 ^ k):∀b∈b9 us ps,b<2 ^ (k+1):=
 rM hp us _ hu fun b hb=>by
  rw[List.eq_of_mem_replicate hb]
  exact Nat.two_pow_pos _
theorem BR{K:PySem.W.Frag}{a:Addr}{xs:List V}{g:TG}{tb:TS}{D:Ends}{σ:St}{H:Hp}(Pv:Nat->St->Hp->Prop)(h0:Pv 0 σ H)(hl:(∀i σ H,Pv i σ H->af K H a xs)\/(∀i σ H,Pv i σ H->ag K H a xs))
  (hs:∀i x σ H,xs[i]?=some x->Pv i σ H->g x σ H fun σ2 H2=>tb ⟨Pv (i+1),D.rt,D.nx,Pv (i+1)⟩ σ2 H2) (hd:∀σ H,Pv xs.length σ H->D.nx σ H) :
  (((∃xs,af K H a xs)/\fg (bY K a) g tb D σ H)\/((∃xs,ag K H a xs)/\fg (bS K a) g tb D σ H)):=by
 rcases hl with hl | hl
 ·exact .inl ⟨⟨xs,hl 0 σ H h0⟩,forL Pv h0 (fun i σ H _ h=>hl i σ H h) hs hd⟩
 ·exact .inr ⟨⟨xs,hl 0 σ H h0⟩,rV Pv h0 (fun i σ H _ h=>hl i σ H h) hs hd⟩
def jT(K:PySem.W.Frag):Sp:=fun vs H Q _=>∃wl pl bs us ps m,vs=[.ref wl,.ref pl]/\(H wl=some (.lst (List.map V.ref bs))\/H wl=some (.tup (List.map V.ref bs)))/\aE H bs us/\(∀w∈us,w.Ok m)/\H pl=some (.lst (bj ps))/\(ps.length:Int)=m/\m<=12/\(∀b∈ps,b<2 ^ 25000)/\us.length<=100 ∧
 ∀l H',Ext H H'->H' l=some (.lst (bj (b9 us ps)))->H l=none->Q (.ref l) H'
theorem Cw(L:List Nat)(i b:Nat):(bj L).set i (.int (b:Int))=bj (L.set i b):=by
 unfold bj
 rw[List.map_set]
theorem oI{L:List Nat}{r:Int}(h0:0<=r)(h1:r<L.length):bR (bj L) r=some (.int ((L.getD r.toNat 0:Nat):Int)):=by
 refine ic h0 ?_
 rw[List.getElem?_map,List.getElem?_eq_getElem (by omega),List.getD_eq_getElem?_getD,List.getElem?_eq_getElem (by omega)]
 rfl
abbrev iE:Stmt:=stq 45
theorem n6:FnScope ["ways","places","led","way"] ["ways","places"] (aC iE):=⟨rfl,rfl,rfl,by decide +kernel,rfl,by decide +kernel,by decide +kernel⟩
theorem yY{P:Program}{w:World}{K:PySem.W.Frag}{mg:Str->Option Value}{base:Heap}(D:Dfn K mg "led_on" iE ["ways","places"])(T:Blt mg)(C_led_bits:Cal P w K mg base "led_bits" 1 ["deed","bits"] (vk K)):Cal P w K mg base "led_on" 2 ["ways","places"] (jT K):=by
 have nd:=(n6).nd
 refine D.ok n6 (fun vs H Q E h=>?_) (fun X hX H vs Q E h=>?_)
 ·obtain⟨wl,pl,bs,us,ps,m,rfl,_⟩:=h;rfl
 ·obtain⟨f,cdv,A,outer,s,H0,E0,rfl,hr⟩:=hX
  obtain⟨wl,pl,bs,us,ps,m,rfl,hw,al,ok,hp,hm,m2,hlt,h100,q⟩:=h
  refine⟨_,(ah (az (i:=2) nd rfl (Or.inl rfl) (ak j4 (aR (aa ae ab)) (aU (cB K) rfl T.len_ PySem.boot_len (aa (pv 1) ab))))
    (ah (bC PassesOwn.never rfl (BQ K (pv 0)) (aB (i:=3) nd rfl (Or.inl rfl)) (aj (ju (ak BI (ai (aJ K) (pv 2) (ai (ax K) (pv 3) ae (fun _ _=>rfl)) (fun _ _=>rfl)) (au C_led_bits hr (aa (ai (ax K) (pv 3) ae (fun _ _=>rfl)) (aa (ai (aJ K) (pv 1) (ai (ax K) (pv 3) ae (fun _ _=>rfl)) (fun _ _=>rfl)) ab)))) (v7 (pv 2) (ai (ax K) (pv 3) ae (fun _ _=>rfl)) set_list))))
    (aj (aA (pv 2))))),?_⟩
  walk_at "rd"
  refine⟨av (by simp),ao fun z H1 e1 hz _=>?_⟩
  walk_at "rd"
  refine dg (af.of (e1 _ _ hp)) ?_
  walk_at "rd"
  rw[List.length_map]
  refine iO hz ⟨by omega,by omega⟩ (bG (by rw[Int.toNat_natCast];simp;omega)) (ao fun l H2 e2 hl hln=>?_)
  rw[Int.toNat_natCast,show (List.replicate ps.length [V.int 0]).flatten=bj (List.replicate ps.length 0) by
   unfold bj
   rw[List.map_replicate]
   induction ps.length with
   | zero=>rfl
   | succ n ih=>rw[List.replicate_succ,List.replicate_succ,List.flatten_cons,ih];rfl]at hl
  have e12:=e1.trans e2
  have hlnH:H l=none:=e1.none hln
  walk_at "rd"
  refine⟨wl,rfl,BR (xs:=List.map V.ref bs) (fun i σ H'=>∃k,σ=[some (.ref wl),some (.ref pl),some (.ref l),k]/\Ext H H'/\H' l=some (.lst (bj (b9 (us.take i) ps)))) ⟨none,rfl,e12,hl⟩ ?_ ?_ ?_⟩
  ·rcases hw with hw | hw
   ·exact .inl fun i σ H' h=>by obtain⟨_,_,e,_⟩:=h;exact af.of (e _ _ hw)
   ·exact .inr fun i σ H' h=>by obtain⟨_,_,e,_⟩:=h;exact ag.of (e _ _ hw)
  ·rintro i u σ H3 hu ⟨k,rfl,e3,hl3⟩
   rw[List.getElem?_map]at hu
   obtain⟨b,hb,rfl⟩:=Option.map_eq_some_iff.mp hu
   have hi:i<us.length:=by
    rw[←al.1]
    exact(List.getElem?_eq_some_iff.mp hb).1
   have hwi:us[i]?=some us[i]:=List.getElem?_eq_getElem hi
   have hwt:=e3 _ _ (al.2 i b _ hb hwi)
   have okw:=ok _ (List.getElem_mem hi)
   rw[wZ hwi]
   generalize us[i]=w at hwt okw
   have hlen:=gg (us.take i) ps
   have hrange:=gg (us.take i) ps
   generalize b9 (us.take i) ps=L at hl3 hlen
   have r0:=okw.r0
   have r1:=okw.r1
   have o0:=okw.o0
   have o1:=okw.o1
   walk_at "rd"
   refine aw (ag.of hwt) (v:=.int w.other) rfl ?_
   walk_at "rd"
   refine aK (af.of hl3) (oI o0 (by omega)) ?_
   walk_at "rd"
   refine aw (ag.of hwt) (v:=.str w.deed) rfl ?_
   walk_at "rd"
   refine aw (ag.of hwt) (v:=.int w.room) rfl ?_
   walk_at "rd"
   refine aK (af.of (e3 _ _ hp)) (oI r0 (by omega)) ?_
   walk_at "rd"
   refine⟨w.deed,_,rfl,okw.dd,Nat.lt_of_lt_of_le (mW hlt _) (Nat.pow_le_pow_right (by decide) (by decide)),?_⟩
   walk_at "rd"
   rw[xF]
   refine aw (ag.of hwt) (v:=.int w.other) rfl ?_
   walk_at "rd"
   refine xp hl3 (j:=w.other.toNat) ?_ ?_
   ·rw[List.length_map]
    exact pz o0 (by omega)
   rw[Cw]
   exact⟨_,rfl,bJ e3 hlnH,aI⟩
  ·rintro σ H3 ⟨k,rfl,e3,hl3⟩
   rw[List.length_map,al.1,List.take_length]at hl3
   walk_at "rd"
   exact q l H3 e3 hl3 hlnH
def dB(ps qs:List Nat):Bool:=(List.zipWith (fun a b=>!decide ((a &&& b:Nat)=0)) ps qs).any id
def i7(K:PySem.W.Frag):Sp:=fun vs H Q _=>∃a b ps qs,vs=[.ref a,.ref b]/\H a=some (.lst (bj ps))/\H b=some (.lst (bj qs))/\ps.length=qs.length/\ps.length<=12/\∀H',Ext H H'->Q (.bl (dB ps qs)) H'
abbrev iU:Stmt:=stq 46
theorem qA:FnScope ["places","others"] ["places","others"] (aC iU):=⟨rfl,rfl,rfl,by decide +kernel,rfl,by decide +kernel,by decide +kernel⟩
theorem wu{P:Program}{w:World}{K:PySem.W.Frag}{mg:Str->Option Value}{base:Heap}(D:Dfn K mg "share_one" iU ["places","others"])(T:Blt mg):Cal P w K mg base "share_one" 1 ["places","others"] (i7 K):=by
 have nd:=(qA).nd
 refine D.ok qA (fun vs H Q E h=>?_) (fun X hX H vs Q E h=>?_)
 ·obtain⟨a,b,ps,qs,rfl,_⟩:=h;rfl
 ·obtain⟨f,cdv,A,outer,s,H0,E0,rfl,hr⟩:=hX
  obtain⟨a,b,ps,qs,rfl,ha,hb,hl,h12,q⟩:=h
  refine⟨_,(aj (aA (aU (Cs K rfl) rfl T.any_ PyProof.Rows.boot_any (aa (cE ["bits","beside"] [] (Cu K rfl T.zip_ (aa (pv 0) (aa (pv 1) ab))) (fun _=>(dZ (n:=2) K rfl (bo (aB (i:=0) (show(["bits","beside"]:List Str).Nodup from by decide +kernel) rfl (Or.inl rfl) (Or.inr rfl)) (bo (aB (i:=1) (show(["bits","beside"]:List Str).Nodup from by decide +kernel) rfl (Or.inl rfl) (Or.inr rfl)) dw)))) (fun _=>cN) (fun _=>(fb fV (ak sM (pv 0) (pv 1)) ae (aF _)))) ab)))),?_⟩
  walk_at "rd"
  refine BP (af.of ha) (af.of hb) ?_
  refine xn (xs:=bj ps) (ys:=bj qs) (fun i zs H'=>Ext H H'/\zs=((List.zipWith (fun a b=>!decide ((a &&& b:Nat)=0)) ps qs).take i).map V.bl) (bG (by rw[List.length_map];omega)) ⟨Ext.rfl' _,rfl⟩ (fun i zs H' h=>⟨af.of (h.1 _ _ ha),af.of (h.1 _ _ hb),by rw[h.2,List.length_map,List.length_take];omega⟩) ?_ ?_
  ·rintro i u v zs H1 p H2 hu hv ⟨e1,rfl⟩ e2 hp _
   rw[List.getElem?_map]at hu hv
   obtain⟨x,hx,rfl⟩:=Option.map_eq_some_iff.mp hu
   obtain⟨y,hy,rfl⟩:=Option.map_eq_some_iff.mp hv
   refine dX (ag.of hp) rfl ?_
   walk_at "rd"
   refine aD ?_
   walk_at "rd"
   rw[tI]
   refine⟨e1.trans e2,?_⟩
   rw[List.take_succ,List.getElem?_zipWith,hx,hy,List.map_append]
   congr 1
   show[V.bl _]=[V.bl _]
   congr 2
   by_cases h0:(x &&& y:Nat)=0
   ·rw[decide_eq_true h0,decide_eq_true (show((x &&& y:Nat):Int)=0 by omega)]
   ·rw[decide_eq_false h0,decide_eq_false (show ¬((x &&& y:Nat):Int)=0 by omega)]
  ·rintro zs H1 l ⟨e1,rfl⟩ hl1
   walk_at "rd"
   rw[List.length_map,List.length_map,List.take_of_length_le (by rw[List.length_zipWith];exact Nat.le_refl _)]
   refine⟨l,_,rfl,af.of aI,?_⟩
   exact q _ (e1.trans (aX hl1))
def cF(ws:List Way)(z:Str):List Way:=ws.filter fun w=>decide (w.sign=z)
theorem wI{ws:List Way}{z:Str}{i:Nat}{w:Way}(h:ws[i]?=some w):cF (ws.take (i+1)) z=cF (ws.take i) z++if w.sign=z then[w]else[]:=by
 unfold cF
 rw[List.take_succ,h,List.filter_append]
 congr 1
 by_cases e:w.sign=z
 ·rw[if_pos e];simp[e]
 ·rw[if_neg e];simp[e]
def kT(K:PySem.W.Frag):Sp:=fun vs H Q _=>∃v m ws z,vs=[v,.str z]/\aM H v m ws/\HOuse m ws/\∀l H' bs,Ext H H'->H' l=some (.lst (List.map V.ref bs))->aE H' bs (cF ws z)->Q (.ref l) H'
abbrev kf:Stmt:=stq 47
theorem o7:FnScope ["house","sign"] ["house","sign"] (aC kf):=⟨rfl,rfl,rfl,by decide +kernel,rfl,by decide +kernel,by decide +kernel⟩
theorem xx{P:Program}{w:World}{K:PySem.W.Frag}{mg:Str->Option Value}{base:Heap}(D:Dfn K mg "ways_of_sign" kf ["house","sign"])(T:Blt mg):Cal P w K mg base "ways_of_sign" 1 ["house","sign"] (kT K):=by
 have nd:=(o7).nd
 refine D.ok o7 (fun vs H Q E h=>?_) (fun X hX H vs Q E h=>?_)
 ·obtain⟨v,m,ws,z,rfl,_⟩:=h;rfl
 ·obtain⟨f,cdv,A,outer,s,H0,E0,rfl,hr⟩:=hX
  obtain⟨v,m,ws,z,rfl,⟨hh,t,rfl,g1,g2⟩,ok,q⟩:=h
  obtain⟨bs,g3,al⟩:=bB.al g2
  have hfew:=ok.few
  refine⟨_,(aj (aA (cE ["way"] [1] (dY K (ai (ax K) (pv 0) ae (fun _ _=>rfl))) (fun _=>(aB (i:=0) (show(["way","sign"]:List Str).Nodup from by decide +kernel) rfl (Or.inl rfl) (Or.inr rfl))) (fun _=>(jB (aL bE (ai (ax K) (pv 0) ae (fun _ _=>rfl)) (pv 1) (aF _)))) (fun _=>(pv 0))))),?_⟩
  walk_at "rd"
  refine aw (ag.of g1) (v:=.ref t) rfl ?_
  refine dQ (ag.of g3) ?_
  refine eS (xs:=bs.map V.ref) (fun i ys H'=>H'=H/\∃cs:List Addr,ys=cs.map V.ref/\aE H cs (cF (ws.take i) z)/\cs.length<=i) (bG (by rw[List.length_map,al.1];omega)) ⟨rfl,[],rfl,aE.nil _,Nat.le_refl _⟩ (fun i ys H' hi h=>⟨by rw[h.1];exact ag.of g3,by obtain⟨_,cs,rfl,_,hc⟩:=h;rw[List.length_map];exact hc⟩) ?_ ?_
  ·rintro i x ys H' hx ⟨rfl,cs,rfl,hc,hcl⟩
   rw[List.getElem?_map]at hx
   obtain⟨b,hb,rfl⟩:=Option.map_eq_some_iff.mp hx
   have hi:i<ws.length:=by
    rw[←al.1]
    exact(List.getElem?_eq_some_iff.mp hb).1
   have hwi:ws[i]?=some ws[i]:=List.getElem?_eq_getElem hi
   have hw:=al.2 i b _ hb hwi
   rw[wI hwi]
   walk_at "rd"
   refine aw (ag.of hw) (v:=.str ws[i].sign) rfl ?_
   walk_at "rd"
   refine bz ?_
   by_cases e:ws[i].sign=z
   ·rw[decide_eq_true e,if_pos e]
    refine rd_exb (aD ?_)
    walk_at "rd"
    exact⟨rfl,cs++[b],by rw[List.map_append];rfl,hc.snoc hw,by rw[List.length_append];simp;omega⟩
   ·rw[decide_eq_false e,if_neg e,List.append_nil]
    refine rd_exb (ay ?_)
    exact⟨rfl,cs,rfl,hc,by omega⟩
  ·rintro ys H' l ⟨rfl,cs,rfl,hc,_⟩ hl
   rw[List.length_map,al.1,List.take_length]at hc
   exact q l _ cs (aX hl) aI (hc.ext (aX hl))
def cD(ws:List Way)(L:List Nat)(cs:List Nat):List Nat:=cs.foldl (fun ps c=>b9 (cF ws ⟨#[c]⟩) ps) L
theorem gr(ws:List Way):∀(cs:List Nat) (L:List Nat),(cD ws L cs).length=L.length
 | [],L=>rfl
 | c::cs,L=>by
  show(cD ws (b9 (cF ws ⟨#[c]⟩) L) cs).length=_
  rw[gr ws cs,gg]
theorem kc(ws:List Way)(L cs:List Nat)(c:Nat):cD ws L (cs++[c])=b9 (cF ws ⟨#[c]⟩) (cD ws L cs):=by
 unfold cD
 rw[List.foldl_append]
 rfl
def gM(m:Int)(ws:List Way)(p q:Int)(cs:List Nat):Bool:=dB (cD ws (aW m p) cs) (aW m q)
theorem nT(m r:Int):∀b∈aW m r,b<2 ^ 1:=by
 intro b hb
 obtain⟨i,_,rfl⟩:=List.mem_map.mp hb
 split<;>decide
theorem kH{ws:List Way}{z:Str}{w:Way}(h:w∈cF ws z):w∈ws/\w.sign=z:=by
 unfold cF at h
 rw[List.mem_filter]at h
 exact⟨h.1,by simpa using h.2⟩
def rN(K:PySem.W.Frag):Sp:=fun vs H Q _=>∃v m ws p q z,vs=[v,.int p,.int q,.str z]/\aM H v m ws/\HOuse m ws/\0<=p/\p<m/\0<=q/\q<m/\z.cps.size<=200/\∀H',Ext H H'->Q (.bl (gM m ws p q z.cps.toList)) H'
abbrev kx:Stmt:=stq 49
theorem rd:FnScope ["house","p","q","text","places","sign"] ["house","p","q","text"] (aC kx):=⟨rfl,rfl,rfl,by decide +kernel,rfl,by decide +kernel,by decide +kernel⟩
theorem Bq{P:Program}{w:World}{K:PySem.W.Frag}{mg:Str->Option Value}{base:Heap}(D:Dfn K mg "reads" kx ["house","p","q","text"])(T:Blt mg)(g_LONGEST_TEXT:∃t,mg "LONGEST_TEXT" = some (.int 200 t))(C_share_one:Cal P w K mg base "share_one" 1 ["places","others"] (i7 K))(C_alone_at_zero:Cal P w K mg base "alone_at_zero" 1 ["house","room"] (kg K))(C_led_on:Cal P w K mg base "led_on" 2 ["ways","places"] (jT K))(C_ways_of_sign:Cal P w K mg base "ways_of_sign" 1 ["house","sign"] (kT K))(C_refuse_bad_rooms:Cal P w K mg base "refuse_bad_rooms" 7 ["house","p","q"] (iH K)):Cal P w K mg base "reads" 8 ["house","p","q","text"] (rN K):=by
 have nd:=(rd).nd
 refine D.ok rd (fun vs H Q E h=>?_) (fun X hX H vs Q E h=>?_)
 ·obtain⟨v,m,ws,p,q,z,rfl,_⟩:=h;rfl
 ·obtain⟨f,cdv,A,outer,s,H0,E0,rfl,hr⟩:=hX
  obtain⟨t_LONGEST_TEXT,c_LONGEST_TEXT⟩:=g_LONGEST_TEXT
  obtain⟨v,m,ws,p,q,z,rfl,hv,ok,p0,p1,q0,q1,hz,qq⟩:=h
  have m1:=ok.m1
  have m2:=ok.m12
  have hfew:=ok.few
  refine⟨_,(ah (aV (au C_refuse_bad_rooms hr (aa (pv 0) (aa (pv 1) (aa (pv 2) ab)))))
    (ah (bt (aL eB (aU vh rfl T.len_ PySem.boot_len (aa (pv 3) ab)) (fx (v:=.int 200) rfl c_LONGEST_TEXT ⟨_,rfl⟩) (aF _)) (aj fh) aO)
    (ah (az (i:=4) nd rfl (Or.inl rfl) (au C_alone_at_zero hr (aa (pv 0) (aa (pv 1) ab))))
    (ah (bC PassesOwn.never rfl (tZ (pv 3)) (aB (i:=5) nd rfl (Or.inl rfl)) (aj (az (i:=4) nd rfl (Or.inl rfl) (au C_led_on hr (aa (au C_ways_of_sign hr (aa (pv 0) (aa (pv 5) ab))) (aa (pv 4) ab))))))
    (aj (aA (au C_share_one hr (aa (pv 4) (aa (au C_alone_at_zero hr (aa (pv 0) (aa (pv 2) ab))) ab))))))))),?_⟩
  walk_at "rd"
  refine⟨v,m,ws,p,q,rfl,hv,ok,p0,p1,q0,q1,fun H1 e1=>?_⟩
  walk_at "rd"
  refine⟨z,rfl,bG (by show z.cps.size<=1000;omega),?_⟩
  walk_at "rd"
  rw[decide_eq_false (show ¬(200:Int)<((z.length:Nat):Int) by show ¬(200:Int)<((z.cps.size:Nat):Int);omega)]
  refine ay ?_
  walk_at "rd"
  refine⟨v,m,ws,p,rfl,hv.ext e1,ok,fun l H2 e2 hl _=>?_⟩
  have e02:=e1.trans e2
  walk_at "rd"
  refine⟨z,rfl,?_⟩
  refine p7 (fun i σ H'=>∃k l,σ=[some v,some (.int p),some (.int q),some (.str z),some (.ref l),k]/\Ext H H'/\H' l=some (.lst (bj (cD ws (aW m p) (z.cps.toList.take i))))/\(∀b∈cD ws (aW m p) (z.cps.toList.take i),b<2 ^ (i+1))) ⟨none,l,rfl,e02,hl,nT m p⟩ ?_ ?_
  ·rintro i c σ H3 hc ⟨k,l3,rfl,e3,hl3,hlt⟩
   have hi:i<z.cps.size:=(Array.getElem?_eq_some_iff.mp hc).1
   have hct:z.cps.toList[i]?=some c:=by rw[Array.getElem?_toList];exact hc
   have htk:z.cps.toList.take (i+1)=z.cps.toList.take i++[c]:=by rw[List.take_succ,hct];rfl
   have hlen:=gr ws (z.cps.toList.take i) (aW m p)
   rw[dm]at hlen
   rw[htk,kc]
   generalize cD ws (aW m p) (z.cps.toList.take i)=ps at hl3 hlt hlen
   walk_at "rd"
   refine⟨v,m,ws,⟨#[c]⟩,rfl,hv.ext e3,ok,fun wl H4 bs e4 hwl al=>?_⟩
   walk_at "rd"
   have hok:∀w∈cF ws ⟨#[c]⟩,w.Ok m:=fun w hw=>ok.ok w (kH hw).1
   refine⟨wl,l3,bs,_,ps,m,rfl,.inl hwl,al,hok,e4 _ _ hl3,by omega,m2,fun b hb=>Nat.lt_of_lt_of_le (hlt b hb) (Nat.pow_le_pow_right (by decide) (by omega)),?_,fun l5 H5 e5 hl5 _=>?_⟩
   ·unfold cF
    exact Nat.le_trans (List.length_filter_le _ _) hfew
   walk_at "rd"
   exact⟨_,l5,rfl,e3.trans (e4.trans e5),hl5,lF (fun w hw=>(hok w hw).dd) hlt⟩
  ·rintro σ H3 ⟨k,l3,rfl,e3,hl3,hlt⟩
   rw[List.take_of_length_le (by rw[Array.length_toList];exact Nat.le_refl _)]at hl3
   have hlen:=gr ws z.cps.toList (aW m p)
   rw[dm]at hlen
   walk_at "rd"
   refine⟨v,m,ws,q,rfl,hv.ext e3,ok,fun l4 H4 e4 hl4 _=>?_⟩
   walk_at "rd"
   exact⟨l3,l4,_,_,rfl,e4 _ _ hl3,hl4,by rw[hlen,dm],by omega,fun H5 e5=>qq _ (e3.trans (e4.trans e5))⟩
def Sg(ws:List Way)(c:Nat)(S:Bfs.Pl->Prop)(y:Bfs.Pl):Prop:=∃x,S x/\∃w∈ws,w.sign=⟨#[c]⟩/\w.room=x.1/\bu w.deed x.2=some y.2/\w.other=y.1
def Rs(ws:List Way)(S:Bfs.Pl->Prop)(cs:List Nat):Bfs.Pl->Prop:=cs.foldl (fun S c=>Sg ws c S) S
theorem ia(ws:List Way)(S:Bfs.Pl->Prop)(cs:List Nat)(c:Nat):Rs ws S (cs++[c])=Sg ws c (Rs ws S cs):=by
 unfold Rs
 rw[List.foldl_append]
 rfl
structure BitsAre(m:Int)(ps:List Nat)(S:Bfs.Pl->Prop):Prop where
 len:ps.length=m.toNat
 bit:∀r n:Nat,(r:Int)<m->((ps.getD r 0).testBit n=true↔S ((r:Int),(n:Int)))
 lo:∀x,S x->0<=x.1/\x.1<m/\0<=x.2
theorem ou{m p:Int}(p0:0<=p)(p1:p<m):BitsAre m (aW m p) fun x=>x=(p,0):=by
 refine⟨dm m p,fun r n hr=>?_,fun x hx=>by rw[hx];exact⟨p0,p1,Int.le_refl 0⟩⟩
 have:(aW m p).getD r 0=if(r:Int)=p then 1 else 0:=by
  unfold aW
  rw[List.getD_eq_getElem?_getD,List.getElem?_map,List.getElem?_range (by omega)]
  rfl
 rw[this]
 constructor
 ·intro h
  split at h
  ·rename_i e
   rw[lA]at h
   have h:=of_decide_eq_true h
   subst h
   rw[e]
   rfl
  ·rw[Nat.zero_testBit]at h
   cases h
 ·intro h
  have h1:(r:Int)=p:=congrArg Prod.fst h
  have h2:(n:Int)=0:=congrArg Prod.snd h
  rw[if_pos h1,lA]
  exact decide_eq_true (by omega)
theorem mV{ps:List Nat}{n:Nat}:∀(us:List Way) (L:List Nat) (o:Nat),o<L.length->(((us.foldl (dW ps) L).getD o 0).testBit n=true↔(L.getD o 0).testBit n=true\/∃w∈us,w.other.toNat=o/\(cQ w.deed (ps.getD w.room.toNat 0)).testBit n=true)
 | [],L,o,_=>by
  constructor
  ·exact fun h=>.inl h
  ·rintro(h | ⟨w,hw,_⟩)
   ·exact h
   ·cases hw
 | w::us,L,o,ho=>by
  rw[List.foldl_cons,mV us (dW ps L w) o (by rw[uS];exact ho)]
  have key:((dW ps L w).getD o 0).testBit n=true↔(L.getD o 0).testBit n=true\/(w.other.toNat=o/\(cQ w.deed (ps.getD w.room.toNat 0)).testBit n=true):=by
   unfold dW
   rw[List.getD_eq_getElem?_getD,List.getElem?_set]
   by_cases e:w.other.toNat=o
   ·subst e
    rw[if_pos rfl,if_pos ho]
    show(L.getD _ 0 ||| _).testBit n=true↔_
    rw[Nat.testBit_or,Bool.or_eq_true]
    constructor
    ·rintro(h | h)
     ·exact .inl h
     ·exact .inr ⟨rfl,h⟩
    ·rintro(h | ⟨_,h⟩)
     ·exact .inl h
     ·exact .inr h
   ·rw[if_neg e,←List.getD_eq_getElem?_getD]
    constructor
    ·exact fun h=>.inl h
    ·rintro(h | ⟨h,_⟩)
     ·exact h
     ·exact absurd h e
  rw[key]
  constructor
  ·rintro((h | h) | ⟨u,hu,h⟩)
   ·exact .inl h
   ·exact .inr ⟨w,List.mem_cons_self,h⟩
   ·exact .inr ⟨u,List.mem_cons_of_mem _ hu,h⟩
  ·rintro(h | ⟨u,hu,h⟩)
   ·exact .inl (.inl h)
   ·rcases List.mem_cons.mp hu with rfl | hu
    ·exact .inl (.inr h)
    ·exact .inr ⟨u,hu,h⟩
theorem zK{m:Int}{ws:List Way}(ok:HOuse m ws){ps:List Nat}{S:Bfs.Pl->Prop}(h:BitsAre m ps S)(c:Nat):BitsAre m (b9 (cF ws ⟨#[c]⟩) ps) (Sg ws c S):=by
 refine⟨by rw[gg,h.len],fun o n ho=>?_,?_⟩
 ·unfold b9
  rw[mV _ _ _ (by rw[List.length_replicate,h.len];omega)]
  have hz:(List.replicate ps.length 0).getD o 0=0:=by
   rw[List.getD_eq_getElem?_getD,List.getElem?_replicate]
   split<;>rfl
  rw[hz,Nat.zero_testBit]
  constructor
  ·rintro(h0 | ⟨w,hw,h1,h2⟩)
   ·cases h0
   ·obtain⟨hw,hs⟩:=kH hw
    have okw:=ok.ok w hw
    obtain⟨k,hk,hst⟩:=(iP okw.dd _ _).mp h2
    have hS:=(h.bit w.room.toNat k (by have:=okw.r0;have:=okw.r1;omega)).mp hk
    rw[show ((w.room.toNat:Nat):Int)=w.room by have:=okw.r0;omega]at hS
    exact⟨_,hS,w,hw,hs,rfl,hst,by show w.other=(o:Int);have:=okw.o0;omega⟩
  ·rintro⟨x,hx,w,hw,hs,hr,hst,hoo⟩
   have okw:=ok.ok w hw
   have lx:=h.lo x hx
   refine .inr ⟨w,?_,by show w.other.toNat=o;have hoo:w.other=(o:Int):=hoo;omega,?_⟩
   ·unfold cF
    rw[List.mem_filter]
    exact⟨hw,by simp[hs]⟩
   ·refine(iP okw.dd _ _).mpr ⟨x.2.toNat,?_,?_⟩
    ·refine(h.bit w.room.toNat x.2.toNat (by have:=okw.r0;have:=okw.r1;omega)).mpr ?_
     rw[show (((w.room.toNat:Nat):Int),((x.2.toNat:Nat):Int))=x from Prod.ext (by have:=okw.r0;show((w.room.toNat:Nat):Int)=x.1;omega) (by show((x.2.toNat:Nat):Int)=x.2;omega)]
     exact hx
    ·rw[show ((x.2.toNat:Nat):Int)=x.2 by omega]
     exact hst
 ·rintro y ⟨x,hx,w,hw,hs,hr,hst,hoo⟩
  have okw:=ok.ok w hw
  rw[←hoo]
  exact⟨okw.o0,okw.o1,gQ okw.dd (h.lo x hx).2.2 hst⟩
theorem iS{m:Int}{ws:List Way}(ok:HOuse m ws){p:Int}(p0:0<=p)(p1:p<m)(cs:List Nat):BitsAre m (cD ws (aW m p) cs) (Rs ws (fun x=>x=(p,0)) cs):=by
 have:∀(k:Nat),k<=cs.length->BitsAre m (cD ws (aW m p) (cs.take k)) (Rs ws (fun x=>x=(p,0)) (cs.take k)):=by
  intro k
  induction k with
  | zero=>intro _;exact ou p0 p1
  | succ k ih=>
   intro hk
   have e:cs.take (k+1)=cs.take k++[cs[k]]:=by rw[List.take_succ,List.getElem?_eq_getElem (by omega)];rfl
   rw[e,kc,ia]
   exact zK ok (ih (by omega)) _
 have:=this cs.length (Nat.le_refl _)
 rwa [List.take_length]at this
theorem yt{m q:Int}{ps:List Nat}{S:Bfs.Pl->Prop}(h:BitsAre m ps S)(q0:0<=q)(q1:q<m):dB ps (aW m q)=true↔S (q,0):=by
 have hS:=h.bit q.toNat 0 (by omega)
 rw[show (((q.toNat:Nat):Int),((0:Nat):Int))=(q,0)from Prod.ext (by show((q.toNat:Nat):Int)=q;omega) rfl]at hS
 rw[←hS]
 unfold dB
 rw[List.any_eq_true]
 constructor
 ·rintro⟨b,hb,hb1⟩
  obtain⟨i,hi⟩:=List.getElem?_of_mem hb
  rw[List.getElem?_zipWith]at hi
  cases e1:ps[i]? with
  | none=>rw[e1]at hi;cases hi
  | some x=>
   cases e2:(aW m q)[i]? with
   | none=>rw[e1,e2]at hi;cases hi
   | some y=>
    rw[e1,e2]at hi
    have hi':(!decide ((x &&& y:Nat)=0))=b:=Option.some.inj hi
    rw[←hi']at hb1
    have hne:¬(x &&& y:Nat)=0:=by simpa using hb1
    have hil:i<m.toNat:=by rw[←dm m q];exact(List.getElem?_eq_some_iff.mp e2).1
    have hy:y=if(i:Int)=q then 1 else 0:=by
     unfold aW at e2
     rw[List.getElem?_map,List.getElem?_range hil]at e2
     exact(Option.some.inj e2).symm
    split at hy
    ·rename_i hq
     subst hy
     have:q.toNat=i:=by omega
     rw[this,List.getD_eq_getElem?_getD,e1]
     show x.testBit 0=true
     rw[Nat.testBit_zero]
     have:=Nat.and_one_is_mod x
     have:x % 2≠0:=by omega
     exact decide_eq_true (by omega)
    ·subst hy
     exact absurd (Nat.and_zero x) hne
 ·intro hb
  have hl:=h.len
  refine⟨true,?_,rfl⟩
  refine List.mem_of_getElem? (i:=q.toNat) ?_
  have e1:ps[q.toNat]?=some (ps.getD q.toNat 0):=by
   rw[List.getD_eq_getElem?_getD,List.getElem?_eq_getElem (show q.toNat<ps.length by omega)]
   rfl
  have e2:(aW m q)[q.toNat]?=some 1:=by
   unfold aW
   rw[List.getElem?_map,List.getElem?_range (by omega)]
   show some (if((q.toNat:Nat):Int)=q then 1 else 0)=_
   rw[if_pos (by omega)]
  rw[List.getElem?_zipWith,e1,e2]
  show some (!decide ((ps.getD q.toNat 0 &&& 1:Nat)=0))=some true
  rw[Nat.testBit_zero]at hb
  have hb:=of_decide_eq_true hb
  rw[Nat.and_one_is_mod,decide_eq_false (by omega)]
  rfl
theorem tq{m:Int}{ws:List Way}(ok:HOuse m ws){p q:Int}(p0:0<=p)(p1:p<m)(q0:0<=q)(q1:q<m)(cs:List Nat):gM m ws p q cs=true↔Rs ws (fun x=>x=(p,0)) cs (q,0):=
 yt (iS ok p0 p1 cs) q0 q1
theorem kL{ws:List Way}{r n:Int}{t:Int×Int×Int}:∀{k:Nat},t∈cS ws r n k->∃j w,j<k/\ws[j]?=some w/\w.room=r/\bu w.deed n=some t.2.2/\t.1=((j:Nat):Int)/\t.2.1=w.other
 | 0,h=>by cases h
 | k+1,h=>by
  rcases List.mem_append.mp h with z | z
  ·obtain⟨j,w,h1,h2⟩:=kL z
   exact⟨j,w,by omega,h2⟩
  ·cases hw:ws[k]? with
   | none=>rw[hw]at z;cases z
   | some w=>
    rw[hw]at z
    have z':t∈di w r n k:=z
    by_cases hr:w.room=r
    ·cases hs:bu w.deed n with
     | none=>rw[eP hr hs]at z';cases z'
     | some n'=>
      rw[eP hr hs]at z'
      have:t=((k:Int),w.other,n'):=by simpa using z'
      subst this
      exact⟨k,w,Nat.lt_succ_self _,hw,hr,hs,rfl,rfl⟩
    ·rw[sW hr]at z';cases z'
theorem nR{ws:List Way}{r n n':Int}{w:Way}{j:Nat}(hw:ws[j]?=some w)(hr:w.room=r)(hs:bu w.deed n=some n'):∀{k:Nat},j<k->((j:Int),w.other,n')∈cS ws r n k
 | 0,h=>absurd h (Nat.not_lt_zero _)
 | k+1,h=>by
  rcases Nat.lt_or_ge j k with l | l
  ·exact List.mem_append_left _ (nR hw hr hs l)
  ·have:j=k:=by omega
   subst this
   refine List.mem_append_right _ ?_
   rw[hw]
   show _∈di w r n j
   rw[eP hr hs]
   simp
def hide(H:Hp)(f:Addr):Hp:=fun a=>if a=f then none else H a
theorem jm(H:Hp)(f:Addr):Ext (hide H f) H:=fun b o h=>by
 unfold hide at h
 split at h
 ·cases h
 ·exact h
theorem eF{H:Hp}{f a:Addr}{o:HO}(ne:a≠f)(h:H a=some o):hide H f a=some o:=by
 unfold hide
 rw[if_neg ne]
 exact h
theorem ml(H:Hp)(f:Addr):hide H f f=none:=by
 unfold hide
 rw[if_pos rfl]
abbrev tk(y:Bfs.Pl):List Key×V:=(aS y,.bl true)
theorem m6:∀ys:List Bfs.Pl,Paired (fun(kv:List Key×V) (y:Bfs.Pl)=>kv=tk y) (ys.map tk) ys
 | []=>.nil
 | y::ys=>.cons rfl (m6 ys)
theorem qI:∀{ys:List Bfs.Pl} {y:Bfs.Pl},y∈ys->(bF (ys.map tk) (aS y)).isSome=true
 | [],y,h=>by cases h
 | a::ys,y,h=>by
  rw[List.map_cons]
  by_cases e:aS a=aS y
  ·rw[iC (p:=tk a) e];rfl
  ·rw[fX (p:=tk a) e]
   rcases List.mem_cons.mp h with z | z
   ·subst z;exact absurd rfl e
   ·exact qI z
theorem vz{ys:List Bfs.Pl}{y:Bfs.Pl}:(bF (ys.map tk) (aS y)).isSome=decide (y∈ys):=by
 by_cases h:y∈ys
 ·rw[decide_eq_true h,qI h]
 ·rw[decide_eq_false h,fY (key:=id) (fun kv e z=>by rw[z];rfl) (m6 ys) (by simpa using h)]
  rfl
theorem sZ{H:Hp}:∀{bs:List Addr} {xs:List Bfs.Pl},Paired (fun b (kv:List Key×V)=>H b=some (.tup (List.map kV kv.1))) bs (List.map tk xs)->Paired (aY H) bs xs
 | _,[],h=>by cases h;exact .nil
 | _,x::xs,h=>by
  rw[List.map_cons]at h
  cases h with
  | cons a t=>exact .cons a (sZ t)
theorem AL{ys:List Bfs.Pl}{y:Bfs.Pl}:putK (ys.map tk) (aS y) (.bl true)=(if y∈ys then ys else ys++[y]).map tk:=by
 by_cases h:y∈ys
 ·rw[if_pos h]
  unfold putK
  rw[jj,vz,decide_eq_true h,if_pos rfl,List.map_map]
  refine List.map_congr_left fun a _=>?_
  show(if aS a=aS y then(aS a,V.bl true)else(aS a,V.bl true))=tk a
  split<;>rfl
 ·rw[if_neg h,tK _ (fY (key:=id) (fun kv e z=>by rw[z];rfl) (m6 ys) (by simpa using h)),List.map_append]
  rfl
def mD(ws:List Way)(c:Nat)(x y:Bfs.Pl):Prop:=∃w∈ws,w.sign=⟨#[c]⟩/\w.room=x.1/\bu w.deed x.2=some y.2/\w.other=y.1
theorem xw{z:Str}{n n':Int}(hz:bq z)(h:bu z n=some n'):n'<=n+1:=by
 rcases hz with rfl | rfl | rfl | rfl
 ·rw[eo]at h;cases h;omega
 ·rw[dO]at h
  split at h
  ·cases h;omega
  ·cases h
 ·rw[de]at h;cases h;omega
 ·rw[dM]at h
  split at h
  ·cases h;omega
  ·cases h
theorem nh{m U:Int}{ws:List Way}(ok:HOuse m ws){c:Nat}{x y:Bfs.Pl}(hx:dA m U x)(h:mD ws c x y):dA m (U+1) y:=by
 obtain⟨w,hw,_,_,hs,ho⟩:=h
 have okw:=ok.ok w hw
 obtain⟨a,b,c,d⟩:=hx
 have:=xw okw.dd hs
 exact⟨by rw[←ho];exact okw.o0,by rw[←ho];exact okw.o1,gQ okw.dd c hs,by omega⟩
def jK(ws:List Way)(c:Nat)(t:Int×Int×Int):Prop:=∃w,ws[t.1.toNat]?=some w/\w.sign=⟨#[c]⟩
theorem lO{ws:List Way}{c:Nat}{x y:Bfs.Pl}:mD ws c x y↔∃t∈cS ws x.1 x.2 ws.length,jK ws c t/\y=(t.2.1,t.2.2):=by
 constructor
 ·rintro⟨w,hw,hs,hr,hst,ho⟩
  obtain⟨j,hj⟩:=List.getElem?_of_mem hw
  refine⟨((j:Int),w.other,y.2),nR hj hr hst (List.getElem?_eq_some_iff.mp hj).1,⟨w,by simpa using hj,hs⟩,Prod.ext ho.symm rfl⟩
 ·rintro⟨t,ht,⟨w,hw,hs⟩,rfl⟩
  obtain⟨j,w',_,hw',hr,hst,h1,h2⟩:=kL ht
  have:t.1.toNat=j:=by omega
  rw[this,hw']at hw
  cases hw
  exact⟨w,List.mem_of_getElem? hw',hs,hr,hst,h2.symm⟩
def gW(ws:List Way)(c:Nat)(xs:List Bfs.Pl)(i:Nat)(y:Bfs.Pl):Prop:=∃x∈xs.take i,mD ws c x y
def gU(ws:List Way)(c:Nat)(xs:List Bfs.Pl)(i:Nat)(x:Bfs.Pl)(j:Nat)(y:Bfs.Pl):Prop:=gW ws c xs i y\/∃t∈(cS ws x.1 x.2 ws.length).take j,jK ws c t/\y=(t.2.1,t.2.2)
theorem og{ws:List Way}{c:Nat}{xs:List Bfs.Pl}{y:Bfs.Pl}:gW ws c xs xs.length y↔Sg ws c (fun x=>x∈xs) y:=by
 unfold gW Sg
 rw[List.take_length]
 exact Iff.rfl
theorem lI{z:Str}(h:mK z):∃c:Nat,z=⟨#[c]⟩:=by
 obtain⟨c,_,_,e⟩:=h
 exact⟨c,e⟩
abbrev ch(c:Nat):Str:=⟨#[c]⟩
theorem dj{a b:Nat}(h:ch a=ch b):a=b:=by
 have:(#[a]:Array Nat) = #[b]:=congrArg Str.cps h
 simpa using this
structure SigG(ws:List Way)(G:List Nat):Prop where
 up:G.Pairwise (· < ·)
 mem:∀c,c∈G↔∃w∈ws,w.sign=ch c
theorem SigG.uniq{ws:List Way}{G G':List Nat}(h:SigG ws G)(h':SigG ws G'):G=G':=by
 have p:G.Perm G':=(List.perm_ext_iff_of_nodup (h.up.imp fun h=>Nat.ne_of_lt h) (h'.up.imp fun h=>Nat.ne_of_lt h)).mpr fun c=>(h.mem c).trans (h'.mem c).symm
 exact p.eq_of_pairwise (fun a b _ _ h1 h2=>absurd h1 (by omega)) h.up h'.up
theorem qg:∀{p:Nat} {G:List Nat},PyProof.Rows.risingS (ch p) (G.map ch)=true->(p::G).Pairwise (·<=·)
 | p,[],_=>List.pairwise_singleton _ _
 | p,c::G,h=>by
  have h':(!PySem.Spec.ltCps [c] [p] && PyProof.Rows.risingS (ch c) (G.map ch))=true:=h
  rw[Bool.and_eq_true]at h'
  have ih:=qg h'.2
  have hle:p<=c:=by
   have h1:=h'.1
   have h2:PySem.Spec.ltCps [c] [p]=(decide (c<p) || (c == p && PySem.Spec.ltCps [] [])):=rfl
   rw[h2]at h1
   rcases Nat.lt_or_ge c p with l | l
   ·rw[decide_eq_true l]at h1
    cases h1
   ·exact l
  refine List.pairwise_cons.mpr ⟨fun x hx=>?_,ih⟩
  rcases List.mem_cons.mp hx with rfl | hx
  ·exact hle
  ·exact Nat.le_trans hle ((List.pairwise_cons.mp ih).1 x hx)
theorem Cr:∀{G:List Nat},PyProof.Rows.sortedS (G.map ch)=true->G.Pairwise (·<=·)
 | [],_=>List.Pairwise.nil
 | c::G,h=>qg h
theorem kX:∀{ss:List Str},(∀z∈ss,∃c:Nat,z=ch c)->∃G:List Nat,ss=G.map ch
 | [],_=>⟨[],rfl⟩
 | z::ss,h=>by
  obtain⟨c,rfl⟩:=h z List.mem_cons_self
  obtain⟨G,rfl⟩:=kX (ss:=ss) fun y hy=>h y (List.mem_cons_of_mem _ hy)
  exact⟨c::G,rfl⟩
theorem nI{m:Int}{ws:List Way}(ok:HOuse m ws){ss ds:List Str}(hn:ds.Nodup)(hm:∀z,z∈ds↔z∈ws.map Way.sign)(hp:ss.Perm ds)(hs:PyProof.Rows.sortedS ss=true):∃G,ss=List.map ch G/\SigG ws G:=by
 obtain⟨G,rfl⟩:=kX (ss:=ss) fun z hz=>by
  obtain⟨w,hw,rfl⟩:=List.mem_map.mp ((hm z).mp (hp.mem_iff.mp hz))
  exact lI (ok.ok w hw).sg
 refine⟨G,rfl,?_,fun c=>?_⟩
 ·have h1:=Cr hs
  have h2:(List.map ch G).Nodup:=hp.nodup_iff.mpr hn
  have h3:G.Pairwise (·≠·):=by
   unfold List.Nodup at h2
   rw[List.pairwise_map]at h2
   exact h2.imp fun h e=>h (by rw[e])
  exact(h1.and h3).imp fun h=>Nat.lt_of_le_of_ne h.1 h.2
 ·constructor
  ·intro hc
   obtain⟨w,hw,e⟩:=List.mem_map.mp ((hm (ch c)).mp (hp.mem_iff.mp (List.mem_map.mpr ⟨c,hc,rfl⟩)))
   exact⟨w,hw,e⟩
  ·rintro⟨w,hw,e⟩
   have:=hp.mem_iff.mpr ((hm (ch c)).mpr (List.mem_map.mpr ⟨w,hw,e⟩))
   obtain⟨c',hc',e'⟩:=List.mem_map.mp this
   rw[←dj e']
   exact hc'
theorem SigG.few{m:Int}{ws:List Way}{G:List Nat}(ok:HOuse m ws)(h:SigG ws G):G.length<=26:=by
 have hn:(G.map (· - 97)).Nodup:=by
  unfold List.Nodup
  rw[List.pairwise_map]
  refine h.up.imp_of_mem fun{a b} ha hb hab=>?_
  obtain⟨w,hw,e⟩:=(h.mem a).mp ha
  obtain⟨c,c1,c2,e'⟩:=(ok.ok w hw).sg
  have:=dj (e.symm.trans e')
  omega
 have:=hn.length_le_of_subset (l₂:=List.range 26) fun x hx=>by
  obtain⟨c,hc,rfl⟩:=List.mem_map.mp hx
  obtain⟨w,hw,e⟩:=(h.mem c).mp hc
  obtain⟨c',c1,c2,e'⟩:=(ok.ok w hw).sg
  have:=dj (e.symm.trans e')
  exact List.mem_range.mpr (by omega)
 rw[List.length_map,List.length_range]at this
 exact this
def gy(ws:List Way)(H:Hp)(b:Addr)(c:Nat):Prop:=∃wl bs,H b=some (.tup [.str (ch c),.ref wl])/\H wl=some (.lst (List.map V.ref bs))/\aE H bs (cF ws (ch c))
theorem gy.ext{ws:List Way}{H H':Hp}{b:Addr}{c:Nat}(e:Ext H H')(h:gy ws H b c):gy ws H' b c:=by
 obtain⟨wl,bs,h1,h2,h3⟩:=h
 exact⟨wl,bs,e _ _ h1,e _ _ h2,h3.ext e⟩
def sA(K:PySem.W.Frag):Sp:=fun vs H Q _=>∃v m ws,vs=[v]/\aM H v m ws/\HOuse m ws/\∀l H' as G,Ext H H'->H' l=some (.lst (List.map V.ref as))->Paired (gy ws H') as G->SigG ws G->Q (.ref l) H'
theorem lC{α β:Type}{F:α->β->Prop}{as:List α}{bs:List β}{a:α}{b:β}(h:Paired F as bs)(hab:F a b):Paired F (as++[a]) (bs++[b]):=by
 induction h with
 | nil=>exact .cons hab .nil
 | cons h _ ih=>exact .cons h ih
abbrev jZ:Stmt:=stq 48
theorem uN:FnScope ["house","signs"] ["house"] (aC jZ):=⟨rfl,rfl,rfl,by decide +kernel,rfl,by decide +kernel,by decide +kernel⟩
theorem yP{P:Program}{w:World}{K:PySem.W.Frag}{mg:Str->Option Value}{base:Heap}(D:Dfn K mg "ways_by_sign" jZ ["house"])(T:Blt mg)(C_ways_of_sign:Cal P w K mg base "ways_of_sign" 1 ["house","sign"] (kT K)):Cal P w K mg base "ways_by_sign" 2 ["house"] (sA K):=by
 have nd:=(uN).nd
 refine D.ok uN (fun vs H Q E h=>?_) (fun X hX H vs Q E h=>?_)
 ·obtain⟨v,m,ws,rfl,_⟩:=h;rfl
 ·obtain⟨f,cdv,A,outer,s,H0,E0,rfl,hr⟩:=hX
  obtain⟨v,m,ws,rfl,hv,ok,q⟩:=h
  obtain⟨hh,t,rfl,g1,g2⟩:=id hv
  obtain⟨bs,g3,al⟩:=bB.al g2
  have hfew:=ok.few
  refine⟨_,(ah (az (i:=1) nd rfl (Or.inl rfl) (aU (wY hr) rfl T.sorted_ PyProof.Rows.boot_sorted (aa (dN (y4 hr) rfl T.set_ PyProof.Rows.boot_set (aa (cE ["way"] [] (dY K (ai (ax K) (pv 0) ae (fun _ _=>rfl))) (fun _=>(aB (i:=0) (show(["way"]:List Str).Nodup from by decide +kernel) rfl (Or.inl rfl) (Or.inr rfl))) (fun _=>cN) (fun _=>(ai (ax K) (pv 0) ae (fun _ _=>rfl)))) ab)) ab)))
    (aj (aA (cE ["sign"] [0] (cx K (pv 1)) (fun _=>(aB (i:=0) (show(["sign","house"]:List Str).Nodup from by decide +kernel) rfl (Or.inl rfl) (Or.inr rfl))) (fun _=>cN) (fun _=>(aQ (aa (pv 0) (aa (au C_ways_of_sign hr (aa (pv 1) (aa (pv 0) ab))) ab)))))))),?_⟩
  walk_at "rd"
  refine aw (ag.of g1) (v:=.ref t) rfl ?_
  refine dQ (ag.of g3) ?_
  refine eS (xs:=bs.map V.ref) (fun i ys H'=>H'=H/\ys=((ws.take i).map Way.sign).map V.str) (bG (by rw[List.length_map,al.1];omega)) ⟨rfl,rfl⟩ (fun i ys H' hi h=>⟨by rw[h.1];exact ag.of g3,by rw[h.2,List.length_map,List.length_map,List.length_take];omega⟩) ?_ ?_
  ·rintro i x ys H' hx ⟨rfl,rfl⟩
   rw[List.getElem?_map]at hx
   obtain⟨b,hb,rfl⟩:=Option.map_eq_some_iff.mp hx
   have hi:i<ws.length:=by
    rw[←al.1]
    exact(List.getElem?_eq_some_iff.mp hb).1
   have hwi:ws[i]?=some ws[i]:=List.getElem?_eq_getElem hi
   have hw:=al.2 i b _ hb hwi
   walk_at "rd"
   refine aD ?_
   walk_at "rd"
   refine aw (ag.of hw) (v:=.str ws[i].sign) rfl ?_
   refine⟨rfl,?_⟩
   rw[List.take_succ,hwi,List.map_append,List.map_append]
   rfl
  ·rintro ys H' l ⟨rfl,rfl⟩ hl
   rw[List.length_map,al.1,List.take_length]
   have hl1:upd H' l (.lst ((ws.map Way.sign).map V.str)) l=some (.lst (List.map V.str (ws.map Way.sign))):=aI
   have e1:Ext H' (upd H' l (.lst ((ws.map Way.sign).map V.str))):=aX hl
   generalize upd H' l (.lst ((ws.map Way.sign).map V.str))=H1 at hl1 e1 ⊢
   walk_at "rd"
   refine⟨l,_,rfl,hl1,by rw[List.length_map];omega,fun l2 ds hl2 hnd hmem=>?_⟩
   generalize hso:j2 _ _ l2 ds=so
   have hl3:upd H1 l2 so l2=some so:=aI
   have e2:Ext H1 (upd H1 l2 so):=aX hl2
   generalize upd H1 l2 so=H2 at hl3 e2 ⊢
   have hdl:ds.length<64:=by
    obtain⟨G,hG,hs⟩:∃G,ds=List.map ch G/\∀c,c∈G->∃w∈ws,w.sign=ch c:=by
     obtain⟨G,rfl⟩:=kX (ss:=ds) fun z hz=>by
      obtain⟨w,hw,rfl⟩:=List.mem_map.mp ((hmem z).mp hz)
      exact lI (ok.ok w hw).sg
     refine⟨G,rfl,fun c hc=>?_⟩
     obtain⟨w,hw,e⟩:=List.mem_map.mp ((hmem (ch c)).mp (List.mem_map.mpr ⟨c,hc,rfl⟩))
     exact⟨w,hw,e⟩
    subst hG
    have hn:(G.map (· - 97)).Nodup:=by
     unfold List.Nodup at hnd ⊢
     rw[List.pairwise_map]at hnd ⊢
     refine hnd.imp_of_mem fun{a b} ha hb hab=>?_
     obtain⟨w,hw,e⟩:=hs a ha
     obtain⟨c,c1,c2,e'⟩:=(ok.ok w hw).sg
     obtain⟨w2,hw2,e2⟩:=hs b hb
     obtain⟨c',c1',c2',e2'⟩:=(ok.ok w2 hw2).sg
     have h1:=dj (e.symm.trans e')
     have h2:=dj (e2.symm.trans e2')
     have h3:a≠b:=fun z=>hab (by rw[z])
     omega
    have:=hn.length_le_of_subset (l₂:=List.range 26) fun x hx=>by
     obtain⟨c,hc,rfl⟩:=List.mem_map.mp hx
     obtain⟨w,hw,e⟩:=hs c hc
     obtain⟨c',c1,c2,e'⟩:=(ok.ok w hw).sg
     have:=dj (e.symm.trans e')
     exact List.mem_range.mpr (by omega)
    rw[List.length_map,List.length_range]at this
    rw[List.length_map]
    omega
   walk_at "rd"
   subst hso
   refine⟨l2,ds,rfl,hl3,hdl,fun l4 ss hl4 hpm hsrt=>?_⟩
   obtain⟨G,rfl,hG⟩:=nI ok hnd hmem hpm hsrt
   have hG26:=hG.few ok
   have hl5:upd H2 l4 (.lst (List.map V.str (List.map ch G))) l4=some (.lst (List.map V.str (List.map ch G))):=aI
   have e4:Ext H2 (upd H2 l4 (.lst (List.map V.str (List.map ch G)))):=aX hl4
   generalize upd H2 l4 (.lst (List.map V.str (List.map ch G)))=H4 at hl5 e4 ⊢
   have e04:=e1.trans (e2.trans e4)
   walk_at "rd"
   refine cC (af.of hl5) ?_
   refine gj (xs:=List.map V.str (List.map ch G)) (fun i ys H'=>Ext H4 H'/\∃as:List Addr,ys=as.map V.ref/\Paired (gy ws H') as (G.take i)) (bG (by rw[List.length_map,List.length_map];omega)) ⟨Ext.rfl' _,[],rfl,.nil⟩ (fun i ys H' hi h=>⟨af.of (h.1 _ _ hl5),?_⟩) ?_ ?_
   ·obtain⟨_,as,rfl,hp⟩:=h
    rw[List.length_map,Paired.length hp,List.length_take]
    exact Nat.min_le_left _ _
   ·rintro i x ys H5 hx ⟨e5,as,rfl,hp⟩
    rw[List.getElem?_map,List.getElem?_map]at hx
    obtain⟨z,hz,rfl⟩:=Option.map_eq_some_iff.mp hx
    obtain⟨c,hc,rfl⟩:=Option.map_eq_some_iff.mp hz
    walk_at "rd"
    refine aD ?_
    walk_at "rd"
    refine⟨_,m,ws,ch c,rfl,(hv.ext e04).ext e5,ok,fun wl H6 cs e6 hwl alc=>?_⟩
    walk_at "rd"
    refine⟨av (by simp),ao fun a H7 e7 ha _=>?_⟩
    refine⟨e5.trans (e6.trans e7),as++[a],by rw[List.map_append];rfl,?_⟩
    rw[List.take_succ,hc]
    exact lC (Paired.mapP hp fun b c' h=>h.ext (e6.trans e7)) ⟨wl,cs,ha,e7 _ _ hwl,alc.ext e7⟩
   ·rintro ys H5 l6 ⟨e5,as,rfl,hp⟩ hl6
    rw[List.length_map,List.length_map,List.take_length]at hp
    exact q l6 _ as G ((e04.trans e5).trans (aX hl6)) aI (Paired.mapP hp fun b c' h=>h.ext (aX hl6)) hG
def bP(ws:List Way)(m q:Int):Nat->List Nat
 | 0=>aW m q
 | k+1=>b9 (ws.map Way.turn) (bP ws m q k)
theorem iX(ws:List Way)(m q:Int):∀k,(bP ws m q k).length=m.toNat
 | 0=>dm m q
 | k+1=>by
  show(b9 _ _).length=_
  rw[gg,iX ws m q k]
theorem oi{m q:Int}{ws:List Way}(ok:HOuse m ws):∀k,∀b∈bP ws m q k,b<2 ^ (k+1)
 | 0=>by
  intro b hb
  obtain⟨i,_,rfl⟩:=List.mem_map.mp hb
  split<;>decide
 | k+1=>lF (fun w hw=>(ok.turn.ok w hw).dd) (oi ok k)
theorem xR{b:Bool}{A B:Prop}(h:b=true)(hA:A):if b=true then A else B:=by rw[if_pos h];exact hA
theorem zT{b:Bool}{A B:Prop}(h:¬b=true)(hB:B):if b=true then A else B:=by rw[if_neg h];exact hB
theorem Paired.mapP'{α β:Type}{F G:α->β->Prop}:∀{l₁:List α} {l₂:List β},Paired F l₁ l₂->(∀a b,a∈l₁->F a b->G a b)->Paired G l₁ l₂
 | _,_,.nil,_=>.nil
 | _,_,.cons r t,f=>.cons (f _ _ List.mem_cons_self r) (Paired.mapP' t fun a b h=>f a b (List.mem_cons_of_mem _ h))
abbrev mQ(H:Hp)(a:Addr)(ps:List Nat):Prop:=H a=some (.lst (bj ps))
def m9(K:PySem.W.Frag):Sp:=fun vs H Q _=>∃v m ws q n,vs=[v,.int q,.int ((n:Nat):Int)]/\aM H v m ws/\HOuse m ws/\0<=q/\q<m/\n<=24012/\∀l H' as,Ext H H'->H' l=some (.lst (List.map V.ref as))->Paired (mQ H') as ((List.range (n+1)).map (bP ws m q))->Q (.ref l) H'
abbrev jV:Stmt:=stq 50
theorem uH:FnScope ["house","room","length","ways","places","count"] ["house","room","length"] (aC jV):=⟨rfl,rfl,rfl,by decide +kernel,rfl,by decide +kernel,by decide +kernel⟩
theorem Ai{P:Program}{w:World}{K:PySem.W.Frag}{mg:Str->Option Value}{base:Heap}(D:Dfn K mg "places_to_end" jV ["house","room","length"])(T:Blt mg)(C_led_on:Cal P w K mg base "led_on" 2 ["ways","places"] (jT K))(C_alone_at_zero:Cal P w K mg base "alone_at_zero" 1 ["house","room"] (kg K))(C_turned_about:Cal P w K mg base "turned_about" 7 ["house"] (uJ K)):Cal P w K mg base "places_to_end" 8 ["house","room","length"] (m9 K):=by
 have nd:=(uH).nd
 refine D.ok uH (fun vs H Q E h=>?_) (fun X hX H vs Q E h=>?_)
 ·obtain⟨v,m,ws,q,n,rfl,_⟩:=h;rfl
 ·obtain⟨f,cdv,A,outer,s,H0,E0,rfl,hr⟩:=hX
  obtain⟨v,m,ws,q,n,rfl,hv,ok,q0,q1,hn,qq⟩:=h
  have m1:=ok.m1
  have m2:=ok.m12
  have hfew:=ok.few
  refine⟨_,(ah (az (i:=3) nd rfl (Or.inl rfl) (ai (ax K) (au C_turned_about hr (aa (pv 0) ab)) ae (fun _ _=>rfl)))
    (ah (az (i:=4) nd rfl (Or.inl rfl) (aR (aa (au C_alone_at_zero hr (aa (pv 0) (aa (pv 1) ab))) ab)))
    (ah (bC PassesOwn.never rfl (cW rfl T.range_ (aa (pv 2) ab)) (aB (i:=5) nd rfl (Or.inl rfl)) (aj (aV (bx K PySem.F.plainAttrs_list PySem.F.slot_list_append PySem.F.type_list_append bI (pv 4) (aa (au C_led_on hr (aa (pv 3) (aa (ai (aJ K) (pv 4) (pv 5) (fun _ _=>rfl)) ab))) ab)))))
    (aj (aA (pv 4)))))),?_⟩
  walk_at "rd"
  refine⟨v,m,ws,rfl,hv,ok,fun u H1 e1 hu=>?_⟩
  obtain⟨hh,t,rfl,g1,g2⟩:=id hu
  obtain⟨bs,g3,al⟩:=bB.al g2
  walk_at "rd"
  refine aw (ag.of g1) (v:=.ref t) rfl ?_
  walk_at "rd"
  refine⟨v,m,ws,q,rfl,hv.ext e1,ok,fun l0 H2 e2 hl0 _=>?_⟩
  walk_at "rd"
  refine⟨av (by simp),ao fun l H3 e3 hl hln=>?_⟩
  have e13:=e2.trans e3
  have e03:=e1.trans e13
  have hlH:H l=none:=(e1.trans e2).none hln
  have hl1:H1 l=none:=e2.none hln
  walk_at "rd"
  refine cV ⟨by omega,by omega⟩ ?_
  refine forR (fun i σ H'=>∃k as,σ=[some v,some (.int q),some (.int (n:Int)),some (.ref t),some (.ref l),k]/\Ext H H'/\Ext H1 H'/\H' l=some (.lst (List.map V.ref as))/\Paired (mQ H') as ((List.range (i+1)).map (bP ws m q))/\∀a∈as,a≠l) ⟨none,[l0],rfl,e03,e13,hl,.cons (e3 _ _ hl0) .nil,fun a ha=>?_⟩ ?_ ?_
  ·rw[List.mem_singleton]at ha
   subst ha
   exact cj hl0 hln
  ·rintro i σ H4 hi ⟨k,as,rfl,e4,e14,hl4,hp,hne⟩
   have hi':i<n:=by simpa using hi
   obtain⟨a,ha,hat⟩:=jA hp (i:=i) (t:=bP ws m q i) (by rw[List.getElem?_map,List.getElem?_range (by omega)];rfl)
   have hlen:=Paired.length hp
   rw[List.length_map,List.length_range]at hlen
   walk_at "rd"
   refine⟨cy (af.of hl4),?_⟩
   walk_at "rd"
   refine aK (af.of hl4) (v:=.ref a) ?_ ?_
   ·rw[show (0:Int)+(i:Int)=(i:Int) by omega]
    exact dh (by rw[List.getElem?_map,ha];rfl)
   walk_at "rd"
   refine⟨t,a,bs,_,bP ws m q i,m,rfl,.inr (e14 _ _ g3),al.ext e14,fun w hw=>ok.turn.ok w hw,hat,by rw[iX];omega,m2,fun b hb=>Nat.lt_of_lt_of_le (oi ok i b hb) (Nat.pow_le_pow_right (by decide) (by omega)),by rw[List.length_map];omega,fun l5 H5 e5 hl5 hl5n=>?_⟩
   have hl5':=e5 _ _ hl4
   walk_at "rd"
   refine bH hl5' (ie (by rw[List.length_map];omega)) ?_
   walk_at "rd"
   have hn5:l5≠l:=fun z=>by rw[z,hl4]at hl5n;cases hl5n
   refine⟨_,as++[l5],rfl,bJ (e4.trans e5) hlH,bJ (e14.trans e5) hl1,by rw[aI,List.map_append];rfl,?_,fun a' ha'=>?_⟩
   ·rw[List.range_succ,List.map_append]
    refine lC (My.Paired.mapP' hp fun a' ps ha' h=>?_) ?_
    ·show upd _ _ _ a'=_
     rw[aG (hne a' ha')]
     exact e5 _ _ h
    ·show upd _ _ _ l5=_
     rw[aG hn5]
     exact hl5
   ·rcases List.mem_append.mp ha' with z | z
    ·exact hne a' z
    ·rw[List.mem_singleton]at z
     rw[z]
     exact hn5
  ·rintro σ H4 ⟨k,as,rfl,e4,e14,hl4,hp,hne⟩
   rw[Int.toNat_natCast]at hp
   walk_at "rd"
   exact qq l H4 as e4 hl4 hp
abbrev tw(cs:List Nat):Str:=⟨cs.toArray⟩
theorem uL(cs:List Nat)(c:Nat):tw cs++ch c=tw (cs++[c]):=by
 show(⟨cs.toArray ++ #[c]⟩:Str)=⟨(cs++[c]).toArray⟩
 congr 1
 simp
def eC(ws:List Way)(m p:Int)(H:Hp)(a:Addr)(cs:List Nat):Prop:=∃l,H a=some (.tup [.str (tw cs),.ref l])/\H l=some (.lst (bj (cD ws (aW m p) cs)))
theorem eC.ext{ws:List Way}{m p:Int}{H H':Hp}{a:Addr}{cs:List Nat}(e:Ext H H')(h:eC ws m p H a cs):eC ws m p H' a cs:=by
 obtain⟨l,h1,h2⟩:=h
 exact⟨l,e _ _ h1,e _ _ h2⟩
theorem vU{m p:Int}{ws:List Way}(ok:HOuse m ws):∀cs:List Nat,∀b∈cD ws (aW m p) cs,b<2 ^ (cs.length+1):=by
 intro cs
 have:∀k,k<=cs.length->∀b∈cD ws (aW m p) (cs.take k),b<2 ^ (k+1):=by
  intro k
  induction k with
  | zero=>intro _;exact nT m p
  | succ k ih=>
   intro hk
   have e:cs.take (k+1)=cs.take k++[cs[k]]:=by rw[List.take_succ,List.getElem?_eq_getElem (by omega)];rfl
   rw[e,kc]
   exact lF (fun w hw=>(ok.ok w (kH hw).1).dd) (ih (by omega))
 have:=this cs.length (Nat.le_refl _)
 rwa [List.take_length]at this
def g9(ws:List Way)(m p:Int)(qs:List Nat)(cs:List Nat):Bool:=dB (cD ws (aW m p) cs) qs
def cZ(ws:List Way)(m p:Int)(G qs:List Nat)(cs:List Nat):List (List Nat):=(G.map fun c=>cs++[c]).filter (g9 ws m p qs)
def cG(ws:List Way)(m p:Int)(G qs:List Nat)(B:List (List Nat)):List (List Nat):=B.flatMap (cZ ws m p G qs)
theorem zf{ws:List Way}{m p:Int}{G qs:List Nat}{cs:List Nat}{j c:Nat}(h:G[j]?=some c):cZ ws m p (G.take (j+1)) qs cs=cZ ws m p (G.take j) qs cs++(if g9 ws m p qs (cs++[c])=true then[cs++[c]]else[]):=by
 unfold cZ
 rw[List.take_succ,h,List.map_append,List.filter_append]
 congr 1
 by_cases e:g9 ws m p qs (cs++[c])=true
 ·rw[if_pos e];simp[e]
 ·rw[if_neg e];simp[e]
theorem oE(ws:List Way)(m p:Int)(G qs:List Nat)(cs:List Nat):(cZ ws m p G qs cs).length<=G.length:=by
 unfold cZ
 refine Nat.le_trans (List.length_filter_le _ _) ?_
 rw[List.length_map]
 exact Nat.le_refl _
theorem xH{ws:List Way}{m p:Int}{G qs:List Nat}{B:List (List Nat)}{i:Nat}{cs:List Nat}(h:B[i]?=some cs):cG ws m p G qs (B.take (i+1))=cG ws m p G qs (B.take i)++cZ ws m p G qs cs:=by
 unfold cG
 rw[List.take_succ,h,List.flatMap_append]
 simp
theorem oU(ws:List Way)(m p:Int)(G qs:List Nat):∀B:List (List Nat),(cG ws m p G qs B).length<=B.length*G.length
 | []=>Nat.zero_le _
 | b::B=>by
  have e:cG ws m p G qs (b::B)=cZ ws m p G qs b++cG ws m p G qs B:=by
   unfold cG
   rw[List.flatMap_cons]
  rw[e,List.length_append,List.length_cons,Nat.add_mul,Nat.one_mul]
  have h1:=oE ws m p G qs b
  have h2:=oU ws m p G qs B
  omega
theorem AE{ws:List Way}{m p:Int}{G qs:List Nat}{B:List (List Nat)}{n:Nat}(h:∀b∈B,b.length=n):∀x∈cG ws m p G qs B,x.length=n+1:=by
 intro x hx
 obtain⟨b,hb,hx⟩:=List.mem_flatMap.mp hx
 obtain⟨c,hc,rfl⟩:=List.mem_map.mp (List.mem_filter.mp hx).1
 rw[List.length_append,h b hb]
 rfl
def rT(K:PySem.W.Frag):Sp:=fun vs H Q _=>∃sl bl el ws m p as G bs B qs n,vs=[.ref sl,.ref bl,.ref el]/\HOuse m ws/\H sl=some (.lst (List.map V.ref as))/\Paired (gy ws H) as G/\G.length<=26/\H bl=some (.lst (List.map V.ref bs))/\Paired (eC ws m p H) bs B/\B.length<=300/\(∀b∈B,b.length=n)/\n<=24012/\H el=some (.lst (bj qs))/\qs.length=m.toNat ∧
 ∀l H' cs,Ext H H'->H' l=some (.lst (List.map V.ref cs))->Paired (eC ws m p H') cs (cG ws m p G qs B)->Q (.ref l) H'
theorem yg{n:Nat}(h:n<=100000):n<sizeLine:=Nat.lt_of_le_of_lt h (by decide)
abbrev jC:Stmt:=stq 51
theorem nY:FnScope ["signs","begun","ends","longer","word","places","sign","ways","led"] ["signs","begun","ends"] (aC jC):=⟨rfl,rfl,rfl,by decide +kernel,rfl,by decide +kernel,by decide +kernel⟩
theorem BJ{P:Program}{w:World}{K:PySem.W.Frag}{mg:Str->Option Value}{base:Heap}(D:Dfn K mg "longer_beginnings" jC ["signs","begun","ends"])(T:Blt mg)(C_share_one:Cal P w K mg base "share_one" 1 ["places","others"] (i7 K))(C_led_on:Cal P w K mg base "led_on" 2 ["ways","places"] (jT K)):Cal P w K mg base "longer_beginnings" 3 ["signs","begun","ends"] (rT K):=by
 have nd:=(nY).nd
 refine D.ok nY (fun vs H Q E h=>?_) (fun X hX H vs Q E h=>?_)
 ·obtain⟨sl,bl,el,ws,m,p,as,G,bs,B,qs,n,rfl,_⟩:=h;rfl
 ·obtain⟨f,cdv,A,outer,s,H0,E0,rfl,hr⟩:=hX
  obtain⟨sl,bl,el,ws,m,p,as,G,bs,B,qs,n,rfl,ok,hsl,hG,hG26,hbl,hB,hB3,hBn,hn,hel,hql,q⟩:=h
  have m1:=ok.m1
  have m2:=ok.m12
  have hfew:=ok.few
  have hbsl:=Paired.length hB
  have hasl:=Paired.length hG
  refine⟨_,(ah (az (i:=3) nd rfl (Or.inl rfl) (aR ab))
    (ah (bC PassesOwn.never rfl (cx K (pv 1)) (dZ (n:=2) K rfl (bo (aB (i:=4) nd rfl (Or.inl rfl)) (bo (aB (i:=5) nd rfl (Or.inl rfl)) dw))) (aj (bC PassesOwn.never rfl (cx K (pv 0)) (dZ (n:=2) K rfl (bo (aB (i:=6) nd rfl (Or.inl rfl)) (bo (aB (i:=7) nd rfl (Or.inl rfl)) dw))) (ah (az (i:=8) nd rfl (Or.inl rfl) (au C_led_on hr (aa (pv 7) (aa (pv 5) ab))))
    (aj (cw (cH (au C_share_one hr (aa (pv 8) (aa (pv 2) ab)))) (aj (aV (bx K PySem.F.plainAttrs_list PySem.F.slot_list_append PySem.F.type_list_append bI (pv 3) (aa (aQ (aa (ak rR (pv 4) (pv 6)) (aa (pv 8) ab))) ab)))) aO))))))
    (aj (aA (pv 3))))),?_⟩
  walk_at "rd"
  refine⟨av (by simp),ao fun l H1 e1 hl hln=>?_⟩
  walk_at "rd"
  refine cC (af.of (e1 _ _ hbl)) ?_
  refine forL (xs:=List.map V.ref bs) (fun i σ H'=>∃k1 k2 k3 k4 k5 cs,σ=[some (.ref sl),some (.ref bl),some (.ref el),some (.ref l),k1,k2,k3,k4,k5]/\Ext H H'/\H' l=some (.lst (List.map V.ref cs))/\Paired (eC ws m p (hide H' l)) cs (cG ws m p G qs (B.take i))) ⟨none,none,none,none,none,[],rfl,e1,hl,.nil⟩ (fun i σ H' _ h=>by obtain⟨_,_,_,_,_,_,_,e,_⟩:=h;exact af.of (e _ _ hbl)) ?_ ?_
  ·rintro i x σ H2 hx ⟨k1,k2,k3,k4,k5,cs,rfl,e2,hl2,hp⟩
   rw[List.getElem?_map]at hx
   obtain⟨b,hb,rfl⟩:=Option.map_eq_some_iff.mp hx
   obtain⟨wd,hwd,pl,hb1,hb2⟩:=fJ hB hb
   have hwl:=hBn wd (List.mem_of_getElem? hwd)
   have hi:i<B.length:=(List.getElem?_eq_some_iff.mp hwd).1
   rw[xH hwd]
   have hle:(cG ws m p G qs (B.take i)).length<=300*26:=by
    refine Nat.le_trans (oU ws m p G qs _) (Nat.mul_le_mul ?_ hG26)
    rw[List.length_take]
    omega
   generalize cG ws m p G qs (B.take i)=L0 at hp hle
   refine dX (ag.of (e2 _ _ hb1)) rfl ?_
   walk_at "rd"
   refine cC (af.of (e2 _ _ hsl)) ?_
   refine forL (xs:=List.map V.ref as) (fun j σ H'=>∃k3 k4 k5 cs,σ=[some (.ref sl),some (.ref bl),some (.ref el),some (.ref l),some (.str (tw wd)),some (.ref pl),k3,k4,k5]/\Ext H H'/\H' l=some (.lst (List.map V.ref cs))/\Paired (eC ws m p (hide H' l)) cs (L0++cZ ws m p (G.take j) qs wd)) ⟨k3,k4,k5,cs,rfl,e2,hl2,by rw[show cZ ws m p (List.take 0 G) qs wd=[]from rfl,List.append_nil];exact hp⟩ (fun j σ H' _ h=>by obtain⟨_,_,_,_,_,e,_⟩:=h;exact af.of (e _ _ hsl)) ?_ ?_
   ·clear hp hl2 e2
    rintro j y σ H3 hy ⟨k3',k4',k5',cs3,rfl,e3,hl3,hp3⟩
    rw[List.getElem?_map]at hy
    obtain⟨a,ha,rfl⟩:=Option.map_eq_some_iff.mp hy
    obtain⟨c,hc,wl,us,ha1,ha2,ha3⟩:=fJ hG ha
    have hj:j<G.length:=(List.getElem?_eq_some_iff.mp hc).1
    rw[zf hc]
    have hlen3:=Paired.length hp3
    have hl1:(cZ ws m p (G.take j) qs wd).length<=26:=by
     refine Nat.le_trans (oE ws m p _ qs wd) ?_
     rw[List.length_take]
     omega
    rw[List.length_append]at hlen3
    generalize cZ ws m p (G.take j) qs wd=L1 at hp3 hl1 hlen3
    refine dX (ag.of (e3 _ _ ha1)) rfl ?_
    walk_at "rd"
    refine⟨wl,pl,us,_,cD ws (aW m p) wd,m,rfl,.inl (e3 _ _ ha2),ha3.ext e3,fun w hw=>ok.ok w (kH hw).1,e3 _ _ hb2,by rw[gr,dm];omega,m2,fun b hb=>Nat.lt_of_lt_of_le (vU ok wd b hb) (Nat.pow_le_pow_right (by decide) (by omega)),Nat.le_trans (List.length_filter_le _ _) hfew,fun ll H4 e4 hll hlln=>?_⟩
    rw[←kc]at hll
    walk_at "rd"
    refine bO ?_
    walk_at "rd"
    refine⟨ll,el,_,qs,rfl,hll,(e3.trans e4) _ _ hel,by rw[gr,dm,hql],by rw[gr,dm];omega,fun H5 e5=>?_⟩
    have e35:=e4.trans e5
    have e05:=e3.trans e35
    have hl5:=e35 _ _ hl3
    have hp5:Paired (eC ws m p (hide H5 l)) cs3 (L0++L1):=Paired.mapP hp3 fun a' cs' h=>by
     refine h.ext fun a'' o ho=>?_
     unfold hide at ho ⊢
     split at ho
     ·cases ho
     ·rename_i hne
      rw[if_neg hne]
      exact e35 _ _ ho
    rw[←List.append_assoc]
    refine rd_exb ?_
    by_cases hg:g9 ws m p qs (wd++[c])=true
    ·rw[if_pos hg]
     refine xR hg ?_
     walk_at "rd"
     refine⟨cy (af.of hl5),?_⟩
     walk_at "rd"
     refine⟨_,_,rfl,rfl,Nat.le_trans (show(tw wd).cps.size+1<=25000 by show wd.toArray.size+1<=25000;rw[List.size_toArray];omega) (by decide),?_⟩
     rw[uL]
     walk_at "rd"
     refine⟨av (by simp),ao fun u H6 e6 hu hun=>?_⟩
     have hl6:=e6 _ _ hl5
     walk_at "rd"
     refine bH hl6 (yg (by rw[List.length_map];omega)) ?_
     walk_at "rd"
     have hul:u≠l:=fun z=>by rw[z,hl5]at hun;cases hun
     have hlll:ll≠l:=fun z=>by rw[z,hl3]at hlln;cases hlln
     refine⟨_,_,_,cs3++[u],rfl,bJ (e05.trans e6) hln,by rw[aI,List.map_append];rfl,?_⟩
     have hid:hide (upd H6 l (.lst (List.map V.ref cs3++[.ref u]))) l=hide H6 l:=by
      funext a''
      unfold hide
      split
      ·rfl
      ·rename_i hne
       rw[aG hne]
     rw[hid]
     refine lC (Paired.mapP hp5 fun a' cs' h=>h.ext fun a'' o ho=>?_) ⟨ll,eF hul hu,eF hlll (e6 _ _ (e5 _ _ hll))⟩
     unfold hide at ho ⊢
     split at ho
     ·cases ho
     ·rename_i hne
      rw[if_neg hne]
      exact e6 _ _ ho
    ·rw[if_neg hg,List.append_nil]
     refine zT hg ?_
     walk_at "rd"
     exact⟨_,_,_,cs3,rfl,e05,hl5,hp5⟩
   ·rintro σ H3 ⟨k3',k4',k5',cs3,rfl,e3,hl3,hp3⟩
    rw[List.length_map,hasl,List.take_length]at hp3
    exact⟨_,_,_,_,_,cs3,rfl,e3,hl3,hp3⟩
  ·rintro σ H2 ⟨k1,k2,k3,k4,k5,cs,rfl,e2,hl2,hp⟩
   rw[List.length_map,hbsl,List.take_length]at hp
   walk_at "rd"
   exact q l H2 cs e2 hl2 (Paired.mapP hp fun a b h=>h.ext (jm _ _))
theorem j7(xs:List V)(n:Nat):cY xs none (some (n:Int))=xs.take n:=by
 unfold cY
 rw[HT.yI,HT.fN,List.drop_zero,Nat.sub_zero]
 rcases Nat.le_total n xs.length with h | h
 ·rw[Nat.min_eq_left h]
 ·rw[Nat.min_eq_right h,List.take_of_length_le (Nat.le_refl _),List.take_of_length_le h]
theorem vM{α β:Type}{F:α->β->Prop}{as:List α}{bs:List β}(h:Paired F as bs):∀n,Paired F (as.take n) (bs.take n):=by
 induction h with
 | nil=>intro n;rw[List.take_nil,List.take_nil];exact .nil
 | cons h t ih=>
  intro n
  cases n with
  | zero=>exact .nil
  | succ n=>exact .cons h (ih n)
def wB(ws:List Way)(m p q:Int)(G:List Nat)(n k:Nat):Nat->List (List Nat)
 | 0=>[[]]
 | i+1=>(cG ws m p G (bP ws m q (n-1-i)) (wB ws m p q G n k i)).take k
def dy(ws:List Way)(m p q:Int)(G:List Nat)(n k:Nat):List (List Nat):=if dB (aW m p) (bP ws m q n)=true then wB ws m p q G n k n else[]
theorem uA(ws:List Way)(m p q:Int)(G:List Nat)(n k:Nat):∀i,∀b∈wB ws m p q G n k i,b.length=i
 | 0=>by
  intro b hb
  rw[List.mem_singleton.mp hb]
  rfl
 | i+1=>fun b hb=>AE (uA ws m p q G n k i) b (List.mem_of_mem_take hb)
theorem nA(ws:List Way)(m p q:Int)(G:List Nat)(n k:Nat):∀i,(wB ws m p q G n k i).length<=max 1 k
 | 0=>by
  show 1<=max 1 k
  omega
 | i+1=>by
  show(List.take k _).length<=_
  rw[List.length_take]
  omega
theorem nP(ws:List Way)(m p q:Int)(G:List Nat)(n k:Nat):(dy ws m p q G n k).length<=max 1 k:=by
 unfold dy
 split
 ·exact nA ws m p q G n k n
 ·exact Nat.zero_le _
theorem AU(n:Nat):dR ((n:Int)-1) (-1) (-1)=n:=by
 unfold dR
 rw[if_neg (by decide)]
 by_cases h:n=0
 ·subst h;rfl
 ·rw[if_pos (by omega),Int.neg_neg,Int.ediv_one]
  omega
abbrev bK(L:List (List Nat)):List V:=L.map fun cs=>V.str (tw cs)
def lV(K:PySem.W.Frag):Sp:=fun vs H Q _=>∃v m ws p q tl ts n k N G,vs=[v,.int p,.ref tl,.int ((n:Nat):Int),.int ((k:Nat):Int)]/\aM H v m ws/\HOuse m ws/\0<=p/\p<m/\0<=q/\q<m/\SigG ws G/\H tl=some (.lst (List.map V.ref ts))/\Paired (mQ H) ts ((List.range (N+1)).map (bP ws m q))/\n<=N/\N<=24012/\k<=300 ∧
 ∀l H',Ext H H'->H' l=some (.lst (bK (dy ws m p q G n k)))->Q (.ref l) H'
abbrev jE:Stmt:=stq 52
theorem vf:FnScope ["house","p","to_end","length","many","signs","begun","left"] ["house","p","to_end","length","many"] (aC jE):=⟨rfl,rfl,rfl,by decide +kernel,rfl,by decide +kernel,by decide +kernel⟩
theorem zR{P:Program}{w:World}{K:PySem.W.Frag}{mg:Str->Option Value}{base:Heap}(D:Dfn K mg "words_of_length" jE ["house","p","to_end","length","many"])(T:Blt mg)(C_longer_beginnings:Cal P w K mg base "longer_beginnings" 3 ["signs","begun","ends"] (rT K))(C_share_one:Cal P w K mg base "share_one" 1 ["places","others"] (i7 K))(C_alone_at_zero:Cal P w K mg base "alone_at_zero" 1 ["house","room"] (kg K))(C_ways_by_sign:Cal P w K mg base "ways_by_sign" 2 ["house"] (sA K)):Cal P w K mg base "words_of_length" 4 ["house","p","to_end","length","many"] (lV K):=by
 have nd:=(vf).nd
 refine D.ok vf (fun vs H Q E h=>?_) (fun X hX H vs Q E h=>?_)
 ·obtain⟨v,m,ws,p,q,tl,ts,n,k,N,G,rfl,_⟩:=h;rfl
 ·obtain⟨f,cdv,A,outer,s,H0,E0,rfl,hr⟩:=hX
  obtain⟨v,m,ws,p,q,tl,ts,n,k,N,G,rfl,hv,ok,p0,p1,q0,q1,hG,htl,hts,hnN,hN,hk,qq⟩:=h
  have m1:=ok.m1
  have m2:=ok.m12
  have hG26:=hG.few ok
  refine⟨_,(ah (az (i:=5) nd rfl (Or.inl rfl) (au C_ways_by_sign hr (aa (pv 0) ab)))
    (ah (az (i:=6) nd rfl (Or.inl rfl) (aR (aa (aQ (aa aH (aa (au C_alone_at_zero hr (aa (pv 0) (aa (pv 1) ab))) ab))) ab)))
    (ah (bt (dv (cH (au C_share_one hr (aa (ai (ax K) (ai (aJ K) (pv 6) ae (fun _ _=>rfl)) ae (fun _ _=>rfl)) (aa (ai (aJ K) (pv 2) (pv 3) (fun _ _=>rfl)) ab))))) (aj (aA (aR ab))) aO)
    (ah (bC PassesOwn.never rfl (B8 rfl T.range_ (aa (ak cR (pv 3) ae) (aa (lN lQ ae) (aa (lN lQ ae) ab)))) (aB (i:=7) nd rfl (Or.inl rfl)) (aj (az (i:=6) nd rfl (Or.inl rfl) (fM (fE K) (au C_longer_beginnings hr (aa (pv 5) (aa (pv 6) (aa (ai (aJ K) (pv 2) (pv 7) (fun _ _=>rfl)) ab)))) jR (dF (pv 4))))))
    (aj (aA (cE ["word","places"] [] (cx K (pv 6)) (fun _=>(dZ (n:=2) K rfl (bo (aB (i:=0) (show(["word","places"]:List Str).Nodup from by decide +kernel) rfl (Or.inl rfl) (Or.inr rfl)) (bo (aB (i:=1) (show(["word","places"]:List Str).Nodup from by decide +kernel) rfl (Or.inl rfl) (Or.inr rfl)) dw)))) (fun _=>cN) (fun _=>(pv 0))))))))),?_⟩
  walk_at "rd"
  refine⟨v,m,ws,rfl,hv,ok,fun sl H1 as G' e1 hsl hsg hG'=>?_⟩
  obtain rfl:=hG.uniq hG'
  walk_at "rd"
  refine⟨v,m,ws,p,rfl,hv.ext e1,ok,fun l0 H2 e2 hl0 _=>?_⟩
  walk_at "rd"
  refine⟨av (by simp),ao fun b0 H3 e3 hb0 _=>?_⟩
  walk_at "rd"
  refine⟨av (by simp),ao fun bl H4 e4 hbl _=>?_⟩
  have e14:=e2.trans (e3.trans e4)
  have e04:=e1.trans e14
  have hl04:=(e3.trans e4) _ _ hl0
  have hb04:=e4 _ _ hb0
  obtain⟨tn,htn,htn2⟩:=jA hts (i:=n) (t:=bP ws m q n) (by rw[List.getElem?_map,List.getElem?_range (by omega)];rfl)
  walk_at "rd"
  refine aK (af.of hbl) (v:=.ref b0) rfl ?_
  walk_at "rd"
  refine aw (ag.of hb04) (v:=.ref l0) rfl ?_
  walk_at "rd"
  refine aK (af.of (e04 _ _ htl)) (v:=.ref tn) (dh (by rw[List.getElem?_map,htn];rfl)) ?_
  walk_at "rd"
  refine⟨l0,tn,aW m p,bP ws m q n,rfl,hl04,e04 _ _ htn2,by rw[dm,iX],by rw[dm];omega,fun H5 e5=>?_⟩
  refine rd_exb ?_
  have e45:=e4.trans e5
  by_cases hsh:dB (aW m p) (bP ws m q n)=true
  ·rw[hsh]
   refine ay ?_
   walk_at "rd"
   refine yh ⟨⟨by omega,by omega⟩,⟨by decide,by decide⟩,⟨by decide,by decide⟩,by decide⟩ ?_
   rw[AU]
   refine zl (fun i σ H'=>∃bl bs x,σ=[some v,some (.int p),some (.ref tl),some (.int (n:Int)),some (.int (k:Int)),some (.ref sl),some (.ref bl),x]/\Ext H H'/\Ext H1 H'/\H' bl=some (.lst (List.map V.ref bs))/\Paired (eC ws m p H') bs (wB ws m p q G n k i)) ⟨bl,[b0],none,rfl,e04.trans e5,e14.trans e5,e5 _ _ hbl,.cons ⟨l0,e5 _ _ hb04,e5 _ _ hl04⟩ .nil⟩ ?_ ?_
   ·rintro i σ H6 hi ⟨bl6,bs,x,rfl,e6,e16,hbl6,hp⟩
    obtain⟨ti,hti,hti2⟩:=jA hts (i:=n-1-i) (t:=bP ws m q (n-1-i)) (by rw[List.getElem?_map,List.getElem?_range (by omega)];rfl)
    have hBl:=nA ws m p q G n k i
    walk_at "rd"
    refine aK (af.of (e6 _ _ htl)) (v:=.ref ti) ?_ ?_
    ·rw[show (n:Int)-1+(i:Int)*(-1)=((n-1-i:Nat):Int) by omega]
     exact dh (by rw[List.getElem?_map,hti];rfl)
    walk_at "rd"
    refine⟨sl,bl6,ti,ws,m,p,as,G,bs,_,bP ws m q (n-1-i),i,rfl,ok,e16 _ _ hsl,Paired.mapP hsg fun a c h=>h.ext e16,hG26,hbl6,hp,by omega,uA ws m p q G n k i,by omega,e6 _ _ hti2,iX ws m q _,fun l7 H7 cs e7 hl7 hp7=>?_⟩
    walk_at "rd"
    refine fQ (af.of hl7) (ao fun l8 H8 e8 hl8 _=>?_)
    rw[j7,←List.map_take]at hl8
    have hp8:=vM hp7 k
    exact⟨l8,cs.take k,_,rfl,e6.trans (e7.trans e8),e16.trans (e7.trans e8),hl8,Paired.mapP hp8 fun a c h=>h.ext e8⟩
   ·rintro σ H6 ⟨bl6,bs,x,rfl,e6,e16,hbl6,hp⟩
    have hBl:=nA ws m p q G n k n
    have hlen:=Paired.length hp
    have ew:dy ws m p q G n k=wB ws m p q G n k n:=by
     unfold dy
     rw[if_pos hsh]
    rw[ew]at qq
    generalize wB ws m p q G n k n=B at hp hBl hlen qq
    walk_at "rd"
    refine cC (af.of hbl6) ?_
    refine gj (xs:=List.map V.ref bs) (fun i ys H'=>H'=H6/\ys=bK (B.take i)) (bG (by rw[List.length_map];omega)) ⟨rfl,rfl⟩ (fun i ys H' hi h=>⟨by rw[h.1];exact af.of hbl6,by rw[h.2,List.length_map,List.length_take];omega⟩) ?_ ?_
    ·rintro i y ys H7 hy ⟨rfl,rfl⟩
     rw[List.getElem?_map]at hy
     obtain⟨b,hb,rfl⟩:=Option.map_eq_some_iff.mp hy
     obtain⟨wd,hwd,pl,hb1,hb2⟩:=fJ hp hb
     refine dX (ag.of hb1) rfl ?_
     walk_at "rd"
     refine aD ?_
     walk_at "rd"
     refine⟨rfl,?_⟩
     rw[List.take_succ,hwd]
     unfold bK
     rw[List.map_append]
     rfl
    ·rintro ys H7 l7 ⟨rfl,rfl⟩ hl7
     rw[List.length_map,hlen,List.take_length]
     exact qq l7 _ (e6.trans (aX hl7)) aI
  ·have ew:dy ws m p q G n k=[]:=by
    unfold dy
    rw[if_neg hsh]
   rw[ew]at qq
   rw[eq_false_of_ne_true hsh]
   refine aD ?_
   walk_at "rd"
   refine⟨av (by simp),ao fun l6 H6 e6 hl6 _=>?_⟩
   exact qq l6 H6 (e04.trans (e5.trans e6)) hl6
def bM(ws:List Way)(m p q:Int)(G:List Nat)(k:Nat):Nat->List (List Nat)
 | 0=>[]
 | e+1=>if(bM ws m p q G k e).length<k then bM ws m p q G k e++dy ws m p q G e (k-(bM ws m p q G k e).length)else bM ws m p q G k e
theorem qo(ws:List Way)(m p q:Int)(G:List Nat)(k:Nat):∀e,(bM ws m p q G k e).length<=k
 | 0=>Nat.zero_le _
 | e+1=>by
  show(if _ then _ else _:List (List Nat)).length<=k
  have ih:=qo ws m p q G k e
  split
  ·rename_i h
   rw[List.length_append]
   have:=nP ws m p q G e (k-(bM ws m p q G k e).length)
   omega
  ·exact ih
def qc(K:PySem.W.Frag):Sp:=fun vs H Q _=>∃v m ws p q n k G,vs=[v,.int p,.int q,.int ((n:Nat):Int),.int ((k:Nat):Int)]/\aM H v m ws/\HOuse m ws/\0<=p/\p<m/\0<=q/\q<m/\SigG ws G/\n<=40/\k<=200 ∧
 ∀l H',Ext H H'->H l=none->H' l=some (.lst (bK (bM ws m p q G k (n+1))))->Q (.ref l) H'
abbrev iK:Stmt:=stq 54
theorem sC:FnScope ["house","p","q","length","many","to_end","words","exact"] ["house","p","q","length","many"] (aC iK):=⟨rfl,rfl,rfl,by decide +kernel,rfl,by decide +kernel,by decide +kernel⟩
theorem yZ{P:Program}{w:World}{K:PySem.W.Frag}{mg:Str->Option Value}{base:Heap}(D:Dfn K mg "first_words" iK ["house","p","q","length","many"])(T:Blt mg)(g_MOST_WORDS:∃t,mg "MOST_WORDS" = some (.int 200 t))(g_LONGEST_WORD:∃t,mg "LONGEST_WORD" = some (.int 40 t))(C_words_of_length:Cal P w K mg base "words_of_length" 4 ["house","p","to_end","length","many"] (lV K))(C_places_to_end:Cal P w K mg base "places_to_end" 8 ["house","room","length"] (m9 K))(C_refuse_bad_rooms:Cal P w K mg base "refuse_bad_rooms" 7 ["house","p","q"] (iH K)):Cal P w K mg base "first_words" 9 ["house","p","q","length","many"] (qc K):=by
 have nd:=(sC).nd
 refine D.ok sC (fun vs H Q E h=>?_) (fun X hX H vs Q E h=>?_)
 ·obtain⟨v,m,ws,p,q,n,k,G,rfl,_⟩:=h;rfl
 ·obtain⟨f,cdv,A,outer,s,H0,E0,rfl,hr⟩:=hX
  obtain⟨t_MOST_WORDS,c_MOST_WORDS⟩:=g_MOST_WORDS
  obtain⟨t_LONGEST_WORD,c_LONGEST_WORD⟩:=g_LONGEST_WORD
  obtain⟨v,m,ws,p,q,n,k,G,rfl,hv,ok,p0,p1,q0,q1,hG,hn,hk,qq⟩:=h
  refine⟨_,(ah (aV (au C_refuse_bad_rooms hr (aa (pv 0) (aa (pv 1) (aa (pv 2) ab)))))
    (ah (bt (PW.pt (df (aL fc (pv 3) ae (aF _)) (df (aL eB (pv 3) (fx (v:=.int 40) rfl c_LONGEST_WORD ⟨_,rfl⟩) (aF _)) (df (aL fc (pv 4) ae (aF _)) (eA (aL eB (pv 4) (fx (v:=.int 200) rfl c_MOST_WORDS ⟨_,rfl⟩) (aF _))))))) (aj fh) aO)
    (ah (az (i:=5) nd rfl (Or.inl rfl) (au C_places_to_end hr (aa (pv 0) (aa (pv 2) (aa (pv 3) ab)))))
    (ah (az (i:=6) nd rfl (Or.inl rfl) (aR ab))
    (ah (bC PassesOwn.never rfl (cW rfl T.range_ (aa (ak aN (pv 3) ae) ab)) (aB (i:=7) nd rfl (Or.inl rfl)) (aj (cw (aL fc (aU (cB K) rfl T.len_ PySem.boot_len (aa (pv 6) ab)) (pv 4) (aF _)) (aj (aV (bx K PySem.F.plainAttrs_list PySem.F.slot_list_extend PySem.F.type_list_extend oP (pv 6) (aa (au C_words_of_length hr (aa (pv 0) (aa (pv 1) (aa (pv 5) (aa (pv 7) (aa (ak cR (pv 4) (aU (cB K) rfl T.len_ PySem.boot_len (aa (pv 6) ab))) ab)))))) ab)))) aO)))
    (aj (aA (pv 6)))))))),?_⟩
  walk_at "rd"
  refine⟨v,m,ws,p,q,rfl,hv,ok,p0,p1,q0,q1,fun H1 e1=>?_⟩
  walk_at "rd"
  rw[decide_eq_false (show ¬(n:Int)<0 by omega)]
  refine ay ?_
  walk_at "rd"
  rw[decide_eq_false (show ¬(40:Int)<(n:Int) by omega)]
  refine ay ?_
  walk_at "rd"
  rw[decide_eq_false (show ¬(k:Int)<0 by omega)]
  refine ay ?_
  walk_at "rd"
  rw[decide_eq_false (show ¬(200:Int)<(k:Int) by omega)]
  refine ay ?_
  walk_at "rd"
  refine⟨v,m,ws,q,n,rfl,hv.ext e1,ok,q0,q1,by omega,fun tl H2 ts e2 htl hts=>?_⟩
  walk_at "rd"
  refine⟨av (by simp),ao fun l H3 e3 hl hln=>?_⟩
  have e03:=e1.trans (e2.trans e3)
  have hlH:H l=none:=(e1.trans e2).none hln
  walk_at "rd"
  refine cV ⟨by omega,by omega⟩ ?_
  refine forR (fun i σ H'=>∃x,σ=[some v,some (.int p),some (.int q),some (.int (n:Int)),some (.int (k:Int)),some (.ref tl),some (.ref l),x]/\Ext H H'/\Ext H2 H'/\H' l=some (.lst (bK (bM ws m p q G k i)))) ⟨none,rfl,e03,e3,hl⟩ ?_ ?_
  ·rintro i σ H4 hi ⟨x,rfl,e4,e24,hl4⟩
   have hi':i<=n:=by
    have:i<((n:Int)+1).toNat:=hi
    omega
   have hfl:=qo ws m p q G k i
   walk_at "rd"
   refine bO ?_
   walk_at "rd"
   refine dg (af.of hl4) ?_
   walk_at "rd"
   rw[List.length_map]
   by_cases hlt:(bM ws m p q G k i).length<k
   ·rw[decide_eq_true (show(((bM ws m p q G k i).length:Nat):Int)<(k:Int) by omega)]
    have ef:bM ws m p q G k (i+1)=bM ws m p q G k i++dy ws m p q G i (k-(bM ws m p q G k i).length):=by
     show(if _ then _ else _)=_
     rw[if_pos hlt]
    have hwl:=nP ws m p q G i (k-(bM ws m p q G k i).length)
    rw[ef]
    generalize hF:bM ws m p q G k i=F at hl4 hfl hlt hwl
    refine aD ?_
    walk_at "rd"
    refine⟨cy (af.of hl4),?_⟩
    walk_at "rd"
    refine dg (af.of hl4) ?_
    walk_at "rd"
    rw[List.length_map]
    refine⟨v,m,ws,p,q,tl,ts,i,k-F.length,n,G,?_,hv.ext e4,ok,p0,p1,q0,q1,hG,e24 _ _ htl,Paired.mapP hts fun a c h=>e24 _ _ h,hi',by omega,by omega,fun l5 H5 e5 hl5=>?_⟩
    ·rw[show (0:Int)+(i:Int)=(i:Int) by omega,show (k:Int)-((F.length:Nat):Int)=((k-F.length:Nat):Int) by omega]
     rfl
    have hl5':=e5 _ _ hl4
    walk_at "rd"
    refine⟨l,l5,_,_,rfl,rfl,hl5',hl5,Nat.le_trans (show _<=1000 by rw[List.length_map,List.length_map];omega) (by decide),?_⟩
    walk_at "rd"
    refine⟨_,rfl,bJ (e4.trans e5) hlH,bJ (e24.trans e5) hln,?_⟩
    rw[aI]
    unfold bK
    rw[List.map_append]
   ·rw[decide_eq_false (show ¬(((bM ws m p q G k i).length:Nat):Int)<(k:Int) by omega)]
    have ef:bM ws m p q G k (i+1)=bM ws m p q G k i:=by
     show(if _ then _ else _)=_
     rw[if_neg hlt]
    rw[ef]
    refine ay ?_
    walk_at "rd"
    exact⟨_,rfl,e4,e24,hl4⟩
  ·rintro σ H4 ⟨x,rfl,e4,e24,hl4⟩
   rw[show ((n:Int)+1).toNat=n+1 by omega]at hl4
   walk_at "rd"
   exact qq l H4 e4 hlH hl4
theorem tX{z:Str}{n n':Int}(hz:bq z)(n0:0<=n)(h:bu z n=some n'):bu (cU z) n'=some n:=by
 rcases hz with rfl | rfl | rfl | rfl
 ·rw[eo]at h
  cases h
  rw[show cU "up" = "down" by decide +kernel,dO,decide_eq_true (show 0<n+1 by omega),if_pos rfl]
  congr 1;omega
 ·rw[dO]at h
  by_cases hn:0<n
  ·rw[decide_eq_true hn,if_pos rfl]at h
   cases h
   rw[show cU "down" = "up" by decide +kernel,eo]
   congr 1;omega
  ·rw[decide_eq_false hn]at h
   cases h
 ·rw[de]at h
  cases h
  rw[show cU "stay" = "stay" by decide +kernel,de]
 ·rw[dM]at h
  by_cases hn:n=0
  ·rw[decide_eq_true hn,if_pos rfl]at h
   cases h
   rw[show cU "zero" = "zero" by decide +kernel,dM,decide_eq_true hn,if_pos rfl]
  ·rw[decide_eq_false hn]at h
   cases h
def va(us:List Way)(S:Bfs.Pl->Prop)(y:Bfs.Pl):Prop:=∃x,S x/\∃w∈us,w.room=x.1/\bu w.deed x.2=some y.2/\w.other=y.1
theorem wm{m:Int}{us:List Way}(ok:∀w∈us,w.Ok m){ps:List Nat}{S:Bfs.Pl->Prop}(h:BitsAre m ps S):BitsAre m (b9 us ps) (va us S):=by
 refine⟨by rw[gg,h.len],fun o n ho=>?_,?_⟩
 ·unfold b9
  rw[mV _ _ _ (by rw[List.length_replicate,h.len];omega)]
  have hz:(List.replicate ps.length 0).getD o 0=0:=by
   rw[List.getD_eq_getElem?_getD,List.getElem?_replicate]
   split<;>rfl
  rw[hz,Nat.zero_testBit]
  constructor
  ·rintro(h0 | ⟨w,hw,h1,h2⟩)
   ·cases h0
   ·have okw:=ok w hw
    obtain⟨k,hk,hst⟩:=(iP okw.dd _ _).mp h2
    have hS:=(h.bit w.room.toNat k (by have:=okw.r0;have:=okw.r1;omega)).mp hk
    rw[show ((w.room.toNat:Nat):Int)=w.room by have:=okw.r0;omega]at hS
    exact⟨_,hS,w,hw,rfl,hst,by show w.other=(o:Int);have:=okw.o0;omega⟩
  ·rintro⟨x,hx,w,hw,hr,hst,hoo⟩
   have okw:=ok w hw
   have lx:=h.lo x hx
   refine .inr ⟨w,hw,by show w.other.toNat=o;have hoo:w.other=(o:Int):=hoo;omega,?_⟩
   refine(iP okw.dd _ _).mpr ⟨x.2.toNat,?_,?_⟩
   ·refine(h.bit w.room.toNat x.2.toNat (by have:=okw.r0;have:=okw.r1;omega)).mpr ?_
    rw[show (((w.room.toNat:Nat):Int),((x.2.toNat:Nat):Int))=x from Prod.ext (by have:=okw.r0;show((w.room.toNat:Nat):Int)=x.1;omega) (by show((x.2.toNat:Nat):Int)=x.2;omega)]
    exact hx
   ·rw[show ((x.2.toNat:Nat):Int)=x.2 by omega]
    exact hst
 ·rintro y ⟨x,hx,w,hw,hr,hst,hoo⟩
  have okw:=ok w hw
  rw[←hoo]
  exact⟨okw.o0,okw.o1,gQ okw.dd (h.lo x hx).2.2 hst⟩
theorem oq{a b:Nat}:¬(a &&& b:Nat)=0↔∃n,a.testBit n=true/\b.testBit n=true:=by
 constructor
 ·intro h
  obtain⟨n,hn⟩:=Nat.exists_testBit_of_ne_zero h
  rw[Nat.testBit_and,Bool.and_eq_true]at hn
  exact⟨n,hn⟩
 ·rintro⟨n,h1,h2⟩ h
  have:(a &&& b:Nat).testBit n=true:=by rw[Nat.testBit_and,h1,h2];rfl
  rw[h,Nat.zero_testBit]at this
  cases this
theorem zD{m:Int}{ps qs:List Nat}{S U:Bfs.Pl->Prop}(h:BitsAre m ps S)(h':BitsAre m qs U):dB ps qs=true↔∃x,S x/\U x:=by
 have key:dB ps qs=true↔∃i:Nat,∃a b,ps[i]?=some a/\qs[i]?=some b/\¬(a &&& b:Nat)=0:=by
  unfold dB
  rw[List.any_eq_true]
  constructor
  ·rintro⟨b,hb,hb1⟩
   obtain⟨i,hi⟩:=List.getElem?_of_mem hb
   rw[List.getElem?_zipWith]at hi
   cases e1:ps[i]? with
   | none=>rw[e1]at hi;cases hi
   | some x=>
    cases e2:qs[i]? with
    | none=>rw[e1,e2]at hi;cases hi
    | some y=>
     rw[e1,e2]at hi
     have hi':(!decide ((x &&& y:Nat)=0))=b:=Option.some.inj hi
     rw[←hi']at hb1
     exact⟨i,x,y,e1,e2,by simpa using hb1⟩
  ·rintro⟨i,x,y,e1,e2,hne⟩
   refine⟨true,List.mem_of_getElem? (i:=i) ?_,rfl⟩
   rw[List.getElem?_zipWith,e1,e2]
   show some (!decide ((x &&& y:Nat)=0))=some true
   rw[decide_eq_false hne]
   rfl
 rw[key]
 have gd:∀{L:List Nat} {i a:Nat},L[i]?=some a->L.getD i 0=a:=fun{L i a} e=>by
  rw[List.getD_eq_getElem?_getD,e]
  rfl
 constructor
 ·rintro⟨i,a,b,e1,e2,hne⟩
  obtain⟨n,n1,n2⟩:=oq.mp hne
  have hi:i<ps.length:=(List.getElem?_eq_some_iff.mp e1).1
  have hl:=h.len
  refine⟨((i:Int),(n:Int)),(h.bit i n (by omega)).mp (by rw[gd e1];exact n1),(h'.bit i n (by omega)).mp (by rw[gd e2];exact n2)⟩
 ·rintro⟨x,hx,hy⟩
  obtain⟨x0,x1,x2⟩:=h.lo x hx
  have ex:(((x.1.toNat:Nat):Int),((x.2.toNat:Nat):Int))=x:=Prod.ext (by show((x.1.toNat:Nat):Int)=x.1;omega) (by show((x.2.toNat:Nat):Int)=x.2;omega)
  have b1:=(h.bit x.1.toNat x.2.toNat (by omega)).mpr (by rw[ex];exact hx)
  have b2:=(h'.bit x.1.toNat x.2.toNat (by omega)).mpr (by rw[ex];exact hy)
  have l1:=h.len
  have l2:=h'.len
  have e1:=List.getElem?_eq_getElem (l:=ps) (i:=x.1.toNat) (by omega)
  have e2:=List.getElem?_eq_getElem (l:=qs) (i:=x.1.toNat) (by omega)
  rw[gd e1]at b1
  rw[gd e2]at b2
  exact⟨_,_,_,e1,e2,oq.mpr ⟨_,b1,b2⟩⟩
def TE(ws:List Way)(q:Int):Nat->Bfs.Pl->Prop
 | 0=>fun x=>x=(q,0)
 | j+1=>va (ws.map Way.turn) (TE ws q j)
theorem ly{m:Int}{ws:List Way}(ok:HOuse m ws){q:Int}(q0:0<=q)(q1:q<m):∀j,BitsAre m (bP ws m q j) (TE ws q j)
 | 0=>ou q0 q1
 | j+1=>wm (fun w hw=>ok.turn.ok w hw) (ly ok q0 q1 j)
theorem kR{m:Int}{ws:List Way}(ok:HOuse m ws){q:Int}(q0:0<=q)(q1:q<m){j:Nat}{x:Bfs.Pl}(x0:0<=x.2):TE ws q (j+1) x↔∃y,TE ws q j y/\∃w∈ws,w.room=x.1/\bu w.deed x.2=some y.2/\w.other=y.1:=by
 constructor
 ·rintro⟨y,hy,u,hu,h1,h2,h3⟩
  obtain⟨w,hw,rfl⟩:=List.mem_map.mp hu
  have okw:=ok.ok w hw
  have hy0:=((ly ok q0 q1 j).lo y hy).2.2
  have:=tX okw.turn.dd hy0 h2
  rw[show cU (Way.turn w).deed=w.deed from vB okw.dd]at this
  exact⟨y,hy,w,hw,h3,this,h1⟩
 ·rintro⟨y,hy,w,hw,h1,h2,h3⟩
  exact⟨y,hy,w.turn,List.mem_map.mpr ⟨w,hw,rfl⟩,h3,tX (ok.ok w hw).dd x0 h2,h1⟩
abbrev aT(ws:List Way)(m p q:Int)(j:Nat)(cs:List Nat):Bool:=g9 ws m p (bP ws m q j) cs
abbrev RP(ws:List Way)(p:Int)(cs:List Nat):Bfs.Pl->Prop:=Rs ws (fun x=>x=(p,0)) cs
section
variable {m p q:Int} {ws:List Way} (ok:HOuse m ws) (p0:0<=p) (p1:p<m) (q0:0<=q) (q1:q<m)
include ok p0 p1 q0 q1
theorem fv(j:Nat)(cs:List Nat):aT ws m p q j cs=true↔∃x,RP ws p cs x/\TE ws q j x:=zD (iS ok p0 p1 cs) (ly ok q0 q1 j)
theorem o9{j:Nat}{cs:List Nat}{c:Nat}(h:aT ws m p q j (cs++[c])=true):aT ws m p q (j+1) cs=true:=by
 obtain⟨y,hy,ht⟩:=(fv ok p0 p1 q0 q1 _ _).mp h
 unfold RP at hy
 rw[ia]at hy
 obtain⟨x,hx,w,hw,hs,hr,hst,ho⟩:=hy
 exact(fv ok p0 p1 q0 q1 _ _).mpr ⟨x,hx,(kR ok q0 q1 ((iS ok p0 p1 cs).lo x hx).2.2).mpr ⟨y,ht,w,hw,hr,hst,ho⟩⟩
theorem tQ{G:List Nat}(hG:SigG ws G){j:Nat}{cs:List Nat}(h:aT ws m p q (j+1) cs=true):∃c∈G,aT ws m p q j (cs++[c])=true:=by
 obtain⟨x,hx,ht⟩:=(fv ok p0 p1 q0 q1 _ _).mp h
 obtain⟨y,hy,w,hw,hr,hst,ho⟩:=(kR ok q0 q1 ((iS ok p0 p1 cs).lo x hx).2.2).mp ht
 obtain⟨c,hc⟩:=lI (ok.ok w hw).sg
 refine⟨c,(hG.mem c).mpr ⟨w,hw,hc⟩,(fv ok p0 p1 q0 q1 _ _).mpr ⟨y,?_,hy⟩⟩
 unfold RP
 rw[ia]
 exact⟨x,hx,w,hw,hc,hr,hst,ho⟩
end
def bf(G:List Nat):Nat->List (List Nat)
 | 0=>[[]]
 | n+1=>(bf G n).flatMap fun cs=>G.map fun c=>cs++[c]
theorem mj{α β:Type}{f:α->List β}{P:α->Bool}{R:β->Bool}(h:∀a,∀b∈f a,R b=true->P a=true):∀L:List α,(L.flatMap f).filter R=(L.filter P).flatMap fun a=>(f a).filter R
 | []=>rfl
 | a::L=>by
  rw[List.flatMap_cons,List.filter_append,mj h L]
  cases e:P a with
  | true=>rw[List.filter_cons_of_pos e,List.flatMap_cons]
  | false=>
   rw[List.filter_cons_of_neg (by rw[e];exact Bool.false_ne_true)]
   have:(f a).filter R=[]:=List.filter_eq_nil_iff.mpr fun b hb hr=>by
    rw[h a b hb hr]at e
    cases e
   rw[this,List.nil_append]
theorem uO{α β:Type}{f:α->List β}:∀(k:Nat) (L:List α),(∀a∈L,f a≠[])->((L.take k).flatMap f).take k=(L.flatMap f).take k
 | 0,L,_=>by rw[List.take_zero,List.take_zero]
 | k+1,[],_=>rfl
 | k+1,a::L,h=>by
  rw[List.take_succ_cons,List.flatMap_cons,List.flatMap_cons]
  have ha:f a≠[]:=h a List.mem_cons_self
  have hl:1<=(f a).length:=List.length_pos_iff.mpr ha
  rw[List.take_append,List.take_append]
  congr 1
  have h1:=uO k L fun b hb=>h b (List.mem_cons_of_mem _ hb)
  have h2:k+1-(f a).length<=k:=by omega
  have:=congrArg (List.take (k+1-(f a).length)) h1
  rw[List.take_take,List.take_take,Nat.min_eq_left h2]at this
  exact this
section
variable {m p q:Int} {ws:List Way} (ok:HOuse m ws) (p0:0<=p) (p1:p<m) (q0:0<=q) (q1:q<m)
include ok p0 p1 q0 q1
theorem Bx{G:List Nat}(i j:Nat):(bf G (i+1)).filter (aT ws m p q j)=cG ws m p G (bP ws m q j) ((bf G i).filter (aT ws m p q (j+1))):=by
 show((bf G i).flatMap _).filter _=_
 rw[mj (P:=aT ws m p q (j+1)) (fun a b hb hr=>?_)]
 ·rfl
 ·obtain⟨c,hc,rfl⟩:=List.mem_map.mp hb
  exact o9 ok p0 p1 q0 q1 hr
theorem uq{G:List Nat}(hG:SigG ws G){n k:Nat}(hk:1<=k)(hsh:dB (aW m p) (bP ws m q n)=true):∀i,i<=n->wB ws m p q G n k i=((bf G i).filter (aT ws m p q (n-i))).take k
 | 0,_=>by
  have:aT ws m p q n []=true:=hsh
  show[[]]=(([[]]:List (List Nat)).filter (aT ws m p q n)).take k
  rw[List.filter_cons_of_pos this]
  cases k with
  | zero=>exact absurd hk (by decide)
  | succ k=>rw[List.filter_nil,List.take_succ_cons,List.take_nil]
 | i+1,hi=>by
  show(cG ws m p G (bP ws m q (n-1-i)) (wB ws m p q G n k i)).take k=_
  rw[uq hG hk hsh i (by omega),show n-(i+1)=n-1-i by omega,Bx ok p0 p1 q0 q1 i (n-1-i),show n-i=n-1-i+1 by omega]
  refine uO k _ fun a ha=>?_
  obtain⟨c,hc,hcc⟩:=tQ ok p0 p1 q0 q1 hG (List.mem_filter.mp ha).2
  intro z
  have:a++[c]∈cZ ws m p G (bP ws m q (n-1-i)) a:=List.mem_filter.mpr ⟨List.mem_map.mpr ⟨c,hc,rfl⟩,hcc⟩
  rw[z]at this
  cases this
theorem sx{n:Nat}:∀{i:Nat} {cs:List Nat} {j:Nat},cs.length=i->aT ws m p q j cs=true->aT ws m p q (i+j) []=true
 | 0,cs,j,hl,h=>by
  rw[List.length_eq_zero_iff]at hl
  subst hl
  rw[Nat.zero_add]
  exact h
 | i+1,cs,j,hl,h=>by
  have hne:cs≠[]:=by
   rintro rfl
   cases hl
  have e:=List.dropLast_concat_getLast hne
  rw[←e]at h
  have:=sx (n:=n) (i:=i) (by rw[List.length_dropLast,hl];rfl) (o9 ok p0 p1 q0 q1 h)
  rwa [show i+1+j=i+(j+1) by omega]
theorem jv{G:List Nat}:∀(n:Nat),∀b∈bf G n,b.length=n
 | 0=>fun b hb=>by rw[List.mem_singleton.mp hb];rfl
 | n+1=>fun b hb=>by
  obtain⟨a,ha,hb⟩:=List.mem_flatMap.mp hb
  obtain⟨c,hc,rfl⟩:=List.mem_map.mp hb
  rw[List.length_append,jv n a ha]
  rfl
theorem qR{G:List Nat}(hG:SigG ws G){n k:Nat}(hk:1<=k):dy ws m p q G n k=((bf G n).filter (aT ws m p q 0)).take k:=by
 unfold dy
 split
 ·rename_i h
  rw[uq ok p0 p1 q0 q1 hG hk h n (Nat.le_refl _),Nat.sub_self]
 ·rename_i h
  have:(bf G n).filter (aT ws m p q 0)=[]:=List.filter_eq_nil_iff.mpr fun b hb hr=>h (by
   have:=sx (n:=n) ok p0 p1 q0 q1 (jv ok p0 p1 q0 q1 n b hb) hr
   exact this)
  rw[this,List.take_nil]
def cp(ws:List Way)(m p q:Int)(G:List Nat)(n:Nat):List (List Nat):=(List.range n).flatMap fun e=>(bf G e).filter (aT ws m p q 0)
theorem gN{G:List Nat}(n:Nat):cp ws m p q G (n+1)=cp ws m p q G n++(bf G n).filter (aT ws m p q 0):=by
 unfold cp
 rw[List.range_succ,List.flatMap_append]
 simp
theorem mx{G:List Nat}(hG:SigG ws G){k:Nat}:∀n,bM ws m p q G k n=(cp ws m p q G n).take k
 | 0=>by
  show[]=_
  unfold cp
  simp
 | n+1=>by
  show(if _ then _ else _)=_
  rw[gN ok p0 p1 q0 q1 n,mx hG n]
  split
  ·rename_i h
   rw[List.length_take]at h
   have hl:(cp ws m p q G n).length<k:=by omega
   rw[List.take_of_length_le (Nat.le_of_lt hl),qR ok p0 p1 q0 q1 hG (by omega),List.take_append,List.take_of_length_le (Nat.le_of_lt hl)]
  ·rename_i h
   rw[List.length_take]at h
   rw[List.take_append,show k-(cp ws m p q G n).length=0 by omega,List.take_zero,List.append_nil]
end
theorem zk{m p q:Int}{ws:List Way}(ok:HOuse m ws)(q0:0<=q)(q1:q<m){T:Int}(p0:0<=p)(p1:p<m):∀(n j:Nat) (x:Bfs.Pl),Bfs.Wk (bD ws T) (p,0) n x->0<=x.2/\(TE ws q j x->TE ws q (n+j) (p,0)):=by
 intro n
 induction n with
 | zero=>
  intro j x h
  cases h
  exact⟨Int.le_refl 0,fun h=>by rw[Nat.zero_add];exact h⟩
 | succ n ih=>
  intro j y h
  cases h with
  | succ hx hk=>
   rename_i x k
   obtain⟨w,hw,hr,hst,ho,_⟩:=iV hk
   obtain⟨x0,ih'⟩:=ih (j+1) x hx
   have hwm:=List.mem_of_getElem? hw
   refine⟨gQ (ok.ok w hwm).dd x0 hst,fun ht=>?_⟩
   have:=ih' ((kR ok q0 q1 x0).mpr ⟨y,ht,w,hwm,hr,hst,ho.symm⟩)
   rwa [show n+1+j=n+(j+1) by omega]
section
variable {m p q:Int} {ws:List Way} (ok:HOuse m ws) (p0:0<=p) (p1:p<m) (q0:0<=q) (q1:q<m)
include ok p0 p1 q0 q1
theorem sE{G:List Nat}(hG:SigG ws G):∀(j i:Nat) (cs:List Nat),cs∈bf G i->aT ws m p q j cs=true->∃cs',cs'∈bf G (i+j)/\aT ws m p q 0 cs'=true
 | 0,i,cs,h,hc=>⟨cs,h,hc⟩
 | j+1,i,cs,h,hc=>by
  obtain⟨c,hcG,hcc⟩:=tQ ok p0 p1 q0 q1 hG hc
  have:=sE hG j (i+1) (cs++[c]) (List.mem_flatMap.mpr ⟨cs,h,List.mem_map.mpr ⟨c,hcG,rfl⟩⟩) hcc
  rwa [show i+(j+1)=i+1+j by omega]
theorem w8{G:List Nat}(hG:SigG ws G){T:Int}{n:Nat}(h:Bfs.Wk (bD ws T) (p,0) n (q,0)):∃cs,dy ws m p q G n 1=[cs]/\((bf G n).filter (aT ws m p q 0))[0]?=some cs:=by
 have ht:TE ws q n (p,0):=by
  have:=(zk ok q0 q1 p0 p1 n 0 (q,0) h).2 rfl
  rwa [Nat.add_zero]at this
 have hc:aT ws m p q n []=true:=(fv ok p0 p1 q0 q1 n []).mpr ⟨(p,0),rfl,ht⟩
 obtain⟨cs,h1,h2⟩:=sE ok p0 p1 q0 q1 hG n 0 [] (List.mem_singleton.mpr rfl) hc
 rw[Nat.zero_add]at h1
 have hm:cs∈(bf G n).filter (aT ws m p q 0):=List.mem_filter.mpr ⟨h1,h2⟩
 rw[qR ok p0 p1 q0 q1 hG (Nat.le_refl 1)]
 cases e:(bf G n).filter (aT ws m p q 0)with
 | nil=>rw[e]at hm;cases hm
 | cons a L=>exact⟨a,rfl,rfl⟩
end
def sF(K:PySem.W.Frag):Sp:=fun vs H Q _=>∃v m ws p q G,vs=[v,.int p,.int q]/\aM H v m ws/\HOuse m ws/\0<=p/\p<m/\0<=q/\q<m/\SigG ws G ∧
 ((∀n,¬Bfs.cz (bD ws (bN m (p,0) (q,0))) (p,0) n (q,0))->∀H',Ext H H'->Q .non H')/\∀n H' cs,Bfs.cz (bD ws (bN m (p,0) (q,0))) (p,0) n (q,0)->n<=24012->Ext H H'->((bf G n).filter (aT ws m p q 0))[0]?=some cs->Q (.str (tw cs)) H'
abbrev iW:Stmt:=stq 53
theorem p9:FnScope ["house","p","q","walk","to_end"] ["house","p","q"] (aC iW):=⟨rfl,rfl,rfl,by decide +kernel,rfl,by decide +kernel,by decide +kernel⟩
theorem BN{P:Program}{w:World}{K:PySem.W.Frag}{mg:Str->Option Value}{base:Heap}(D:Dfn K mg "first_word" iW ["house","p","q"])(T:Blt mg)(C_words_of_length:Cal P w K mg base "words_of_length" 4 ["house","p","to_end","length","many"] (lV K))(C_places_to_end:Cal P w K mg base "places_to_end" 8 ["house","room","length"] (m9 K))(C_shortest:Cal P w K mg base "shortest" 7 ["house","place","goal"] (vv K))(C_refuse_bad_rooms:Cal P w K mg base "refuse_bad_rooms" 7 ["house","p","q"] (iH K)):Cal P w K mg base "first_word" 9 ["house","p","q"] (sF K):=by
 have nd:=(p9).nd
 refine D.ok p9 (fun vs H Q E h=>?_) (fun X hX H vs Q E h=>?_)
 ·obtain⟨v,m,ws,p,q,G,rfl,_⟩:=h;rfl
 ·obtain⟨f,cdv,A,outer,s,H0,E0,rfl,hr⟩:=hX
  obtain⟨v,m,ws,p,q,G,rfl,hv,ok,p0,p1,q0,q1,hG,qn,qy⟩:=h
  refine⟨_,(ah (aV (au C_refuse_bad_rooms hr (aa (pv 0) (aa (pv 1) (aa (pv 2) ab)))))
    (ah (az (i:=3) nd rfl (Or.inl rfl) (au C_shortest hr (aa (pv 0) (aa (aQ (aa (pv 1) (aa ae ab))) (aa (aQ (aa (pv 2) (aa ae ab))) ab)))))
    (ah (bt (aL CD (pv 3) ik (aF _)) (aj (aA ik)) aO)
    (ah (az (i:=4) nd rfl (Or.inl rfl) (au C_places_to_end hr (aa (pv 0) (aa (pv 2) (aa (aU (cB K) rfl T.len_ PySem.boot_len (aa (pv 3) ab)) ab)))))
    (aj (aA (ai (aJ K) (au C_words_of_length hr (aa (pv 0) (aa (pv 1) (aa (pv 4) (aa (aU (cB K) rfl T.len_ PySem.boot_len (aa (pv 3) ab)) (aa ae ab)))))) ae (fun _ _=>rfl)))))))),?_⟩
  walk_at "rd"
  refine⟨v,m,ws,p,q,rfl,hv,ok,p0,p1,q0,q1,fun H1 e1=>?_⟩
  walk_at "rd"
  refine⟨av (by simp),ao fun pa H2 e2 hpa _=>?_⟩
  walk_at "rd"
  refine⟨av (by simp),ao fun ga H3 e3 hga _=>?_⟩
  have e03:=e1.trans (e2.trans e3)
  walk_at "rd"
  refine⟨v,m,ws,pa,ga,(p,0),(q,0),rfl,hv.ext e03,ok,e3 _ _ hpa,hga,⟨p0,p1,Int.le_refl 0,show (0:Int)<=1000 by decide⟩,⟨q0,q1,Int.le_refl 0,show (0:Int)<=1000 by decide⟩,fun hno H4 e4=>?_,fun n l H4 ks hd hn e4 _ hl hkl _=>?_⟩
  ·walk_at "rd"
   refine⟨rfl,true,rfl,?_⟩
   refine aD ?_
   walk_at "rd"
   exact qn hno H4 (e03.trans e4)
  ·obtain⟨cs,hw1,hcs⟩:=w8 ok p0 p1 q0 q1 hG hd.1
   walk_at "rd"
   refine⟨rfl,false,rfl,?_⟩
   refine ay ?_
   have e04:=e03.trans e4
   walk_at "rd"
   refine dg (af.of hl) ?_
   walk_at "rd"
   rw[List.length_map,hkl]
   refine⟨v,m,ws,q,n,rfl,hv.ext e04,ok,q0,q1,hn,fun tl H5 ts e5 htl hts=>?_⟩
   walk_at "rd"
   refine dg (af.of (e5 _ _ hl)) ?_
   walk_at "rd"
   rw[List.length_map,hkl]
   refine⟨v,m,ws,p,q,tl,ts,n,1,n,G,rfl,(hv.ext e04).ext e5,ok,p0,p1,q0,q1,hG,htl,hts,Nat.le_refl _,hn,by decide,fun l6 H6 e6 hl6=>?_⟩
   rw[hw1]at hl6
   walk_at "rd"
   refine aK (af.of hl6) (v:=.str (tw cs)) rfl ?_
   exact qy n H6 cs hd hn (e04.trans (e5.trans e6)) hcs
theorem BB{ws:List Way}{c:Nat}{S S':Bfs.Pl->Prop}(h:∀x,S x↔S' x)(y:Bfs.Pl):Sg ws c S y↔Sg ws c S' y:=by
 constructor
 ·rintro⟨x,hx,r⟩
  exact⟨x,(h x).mp hx,r⟩
 ·rintro⟨x,hx,r⟩
  exact⟨x,(h x).mpr hx,r⟩
abbrev cJ(l:List Nat):List V:=l.map fun c=>V.str ⟨#[c]⟩
theorem xj:(Str.ofString "abcdefghijklmnopqrstuvwxyz").cps.toList=(List.range 26).map (97 + ·):=by decide +kernel
def rS(K:PySem.W.Frag):Sp:=fun vs H Q _=>∃c p,vs=[.int c,.int p]/\0<p/\∀l H' L,Ext H H'->H' l=some (.lst (cJ L))->L.length=3->L.Nodup->(∀x∈L,97<=x/\x<=122)->Q (.ref l) H'
theorem uR:∀(l:List Nat) (k:Nat),(cJ l).eraseIdx k=cJ (l.eraseIdx k)
 | [],k=>by cases k<;>rfl
 | a::l,0=>rfl
 | a::l,k+1=>by
  show _::(cJ l).eraseIdx k=_::cJ (l.eraseIdx k)
  rw[uR l k]
theorem f7:∀{l:List Nat} {k y:Nat},l[k]?=some y->(y::l.eraseIdx k).Perm l
 | [],k,y,h=>by simp at h
 | a::l,0,y,h=>by
  cases h
  exact List.Perm.refl _
 | a::l,k+1,y,h=>(List.Perm.swap a y (l.eraseIdx k)).trans (List.Perm.cons a (f7 h))
theorem BC{F R:List Nat}{k y:Nat}(h:(F++R).Nodup)(hy:R[k]?=some y):(F++[y]++R.eraseIdx k).Nodup:=by
 have p:=f7 hy
 rw[List.append_assoc]
 exact(List.Perm.nodup_iff (List.Perm.append_left F p)).mpr h
theorem xi{l:List Nat}{k:Nat}{x:Nat}(h:x∈l.eraseIdx k):x∈l:=List.mem_of_mem_eraseIdx h
abbrev jk:Stmt:=stq 68
theorem pq:FnScope ["_law_cell_here","_law_prime","_law_left"] ["_law_cell_here","_law_prime"] (aC jk):=⟨rfl,rfl,rfl,by decide +kernel,rfl,by decide +kernel,by decide +kernel⟩
theorem Ae{P:Program}{w:World}{K:PySem.W.Frag}{mg:Str->Option Value}{base:Heap}(D:Dfn K mg "_law_letters" jk ["_law_cell_here","_law_prime"])(T:Blt mg)(C__law_draws:Cal P w K mg base "_law_draws" 2 ["_law_cell_here","_law_widths","_law_prime"] (eX K)):Cal P w K mg base "_law_letters" 3 ["_law_cell_here","_law_prime"] (rS K):=by
 have nd:=(pq).nd
 refine D.ok pq (fun vs H Q E h=>?_) (fun X hX H vs Q E h=>?_)
 ·obtain⟨c,p,rfl,_⟩:=h;rfl
 ·obtain⟨f,cdv,A,outer,s,H0,E0,rfl,hr⟩:=hX
  obtain⟨c,p,rfl,hp,q⟩:=h
  refine⟨_,(ah (az (i:=2) nd rfl (Or.inr rfl) (dN (xM rfl) rfl T.list_ PyProof.Rows.boot_list (aa aH ab)))
    (aj (aA (cE ["_law_at"] [2] (cx K (au C__law_draws hr (aa (pv 0) (aa (aR (aa ae (aa ae (aa ae ab)))) (aa (pv 1) ab))))) (fun _=>(aB (i:=0) (show(["_law_at","_law_left"]:List Str).Nodup from by decide +kernel) rfl (Or.inl rfl) (Or.inr rfl))) (fun _=>cN) (fun _=>(bx K PySem.F.plainAttrs_list PySem.F.slot_list_pop PySem.F.type_list_pop vJ (pv 1) (aa (pv 0) ab))))))),?_⟩
  walk_at "rd"
  refine⟨_,rfl,bG (by decide +kernel),fun l hln=>?_⟩
  rw[xj]
  have hl1:upd H l (.lst (cJ ((List.range 26).map (97 + ·)))) l=some (.lst (cJ ((List.range 26).map (97 + ·)))):=aI
  have e1:Ext H (upd H l (.lst (cJ ((List.range 26).map (97 + ·))))):=aX hln
  generalize upd H l (.lst (cJ ((List.range 26).map (97 + ·))))=H1 at hl1 e1 ⊢
  walk_at "rd"
  refine⟨av (by simp),ao fun w0 H3 e3 hw0 _=>?_⟩
  walk_at "rd"
  refine fq [26,25,24] hw0 (by decide) (by decide) (hp) fun dq ds H4 e4 hd hdn hdl hdb=>?_
  have hl4:=(e3.trans e4) _ _ hl1
  have dql:dq≠l:=fun z=>by rw[z,e3 _ _ hl1]at hdn;cases hdn
  have e04:=e1.trans (e3.trans e4)
  have eG:Ext (hide H4 l) H4:=jm _ _
  have hGd:hide H4 l dq=some (.lst (ds.map V.int)):=eF dql hd
  have hGl:hide H4 l l=none:=ml _ _
  generalize hide H4 l=G at eG hGd hGl
  refine cC (af.of hd) ?_
  refine gj (xs:=ds.map V.int) (fun j ys H'=>∃F R,ys=cJ F/\Ext H H'/\Ext G H'/\H' l=some (.lst (cJ R))/\(F++R).Nodup/\(∀x∈F++R,97<=x/\x<=122)/\R.length+j=26/\F.length=j) (bG (by rw[List.length_map,hdl];decide)) ⟨[],_,rfl,e04,eG,hl4,by decide +kernel,fun x hx=>?_,by decide,rfl⟩ (fun j ys H' _ h=>by obtain⟨F,R,rfl,_,e,_,_,_,_,hF⟩:=h;exact⟨af.of (e _ _ hGd),by rw[List.length_map];omega⟩) ?_ ?_
  ·obtain⟨i,hi,rfl⟩:=List.mem_map.mp hx
   have:=List.mem_range.mp hi
   omega
  ·rintro j u ys H5 hu ⟨F,R,rfl,e5,eG5,hl5,hnd,hin,hR,hF⟩
   rw[List.getElem?_map]at hu
   obtain⟨i,hi,rfl⟩:=Option.map_eq_some_iff.mp hu
   have hj:j<3:=by
    have:=(List.getElem?_eq_some_iff.mp hi).1
    rw[hdl]at this
    exact this
   have hw:([26,25,24]:List Int)[j]?=some (26-(j:Int)):=by
    have:j=0\/j=1\/j=2:=by omega
    rcases this with rfl | rfl | rfl<;>rfl
   obtain⟨i0,i1⟩:=hdb j i _ hi hw
   have hil:i.toNat<R.length:=by omega
   have hy:R[i.toNat]?=some R[i.toNat]:=List.getElem?_eq_getElem hil
   generalize R[i.toNat]=y at hy
   walk_at "rd"
   refine aD ?_
   walk_at "rd"
   refine⟨cy (af.of hl5),?_⟩
   walk_at "rd"
   refine⟨l,_,i,i.toNat,.str ⟨#[y]⟩,rfl,rfl,hl5,by omega,by omega,(mH (pz i0 (by rw[List.length_map];omega))).1,by rw[List.getElem?_map,hy];rfl,?_⟩
   rw[uR]
   refine⟨F++[y],R.eraseIdx i.toNat,by unfold cJ;rw[List.map_append];rfl,bJ e5 hln,bJ eG5 hGl,aI,BC hnd hy,fun x hx=>?_,?_,by rw[List.length_append,hF];rfl⟩
   ·refine hin x ?_
    rcases List.mem_append.mp hx with z | z
    ·rcases List.mem_append.mp z with z | z
     ·exact List.mem_append_left _ z
     ·rw[List.mem_singleton]at z
      subst z
      exact List.mem_append_right _ (List.mem_of_getElem? hy)
    ·exact List.mem_append_right _ (xi z)
   ·rw[List.length_eraseIdx_of_lt hil]
    omega
  ·rintro ys H5 f ⟨F,R,rfl,e5,eG5,hl5,hnd,hin,hR,hF⟩ hfn
   rw[List.length_map,hdl]at hF
   rw[List.nodup_append]at hnd
   exact q f _ F (e5.trans (aX hfn)) aI hF hnd.1 fun x hx=>hin x (List.mem_append_left _ hx)
def eU(z:Str):Nat:=if z = "a" then 0 else if z = "b" then 1 else 2
theorem oT(z:Str):eU z<3:=by
 unfold eU
 split
 ·decide
 ·split<;>decide
def cI(L:List Nat)(z:Str):Nat:=L.getD (eU z) 0
def Way.ren(L:List Nat)(w:Way):Way:={ w with sign:=⟨#[cI L w.sign]⟩ }
theorem Bh{z:Str}(h:gn z):kJ (Str.ofString "abc") z=((eU z:Nat):Int):=by
 rcases h with rfl | rfl | rfl<;>decide +kernel
theorem BK{L:List Nat}(h3:L.length=3)(hn:L.Nodup){z z':Str}(h:gn z)(h':gn z')(e:cI L z=cI L z'):z=z':=by
 match L,h3 with
 | [a,b,c],_=>
  have nab:a≠b:=by simp at hn;exact hn.1.1
  have nac:a≠c:=by simp at hn;exact hn.1.2
  have nbc:b≠c:=by simp at hn;exact hn.2
  have la:cI [a,b,c] "a" = a:=by unfold cI;rw[show eU "a" = 0 by decide +kernel];rfl
  have lb:cI [a,b,c] "b" = b:=by unfold cI;rw[show eU "b" = 1 by decide +kernel];rfl
  have lc:cI [a,b,c] "c" = c:=by unfold cI;rw[show eU "c" = 2 by decide +kernel];rfl
  rcases h with rfl | rfl | rfl<;>rcases h' with rfl | rfl | rfl<;>first | rfl | (exfalso;simp only[la,lb,lc]at e;first | exact nab e | exact nab e.symm | exact nac e | exact nac e.symm | exact nbc e | exact nbc e.symm)
theorem pA{L:List Nat}(h3:L.length=3){z:Str}:cI L z∈L:=by
 unfold cI
 have h:=oT z
 rw[List.getD_eq_getElem?_getD,List.getElem?_eq_getElem (show eU z<L.length by omega)]
 exact List.getElem_mem _
theorem ve{m:Int}{ws:List Way}{L:List Nat}(ok:HOuse m ws)(hs:∀w∈ws,gn w.sign)(h3:L.length=3)(hn:L.Nodup)(hL:∀x∈L,97<=x/\x<=122):HOuse m (ws.map (Way.ren L)) where
 m1:=ok.m1
 m12:=ok.m12
 few:=by rw[List.length_map];exact ok.few
 ok u hu:=by
  obtain⟨w,hw,rfl⟩:=List.mem_map.mp hu
  have o:=ok.ok w hw
  have:=hL _ (pA h3 (z:=w.sign))
  exact⟨o.r0,o.r1,o.o0,o.o1,o.dd,_,this.1,this.2,rfl⟩
 nd:=by
  have:=ok.nd
  unfold List.Nodup at this ⊢
  rw[List.pairwise_map]
  refine List.Pairwise.imp_of_mem ?_ this
  intro a b ha hb ne e
  refine ne ?_
  have e1:a.room=b.room:=show (Way.ren L a).room=(Way.ren L b).room from congrArg Way.room e
  have e2:a.deed=b.deed:=show (Way.ren L a).deed=(Way.ren L b).deed from congrArg Way.deed e
  have e3:a.other=b.other:=show (Way.ren L a).other=(Way.ren L b).other from congrArg Way.other e
  have e4:cI L a.sign=cI L b.sign:=by
   have:=congrArg Way.sign e
   simpa[Way.ren]using this
  have e5:=BK h3 hn (hs a ha) (hs b hb) e4
  cases a;cases b
  simp only at e1 e2 e3 e5
  rw[e1,e2,e3,e5]
def tR(K:PySem.W.Frag):Sp:=fun vs H Q _=>∃v m ws l L,vs=[v,.ref l]/\aM H v m ws/\HOuse m ws/\(∀w∈ws,gn w.sign)/\H l=some (.lst (cJ L))/\L.length=3/\∀u H',Ext H H'->aM H' u m (List.map (Way.ren L) ws)->Q u H'
abbrev kC:Stmt:=stq 69
theorem vc:FnScope ["_law_house_here","_law_letters_here","_law_ways"] ["_law_house_here","_law_letters_here"] (aC kC):=⟨rfl,rfl,rfl,by decide +kernel,rfl,by decide +kernel,by decide +kernel⟩
theorem zd{P:Program}{w:World}{K:PySem.W.Frag}{mg:Str->Option Value}{base:Heap}(D:Dfn K mg "_law_respelled" kC ["_law_house_here","_law_letters_here"])(T:Blt mg):Cal P w K mg base "_law_respelled" 1 ["_law_house_here","_law_letters_here"] (tR K):=by
 have nd:=(vc).nd
 refine D.ok vc (fun vs H Q E h=>?_) (fun X hX H vs Q E h=>?_)
 ·obtain⟨v,m,ws,l,L,rfl,_⟩:=h;rfl
 ·obtain⟨f,cdv,A,outer,s,H0,E0,rfl,hr⟩:=hX
  obtain⟨v,m,ws,l,L,rfl,⟨p,t,rfl,g1,g2⟩,ok,hs3,hL,h3,q⟩:=h
  obtain⟨bs,g3,al⟩:=bB.al g2
  have hfew:=ok.few
  refine⟨_,(ah (lU (i:=2) ["_law_room","_law_deed","_law_other","_law_sign"] [1] nd rfl (Or.inl rfl) (dY K (ai (ax K) (pv 0) ae (fun _ _=>rfl))) (fun _=>(dZ (n:=4) K rfl (bo (aB (i:=0) (show(["_law_room","_law_deed","_law_other","_law_sign","_law_letters_here"]:List Str).Nodup from by decide +kernel) rfl (Or.inl rfl) (Or.inr rfl)) (bo (aB (i:=1) (show(["_law_room","_law_deed","_law_other","_law_sign","_law_letters_here"]:List Str).Nodup from by decide +kernel) rfl (Or.inl rfl) (Or.inr rfl)) (bo (aB (i:=2) (show(["_law_room","_law_deed","_law_other","_law_sign","_law_letters_here"]:List Str).Nodup from by decide +kernel) rfl (Or.inl rfl) (Or.inr rfl)) (bo (aB (i:=3) (show(["_law_room","_law_deed","_law_other","_law_sign","_law_letters_here"]:List Str).Nodup from by decide +kernel) rfl (Or.inl rfl) (Or.inr rfl)) dw)))))) (fun _=>cN) (fun _=>(aQ (aa (pv 0) (aa (pv 1) (aa (pv 2) (aa (ai (aJ K) (pv 4) (bx K PySem.F.plainAttrs_str PySem.F.slot_str_find PySem.F.type_str_find Ba aH (aa (pv 3) ab)) (fun _ _=>rfl)) ab)))))))
    (aj (aA (aQ (aa (ai (ax K) (pv 0) ae (fun _ _=>rfl)) (aa (dN (fF K) rfl T.tuple_ PyProof.Rows.boot_tuple (aa (pv 2) ab)) ab)))))),?_⟩
  walk_at "rd"
  refine aw (ag.of g1) (v:=.ref t) rfl ?_
  refine dQ (ag.of g3) ?_
  refine eS (xs:=bs.map V.ref) (fun i ys H'=>Ext H H'/\∃cs,ys=cs.map V.ref/\aE H' cs ((ws.take i).map (Way.ren L))) (bG (by rw[List.length_map,al.1];omega)) ⟨Ext.rfl' _,[],rfl,aE.nil _⟩ (fun i ys H' hi h=>⟨ag.of (h.1 _ _ g3),?_⟩) ?_ ?_
  ·obtain⟨_,cs,rfl,hc,_⟩:=h
   rw[List.length_map,hc,List.length_map,List.length_take]
   exact Nat.min_le_left _ _
  ·rintro i x ys H' hx ⟨e2,cs,rfl,al2⟩
   rw[List.getElem?_map]at hx
   obtain⟨b,hb,rfl⟩:=Option.map_eq_some_iff.mp hx
   have hi:i<ws.length:=by
    rw[←al.1]
    exact(List.getElem?_eq_some_iff.mp hb).1
   have hwi:ws[i]?=some ws[i]:=List.getElem?_eq_getElem hi
   have hw:=e2 _ _ (al.2 i b _ hb hwi)
   have hs:=hs3 _ (List.getElem_mem hi)
   have hLt:eU ws[i].sign<L.length:=by
    have:=oT ws[i].sign
    omega
   refine dX (ag.of hw) rfl ?_
   walk_at "rd"
   refine aD ?_
   walk_at "rd"
   refine⟨rfl,?_⟩
   walk_at "rd"
   refine⟨_,_,rfl,rfl,?_⟩
   rw[Bh hs]
   refine aK (af.of (e2 _ _ hL)) (v:=.str ⟨#[cI L ws[i].sign]⟩) (dh ?_) ?_
   ·rw[List.getElem?_map,List.getElem?_eq_getElem hLt]
    unfold cI
    rw[List.getD_eq_getElem?_getD,List.getElem?_eq_getElem hLt]
    rfl
   walk_at "rd"
   refine⟨av (by simp),ao fun v H3 e3 hv _=>?_⟩
   refine⟨e2.trans e3,cs++[v],by rw[List.map_append];rfl,?_⟩
   rw[List.take_add_one,hwi,List.map_append]
   exact(al2.ext e3).snoc hv
  ·rintro ys H' l' ⟨e2,cs,rfl,al2⟩ hl
   rw[List.length_map,al.1,List.take_length]at al2
   have e3:Ext H (upd H' l' (.lst (cs.map V.ref))):=e2.trans (aX hl)
   have al3:=al2.ext (aX (o:=.lst (cs.map V.ref)) hl)
   have hl3:upd H' l' (.lst (cs.map V.ref)) l'=some (.lst (cs.map V.ref)):=aI
   generalize upd H' l' (.lst (cs.map V.ref))=H4 at e3 al3 hl3 ⊢
   walk_at "rd"
   refine aw (ag.of (e3 _ _ g1)) (v:=.int m) rfl ?_
   walk_at "rd"
   refine fL (af.of hl3) (ao fun t' H5 e5 ht _=>?_)
   walk_at "rd"
   refine⟨av (by simp),ao fun u H6 e6 hu _=>?_⟩
   exact q _ H6 (e3.trans (e5.trans e6)) (aM.mk hu (((al3.ext e5).ways ht).ext e6))
theorem Bw{ds:List Int}{i:Nat}(h:i+3<=ds.length):∃a b c,cY (ds.map V.int) (some (i:Int)) (some ((i+3:Nat):Int))=[.int a,.int b,.int c]/\ds[i]?=some a/\ds[i+1]?=some b/\ds[i+2]?=some c:=by
 refine⟨ds[i],ds[i+1],ds[i+2],?_,List.getElem?_eq_getElem _,List.getElem?_eq_getElem _,List.getElem?_eq_getElem _⟩
 unfold cY
 rw[HT.fN,HT.fN,List.length_map,Nat.min_eq_left (by omega),Nat.min_eq_left (by omega),show i+3-i=3 by omega,←List.map_drop,←List.map_take]
 rw[List.drop_eq_getElem_cons (show i<ds.length by omega),List.drop_eq_getElem_cons (show i+1<ds.length by omega),List.drop_eq_getElem_cons (show i+1+1<ds.length by omega)]
 rfl
def fR:List Int:=[4,11]++(List.replicate 10 ([12,12,3]:List Int)).flatten
theorem AN{k:Nat}(h:k<10):fR[2+3*k]?=some 12/\fR[2+3*k+1]?=some 12/\fR[2+3*k+2]?=some 3:=by
 have:∀k:Fin 10,fR[2+3*k.val]?=some 12/\fR[2+3*k.val+1]?=some 12/\fR[2+3*k.val+2]?=some 3:=by decide +kernel
 exact this ⟨k,h⟩
def ui(K:PySem.W.Frag):Sp:=fun vs H Q _=>∃c p,vs=[.int c,.int p]/\0<p/\∀v m ws H',Ext H H'->aM H' v m ws->HOuse3 m ws->(∀w∈ws,w.deed = "stay")->Q v H'
abbrev iF:Stmt:=stq 66
theorem nF:FnScope ["_law_cell_here","_law_prime","_law_draws_here","_law_many","_law_ways","_law_k","_law_room","_law_other","_law_sign"] ["_law_cell_here","_law_prime"] (aC iF):=⟨rfl,rfl,rfl,by decide +kernel,rfl,by decide +kernel,by decide +kernel⟩
theorem yk{P:Program}{w:World}{K:PySem.W.Frag}{mg:Str->Option Value}{base:Heap}(D:Dfn K mg "_law_bare" iF ["_law_cell_here","_law_prime"])(T:Blt mg)(C__law_unlike:Cal P w K mg base "_law_unlike" 1 ["_law_ways"] (kj K))(C__law_draws:Cal P w K mg base "_law_draws" 2 ["_law_cell_here","_law_widths","_law_prime"] (eX K)):Cal P w K mg base "_law_bare" 3 ["_law_cell_here","_law_prime"] (ui K):=by
 have nd:=(nF).nd
 refine D.ok nF (fun vs H Q E h=>?_) (fun X hX H vs Q E h=>?_)
 ·obtain⟨c,p,rfl,_⟩:=h;rfl
 ·obtain⟨f,cdv,A,outer,s,H0,E0,rfl,hr⟩:=hX
  obtain⟨c,p,rfl,hp,q⟩:=h
  refine⟨_,(@ah _ _ _ _ _ (@az _ _ 2 _ _ _ _ nd rfl (Or.inl rfl) (au C__law_draws hr (@aa _ _ _ _ _ (pv 0) (@aa _ _ _ _ _ (ak g8 (@aR _ _ _ _ (@aa _ _ _ _ _ ae (@aa _ _ _ _ _ ae ab rfl) rfl)) (ak j4 (@aR _ _ _ _ (@aa _ _ _ _ _ ae (@aa _ _ _ _ _ ae (@aa _ _ _ _ _ ae ab rfl) rfl) rfl)) ae)) (@aa _ _ _ _ _ (pv 1) ab rfl) rfl) rfl)) rfl (Or.inl rfl))
    (@ah _ _ _ _ _ (@az _ _ 3 _ _ _ _ nd rfl (Or.inl rfl) (ak aN ae (@ai _ _ _ _ _ _ _ (aJ K) (pv 2) ae (fun _ _=>rfl))) rfl (Or.inl rfl))
    (@ah _ _ _ _ _ (@az _ _ 4 _ _ _ _ nd rfl (Or.inl rfl) (@aR _ _ _ _ ab) rfl (Or.inl rfl))
    (@ah _ _ _ _ _ (bC PassesOwn.never rfl (cW rfl T.range_ (@aa _ _ _ _ _ (@ai _ _ _ _ _ _ _ (aJ K) (pv 2) ae (fun _ _=>rfl)) ab rfl)) (aB (i:=5) nd rfl (Or.inl rfl)) (@ah _ _ _ _ _ (@ju _ _ _ _ _ _ (fM (fE K) (pv 2) (dF (ak aN ae (ak bU ae (pv 5)))) (dF (ak aN ae (ak bU ae (pv 5))))) (sD (n:=3) K rfl (bo (aB (i:=6) nd rfl (Or.inl rfl)) (bo (aB (i:=7) nd rfl (Or.inl rfl)) (bo (aB (i:=8) nd rfl (Or.inl rfl)) dw)))) rfl rfl rfl)
    (@aj _ _ _ (aV (bx K PySem.F.plainAttrs_list PySem.F.slot_list_append PySem.F.type_list_append bI (pv 4) (@aa _ _ _ _ _ (@aQ _ _ _ _ _ (@aa _ _ _ _ _ (ak bQ (pv 6) (pv 3)) (@aa _ _ _ _ _ aH (@aa _ _ _ _ _ (ak bQ (pv 7) (pv 3)) (@aa _ _ _ _ _ (@ai _ _ _ _ _ _ _ mn aH (pv 8) (fun _ _=>rfl)) ab rfl) rfl) rfl) rfl)) ab rfl))))))
    (@aj _ _ _ (@aA _ _ _ _ (@aQ _ _ _ _ _ (@aa _ _ _ _ _ (pv 3) (@aa _ _ _ _ _ (au C__law_unlike hr (@aa _ _ _ _ _ (pv 4) ab rfl)) ab rfl) rfl)))))))),?_⟩
  walk_at "rd"
  refine⟨av (by simp),ao fun w0 G1 f1 hw0 _=>?_⟩
  walk_at "rd"
  refine⟨av (by simp),ao fun w1 G2 f2 hw1 _=>?_⟩
  walk_at "rd"
  refine iO hw1 (by omega) (av (by decide)) (ao fun w2 G3 f3 hw2 _=>?_)
  walk_at "rd"
  refine iy (f3 _ _ (f2 _ _ hw0)) hw2 (av (by decide)) (ao fun w3 G4 f4 hw3 _=>?_)
  walk_at "rd"
  refine fq fR hw3 (by decide +kernel) (by decide +kernel) (hp) fun dq ds H1 e1 hd hdn hl hb=>?_
  have eH:Ext H H1:=f1.trans (f2.trans (f3.trans (f4.trans e1)))
  have hl':ds.length=32:=hl
  obtain⟨d0,g0,b00,b01⟩:=b6 hl hb 0 rfl
  obtain⟨d1,g1,b10,b11⟩:=b6 hl hb 1 rfl
  walk_at "rd"
  refine aK (af.of hd) g0 ?_
  walk_at "rd"
  obtain⟨m,hm,m1,m2⟩:∃m,1+d0=m/\1<=m/\m<=12:=⟨_,rfl,by omega,by omega⟩
  rw[hm]
  refine⟨av (by simp),ao fun f H3 e3 hf hfn=>?_⟩
  walk_at "rd"
  refine aK (af.of (e3 _ _ hd)) g1 ?_
  walk_at "rd"
  refine cV (by omega) ?_
  refine forR (fun i σ H4=>Ext H1 H4/\∃(k1 k2 k3 k4:Option V) (cs:List Addr) (us:List Way),σ=[some (.int c),some (.int p),some (.ref dq),some (.int m),some (.ref f),k1,k2,k3,k4]/\H4 f=some (.lst (cs.map V.ref))/\aE H4 cs us/\(∀u∈us,u.Ok3 m/\u.deed = "stay")/\us.length=i)
   ⟨e3,none,none,none,none,[],[],rfl,hf,aE.nil _,fun u hu=>by simp at hu,rfl⟩ ?_ ?_
  ·rintro i σ H4 hi ⟨e4,k1,k2,k3,k4,cs,us,rfl,hf4,al,ok,len⟩
   have hi30:i<10:=by omega
   obtain⟨a,b,c',hcut,ga,gb,gc⟩:=Bw (ds:=ds) (i:=2+3*i) (by omega)
   obtain⟨y0,y1,y2⟩:=AN hi30
   have bc:=hb _ _ _ gc y2
   have hd4:=e4 _ _ hd
   walk_at "rd"
   refine fQ (af.of hd4) (ao fun t H5 e5 ht htn=>?_)
   rw[show (2:Int)+3*(0+(i:Int))=((2+3*i:Nat):Int) by omega,show (5:Int)+3*(0+(i:Int))=((2+3*i+3:Nat):Int) by omega,hcut]at ht
   walk_at "rd"
   refine qL (af.of ht) rfl ?_
   walk_at "rd"
   have hf6:=e5 _ _ hf4
   refine⟨cy (af.of hf6),?_⟩
   walk_at "rd"
   try refine rd_I (show(0:Int)<m by omega) ?_
   walk_at "rd"
   try refine rd_I (show(0:Int)<m by omega) ?_
   walk_at "rd"
   obtain⟨s,hs,s1,s2⟩:=sX bc.1 bc.2
   refine⟨_,_,s,rfl,rfl,bG (by decide +kernel),hs,?_⟩
   walk_at "rd"
   refine⟨av (by simp),ao fun v H7 e7 hv _=>?_⟩
   have hf7:=e7 _ _ hf6
   walk_at "rd"
   refine bH hf7 (by rw[List.length_map,al.1,len];exact Nat.lt_of_le_of_lt (show i<=1000 by omega) (by decide)) ?_
   walk_at "rd"
   have al7:aE H7 cs us:=(al.ext e5).ext e7
   have hv7:H7 v=some (.tup (Way.vs ⟨a % m,"stay",b % m,⟨#[s]⟩⟩)):=hv
   refine⟨bJ (e4.trans (e5.trans e7)) hfn,_,_,_,_,cs++[v],us++[⟨a % m,"stay",b % m,⟨#[s]⟩⟩],rfl,by rw[aI,List.map_append];rfl,(al7.put hf7).snoc ?_,?_,by simp[len]⟩
   ·rw[aG (cg hv7 hf7 (by intro z;cases z))]
    exact hv7
   ·intro u hu
    rcases List.mem_append.mp hu with hu | hu
    ·exact ok u hu
    ·rw[List.mem_singleton.mp hu]
     exact⟨⟨Int.emod_nonneg _ (by omega),Int.emod_lt_of_pos _ (by omega),Int.emod_nonneg _ (by omega),Int.emod_lt_of_pos _ (by omega),ft,s,s1,s2,rfl⟩,rfl⟩
  ·rintro σ H4 ⟨e4,k1,k2,k3,k4,cs,us,rfl,hf4,al,ok,len⟩
   walk_at "rd"
   refine⟨f,cs,us,rfl,hf4,al,fun u hu=>(ok u hu).1.lay,by omega,fun r H5 ws e5 hws nd sub ln=>?_⟩
   walk_at "rd"
   refine⟨av (by simp),ao fun t H6 e6 ht _=>?_⟩
   exact q _ m ws H6 (eH.trans (e4.trans (e5.trans e6))) (aM.mk ht (hws.ext e6)) ⟨m1,m2,by omega,fun u hu=>(ok u (sub u hu)).1,nd⟩ (fun u hu=>(ok u (sub u hu)).2)
theorem aE.app{H:Hp}{bs cs:List Addr}{ws us:List Way}(h:aE H bs ws)(g:aE H cs us):aE H (bs++cs) (ws++us):=by
 refine⟨by rw[List.length_append,List.length_append,h.1,g.1],fun j b w e1 e2=>?_⟩
 rcases Nat.lt_or_ge j bs.length with z | z
 ·rw[List.getElem?_append_left z]at e1
  rw[List.getElem?_append_left (by rw[←h.1];exact z)]at e2
  exact h.2 j b w e1 e2
 ·rw[List.getElem?_append_right z]at e1
  rw[List.getElem?_append_right (by rw[←h.1];exact z),←h.1]at e2
  exact g.2 _ b w e1 e2
def dI(n:Int)(w o:Way):Way:=⟨w.room*n+o.room,w.deed,w.other*n+o.other,w.sign⟩
def fi(w:Way)(o:Way):Bool:=decide (o.sign=w.sign)
def eO(n:Int)(us:List Way)(w:Way):List Way:=(us.filter (fi w)).map (dI n w)
def bZ(n:Int)(us ws:List Way):List Way:=ws.flatMap (eO n us)
theorem j1{n:Int}{us ws:List Way}{x:Way}:x∈bZ n us ws↔∃w∈ws,∃o∈us,o.sign=w.sign/\x=dI n w o:=by
 unfold bZ eO
 rw[List.mem_flatMap]
 constructor
 ·rintro⟨w,hw,h⟩
  obtain⟨o,ho,rfl⟩:=List.mem_map.mp h
  obtain⟨ho,hs⟩:=List.mem_filter.mp ho
  exact⟨w,hw,o,ho,of_decide_eq_true hs,rfl⟩
 ·rintro⟨w,hw,o,ho,hs,rfl⟩
  exact⟨w,hw,List.mem_map.mpr ⟨o,List.mem_filter.mpr ⟨ho,decide_eq_true hs⟩,rfl⟩⟩
theorem p6(n:Int)(us:List Way)(w:Way):(eO n us w).length<=us.length:=by
 unfold eO
 rw[List.length_map]
 exact List.length_filter_le _ _
theorem jd(n:Int)(us:List Way):∀ws:List Way,(bZ n us ws).length<=ws.length*us.length
 | []=>Nat.zero_le _
 | w::ws=>by
  have e:bZ n us (w::ws)=eO n us w++bZ n us ws:=by
   unfold bZ
   rw[List.flatMap_cons]
  rw[e,List.length_append,List.length_cons,Nat.add_mul,Nat.one_mul]
  have h1:=p6 n us w
  have h2:=jd n us ws
  omega
theorem zY{n:Int}{us ws:List Way}{i:Nat}{w:Way}(h:ws[i]?=some w):bZ n us (ws.take (i+1))=bZ n us (ws.take i)++eO n us w:=by
 unfold bZ
 rw[List.take_succ,h,List.flatMap_append]
 simp
theorem me{P:Way->Bool}{L:List Way}{i:Nat}{w:Way}(h:L[i]?=some w):(L.take (i+1)).filter P=(L.take i).filter P++(if P w=true then[w]else[]):=by
 rw[List.take_succ,h,List.filter_append]
 congr 1
 by_cases e:P w=true
 ·rw[if_pos e];simp[e]
 ·rw[if_neg e];simp[e]
def sY(K:PySem.W.Frag):Sp:=fun vs H Q _=>∃v m ws,vs=[v]/\aM H v m ws/\HOuse m ws/\(∀w∈ws,w.deed = "stay")/\∀H',Ext H H'->Q (.bl true) H'
abbrev ja:Stmt:=stq 28
theorem pY:FnScope ["house"] ["house"] (aC ja):=⟨rfl,rfl,rfl,by decide +kernel,rfl,by decide +kernel,by decide +kernel⟩
theorem AR{P:Program}{w:World}{K:PySem.W.Frag}{mg:Str->Option Value}{base:Heap}(D:Dfn K mg "is_bare" ja ["house"])(T:Blt mg)(C_refuse_no_house:Cal P w K mg base "refuse_no_house" 6 ["thing"] (gm K)):Cal P w K mg base "is_bare" 7 ["house"] (sY K):=by
 have nd:=(pY).nd
 refine D.ok pY (fun vs H Q E h=>?_) (fun X hX H vs Q E h=>?_)
 ·obtain⟨v,m,ws,rfl,_⟩:=h;rfl
 ·obtain⟨f,cdv,A,outer,s,H0,E0,rfl,hr⟩:=hX
  obtain⟨v,m,ws,rfl,hv,ok,hst,q⟩:=h
  have hfew:=ok.few
  refine⟨_,(ah (aV (au C_refuse_no_house hr (aa (pv 0) ab)))
    (aj (aA (aU (uU K rfl) rfl T.all_ PyProof.Rows.boot_all (aa (cE ["way"] [] (dY K (ai (ax K) (pv 0) ae (fun _ _=>rfl))) (fun _=>(aB (i:=0) (show(["way"]:List Str).Nodup from by decide +kernel) rfl (Or.inl rfl) (Or.inr rfl))) (fun _=>cN) (fun _=>(fb bE (ai (ax K) (pv 0) ae (fun _ _=>rfl)) aH (aF _)))) ab))))),?_⟩
  walk_at "rd"
  refine⟨v,m,ws,rfl,hv,ok,fun H1 e1=>?_⟩
  obtain⟨p,r,rfl,g1,g2⟩:=hv.ext e1
  obtain⟨bs,g3,al⟩:=bB.al g2
  walk_at "rd"
  refine aw (ag.of g1) (v:=.ref r) rfl ?_
  refine dQ (ag.of g3) ?_
  refine eS (xs:=bs.map V.ref) (fun i ys H'=>H'=H1/\ys=(List.replicate i true).map V.bl) (bG (by rw[List.length_map,al.1];omega)) ⟨rfl,rfl⟩ (fun i ys H' hi h=>⟨by rw[h.1];exact ag.of g3,by rw[h.2];simp⟩) ?_ ?_
  ·rintro i x ys H' hx ⟨rfl,rfl⟩
   rw[List.getElem?_map]at hx
   obtain⟨b,hb,rfl⟩:=Option.map_eq_some_iff.mp hx
   have hi:i<ws.length:=by
    rw[←al.1]
    exact(List.getElem?_eq_some_iff.mp hb).1
   have hwi:ws[i]?=some ws[i]:=List.getElem?_eq_getElem hi
   have hw:=al.2 i b _ hb hwi
   walk_at "rd"
   refine aD ?_
   walk_at "rd"
   refine aw (ag.of hw) (v:=.str ws[i].deed) rfl ?_
   walk_at "rd"
   refine bz ?_
   rw[decide_eq_true (hst _ (List.getElem_mem hi))]
   refine⟨rfl,?_⟩
   rw[List.replicate_succ',List.map_append]
   rfl
  ·rintro ys H' l ⟨rfl,rfl⟩ hl
   walk_at "rd"
   refine⟨l,List.replicate (bs.map V.ref).length true,rfl,af.of aI,?_⟩
   rw[show (List.replicate (bs.map V.ref).length true).all id=true by simp]
   exact q _ (e1.trans (aX hl))
def oy(K:PySem.W.Frag):Sp:=fun vs H Q _=>∃b w v n us,vs=[.ref b,v]/\H b=some (.tup (Way.vs w))/\w.Ok 12/\aM H v n us/\HOuse n us/\∀l H' ds,Ext H H'->H' l=some (.lst (List.map V.ref ds))->aE H' ds (eO n us w)->Q (.ref l) H'
abbrev iJ:Stmt:=stq 29
theorem uF:FnScope ["way","bare","many","beside"] ["way","bare"] (aC iJ):=⟨rfl,rfl,rfl,by decide +kernel,rfl,by decide +kernel,by decide +kernel⟩
theorem zb{P:Program}{w:World}{K:PySem.W.Frag}{mg:Str->Option Value}{base:Heap}(D:Dfn K mg "beside_way" iJ ["way","bare"])(T:Blt mg):Cal P w K mg base "beside_way" 1 ["way","bare"] (oy K):=by
 have nd:=(uF).nd
 refine D.ok uF (fun vs H Q E h=>?_) (fun X hX H vs Q E h=>?_)
 ·obtain⟨b,w,v,n,us,rfl,_⟩:=h;rfl
 ·obtain⟨f,cdv,A,outer,s,H0,E0,rfl,hr⟩:=hX
  obtain⟨b,wy,v,n,us,rfl,hb,okw,⟨p,r,rfl,g1,g2⟩,ok,q⟩:=h
  obtain⟨bs,g3,al⟩:=bB.al g2
  have hfew:=ok.few
  have n1:=ok.m1
  have n2:=ok.m12
  have r0:=okw.r0
  have r1:=okw.r1
  have o0:=okw.o0
  have o1:=okw.o1
  refine⟨_,(ah (az (i:=2) nd rfl (Or.inr rfl) (ai (ax K) (pv 1) ae (fun _ _=>rfl)))
    (ah (lU (i:=3) ["other"] [0] nd rfl (Or.inl rfl) (dY K (ai (ax K) (pv 1) ae (fun _ _=>rfl))) (fun _=>(aB (i:=0) (show(["other","way"]:List Str).Nodup from by decide +kernel) rfl (Or.inl rfl) (Or.inr rfl))) (fun _=>(jB (aL bE (ai (ax K) (pv 0) ae (fun _ _=>rfl)) (ai (ax K) (pv 1) ae (fun _ _=>rfl)) (aF _)))) (fun _=>(pv 0)))
    (aj (aA (cE ["other"] [0,2] (cx K (pv 3)) (fun _=>(aB (i:=0) (show(["other","way","many"]:List Str).Nodup from by decide +kernel) rfl (Or.inl rfl) (Or.inr rfl))) (fun _=>cN) (fun _=>(aQ (aa (ak aN (ak bU (ai (ax K) (pv 1) ae (fun _ _=>rfl)) (pv 2)) (ai (ax K) (pv 0) ae (fun _ _=>rfl))) (aa (ai (ax K) (pv 1) ae (fun _ _=>rfl)) (aa (ak aN (ak bU (ai (ax K) (pv 1) ae (fun _ _=>rfl)) (pv 2)) (ai (ax K) (pv 0) ae (fun _ _=>rfl))) (aa (ai (ax K) (pv 1) ae (fun _ _=>rfl)) ab))))))))))),?_⟩
  walk_at "rd"
  refine aw (ag.of g1) (v:=.int n) rfl ?_
  walk_at "rd"
  refine aw (ag.of g1) (v:=.ref r) rfl ?_
  refine dQ (ag.of g3) ?_
  refine eS (xs:=bs.map V.ref) (fun i ys H'=>H'=H/\∃cs,ys=cs.map V.ref/\aE H cs ((us.take i).filter (fi wy))) (bG (by rw[List.length_map,al.1];omega)) ⟨rfl,[],rfl,aE.nil _⟩ (fun i ys H' hi h=>⟨by rw[h.1];exact ag.of g3,?_⟩) ?_ ?_
  ·obtain⟨_,cs,rfl,hc,_⟩:=h
   rw[List.length_map,hc]
   refine Nat.le_trans (List.length_filter_le _ _) ?_
   rw[List.length_take]
   exact Nat.min_le_left _ _
  ·rintro i x ys H' hx ⟨rfl,cs,rfl,al2⟩
   rw[List.getElem?_map]at hx
   obtain⟨bb,hbb,rfl⟩:=Option.map_eq_some_iff.mp hx
   have hi:i<us.length:=by
    rw[←al.1]
    exact(List.getElem?_eq_some_iff.mp hbb).1
   have hwi:us[i]?=some us[i]:=List.getElem?_eq_getElem hi
   have hw:=al.2 i bb _ hbb hwi
   rw[me hwi]
   walk_at "rd"
   refine aw (ag.of hw) (v:=.str us[i].sign) rfl ?_
   walk_at "rd"
   refine aw (ag.of hb) (v:=.str wy.sign) rfl ?_
   walk_at "rd"
   refine bz ?_
   refine rd_exb ?_
   by_cases hs:us[i].sign=wy.sign
   ·rw[if_pos (show fi wy us[i]=true from decide_eq_true hs),decide_eq_true hs]
    refine aD ?_
    walk_at "rd"
    exact⟨rfl,cs++[bb],by rw[List.map_append];rfl,al2.snoc hw⟩
   ·rw[if_neg (show ¬fi wy us[i]=true from fun z=>hs (of_decide_eq_true z)),decide_eq_false hs,List.append_nil]
    refine ay ?_
    exact⟨rfl,cs,rfl,al2⟩
  ·rintro ys H' lb ⟨rfl,cs,rfl,al2⟩ hlb
   rw[List.length_map,al.1,List.take_length]at al2
   have e1:Ext H' (upd H' lb (.lst (cs.map V.ref))):=aX hlb
   have hl1:upd H' lb (.lst (cs.map V.ref)) lb=some (.lst (cs.map V.ref)):=aI
   have al3:=al2.ext e1
   have hb1:=e1 _ _ hb
   have hfl:(us.filter (fi wy)).length<=us.length:=List.length_filter_le _ _
   have hok:∀o∈us.filter (fi wy),o.Ok n:=fun o ho=>ok.ok o (List.mem_filter.mp ho).1
   have hbes:eO n us wy=(us.filter (fi wy)).map (dI n wy):=rfl
   rw[hbes]at q
   generalize upd H' lb (.lst (cs.map V.ref))=H1 at e1 hl1 al3 hb1 ⊢
   generalize us.filter (fi wy)=F at al3 hfl hok q
   clear al2 hbes
   walk_at "rd"
   refine cC (af.of hl1) ?_
   refine gj (xs:=cs.map V.ref) (fun i ys H'=>Ext H1 H'/\∃ds,ys=ds.map V.ref/\aE H' ds ((F.take i).map (dI n wy))) (bG (by rw[List.length_map,al3.1];omega)) ⟨Ext.rfl' _,[],rfl,aE.nil _⟩ (fun i ys H' hi h=>⟨af.of (h.1 _ _ hl1),?_⟩) ?_ ?_
   ·obtain⟨_,ds,rfl,hc,_⟩:=h
    rw[List.length_map,hc,List.length_map,List.length_take]
    exact Nat.min_le_left _ _
   ·rintro i x ys H2 hx ⟨e2,ds,rfl,al4⟩
    rw[List.getElem?_map]at hx
    obtain⟨bb,hbb,rfl⟩:=Option.map_eq_some_iff.mp hx
    have hi:i<F.length:=by
     rw[←al3.1]
     exact(List.getElem?_eq_some_iff.mp hbb).1
    have hwi:F[i]?=some F[i]:=List.getElem?_eq_getElem hi
    have hw:=e2 _ _ (al3.2 i bb _ hbb hwi)
    have hb2:=e2 _ _ hb1
    walk_at "rd"
    refine aD ?_
    walk_at "rd"
    refine aw (ag.of hb2) (v:=.int wy.room) rfl ?_
    walk_at "rd"
    try refine rd_I (.inl ⟨by omega,by omega⟩) ?_
    walk_at "rd"
    refine aw (ag.of hw) (v:=.int F[i].room) rfl ?_
    walk_at "rd"
    refine aw (ag.of hb2) (v:=.str wy.deed) rfl ?_
    walk_at "rd"
    refine aw (ag.of hb2) (v:=.int wy.other) rfl ?_
    walk_at "rd"
    try refine rd_I (.inl ⟨by omega,by omega⟩) ?_
    walk_at "rd"
    refine aw (ag.of hw) (v:=.int F[i].other) rfl ?_
    walk_at "rd"
    refine aw (ag.of hb2) (v:=.str wy.sign) rfl ?_
    walk_at "rd"
    refine⟨av (by simp),ao fun v H3 e3 hv _=>?_⟩
    refine⟨e2.trans e3,ds++[v],by rw[List.map_append];rfl,?_⟩
    rw[List.take_add_one,hwi,List.map_append]
    exact(al4.ext e3).snoc hv
   ·rintro ys H2 l ⟨e2,ds,rfl,al4⟩ hl
    rw[List.length_map,al3.1,List.take_length]at al4
    exact q l _ ds (e1.trans (e2.trans (aX hl))) aI (al4.ext (aX hl))
def uh(K:PySem.W.Frag):Sp:=fun vs H Q _=>∃v m ws v' n us,vs=[v,v']/\aM H v m ws/\HOuse m ws/\aM H v' n us/\HOuse n us/\(∀w∈us,w.deed = "stay")/\m*n<=12/\ws.length*us.length<=100/\∀u H',Ext H H'->aM H' u (m*n) (bZ n us ws)->Q u H'
abbrev jP:Stmt:=stq 30
theorem rl:FnScope ["house","bare","ways","way"] ["house","bare"] (aC jP):=⟨rfl,rfl,rfl,by decide +kernel,rfl,by decide +kernel,by decide +kernel⟩
theorem Bf{P:Program}{w:World}{K:PySem.W.Frag}{mg:Str->Option Value}{base:Heap}(D:Dfn K mg "side_by_side" jP ["house","bare"])(T:Blt mg)(g_GREATEST_WAYS:∃t,mg "GREATEST_WAYS" = some (.int 100 t))(g_GREATEST_MANY:∃t,mg "GREATEST_MANY" = some (.int 12 t))(C_beside_way:Cal P w K mg base "beside_way" 1 ["way","bare"] (oy K))(C_is_bare:Cal P w K mg base "is_bare" 7 ["house"] (sY K))(C_refuse_no_house:Cal P w K mg base "refuse_no_house" 6 ["thing"] (gm K)):Cal P w K mg base "side_by_side" 8 ["house","bare"] (uh K):=by
 have nd:=(rl).nd
 refine D.ok rl (fun vs H Q E h=>?_) (fun X hX H vs Q E h=>?_)
 ·obtain⟨v,m,ws,v',n,us,rfl,_⟩:=h;rfl
 ·obtain⟨f,cdv,A,outer,s,H0,E0,rfl,hr⟩:=hX
  obtain⟨t_GREATEST_WAYS,c_GREATEST_WAYS⟩:=g_GREATEST_WAYS
  obtain⟨t_GREATEST_MANY,c_GREATEST_MANY⟩:=g_GREATEST_MANY
  obtain⟨v,m,ws,v',n,us,rfl,hv,ok,hv',ok',hst,hmn,hlen,q⟩:=h
  have hfew:=ok.few
  have m1:=ok.m1
  have m2:=ok.m12
  have n1:=ok'.m1
  have n2:=ok'.m12
  refine⟨_,(ah (aV (au C_refuse_no_house hr (aa (pv 0) ab)))
    (ah (bt (dv (cH (au C_is_bare hr (aa (pv 1) ab)))) (aj fh) aO)
    (ah (az (i:=2) nd rfl (Or.inl rfl) (aR ab))
    (ah (bC PassesOwn.never rfl (dY K (ai (ax K) (pv 0) ae (fun _ _=>rfl))) (aB (i:=3) nd rfl (Or.inl rfl)) (aj (aV (bx K PySem.F.plainAttrs_list PySem.F.slot_list_extend PySem.F.type_list_extend oP (pv 2) (aa (au C_beside_way hr (aa (pv 3) (aa (pv 1) ab))) ab)))))
    (ah (bt (PW.pt (df (aL eB (ak bU (ai (ax K) (pv 0) ae (fun _ _=>rfl)) (ai (ax K) (pv 1) ae (fun _ _=>rfl))) (fx (v:=.int 12) rfl c_GREATEST_MANY ⟨_,rfl⟩) (aF _)) (eA (aL eB (aU (cB K) rfl T.len_ PySem.boot_len (aa (pv 2) ab)) (fx (v:=.int 100) rfl c_GREATEST_WAYS ⟨_,rfl⟩) (aF _))))) (aj fh) aO)
    (aj (aA (aQ (aa (ak bU (ai (ax K) (pv 0) ae (fun _ _=>rfl)) (ai (ax K) (pv 1) ae (fun _ _=>rfl))) (aa (dN (fF K) rfl T.tuple_ PyProof.Rows.boot_tuple (aa (pv 2) ab)) ab)))))))))),?_⟩
  walk_at "rd"
  refine⟨v,m,ws,rfl,hv,ok,fun H1 e1=>?_⟩
  walk_at "rd"
  refine⟨v',n,us,rfl,hv'.ext e1,ok',hst,fun H2 e2=>?_⟩
  refine rd_exb (ay ?_)
  have e02:=e1.trans e2
  obtain⟨p,r,rfl,g1,g2⟩:=hv.ext e02
  obtain⟨p',r',rfl,g1',g2'⟩:=id (hv'.ext e02)
  obtain⟨bs,g3,al⟩:=bB.al g2
  walk_at "rd"
  refine⟨av (by simp),ao fun lf H3 e3 hlf hlfn=>?_⟩
  walk_at "rd"
  refine aw (ag.of (e3 _ _ g1)) (v:=.ref r) rfl ?_
  refine dQ (ag.of (e3 _ _ g3)) ?_
  refine rV (xs:=bs.map V.ref) (fun i σ H'=>∃k cs,σ=[some (.ref p),some (.ref p'),some (.ref lf),k]/\Ext H2 H'/\H' lf=some (.lst (List.map V.ref cs))/\aE H' cs (bZ n us (ws.take i))) ⟨none,[],rfl,e3,hlf,aE.nil _⟩ (fun i σ H' _ h=>by obtain⟨_,_,_,e,_⟩:=h;exact ag.of (e _ _ g3)) ?_ ?_
  ·rintro i x σ H4 hx ⟨k,cs,rfl,e4,hlf4,al4⟩
   rw[List.getElem?_map]at hx
   obtain⟨b,hb,rfl⟩:=Option.map_eq_some_iff.mp hx
   have hi:i<ws.length:=by
    rw[←al.1]
    exact(List.getElem?_eq_some_iff.mp hb).1
   have hwi:ws[i]?=some ws[i]:=List.getElem?_eq_getElem hi
   have hw:=e4 _ _ (al.2 i b _ hb hwi)
   have okw:=ok.ok _ (List.getElem_mem hi)
   have hp1:=jd n us (ws.take i)
   have hp2:=p6 n us ws[i]
   have hp3:(ws.take i).length*us.length<=ws.length*us.length:=Nat.mul_le_mul (by rw[List.length_take];omega) (Nat.le_refl _)
   have hu:=ok'.few
   walk_at "rd"
   refine⟨cy (af.of hlf4),?_⟩
   walk_at "rd"
   refine⟨b,ws[i],_,n,us,rfl,hw,⟨okw.r0,by have:=okw.r1;omega,okw.o0,by have:=okw.o1;omega,okw.dd,okw.sg⟩,(hv'.ext e02).ext e4,ok',fun l5 H5 ds e5 hl5 al5=>?_⟩
   have hlf5:=e5 _ _ hlf4
   walk_at "rd"
   refine⟨lf,l5,_,_,rfl,rfl,hlf5,hl5,Nat.le_trans (show _<=20000 by rw[List.length_map,List.length_map,al4.1,al5.1];omega) (by decide),?_⟩
   walk_at "rd"
   refine⟨_,cs++ds,rfl,bJ (e4.trans e5) hlfn,by rw[aI,List.map_append],?_⟩
   rw[zY hwi]
   exact((al4.ext e5).put hlf5).app (al5.put hlf5)
  ·rintro σ H4 ⟨k,cs,rfl,e4,hlf4,al4⟩
   rw[List.length_map,al.1,List.take_length]at al4
   have hp1:=jd n us ws
   walk_at "rd"
   refine aw (ag.of (e4 _ _ g1)) (v:=.int m) rfl ?_
   walk_at "rd"
   refine aw (ag.of (e4 _ _ g1')) (v:=.int n) rfl ?_
   walk_at "rd"
   try refine rd_I (.inl ⟨by omega,by omega⟩) ?_
   walk_at "rd"
   rw[decide_eq_false (show ¬(12:Int)<m*n by omega)]
   refine ay ?_
   walk_at "rd"
   refine dg (af.of hlf4) ?_
   walk_at "rd"
   rw[List.length_map,al4.1,decide_eq_false (show ¬(100:Int)<(((bZ n us ws).length:Nat):Int) by omega)]
   refine ay ?_
   walk_at "rd"
   refine aw (ag.of (e4 _ _ g1)) (v:=.int m) rfl ?_
   walk_at "rd"
   refine aw (ag.of (e4 _ _ g1')) (v:=.int n) rfl ?_
   walk_at "rd"
   try refine rd_I (.inl ⟨by omega,by omega⟩) ?_
   walk_at "rd"
   refine fL (af.of hlf4) (ao fun t H5 e5 ht _=>?_)
   walk_at "rd"
   refine⟨av (by simp),ao fun u H6 e6 hu _=>?_⟩
   exact q _ H6 (e02.trans (e4.trans (e5.trans e6))) (aM.mk hu (((al4.ext e5).ways ht).ext e6))
theorem xo{m n:Int}{ws us:List Way}(ok:HOuse m ws)(ok':HOuse n us)(hst:∀w∈us,w.deed = "stay")(hmn:m*n<=12)(hlen:ws.length*us.length<=100):HOuse (m*n) (bZ n us ws) where
 m1:=by
  have:=ok.m1
  have:=ok'.m1
  have:=Int.mul_pos (show 0<m by omega) (show 0<n by omega)
  omega
 m12:=hmn
 few:=Nat.le_trans (jd n us ws) hlen
 ok x hx:=by
  obtain⟨w,hw,o,ho,hs,rfl⟩:=j1.mp hx
  have a:=ok.ok w hw
  have b:=ok'.ok o ho
  have key:∀{r s:Int},0<=r->r<m->0<=s->s<n->0<=r*n+s/\r*n+s<m*n:=fun{r s} r0 r1 s0 s1=>by
   have h1:0<=r*n:=Int.mul_nonneg r0 (by omega)
   have h2:(r+1)*n<=m*n:=Int.mul_le_mul_of_nonneg_right (by omega) (by omega)
   rw[Int.add_mul,Int.one_mul]at h2
   omega
  have k1:=key a.r0 a.r1 b.r0 b.r1
  have k2:=key a.o0 a.o1 b.o0 b.o1
  exact⟨k1.1,k1.2,k2.1,k2.2,a.dd,a.sg⟩
 nd:=by
  have inj:∀w∈ws,∀o∈us,∀w'∈ws,∀o'∈us,o.sign=w.sign->o'.sign=w'.sign->dI n w o=dI n w' o'->w=w'/\o=o':=by
   intro w hw o ho w' hw' o' ho' hs hs' e
   have b:=ok'.ok o ho
   have b':=ok'.ok o' ho'
   have e1:=Bfs.code_inj b.r0 b.r1 b'.r0 b'.r1 (show w.room*n+o.room=w'.room*n+o'.room from congrArg Way.room e)
   have e2:=Bfs.code_inj b.o0 b.o1 b'.o0 b'.o1 (show w.other*n+o.other=w'.other*n+o'.other from congrArg Way.other e)
   have e3:w.deed=w'.deed:=show (dI n w o).deed=(dI n w' o').deed from congrArg Way.deed e
   have e4:w.sign=w'.sign:=show (dI n w o).sign=(dI n w' o').sign from congrArg Way.sign e
   have e5:o.deed=o'.deed:=(hst o ho).trans (hst o' ho').symm
   have e6:o.sign=o'.sign:=hs.trans (e4.trans hs'.symm)
   constructor
   ·cases w;cases w'
    simp only at e1 e2 e3 e4
    rw[e1.1,e2.1,e3,e4]
   ·cases o;cases o'
    simp only at e1 e2 e5 e6
    rw[e1.2,e2.2,e5,e6]
  have nd1:=ok.nd
  have nd2:=ok'.nd
  unfold bZ List.Nodup
  rw[List.pairwise_flatMap]
  constructor
  ·intro w hw
   unfold eO
   rw[List.pairwise_map]
   refine(List.Pairwise.filter _ nd2).imp_of_mem fun{a b} ha hb ne e=>ne ?_
   obtain⟨ha,ha'⟩:=List.mem_filter.mp ha
   obtain⟨hb,hb'⟩:=List.mem_filter.mp hb
   exact(inj w hw a ha w hw b hb (of_decide_eq_true ha') (of_decide_eq_true hb') e).2
  ·refine nd1.imp_of_mem fun{a b} ha hb ne x hx y hy e=>ne ?_
   obtain⟨o,ho,rfl⟩:=List.mem_map.mp hx
   obtain⟨o',ho',rfl⟩:=List.mem_map.mp hy
   obtain⟨ho,hs⟩:=List.mem_filter.mp ho
   obtain⟨ho',hs'⟩:=List.mem_filter.mp ho'
   exact(inj a ha o ho b hb o' ho' (of_decide_eq_true hs) (of_decide_eq_true hs') e).1
theorem nk(ws:List Way)(S:Bfs.Pl->Prop)(c:Nat)(cs:List Nat):Rs ws S (c::cs)=Rs ws (Sg ws c S) cs:=rfl
theorem vg{n:Int}{ws us:List Way}(ok':HOuse n us)(hst:∀w∈us,w.deed = "stay"):∀(cs:List Nat) {S1 S2 SB:Bfs.Pl->Prop},(∀b,S2 b->0<=b.1/\b.1<n/\b.2=0)->(∀y,SB y↔∃a b,S1 a/\S2 b/\y=(a.1*n+b.1,a.2)) →
  (∀b,Rs us S2 cs b->0<=b.1/\b.1<n/\b.2=0)/\∀y,Rs (bZ n us ws) SB cs y↔∃a b,Rs ws S1 cs a/\Rs us S2 cs b/\y=(a.1*n+b.1,a.2)
 | [],S1,S2,SB,h2,hB=>⟨h2,hB⟩
 | c::cs,S1,S2,SB,h2,hB=>by
  rw[nk,nk,nk]
  refine vg ok' hst cs (fun b hb=>?_) fun y=>?_
  ·obtain⟨x,hx,o,ho,_,_,hs,he⟩:=hb
   have:=ok'.ok o ho
   rw[hst o ho,de]at hs
   have hx2:=(h2 x hx).2.2
   have hs:=Option.some.inj hs
   rw[←he]
   exact⟨this.o0,this.o1,by omega⟩
  ·constructor
   ·rintro⟨x,hx,W,hW,hs,hr,hst',ho'⟩
    obtain⟨a,b,ha,hb,rfl⟩:=(hB x).mp hx
    obtain⟨w,hw,o,ho,hso,rfl⟩:=j1.mp hW
    have hbb:=h2 b hb
    have hoo:=ok'.ok o ho
    obtain⟨e1,e2⟩:=Bfs.code_inj hoo.r0 hoo.r1 hbb.1 hbb.2.1 (show w.room*n+o.room=a.1*n+b.1 from hr)
    have hs1:w.sign=⟨#[c]⟩:=hs
    refine⟨(w.other,y.2),(o.other,0),⟨a,ha,w,hw,hs1,e1,hst',rfl⟩,⟨b,hb,o,ho,hso.trans hs1,e2,by rw[hst o ho,de,hbb.2.2],rfl⟩,?_⟩
    exact Prod.ext ho'.symm rfl
   ·rintro⟨a',b',⟨a,ha,w,hw,hs,hr,hst1,ho1⟩,⟨b,hb,o,ho,hs',hr',hst2,ho2⟩,rfl⟩
    refine⟨(a.1*n+b.1,a.2),(hB _).mpr ⟨a,b,ha,hb,rfl⟩,dI n w o,j1.mpr ⟨w,hw,o,ho,hs'.trans hs.symm,rfl⟩,hs,?_,hst1,?_⟩
    ·show w.room*n+o.room=a.1*n+b.1
     rw[hr,hr']
    ·show w.other*n+o.other=a'.1*n+b'.1
     rw[ho1,ho2]
theorem wz{n:Int}{ws us:List Way}(ok':HOuse n us)(hst:∀w∈us,w.deed = "stay"){p q s t:Int}(s0:0<=s)(s1:s<n)(t0:0<=t)(t1:t<n)(cs:List Nat):RP (bZ n us ws) (p*n+s) cs (q*n+t,0)↔RP ws p cs (q,0)/\RP us s cs (t,0):=by
 have h:=vg (ws:=ws) ok' hst cs (S1:=fun x=>x=(p,0)) (S2:=fun x=>x=(s,0)) (SB:=fun x=>x=(p*n+s,0)) (fun b hb=>by rw[hb];exact⟨s0,s1,rfl⟩) (fun y=>⟨fun hy=>⟨(p,0),(s,0),rfl,rfl,hy⟩,fun⟨a,b,ha,hb,hy⟩=>by rw[hy,ha,hb]⟩)
 unfold RP
 rw[h.2]
 constructor
 ·rintro⟨a,b,ha,hb,e⟩
  have hbb:=h.1 b hb
  have e1:q*n+t=a.1*n+b.1:=congrArg Prod.fst e
  have e2:(0:Int)=a.2:=congrArg Prod.snd e
  obtain⟨e3,e4⟩:=Bfs.code_inj t0 t1 hbb.1 hbb.2.1 e1
  rw[show ((q,0):Bfs.Pl)=a from Prod.ext e3 e2,show ((t,0):Bfs.Pl)=b from Prod.ext e4 hbb.2.2.symm]
  exact⟨ha,hb⟩
 ·rintro⟨ha,hb⟩
  exact⟨(q,0),(t,0),ha,hb,rfl⟩
def qr(K:PySem.W.Frag):Sp:=fun vs H Q _=>∃v m ws p q z,vs=[v,.int p,.int q,.str z]/\aM H v m ws/\HOuse m ws/\0<=p/\p<m/\0<=q/\q<m/\z.cps.size<=200/\∀b H',Ext H H'->(b=true↔RP ws p z.cps.toList (q,0))->Q (.bl b) H'
abbrev kF:Stmt:=stq 70
theorem qv:FnScope ["_law_house_here","_law_p","_law_q","_law_word","_law_here","_law_sign","_law_there","_law_place","_law_k","_law_far"] ["_law_house_here","_law_p","_law_q","_law_word"] (aC kF):=⟨rfl,rfl,rfl,by decide +kernel,rfl,by decide +kernel,by decide +kernel⟩
theorem AF{P:Program}{w:World}{K:PySem.W.Frag}{mg:Str->Option Value}{base:Heap}(D:Dfn K mg "_law_reads" kF ["_law_house_here","_law_p","_law_q","_law_word"])(T:Blt mg)(C__law_behind:Cal P w K mg base "_law_behind" 1 ["_law_house_here","_law_place"] (qO K)):Cal P w K mg base "_law_reads" 2 ["_law_house_here","_law_p","_law_q","_law_word"] (qr K):=by
 have nd:=(qv).nd
 refine D.ok qv (fun vs H Q E h=>?_) (fun X hX H vs Q E h=>?_)
 ·obtain⟨v,m,ws,p,q,z,rfl,_⟩:=h;rfl
 ·obtain⟨f,cdv,A,outer,s,H0,E0,rfl,hr⟩:=hX
  obtain⟨v,m,ws,p,q,z,rfl,hv,ok,p0,p1,q0,q1,hz,qq⟩:=h
  have m2:=ok.m12
  have hfew:=ok.few
  obtain⟨hh,t,rfl,g1,g2⟩:=id hv
  obtain⟨ws_,g3,al⟩:=bB.al g2
  refine⟨_,(@ah _ _ _ _ _ (@az _ _ 4 _ _ _ _ nd rfl (Or.inl rfl) (qu (dP hr) (@aQ _ _ _ _ _ (@aa _ _ _ _ _ (pv 1) (@aa _ _ _ _ _ ae ab rfl) rfl)) dC) rfl (Or.inl rfl))
    (@ah _ _ _ _ _ (bC PassesOwn.never rfl (tZ (pv 3)) (aB (i:=5) nd rfl (Or.inl rfl)) (@ah _ _ _ _ _ (@az _ _ 6 _ _ _ _ nd rfl (Or.inl rfl) wU rfl (Or.inl rfl))
    (@ah _ _ _ _ _ (bC PassesOwn.never rfl (cx K (dN (zE hr) rfl T.list_ PyProof.Rows.boot_list (@aa _ _ _ _ _ (pv 4) ab rfl))) (aB (i:=7) nd rfl (Or.inl rfl)) (@aj _ _ _ (bC PassesOwn.never rfl (cx K (au C__law_behind hr (@aa _ _ _ _ _ (pv 0) (@aa _ _ _ _ _ (pv 7) ab rfl) rfl))) (dZ (n:=2) K rfl (bo (aB (i:=8) nd rfl (Or.inl rfl)) (bo (aB (i:=9) nd rfl (Or.inl rfl)) dw))) (@aj _ _ _ (cw (aL bE (@ai _ _ _ _ _ _ _ (ax K) (@ai _ _ _ _ _ _ _ (ax K) (@ai _ _ _ _ _ _ _ (ax K) (pv 0) ae (fun _ _=>rfl)) (pv 8) (fun _ _=>rfl)) ae (fun _ _=>rfl)) (pv 5) (aF _)) (@aj _ _ _ (rP (dP hr) (pv 6) (pv 9) dC rfl)) aO)))))
    (@aj _ _ _ (@az _ _ 4 _ _ _ _ nd rfl (Or.inl rfl) (pv 6) rfl (Or.inl rfl))))))
    (@aj _ _ _ (@aA _ _ _ _ (um (Be (dP hr) (@aQ _ _ _ _ _ (@aa _ _ _ _ _ (pv 2) (@aa _ _ _ _ _ ae ab rfl) rfl)) (pv 4)) (by with_unfolding_all rfl)))))),?_⟩
  walk_at "rd"
  refine fun d hdn=>?_
  walk_at "rd"
  refine⟨av (by simp),ao fun b H1 e1 hb _=>?_⟩
  walk_at "rd"
  have hd1:=e1 _ _ (aI (H:=H) (a:=d) (o:=.dT []))
  refine⟨b,aS (p,0),rfl,hb,hd1,?_⟩
  have eH1:Ext H H1:=fun a o ha=>e1 _ _ ((aX hdn) _ _ ha)
  have eH2:Ext H (upd H1 d (.dT [(aS (p,0),.bl true)])):=bJ eH1 hdn
  have hd2:upd H1 d (.dT [(aS (p,0),.bl true)]) d=some (.dT (List.map tk [((p,0):Bfs.Pl)])):=aI
  generalize upd H1 d (.dT [(aS (p,0),.bl true)])=H2 at eH2 hd2 ⊢
  walk_at "rd"
  refine⟨z,rfl,?_⟩
  refine p7 (fun i σ H'=>∃k1 k2 k3 k4 k5 d xs,σ=[some (.ref hh),some (.int p),some (.int q),some (.str z),some (.ref d),k1,k2,k3,k4,k5]/\Ext H H'/\H d=none/\H' d=some (.dT (List.map tk xs))/\(∀x∈xs,dA m i x)/\∀y,y∈xs↔Rs ws (fun x=>x=(p,0)) (z.cps.toList.take i) y) ⟨none,none,none,none,none,d,_,rfl,eH2,hdn,hd2,?_,?_⟩ ?_ ?_
  ·intro x hx
   rw[List.mem_singleton]at hx
   subst hx
   exact⟨p0,p1,Int.le_refl 0,Int.le_refl 0⟩
  ·intro y
   rw[List.mem_singleton]
   exact Iff.rfl
  ·clear hd2 eH2 eH1 hd1 hb e1 hdn
   rintro ii c σ H3 hc ⟨k1,k2,k3,k4,k5,d,xs,rfl,e3,hdn,hd3,hin,hxs⟩
   have hi:ii<z.cps.size:=(Array.getElem?_eq_some_iff.mp hc).1
   have hct:z.cps.toList[ii]?=some c:=by rw[Array.getElem?_toList];exact hc
   have htk:z.cps.toList.take (ii+1)=z.cps.toList.take ii++[c]:=by rw[List.take_succ,hct];rfl
   rw[htk,ia]
   generalize Rs ws (fun x=>x=(p,0)) (z.cps.toList.take ii)=S at hxs
   obtain⟨U,hUe⟩:∃U:Int,U=(ii:Int):=⟨_,rfl⟩
   have hU:U<=1000:=by omega
   rw[←hUe]at hin
   walk_at "rd"
   refine fun f hfn=>?_
   have e4:Ext H3 (upd H3 f (.dT [])):=aX hfn
   have hf4:upd H3 f (.dT []) f=some (.dT (List.map tk [])):=aI
   generalize upd H3 f (.dT [])=H4 at e4 hf4 ⊢
   walk_at "rd"
   refine⟨d,_,rfl,e4 _ _ hd3,fun lb bs hlbn hbs=>?_⟩
   have hb5:=sZ hbs
   have e5:Ext H4 (upd H4 lb (.lst (bs.map V.ref))):=aX hlbn
   have hlb5:upd H4 lb (.lst (bs.map V.ref)) lb=some (.lst (bs.map V.ref)):=aI
   have hb5:Paired (aY (upd H4 lb (.lst (bs.map V.ref)))) bs xs:=Paired.mapP hb5 fun a y h=>e5 _ _ h
   have hf5:=e5 _ _ hf4
   generalize upd H4 lb (.lst (bs.map V.ref))=H5 at e5 hlb5 hb5 hf5 ⊢
   have hbl:=Paired.length hb5
   have e05:=e3.trans (e4.trans e5)
   have hdf:d≠f:=cj hd3 hfn
   have hlbf:lb≠f:=fun y=>by rw[y,hf4]at hlbn;cases hlbn
   have eG:Ext (hide H5 f) H5:=jm _ _
   have hGf:=ml H5 f
   have hlbG:hide H5 f lb=some (.lst (bs.map V.ref)):=eF hlbf hlb5
   have hbG:Paired (aY (hide H5 f)) bs xs:=Paired.mapP hb5 fun a y h=>eF (cg h hf5 (by intro z;cases z)) h
   have hHG:Ext H (hide H5 f):=fun a o ha=>eF (cj ha (e3.none hfn)) (e05 _ _ ha)
   generalize hide H5 f=G at eG hGf hlbG hbG hHG
   have hG1:=hHG _ _ g1
   have hG3:=hHG _ _ g3
   have hGw:aE G ws_ ws:=al.ext hHG
   clear hb5 hlb5 hlbn hbs e5 e4 hf4
   walk_at "rd"
   refine cC (af.of (eG _ _ hlbG)) ?_
   refine forL (xs:=bs.map V.ref) (fun i σ H'=>∃k1 k2 k3 ys,σ=[some (.ref hh),some (.int p),some (.int q),some (.str z),some (.ref d),some (.str ⟨#[c]⟩),some (.ref f),k1,k2,k3]/\Ext G H'/\H' f=some (.dT (List.map tk ys))/\ys.Nodup/\∀y,y∈ys↔gW ws c xs i y) ⟨k3,k4,k5,[],rfl,eG,hf5,List.nodup_nil,fun y=>⟨fun h=>(by cases h),fun h=>(by obtain⟨x,hx,_⟩:=h;simp at hx)⟩⟩ (fun i σ H' _ h=>by obtain⟨_,_,_,_,_,e,_⟩:=h;exact af.of (e _ _ hlbG)) ?_ ?_
   ·rintro i u0 σ H3 hu0 ⟨k1,k2,k3,ys,rfl,e3,hf3,hnd,hys⟩
    rw[List.getElem?_map]at hu0
    obtain⟨b,hb,rfl⟩:=Option.map_eq_some_iff.mp hu0
    obtain⟨x,hx,hbx⟩:=fJ hbG hb
    have hxm:=List.mem_of_getElem? hx
    have hix:=hin x hxm
    have hv3:aM H3 (.ref hh) m ws:=aM.mk (e3 _ _ hG1) ((hGw.ext e3).ways (e3 _ _ hG3))
    walk_at "rd"
    refine⟨_,m,ws,b,x.1,x.2,rfl,hv3,ok,e3 _ _ hbx,fun bl H4 cs e4 hbn hbl4 hpd=>?_⟩
    have hcl:=Paired.length hpd
    have hf4:=e4 _ _ hf3
    have blf:bl≠f:=fun z=>by rw[z,hf3]at hbn;cases hbn
    have e34:=e3.trans e4
    have eL:Ext (hide H4 f) H4:=jm _ _
    have hLf:=ml H4 f
    have hblL:hide H4 f bl=some (.lst (List.map V.ref cs)):=eF blf hbl4
    have hpdL:Paired (cq (hide H4 f)) cs (cS ws x.1 x.2 ws.length):=Paired.mapP hpd fun c t h=>by
     obtain⟨d',h1,h2⟩:=h
     exact⟨d',eF (cg h1 hf4 (by intro z;cases z)) h1,eF (cg h2 hf4 (by intro z;cases z)) h2⟩
    generalize hide H4 f=L at eL hLf hblL hpdL
    clear hpd hbl4 hbn blf
    refine cC (af.of (eL _ _ hblL)) ?_
    refine forL (xs:=List.map V.ref cs) (fun j σ H'=>∃k2 k3 ys,σ=[some (.ref hh),some (.int p),some (.int q),some (.str z),some (.ref d),some (.str ⟨#[c]⟩),some (.ref f),some (.ref b),k2,k3]/\Ext G H'/\Ext L H'/\H' f=some (.dT (List.map tk ys))/\ys.Nodup/\∀y,y∈ys↔gU ws c xs i x j y) ⟨_,_,ys,rfl,e34,eL,hf4,hnd,fun y=>?_⟩ (fun j σ H' _ h=>by obtain⟨_,_,_,_,_,e,_⟩:=h;exact af.of (e _ _ hblL)) ?_ ?_
    ·rw[hys y]
     constructor
     ·exact fun h=>.inl h
     ·rintro(h | ⟨t,ht,_⟩)
      ·exact h
      ·simp at ht
    ·clear hys hnd hf4 hf3 e34
     rintro j u σ H5 hu ⟨k2',k3',ys5,rfl,e5,eL5,hf5,hnd5,hys5⟩
     rw[List.getElem?_map]at hu
     obtain⟨cc,hc,rfl⟩:=Option.map_eq_some_iff.mp hu
     obtain⟨tt,ht,hbt⟩:=fJ hpdL hc
     have htm:=List.mem_of_getElem? ht
     obtain⟨dd,hc1,hd1'⟩:=hbt.ext eL5
     have hdp:aY H5 dd (tt.2.1,tt.2.2):=hd1'
     obtain⟨jw,w,hjl,hw,hr,hst,h1,h2⟩:=kL htm
     have hjb:jw<ws_.length:=by rw[al.1];exact hjl
     have hwb:=List.getElem?_eq_getElem hjb
     generalize ws_[jw]=bw at hwb
     have hwt:=(hGw.ext e5).2 jw bw w hwb hw
     have hsg:jK ws c tt↔w.sign=⟨#[c]⟩:=by
      unfold jK
      rw[h1,Int.toNat_natCast,hw]
      constructor
      ·rintro⟨w',hw',hs'⟩
       cases hw'
       exact hs'
      ·exact fun h=>⟨w,rfl,h⟩
     have hlen5:ys5.length<=24012:=dA.few m2 (show U+1<=2000 by omega) hnd5 fun y hy=>by
      rcases(hys5 y).mp hy with⟨x',hx',h'⟩ | ⟨t',ht',hs',rfl⟩
      ·exact nh ok (hin x' (List.mem_of_mem_take hx')) h'
      ·exact nh ok hix (lO.mpr ⟨t',List.mem_of_mem_take ht',hs',rfl⟩)
     have hmore:∀y,gU ws c xs i x (j+1) y↔gU ws c xs i x j y\/(w.sign=⟨#[c]⟩/\y=(tt.2.1,tt.2.2)):=fun y=>by
      unfold gU
      rw[List.take_succ,ht]
      constructor
      ·rintro(h | ⟨t',ht',hs',hy'⟩)
       ·exact .inl (.inl h)
       ·rcases List.mem_append.mp ht' with z | z
        ·exact .inl (.inr ⟨t',z,hs',hy'⟩)
        ·have:t'=tt:=by simpa using z
         subst this
         exact .inr ⟨hsg.mp hs',hy'⟩
      ·rintro((h | ⟨t',ht',hs',hy'⟩) | ⟨hs',hy'⟩)
       ·exact .inl h
       ·exact .inr ⟨t',List.mem_append_left _ ht',hs',hy'⟩
       ·exact .inr ⟨tt,List.mem_append_right _ (by simp),hsg.mpr hs',hy'⟩
     refine dX (ag.of hc1) rfl ?_
     walk_at "rd"
     refine bO ?_
     walk_at "rd"
     refine aw (ag.of (e5 _ _ hG1)) (v:=.ref t) rfl ?_
     walk_at "rd"
     rw[h1]
     refine aw (ag.of (e5 _ _ hG3)) (v:=.ref bw) (dh (by rw[List.getElem?_map,hwb];rfl)) ?_
     walk_at "rd"
     refine aw (ag.of hwt) (v:=.str w.sign) rfl ?_
     walk_at "rd"
     refine bz ?_
     by_cases hs:w.sign=⟨#[c]⟩
     ·rw[decide_eq_true hs]
      refine rd_exb (aD ?_)
      walk_at "rd"
      refine⟨f,_,rfl,fD.t hf5 (k:=aS (tt.2.1,tt.2.2)) hdp (ie (by rw[List.length_map];omega)),?_⟩
      rw[AL]
      walk_at "rd"
      refine⟨_,_,_,rfl,bJ e5 hGf,bJ eL5 hLf,aI,?_,fun y=>?_⟩
      ·split
       ·exact hnd5
       ·rename_i hn
        rw[List.nodup_append]
        refine⟨hnd5,by simp,fun a ha b hb e=>?_⟩
        rw[List.mem_singleton]at hb
        rw[e,hb]at ha
        exact hn ha
      ·rw[hmore y,←hys5 y]
       split
       ·rename_i hn
        constructor
        ·exact fun h=>.inl h
        ·rintro(h | ⟨_,h⟩)
         ·exact h
         ·rw[h];exact hn
       ·rw[List.mem_append,List.mem_singleton]
        constructor
        ·rintro(h | h)
         ·exact .inl h
         ·exact .inr ⟨hs,h⟩
        ·rintro(h | ⟨_,h⟩)
         ·exact .inl h
         ·exact .inr h
     ·rw[decide_eq_false hs]
      refine rd_exb (ay ?_)
      walk_at "rd"
      refine⟨_,_,ys5,rfl,e5,eL5,hf5,hnd5,fun y=>?_⟩
      rw[hmore y,←hys5 y]
      constructor
      ·exact fun h=>.inl h
      ·rintro(h | ⟨h,_⟩)
       ·exact h
       ·exact absurd h hs
    ·rintro σ H5 ⟨k2',k3',ys5,rfl,e5,eL5,hf5,hnd5,hys5⟩
     rw[List.length_map,hcl]at hys5
     refine⟨_,_,_,ys5,rfl,e5,hf5,hnd5,fun y=>?_⟩
     rw[hys5 y]
     unfold gU gW
     rw[List.take_length,List.take_succ,hx]
     constructor
     ·rintro(⟨x',hx',h'⟩ | h')
      ·exact⟨x',List.mem_append_left _ hx',h'⟩
      ·exact⟨x,List.mem_append_right _ (by simp),lO.mpr h'⟩
     ·rintro⟨x',hx',h'⟩
      rcases List.mem_append.mp hx' with z | z
      ·exact .inl ⟨x',z,h'⟩
      ·have:x'=x:=by simpa using z
       subst this
       exact .inr (lO.mp h')
   ·rintro σ H6 ⟨k1',k2',k3',ys,rfl,e6,hf6,hnd,hys⟩
    rw[List.length_map,hbl]at hys
    walk_at "rd"
    refine⟨_,_,_,_,_,f,ys,rfl,hHG.trans e6,e3.none hfn,hf6,fun y hy=>?_,fun y=>?_⟩
    ·obtain⟨x,hx,h1⟩:=(og.mp ((hys y).mp hy))
     have:=nh ok (hin x hx) h1
     exact⟨this.1,this.2.1,this.2.2.1,by have:=this.2.2.2;omega⟩
    ·rw[hys y]
     exact og.trans (BB hxs y)
  ·rintro σ H3 ⟨k1,k2,k3,k4,k5,d3,xs,rfl,e3,hdn3,hd3,hin,hxs⟩
   rw[List.take_of_length_le (by rw[Array.length_toList];exact Nat.le_refl _)]at hxs
   walk_at "rd"
   refine⟨av (by simp),ao fun b2 H4 e4 hb2 _=>?_⟩
   walk_at "rd"
   refine⟨d3,_,rfl,cf.t (e4 _ _ hd3) (k:=aS (q,0)) hb2,?_⟩
   refine qq _ H4 (e3.trans e4) ?_
   rw[vz,decide_eq_true_iff]
   exact hxs (q,0)
def fk(L:List Nat):List Way:=L.map fun c=>⟨0,"stay",0,ch c⟩
theorem pR{L:List Nat}(h3:L.length=3)(hn:L.Nodup)(hL:∀x∈L,97<=x/\x<=122):HOuse 1 (fk L) where
 m1:=by decide
 m12:=by decide
 few:=by unfold fk;rw[List.length_map,h3];decide
 ok w hw:=by
  obtain⟨c,hc,rfl⟩:=List.mem_map.mp hw
  exact⟨Int.le_refl 0,show (0:Int)<1 by decide,Int.le_refl 0,show (0:Int)<1 by decide,ft,c,(hL c hc).1,(hL c hc).2,rfl⟩
 nd:=by
  unfold fk
  unfold List.Nodup at hn ⊢
  rw[List.pairwise_map]
  exact hn.imp fun ne e=>ne (dj (congrArg Way.sign e))
theorem uY{L SL:List Nat}(h:SigG (fk L) SL)(c:Nat):c∈SL↔c∈L:=by
 rw[h.mem c]
 constructor
 ·rintro⟨w,hw,e⟩
  obtain⟨c',hc',rfl⟩:=List.mem_map.mp hw
  rw[←dj e]
  exact hc'
 ·exact fun hc=>⟨_,List.mem_map.mpr ⟨c,hc,rfl⟩,rfl⟩
theorem pT{L SL:List Nat}(h3:L.length=3)(h:SigG (fk L) SL):SL.length<=3:=by
 rw[←h3]
 exact List.Nodup.length_le_of_subset (h.up.imp fun h=>Nat.ne_of_lt h) fun c hc=>(uY h c).mp hc
def cu(SL:List Nat)(cs:List Nat):List (List Nat):=SL.map fun c=>cs++[c]
theorem jy(SL:List Nat)(n:Nat):bf SL (n+1)=(bf SL n).flatMap (cu SL):=rfl
theorem i6{SL:List Nat}(h:SL.length<=3):∀L:List (List Nat),(L.flatMap (cu SL)).length<=3*L.length
 | []=>Nat.le_refl _
 | a::L=>by
  have ih:=i6 h L
  rw[List.flatMap_cons,List.length_append,List.length_cons]
  unfold cu at ih ⊢
  rw[List.length_map]
  omega
theorem fy{SL:List Nat}(h:SL.length<=3):∀n,(bf SL n).length<=3 ^ n
 | 0=>Nat.le_refl _
 | n+1=>by
  rw[jy,Nat.pow_succ]
  have h1:=i6 h (bf SL n)
  have h2:=fy h n
  omega
def cX(SL:List Nat)(n:Nat):List (List Nat):=(List.range n).flatMap (bf SL)
theorem fA(SL:List Nat)(n:Nat):cX SL (n+1)=cX SL n++bf SL n:=by
 unfold cX
 rw[List.range_succ,List.flatMap_append]
 simp
theorem su{SL:List Nat}(h:SL.length<=3):∀n,(cX SL n).length<=3 ^ n
 | 0=>Nat.zero_le _
 | n+1=>by
  rw[fA,List.length_append,Nat.pow_succ]
  have h1:=su h n
  have h2:=fy h n
  omega
theorem lu{SL:List Nat}:∀(n:Nat),∀b∈bf SL n,b.length=n
 | 0=>fun b hb=>by rw[List.mem_singleton.mp hb];rfl
 | n+1=>fun b hb=>by
  obtain⟨a,ha,hb⟩:=List.mem_flatMap.mp hb
  obtain⟨c,hc,rfl⟩:=List.mem_map.mp hb
  rw[List.length_append,lu n a ha]
  rfl
def pd(K:PySem.W.Frag):Sp:=fun vs H Q _=>∃n l L SL,vs=[.int ((n:Nat):Int),.ref l]/\n<=4/\H l=some (.lst (cJ L))/\L.length=3/\L.Nodup/\(∀x∈L,97<=x/\x<=122)/\SigG (fk L) SL/\∀r H',Ext H H'->H' r=some (.lst (bK (cX SL (n+1))))->Q (.ref r) H'
abbrev kI:Stmt:=stq 71
theorem ot:FnScope ["_law_length","_law_letters_here","_law_found","_law_last","_law_k","_law_longer","_law_word"] ["_law_length","_law_letters_here"] (aC kI):=⟨rfl,rfl,rfl,by decide +kernel,rfl,by decide +kernel,by decide +kernel⟩
theorem xu{P:Program}{w:World}{K:PySem.W.Frag}{mg:Str->Option Value}{base:Heap}(D:Dfn K mg "_law_words" kI ["_law_length","_law_letters_here"])(T:Blt mg):Cal P w K mg base "_law_words" 1 ["_law_length","_law_letters_here"] (pd K):=by
 have nd:=(ot).nd
 refine D.ok ot (fun vs H Q E h=>?_) (fun X hX H vs Q E h=>?_)
 ·obtain⟨n,l,L,SL,rfl,_⟩:=h;rfl
 ·obtain⟨f,cdv,A,outer,s,H0,E0,rfl,hr⟩:=hX
  obtain⟨n,l,L,SL,rfl,hn,hl,h3,hLn,hLr,hSL,q⟩:=h
  have okf:=pR h3 hLn hLr
  have hS3:=pT h3 hSL
  refine⟨_,(@ah _ _ _ _ _ (@az _ _ 2 _ _ _ _ nd rfl (Or.inl rfl) (@aR _ _ _ _ (@aa _ _ _ _ _ aH ab rfl)) rfl (Or.inl rfl))
    (@ah _ _ _ _ _ (@az _ _ 3 _ _ _ _ nd rfl (Or.inl rfl) (@aR _ _ _ _ (@aa _ _ _ _ _ aH ab rfl)) rfl (Or.inl rfl))
    (@ah _ _ _ _ _ (bC PassesOwn.never rfl (cW rfl T.range_ (@aa _ _ _ _ _ (pv 0) ab rfl)) (aB (i:=4) nd rfl (Or.inl rfl)) (@ah _ _ _ _ _ (@az _ _ 5 _ _ _ _ nd rfl (Or.inl rfl) (@aR _ _ _ _ ab) rfl (Or.inl rfl))
    (@ah _ _ _ _ _ (bC PassesOwn.never rfl (cx K (pv 3)) (aB (i:=6) nd rfl (Or.inr rfl)) (@aj _ _ _ (@az _ _ 5 _ _ _ _ nd rfl (Or.inl rfl) (ak g8 (pv 5) (cE ["_law_sign"] [6] (cx K (aU zH rfl T.sorted_ PyProof.Rows.boot_sorted (@aa _ _ _ _ _ (pv 1) ab rfl))) (fun _=>(aB (i:=0) (show(["_law_sign","_law_word"]:List Str).Nodup from by decide +kernel) rfl (Or.inl rfl) (Or.inr rfl))) (fun _=>cN) (fun _=>(ak rR (pv 1) (pv 0))))) rfl (Or.inl rfl))))
    (@ah _ _ _ _ _ (@az _ _ 3 _ _ _ _ nd rfl (Or.inl rfl) (pv 5) rfl (Or.inl rfl))
    (@aj _ _ _ (@az _ _ 2 _ _ _ _ nd rfl (Or.inl rfl) (ak g8 (pv 2) (pv 3)) rfl (Or.inl rfl)))))))
    (@aj _ _ _ (@aA _ _ _ _ (pv 2)))))),?_⟩
  walk_at "rd"
  refine⟨av (by simp),ao fun lf H1 e1 hlf _=>?_⟩
  walk_at "rd"
  refine⟨av (by simp),ao fun ll H2 e2 hll _=>?_⟩
  walk_at "rd"
  refine cV ⟨by omega,by omega⟩ ?_
  refine forR (fun i σ H'=>∃lf ll k1 k2 k3,σ=[some (.int (n:Int)),some (.ref l),some (.ref lf),some (.ref ll),k1,k2,k3]/\Ext H H'/\H' lf=some (.lst (bK (cX SL (i+1))))/\H' ll=some (.lst (bK (bf SL i)))) ⟨lf,ll,none,none,none,rfl,e1.trans e2,e2 _ _ hlf,hll⟩ ?_ ?_
  ·clear hlf hll e1 e2
   rintro i σ H3 hi ⟨lf,ll,k1,k2,k3,rfl,e3,hlf,hll⟩
   have hi':i<4:=by
    have:i<((n:Nat):Int).toNat:=hi
    omega
   have hW:=fy hS3 i
   have hF:=su hS3 (i+1)
   have hWl:=lu (SL:=SL) i
   have h81:3 ^ i<=27:=Nat.le_trans (Nat.pow_le_pow_right (by decide) (show i<=3 by omega)) (by decide)
   have h81':3 ^ (i+1)<=81:=Nat.le_trans (Nat.pow_le_pow_right (by decide) (show i+1<=4 by omega)) (by decide)
   rw[fA SL (i+1),jy]
   generalize bf SL i=W at hll hW hWl
   generalize cX SL (i+1)=F at hlf hF
   walk_at "rd"
   refine⟨av (by simp),ao fun lg H4 e4 hlg _=>?_⟩
   walk_at "rd"
   refine cC (af.of (e4 _ _ hll)) ?_
   refine forL (xs:=bK W) (fun j σ H'=>∃lg k3,σ=[some (.int (n:Int)),some (.ref l),some (.ref lf),some (.ref ll),some (.int (0+(i:Int))),some (.ref lg),k3]/\Ext H3 H'/\H' lg=some (.lst (bK ((W.take j).flatMap (cu SL))))) ⟨lg,k3,rfl,e4,hlg⟩ (fun j σ H' _ h=>by obtain⟨_,_,_,e,_⟩:=h;exact af.of (e _ _ hll)) ?_ ?_
   ·clear hlg e4
    rintro j x σ H5 hx ⟨lg,k3',rfl,e5,hlg⟩
    rw[List.getElem?_map]at hx
    obtain⟨cs,hcs,rfl⟩:=Option.map_eq_some_iff.mp hx
    have hcl:=hWl cs (List.mem_of_getElem? hcs)
    have hfl:=i6 hS3 (W.take j)
    have hwt:(W.take j).length<=W.length:=by rw[List.length_take];omega
    rw[List.take_succ,hcs,List.flatMap_append]
    generalize (W.take j).flatMap (cu SL)=R at hlg hfl
    walk_at "rd"
    refine⟨l,L.map ch,rfl,by rw[(e3.trans e5) _ _ hl,List.map_map];rfl,by rw[List.length_map,h3];decide,fun sl ss hsln hpm hsrt=>?_⟩
    obtain⟨G',rfl,hG'⟩:=nI okf (ds:=L.map ch) (by
     unfold List.Nodup at hLn ⊢
     rw[List.pairwise_map]
     exact hLn.imp fun ne e=>ne (dj e)) (fun z=>by unfold fk;rw[List.map_map];exact Iff.rfl) hpm hsrt
    obtain rfl:=hSL.uniq hG'
    have e6:Ext H5 (upd H5 sl (.lst (List.map V.str (List.map ch SL)))):=aX hsln
    have hsl:upd H5 sl (.lst (List.map V.str (List.map ch SL))) sl=some (.lst (List.map V.str (List.map ch SL))):=aI
    generalize upd H5 sl (.lst (List.map V.str (List.map ch SL)))=H6 at e6 hsl ⊢
    refine cC (af.of hsl) ?_
    refine gj (xs:=List.map V.str (List.map ch SL)) (fun k ys H'=>H'=H6/\ys=bK (cu (SL.take k) cs)) (bG (by rw[List.length_map,List.length_map];omega)) ⟨rfl,rfl⟩ (fun k ys H' hk h=>⟨by rw[h.1];exact af.of hsl,by rw[h.2];unfold cu;rw[List.length_map,List.length_map,List.length_take];omega⟩) ?_ ?_
    ·rintro k x ys H' hx ⟨rfl,rfl⟩
     rw[List.getElem?_map,List.getElem?_map]at hx
     obtain⟨zc,hzc,rfl⟩:=Option.map_eq_some_iff.mp hx
     obtain⟨c,hc,rfl⟩:=Option.map_eq_some_iff.mp hzc
     walk_at "rd"
     refine aD ?_
     walk_at "rd"
     refine⟨_,_,rfl,rfl,Nat.le_trans (show(tw cs).cps.size+1<=1000 by show cs.toArray.size+1<=1000;rw[List.size_toArray];omega) (by decide),?_⟩
     rw[uL]
     refine⟨rfl,?_⟩
     unfold cu bK
     rw[List.take_succ,hc,List.map_append,List.map_append]
     rfl
    ·rintro ys H' lc ⟨rfl,rfl⟩ hlcn
     rw[List.length_map,List.length_map,List.take_length]
     have e7:Ext H' (upd H' lc (.lst (bK (cu SL cs)))):=aX hlcn
     have hlc:upd H' lc (.lst (bK (cu SL cs))) lc=some (.lst (bK (cu SL cs))):=aI
     generalize upd H' lc (.lst (bK (cu SL cs)))=H7 at e7 hlc ⊢
     refine iy ((e6.trans e7) _ _ hlg) hlc (bG (by unfold cu;rw[List.length_map,List.length_map,List.length_map];omega)) (ao fun lg2 H8 e8 hlg2 _=>?_)
     walk_at "rd"
     refine⟨lg2,_,rfl,e5.trans (e6.trans (e7.trans e8)),?_⟩
     rw[hlg2]
     unfold bK
     rw[List.map_append]
     simp
   ·rintro σ H5 ⟨lg,k3',rfl,e5,hlg⟩
    rw[List.length_map,List.take_length]at hlg
    have hfl:=i6 hS3 W
    generalize W.flatMap (cu SL)=R at hlg hfl
    walk_at "rd"
    refine iy (e5 _ _ hlf) hlg (bG (by rw[List.length_map,List.length_map];omega)) (ao fun lf2 H6 e6 hlf2 _=>?_)
    walk_at "rd"
    refine⟨lf2,lg,_,_,_,rfl,e3.trans (e5.trans e6),?_,e6 _ _ hlg⟩
    rw[hlf2]
    unfold bK
    rw[List.map_append]
  ·rintro σ H3 ⟨lf,ll,k1,k2,k3,rfl,e3,hlf,hll⟩
   rw[Int.toNat_natCast]at hlf
   walk_at "rd"
   exact q lf H3 e3 hlf
theorem Ar{cs:List Nat}(h:∀c∈cs,c<=122):(PyData.str (tw cs)).canLay0=true:=by
 have:PyData.strOk (tw cs)=true:=by
  unfold PyData.strOk
  rw[Array.all_eq_true']
  intro c hc
  have:=h c (by simpa using hc)
  exact decide_eq_true (by omega)
 first | exact this | (simp only[PyData.canLay0];exact this)
theorem gG{H:Hp}{a:Addr}{A:List (List Nat)}(h:H a=some (.lst (bK A)))(hl:∀cs∈A,∀c∈cs,c<=122):aZ H 1 (.ref a) (.list (A.map fun cs=>PyData.str (tw cs))):=by
 refine .inr ⟨a,_,_,rfl,.inr ⟨h,rfl⟩,?_⟩
 clear h
 induction A with
 | nil=>exact .nil
 | cons cs A ih=>exact .cons ⟨rfl,Ar (hl cs List.mem_cons_self)⟩ (ih fun x hx=>hl x (List.mem_cons_of_mem _ hx))
theorem lK(A:List (List Nat)):PyData.eqv (.list (A.map fun cs=>PyData.str (tw cs))) (.list (A.map fun cs=>PyData.str (tw cs)))=true:=by
 simp only[PyData.eqv]
 induction A with
 | nil=>rfl
 | cons cs A ih=>
  simp only[List.map_cons,PyData.eqvAll,PyData.eqv]
  rw[ih]
  simp
theorem pO(ws:List Way){m:Int}(ok:HOuse m ws):∃G,SigG ws G:=by
 refine⟨(List.range 123).filter fun c=>ws.any fun w=>decide (w.sign=ch c),?_,fun c=>?_⟩
 ·exact List.Pairwise.filter _ (List.pairwise_lt_range)
 ·rw[List.mem_filter,List.mem_range,List.any_eq_true]
  constructor
  ·rintro⟨_,w,hw,h⟩
   exact⟨w,hw,of_decide_eq_true h⟩
  ·rintro⟨w,hw,h⟩
   obtain⟨c',c1,c2,e⟩:=(ok.ok w hw).sg
   have:=dj (h.symm.trans e)
   exact⟨by omega,w,hw,decide_eq_true h⟩
theorem xq{m:Int}{ws:List Way}(ok:HOuse m ws){G:List Nat}(h:SigG ws G):∀c∈G,c<=122:=fun c hc=>by
 obtain⟨w,hw,e⟩:=(h.mem c).mp hc
 obtain⟨c',c1,c2,e'⟩:=(ok.ok w hw).sg
 have:=dj (e.symm.trans e')
 omega
theorem iu{K:PySem.W.Frag}{H:Hp}{a:Addr}{ns:List Int}{k:Int}{Q:VK}{xe:XK}(h1:af K H a (ns.map V.int))(h2:ns.length<=63)(h3:0<=k)(q:∀z,Q (.int z) H):m3 K [.ref a,.int k] H Q xe:=⟨a,ns,k,rfl,h1,h2,h3,q⟩
def j8(ws:List Way)(x y:Bfs.Pl):Prop:=∃(k:Nat) (w:Way),ws[k]?=some w/\w.room=x.1/\bu w.deed x.2=some y.2/\y.1=w.other
theorem zy{ws:List Way}{U:Int}{x y:Bfs.Pl}(h:j8 ws x y)(hU:y.2<=U):∃k,bD ws U x k=some y:=by
 obtain⟨k,w,h1,h2,h3,h4⟩:=h
 refine⟨k,?_⟩
 unfold bD
 rw[h1,Option.bind_some,if_pos h2,h3,Option.bind_some,if_pos hU,←h4]
theorem vZ{z:Str}{n n' c:Int}(hz:bq z)(h:bu z n=some n')(hc:0<=c)(h1:1<=n-c):bu z (n-c)=some (n'-c):=by
 rcases hz with e | e | e | e<;>rw[e]at h ⊢
 ·rw[eo]at h ⊢;cases h;congr 1;omega
 ·rw[dO]at h ⊢
  rw[decide_eq_true (show 0<n by omega),if_pos rfl]at h
  rw[decide_eq_true (show 0<n-c by omega),if_pos rfl]
  cases h;congr 1;omega
 ·rw[de]at h ⊢;cases h;rfl
 ·rw[dM]at h
  rw[decide_eq_false (show ¬n=0 by omega)]at h
  cases h
theorem xO{p:Int}{ws:List Way}{cs:List Nat}{y:Bfs.Pl}(h:RP ws p cs y):Bfs.Rw (j8 ws) cs.length (p,0) y:=by
 have:∀k,k<=cs.length->∀y,Rs ws (fun x=>x=(p,0)) (cs.take k) y->Bfs.Rw (j8 ws) k (p,0) y:=by
  intro k
  induction k with
  | zero=>
   intro _ y hy
   have hy:y=(p,0):=hy
   subst hy
   exact .nil
  | succ k ih=>
   intro hk y hy
   have e:cs.take (k+1)=cs.take k++[cs[k]]:=by rw[List.take_succ,List.getElem?_eq_getElem (by omega)];rfl
   rw[e,ia]at hy
   obtain⟨x,hx,w,hw,_,hr,hst,ho⟩:=hy
   obtain⟨j,hj⟩:=List.getElem?_of_mem hw
   exact .snoc (ih (by omega) x hx) ⟨j,w,hj,hr,hst,ho.symm⟩
 have:=this cs.length (Nat.le_refl _) y
 rw[List.take_length]at this
 exact this h
section
variable {m p q:Int} {ws:List Way} (ok:HOuse m ws) (p0:0<=p) (p1:p<m) (q0:0<=q) (q1:q<m)
include ok p0 p1 q0 q1
theorem vt{cs:List Nat}(h:aT ws m p q 0 cs=true):∃n,n<=cs.length/\Bfs.cz (bD ws (bN m (p,0) (q,0))) (p,0) n (q,0):=by
 obtain⟨x,hx,hq⟩:=(fv ok p0 p1 q0 q1 0 cs).mp h
 have hq:x=(q,0):=hq
 subst hq
 have m1:=ok.m1
 obtain⟨n',hn',r'⟩:=Bfs.cut (S:=j8 ws) (m:=m) (by omega) (fun p q h=>by
   obtain⟨k,w,e1,e2,e3,e4⟩:=h
   have okw:=ok.ok w (List.mem_of_getElem? e1)
   have:=oA okw.dd e3
   have r1:=A8 w.deed
   have r2:=yK w.deed
   omega) (fun p q c h hc h1 h2=>by
   obtain⟨k,w,e1,e2,e3,e4⟩:=h
   have okw:=ok.ok w (List.mem_of_getElem? e1)
   exact⟨k,w,e1,e2,vZ okw.dd e3 hc h1,e4⟩) (fun p q h=>by
   obtain⟨k,w,e1,e2,e3,e4⟩:=h
   have okw:=ok.ok w (List.mem_of_getElem? e1)
   rw[e4]
   exact⟨okw.o0,okw.o1⟩) (b:=0) (Int.le_refl 0) cs.length (p,0) (q,0) (xO hx) p0 p1 (Int.le_refl 0) (Int.le_refl 0)
 have wk:Bfs.Wk (bD ws (bN m (p,0) (q,0))) (p,0) n' (q,0):=r'.wk (fun a c h=>zy h.1 h.2)
 obtain⟨k,hk,dk⟩:=Bfs.AY n' wk
 exact⟨k,by omega,dk⟩
theorem uw{G:List Nat}(d:Nat):∀j,∃R,cp ws m p q G (d+j)=cp ws m p q G d++R
 | 0=>⟨[],by rw[List.append_nil];rfl⟩
 | j+1=>by
  obtain⟨R,h⟩:=uw d j
  refine⟨R++(bf G (d+j)).filter (aT ws m p q 0),?_⟩
  rw[show d+(j+1)=d+j+1 by omega,gN ok p0 p1 q0 q1,h,List.append_assoc]
theorem Co{G:List Nat}(hG:SigG ws G){n k:Nat}(hk:1<=k)(hne:bM ws m p q G k n≠[]):∃d,Bfs.cz (bD ws (bN m (p,0) (q,0))) (p,0) d (q,0)/\∀cs,((bf G d).filter (aT ws m p q 0))[0]?=some cs->(bM ws m p q G k n)[0]?=some cs:=by
 rw[mx ok p0 p1 q0 q1 hG]at hne ⊢
 obtain⟨cs0,h0⟩:=List.exists_mem_of_ne_nil _ hne
 obtain⟨e,he,h1⟩:=List.mem_flatMap.mp (List.mem_of_mem_take h0)
 have he:=List.mem_range.mp he
 obtain⟨h1,h2⟩:=List.mem_filter.mp h1
 have hl:=jv ok p0 p1 q0 q1 e cs0 h1
 obtain⟨d,hd,dd⟩:=vt ok p0 p1 q0 q1 h2
 refine⟨d,dd,fun cs hcs=>?_⟩
 have hno:∀d',d'<=d->cp ws m p q G d'=[]:=by
  intro d'
  induction d' with
  | zero=>intro _;rfl
  | succ d' ih=>
   intro h
   rw[gN ok p0 p1 q0 q1,ih (by omega),List.nil_append]
   refine List.filter_eq_nil_iff.mpr fun b hb hr=>?_
   have hbl:=jv ok p0 p1 q0 q1 d' b hb
   obtain⟨d2,hd2,dd2⟩:=vt ok p0 p1 q0 q1 hr
   have:=Bfs.cz.uniq (nx:=bD ws (bN m (p,0) (q,0))) (s:=(p,0)) dd2 dd
   omega
 obtain⟨R,hR⟩:=uw ok p0 p1 q0 q1 (G:=G) (d+1) (n-(d+1))
 rw[show d+1+(n-(d+1))=n by omega,gN ok p0 p1 q0 q1,hno d (Nat.le_refl _),List.nil_append]at hR
 rw[hR,List.getElem?_take_of_lt (by omega)]
 cases hF:(bf G d).filter (aT ws m p q 0)with
 | nil=>rw[hF]at hcs;cases hcs
 | cons x L=>
  rw[hF]at hcs
  exact hcs
theorem pN{G:List Nat}:∀(n:Nat),∀b∈bf G n,∀c∈b,c∈G
 | 0=>fun b hb c hc=>by
  rw[List.mem_singleton.mp hb]at hc
  cases hc
 | n+1=>fun b hb c hc=>by
  obtain⟨a,ha,h⟩:=List.mem_flatMap.mp hb
  obtain⟨d,hd,rfl⟩:=List.mem_map.mp h
  rcases List.mem_append.mp hc with z | z
  ·exact pN n a ha c z
  ·rw[List.mem_singleton.mp z]
   exact hd
end
theorem join_le:∀(zs:List Str) (acc:Array Nat),((zs.foldl (fun acc p=>acc++(#[]:Array Nat)++p.cps) acc).size=acc.size+(zs.map (·.length)).sum)
 | [],acc=>by simp
 | z::zs,acc=>by
  rw[List.foldl_cons,join_le zs,List.map_cons,List.sum_cons]
  simp
  show acc.size+z.cps.size+_=acc.size+(z.cps.size+_)
  omega
theorem BG(zs:List Str):(Txt.join ⟨#[]⟩ zs).length<=(zs.map (·.length)).sum:=by
 cases zs with
 | nil=>exact Nat.le_refl _
 | cons z zs=>
  show(zs.foldl (fun acc p=>acc++(#[]:Array Nat)++p.cps) z.cps).size<=_
  rw[join_le,List.map_cons,List.sum_cons]
  exact Nat.le_refl _
theorem Az{zs:List Str}(h:∀z∈zs,z.length=1):(zs.map (·.length)).sum=zs.length:=by
 induction zs with
 | nil=>rfl
 | cons z zs ih=>
  rw[List.map_cons,List.sum_cons,ih fun y hy=>h y (List.mem_cons_of_mem _ hy),h z List.mem_cons_self,List.length_cons]
  omega
theorem aE.take{H:Hp}{bs:List Addr}{ws:List Way}(h:aE H bs ws)(k:Nat):aE H (bs.take k) (ws.take k):=by
 refine⟨by rw[List.length_take,List.length_take,h.1],fun j b w e1 e2=>?_⟩
 rw[List.getElem?_take]at e1 e2
 split at e1
 ·rename_i hj
  rw[if_pos hj]at e2
  exact h.2 j b w e1 e2
 ·cases e1
def eT(M:Int)(w:Way):Bool:=decide ((if w.other>w.room then w.other else w.room)<M)
theorem yw{M:Int}{w:Way}:eT M w=true↔w.room<M/\w.other<M:=by
 unfold eT
 rw[decide_eq_true_iff]
 split<;>omega
def dH(M:Int)(k:Nat)(ws:List Way):List Way:=(ws.filter (eT M)).take k
theorem kP{M:Int}{k:Nat}{ws:List Way}{w:Way}(h:w∈dH M k ws):w∈ws/\w.room<M/\w.other<M:=by
 obtain⟨h1,h2⟩:=List.mem_filter.mp (List.mem_of_mem_take h)
 exact⟨h1,yw.mp h2⟩
theorem nG{m M:Int}{k:Nat}{ws:List Way}(ok:HOuse m ws)(M1:1<=M)(M12:M<=12)(hk:k<=100):HOuse M (dH M k ws) where
 m1:=M1
 m12:=M12
 few:=by unfold dH;rw[List.length_take];omega
 ok w hw:=by
  obtain⟨h1,h2,h3⟩:=kP hw
  have o:=ok.ok w h1
  exact⟨o.r0,h2,o.o0,h3,o.dd,o.sg⟩
 nd:=List.Nodup.sublist ((List.take_sublist _ _).trans List.filter_sublist) ok.nd
theorem sP(M:Int)(k:Nat)(ws:List Way):(dH M k ws).length<=k:=by unfold dH;rw[List.length_take];omega
theorem n9{G SL:List Nat}(hs:SL.filter (fun c=>decide (c∈G))=G):∀n,(bf SL n).filter (fun cs=>cs.all fun c=>decide (c∈G))=bf G n
 | 0=>rfl
 | n+1=>by
  rw[jy,jy,mj (P:=fun cs=>cs.all fun c=>decide (c∈G)) (fun a b hb hr=>?_),n9 hs n]
  ·have:∀L:List (List Nat),(∀cs∈L,∀c∈cs,c∈G)->L.flatMap (fun a=>(cu SL a).filter (fun cs=>cs.all fun c=>decide (c∈G)))=L.flatMap (cu G):=by
    intro L
    induction L with
    | nil=>intro _;rfl
    | cons a L ih=>
     intro h
     rw[List.flatMap_cons,List.flatMap_cons,ih fun cs hcs=>h cs (List.mem_cons_of_mem _ hcs)]
     congr 1
     have ha:=h a List.mem_cons_self
     unfold cu
     rw[List.filter_map]
     have:SL.filter ((fun cs:List Nat=>cs.all fun c=>decide (c∈G))∘fun c=>a++[c])=G:=by
      refine(List.filter_congr (q:=fun c=>decide (c∈G)) fun c _=>?_).trans hs
      show(a++[c]).all _=_
      rw[List.all_append,show a.all (fun c=>decide (c∈G))=true from List.all_eq_true.mpr fun x hx=>decide_eq_true (ha x hx)]
      simp
     rw[this]
   exact this _ fun cs hcs=>full_ch n cs hcs
  ·obtain⟨c,hc,rfl⟩:=List.mem_map.mp hb
   rw[List.all_append]at hr
   exact(Bool.and_eq_true _ _ ▸ hr).1
where full_ch:∀{G:List Nat} (n:Nat),∀b∈bf G n,∀c∈b,c∈G
 | _,0=>fun b hb c hc=>by
  rw[List.mem_singleton.mp hb]at hc
  cases hc
 | G,n+1=>fun b hb c hc=>by
  obtain⟨a,ha,h⟩:=List.mem_flatMap.mp hb
  obtain⟨d,hd,rfl⟩:=List.mem_map.mp h
  rcases List.mem_append.mp hc with z | z
  ·exact full_ch n a ha c z
  ·rw[List.mem_singleton.mp z]
   exact hd
theorem sS{p:Int}{ws:List Way}{G:List Nat}(hG:SigG ws G):∀(cs:List Nat) {S:Bfs.Pl->Prop} {y:Bfs.Pl},Rs ws S cs y->∀c∈cs,c∈G
 | [],S,y,_,c,hc=>by cases hc
 | d::cs,S,y,h,c,hc=>by
  rcases List.mem_cons.mp hc with rfl | hc
  ·have:∀(cs:List Nat) {S:Bfs.Pl->Prop} {y:Bfs.Pl},Rs ws S cs y->∃x,S x:=by
    intro cs
    induction cs with
    | nil=>intro S y h;exact⟨y,h⟩
    | cons e cs ih=>
     intro S y h
     obtain⟨x,x',hx',_⟩:=ih (S:=Sg ws e S) h
     exact⟨x',hx'⟩
   obtain⟨x,x',hx',w,hw,hs,_⟩:=this cs (S:=Sg ws c S) h
   exact(hG.mem c).mpr ⟨w,hw,hs⟩
  ·exact sS (p:=p) hG cs (S:=Sg ws d S) h c hc
theorem xG{m p q:Int}{ws:List Way}(ok:HOuse m ws)(p0:0<=p)(p1:p<m)(q0:0<=q)(q1:q<m){G SL:List Nat}(hG:SigG ws G)(hS:SL.Pairwise (· < ·))(hsub:∀c∈G,c∈SL)(n:Nat):(cX SL n).filter (aT ws m p q 0)=cp ws m p q G n:=by
 have hs:SL.filter (fun c=>decide (c∈G))=G:=by
  refine(SigG.uniq hG ⟨List.Pairwise.filter _ hS,fun c=>?_⟩).symm
  rw[List.mem_filter,decide_eq_true_iff,←hG.mem c]
  exact⟨fun h=>h.2,fun h=>⟨hsub c h,h⟩⟩
 have h1:∀e,(bf SL e).filter (aT ws m p q 0)=(bf G e).filter (aT ws m p q 0):=fun e=>by
  rw[←n9 hs e,List.filter_filter]
  refine List.filter_congr fun cs _=>?_
  cases hc:aT ws m p q 0 cs with
  | false=>rfl
  | true=>
   obtain⟨x,hx,_⟩:=(fv ok p0 p1 q0 q1 0 cs).mp hc
   rw[show (cs.all fun c=>decide (c∈G))=true from List.all_eq_true.mpr fun c hcc=>decide_eq_true (sS (p:=p) hG cs hx c hcc)]
   rfl
 induction n with
 | zero=>rfl
 | succ n ih=>rw[fA,List.filter_append,ih,h1 n,gN ok p0 p1 q0 q1]
theorem vT{m p q:Int}{ws:List Way}(ok:HOuse m ws)(p0:0<=p)(p1:p<m)(q0:0<=q)(q1:q<m)(cs:List Nat):aT ws m p q 0 cs=true↔RP ws p cs (q,0):=by
 rw[fv ok p0 p1 q0 q1]
 constructor
 ·rintro⟨x,hx,rfl⟩
  exact hx
 ·exact fun h=>⟨_,h,rfl⟩
theorem wF{A:List Nat->Bool}{L:List (List Nat)}{i:Nat}{cs:List Nat}(h:L[i]?=some cs):(L.take (i+1)).filter A=(L.take i).filter A++(if A cs=true then[cs]else[]):=by
 rw[List.take_succ,h,List.filter_append]
 congr 1
 by_cases e:A cs=true
 ·rw[if_pos e];simp[e]
 ·rw[if_neg e];simp[e]
theorem oW{sp:Sp}{E:XK}{ar:TA}{σ:St}{b1:Bool}{H1:Hp}{K:VK}(C:Bool->Hp->Prop)(hT:b1=true->∀K':VK,(∀cb H',C cb H'->K' (.bl cb) H')->gL sp [] E ar σ H1 K')(hF:b1=false->C false H1)(hK:∀cb H',C cb H'->K (.bl cb) H'):∃k,V.bl b1=.bl k/\if k=true then gL sp [] E ar σ H1 K else K (.bl false) H1:=by
 refine⟨b1,rfl,?_⟩
 cases b1 with
 | true=>exact(if_pos rfl) ▸ hT rfl K hK
 | false=>
  rw[if_neg (by decide)]
  exact hK false H1 (hF rfl)
def ku(K:PySem.W.Frag):Sp:=fun vs H Q _=>∃(a:Addr) (ns:List Int),vs=[.ref a]/\af K H a (ns.map V.int)/\ns.length<=63/\∀H',Q (.bl true) H'
abbrev eJ:Stmt:=stq 72
theorem qW:FnScope ["_law_script","_law_letters_here","_law_house_here","_law_many","_law_bare_here","_law_wide","_law_draws_here","_law_p","_law_q","_law_s","_law_t","_law_both_house","_law_low","_law_high","_law_due","_law_word","_law_common","_law_told","_law_k","_law_some"] ["_law_script"] (aC eJ):=⟨rfl,rfl,rfl,by decide +kernel,rfl,by decide +kernel,by decide +kernel⟩
theorem A5{P:Program}{w:World}{K:PySem.W.Frag}{mg:Str->Option Value}{base:Heap}{f:Addr}{fd:FuncData}(F:Fun K "law" "law" eJ f fd)(T:Blt mg)(C_first_word:Cal P w K mg base "first_word" 9 ["house","p","q"] (sF K))(C_first_words:Cal P w K mg base "first_words" 9 ["house","p","q","length","many"] (qc K))(C_reads:Cal P w K mg base "reads" 8 ["house","p","q","text"] (rN K))(C__law_reads:Cal P w K mg base "_law_reads" 2 ["_law_house_here","_law_p","_law_q","_law_word"] (qr K))(C__law_draws:Cal P w K mg base "_law_draws" 2 ["_law_cell_here","_law_widths","_law_prime"] (eX K))(C__law_cell:Cal P w K mg base "_law_cell" 1 ["_law_script","_law_k"] (m3 K))(C__law_words:Cal P w K mg base "_law_words" 1 ["_law_length","_law_letters_here"] (pd K))(C_side_by_side:Cal P w K mg base "side_by_side" 8 ["house","bare"] (uh K))(C__law_respelled:Cal P w K mg base "_law_respelled" 1 ["_law_house_here","_law_letters_here"] (tR K))(C__law_bare:Cal P w K mg base "_law_bare" 3 ["_law_cell_here","_law_prime"] (ui K))(C__law_house:Cal P w K mg base "_law_house" 4 ["_law_cell_here","_law_prime"] (sJ K))(C__law_letters:Cal P w K mg base "_law_letters" 3 ["_law_cell_here","_law_prime"] (rS K)):FnOk P w K mg base eD 10 f fd ["_law_script"] (ku K):=by
 have nd:=(qW).nd
 refine F.ok qW (fun vs H Q E h=>?_) (fun cdv A outer s H vs Q E hr h=>?_)
 ·obtain⟨a,ns,rfl,_⟩:=h;rfl
 ·obtain⟨a,ns,rfl,ha,hl,q⟩:=h
  refine⟨_,(@ah _ _ _ _ _ (@az _ _ 1 _ _ _ _ nd rfl (Or.inr rfl) (au C__law_letters hr (@aa _ _ _ _ _ (au C__law_cell hr (@aa _ _ _ _ _ (pv 0) (@aa _ _ _ _ _ ae ab rfl) rfl)) (@aa _ _ _ _ _ ae ab rfl) rfl)) rfl (Or.inl rfl))
    (@ah _ _ _ _ _ (@az _ _ 2 _ _ _ _ nd rfl (Or.inl rfl) (au C__law_respelled hr (@aa _ _ _ _ _ (au C__law_house hr (@aa _ _ _ _ _ (au C__law_cell hr (@aa _ _ _ _ _ (pv 0) (@aa _ _ _ _ _ ae ab rfl) rfl)) (@aa _ _ _ _ _ ae ab rfl) rfl)) (@aa _ _ _ _ _ (pv 1) ab rfl) rfl)) rfl (Or.inl rfl))
    (@ah _ _ _ _ _ (@az _ _ 3 _ _ _ _ nd rfl (Or.inr rfl) (aU (pL rfl) rfl T.min_ PyProof.Rows.boot_min (@aa _ _ _ _ _ ae (@aa _ _ _ _ _ (@ai _ _ _ _ _ _ _ (ax K) (pv 2) ae (fun _ _=>rfl)) ab rfl) rfl)) rfl (Or.inl rfl))
    (@ah _ _ _ _ _ (@az _ _ 2 _ _ _ _ nd rfl (Or.inl rfl) (@aQ _ _ _ _ _ (@aa _ _ _ _ _ (pv 3) (@aa _ _ _ _ _ (dN (fF K) rfl T.tuple_ PyProof.Rows.boot_tuple (@aa _ _ _ _ _ (fM (fE K) (cE ["_law_way"] [3] (dY K (@ai _ _ _ _ _ _ _ (ax K) (pv 2) ae (fun _ _=>rfl))) (fun _=>(aB (i:=0) (show(["_law_way","_law_many"]:List Str).Nodup from by decide +kernel) rfl (Or.inl rfl) (Or.inr rfl))) (fun _=>(jB (aL fc (aU (mS rfl) rfl T.max_ PyProof.Rows.boot_max (@aa _ _ _ _ _ (@ai _ _ _ _ _ _ _ (ax K) (pv 0) ae (fun _ _=>rfl)) (@aa _ _ _ _ _ (@ai _ _ _ _ _ _ _ (ax K) (pv 0) ae (fun _ _=>rfl)) ab rfl) rfl)) (pv 1) (aF _)))) (fun _=>(pv 0))) jR (dF ae)) ab rfl)) ab rfl) rfl)) rfl (Or.inl rfl))
    (@ah _ _ _ _ _ (@az _ _ 4 _ _ _ _ nd rfl (Or.inl rfl) (au C__law_respelled hr (@aa _ _ _ _ _ (au C__law_bare hr (@aa _ _ _ _ _ (au C__law_cell hr (@aa _ _ _ _ _ (pv 0) (@aa _ _ _ _ _ ae ab rfl) rfl)) (@aa _ _ _ _ _ ae ab rfl) rfl)) (@aa _ _ _ _ _ (pv 1) ab rfl) rfl)) rfl (Or.inl rfl))
    (@ah _ _ _ _ _ (@az _ _ 5 _ _ _ _ nd rfl (Or.inr rfl) (aU (pL rfl) rfl T.min_ PyProof.Rows.boot_min (@aa _ _ _ _ _ ae (@aa _ _ _ _ _ (@ai _ _ _ _ _ _ _ (ax K) (pv 4) ae (fun _ _=>rfl)) ab rfl) rfl)) rfl (Or.inl rfl))
    (@ah _ _ _ _ _ (@az _ _ 4 _ _ _ _ nd rfl (Or.inl rfl) (@aQ _ _ _ _ _ (@aa _ _ _ _ _ (pv 5) (@aa _ _ _ _ _ (dN (fF K) rfl T.tuple_ PyProof.Rows.boot_tuple (@aa _ _ _ _ _ (fM (fE K) (cE ["_law_way"] [5] (dY K (@ai _ _ _ _ _ _ _ (ax K) (pv 4) ae (fun _ _=>rfl))) (fun _=>(aB (i:=0) (show(["_law_way","_law_wide"]:List Str).Nodup from by decide +kernel) rfl (Or.inl rfl) (Or.inr rfl))) (fun _=>(jB (aL fc (aU (mS rfl) rfl T.max_ PyProof.Rows.boot_max (@aa _ _ _ _ _ (@ai _ _ _ _ _ _ _ (ax K) (pv 0) ae (fun _ _=>rfl)) (@aa _ _ _ _ _ (@ai _ _ _ _ _ _ _ (ax K) (pv 0) ae (fun _ _=>rfl)) ab rfl) rfl)) (pv 1) (aF _)))) (fun _=>(pv 0))) jR (dF ae)) ab rfl)) ab rfl) rfl)) rfl (Or.inl rfl))
    (@ah _ _ _ _ _ (@az _ _ 6 _ _ _ _ nd rfl (Or.inl rfl) (au C__law_draws hr (@aa _ _ _ _ _ (au C__law_cell hr (@aa _ _ _ _ _ (pv 0) (@aa _ _ _ _ _ ae ab rfl) rfl)) (@aa _ _ _ _ _ (@aR _ _ _ _ (fZ (.c (.c (.c (.c (.c .n))))))) (@aa _ _ _ _ _ ae ab rfl) rfl) rfl)) rfl (Or.inl rfl))
    (@ah _ _ _ _ _ (@ju _ _ _ _ _ _ (@aQ _ _ _ _ _ (@aa _ _ _ _ _ (ak bQ (@ai _ _ _ _ _ _ _ (aJ K) (pv 6) ae (fun _ _=>rfl)) (pv 3)) (@aa _ _ _ _ _ (ak bQ (@ai _ _ _ _ _ _ _ (aJ K) (pv 6) ae (fun _ _=>rfl)) (pv 3)) (@aa _ _ _ _ _ (ak bQ (@ai _ _ _ _ _ _ _ (aJ K) (pv 6) ae (fun _ _=>rfl)) (pv 5)) (@aa _ _ _ _ _ (ak bQ (@ai _ _ _ _ _ _ _ (aJ K) (pv 6) ae (fun _ _=>rfl)) (pv 5)) ab rfl) rfl) rfl) rfl)) (dZ (n:=4) K rfl (bo (aB (i:=7) nd rfl (Or.inl rfl)) (bo (aB (i:=8) nd rfl (Or.inl rfl)) (bo (aB (i:=9) nd rfl (Or.inl rfl)) (bo (aB (i:=10) nd rfl (Or.inl rfl)) dw))))) rfl rfl rfl)
    (@ah _ _ _ _ _ (@az _ _ 11 _ _ _ _ nd rfl (Or.inl rfl) (au C_side_by_side hr (@aa _ _ _ _ _ (pv 2) (@aa _ _ _ _ _ (pv 4) ab rfl) rfl)) rfl (Or.inl rfl))
    (@ah _ _ _ _ _ (lT (i:=12) (j:=13) rfl nd rfl rfl (by decide) rfl rfl (@aa _ _ _ _ _ (ak aN (ak bU (pv 7) (pv 5)) (pv 9)) (@aa _ _ _ _ _ (ak aN (ak bU (pv 8) (pv 5)) (pv 10)) ab rfl) rfl) rfl)
    (@ah _ _ _ _ _ (@az _ _ 14 _ _ _ _ nd rfl (Or.inl rfl) (@aR _ _ _ _ ab) rfl (Or.inl rfl))
    (@ah _ _ _ _ _ (bC PassesOwn.never rfl (cx K (au C__law_words hr (@aa _ _ _ _ _ ae (@aa _ _ _ _ _ (pv 1) ab rfl) rfl))) (aB (i:=15) nd rfl (Or.inl rfl)) (@ah _ _ _ _ _ (@az _ _ 16 _ _ _ _ nd rfl (Or.inl rfl) (dJ (au C__law_reads hr (@aa _ _ _ _ _ (pv 2) (@aa _ _ _ _ _ (pv 7) (@aa _ _ _ _ _ (pv 8) (@aa _ _ _ _ _ (pv 15) ab rfl) rfl) rfl) rfl)) (eu (au C__law_reads hr (@aa _ _ _ _ _ (pv 4) (@aa _ _ _ _ _ (pv 9) (@aa _ _ _ _ _ (pv 10) (@aa _ _ _ _ _ (pv 15) ab rfl) rfl) rfl) rfl)))) rfl (Or.inl rfl))
    (@ah _ _ _ _ _ (@az _ _ 17 _ _ _ _ nd rfl (Or.inl rfl) (au C_reads hr (@aa _ _ _ _ _ (pv 11) (@aa _ _ _ _ _ (pv 12) (@aa _ _ _ _ _ (pv 13) (@aa _ _ _ _ _ (pv 15) ab rfl) rfl) rfl) rfl)) rfl (Or.inl rfl))
    (@ah _ _ _ _ _ (@bt _ _ _ _ _ _ _ _ (PW.pt (df (dv (cH (aU fo rfl T.isinstance_ PyProof.Rows.boot_isinstance (@aa _ _ _ _ _ (pv 17) (@aa _ _ _ _ _ (fu (v:=.ty "bool") rfl T.bool_ PyProof.Rows.boot_bool rfl) ab rfl) rfl)))) (eA (aL fV (pv 17) (pv 16) (aF _))))) (@aj _ _ _ (@aA _ _ _ _ dC)) aO)
    (@aj _ _ _ (cw (cH (pv 16)) (@aj _ _ _ (aV (bx K PySem.F.plainAttrs_list PySem.F.slot_list_append PySem.F.type_list_append bI (pv 14) (@aa _ _ _ _ _ (pv 15) ab rfl)))) aO))))))
    (@ah _ _ _ _ _ (bC PassesOwn.never rfl (cW rfl T.range_ (@aa _ _ _ _ _ ae ab rfl)) (aB (i:=18) nd rfl (Or.inl rfl)) (@ah _ _ _ _ _ (@az _ _ 19 _ _ _ _ nd rfl (Or.inl rfl) (au C__law_draws hr (@aa _ _ _ _ _ (au C__law_cell hr (@aa _ _ _ _ _ (pv 0) (@aa _ _ _ _ _ (ak aN ae (pv 18)) ab rfl) rfl)) (@aa _ _ _ _ _ (ak g8 (@aR _ _ _ _ (@aa _ _ _ _ _ ae ab rfl)) (ak j4 (@aR _ _ _ _ (@aa _ _ _ _ _ ae ab rfl)) ae)) (@aa _ _ _ _ _ ae ab rfl) rfl) rfl)) rfl (Or.inl rfl))
    (@ah _ _ _ _ _ (@az _ _ 15 _ _ _ _ nd rfl (Or.inl rfl) (bx K PySem.F.plainAttrs_str PySem.F.slot_str_join PySem.F.type_str_join (B7 K) aH (@aa _ _ _ _ _ (cE ["_law_sign"] [1] (cx K (fM (fE K) (pv 19) (dF ae) (dF (ak aN ae (@ai _ _ _ _ _ _ _ (aJ K) (pv 19) ae (fun _ _=>rfl)))))) (fun _=>(aB (i:=0) (show(["_law_sign","_law_letters_here"]:List Str).Nodup from by decide +kernel) rfl (Or.inl rfl) (Or.inr rfl))) (fun _=>cN) (fun _=>(@ai _ _ _ _ _ _ _ (aJ K) (pv 1) (pv 0) (fun _ _=>rfl)))) ab rfl)) rfl (Or.inl rfl))
    (@ah _ _ _ _ _ (@az _ _ 16 _ _ _ _ nd rfl (Or.inl rfl) (dJ (au C__law_reads hr (@aa _ _ _ _ _ (pv 2) (@aa _ _ _ _ _ (pv 7) (@aa _ _ _ _ _ (pv 8) (@aa _ _ _ _ _ (pv 15) ab rfl) rfl) rfl) rfl)) (eu (au C__law_reads hr (@aa _ _ _ _ _ (pv 4) (@aa _ _ _ _ _ (pv 9) (@aa _ _ _ _ _ (pv 10) (@aa _ _ _ _ _ (pv 15) ab rfl) rfl) rfl) rfl)))) rfl (Or.inl rfl))
    (@aj _ _ _ (@bt _ _ _ _ _ _ _ _ (aL fV (au C_reads hr (@aa _ _ _ _ _ (pv 11) (@aa _ _ _ _ _ (pv 12) (@aa _ _ _ _ _ (pv 13) (@aa _ _ _ _ _ (pv 15) ab rfl) rfl) rfl) rfl)) (pv 16) (aF _)) (@aj _ _ _ (@aA _ _ _ _ dC)) aO))))))
    (@ah _ _ _ _ _ (@bt _ _ _ _ _ _ _ _ (aL (uz hr) (au C_first_words hr (@aa _ _ _ _ _ (pv 11) (@aa _ _ _ _ _ (pv 12) (@aa _ _ _ _ _ (pv 13) (@aa _ _ _ _ _ ae (@aa _ _ _ _ _ (@ai _ _ _ _ _ _ _ (aJ K) (pv 6) ae (fun _ _=>rfl)) ab rfl) rfl) rfl) rfl) rfl)) (fM (fE K) (pv 14) jR (dF (@ai _ _ _ _ _ _ _ (aJ K) (pv 6) ae (fun _ _=>rfl)))) (aF _)) (@aj _ _ _ (@aA _ _ _ _ dC)) aO)
    (@ah _ _ _ _ _ (@bt _ _ _ _ _ _ _ _ (aL (uz hr) (au C_first_words hr (@aa _ _ _ _ _ (pv 11) (@aa _ _ _ _ _ (pv 12) (@aa _ _ _ _ _ (pv 13) (@aa _ _ _ _ _ ae (@aa _ _ _ _ _ ae ab rfl) rfl) rfl) rfl) rfl)) (pv 14) (aF _)) (@aj _ _ _ (@aA _ _ _ _ dC)) aO)
    (@ah _ _ _ _ _ (@bt _ _ _ _ _ _ _ _ (aL bE (aU (cB K) rfl T.len_ PySem.boot_len (@aa _ _ _ _ _ (pv 14) ab rfl)) ae (aF _)) (@aj _ _ _ (@aA _ _ _ _ (fb (Cp hr) (au C_first_words hr (@aa _ _ _ _ _ (pv 11) (@aa _ _ _ _ _ (pv 12) (@aa _ _ _ _ _ (pv 13) (@aa _ _ _ _ _ ae (@aa _ _ _ _ _ ae ab rfl) rfl) rfl) rfl) rfl)) (@aR _ _ _ _ ab) (aF _)))) aO)
    (@aj _ _ _ (@aA _ _ _ _ (fb bE (au C_first_word hr (@aa _ _ _ _ _ (pv 11) (@aa _ _ _ _ _ (pv 12) (@aa _ _ _ _ _ (pv 13) ab rfl) rfl) rfl)) (@ai _ _ _ _ _ _ _ (aJ K) (pv 14) ae (fun _ _=>rfl)) (aF _))))))))))))))))))))),?_⟩
  walk_at "rd"
  refine iu (ha) hl (by decide) fun z=>?_
  walk_at "rd"
  refine⟨z,_,rfl,by decide,fun ll H1 L e1 hL h3 hLn hLr=>?_⟩
  obtain⟨SL,hSL⟩:=pO _ (pR h3 hLn hLr)
  walk_at "rd"
  refine iu (ha.ext e1) hl (by decide) fun z2=>?_
  walk_at "rd"
  refine⟨z2,_,rfl,by decide,fun v0 m0 ws0 H2 e2 hv0 ok0=>?_⟩
  walk_at "rd"
  refine⟨v0,m0,ws0,ll,L,rfl,hv0,ok0.house,fun w hw=>(ok0.ok w hw).sg.sg,e2 _ _ hL,h3,fun v1 H3 e3 hv1=>?_⟩
  have ok1:=ve ok0.house (fun w hw=>(ok0.ok w hw).sg.sg) h3 hLn hLr
  have hsig1:∀w∈ws0.map (Way.ren L),∃c∈L,w.sign=ch c:=fun w hw=>by
   obtain⟨w0,_,rfl⟩:=List.mem_map.mp hw
   exact⟨_,pA h3 (z:=w0.sign),rfl⟩
  generalize ws0.map (Way.ren L)=ws1 at hv1 ok1 hsig1
  have hL3:=(e2.trans e3) _ _ hL
  have e03:=e1.trans (e2.trans e3)
  clear hv0 ok0 e1 e2 e3 hL
  have m01:=ok1.m1
  have hfew1:=ok1.few
  obtain⟨p1a,t1,rfl,g1,g2⟩:=hv1
  obtain⟨bs1,g3,al1⟩:=bB.al g2
  walk_at "rd"
  refine aw (ag.of g1) (v:=.int m0) rfl ?_
  walk_at "rd"
  obtain⟨M,hM,M1,M4⟩:∃M:Int,(if m0<4 then m0 else 4)=M/\1<=M/\M<=4:=⟨_,rfl,by split<;>omega,by split<;>omega⟩
  rw[hM]
  refine aw (ag.of g1) (v:=.ref t1) rfl ?_
  refine dQ (ag.of g3) ?_
  refine eS (xs:=bs1.map V.ref) (fun i ys H'=>H'=H3/\∃cs,ys=cs.map V.ref/\aE H3 cs ((ws1.take i).filter (eT M))) (bG (by rw[List.length_map,al1.1];omega)) ⟨rfl,[],rfl,aE.nil _⟩ (fun i ys H' hi h=>⟨by rw[h.1];exact ag.of g3,?_⟩) ?_ ?_
  ·obtain⟨_,cs,rfl,hc,_⟩:=h
   rw[List.length_map,hc]
   refine Nat.le_trans (List.length_filter_le _ _) ?_
   rw[List.length_take]
   exact Nat.min_le_left _ _
  ·rintro i x ys H' hx ⟨rfl,cs,rfl,al2⟩
   rw[List.getElem?_map]at hx
   obtain⟨bb,hbb,rfl⟩:=Option.map_eq_some_iff.mp hx
   have hi:i<ws1.length:=by
    rw[←al1.1]
    exact(List.getElem?_eq_some_iff.mp hbb).1
   have hwi:ws1[i]?=some ws1[i]:=List.getElem?_eq_getElem hi
   have hw:=al1.2 i bb _ hbb hwi
   rw[me hwi]
   walk_at "rd"
   refine aw (ag.of hw) (v:=.int ws1[i].room) rfl ?_
   walk_at "rd"
   refine aw (ag.of hw) (v:=.int ws1[i].other) rfl ?_
   walk_at "rd"
   rw[show decide ((if ws1[i].other>ws1[i].room then ws1[i].other else ws1[i].room)<M)=eT M ws1[i]from rfl]
   cases hs:eT M ws1[i]with
   | true=>
    refine aD ?_
    walk_at "rd"
    exact⟨rfl,cs++[bb],by rw[List.map_append];rfl,al2.snoc hw⟩
   | false=>
    refine ay ?_
    exact⟨rfl,cs,rfl,by rw[show (if false=true then[ws1[i]]else([]:List Way))=[]from rfl,List.append_nil];exact al2⟩
  rintro ys H' lb ⟨rfl,cs,rfl,al2⟩ hlb
  rw[List.length_map,al1.1,List.take_length]at al2
  have e4:Ext H' (upd H' lb (.lst (cs.map V.ref))):=aX hlb
  have hl4:upd H' lb (.lst (cs.map V.ref)) lb=some (.lst (cs.map V.ref)):=aI
  have al3:=al2.ext e4
  generalize upd H' lb (.lst (cs.map V.ref))=H4 at e4 hl4 al3 ⊢
  walk_at "rd"
  refine fQ (af.of hl4) (ao fun l5 H5 e5 hl5 _=>?_)
  rw[show (some (12:Int))=some ((12:Nat):Int)from rfl,j7,←List.map_take]at hl5
  walk_at "rd"
  refine fL (af.of hl5) (ao fun t6 H6 e6 ht6 _=>?_)
  walk_at "rd"
  refine⟨av (by simp),ao fun hh H7 e7 hhh _=>?_⟩
  have hv7:aM H7 (.ref hh) M (dH M 12 ws1):=aM.mk hhh (((((al3.take 12).ext e5).ext e6).ways ht6).ext e7)
  have ok:=nG ok1 M1 (show M<=12 by omega) (show 12<=100 by decide)
  have hwl:=sP M 12 ws1
  have hsig:∀w∈dH M 12 ws1,∃c∈L,w.sign=ch c:=fun w hw=>hsig1 w (kP hw).1
  generalize dH M 12 ws1=ws at hv7 ok hwl hsig
  have e37:=e4.trans (e5.trans (e6.trans e7))
  have hL7:=e37 _ _ hL3
  have e07:=e03.trans e37
  clear hM hsig1 ok1 g1 g2 g3 al1 al2 al3 hl4 hl5 ht6 hhh e4 e5 e6 e7 e37 e03 hL3 hlb hfew1 m01
  walk_at "rd"
  refine iu (ha.ext e07) hl (by decide) fun z3=>?_
  walk_at "rd"
  refine⟨z3,_,rfl,by decide,fun v0 n0 us0 H8 e8 hv0 ok0 hst0=>?_⟩
  walk_at "rd"
  refine⟨v0,n0,us0,ll,L,rfl,hv0,ok0.house,fun w hw=>(ok0.ok w hw).sg.sg,e8 _ _ hL7,h3,fun v1 H9 e9 hv1=>?_⟩
  have ok1:=ve ok0.house (fun w hw=>(ok0.ok w hw).sg.sg) h3 hLn hLr
  have hst1:∀w∈us0.map (Way.ren L),w.deed = "stay":=fun w hw=>by
   obtain⟨w0,h0,rfl⟩:=List.mem_map.mp hw
   exact hst0 w0 h0
  generalize us0.map (Way.ren L)=us1 at hv1 ok1 hst1
  have e79:=e8.trans e9
  have hv9:=hv7.ext e79
  have hL9:=e79 _ _ hL7
  have e09:=e07.trans e79
  clear hv0 ok0 e8 e9 hst0 hv7 hL7 e07 e79
  have m01:=ok1.m1
  have hfew1:=ok1.few
  obtain⟨p1b,t1,rfl,g1,g2⟩:=hv1
  obtain⟨bs1,g3,al1⟩:=bB.al g2
  walk_at "rd"
  refine aw (ag.of g1) (v:=.int n0) rfl ?_
  walk_at "rd"
  obtain⟨N,hN,N1,N3⟩:∃N:Int,(if n0<3 then n0 else 3)=N/\1<=N/\N<=3:=⟨_,rfl,by split<;>omega,by split<;>omega⟩
  rw[hN]
  refine aw (ag.of g1) (v:=.ref t1) rfl ?_
  refine dQ (ag.of g3) ?_
  refine eS (xs:=bs1.map V.ref) (fun i ys H'=>H'=H9/\∃cs,ys=cs.map V.ref/\aE H9 cs ((us1.take i).filter (eT N))) (bG (by rw[List.length_map,al1.1];omega)) ⟨rfl,[],rfl,aE.nil _⟩ (fun i ys H' hi h=>⟨by rw[h.1];exact ag.of g3,?_⟩) ?_ ?_
  ·obtain⟨_,cs,rfl,hc,_⟩:=h
   rw[List.length_map,hc]
   refine Nat.le_trans (List.length_filter_le _ _) ?_
   rw[List.length_take]
   exact Nat.min_le_left _ _
  ·rintro i x ys H' hx ⟨rfl,cs,rfl,al2⟩
   rw[List.getElem?_map]at hx
   obtain⟨bb,hbb,rfl⟩:=Option.map_eq_some_iff.mp hx
   have hi:i<us1.length:=by
    rw[←al1.1]
    exact(List.getElem?_eq_some_iff.mp hbb).1
   have hwi:us1[i]?=some us1[i]:=List.getElem?_eq_getElem hi
   have hw:=al1.2 i bb _ hbb hwi
   rw[me hwi]
   walk_at "rd"
   refine aw (ag.of hw) (v:=.int us1[i].room) rfl ?_
   walk_at "rd"
   refine aw (ag.of hw) (v:=.int us1[i].other) rfl ?_
   walk_at "rd"
   rw[show decide ((if us1[i].other>us1[i].room then us1[i].other else us1[i].room)<N)=eT N us1[i]from rfl]
   cases hs:eT N us1[i]with
   | true=>
    refine aD ?_
    walk_at "rd"
    exact⟨rfl,cs++[bb],by rw[List.map_append];rfl,al2.snoc hw⟩
   | false=>
    refine ay ?_
    exact⟨rfl,cs,rfl,by rw[show (if false=true then[us1[i]]else([]:List Way))=[]from rfl,List.append_nil];exact al2⟩
  rintro ys H' lb ⟨rfl,cs,rfl,al2⟩ hlb
  rw[List.length_map,al1.1,List.take_length]at al2
  have e4:Ext H' (upd H' lb (.lst (cs.map V.ref))):=aX hlb
  have hl4:upd H' lb (.lst (cs.map V.ref)) lb=some (.lst (cs.map V.ref)):=aI
  have al3:=al2.ext e4
  generalize upd H' lb (.lst (cs.map V.ref))=H4 at e4 hl4 al3 ⊢
  walk_at "rd"
  refine fQ (af.of hl4) (ao fun l5 H5 e5 hl5 _=>?_)
  rw[show (some (8:Int))=some ((8:Nat):Int)from rfl,j7,←List.map_take]at hl5
  walk_at "rd"
  refine fL (af.of hl5) (ao fun t6 H6 e6 ht6 _=>?_)
  walk_at "rd"
  refine⟨av (by simp),ao fun bh H7 e7 hhh _=>?_⟩
  have hb7:aM H7 (.ref bh) N (dH N 8 us1):=aM.mk hhh (((((al3.take 8).ext e5).ext e6).ways ht6).ext e7)
  have ok':=nG ok1 N1 (show N<=12 by omega) (show 8<=100 by decide)
  have hul:=sP N 8 us1
  have hst:∀w∈dH N 8 us1,w.deed = "stay":=fun w hw=>hst1 w (kP hw).1
  generalize dH N 8 us1=us at hb7 ok' hul hst
  have e97:=e4.trans (e5.trans (e6.trans e7))
  have hL7:=e97 _ _ hL9
  have hv7:=hv9.ext e97
  have e07:=e09.trans e97
  clear hN ok1 g1 g2 g3 al1 al2 al3 hl4 hl5 ht6 hhh e4 e5 e6 e7 e97 e09 hL9 hlb hfew1 m01 hst1 hv9
  walk_at "rd"
  refine iu (ha.ext e07) hl (by decide) fun z4=>?_
  walk_at "rd"
  refine⟨av (by simp),ao fun w0 G1 f1 hw0 _=>?_⟩
  walk_at "rd"
  refine fq [12,12,12,12,30] hw0 (by decide) (by decide) (by decide) fun dq ds H8 e8 hd _ hdl hdb=>?_
  have hdl7:ds.length=5:=hdl
  match ds,hdl7 with
  | [d0,d1,d2,d3,d4],_=>
  have b4:=hdb 4 d4 30 rfl rfl
  have e78:=f1.trans e8
  have e08:=e07.trans e78
  have hv8:=hv7.ext e78
  have hb8:=hb7.ext e78
  have hL8:=e78 _ _ hL7
  clear hdb hdl hw0 f1 e8 hv7 hb7 hL7 e07 e78
  walk_at "rd"
  generalize hσ:List.set _ 6 (some (V.ref dq))=σ0
  obtain rfl:σ0=[some (.ref a),some (.ref ll),some (.ref hh),some (.int M),some (.ref bh),some (.int N),some (.ref dq),none,none,none,none,none,none,none,none,none,none,none,none,none]:=hσ.symm
  refine aK (af.of hd) (v:=.int d0) rfl ?_
  walk_at "rd"
  try refine rd_I (show(0:Int)<M by omega) ?_
  walk_at "rd"
  refine aK (af.of hd) (v:=.int d1) rfl ?_
  walk_at "rd"
  try refine rd_I (show(0:Int)<M by omega) ?_
  walk_at "rd"
  refine aK (af.of hd) (v:=.int d2) rfl ?_
  walk_at "rd"
  try refine rd_I (show(0:Int)<N by omega) ?_
  walk_at "rd"
  refine aK (af.of hd) (v:=.int d3) rfl ?_
  walk_at "rd"
  try refine rd_I (show(0:Int)<N by omega) ?_
  walk_at "rd"
  have p0:0<=d0 % M:=Int.emod_nonneg _ (by omega)
  have p1:d0 % M<M:=Int.emod_lt_of_pos _ (by omega)
  have q0:0<=d1 % M:=Int.emod_nonneg _ (by omega)
  have q1:d1 % M<M:=Int.emod_lt_of_pos _ (by omega)
  have s0:0<=d2 % N:=Int.emod_nonneg _ (by omega)
  have s1:d2 % N<N:=Int.emod_lt_of_pos _ (by omega)
  have t0:0<=d3 % N:=Int.emod_nonneg _ (by omega)
  have t1:d3 % N<N:=Int.emod_lt_of_pos _ (by omega)
  generalize d0 % M=p at p0 p1 ⊢
  generalize d1 % M=qq at q0 q1 ⊢
  generalize d2 % N=s at s0 s1 ⊢
  generalize d3 % N=t at t0 t1 ⊢
  refine⟨av (by simp),ao fun u9 H9 e9 hu9 _=>?_⟩
  walk_at "rd"
  refine dX (ag.of hu9) rfl ?_
  walk_at "rd"
  have hMN:M*N<=4*3:=Int.mul_le_mul M4 N3 (by omega) (by decide)
  have hlen:ws.length*us.length<=12*8:=Nat.mul_le_mul hwl hul
  refine⟨_,M,ws,_,N,us,rfl,hv8.ext e9,ok,hb8.ext e9,ok',hst,hMN,by omega,fun vb H10 e10 hvb=>?_⟩
  have okb:=xo ok ok' hst hMN (by omega)
  have hread:=fun cs=>wz (ws:=ws) (p:=p) (q:=qq) ok' hst s0 s1 t0 t1 cs
  have hsigb:∀w∈bZ N us ws,∃c∈L,w.sign=ch c:=fun w hw=>by
   obtain⟨w1,hw1,o,_,_,rfl⟩:=j1.mp hw
   exact hsig w1 hw1
  obtain⟨G,hG⟩:=pO _ okb
  have hGS:∀c∈G,c∈SL:=fun c hc=>by
   obtain⟨w,hw,e⟩:=(hG.mem c).mp hc
   obtain⟨c',hc',e'⟩:=hsigb w hw
   rw[dj (e.symm.trans e')]
   exact(uY hSL c').mpr hc'
  have key:∀{r s:Int},0<=r->r<M->0<=s->s<N->0<=r*N+s/\r*N+s<M*N:=fun{r s} r0 r1 s0 s1=>by
   have h1:0<=r*N:=Int.mul_nonneg r0 (by omega)
   have h2:(r+1)*N<=M*N:=Int.mul_le_mul_of_nonneg_right (by omega) (by omega)
   rw[Int.add_mul,Int.one_mul]at h2
   omega
  have hlo:=key p0 p1 s0 s1
  have hhi:=key q0 q1 t0 t1
  have e810:=e9.trans e10
  have hd10:=e810 _ _ hd
  have hv10:=hv8.ext e810
  have hb10:=hb8.ext e810
  have hL10:=e810 _ _ hL8
  have e010:=e08.trans e810
  generalize bZ N us ws=bw at hvb okb hread hG hsigb
  clear e9 e10 hu9 hd hv8 hb8 hL8 e08 e810 hsigb hlen hsig key
  walk_at "rd"
  try refine rd_I (.inl ⟨by omega,by omega⟩) ?_
  walk_at "rd"
  try refine rd_I (.inl ⟨by omega,by omega⟩) ?_
  walk_at "rd"
  generalize p*N+s=lo at hlo hread ⊢
  generalize qq*N+t=hi at hhi hread ⊢
  generalize M*N=MN at hlo hhi okb hvb hMN
  obtain⟨bb,tt,rfl,_,_⟩:=id hvb
  refine⟨av (by simp),ao fun ld H11 e11 hld hldn=>?_⟩
  have hall:=xG okb hlo.1 hlo.2 hhi.1 hhi.2 hG hSL.up hGS 5
  have hacc:=fun cs=>vT okb hlo.1 hlo.2 hhi.1 hhi.2 cs
  have hW:(cX SL 5).length<=121:=by
   have h3':=pT h3 hSL
   rw[fA,fA,fA,fA,fA,List.length_append,List.length_append,List.length_append,List.length_append,List.length_append,show cX SL 0=[]from rfl]
   have f0:=fy h3' 0
   have f1:=fy h3' 1
   have f2:=fy h3' 2
   have f3:=fy h3' 3
   have f4:=fy h3' 4
   simp only[List.length_nil]
   omega
  have hWs:∀cs∈cX SL 5,cs.length<=5:=fun cs hcs=>by
   obtain⟨e,he,h⟩:=List.mem_flatMap.mp hcs
   have:=List.mem_range.mp he
   rw[lu e cs h]
   omega
  walk_at "rd"
  generalize hσ:List.set _ 14 (some (V.ref ld))=σ0
  obtain rfl:σ0=[some (.ref a),some (.ref ll),some (.ref hh),some (.int M),some (.ref bh),some (.int N),some (.ref dq),some (.int p),some (.int qq),some (.int s),some (.int t),some (.ref bb),some (.int lo),some (.int hi),some (.ref ld),none,none,none,none,none]:=hσ.symm
  refine⟨4,ll,L,SL,rfl,by decide,e11 _ _ hL10,h3,hLn,hLr,hSL,fun lw H12 e12 hlw=>?_⟩
  have hW0:cX SL 5≠[]:=List.ne_nil_of_mem (List.mem_flatMap.mpr ⟨0,List.mem_range.mpr (by decide),List.mem_singleton.mpr rfl⟩)
  generalize cX SL 5=W at hall hW hWs hlw hW0
  have hld12:=e12 _ _ hld
  have hlwd:lw≠ld:=fun y=>by
   rw[y,hld12]at hlw
   have:([]:List V)=bK W:=HO.lst.inj (Option.some.inj hlw)
   exact hW0 (List.map_eq_nil_iff.mp this.symm)
  have e1012:=e11.trans e12
  clear e11 e12 hld hW0
  refine cC (af.of hlw) ?_
  refine forL (xs:=bK W) (fun i σ H'=>∃k1 k2 k3,σ=[some (.ref a),some (.ref ll),some (.ref hh),some (.int M),some (.ref bh),some (.int N),some (.ref dq),some (.int p),some (.int qq),some (.int s),some (.int t),some (.ref bb),some (.int lo),some (.int hi),some (.ref ld),k1,k2,k3,none,none]/\Ext H10 H'/\H' lw=some (.lst (bK W))/\H' ld=some (.lst (bK ((W.take i).filter (aT bw MN lo hi 0))))) ⟨none,none,none,rfl,e1012,hlw,hld12⟩ (fun i σ H' _ h=>by obtain⟨_,_,_,_,_,h,_⟩:=h;exact af.of h) ?_ ?_
  ·clear hlw hld12 e1012
   rintro i x σ H13 hx ⟨k1,k2,k3,rfl,e13,hlw,hld⟩
   rw[List.getElem?_map]at hx
   obtain⟨cs,hcs,rfl⟩:=Option.map_eq_some_iff.mp hx
   have hcl:=hWs cs (List.mem_of_getElem? hcs)
   have hcz:(tw cs).cps.size<=200:=by
    show cs.toArray.size<=200
    rw[List.size_toArray]
    omega
   walk_at "rd"
   refine⟨_,M,ws,p,qq,tw cs,rfl,hv10.ext e13,ok,p0,p1,q0,q1,hcz,fun b1 H14 e14 hb1=>?_⟩
   show ∃k,V.bl b1=V.bl k/\_
   refine oW (fun cb H'=>Ext H13 H'/\(cb=true↔RP bw lo cs (hi,0))) (fun hb K' hK'=>?_) (fun hb=>⟨e14,?_⟩) (fun cb H15 h=>?_)
   ·walk_at "rd"
    exact⟨_,N,us,s,t,tw cs,rfl,hb10.ext (e13.trans e14),ok',s0,s1,t0,t1,hcz,fun b2 H' e' hb2=>hK' b2 H' ⟨e14.trans e',by rw[hb2,hread cs];exact⟨fun h=>⟨hb1.mp hb,h⟩,fun h=>h.2⟩⟩⟩
   ·rw[hread cs]
    exact⟨fun h=>(by cases h),fun h=>(by rw[hb]at hb1;exact absurd (hb1.mpr h.1) (by decide))⟩
   obtain⟨e15,hcb⟩:=h
   rw[←hacc cs]at hcb
   obtain rfl:cb=aT bw MN lo hi 0 cs:=Bool.eq_iff_iff.mpr hcb
   clear hcb hb1 e14
   have e1015:=e13.trans e15
   walk_at "rd"
   refine⟨_,MN,bw,lo,hi,tw cs,rfl,hvb.ext e1015,okb,hlo.1,hlo.2,hhi.1,hhi.2,hcz,fun H16 e16=>?_⟩
   rw[show gM MN bw lo hi (tw cs).cps.toList=aT bw MN lo hi 0 cs from Bool.eq_iff_iff.mpr ((tq okb hlo.1 hlo.2 hhi.1 hhi.2 cs).trans (hacc cs).symm)]
   rw[wF hcs]
   have e1016:=e1015.trans e16
   have hlw16:=(e15.trans e16) _ _ hlw
   have hld16:=(e15.trans e16) _ _ hld
   have hfl:((W.take i).filter (aT bw MN lo hi 0)).length<=243:=by
    refine Nat.le_trans (List.length_filter_le _ _) ?_
    rw[List.length_take]
    omega
   generalize (W.take i).filter (aT bw MN lo hi 0)=F at hld16 hfl
   generalize hcc:aT bw MN lo hi 0 cs=cc
   clear hlw hld e15 e16 e1015
   walk_at "rd"
   refine fm (n:="bool") (b:=true) rfl rfl ?_
   walk_at "rd"
   refine ay ?_
   walk_at "rd"
   rw[show (!(cc == cc))=false by simp]
   refine ay ?_
   walk_at "rd"
   refine bO ?_
   walk_at "rd"
   cases cc with
   | true=>
    refine aD ?_
    walk_at "rd"
    refine⟨cy (af.of hld16),?_⟩
    walk_at "rd"
    refine bH hld16 (cm (by rw[List.length_map];omega)) ?_
    walk_at "rd"
    refine⟨_,_,_,rfl,bJ e1016 hldn,by rw[aG hlwd];exact hlw16,?_⟩
    rw[aI]
    unfold bK
    rw[List.map_append]
    rfl
   | false=>
    refine ay ?_
    walk_at "rd"
    refine⟨_,_,_,rfl,e1016,hlw16,?_⟩
    rw[show (if false=true then[cs]else([]:List (List Nat)))=[]from rfl,List.append_nil]
    exact hld16
  ·clear hlw hld12 e1012
   rintro σ H13 ⟨k1,k2,k3,rfl,e13,hlw,hld⟩
   rw[List.length_map,List.take_length,hall]at hld
   have hdl:(cp bw MN lo hi G 5).length<=121:=by
    rw[←hall]
    exact Nat.le_trans (List.length_filter_le _ _) hW
   have hd13:=e13 _ _ hd10
   have hv13:=hv10.ext e13
   have hb13:=hb10.ext e13
   have hvb13:=hvb.ext e13
   have hL13:=e13 _ _ hL10
   have e013:=e010.trans e13
   clear hall hlw hWs hW hlwd hldn e13 hd10 hv10 hb10 hvb hL10 e010 hacc
   walk_at "rd"
   refine cV ⟨by decide,by decide⟩ ?_
   refine forR (fun i σ H'=>∃k1 k2 k3 k4 k5,σ=[some (.ref a),some (.ref ll),some (.ref hh),some (.int M),some (.ref bh),some (.int N),some (.ref dq),some (.int p),some (.int qq),some (.int s),some (.int t),some (.ref bb),some (.int lo),some (.int hi),some (.ref ld),k1,k2,k3,k4,k5]/\Ext H13 H') ⟨k1,k2,k3,none,none,rfl,Ext.rfl' _⟩ ?_ ?_
   ·rintro i σ H14 hi8 ⟨k1,k2,k3,k4,k5,rfl,e14⟩
    walk_at "rd"
    refine iu (ha.ext (e013.trans e14)) hl (by omega) fun z5=>?_
    walk_at "rd"
    refine⟨av (by simp),ao fun w0 G1 f1 hw0 _=>?_⟩
    walk_at "rd"
    refine⟨av (by simp),ao fun w1 G2 f2 hw1 _=>?_⟩
    walk_at "rd"
    refine iO hw1 (by omega) (av (by decide)) (ao fun w2 G3 f3 hw2 _=>?_)
    walk_at "rd"
    refine iy ((f2.trans f3) _ _ hw0) hw2 (av (by decide)) (ao fun w3 G4 f4 hw3 _=>?_)
    walk_at "rd"
    refine fq (13::List.replicate 12 3) hw3 (by decide) (by decide) (by decide) fun dr es H15 e15 hdr _ hel heb=>?_
    have hel13:es.length=13:=hel
    obtain⟨x0,gx0,x00,x01⟩:=b6 hel heb 0 rfl
    have e1315:=e14.trans (f1.trans (f2.trans (f3.trans (f4.trans e15))))
    clear hw0 hw1 hw2 hw3 f1 f2 f3 f4 e15 e14
    walk_at "rd"
    refine⟨rfl,?_⟩
    walk_at "rd"
    refine aK (af.of hdr) gx0 ?_
    walk_at "rd"
    refine fQ (af.of hdr) (ao fun l16 H16 e16 hl16 _=>?_)
    obtain⟨ys,hys,hyl,hyb⟩:∃ys:List Int,cY (es.map V.int) (some 1) (some (1+x0))=ys.map V.int/\ys.length<=13/\∀y∈ys,0<=y/\y<3:=by
     refine⟨(es.drop 1).take ((1+x0).toNat-1),?_,?_,fun y hy=>?_⟩
     ·rw[show (some (1:Int))=some ((1:Nat):Int)from rfl,show (1+x0)=(((1+x0).toNat:Nat):Int) by omega]
      unfold cY
      rw[HT.fN,HT.fN,List.length_map,Nat.min_eq_left (by omega),Nat.min_eq_left (by omega),←List.map_drop,←List.map_take,Int.toNat_natCast]
     ·rw[List.length_take,List.length_drop]
      omega
     ·obtain⟨j,hj1⟩:=List.getElem?_of_mem (List.mem_of_mem_take hy)
      rw[List.getElem?_drop]at hj1
      have hjl:1+j<13:=by
       have:=(List.getElem?_eq_some_iff.mp hj1).1
       omega
      exact heb (1+j) y 3 hj1 (by rw[Nat.add_comm,List.getElem?_cons_succ,List.getElem?_replicate,if_pos (by omega)])
    rw[hys]at hl16
    walk_at "rd"
    refine cC (af.of hl16) ?_
    refine gj (xs:=ys.map V.int) (fun j vs H'=>H'=H16/\∃zs:List Str,vs=zs.map V.str/\zs.length=j/\∀z∈zs,z.length=1) (bG (by rw[List.length_map];omega)) ⟨rfl,[],rfl,rfl,fun z hz=>by cases hz⟩ (fun j vs H' _ h=>⟨by rw[h.1];exact af.of hl16,by obtain⟨_,zs,rfl,h,_⟩:=h;rw[List.length_map];omega⟩) ?_ ?_
    ·rintro j y vs H' hy ⟨rfl,zs,rfl,hzl,hz1⟩
     rw[List.getElem?_map]at hy
     obtain⟨yi,hyi,rfl⟩:=Option.map_eq_some_iff.mp hy
     obtain⟨y0,y3⟩:=hyb yi (List.mem_of_getElem? hyi)
     have hLy:L[yi.toNat]?=some L[yi.toNat]:=List.getElem?_eq_getElem (by omega)
     walk_at "rd"
     refine aD ?_
     walk_at "rd"
     refine aK (af.of ((e1315.trans e16) _ _ hL13)) (v:=.str ⟨#[L[yi.toNat]]⟩) (ic y0 (by rw[cJ,List.getElem?_map,hLy];rfl)) ?_
     refine⟨rfl,zs++[⟨#[L[yi.toNat]]⟩],by rw[List.map_append];rfl,by rw[List.length_append,hzl];rfl,fun z hz=>?_⟩
     rcases List.mem_append.mp hz with h | h
     ·exact hz1 z h
     ·rw[List.mem_singleton]at h
      subst h
      rfl
    rintro vs H' l17 ⟨rfl,zs,rfl,hzl,hz1⟩ hl17
    rw[List.length_map]at hzl
    have hsum:=Az hz1
    have hjl:=BG zs
    walk_at "rd"
    refine⟨l17,zs,congrArg V.str (by decide +kernel),rfl,af.of aI,by rw[hsum,hzl];omega,?_⟩
    rw[hsum,hzl]at hjl
    have e17:Ext H' (upd H' l17 (.lst (zs.map V.str))):=aX hl17
    generalize upd H' l17 (.lst (zs.map V.str))=H17 at e17 ⊢
    generalize Txt.join ⟨#[]⟩ zs=fr at hjl ⊢
    have hfr:fr.cps.size<=200:=by
     have:fr.length=fr.cps.size:=rfl
     omega
    have e1317:=e1315.trans (e16.trans e17)
    clear hsum hz1 hzl hys hl16 hyb hdr gx0 e1315 e16 e17
    walk_at "rd"
    refine⟨_,M,ws,p,qq,fr,rfl,hv13.ext e1317,ok,p0,p1,q0,q1,hfr,fun b1 H18 e18 hb1=>?_⟩
    show ∃k,V.bl b1=V.bl k/\_
    refine oW (fun cb H'=>Ext H17 H'/\(cb=true↔RP bw lo fr.cps.toList (hi,0))) (fun hb K' hK'=>?_) (fun hb=>⟨e18,?_⟩) (fun cb H19 h=>?_)
    ·walk_at "rd"
     exact⟨_,N,us,s,t,fr,rfl,hb13.ext (e1317.trans e18),ok',s0,s1,t0,t1,hfr,fun b2 H' e' hb2=>hK' b2 H' ⟨e18.trans e',by rw[hb2,hread];exact⟨fun h=>⟨hb1.mp hb,h⟩,fun h=>h.2⟩⟩⟩
    ·rw[hread]
     exact⟨fun h=>(by cases h),fun h=>(by rw[hb]at hb1;exact absurd (hb1.mpr h.1) (by decide))⟩
    obtain⟨e19,hcb⟩:=h
    walk_at "rd"
    refine⟨_,MN,bw,lo,hi,fr,rfl,hvb13.ext (e1317.trans e19),okb,hlo.1,hlo.2,hhi.1,hhi.2,hfr,fun H20 e20=>?_⟩
    obtain rfl:gM MN bw lo hi fr.cps.toList=cb:=Bool.eq_iff_iff.mpr ((tq okb hlo.1 hlo.2 hhi.1 hhi.2 _).trans hcb.symm)
    walk_at "rd"
    generalize gM MN bw lo hi fr.cps.toList=cc
    rw[show (!(cc == cc))=false by simp]
    refine ay ?_
    walk_at "rd"
    exact⟨_,_,_,_,_,rfl,e1317.trans (e19.trans e20)⟩
   ·rintro σ H14 ⟨k1,k2,k3,k4,k5,rfl,e14⟩
    obtain⟨kd,rfl⟩:∃kd:Nat,d4=(kd:Int):=⟨d4.toNat,by omega⟩
    have hfw:∀k,bM bw MN lo hi G k 5=(cp bw MN lo hi G 5).take k:=fun k=>mx okb hlo.1 hlo.2 hhi.1 hhi.2 hG 5
    have hGc:=xq okb hG
    have hdc:∀cs∈cp bw MN lo hi G 5,∀c∈cs,c<=122:=fun cs hcs c hc=>by
     obtain⟨e,_,h⟩:=List.mem_flatMap.mp hcs
     exact hGc c (pN okb hlo.1 hlo.2 hhi.1 hhi.2 e cs (List.mem_filter.mp h).1 c hc)
    have hdue:=fun hne=>Co okb hlo.1 hlo.2 hhi.1 hhi.2 hG (n:=5) (k:=200) (by decide) hne
    have hdc':∀k:Nat,∀cs∈(cp bw MN lo hi G 5).take k,∀c∈cs,c<=122:=fun k cs hcs=>hdc cs (List.mem_of_mem_take hcs)
    have hle200:(cp bw MN lo hi G 5).length<=200:=by omega
    rw[hfw,List.take_of_length_le hle200]at hdue
    have hfw200:=hfw 200
    rw[List.take_of_length_le hle200]at hfw200
    generalize cp bw MN lo hi G 5=A at hld hdl hfw hdc hdue hdc' hfw200 hle200
    have hld14:=e14 _ _ hld
    have hd14:=e14 _ _ hd13
    have hvb14:=hvb13.ext e14
    clear hld hd13 hvb13 e14 hread hv13 hb13 hL13 e013
    walk_at "rd"
    refine aK (af.of hd14) (v:=.int (kd:Int)) rfl ?_
    walk_at "rd"
    refine⟨_,MN,bw,lo,hi,4,kd,G,rfl,hvb14,okb,hlo.1,hlo.2,hhi.1,hhi.2,hG,by decide,by omega,fun lw H15 e15 _ hlw=>?_⟩
    rw[hfw]at hlw
    walk_at "rd"
    refine aK (af.of (e15 _ _ hd14)) (v:=.int (kd:Int)) rfl ?_
    walk_at "rd"
    refine fQ (af.of (e15 _ _ hld14)) (ao fun l16 H16 e16 hl16 _=>?_)
    rw[j7,←List.map_take]at hl16
    walk_at "rd"
    refine⟨1,1,_,_,gG (e16 _ _ hlw) (hdc' kd),gG hl16 (hdc' kd),by decide,?_⟩
    rw[lK]
    refine rd_exb (ay ?_)
    have e1416:=e15.trans e16
    clear e15 e16 hl16 hlw
    walk_at "rd"
    refine⟨_,MN,bw,lo,hi,4,200,G,rfl,hvb14.ext e1416,okb,hlo.1,hlo.2,hhi.1,hhi.2,hG,by decide,by decide,fun lw H17 e17 _ hlw=>?_⟩
    rw[hfw200]at hlw
    have e1417:=e1416.trans e17
    walk_at "rd"
    refine⟨1,1,_,_,gG hlw hdc,gG (e1417 _ _ hld14) hdc,by decide,?_⟩
    rw[lK]
    refine rd_exb (ay ?_)
    clear hlw e17 e1416
    walk_at "rd"
    refine dg (af.of (e1417 _ _ hld14)) ?_
    walk_at "rd"
    rw[List.length_map]
    by_cases hne:A=[]
    ·subst hne
     refine aD ?_
     walk_at "rd"
     refine⟨_,MN,bw,lo,hi,4,1,G,rfl,hvb14.ext e1417,okb,hlo.1,hlo.2,hhi.1,hhi.2,hG,by decide,by decide,fun lw H18 e18 _ hlw=>?_⟩
     rw[hfw]at hlw
     walk_at "rd"
     refine⟨av (by simp),ao fun l19 H19 e19 hl19 _=>?_⟩
     walk_at "rd"
     refine⟨1,1,_,_,gG (e19 _ _ hlw) (fun cs hcs=>by cases hcs),gG (A:=[]) hl19 (fun cs hcs=>by cases hcs),by decide,?_⟩
     rw[show (List.take 1 ([]:List (List Nat)))=[]from rfl,lK]
     exact q _
    ·rw[decide_eq_false (show ¬((A.length:Nat):Int)=0 by have:=List.length_pos_iff.mpr hne;omega)]
     refine ay ?_
     obtain⟨d,hd,hd1⟩:=hdue hne
     walk_at "rd"
     refine⟨_,MN,bw,lo,hi,G,rfl,hvb14.ext e1417,okb,hlo.1,hlo.2,hhi.1,hhi.2,hG,fun hno=>absurd hd (hno d),fun d2 H18 cs hd2 _ e18 hcs=>?_⟩
     obtain rfl:=Bfs.cz.uniq (nx:=bD bw (bN MN (lo,0) (hi,0))) (s:=(lo,0)) hd2 hd
     have hF0:=hd1 cs hcs
     walk_at "rd"
     refine aK (af.of ((e1417.trans e18) _ _ hld14)) (v:=.str (tw cs)) (dh (j:=0) (by rw[List.getElem?_map,hF0];rfl)) ?_
     walk_at "rd"
     refine bz ?_
     rw[decide_eq_true rfl]
     exact q _
abbrev Dq(K:PySem.W.Frag)(mg:Str->Option Value)(x:Str)(st:Stmt):Prop:=∃(f:Addr) (fd:FuncData),mg x=some (.ref f)/\Fun K x x st f fd
theorem dq{K:PySem.W.Frag}{h:Heap}{mg:Str->Option Value}(X:K.In h)(G:h.Ns mainGlobals mg){x:Str}{st:Stmt}{f:Addr}{od an:Option Addr}{sl:Array (Option Value)}{oc kV dc pm cd ct:Value}(a:PySem.W.nsIn K mainGlobals x=some (some (.ref f)))(l:K.lookup f=some ⟨oc,od,.func (PySem.W.fnOf x x (fK st) (eE st) (aC st) .none kV dc pm an cd ct),sl⟩)(c:PySem.W.codeIn K cd x=true)(k:PySem.W.keepIn K (.ref f)=true):Dq K mg x st:=⟨f,_,PySem.W.mg_of X G a,nE (st:=st) l c k⟩
theorem all_mk{l:PySem.W.OpenLaw}{w:World}{K:PySem.W.Frag}{h:Heap}{mg:Str->Option Value}{fa:Addr}(X:K.In h)(G:h.Ns mainGlobals mg)(hfa:mg "law" = some (.ref fa))
  (d0:Dq K mg "share_one" iU)
  (d1:Dq K mg "led_bits" jg)
  (d2:Dq K mg "led_on" iE)
  (d3:Dq K mg "longer_beginnings" jC)
  (d4:Dq K mg "alone_at_zero" kD)
  (d5:Dq K mg "ways_of_sign" kf)
  (d6:Dq K mg "ways_by_sign" jZ)
  (d7:Dq K mg "words_of_length" jE)
  (d8:Dq K mg "turned_way" kn)
  (d9:Dq K mg "is_sign" ji)
  (d10:Dq K mg "is_deed" iR)
  (d11:Dq K mg "is_whole" jW)
  (d12:Dq K mg "is_room" iM)
  (d13:Dq K mg "is_way" i8)
  (d14:Dq K mg "are_ways" jG)
  (d15:Dq K mg "is_house" iQ)
  (d16:Dq K mg "refuse_no_house" kE)
  (d17:Dq K mg "turned_about" jM)
  (d18:Dq K mg "places_to_end" jV)
  (d19:Dq K mg "walk_back" ke)
  (d20:Dq K mg "is_open" jN)
  (d21:Dq K mg "raised_by" jq)
  (d22:Dq K mg "led_to" i9)
  (d23:Dq K mg "counts_by_room" iI)
  (d24:Dq K mg "greatest_met" kz)
  (d25:Dq K mg "found_from" j5)
  (d26:Dq K mg "sought_walk" jI)
  (d27:Dq K mg "refuse_bad_places" jl)
  (d28:Dq K mg "shortest" jS)
  (d29:Dq K mg "refuse_bad_rooms" jo)
  (d30:Dq K mg "first_word" iW)
  (d31:Dq K mg "first_words" iK)
  (d32:Dq K mg "reads" kx)
  (d33:Dq K mg "_law_behind" iZ)
  (d34:Dq K mg "_law_reads" kF)
  (d35:Dq K mg "_law_mixed" jt)
  (d36:Dq K mg "_law_draws" jn)
  (d37:Dq K mg "_law_cell" jF)
  (d38:Dq K mg "_law_words" kI)
  (d39:Dq K mg "beside_way" iJ)
  (d40:Dq K mg "is_bare" ja)
  (d41:Dq K mg "side_by_side" jP)
  (d42:Dq K mg "_law_respelled" kC)
  (d43:Dq K mg "_law_unlike" iG)
  (d44:Dq K mg "_law_bare" iF)
  (d45:Dq K mg "_law_drawn_house" ky)
  (d46:Dq K mg "_law_gate_house" jO)
  (d47:Dq K mg "_law_ring_house" ka)
  (d48:Dq K mg "_law_spare" jz)
  (d49:Dq K mg "_law_house" km)
  (d50:Dq K mg "_law_letters" jk)
  {f51:Addr} {od51 an51:Option Addr} {sl51:Array (Option Value)} {oc51 kV51 dc51 pm51 cd51 ct51:Value} (a51:PySem.W.nsIn K mainGlobals "law" = some (some (.ref f51))) (l51:K.lookup f51=some ⟨oc51,od51,.func (PySem.W.fnOf "law" "law" (fK eJ) (eE eJ) (aC eJ) .none kV51 dc51 pm51 an51 cd51 ct51),sl51⟩) (c51:PySem.W.codeIn K cd51 "law" = true) (k51:PySem.W.keepIn K (.ref f51)=true)
  (z0:PySem.W.nsIn K mainGlobals "len" = some none)
  (z1:PySem.W.nsIn K mainGlobals "isinstance" = some none)
  (z2:PySem.W.nsIn K mainGlobals "tuple" = some none)
  (z3:PySem.W.nsIn K mainGlobals "list" = some none)
  (z4:PySem.W.nsIn K mainGlobals "int" = some none)
  (z5:PySem.W.nsIn K mainGlobals "bool" = some none)
  (z6:PySem.W.nsIn K mainGlobals "range" = some none)
  (z7:PySem.W.nsIn K mainGlobals "zip" = some none)
  (z8:PySem.W.nsIn K mainGlobals "max" = some none)
  (z9:PySem.W.nsIn K mainGlobals "min" = some none)
  (z10:PySem.W.nsIn K mainGlobals "abs" = some none)
  (z11:PySem.W.nsIn K mainGlobals "all" = some none)
  (z12:PySem.W.nsIn K mainGlobals "enumerate" = some none)
  (z13:PySem.W.nsIn K mainGlobals "set" = some none)
  (z14:PySem.W.nsIn K mainGlobals "str" = some none)
  (z15:PySem.W.nsIn K mainGlobals "reversed" = some none)
  (z16:PySem.W.nsIn K mainGlobals "any" = some none)
  (z17:PySem.W.nsIn K mainGlobals "sorted" = some none)
  {t0:Tok} (v0:PySem.W.nsIn K mainGlobals "GREATEST_WAYS" = some (some (.int 100 t0)))
  {t1:Tok} (v1:PySem.W.nsIn K mainGlobals "GREATEST_MANY" = some (some (.int 12 t1)))
  {t2:Tok} (v2:PySem.W.nsIn K mainGlobals "GREATEST_NUMBER" = some (some (.int 1000 t2)))
  {t3:Tok} (v3:PySem.W.nsIn K mainGlobals "MOST_WORDS" = some (some (.int 200 t3)))
  {t4:Tok} (v4:PySem.W.nsIn K mainGlobals "LONGEST_WORD" = some (some (.int 40 t4)))
  {t5:Tok} (v5:PySem.W.nsIn K mainGlobals "LONGEST_TEXT" = some (some (.int 200 t5)))
  {e0:Addr} {q0_0 u0_0 q0_1 u0_1 q0_2 u0_2 q0_3 u0_3:Tok} {ep0:Nat} (x0:PySem.W.nsIn K mainGlobals "TURNED" = some (some (.ref e0))) (y0:K.lookup e0=some (gC w [("up",q0_0,.str "down" u0_0),("down",q0_1,.str "up" u0_1),("stay",q0_2,.str "stay" u0_2),("zero",q0_3,.str "zero" u0_3)] ep0)) (w0:(e0 == sysModules)=false)
  {e1:Addr} {q1_0 u1_0 q1_1 u1_1 q1_2 u1_2 q1_3 u1_3:Tok} {ep1:Nat} (x1:PySem.W.nsIn K mainGlobals "RAISED" = some (some (.ref e1))) (y1:K.lookup e1=some (gC w [("up",q1_0,.int (1) u1_0),("down",q1_1,.int (-1) u1_1),("stay",q1_2,.int (0) u1_2),("zero",q1_3,.int (0) u1_3)] ep1)) (w1:(e1 == sysModules)=false)
  : ∃fd:FuncData,(∀(s:Shared) (v:Value),BindsTo s fd ⟨[v],[]⟩ [("_law_script",v)])/\∀base:Heap,K.In base->base.Ns mainGlobals mg->FnOk l.prog w K mg base eD 10 fa fd ["_law_script"] (ku K):=by
 have e:=hfa.symm.trans (PySem.W.mg_of X G a51)
 cases e
 have T:Blt mg:=⟨PySem.W.mg_none_of X G z0,PySem.W.mg_none_of X G z1,PySem.W.mg_none_of X G z2,PySem.W.mg_none_of X G z3,PySem.W.mg_none_of X G z4,PySem.W.mg_none_of X G z5,PySem.W.mg_none_of X G z6,PySem.W.mg_none_of X G z7,PySem.W.mg_none_of X G z8,PySem.W.mg_none_of X G z9,PySem.W.mg_none_of X G z10,PySem.W.mg_none_of X G z11,PySem.W.mg_none_of X G z12,PySem.W.mg_none_of X G z13,PySem.W.mg_none_of X G z14,PySem.W.mg_none_of X G z15,PySem.W.mg_none_of X G z16,PySem.W.mg_none_of X G z17⟩
 have D0:Dfn K mg "share_one" iU ["places","others"]:=let ⟨f,fd,a,F⟩:=d0;⟨f,fd,a,F,F.binds (ps:=["places","others"]) fun _ _ _ _ _ _ us hl=>match us,hl with | [_,_],_=>rfl⟩
 have D1:Dfn K mg "led_bits" jg ["deed","bits"]:=let ⟨f,fd,a,F⟩:=d1;⟨f,fd,a,F,F.binds (ps:=["deed","bits"]) fun _ _ _ _ _ _ us hl=>match us,hl with | [_,_],_=>rfl⟩
 have D2:Dfn K mg "led_on" iE ["ways","places"]:=let ⟨f,fd,a,F⟩:=d2;⟨f,fd,a,F,F.binds (ps:=["ways","places"]) fun _ _ _ _ _ _ us hl=>match us,hl with | [_,_],_=>rfl⟩
 have D3:Dfn K mg "longer_beginnings" jC ["signs","begun","ends"]:=let ⟨f,fd,a,F⟩:=d3;⟨f,fd,a,F,F.binds (ps:=["signs","begun","ends"]) fun _ _ _ _ _ _ us hl=>match us,hl with | [_,_,_],_=>rfl⟩
 have D4:Dfn K mg "alone_at_zero" kD ["house","room"]:=let ⟨f,fd,a,F⟩:=d4;⟨f,fd,a,F,F.binds (ps:=["house","room"]) fun _ _ _ _ _ _ us hl=>match us,hl with | [_,_],_=>rfl⟩
 have D5:Dfn K mg "ways_of_sign" kf ["house","sign"]:=let ⟨f,fd,a,F⟩:=d5;⟨f,fd,a,F,F.binds (ps:=["house","sign"]) fun _ _ _ _ _ _ us hl=>match us,hl with | [_,_],_=>rfl⟩
 have D6:Dfn K mg "ways_by_sign" jZ ["house"]:=let ⟨f,fd,a,F⟩:=d6;⟨f,fd,a,F,F.binds (ps:=["house"]) fun _ _ _ _ _ _ us hl=>match us,hl with | [_],_=>rfl⟩
 have D7:Dfn K mg "words_of_length" jE ["house","p","to_end","length","many"]:=let ⟨f,fd,a,F⟩:=d7;⟨f,fd,a,F,F.binds (ps:=["house","p","to_end","length","many"]) fun _ _ _ _ _ _ us hl=>match us,hl with | [_,_,_,_,_],_=>rfl⟩
 have D8:Dfn K mg "turned_way" kn ["way"]:=let ⟨f,fd,a,F⟩:=d8;⟨f,fd,a,F,F.binds (ps:=["way"]) fun _ _ _ _ _ _ us hl=>match us,hl with | [_],_=>rfl⟩
 have D9:Dfn K mg "is_sign" ji ["thing"]:=let ⟨f,fd,a,F⟩:=d9;⟨f,fd,a,F,F.binds (ps:=["thing"]) fun _ _ _ _ _ _ us hl=>match us,hl with | [_],_=>rfl⟩
 have D10:Dfn K mg "is_deed" iR ["thing"]:=let ⟨f,fd,a,F⟩:=d10;⟨f,fd,a,F,F.binds (ps:=["thing"]) fun _ _ _ _ _ _ us hl=>match us,hl with | [_],_=>rfl⟩
 have D11:Dfn K mg "is_whole" jW ["thing"]:=let ⟨f,fd,a,F⟩:=d11;⟨f,fd,a,F,F.binds (ps:=["thing"]) fun _ _ _ _ _ _ us hl=>match us,hl with | [_],_=>rfl⟩
 have D12:Dfn K mg "is_room" iM ["thing","many"]:=let ⟨f,fd,a,F⟩:=d12;⟨f,fd,a,F,F.binds (ps:=["thing","many"]) fun _ _ _ _ _ _ us hl=>match us,hl with | [_,_],_=>rfl⟩
 have D13:Dfn K mg "is_way" i8 ["thing","many"]:=let ⟨f,fd,a,F⟩:=d13;⟨f,fd,a,F,F.binds (ps:=["thing","many"]) fun _ _ _ _ _ _ us hl=>match us,hl with | [_,_],_=>rfl⟩
 have D14:Dfn K mg "are_ways" jG ["thing","many"]:=let ⟨f,fd,a,F⟩:=d14;⟨f,fd,a,F,F.binds (ps:=["thing","many"]) fun _ _ _ _ _ _ us hl=>match us,hl with | [_,_],_=>rfl⟩
 have D15:Dfn K mg "is_house" iQ ["thing"]:=let ⟨f,fd,a,F⟩:=d15;⟨f,fd,a,F,F.binds (ps:=["thing"]) fun _ _ _ _ _ _ us hl=>match us,hl with | [_],_=>rfl⟩
 have D16:Dfn K mg "refuse_no_house" kE ["thing"]:=let ⟨f,fd,a,F⟩:=d16;⟨f,fd,a,F,F.binds (ps:=["thing"]) fun _ _ _ _ _ _ us hl=>match us,hl with | [_],_=>rfl⟩
 have D17:Dfn K mg "turned_about" jM ["house"]:=let ⟨f,fd,a,F⟩:=d17;⟨f,fd,a,F,F.binds (ps:=["house"]) fun _ _ _ _ _ _ us hl=>match us,hl with | [_],_=>rfl⟩
 have D18:Dfn K mg "places_to_end" jV ["house","room","length"]:=let ⟨f,fd,a,F⟩:=d18;⟨f,fd,a,F,F.binds (ps:=["house","room","length"]) fun _ _ _ _ _ _ us hl=>match us,hl with | [_,_,_],_=>rfl⟩
 have D19:Dfn K mg "walk_back" ke ["found","goal"]:=let ⟨f,fd,a,F⟩:=d19;⟨f,fd,a,F,F.binds (ps:=["found","goal"]) fun _ _ _ _ _ _ us hl=>match us,hl with | [_,_],_=>rfl⟩
 have D20:Dfn K mg "is_open" jN ["way","place"]:=let ⟨f,fd,a,F⟩:=d20;⟨f,fd,a,F,F.binds (ps:=["way","place"]) fun _ _ _ _ _ _ us hl=>match us,hl with | [_,_],_=>rfl⟩
 have D21:Dfn K mg "raised_by" jq ["way"]:=let ⟨f,fd,a,F⟩:=d21;⟨f,fd,a,F,F.binds (ps:=["way"]) fun _ _ _ _ _ _ us hl=>match us,hl with | [_],_=>rfl⟩
 have D22:Dfn K mg "led_to" i9 ["way","place"]:=let ⟨f,fd,a,F⟩:=d22;⟨f,fd,a,F,F.binds (ps:=["way","place"]) fun _ _ _ _ _ _ us hl=>match us,hl with | [_,_],_=>rfl⟩
 have D23:Dfn K mg "counts_by_room" iI ["house"]:=let ⟨f,fd,a,F⟩:=d23;⟨f,fd,a,F,F.binds (ps:=["house"]) fun _ _ _ _ _ _ us hl=>match us,hl with | [_],_=>rfl⟩
 have D24:Dfn K mg "greatest_met" kz ["house","place","goal"]:=let ⟨f,fd,a,F⟩:=d24;⟨f,fd,a,F,F.binds (ps:=["house","place","goal"]) fun _ _ _ _ _ _ us hl=>match us,hl with | [_,_,_],_=>rfl⟩
 have D25:Dfn K mg "found_from" j5 ["house","place","goal"]:=let ⟨f,fd,a,F⟩:=d25;⟨f,fd,a,F,F.binds (ps:=["house","place","goal"]) fun _ _ _ _ _ _ us hl=>match us,hl with | [_,_,_],_=>rfl⟩
 have D26:Dfn K mg "sought_walk" jI ["house","place","goal"]:=let ⟨f,fd,a,F⟩:=d26;⟨f,fd,a,F,F.binds (ps:=["house","place","goal"]) fun _ _ _ _ _ _ us hl=>match us,hl with | [_,_,_],_=>rfl⟩
 have D27:Dfn K mg "refuse_bad_places" jl ["house","places"]:=let ⟨f,fd,a,F⟩:=d27;⟨f,fd,a,F,F.binds (ps:=["house","places"]) fun _ _ _ _ _ _ us hl=>match us,hl with | [_,_],_=>rfl⟩
 have D28:Dfn K mg "shortest" jS ["house","place","goal"]:=let ⟨f,fd,a,F⟩:=d28;⟨f,fd,a,F,F.binds (ps:=["house","place","goal"]) fun _ _ _ _ _ _ us hl=>match us,hl with | [_,_,_],_=>rfl⟩
 have D29:Dfn K mg "refuse_bad_rooms" jo ["house","p","q"]:=let ⟨f,fd,a,F⟩:=d29;⟨f,fd,a,F,F.binds (ps:=["house","p","q"]) fun _ _ _ _ _ _ us hl=>match us,hl with | [_,_,_],_=>rfl⟩
 have D30:Dfn K mg "first_word" iW ["house","p","q"]:=let ⟨f,fd,a,F⟩:=d30;⟨f,fd,a,F,F.binds (ps:=["house","p","q"]) fun _ _ _ _ _ _ us hl=>match us,hl with | [_,_,_],_=>rfl⟩
 have D31:Dfn K mg "first_words" iK ["house","p","q","length","many"]:=let ⟨f,fd,a,F⟩:=d31;⟨f,fd,a,F,F.binds (ps:=["house","p","q","length","many"]) fun _ _ _ _ _ _ us hl=>match us,hl with | [_,_,_,_,_],_=>rfl⟩
 have D32:Dfn K mg "reads" kx ["house","p","q","text"]:=let ⟨f,fd,a,F⟩:=d32;⟨f,fd,a,F,F.binds (ps:=["house","p","q","text"]) fun _ _ _ _ _ _ us hl=>match us,hl with | [_,_,_,_],_=>rfl⟩
 have D33:Dfn K mg "_law_behind" iZ ["_law_house_here","_law_place"]:=let ⟨f,fd,a,F⟩:=d33;⟨f,fd,a,F,F.binds (ps:=["_law_house_here","_law_place"]) fun _ _ _ _ _ _ us hl=>match us,hl with | [_,_],_=>rfl⟩
 have D34:Dfn K mg "_law_reads" kF ["_law_house_here","_law_p","_law_q","_law_word"]:=let ⟨f,fd,a,F⟩:=d34;⟨f,fd,a,F,F.binds (ps:=["_law_house_here","_law_p","_law_q","_law_word"]) fun _ _ _ _ _ _ us hl=>match us,hl with | [_,_,_,_],_=>rfl⟩
 have D35:Dfn K mg "_law_mixed" jt ["_law_cell_here","_law_k","_law_prime"]:=let ⟨f,fd,a,F⟩:=d35;⟨f,fd,a,F,F.binds (ps:=["_law_cell_here","_law_k","_law_prime"]) fun _ _ _ _ _ _ us hl=>match us,hl with | [_,_,_],_=>rfl⟩
 have D36:Dfn K mg "_law_draws" jn ["_law_cell_here","_law_widths","_law_prime"]:=let ⟨f,fd,a,F⟩:=d36;⟨f,fd,a,F,F.binds (ps:=["_law_cell_here","_law_widths","_law_prime"]) fun _ _ _ _ _ _ us hl=>match us,hl with | [_,_,_],_=>rfl⟩
 have D37:Dfn K mg "_law_cell" jF ["_law_script","_law_k"]:=let ⟨f,fd,a,F⟩:=d37;⟨f,fd,a,F,F.binds (ps:=["_law_script","_law_k"]) fun _ _ _ _ _ _ us hl=>match us,hl with | [_,_],_=>rfl⟩
 have D38:Dfn K mg "_law_words" kI ["_law_length","_law_letters_here"]:=let ⟨f,fd,a,F⟩:=d38;⟨f,fd,a,F,F.binds (ps:=["_law_length","_law_letters_here"]) fun _ _ _ _ _ _ us hl=>match us,hl with | [_,_],_=>rfl⟩
 have D39:Dfn K mg "beside_way" iJ ["way","bare"]:=let ⟨f,fd,a,F⟩:=d39;⟨f,fd,a,F,F.binds (ps:=["way","bare"]) fun _ _ _ _ _ _ us hl=>match us,hl with | [_,_],_=>rfl⟩
 have D40:Dfn K mg "is_bare" ja ["house"]:=let ⟨f,fd,a,F⟩:=d40;⟨f,fd,a,F,F.binds (ps:=["house"]) fun _ _ _ _ _ _ us hl=>match us,hl with | [_],_=>rfl⟩
 have D41:Dfn K mg "side_by_side" jP ["house","bare"]:=let ⟨f,fd,a,F⟩:=d41;⟨f,fd,a,F,F.binds (ps:=["house","bare"]) fun _ _ _ _ _ _ us hl=>match us,hl with | [_,_],_=>rfl⟩
 have D42:Dfn K mg "_law_respelled" kC ["_law_house_here","_law_letters_here"]:=let ⟨f,fd,a,F⟩:=d42;⟨f,fd,a,F,F.binds (ps:=["_law_house_here","_law_letters_here"]) fun _ _ _ _ _ _ us hl=>match us,hl with | [_,_],_=>rfl⟩
 have D43:Dfn K mg "_law_unlike" iG ["_law_ways"]:=let ⟨f,fd,a,F⟩:=d43;⟨f,fd,a,F,F.binds (ps:=["_law_ways"]) fun _ _ _ _ _ _ us hl=>match us,hl with | [_],_=>rfl⟩
 have D44:Dfn K mg "_law_bare" iF ["_law_cell_here","_law_prime"]:=let ⟨f,fd,a,F⟩:=d44;⟨f,fd,a,F,F.binds (ps:=["_law_cell_here","_law_prime"]) fun _ _ _ _ _ _ us hl=>match us,hl with | [_,_],_=>rfl⟩
 have D45:Dfn K mg "_law_drawn_house" ky ["_law_cell_here","_law_prime"]:=let ⟨f,fd,a,F⟩:=d45;⟨f,fd,a,F,F.binds (ps:=["_law_cell_here","_law_prime"]) fun _ _ _ _ _ _ us hl=>match us,hl with | [_,_],_=>rfl⟩
 have D46:Dfn K mg "_law_gate_house" jO ["_law_cell_here","_law_prime"]:=let ⟨f,fd,a,F⟩:=d46;⟨f,fd,a,F,F.binds (ps:=["_law_cell_here","_law_prime"]) fun _ _ _ _ _ _ us hl=>match us,hl with | [_,_],_=>rfl⟩
 have D47:Dfn K mg "_law_ring_house" ka ["_law_cell_here","_law_prime"]:=let ⟨f,fd,a,F⟩:=d47;⟨f,fd,a,F,F.binds (ps:=["_law_cell_here","_law_prime"]) fun _ _ _ _ _ _ us hl=>match us,hl with | [_,_],_=>rfl⟩
 have D48:Dfn K mg "_law_spare" jz ["_law_cell_here","_law_width"]:=let ⟨f,fd,a,F⟩:=d48;⟨f,fd,a,F,F.binds (ps:=["_law_cell_here","_law_width"]) fun _ _ _ _ _ _ us hl=>match us,hl with | [_,_],_=>rfl⟩
 have D49:Dfn K mg "_law_house" km ["_law_cell_here","_law_prime"]:=let ⟨f,fd,a,F⟩:=d49;⟨f,fd,a,F,F.binds (ps:=["_law_cell_here","_law_prime"]) fun _ _ _ _ _ _ us hl=>match us,hl with | [_,_],_=>rfl⟩
 have D50:Dfn K mg "_law_letters" jk ["_law_cell_here","_law_prime"]:=let ⟨f,fd,a,F⟩:=d50;⟨f,fd,a,F,F.binds (ps:=["_law_cell_here","_law_prime"]) fun _ _ _ _ _ _ us hl=>match us,hl with | [_,_],_=>rfl⟩
 refine⟨PySem.W.fnOf "law" "law" (fK eJ) (eE eJ) (aC eJ) .none kV51 dc51 pm51 an51 cd51 ct51,fun s v=>.of_eq rfl,fun base KB GB=>?_⟩
 have C0:=@wu l.prog w K mg base D0 T
 have C1:=@wQ l.prog w K mg base D1 T
 have C2:=@yY l.prog w K mg base D2 T C1
 have C3:=@BJ l.prog w K mg base D3 T C0 C2
 have C4:=@yA l.prog w K mg base D4 T
 have C5:=@xx l.prog w K mg base D5 T
 have C6:=@yP l.prog w K mg base D6 T C5
 have C7:=@zR l.prog w K mg base D7 T C3 C0 C4 C6
 have C8:=@yn l.prog w K mg base D8 T ⟨_,PySem.W.mg_of X G x0,uW y0 w0⟩
 have C9:=@zi l.prog w K mg base D9 T
 have C10:=@yN l.prog w K mg base D10 T ⟨_,PySem.W.mg_of X G x0,uW y0 w0⟩
 have C11:=@xy l.prog w K mg base D11 T
 have C12:=@vR l.prog w K mg base D12 T C11
 have C13:=@wg l.prog w K mg base D13 T C9 C10 C12
 have C14:=@zu l.prog w K mg base D14 T ⟨_,PySem.W.mg_of X G v0⟩ C13
 have C15:=@v9 l.prog w K mg base D15 T ⟨_,PySem.W.mg_of X G v1⟩ C14 C11
 have C16:=@Bb l.prog w K mg base D16 T C15
 have C17:=@ye l.prog w K mg base D17 T C8 C16
 have C18:=@Ai l.prog w K mg base D18 T C2 C4 C17
 have C19:=@v8 l.prog w K mg base D19 T
 have C20:=@yJ l.prog w K mg base D20 T
 have C21:=@vP l.prog w K mg base D21 T ⟨_,PySem.W.mg_of X G x1,BF y1 w1⟩
 have C22:=@Ct l.prog w K mg base D22 T C21
 have C23:=@xC l.prog w K mg base D23 T
 have C24:=@zB l.prog w K mg base D24 T
 have C25:=@Ca l.prog w K mg base D25 T C20 C22 C23 C24
 have C26:=@B2 l.prog w K mg base D26 T C19 C25
 have C27:=@xJ l.prog w K mg base D27 T ⟨_,PySem.W.mg_of X G v2⟩ C12
 have C28:=@xK l.prog w K mg base D28 T C26 C27 C16
 have C29:=@Ay l.prog w K mg base D29 T C12 C16
 have C30:=@BN l.prog w K mg base D30 T C7 C18 C28 C29
 have C31:=@yZ l.prog w K mg base D31 T ⟨_,PySem.W.mg_of X G v3⟩ ⟨_,PySem.W.mg_of X G v4⟩ C7 C18 C29
 have C32:=@Bq l.prog w K mg base D32 T ⟨_,PySem.W.mg_of X G v5⟩ C0 C4 C2 C5 C29
 have C33:=@AM l.prog w K mg base D33 T
 have C34:=@AF l.prog w K mg base D34 T C33
 have C35:=@A7 l.prog w K mg base D35 T
 have C36:=@As l.prog w K mg base D36 T C35
 have C37:=@CB l.prog w K mg base D37 T
 have C38:=@xu l.prog w K mg base D38 T
 have C39:=@zb l.prog w K mg base D39 T
 have C40:=@AR l.prog w K mg base D40 T C16
 have C41:=@Bf l.prog w K mg base D41 T ⟨_,PySem.W.mg_of X G v0⟩ ⟨_,PySem.W.mg_of X G v1⟩ C39 C40 C16
 have C42:=@zd l.prog w K mg base D42 T
 have C43:=@xl l.prog w K mg base D43 T
 have C44:=@yk l.prog w K mg base D44 T C43 C36
 have C45:=@AX l.prog w K mg base D45 T C43 C36
 have C46:=@xZ l.prog w K mg base D46 T C43 C36
 have C47:=@yr l.prog w K mg base D47 T C36
 have C48:=@zg l.prog w K mg base D48 T
 have C49:=@xQ l.prog w K mg base D49 T C45 C46 C47 C48 C36
 have C50:=@Ae l.prog w K mg base D50 T C36
 exact A5 (nE (st:=eJ) l51 c51 k51) T C30 C31 C32 C34 C36 C37 C38 C41 C42 C44 C49 C50
theorem walk{l:PySem.W.OpenLaw}{q:Program}{loose:List Str}{XP:(Str->Option Value)->Heap->Prop}{YP:World->Heap->Prop}{d:DefRec}{K:Params->PySem.W.Frag}(hn:l.most=some 63)(hdf:d.params.defaults=[])
  (hY:∀(w:World) (h:Heap),YP w h->(K w.params).In h)
  (F:∀(w:World) (mg:Str->Option Value) (fa:Addr) (h:Heap),(K w.params).In h->h.Ns mainGlobals mg->mg d.name=some (.ref fa) →
   ∃fd:FuncData,(∀(s:Shared) (u:Value),BindsTo s fd ⟨[u],[]⟩ [("_law_script",u)])/\∀base:Heap,(K w.params).In base->base.Ns mainGlobals mg->FnOk l.prog w (K w.params) mg base eD 10 fa fd ["_law_script"] (ku (K w.params))) :
  PySem.W.WalkO q loose XP YP l.row.toRowW d [] (fun f vs=>PySem.call f vs):=
 L2.A9 (n:=63) (k:=10) (x:="_law_script") (CX:=fun _=>eD) (sp:=fun w=>ku (K w.params)) hn (by decide) hdf ⟨rfl,by decide,by decide⟩ hY F (fun _ _ a ns hl _ hS=>⟨a,ns,rfl,hS,hl,fun _=>rfl⟩) fun _ _ _ _ _ z=>z
end My
end
open PySem PySem.W PyProof.Rows
set_option maxRecDepth 100000 in
set_option maxHeartbeats 0 in
theorem PySem.Challenge.cw_stairrooms_k63_common_words_holds : PySem.Challenge.rw_stairrooms_k63_common_words.Holds := by
 refine My.top ?_
 k_fill
 refine My.walk (l := PySem.Challenge.rw_stairrooms_k63_common_words) rfl rfl (fun w h Y => by first | exact PySem.W.kIn_of Y | exact PySem.W.km_in_of Y) ?F
 case F =>
  intro w mg fa h KX G hmg
  refine' My.all_mk KX G hmg (My.dq KX G ?a0 ?l0 ?c0 ?k0) (My.dq KX G ?a1 ?l1 ?c1 ?k1) (My.dq KX G ?a2 ?l2 ?c2 ?k2) (My.dq KX G ?a3 ?l3 ?c3 ?k3) (My.dq KX G ?a4 ?l4 ?c4 ?k4) (My.dq KX G ?a5 ?l5 ?c5 ?k5) (My.dq KX G ?a6 ?l6 ?c6 ?k6) (My.dq KX G ?a7 ?l7 ?c7 ?k7) (My.dq KX G ?a8 ?l8 ?c8 ?k8) (My.dq KX G ?a9 ?l9 ?c9 ?k9) (My.dq KX G ?a10 ?l10 ?c10 ?k10) (My.dq KX G ?a11 ?l11 ?c11 ?k11) (My.dq KX G ?a12 ?l12 ?c12 ?k12) (My.dq KX G ?a13 ?l13 ?c13 ?k13) (My.dq KX G ?a14 ?l14 ?c14 ?k14) (My.dq KX G ?a15 ?l15 ?c15 ?k15) (My.dq KX G ?a16 ?l16 ?c16 ?k16) (My.dq KX G ?a17 ?l17 ?c17 ?k17) (My.dq KX G ?a18 ?l18 ?c18 ?k18) (My.dq KX G ?a19 ?l19 ?c19 ?k19) (My.dq KX G ?a20 ?l20 ?c20 ?k20) (My.dq KX G ?a21 ?l21 ?c21 ?k21) (My.dq KX G ?a22 ?l22 ?c22 ?k22) (My.dq KX G ?a23 ?l23 ?c23 ?k23) (My.dq KX G ?a24 ?l24 ?c24 ?k24) (My.dq KX G ?a25 ?l25 ?c25 ?k25) (My.dq KX G ?a26 ?l26 ?c26 ?k26) (My.dq KX G ?a27 ?l27 ?c27 ?k27) (My.dq KX G ?a28 ?l28 ?c28 ?k28) (My.dq KX G ?a29 ?l29 ?c29 ?k29) (My.dq KX G ?a30 ?l30 ?c30 ?k30) (My.dq KX G ?a31 ?l31 ?c31 ?k31) (My.dq KX G ?a32 ?l32 ?c32 ?k32) (My.dq KX G ?a33 ?l33 ?c33 ?k33) (My.dq KX G ?a34 ?l34 ?c34 ?k34) (My.dq KX G ?a35 ?l35 ?c35 ?k35) (My.dq KX G ?a36 ?l36 ?c36 ?k36) (My.dq KX G ?a37 ?l37 ?c37 ?k37) (My.dq KX G ?a38 ?l38 ?c38 ?k38) (My.dq KX G ?a39 ?l39 ?c39 ?k39) (My.dq KX G ?a40 ?l40 ?c40 ?k40) (My.dq KX G ?a41 ?l41 ?c41 ?k41) (My.dq KX G ?a42 ?l42 ?c42 ?k42) (My.dq KX G ?a43 ?l43 ?c43 ?k43) (My.dq KX G ?a44 ?l44 ?c44 ?k44) (My.dq KX G ?a45 ?l45 ?c45 ?k45) (My.dq KX G ?a46 ?l46 ?c46 ?k46) (My.dq KX G ?a47 ?l47 ?c47 ?k47) (My.dq KX G ?a48 ?l48 ?c48 ?k48) (My.dq KX G ?a49 ?l49 ?c49 ?k49) (My.dq KX G ?a50 ?l50 ?c50 ?k50) ?a51 ?l51 ?c51 ?k51 ?z0 ?z1 ?z2 ?z3 ?z4 ?z5 ?z6 ?z7 ?z8 ?z9 ?z10 ?z11 ?z12 ?z13 ?z14 ?z15 ?z16 ?z17 ?v0 ?v1 ?v2 ?v3 ?v4 ?v5 ?x0 ?y0 ?w0 ?x1 ?y1 ?w1
  (case a0 => k_is); (case l0 => k_is); (case c0 => k_is); (case k0 => k_is)
  (case a1 => k_is); (case l1 => k_is); (case c1 => k_is); (case k1 => k_is)
  (case a2 => k_is); (case l2 => k_is); (case c2 => k_is); (case k2 => k_is)
  (case a3 => k_is); (case l3 => k_is); (case c3 => k_is); (case k3 => k_is)
  (case a4 => k_is); (case l4 => k_is); (case c4 => k_is); (case k4 => k_is)
  (case a5 => k_is); (case l5 => k_is); (case c5 => k_is); (case k5 => k_is)
  (case a6 => k_is); (case l6 => k_is); (case c6 => k_is); (case k6 => k_is)
  (case a7 => k_is); (case l7 => k_is); (case c7 => k_is); (case k7 => k_is)
  (case a8 => k_is); (case l8 => k_is); (case c8 => k_is); (case k8 => k_is)
  (case a9 => k_is); (case l9 => k_is); (case c9 => k_is); (case k9 => k_is)
  (case a10 => k_is); (case l10 => k_is); (case c10 => k_is); (case k10 => k_is)
  (case a11 => k_is); (case l11 => k_is); (case c11 => k_is); (case k11 => k_is)
  (case a12 => k_is); (case l12 => k_is); (case c12 => k_is); (case k12 => k_is)
  (case a13 => k_is); (case l13 => k_is); (case c13 => k_is); (case k13 => k_is)
  (case a14 => k_is); (case l14 => k_is); (case c14 => k_is); (case k14 => k_is)
  (case a15 => k_is); (case l15 => k_is); (case c15 => k_is); (case k15 => k_is)
  (case a16 => k_is); (case l16 => k_is); (case c16 => k_is); (case k16 => k_is)
  (case a17 => k_is); (case l17 => k_is); (case c17 => k_is); (case k17 => k_is)
  (case a18 => k_is); (case l18 => k_is); (case c18 => k_is); (case k18 => k_is)
  (case a19 => k_is); (case l19 => k_is); (case c19 => k_is); (case k19 => k_is)
  (case a20 => k_is); (case l20 => k_is); (case c20 => k_is); (case k20 => k_is)
  (case a21 => k_is); (case l21 => k_is); (case c21 => k_is); (case k21 => k_is)
  (case a22 => k_is); (case l22 => k_is); (case c22 => k_is); (case k22 => k_is)
  (case a23 => k_is); (case l23 => k_is); (case c23 => k_is); (case k23 => k_is)
  (case a24 => k_is); (case l24 => k_is); (case c24 => k_is); (case k24 => k_is)
  (case a25 => k_is); (case l25 => k_is); (case c25 => k_is); (case k25 => k_is)
  (case a26 => k_is); (case l26 => k_is); (case c26 => k_is); (case k26 => k_is)
  (case a27 => k_is); (case l27 => k_is); (case c27 => k_is); (case k27 => k_is)
  (case a28 => k_is); (case l28 => k_is); (case c28 => k_is); (case k28 => k_is)
  (case a29 => k_is); (case l29 => k_is); (case c29 => k_is); (case k29 => k_is)
  (case a30 => k_is); (case l30 => k_is); (case c30 => k_is); (case k30 => k_is)
  (case a31 => k_is); (case l31 => k_is); (case c31 => k_is); (case k31 => k_is)
  (case a32 => k_is); (case l32 => k_is); (case c32 => k_is); (case k32 => k_is)
  (case a33 => k_is); (case l33 => k_is); (case c33 => k_is); (case k33 => k_is)
  (case a34 => k_is); (case l34 => k_is); (case c34 => k_is); (case k34 => k_is)
  (case a35 => k_is); (case l35 => k_is); (case c35 => k_is); (case k35 => k_is)
  (case a36 => k_is); (case l36 => k_is); (case c36 => k_is); (case k36 => k_is)
  (case a37 => k_is); (case l37 => k_is); (case c37 => k_is); (case k37 => k_is)
  (case a38 => k_is); (case l38 => k_is); (case c38 => k_is); (case k38 => k_is)
  (case a39 => k_is); (case l39 => k_is); (case c39 => k_is); (case k39 => k_is)
  (case a40 => k_is); (case l40 => k_is); (case c40 => k_is); (case k40 => k_is)
  (case a41 => k_is); (case l41 => k_is); (case c41 => k_is); (case k41 => k_is)
  (case a42 => k_is); (case l42 => k_is); (case c42 => k_is); (case k42 => k_is)
  (case a43 => k_is); (case l43 => k_is); (case c43 => k_is); (case k43 => k_is)
  (case a44 => k_is); (case l44 => k_is); (case c44 => k_is); (case k44 => k_is)
  (case a45 => k_is); (case l45 => k_is); (case c45 => k_is); (case k45 => k_is)
  (case a46 => k_is); (case l46 => k_is); (case c46 => k_is); (case k46 => k_is)
  (case a47 => k_is); (case l47 => k_is); (case c47 => k_is); (case k47 => k_is)
  (case a48 => k_is); (case l48 => k_is); (case c48 => k_is); (case k48 => k_is)
  (case a49 => k_is); (case l49 => k_is); (case c49 => k_is); (case k49 => k_is)
  (case a50 => k_is); (case l50 => k_is); (case c50 => k_is); (case k50 => k_is)
  (case a51 => k_is); (case l51 => k_is); (case c51 => k_is); (case k51 => k_is)
  (case z0 => k_is)
  (case z1 => k_is)
  (case z2 => k_is)
  (case z3 => k_is)
  (case z4 => k_is)
  (case z5 => k_is)
  (case z6 => k_is)
  (case z7 => k_is)
  (case z8 => k_is)
  (case z9 => k_is)
  (case z10 => k_is)
  (case z11 => k_is)
  (case z12 => k_is)
  (case z13 => k_is)
  (case z14 => k_is)
  (case z15 => k_is)
  (case z16 => k_is)
  (case z17 => k_is)
  (case v0 => k_is)
  (case v1 => k_is)
  (case v2 => k_is)
  (case v3 => k_is)
  (case v4 => k_is)
  (case v5 => k_is)
  (case x0 => k_is); (case y0 => k_is); (case w0 => first | rfl | k_is)
  (case x1 => k_is); (case y1 => k_is); (case w1 => first | rfl | k_is)
