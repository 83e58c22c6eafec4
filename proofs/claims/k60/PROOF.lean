import PyProof.Rows.All
import Wide.All
import OpenK.AllK
import Wide.FinOn
import Lean
import PyProof.EqAt
import PyProof.EqKinds
import PyProof.TupleCall
import KE.KLam
import PySem.Challenge.RW_stairrooms_k60_words_refused
set_option Elab.async false
namespace PySem.W.Fast
def tw9807008394584566667:=0
def tw1537563950978811878:=0
def tw7394562041461243504:=0
def tw16775665898853467502:=0
def tw9478813727029378433:=0
def tw4373642396805675364:=0
def tw17086299883491049419:=0
def tw11258306804293243132:=0
def tw8683106126233938998:=0
def tw317520914050522945:=0
def tw8325147438673079581:=0
def tw16040925991244642869:=0
def tw911810538002268367:=0
def tw11795423834081112518:=0
def tw17179734013377141832:=0
def tw16622475990643145580:=0
def tw6492568839464336172:=0
def tw7423256400078290622:=0
def tw12650994420537281789:=0
def tw4221310431163856405:=0
def tw6460737211137875664:=0
def tw15415030129712708594:=0
def tw10166892954511498249:=0
def tw8089249423132065445:=0
def tw4901130387418632981:=0
def tw4918694162171632466:=0
def tw1004593339420490729:=0
def tw17259577006381911698:=0
def tw13679643304169797691:=0
def tw55107133691585252:=0
def tw3501889831259424984:=0
def tw2648121624305032702:=0
def tw17915051066750267265:=0
def tw11296645311156999791:=0
def tw3015604971527890583:=0
def tw17949153669898374660:=0
def tw17375602352810135561:=0
def tw2122511160286549640:=0
def tw17939888687896264705:=0
def tw12661369023874259431:=0
def tw7750769465160294860:=0
def tw7387496920539170626:=0
def tw16306601271817509428:=0
def tw15945904282836308387:=0
def tw11560677996495128784:=0
def tw11029396596865941829:=0
def tw404968458719316295:=0
def tw2801974123689400889:=0
def tw621812022307901172:=0
def tw3855638733940352994:=0
def tw1465564398378206461:=0
def tw1460478622569836974:=0
def tw10035081181641441020:=0
def tw9779106197386186623:=0
def tw12390782021942118942:=0
def tw12678953225602555564:=0
def tw11655376856063916228:=0
def tw447717403241242290:=0
def tw12664327836493813462:=0
def tw3830783680494933951:=0
def tw18207201711260066481:=0
def tw1057306937073154610:=0
def tw4355615645706949100:=0
def tw2904058922640873309:=0
def tw8770029601138628478:=0
def tw8708482821940700748:=0
def tw179189376934874584:=0
def tw17423125552162021742:=0
def tw1304240117979556626:=0
def tw11971130579796114034:=0
def tw11846370373574997029:=0
def tw7539763571100840771:=0
def tw18027755133952139252:=0
def tw1751447207448873119:=0
def tw12679859039530741841:=0
def tw10548826715568245312:=0
def tw4977895861229493542:=0
def tw3427924564325372817:=0
def tw3093781508513788219:=0
def tw17002439396945247550:=0
def tw156604256827902990:=0
def tw8184033042858750843:=0
def tw6252878086273825581:=0
def tw439055297870408345:=0
def tw15732654264858244716:=0
def tw15699315692412800413:=0
def tw14832175709080873599:=0
def tw119674054762100072:=0
def tw11788803944947964044:=0
def tw9936902662144560194:=0
def tw9578026534446552097:=0
def tw1735571389945239771:=0
def tw16761591470956491853:=0
def tw1612923964453859806:=0
def tw15529604674929473973:=0
def tw15269425654929456476:=0
def tw14109453767193502313:=0
def tw13814131451427507189:=0
def tw10276969695076772373:=0
def tw705330452703051597:=0
def tw6178244272827954729:=0
def tw3008007984704827758:=0
def tw15660991250957307376:=0
def tw14931363111589739018:=0
def tw14318957944991924802:=0
def tw13956058649364723422:=0
def tw13580389790971816817:=0
def tw12632963454795662708:=0
def tw10500720501580190231:=0
def tw931510637493425866:=0
def tw902582806634263858:=0
def tw8568187914498332850:=0
def tw7627118995241731642:=0
def tw7393957277229836691:=0
def tw7341270039093922885:=0
def tw7134983793405793177:=0
def tw7115244209674446852:=0
def tw5140171473248983199:=0
def tw4337561567144917162:=0
def tw3941131271490555836:=0
def tw3866599564448483793:=0
def tw3104486758596841148:=0
def tw2342838551658309370:=0
def tw18032779900021213040:=0
def tw17729564300890611173:=0
def tw17628590533929976792:=0
def tw17571631200592639834:=0
def tw1754243070517289278:=0
def tw17065142239566038489:=0
def tw16980547499210933930:=0
def tw16964212798373946863:=0
def tw16924412733494049589:=0
def tw16477329177891185698:=0
def tw16283258727396688951:=0
def tw16245695487900975421:=0
def tw16221219022901355867:=0
def tw15786528573266890262:=0
def tw15729792075999087868:=0
def tw15565656631415577005:=0
def tw15186367229040268510:=0
def tw15104015179872336855:=0
def tw14977234088687162302:=0
def tw14905269560852764671:=0
def tw1488474676173749703:=0
def tw14793259975867257014:=0
def tw14775263502782431712:=0
def tw14774234679712429206:=0
def tw14670137783204244808:=0
def tw14221475358252599964:=0
def tw14025392896863203041:=0
def tw13135487405686255751:=0
def tw12357872333080808881:=0
def tw11787554532782738252:=0
def tw11506949944486722818:=0
def tw11383850339681254435:=0
def tw11339562753883754242:=0
def tw11137535781475439334:=0
def tw10769681086646498438:=0
def tw1069010634818593453:=0
def tw976709547398631384:=0
def tw974001917477778970:=0
def tw8562296191053873827:=0
def tw8147721191793257292:=0
def tw8047032804361144261:=0
def tw8035931760809384120:=0
def tw762384175361060421:=0
def tw7175792842613744815:=0
def tw684117499851941213:=0
def tw5425565988235752197:=0
def tw3566807236516140644:=0
def tw18127141830633905074:=0
def tw17843839365795533554:=0
def tw1682181479755940848:=0
def tw15968237232650601322:=0
def tw15829181571673270705:=0
def tw119775208399524090:=0
def tw10154314827766144001:=0
def tw9539095207651657643:=0
def tw9248597171148506525:=0
def tw8143298780573084396:=0
def tw6393150591798677637:=0
def tw6169767553621521813:=0
def tw6093179522131556990:=0
def tw4869967250276580588:=0
def tw2448602276733661166:=0
def tw16988158499489311127:=0
def tw15860708213811878519:=0
def tw15641155157065175805:=0
def tw14635225500592789833:=0
def tw14585778381282314952:=0
def tw1382559312744143635:=0
def tw12878273097781070547:=0
def tw12441502783428931068:=0
def tw11858878876565515630:=0
def tw9281662355237421915:=0
def tw7956301941440062040:=0
def tw4202673366249849491:=0
def tw2696157109874119690:=0
def tw2567624805475646970:=0
def tw18324572440802094995:=0
def tw18038851775406917655:=0
def tw16176690743668362219:=0
def tw14800109303040266240:=0
def tw12261729195969336472:=0
def tw11950575282948044451:=0
def tw9337504207740955038:=0
def tw9152467212801427789:=0
def tw9119751986894142981:=0
def tw9085195453500331236:=0
def tw8783073200307453229:=0
def tw8229460734390689525:=0
def tw800831887125934919:=0
def tw7875707854763748492:=0
def tw7863108119856694670:=0
def tw7693350481814642131:=0
def tw6743822951217308217:=0
def tw6704578965310311189:=0
def tw6658185936689682968:=0
def tw6350474685870504171:=0
def tw6008010531490865865:=0
def tw5956051100702781606:=0
def tw5950158449063615346:=0
def tw5533809914848052129:=0
def tw5442971307982108685:=0
def tw512557566824241540:=0
def tw4769826392853288355:=0
def tw4307926830116509514:=0
def tw4256779784062091372:=0
def tw4169430970946328830:=0
def tw3760063030202703356:=0
def tw3711776433476670718:=0
def tw3436359320994789115:=0
def tw3415376743198261602:=0
def tw3220723017206680370:=0
def tw3161077796674850459:=0
def tw3096949930750721708:=0
def tw2780415966309772251:=0
def tw2651210568008831048:=0
def tw2308842233520690658:=0
def tw2064118905727727203:=0
def tw1980078614172103820:=0
def tw1923656493189036919:=0
def tw1921160878016633958:=0
def tw1901317781093569649:=0
def tw1897875410602398997:=0
def tw18438895364323578133:=0
def tw17994301212061070119:=0
def tw17925923492730016652:=0
def tw17690871460500525271:=0
def tw17438179399263098937:=0
def tw17405974757215459542:=0
def tw17238752558760652402:=0
def tw16868688195037900307:=0
def tw16801269517542960672:=0
def tw16743919102785911483:=0
def tw16702496124019576060:=0
def tw16669810761675009345:=0
def tw16661212229125270991:=0
def tw16575673167688372683:=0
def tw16288524480538194225:=0
def tw15831574140416324556:=0
def tw15438610589593914328:=0
def tw15291515778787918541:=0
def tw15266785391687444539:=0
def tw14876317631354250296:=0
def tw14836224472968703893:=0
def tw14429984225472846677:=0
def tw14397947794671477899:=0
def tw14324394720252608761:=0
def tw13817142068744991791:=0
def tw13769731409856085057:=0
def tw13752025206567590305:=0
def tw13732165248360646341:=0
def tw13298203722689827917:=0
def tw13021086612755893400:=0
def tw12993445975515111361:=0
def tw12340981958623863397:=0
def tw12170451868844119946:=0
def tw12150866365501820893:=0
def tw11860059332995364445:=0
def tw11646202046503260017:=0
def tw11644868132232139897:=0
def tw11364142691922409913:=0
def tw11282886037220131173:=0
def tw10785498421680218836:=0
def tw10760031201136348398:=0
def tw1073818698688927204:=0
def tw10698238366409207256:=0
def tw10121643642846045468:=0
def tw10017577030591726147:=0
def tw9602979466950630956:=0
def tw912290570786946579:=0
def tw8777541643666118068:=0
def tw8722415481117505015:=0
def tw8572175281459272771:=0
def tw8444893750286939596:=0
def tw8186763794367992775:=0
def tw8125407811402774585:=0
def tw7552210041123771490:=0
def tw684210181549580303:=0
def tw6744984778823417519:=0
def tw6340304130596135008:=0
def tw6158425238486604569:=0
def tw6130821448147606368:=0
def tw5920227957080817638:=0
def tw5861546300858528307:=0
def tw5190860397250508396:=0
def tw5096499008420852698:=0
def tw4138905410403352593:=0
def tw397431815971221653:=0
def tw3612554134655720397:=0
def tw343839832772155065:=0
def tw3410111710019587186:=0
def tw2217001567337907910:=0
def tw2093290091728733057:=0
def tw18334927389422029420:=0
def tw18159918767601648018:=0
def tw17795394019121955329:=0
def tw17716863462265859512:=0
def tw17694846207451314135:=0
def tw17581992280946622230:=0
def tw17405045028177135956:=0
def tw1703860651114587486:=0
def tw16219145617115034907:=0
def tw15659586693977764946:=0
def tw15142431143280010732:=0
def tw14415884991196681418:=0
def tw13921919005729749812:=0
def tw13809386149585982481:=0
def tw13746588304753895505:=0
def tw1218770742548784908:=0
def tw10602856759635532317:=0
def tw10143209758796899180:=0
def tw10063842601507977493:=0
def tw9930359092145622687:=0
def tw9834661911540460081:=0
def tw9802983821206752271:=0
def tw9591621326534694922:=0
def tw9456409991113330330:=0
def tw8938549127931359579:=0
def tw8863156965792605256:=0
def tw8755266905418455375:=0
def tw8604979696160575008:=0
def tw8487562230406468105:=0
def tw8377945894465552080:=0
def tw8039774922555296384:=0
def tw8037652997034423971:=0
def tw7904445426397662059:=0
def tw7848866751621661257:=0
def tw7574902415414485744:=0
def tw7240639191980452486:=0
def tw7176572640101177836:=0
def tw6942357351460751399:=0
def tw6787905781562076304:=0
def tw6429728187070590260:=0
def tw6329672369177362234:=0
def tw6181847661251503008:=0
def tw5994711959094706394:=0
def tw590611807225418770:=0
def tw5821001088122574322:=0
def tw5819105399919881484:=0
def tw5717963241065829162:=0
def tw5581349078452510653:=0
def tw5430882940802126740:=0
def tw5350998768358884751:=0
def tw5295854211047901153:=0
def tw5051596291613938045:=0
def tw5019332986140449700:=0
def tw5010354932100547165:=0
def tw4992925186480290751:=0
def tw4801039527111802282:=0
def tw477595423994022719:=0
def tw4566636315000093172:=0
def tw4532786408525356839:=0
def tw450187942056410602:=0
def tw4090099033456441411:=0
def tw3975676623463710300:=0
def tw3855077825024126993:=0
def tw3823650005643028596:=0
def tw3797301031838899788:=0
def tw3725507860900426652:=0
def tw3465091326942903629:=0
def tw3299272117925849540:=0
def tw3258786278723069861:=0
def tw3121732170634265723:=0
def tw3017139974649574989:=0
def tw2904033067149887106:=0
def tw2520694231678862498:=0
def tw2355404199824840798:=0
def tw2313535712752964479:=0
def tw2248526150547823735:=0
def tw2187499721780371684:=0
def tw2045930578084102194:=0
def tw18406689318668271181:=0
def tw1818218476948158209:=0
def tw18133197322224867361:=0
def tw17990003072128590093:=0
def tw17928405464846012575:=0
def tw17908656721387608039:=0
def tw17843169823834903998:=0
def tw17831088686795452451:=0
def tw17744632191838401134:=0
def tw17645572048654386869:=0
def tw17644514534155135092:=0
def tw17389396115470475288:=0
def tw17357414001117552268:=0
def tw17218974888202052536:=0
def tw1691102865124860179:=0
def tw16840622159041910090:=0
def tw16835956152608702361:=0
def tw16826725409987885975:=0
def tw16821967185522334815:=0
def tw16632375998614247822:=0
def tw16618134895088991800:=0
def tw16507177298177948937:=0
def tw16503717402094505217:=0
def tw16408023001231065620:=0
def tw16291882091215157828:=0
def tw15856698116174445793:=0
def tw15641575440650329080:=0
def tw15414259988211055499:=0
def tw1536147683505774889:=0
def tw15319796435752655959:=0
def tw15159215201983465910:=0
def tw15003257448840769609:=0
def tw1492062709326496596:=0
def tw1488503510874697304:=0
def tw14882510809304047780:=0
def tw14849095896601040367:=0
def tw14650229311272632197:=0
def tw14560837491469231475:=0
def tw14550693921475344484:=0
def tw14322595565739780087:=0
def tw14321144422957734134:=0
def tw14292392306617517729:=0
def tw1428814744893504695:=0
def tw13841191037290658594:=0
def tw13820470126673855253:=0
def tw13788262537284159298:=0
def tw13647187277582396961:=0
def tw13611136168108132581:=0
def tw13587954947775276195:=0
def tw13385619842731796546:=0
def tw13140385074510843379:=0
def tw12585790354688115527:=0
def tw12296552071639831032:=0
def tw12124443520851957044:=0
def tw11985937269989024962:=0
def tw11892039915525360660:=0
def tw11701492411309977178:=0
def tw11687504721054253588:=0
def tw11665305186481523908:=0
def tw11605670760853518920:=0
def tw11365700717142005424:=0
def tw11362101791794971524:=0
def tw11166862733661299840:=0
def tw11083616581157620123:=0
def tw11030641428109492703:=0
def tw10424792985553544811:=0
def tw10263077061500514125:=0
def tw10150324261921262226:=0
def tw10118012357411222232:=0
def tw10095913671755900038:=0
def tw10053539800044614232:=0
def tw10044013261082468525:=0
end PySem.W.Fast
section
open PySem PySem.W PyProof.Rows
set_option maxRecDepth 100000 in
set_option maxHeartbeats 0 in
open_top My.top for PySem.Challenge.rw_stairrooms_k60_words_refused
end
set_option linter.all false
set_option maxRecDepth 100000
set_option maxHeartbeats 4000000
open PySem renaming wpAny_bind→EC
open PySem renaming wpAny_pure→ED
open PySem.W renaming Frag→EE
open PySem.Heap renaming get?_push_of_some→EF
open PySem.Heap renaming get?_push_size→EG
open PySem.Heap renaming lt_size→EH
open List renaming length_map→EI
open List renaming getElem?_eq_getElem→EJ
open List renaming getElem?_map→EK
open List renaming mem_cons_of_mem→EL
open Array renaming length_toList→EM
open List renaming size_toArray→EN
open List renaming mem_cons_self→EO
open PySem.F renaming plainAttrs_list→ER
noncomputable section
namespace L2
open PySem PySem.Spec PyProof.Rows
abbrev Key:=Sum Int Str
def fT:Key->Value->Bool
 | .inl k,v=>Value.isInt k v
 | .inr x,v=>Value.isStrOf x v
def AQ(w:World):Key->Int
 | .inl k=>hashInt k
 | .inr x=>hashStr w x
theorem dY:∀{k:Key} {v:Value},fT k v=true->(∃i t,k=Sum.inl i/\v=Value.int i t)\/(∃x t,k=Sum.inr x/\v=Value.str x t)
 | .inl i,v,h=>by
  obtain⟨t,e⟩:=Value.isInt_shape (k:=i) (v:=v) h
  exact .inl ⟨i,t,rfl,e⟩
 | .inr x,v,h=>by
  obtain⟨t,e⟩:=Value.isStrOf_shape (x:=x) (v:=v) h
  exact .inr ⟨x,t,rfl,e⟩
theorem BA(i:Int)(t:Tok):fT (.inl i) (.int i t)=true:=by simp[fT,Value.isInt]
theorem yP(x:Str)(t:Tok):fT (.inr x) (.str x t)=true:=by simp[fT,Value.isStrOf]
theorem zH(a b:Int):decide ((Sum.inl a:Key)=Sum.inl b)=(a == b):=by
 by_cases e:a=b
 ·subst e;simp
 ·have h:¬(Sum.inl a:Key)=Sum.inl b:=fun q=>e (Sum.inl.inj q)
  rw[decide_eq_false h]
  exact(beq_eq_false_iff_ne.mpr e).symm
theorem yq(a b:Str):decide ((Sum.inr a:Key)=Sum.inr b)=decide (a=b):=by
 by_cases e:a=b
 ·subst e;simp
 ·have h:¬(Sum.inr a:Key)=Sum.inr b:=fun q=>e (Sum.inr.inj q)
  rw[decide_eq_false h,decide_eq_false e]
theorem Eu(a:Int)(b:Str):decide ((Sum.inl a:Key)=Sum.inr b)=false:=decide_eq_false (fun q=>nomatch q)
theorem xq(a:Str)(b:Int):decide ((Sum.inr a:Key)=Sum.inl b)=false:=decide_eq_false (fun q=>nomatch q)
def aE(prog:Program)(w:World):PySem.KeyKind prog w Key where
 is:=fT
 hash:=AQ w
 inj:=fun v a b ha hb=>by
  rcases dY ha with⟨i,t,rfl,rfl⟩ | ⟨x,t,rfl,rfl⟩
  ·rcases dY hb with⟨j,u,rfl,e⟩ | ⟨y,u,rfl,e⟩
   ·injection e with e1 _;rw[e1]
   ·exact nomatch e
  ·rcases dY hb with⟨j,u,rfl,e⟩ | ⟨y,u,rfl,e⟩
   ·exact nomatch e
   ·injection e with e1 _;rw[e1]
 byValue:=fun k v h=>by
  rcases dY h with⟨i,t,rfl,rfl⟩ | ⟨x,t,rfl,rfl⟩<;>rfl
 pyHash:=fun hv h=>by
  rcases dY hv with⟨i,t,rfl,rfl⟩ | ⟨x,t,rfl,rfl⟩
  ·exact wpAny_pyHash_int h
  ·exact wpAny_pyHash_str h
 eqBool:=fun hu hv h=>by
  rcases dY hu with⟨i,t,rfl,rfl⟩ | ⟨x,t,rfl,rfl⟩
  ·rcases dY hv with⟨j,u,rfl,rfl⟩ | ⟨y,u,rfl,rfl⟩
   ·rw[zH]at h;exact wpAny_eqBool_int h
   ·rw[Eu]at h;exact SeqAt.EqAt.int_str i t y u _ _ _ _ h
  ·rcases dY hv with⟨j,u,rfl,rfl⟩ | ⟨y,u,rfl,rfl⟩
   ·rw[xq]at h;exact SeqAt.EqAt.str_int x t j u _ _ _ _ h
   ·rw[yq]at h;exact wpAny_eqBool_str h
 «strs»:=fun k x t v h=>by
  rcases dY h with⟨i,u,rfl,e⟩ | ⟨y,u,rfl,e⟩
  ·exact nomatch e
  ·injection e with e1 _
   subst e1
   cases v<;>rfl
theorem wL(prog:Program)(w:World)(i:Int)(t:Tok):(aE prog w).is (.inl i) (.int i t)=true:=BA i t
theorem mj(prog:Program)(w:World)(x:Str)(t:Tok):(aE prog w).is (.inr x) (.str x t)=true:=yP x t
end L2
namespace L2
open PySem PySem.Spec PyProof.Rows
inductive V where
 | non | bl (b:Bool) | int (i:Int) | str (x:Str) | byt (b:Array UInt8) | flt (b:UInt64) | ref (a:Addr) | ty (n:String)
 deriving DecidableEq
def RelV:V->Value->Prop
 | .non,u=>u=Value.none
 | .bl b,u=>u=Value.bool b
 | .int i,u=>∃t,u=Value.int i t
 | .str x,u=>∃t,u=Value.str x t
 | .byt b,u=>∃t,u=Value.bytes b t
 | .flt b,u=>∃t,u=Value.float b t
 | .ref a,u=>u=Value.ref a
 | .ty n,u=>u=Value.type n
abbrev Vals:List V->List Value->Prop:=Paired RelV
theorem Vals.length{xs:List V}{us:List Value}(r:Vals xs us):xs.length=us.length:=Paired.length r
theorem Vals.get:∀{xs:List V} {us:List Value} {i:Nat} {x:V},Vals xs us->xs[i]?=some x->∃u,us[i]?=some u/\RelV x u
 | _,_,_,_,.nil,e=>by simp at e
 | _,_,0,_,.cons r _,e=>by simp at e;subst e;exact⟨_,rfl,r⟩
 | _,_,i+1,x,.cons _ t,e=>by
  obtain⟨u,h1,h2⟩:=Vals.get (i:=i) (x:=x) t (by simpa using e)
  exact⟨u,by simpa using h1,h2⟩
theorem Vals.set{x:V}{u:Value}(r:RelV x u):∀{xs:List V} {us:List Value} (i:Nat),Vals xs us->Vals (xs.set i x) (us.set i u)
 | _,_,_,.nil=>.nil
 | _,_,0,.cons _ t=>.cons r t
 | _,_,i+1,.cons q t=>.cons q (Vals.set r i t)
theorem Vals.append:∀{xs ys:List V} {us ws:List Value},Vals xs us->Vals ys ws->Vals (xs++ys) (us++ws)
 | _,_,_,_,.nil,s=>s
 | _,_,_,_,.cons r t,s=>.cons r (Vals.append t s)
theorem Vals.take:∀{xs:List V} {us:List Value} (n:Nat),Vals xs us->Vals (xs.take n) (us.take n)
 | _,_,0,_=>.nil
 | _,_,_+1,.nil=>.nil
 | _,_,n+1,.cons r t=>.cons r (Vals.take n t)
theorem Vals.drop:∀{xs:List V} {us:List Value} (n:Nat),Vals xs us->Vals (xs.drop n) (us.drop n)
 | _,_,0,r=>r
 | _,_,_+1,.nil=>.nil
 | _,_,n+1,.cons _ t=>Vals.drop n t
def dg:Option V->Option Value->Prop
 | some v,some u=>RelV v u
 | none,none=>True
 | _,_=>False
def KV{κ:Type}:List (κ×V)->List (κ×Value)->Prop:=Paired fun(p:κ×V) (q:κ×Value)=>p.1=q.1/\RelV p.2 q.2
def kV:Key->V
 | .inl i=>.int i
 | .inr x=>.str x
inductive HO where
 /-- a list -/
 | lst (xs:List V)
 /-- a tuple (never changes) -/
 | tup (xs:List V)
 /-- a dict whose keys are ints and texts;one whose keys are tuples of ints and texts (the empty one is both) -/
 | dK (kvs:List (Key×V)) | dT (kvs:List (List Key×V))
 /-- a set of ints: its members,its size -/
 | set (S:Int->Bool) (n:Nat)
 /-- an instance of the class at C,its dict at dx,its attributes -/
 | ins (C dx:Addr) (fs:List (Str×V))
 /-- the dict of the instance at x -/
 | own (x:Addr)
 /-- the dict of an exception -/
 | xd (fs:List (Str×V))
 /-- a bound method,f of x -/
 | met (f x:Addr)
 /-- a range object lo,lo+1,.. below hi -/
 | rng (lo hi:Int)
 /-- a thing that is known to the object (the script;a dict while a loop walks it): read,never written while it is so -/
 | frz (o:Obj) (u:HO)
 /-- a code object's table -/
 | tbl (ps:Array Value)
 /-- any other thing,by what is true of its one object (a def of one's own: ja a S n:=HO.ext fun h=>..) -/
 | ext (φ:Heap->Prop)
abbrev Hp:=Addr->Option HO
def upd(H:Hp)(a:Addr)(o:HO):Hp:=fun b=>if b=a then some o else H b
theorem aY{H:Hp}{a:Addr}{o:HO}:upd H a o a=some o:=by unfold upd;rw[if_pos rfl]
theorem aL{H:Hp}{a b:Addr}{o:HO}(h:b≠a):upd H a o b=H b:=by unfold upd;rw[if_neg h]
theorem du{H:Hp}{a b:Addr}{o u:HO}(h:H a=some o)(h':H b=some u)(d:o≠u):a≠b:=by
 intro e;subst e;rw[h]at h';exact d (Option.some.inj h')
theorem cB{H:Hp}{a b:Addr}{o:HO}(h:H a=some o)(h':H b=none):a≠b:=by
 intro e;subst e;rw[h]at h';cases h'
section
variable (P:Program) (w:World)
def bp(H:Hp)(h:Heap)(a:Addr):HO->Prop
 | .lst xs=>xs.length<=sizeLine/\∃(its:List Value) (n:Nat),Vals xs its/\h.get? a=some { cls:=.type "list",data:=.seq its.toArray n }
 | .tup xs=>xs.length<=sizeLine/\∃its:List Value,Vals xs its/\IsTup h a its.toArray
 | .dK kvs=>kvs.length<=sizeLine/\(a == sysModules)=false/\∃vs,KV kvs vs/\h.DictOf (aE P w) a vs
 | .dT kvs=>kvs.length<=sizeLine/\(a == sysModules)=false/\∃xs:List (List Key×Addr×Value),
   Paired (fun(p:List Key×V) (q:List Key×Addr×Value)=>p.1=q.1/\H q.2.1=some (.tup (p.1.map kV))/\RelV p.2 q.2.2) kvs xs ∧
   ∃o es ep,h.get? a=some o/\o.ExactDict/\o.data=.dict es ep/\es.toList=xs.map (entryOfKey (tupleKind (aE P w)))/\(xs.map (·.1)).Nodup
 | .set S n=>h.SetOf (intKind P w) a S n
 | .ins C dx fs=>H dx=some (.own a)/\fs.length<=1000/\dx≠a/\h.get? a=some (PySem.W.instObj C dx) ∧
   ∃mA,h.Ns1 dx mA/\(∀f,dg (fs.lookup f) (mA f))/\PySem.Within mA (fs.map (·.1))
 | .own _=>∃o,h.get? a=some o
 | .xd fs=>∃mA,h.Ns1 a mA/\∀f,dg (fs.lookup f) (mA f)
 | .rng lo hi=>∃t u v,h.get? a=some { cls:=.type "range",data:=.fields #[.int lo t,.int hi u,.int 1 v] }
 | .frz o u=>h.get? a=some o/\bp H h a u
 | .tbl ps=>h.get? a=some { cls:=.none,data:=.fields ps }
 | .met f x=>h.get? a=some (PySem.W.methodObj (.ref f) (.ref x))
 | .ext φ=>φ h/\(∃o,h.get? a=some o)/\∀h1 h2:Heap,φ h1->(∀o,h1.get? a=some o->h2.get? a=some o)->φ h2
def bj(H:Hp)(h:Heap):Prop:=∀a o,H a=some o->bp P w H h a o
end
section
variable {P:Program} {w:World} {H H':Hp} {h h':Heap} {a:Addr} {o:HO}
theorem bp.lt(x:bp P w H h a o):a<h.objs.size:=by
 cases o with
 | lst xs=>obtain⟨_,_,_,_,e⟩:=x;exact EH e
 | tup xs=>obtain⟨_,_,_,p⟩:=x;exact p.lt
 | dK kvs=>obtain⟨_,_,_,_,o,_,_,e,_⟩:=x;exact EH e
 | dT kvs=>obtain⟨_,_,_,_,o,_,_,e,_⟩:=x;exact EH e
 | set S n=>obtain⟨o,_,_,_,e,_⟩:=x;exact EH e
 | ins C dx fs=>obtain⟨_,_,_,e,_⟩:=x;exact EH e
 | own y=>obtain⟨_,e⟩:=x;exact EH e
 | xd fs=>obtain⟨_,⟨_,_,_,e,_⟩,_⟩:=x;exact EH e
 | rng lo hi=>obtain⟨_,_,_,e⟩:=x;exact EH e
 | frz ob u=>obtain⟨e,_⟩:=x;exact EH e
 | tbl ps=>exact EH (show h.get? a=some _ from x)
 | met f y=>exact EH (show h.get? a=some _ from x)
 | ext φ=>obtain⟨_,⟨_,e⟩,_⟩:=x;exact EH e
theorem Paired.mapP{α β:Type}{F G:α->β->Prop}:∀{l₁:List α} {l₂:List β},Paired F l₁ l₂->(∀a b,F a b->G a b)->Paired G l₁ l₂
 | _,_,.nil,_=>.nil
 | _,_,.cons r t,f=>.cons (f _ _ r) (Paired.mapP t f)
theorem bp.stay(x:bp P w H h a o)(k:∀b u,(b=a\/H b=some (.own a))->h.get? b=some u->h'.get? b=some u)
  (ho:∀b,H b=some (.own a)->H' b=some (.own a)) (ht:∀b xs,H b=some (.tup xs)->H' b=some (.tup xs)):bp P w H' h' a o:=by
 induction o with
 | lst xs=>obtain⟨z,its,n,r,e⟩:=x;exact⟨z,its,n,r,k _ _ (.inl rfl) e⟩
 | tup xs=>obtain⟨z,its,r,ob,e,c⟩:=x;exact⟨z,its,r,ob,k _ _ (.inl rfl) e,c⟩
 | dK kvs=>obtain⟨z,y,vs,r,ob,es,ep,e,c⟩:=x;exact⟨z,y,vs,r,ob,es,ep,k _ _ (.inl rfl) e,c⟩
 | dT kvs=>
  obtain⟨z,y,xs,r,ob,es,ep,e,c⟩:=x
  exact⟨z,y,xs,Paired.mapP r fun p q z=>⟨z.1,ht _ _ z.2.1,z.2.2⟩,ob,es,ep,k _ _ (.inl rfl) e,c⟩
 | set S n=>obtain⟨ob,es,ep,t,e,c⟩:=x;exact⟨ob,es,ep,t,k _ _ (.inl rfl) e,c⟩
 | ins C dx fs=>
  obtain⟨d,z,ne,e,mA,⟨od,es,ep,e2,c⟩,r⟩:=x
  exact⟨ho _ d,z,ne,k _ _ (.inl rfl) e,mA,⟨od,es,ep,k _ _ (.inr d) e2,c⟩,r⟩
 | own y=>obtain⟨ob,e⟩:=x;exact⟨ob,k _ _ (.inl rfl) e⟩
 | xd fs=>obtain⟨mA,⟨od,es,ep,e,c⟩,r⟩:=x;exact⟨mA,⟨od,es,ep,k _ _ (.inl rfl) e,c⟩,r⟩
 | rng lo hi=>obtain⟨t,u,v,e⟩:=x;exact⟨t,u,v,k _ _ (.inl rfl) e⟩
 | frz ob u ih=>obtain⟨e,q⟩:=x;exact⟨k _ _ (.inl rfl) e,ih q⟩
 | tbl ps=>
  have e:h.get? a=some { cls:=.none,data:=.fields ps }:=x
  show h'.get? a=some { cls:=.none,data:=.fields ps }
  exact k a _ (.inl rfl) e
 | met f y=>
  have e:h.get? a=some (PySem.W.methodObj (.ref f) (.ref y)):=x
  show h'.get? a=some (PySem.W.methodObj (.ref f) (.ref y))
  exact k a _ (.inl rfl) e
 | ext φ=>obtain⟨p,⟨o,e⟩,st⟩:=x;exact⟨st _ _ p fun o q=>k _ _ (.inl rfl) q,⟨o,k _ _ (.inl rfl) e⟩,st⟩
theorem bj.lt(x:bj P w H h)(e:H a=some o):a<h.objs.size:=(x a o e).lt
theorem bj.fresh(x:bj P w H h)(e:h.objs.size<=a):H a=none:=by
 cases q:H a with
 | none=>rfl
 | some u=>exact absurd (Nat.lt_of_lt_of_le (x.lt q) e) (Nat.lt_irrefl _)
theorem bj.kept(x:bj P w H h)(k:∀b u,h.get? b=some u->h'.get? b=some u):bj P w H h':=fun a o e=>
 (x a o e).stay (fun b u _ q=>k b u q) (fun _ q=>q) fun _ _ q=>q
theorem bj.laid(x:bj P w H h)(k:∀b u,h.get? b=some u->h'.get? b=some u)(hp:h.objs.size<=a)(new:bp P w (upd H a o) h' a o):bj P w (upd H a o) h':=fun b u e=>by
 have hn:=x.fresh hp
 by_cases hb:b=a
 ·subst hb;rw[aY]at e;cases e;exact new
 ·rw[aL hb]at e
  exact(x b u e).stay (fun c v _ q=>k c v q) (fun c q=>by rw[aL (cB q hn)];exact q) fun c xs q=>by rw[aL (cB q hn)];exact q
end
def Rd(H:Hp)(a:Addr)(u:HO):Prop:=H a=some u\/∃o,H a=some (.frz o u)
theorem Rd.ok{P:Program}{w:World}{H:Hp}{h:Heap}{a:Addr}{u:HO}(r:Rd H a u)(x:bj P w H h):bp P w H h a u:=by
 rcases r with r | ⟨o,r⟩
 ·exact x a u r
 ·obtain⟨_,q⟩:=x a _ r
  exact q
def ij:Option HO->Prop
 | some (.lst _)=>True
 | some (.dK _)=>True
 | some (.dT _)=>True
 | some (.set _ _)=>True
 | some (.ins _ _ _)=>True
 | some (.ext _)=>True
 | _=>False
section
variable {P:Program} {w:World} {H:Hp} {h h':Heap} {x e:Addr} {o':HO}
theorem bj.write(ok:bj P w H h)(mu:ij (H x))(he:e=x\/H e=some (.own x))(k:∀b u,b≠e->h.get? b=some u->h'.get? b=some u)(heo:∃u,h'.get? e=some u)
  (new:bp P w (upd H x o') h' x o'):bj P w (upd H x o') h':=fun b u q=>by
 have nown:∀c y,H c=some (.own y)->c≠x:=fun c y r z=>by subst z;rw[r]at mu;exact mu
 have ntup:∀c xs,H c=some (.tup xs)->c≠x:=fun c xs r z=>by subst z;rw[r]at mu;exact mu
 by_cases hb:b=x
 ·subst hb;rw[aY]at q;cases q;exact new
 ·rw[aL hb]at q
  by_cases hbe:b=e
  ·have q':H b=some (.own x):=by
    rcases he with z | z
    ·exact absurd (hbe.trans z) hb
    ·rw[hbe];exact z
   rw[q]at q';cases q'
   obtain⟨v,hv⟩:=heo
   exact⟨v,by rw[hbe];exact hv⟩
  ·refine(ok b u q).stay (fun c v hc r=>k c v ?_ r) (fun c r=>by rw[aL (nown c b r)];exact r) fun c xs r=>by rw[aL (ntup c xs r)];exact r
   rcases hc with rfl | hc
   ·exact hbe
   ·rintro rfl
    rcases he with z | z
    ·exact nown c b hc z
    ·rw[hc]at z;cases z;exact hb rfl
end
structure Un(fs ex:List Addr)(H H':Hp)(h h':Heap):Prop where
 keep:∀b o,h.get? b=some o->H b=none->b∉fs->b∉ex->h'.get? b=some o
 slot:∀b o,h.get? b=some o->H b=none->b∈fs->b∉ex->∃sl,h'.get? b=some { o with slots:=sl }
 free:∀b o,h.get? b=some o->H b=none->b∉ex->H' b=none
 there:∀b o,h.get? b=some o->b∉ex->∃o',h'.get? b=some o'
 tups:∀b xs,H b=some (.tup xs)->H' b=some (.tup xs)
 frzs:∀b o u,H b=some (.frz o u)->H' b=some (.frz o u)
 tbls:∀b ps,H b=some (.tbl ps)->∃more,H' b=some (.tbl (ps++more))
section
variable {fs fs' ex ex':List Addr} {H H1 H2:Hp} {h h1 h2 h':Heap} {a x e:Addr} {o:HO}
theorem Un.any(u:Un fs ex H H1 h h1){b:Addr}{ob:Obj}(q:h.get? b=some ob)(n:H b=none)(hx:b∉ex):∃sl,h1.get? b=some { ob with slots:=sl }:=by
 by_cases hb:b∈fs
 ·exact u.slot b ob q n hb hx
 ·exact⟨ob.slots,u.keep b ob q n hb hx⟩
theorem Un.kept(k:∀b u,h.get? b=some u->h'.get? b=some u):Un fs ex H H h h':=
 ⟨fun b ob q _ _ _=>k b ob q,fun b ob q _ _ _=>⟨ob.slots,k b ob q⟩,fun _ _ _ n _=>n,fun b ob q _=>⟨ob,k b ob q⟩,fun _ _ q=>q,fun _ _ _ q=>q,fun _ ps q=>⟨#[],by rw[q];simp⟩⟩
theorem Un.refl:Un fs ex H H h h:=Un.kept fun _ _ q=>q
theorem Un.laid(k:∀b u,h.get? b=some u->h'.get? b=some u)(hp:h.objs.size<=a)(hn:H a=none):Un fs ex H (upd H a o) h h' where
 keep:=fun b u q _ _ _=>k b u q
 slot:=fun b u q _ _ _=>⟨u.slots,k b u q⟩
 free:=fun b u q n _=>by rw[aL (Nat.ne_of_lt (Nat.lt_of_lt_of_le (EH q) hp))];exact n
 there:=fun b u q _=>⟨u,k b u q⟩
 tups:=fun b xs q=>by rw[aL (cB q hn)];exact q
 frzs:=fun b u xs q=>by rw[aL (cB q hn)];exact q
 tbls:=fun b ps q=>⟨#[],by rw[aL (cB q hn),q];simp⟩
theorem Un.write(mu:ij (H x))(he:e=x\/H e=some (.own x))(k:∀b u,b≠e->h.get? b=some u->h'.get? b=some u)(heo:∃u,h'.get? e=some u):Un fs ex H (upd H x o) h h':=by
 have hx:∀b,H b=none->b≠x:=fun b n z=>by subst z;rw[n]at mu;exact mu
 have hb:∀b,H b=none->b≠e:=fun b n z=>by
  subst z
  rcases he with r | r
  ·exact hx b n r
  ·rw[n]at r;cases r
 have hm:∀b u,H b=some u->¬ij (some u)->b≠x:=fun b u q nm z=>by subst z;rw[q]at mu;exact nm mu
 refine⟨fun b u q n _ _=>k b u (hb b n) q,fun b u q n _ _=>⟨u.slots,k b u (hb b n) q⟩,fun b u q n _=>by rw[aL (hx b n)];exact n,fun b u q _=>?_,
  fun b xs q=>by rw[aL (hm b _ q fun z=>z)];exact q,fun b u xs q=>by rw[aL (hm b _ q fun z=>z)];exact q,fun b ps q=>⟨#[],by rw[aL (hm b _ q fun z=>z),q];simp⟩⟩
 by_cases hbe:b=e
 ·subst hbe;exact heo
 ·exact⟨u,k b u hbe q⟩
end
def fc(h:Heap)(H:Hp):List Addr:=(List.range h.objs.size).filter fun a=>(H a).isSome
def eO(h:Heap)(H:Hp):Heap:=PySem.W.hideAll h (fc h H)
theorem An(h:Heap)(H:Hp):(eO h H).objs.size=h.objs.size:=PySem.W.hideAll_size _ _
theorem xB{h:Heap}{H:Hp}{b:Addr}{o:Obj}(e:h.get? b=some o)(n:H b=none):(eO h H).get? b=some o:=
 PySem.W.hideAll_get _ e fun hm=>by
  have q:(H b).isSome=true:=(List.mem_filter.mp hm).2
  rw[n]at q;simp at q
theorem Bl{h:Heap}{H:Hp}{b:Addr}{o:Obj}(e:(eO h H).get? b=some o):h.get? b=some o/\H b=none:=by
 have e':h.get? b=some o:=PySem.W.of_hideAll (fc h H) e
 refine⟨e',?_⟩
 cases q:H b with
 | none=>rfl
 | some x=>
  have hm:b∈fc h H:=List.mem_filter.mpr ⟨List.mem_range.mpr (EH e'),by simp[q]⟩
  have z:(eO h H).get? b=none:=PySem.W.hideAll_none (fc h H) hm
  rw[z]at e;cases e
end L2
namespace L2
open PySem PySem.Spec PyProof.Rows
structure Mod(K:EE)(mg:Str->Option Value)(base:Heap):Prop where
 kin:K.In base
 glob:base.Ns mainGlobals mg
 blt:∃mb,base.Ns builtinsNs mb/\∀x:Str,x≠"__name__"->mb x=bootBuiltins x
 nolimit:base.NoLimit
structure Cx where
 prog:Program
 w:World
 K:EE
 mg:Str->Option Value
 base:Heap
 A:Around
 N:List Str
 s₀:Shared
 H₀:Hp
 env:Env
 outer:List Env
 stack:List Env
 ex:List Addr
 fn:Str->Bool
 calm:Bool
 pn:List (Addr×Obj)
 xe:Value->Shared->Prop
def aX(l:List Env):List Addr:=l.filterMap (·.frame)
abbrev Cx.fs(X:Cx):List Addr:=aX X.outer
def i8(sc:Scope)(x:Str):Prop:=sc.names.lookup x=some .local\/sc.names.lookup x=some .cell\/sc.names.lookup x=some .free
def Loc(sc:Scope)(x:Str):Prop:=sc.names.lookup x=some .local\/sc.names.lookup x=some .cell
def Look(env:Env)(h:Heap)(m:Str->Option Value)(x:Str)(u:Value):Prop:=
 (env.kindOf x=some .local/\m x=some u)\/((env.kindOf x=some .cell\/env.kindOf x=some .free)/\∃c,env.cells.lookup x=some c/\h.IsCell c (some u))
structure Cx.Ok(X:Cx):Prop where
 mod:Mod X.K X.mg X.base
 kind:X.env.scope.kind=.function
 glob:X.env.globals=mainGlobals
 blt:X.env.builtins=builtinsNs
 above:X.s₀.heap.objs.size<=X.env.locals
 inj:∀x y c,X.env.cells.lookup x=some c->X.env.cells.lookup y=some c->x=y
 has:∀x,(X.env.kindOf x=some .cell\/X.env.kindOf x=some .free)->∃c,X.env.cells.lookup x=some c
 cab:∀x c,X.fn x=true->X.env.cells.lookup x=some c->X.s₀.heap.objs.size<=c
 hd:X.calm=true->X.A.handled=none
 frames:X.A.frames=some X.stack
 stk:X.stack=X.outer\/(X.stack=X.env::X.outer/\X.env.frame=some X.env.locals)
 exf:∀b∈X.ex,b≠X.env.locals/\∀x c,X.env.cells.lookup x=some c->c≠b
 bs:∀b o,X.base.get? b=some o->X.s₀.heap.get? b=some o/\X.H₀ b=none
 bsz:X.base.objs.size<=X.s₀.heap.objs.size
 noex:∀b o,X.base.get? b=some o->b∉X.ex
 exfs:∀b∈X.ex,b∉X.fs
 funs:X.s₀.heap.FunFrames X.base X.outer
 frf:∀b∈X.fs,X.H₀ b=none
structure Inv(X:Cx)(pins:List (Addr×Obj))(σ:List (Option V))(H:Hp)(s:Shared):Prop where
 ok:X.Ok
 os:s.os=X.s₀.os
 bare:AllBare s.gens
 base:Un X.fs X.ex X.H₀ H X.s₀.heap s.heap
 loc:∃m,s.heap.Ns X.env.locals m/\∀(i:Nat) (x:Str) (v:V),X.N[i]?=some x->σ[i]?=some (some v)->i8 X.env.scope x->∃u,RelV v u/\Look X.env s.heap m x u
 cell:∀x c,X.env.cells.lookup x=some c->∃v,s.heap.IsCell c v
 free:H X.env.locals=none
 freeC:∀x c,X.env.cells.lookup x=some c->H c=none
 pin:∀p∈X.pn++pins,s.heap.get? p.1=some p.2/\H p.1=none/\p.1≠X.env.locals/\p.1∉X.fs/\∀v,p.2.data≠.cell v
 hok:bj X.prog X.w H s.heap
 len:σ.length=X.N.length
section
variable {X:Cx} {pins:List (Addr×Obj)} {σ:List (Option V)} {H H':Hp} {s:Shared} {h':Heap}
theorem Cx.Ok.nofr(ok:X.Ok){b:Addr}{o:Obj}(e:X.base.get? b=some o):b∉X.fs:=fun hb=>by
 have:=(ok.funs.mem hb).1
 rw[e]at this;cases this
theorem Inv.bs(I:Inv X pins σ H s):∀b o,X.base.get? b=some o->s.heap.get? b=some o/\H b=none:=fun b o e=>
 ⟨I.base.keep b o (I.ok.bs b o e).1 (I.ok.bs b o e).2 (I.ok.nofr e) (I.ok.noex b o e),I.base.free b o (I.ok.bs b o e).1 (I.ok.bs b o e).2 (I.ok.noex b o e)⟩
theorem Inv.bk(I:Inv X pins σ H s):∀b o,X.base.get? b=some o->s.heap.get? b=some o:=fun b o e=>(I.bs b o e).1
theorem Inv.mod(I:Inv X pins σ H s):Mod X.K X.mg X.base:=I.ok.mod
theorem Inv.kIn(I:Inv X pins σ H s):X.K.In s.heap:=I.ok.mod.kin.keeps I.bk
theorem Inv.lt(I:Inv X pins σ H s):X.env.locals<s.heap.objs.size:=let ⟨_,hn,_⟩:=I.loc;hn.lt
theorem Inv.sz(I:Inv X pins σ H s):X.s₀.heap.objs.size<=s.heap.objs.size:=Nat.le_trans I.ok.above (Nat.le_of_lt I.lt)
theorem Inv.nofs(I:Inv X pins σ H s){a:Addr}(h:s.heap.objs.size<=a):a∉X.fs:=fun hb=>by
 obtain⟨_,o,ho,_⟩:=I.ok.funs.mem hb
 exact absurd (Nat.lt_of_lt_of_le (EH ho) (Nat.le_trans I.sz h)) (Nat.lt_irrefl _)
theorem Inv.cne(I:Inv X pins σ H s):∀x c,X.env.cells.lookup x=some c->c≠X.env.locals:=fun x c e z=>by
 obtain⟨v,o,ho,hd⟩:=I.cell x c e
 obtain⟨m,⟨o',es,ep,ho',hd',_⟩,_⟩:=I.loc
 rw[z,ho']at ho;cases ho;rw[hd']at hd;cases hd
theorem Inv.funs(I:Inv X pins σ H s):s.heap.FunFrames X.base X.outer:=by
 have all:∀(l:List Env),(∀b∈aX l,b∈X.fs)->X.s₀.heap.FunFrames X.base l->s.heap.FunFrames X.base l:=by
  intro l
  induction l with
  | nil=>intro _ _;trivial
  | cons env r ih=>
   intro hs hl
   obtain⟨hk,⟨L,o,hf,hn,ho,hd⟩,hr⟩:=hl
   have hL:L∈X.fs:=hs L (by unfold aX;rw[List.filterMap_cons,hf];exact EO)
   obtain⟨sl,e⟩:=I.base.slot L o ho (I.ok.frf L hL) hL fun z=>I.ok.exfs L z hL
   exact⟨hk,⟨L,_,hf,hn,e,hd⟩,ih (fun b hb=>hs b (by unfold aX;rw[List.filterMap_cons,hf];exact EL _ hb)) hr⟩
 exact all X.outer (fun _ hb=>hb) I.ok.funs
theorem Inv.stack(I:Inv X pins σ H s):s.heap.FunFrames X.base X.stack:=by
 rcases I.ok.stk with e | ⟨e,hf⟩
 ·rw[e];exact I.funs
 ·rw[e]
  obtain⟨m,hn,_⟩:=I.loc
  refine .cons (by rw[I.ok.kind];decide) hf hn ?_ I.funs
  exact Heap.get?_none_of_le (Nat.le_trans I.ok.bsz I.ok.above)
theorem Inv.stkSub(I:Inv X pins σ H s):∀b∈aX X.stack,b∈X.env.locals::X.fs:=fun b hb=>by
 rcases I.ok.stk with e | ⟨e,hf⟩
 ·rw[e]at hb;exact EL _ hb
 ·rw[e]at hb
  unfold aX at hb
  rw[List.filterMap_cons,hf]at hb
  exact hb
theorem Inv.stkFree(I:Inv X pins σ H s):∀b∈aX X.stack,H b=none:=fun b hb=>by
 rcases List.mem_cons.mp (I.stkSub b hb)with e | hb
 ·rw[e];exact I.free
 ·obtain⟨_,o,ho,_⟩:=I.ok.funs.mem hb
  exact I.base.free b o ho (I.ok.frf b hb) fun z=>I.ok.exfs b z hb
theorem Inv.step{g':Array GenState}{t':Nat}{d':Drawn}{ch:List Addr}(I:Inv X pins σ H s)
  (hch:∀b∈ch,(b∈X.ex\/X.s₀.heap.objs.size<=b)/\b≠X.env.locals/\(∀x c,X.env.cells.lookup x=some c->c≠b)/\∀p∈X.pn++pins,p.1≠b)
  (keep:∀b o,b≠X.env.locals->b∉X.fs->b∉ch->s.heap.get? b=some o->H b=none->h'.get? b=some o)
  (slot:∀b o,b≠X.env.locals->b∈X.fs->b∉ch->s.heap.get? b=some o->H b=none->∃sl,h'.get? b=some { o with slots:=sl }) (free:∀b o,b∉ch->s.heap.get? b=some o->H b=none->H' b=none)
  (there:∀b o,b∉ch->s.heap.get? b=some o->∃o',h'.get? b=some o')
  (tups:∀b xs,H b=some (.tup xs)->H' b=some (.tup xs)) (frzs:∀b o u,H b=some (.frz o u)->H' b=some (.frz o u)) (tbls:∀b ps,H b=some (.tbl ps)->∃more,H' b=some (.tbl (ps++more)))
  (ns:∀m,s.heap.Ns X.env.locals m->h'.Ns X.env.locals m) (hok:bj X.prog X.w H' h') (hg:AllBare g') :
  Inv X pins σ H' { s with heap:=h',gens:=g',drawn:=d',toks:=t' }:=by
 have neL:∀b o,X.s₀.heap.get? b=some o->b≠X.env.locals:=fun b o e=>Nat.ne_of_lt (Nat.lt_of_lt_of_le (EH e) I.ok.above)
 have neC:∀b o,X.s₀.heap.get? b=some o->b∉X.ex->b∉ch:=fun b o e hx hb=>by
  rcases(hch b hb).1 with z | z
  ·exact hx z
  ·exact absurd (Nat.lt_of_lt_of_le (EH e) z) (Nat.lt_irrefl _)
 have cellK:∀x c,X.env.cells.lookup x=some c->∀v,s.heap.IsCell c v->h'.IsCell c v:=fun x c e v ⟨o,ho,hd⟩=>by
  have nch:c∉ch:=fun z=>(hch c z).2.2.1 x c e rfl
  by_cases hc:c∈X.fs
  ·obtain⟨sl,q⟩:=slot c o (I.cne x c e) hc nch ho (I.freeC x c e)
   exact⟨_,q,hd⟩
  ·exact⟨o,keep c o (I.cne x c e) hc nch ho (I.freeC x c e),hd⟩
 refine⟨I.ok,I.os,hg,⟨fun b o e n hb hx=>?_,fun b o e n hb hx=>?_,fun b o e n hx=>?_,fun b o e hx=>?_,fun b xs e=>tups b xs (I.base.tups b xs e),fun b o xs e=>frzs b o xs (I.base.frzs b o xs e),fun b ps e=>?_⟩,?_,fun x c e=>?_,?_,fun x c e=>?_,fun p hp=>?_,hok,I.len⟩
 ·exact keep b o (neL b o e) hb (neC b o e hx) (I.base.keep b o e n hb hx) (I.base.free b o e n hx)
 ·obtain⟨sl,e1⟩:=I.base.slot b o e n hb hx
  obtain⟨sl',e2⟩:=slot b _ (neL b o e) hb (neC b o e hx) e1 (I.base.free b o e n hx)
  exact⟨sl',e2⟩
 ·obtain⟨o',e1⟩:=I.base.there b o e hx
  exact free b o' (neC b o e hx) e1 (I.base.free b o e n hx)
 ·obtain⟨o',e1⟩:=I.base.there b o e hx
  exact there b o' (neC b o e hx) e1
 ·obtain⟨m1,e1⟩:=I.base.tbls b ps e
  obtain⟨m2,e2⟩:=tbls b _ e1
  exact⟨m1++m2,by rw[e2,Array.append_assoc]⟩
 ·obtain⟨m,hn,hl⟩:=I.loc
  refine⟨m,ns m hn,fun i x v e1 e2 e3=>?_⟩
  obtain⟨u,r,l⟩:=hl i x v e1 e2 e3
  refine⟨u,r,?_⟩
  rcases l with l | ⟨k,c,e,z⟩
  ·exact .inl l
  ·exact .inr ⟨k,c,e,cellK x c e _ z⟩
 ·obtain⟨v,z⟩:=I.cell x c e
  exact⟨v,cellK x c e v z⟩
 ·obtain⟨m,⟨o,_,_,ho,_⟩,_⟩:=I.loc
  exact free _ o (fun z=>(hch _ z).2.1 rfl) ho I.free
 ·obtain⟨v,o,ho,hd⟩:=I.cell x c e
  exact free c o (fun z=>(hch c z).2.2.1 x c e rfl) ho (I.freeC x c e)
 ·obtain⟨e,n,ne,nf,d⟩:=I.pin p hp
  have nch:p.1∉ch:=fun z=>(hch p.1 z).2.2.2 p hp rfl
  exact⟨keep p.1 p.2 ne nf nch e n,free p.1 p.2 nch e n,ne,nf,d⟩
theorem Inv.un{t':Nat}(I:Inv X pins σ H s)(u:Un X.fs [] H H' s.heap h')(hok:bj X.prog X.w H' h'):Inv X pins σ H' { s with heap:=h',toks:=t' }:=by
 obtain⟨m,⟨o,es,ep,ho,r⟩,_⟩:=id I.loc
 obtain⟨sl,hL⟩:=u.any ho I.free (by simp)
 exact I.step (g':=s.gens) (d':=s.drawn) (ch:=[]) (fun _ z=>nomatch z) (fun b o _ hb _ e n=>u.keep b o e n hb (by simp)) (fun b o _ hb _ e n=>u.slot b o e n hb (by simp)) (fun b o _ e n=>u.free b o e n (by simp)) (fun b o _ e=>u.there b o e (by simp)) u.tups u.frzs u.tbls (fun m' hm=>by
  obtain⟨o',es',ep',ho',r'⟩:=hm
  rw[ho]at ho';cases ho'
  exact⟨_,es',ep',hL,r'⟩) hok I.bare
theorem Inv.call{g':Array GenState}{t':Nat}{d':Drawn}{ch:List Addr}(I:Inv X pins σ H s)(u:Un (aX X.stack) ch H H' s.heap h')(hok:bj X.prog X.w H' h')(hg:AllBare g')
  (hch:∀b∈ch,(b∈X.ex\/X.s₀.heap.objs.size<=b)/\b≠X.env.locals/\(∀x c,X.env.cells.lookup x=some c->c≠b)/\∀p∈X.pn++pins,p.1≠b) :
  Inv X pins σ H' { s with heap:=h',gens:=g',drawn:=d',toks:=t' }:=by
 obtain⟨m,⟨o,es,ep,ho,r⟩,_⟩:=id I.loc
 obtain⟨sl,hL⟩:=u.any ho I.free fun z=>(hch _ z).2.1 rfl
 exact I.step (ch:=ch) hch (fun b o hL hb hc e n=>u.keep b o e n (fun z=>(List.mem_cons.mp (I.stkSub b z)).elim hL hb) hc) (fun b o _ _ hc e n=>u.any e n hc) (fun b o hc e n=>u.free b o e n hc) (fun b o hc e=>u.there b o e hc) u.tups u.frzs u.tbls (fun m' hm=>by
  obtain⟨o',es',ep',ho',r'⟩:=hm
  rw[ho]at ho';cases ho'
  exact⟨_,es',ep',hL,r'⟩) hok hg
theorem Inv.turned{t':Nat}{it:Addr}(I:Inv X pins σ H s)(k:∀b o,b≠it->s.heap.get? b=some o->h'.get? b=some o)(hn:H it=none)(hL:it≠X.env.locals)
  (h1:it∈X.ex\/X.s₀.heap.objs.size<=it) (h2:∀x c,X.env.cells.lookup x=some c->c≠it) (h3:∀p∈X.pn++pins,p.1≠it):Inv X pins σ H { s with heap:=h',toks:=t' }:=by
 have nit:∀b u,H b=some u->b≠it:=fun b u e z=>by rw[z,hn]at e;cases e
 refine I.step (g':=s.gens) (d':=s.drawn) (ch:=[it]) (fun b hb=>?_) (fun b o _ _ hc e _=>k b o (fun z=>hc (by simp[z])) e) (fun b o _ _ hc e _=>⟨o.slots,k b o (fun z=>hc (by simp[z])) e⟩) (fun _ _ _ _ n=>n)
  (fun b o hc e=>⟨o,k b o (fun z=>hc (by simp[z])) e⟩) (fun _ _ e=>e) (fun _ _ _ e=>e) (fun b ps e=>⟨#[],by rw[e];simp⟩) (fun m hm=>?_) (fun b u e=>?_) I.bare
 ·have e:b=it:=by simpa using hb
  subst e
  exact⟨h1,hL,h2,h3⟩
 ·obtain⟨o,es,ep,ho,r⟩:=hm
  exact⟨o,es,ep,k _ o (Ne.symm hL) ho,r⟩
 ·refine(I.hok b u e).stay (fun c v hc q=>k c v ?_ q) (fun _ q=>q) fun _ _ q=>q
  rcases hc with z | z
  ·rw[z];exact nit b u e
  ·exact nit c _ z
theorem Inv.tok(I:Inv X pins σ H s)(t:Nat):Inv X pins σ H { s with toks:=t }:=I.un (h':=s.heap) (t':=t) Un.refl I.hok
theorem Inv.kept{t':Nat}(I:Inv X pins σ H s)(k:∀b u,s.heap.get? b=some u->h'.get? b=some u):Inv X pins σ H { s with heap:=h',toks:=t' }:=I.un (Un.kept k) (I.hok.kept k)
theorem Inv.laid{a:Addr}{o:HO}{t':Nat}(I:Inv X pins σ H s)(k:∀b u,s.heap.get? b=some u->h'.get? b=some u)(hp:s.heap.objs.size<=a)(new:bp X.prog X.w (upd H a o) h' a o):
  Inv X pins σ (upd H a o) { s with heap:=h',toks:=t' }:=I.un (Un.laid k hp (I.hok.fresh hp)) (I.hok.laid k hp new)
theorem Inv.write{x e:Addr}{o:HO}{t':Nat}(I:Inv X pins σ H s)(mu:ij (H x))(he:e=x\/H e=some (.own x))(k:∀b u,b≠e->s.heap.get? b=some u->h'.get? b=some u)(heo:∃u,h'.get? e=some u)
  (new:bp X.prog X.w (upd H x o) h' x o):Inv X pins σ (upd H x o) { s with heap:=h',toks:=t' }:=I.un (Un.write mu he k heo) (I.hok.write mu he k heo new)
theorem Inv.pins_of{pins':List (Addr×Obj)}(I:Inv X pins σ H s)(h:∀p∈pins',s.heap.get? p.1=some p.2/\H p.1=none/\p.1≠X.env.locals/\p.1∉X.fs/\∀v,p.2.data≠.cell v):Inv X pins' σ H s:=
 ⟨I.ok,I.os,I.bare,I.base,I.loc,I.cell,I.free,I.freeC,fun p hp=>(List.mem_append.mp hp).elim (fun z=>I.pin p (List.mem_append_left _ z)) (h p),I.hok,I.len⟩
theorem ni{N:List Str}(hN:N.Nodup){i j:Nat}{x:Str}(a:N[i]?=some x)(b:N[j]?=some x):i=j:=by
 obtain⟨h1,e1⟩:=List.getElem?_eq_some_iff.mp a
 obtain⟨h2,e2⟩:=List.getElem?_eq_some_iff.mp b
 exact(List.getElem_inj hN).mp (e1.trans e2.symm)
theorem sF{M:Model}{A:Around}{E:Value->Shared->Prop}{i:Nat}{x:Str}{v:V}{u:Value}{Q:Unit->Shared->Prop}(I:Inv X pins σ H s)(hN:X.N.Nodup)(hi:X.N[i]?=some x)(hx:Loc X.env.scope x)(r:RelV v u)
  (h:∀s',Inv X pins (σ.set i (some v)) H s'->(∃a,Heap.SameBut a s.heap s'.heap/\(a=X.env.locals\/X.env.cells.lookup x=some a))->Q () s') (hf:X.fn x=true\/X.env.scope.names.lookup x=some .local:=by first | exact .inl rfl | exact .inr rfl | assumption):wpAny M A (storeName X.env x u) Q E s:=by
 obtain⟨m,hn,hl⟩:=id I.loc
 have hcls:(X.env.scope.kind == .class || (X.env.scope.kind == .module && X.env.locals != X.env.globals))=false:=by rw[I.ok.kind];rfl
 have hiσ:i<σ.length:=by rw[I.len];exact(List.getElem?_eq_some_iff.mp hi).1
 have cne:=I.cne
 have tracked:∀{a:Addr} {h':Heap},(∃o,s.heap.get? a=some o/\H a=none)->Heap.SameBut a s.heap h'->bj X.prog X.w H h':=fun{a h'} ha hs b ob e=>by
  obtain⟨_,_,hfree⟩:=ha
  refine(I.hok b ob e).stay (fun c w' hc q=>(hs.2 c ?_).trans q) (fun _ q=>q) fun _ _ q=>q
  rintro rfl
  rcases hc with rfl | hc
  ·rw[hfree]at e;cases e
  ·rw[hfree]at hc;cases hc
 rcases hx with hk | hk
 ·refine wpAny_storeName_local hk hn (fun h' hn' hs=>?_) hcls
  obtain⟨oL,_,_,hoL,_⟩:=id hn
  refine h _ ⟨I.ok,I.os,I.bare,⟨fun b o e n hb hx=>?_,fun b o e n hb hx=>?_,I.base.free,fun b o e hx=>?_,I.base.tups,I.base.frzs,I.base.tbls⟩,⟨_,hn',fun j y v' e1 e2 e3=>?_⟩,fun y c e=>?_,I.free,I.freeC,fun p hp=>?_,tracked ⟨oL,hoL,I.free⟩ hs,by simpa using I.len⟩ ⟨_,hs,.inl rfl⟩
  ·exact(hs.2 b (Nat.ne_of_lt (Nat.lt_of_lt_of_le (EH e) I.ok.above))).trans (I.base.keep b o e n hb hx)
  ·obtain⟨sl,e1⟩:=I.base.slot b o e n hb hx
   exact⟨sl,(hs.2 b (Nat.ne_of_lt (Nat.lt_of_lt_of_le (EH e) I.ok.above))).trans e1⟩
  ·obtain⟨o',e1⟩:=I.base.there b o e hx
   exact⟨o',(hs.2 b (Nat.ne_of_lt (Nat.lt_of_lt_of_le (EH e) I.ok.above))).trans e1⟩
  ·by_cases hj:j=i
   ·subst hj
    rw[hi]at e1;cases e1
    rw[List.getElem?_set_self hiσ]at e2
    cases e2
    exact⟨u,r,.inl ⟨hk,by simp⟩⟩
   ·rw[List.getElem?_set_ne (Ne.symm hj)]at e2
    obtain⟨u',r',q⟩:=hl j y v' e1 e2 e3
    refine⟨u',r',?_⟩
    rcases q with⟨k,e⟩ | ⟨k,c,e,z⟩
    ·refine .inl ⟨k,?_⟩
     have:y≠x:=fun e=>hj (ni hN e1 (e ▸ hi))
     simp[this,e]
    ·exact .inr ⟨k,c,e,z.sameBut hs (cne y c e)⟩
  ·obtain⟨w',z⟩:=I.cell y c e
   exact⟨w',z.sameBut hs (cne y c e)⟩
  ·obtain⟨e,n,ne,nf,d⟩:=I.pin p hp
   exact⟨(hs.2 p.1 ne).trans e,n,ne,nf,d⟩
 ·have hfn:X.fn x=true:=by
   rcases hf with z | z
   ·exact z
   ·rw[z]at hk;cases hk
  obtain⟨c,hc⟩:=I.ok.has x (.inl hk)
  obtain⟨w',z⟩:=I.cell x c hc
  refine wpAny_storeName_cell I.ok.kind hk hc z (fun h' hc' hs=>?_)
  obtain⟨oc,hoc,hocd⟩:=id z
  refine h { s with heap:=h' } ⟨I.ok,I.os,I.bare,⟨fun b o e n hb hx=>?_,fun b o e n hb hx=>?_,I.base.free,fun b o e hx=>?_,I.base.tups,I.base.frzs,I.base.tbls⟩,⟨m,hn.sameBut hs (Ne.symm (cne x c hc)),fun j y v' e1 e2 e3=>?_⟩,fun y c' e=>?_,I.free,I.freeC,fun p hp=>?_,tracked ⟨oc,hoc,I.freeC x c hc⟩ hs,by simpa using I.len⟩ ⟨c,hs,.inr hc⟩
  ·exact(hs.2 b (Nat.ne_of_lt (Nat.lt_of_lt_of_le (EH e) (I.ok.cab x c hfn hc)))).trans (I.base.keep b o e n hb hx)
  ·obtain⟨sl,e1⟩:=I.base.slot b o e n hb hx
   exact⟨sl,(hs.2 b (Nat.ne_of_lt (Nat.lt_of_lt_of_le (EH e) (I.ok.cab x c hfn hc)))).trans e1⟩
  ·obtain⟨o',e1⟩:=I.base.there b o e hx
   exact⟨o',(hs.2 b (Nat.ne_of_lt (Nat.lt_of_lt_of_le (EH e) (I.ok.cab x c hfn hc)))).trans e1⟩
  ·by_cases hj:j=i
   ·subst hj
    rw[hi]at e1;cases e1
    rw[List.getElem?_set_self hiσ]at e2
    cases e2
    exact⟨u,r,.inr ⟨.inl hk,c,hc,hc'⟩⟩
   ·rw[List.getElem?_set_ne (Ne.symm hj)]at e2
    obtain⟨u',r',q⟩:=hl j y v' e1 e2 e3
    refine⟨u',r',?_⟩
    rcases q with q | ⟨k,c',e,z'⟩
    ·exact .inl q
    ·refine .inr ⟨k,c',e,z'.sameBut hs ?_⟩
     rintro rfl
     exact hj (ni hN e1 (I.ok.inj _ _ _ e hc ▸ hi))
  ·by_cases hcc:c'=c
   ·subst hcc;exact⟨_,hc'⟩
   ·obtain⟨w2,z2⟩:=I.cell y c' e
    exact⟨w2,z2.sameBut hs hcc⟩
  ·obtain⟨e,n,ne,nf,d⟩:=I.pin p hp
   refine⟨(hs.2 p.1 ?_).trans e,n,ne,nf,d⟩
   intro q
   rw[q,hoc]at e
   have q':oc=p.2:=Option.some.inj e
   exact d w' (by rw[←q'];exact hocd)
theorem gj{M:Model}{A:Around}{E:Value->Shared->Prop}{i:Nat}{x:Str}{v:V}{u:Value}{Q:Unit->Shared->Prop}(I:Inv X pins σ H s)(hN:X.N.Nodup)(hi:X.N[i]?=some x)(hx:Loc X.env.scope x)(r:RelV v u)
  (h:∀s',Inv X pins (σ.set i (some v)) H s'->Q () s') (hf:X.fn x=true\/X.env.scope.names.lookup x=some .local:=by first | exact .inl rfl | exact .inr rfl | assumption):wpAny M A (storeName X.env x u) Q E s:=
 sF I hN hi hx r (fun s' I' _=>h s' I') hf
theorem Inv.call'{s':Shared}{ch:List Addr}(I:Inv X pins σ H s)(ho:s'.os=s.os)(u:Un (aX X.stack) ch H H' s.heap s'.heap)(hok:bj X.prog X.w H' s'.heap)(hg:AllBare s'.gens)
  (hch:∀b∈ch,(b∈X.ex\/X.s₀.heap.objs.size<=b)/\b≠X.env.locals/\(∀x c,X.env.cells.lookup x=some c->c≠b)/\∀p∈X.pn++pins,p.1≠b):Inv X pins σ H' s':=by
 obtain⟨h',g',d',t',o'⟩:=s'
 have e:o'=s.os:=ho
 subst e
 exact I.call (g':=g') (t':=t') (d':=d') u hok hg hch
end
abbrev XK:=Value->Option Addr->Hp->Prop
abbrev St:=List (Option V)
abbrev VK:=V->Hp->Prop
abbrev TE:=St->Hp->VK->Prop
abbrev TT:=St->Hp->(Bool->Hp->Prop)->Prop
abbrev TA:=St->Hp->(List V->Hp->Prop)->Prop
structure Ends where
 nx:St->Hp->Prop
 rt:VK
 bk:St->Hp->Prop:=fun _ _=>False
 ct:St->Hp->Prop:=fun _ _=>False
abbrev TS:=Ends->St->Hp->Prop
def EP(X:Cx)(pins:List (Addr×Obj))(σ:St)(Q:VK)(u:Value)(s':Shared):Prop:=∃v H',Inv X pins σ H' s'/\RelV v u/\Q v H'
def TP(X:Cx)(pins:List (Addr×Obj))(σ:St)(Q:Bool->Hp->Prop)(b:Bool)(s':Shared):Prop:=∃H',Inv X pins σ H' s'/\Q b H'
def AP(X:Cx)(pins:List (Addr×Obj))(σ:St)(Q:List V->Hp->Prop)(us:List Value)(s':Shared):Prop:=∃vs H',Inv X pins σ H' s'/\Vals vs us/\Q vs H'
def SP(X:Cx)(pins:List (Addr×Obj))(D:Ends)(f:Flow)(s':Shared):Prop:=
 match f with
 | .next=>∃σ' H',Inv X pins σ' H' s'/\D.nx σ' H'
 | .brk=>∃σ' H',Inv X pins σ' H' s'/\D.bk σ' H'
 | .cont=>∃σ' H',Inv X pins σ' H' s'/\D.ct σ' H'
 | .ret u=>∃v σ' H',Inv X pins σ' H' s'/\RelV v u/\D.rt v H'
def PE(X:Cx)(e:Expr)(t:TE):Prop:=
 ∀(pins:List (Addr×Obj)) (s:Shared) (σ:St) (H:Hp) (Q:VK),Inv X pins σ H s->t σ H Q->wpAny (model X.prog X.w) X.A (eval e X.env) (EP X pins σ Q) X.xe s
def PT(X:Cx)(e:Expr)(t:TT):Prop:=
 ∀(pins:List (Addr×Obj)) (s:Shared) (σ:St) (H:Hp) (Q:Bool->Hp->Prop),Inv X pins σ H s->t σ H Q->wpAny (model X.prog X.w) X.A (isTrue e X.env (eval e X.env)) (TP X pins σ Q) X.xe s
def PW(X:Cx)(e:Expr)(t:TT):Prop:=
 ∀(whole:Sem Value) (pins:List (Addr×Obj)) (s:Shared) (σ:St) (H:Hp) (Q:Bool->Hp->Prop),Inv X pins σ H s->t σ H Q->wpAny (model X.prog X.w) X.A (isTrue e X.env whole) (TP X pins σ Q) X.xe s
theorem PW.pt{X:Cx}{e:Expr}{t:TT}(h:PW X e t):PT X e t:=h _
def PA(X:Cx)(es:List Expr)(t:TA):Prop:=
 ∀(pos:Pos) (pins:List (Addr×Obj)) (s:Shared) (σ:St) (H:Hp) (Q:List V->Hp->Prop),Inv X pins σ H s->t σ H Q->wpAny (model X.prog X.w) X.A (spliced (backTo pos (starEach es X.env))) (AP X pins σ Q) X.xe s
def PS(X:Cx)(st:Stmt)(t:TS):Prop:=
 ∀(pins:List (Addr×Obj)) (s:Shared) (σ:St) (H:Hp) (D:Ends),Inv X pins σ H s->t D σ H->wpAny (model X.prog X.w) X.A (exec st X.env) (SP X pins D) X.xe s
def b9(X:Cx)(st:List Stmt)(t:TS):Prop:=
 ∀(pins:List (Addr×Obj)) (s:Shared) (σ:St) (H:Hp) (D:Ends),Inv X pins σ H s->t D σ H->wpAny (model X.prog X.w) X.A (execs st X.env) (SP X pins D) X.xe s
theorem au{α:Type}{t:Sem α}{Q Q':α->Shared->Prop}{M:Model}{A:Around}{E:Value->Shared->Prop}{s:Shared}(h:wpAny M A t Q E s)(hQ:∀a s,Q a s->Q' a s):wpAny M A t Q' E s:=wpAny_mono h hQ fun _ _ x=>x
end L2
namespace L2
open PySem PySem.Spec PyProof.Rows
section
variable {X:Cx}
theorem bin{a b:Expr}{ta tb:TE}(ha:PE X a ta)(hb:PE X b tb){pins:List (Addr×Obj)}{s:Shared}{σ:St}{H:Hp}{R:V->V->Hp->Prop}(I:Inv X pins σ H s)(h:ta σ H fun x H1=>tb σ H1 fun y H2=>R x y H2)
  {α:Type} {Q:α->Shared->Prop} {f:Value->Value->Sem α}
  (hf:∀v u s2 x y H2,Inv X pins σ H2 s2->RelV x v->RelV y u->R x y H2->wpAny (model X.prog X.w) X.A (f v u) Q X.xe s2) :
  wpAny (model X.prog X.w) X.A (eval a X.env) (fun v s₁=>wpAny (model X.prog X.w) X.A (eval b X.env) (fun u s₂=>wpAny (model X.prog X.w) X.A (f v u) Q X.xe s₂) X.xe s₁) X.xe s:=by
 refine au (ha pins s σ H _ I h) fun v s1 ⟨x,H1,I1,r1,q1⟩=>?_
 refine au (hb pins s1 σ H1 _ I1 q1) fun u s2 ⟨y,H2,I2,r2,q2⟩=>?_
 exact hf v u s2 x y H2 I2 r1 r2 q2
def nJ(i:Nat):TE:=fun σ H Q=>∃v,σ[i]?=some (some v)/\Q v H
def tC(v:V):TE:=fun _ H Q=>Q v H
theorem Cn{i:Nat}{x:Str}{pos:Pos}(hN:X.N[i]?=some x)(hv:i8 X.env.scope x)(hd:(x == ("__debug__":Str))=false:=by decide)(hcd:(x == ("__classdict__":Str))=false:=by decide):PE X (.Name x pos) (nJ i):=by
 intro pins s σ H Q I h
 obtain⟨v,e,h⟩:=h
 obtain⟨m,hn,hl⟩:=I.loc
 obtain⟨u,r,l⟩:=hl i x v hN e hv
 have fin:EP X pins σ Q u s:=⟨v,H,I,r,h⟩
 rcases l with⟨hk,hm⟩ | ⟨hk,c,hc,hcell⟩
 ·exact wpAny_Name (wpAny_loadName_local I.ok.kind hk hn hm fin) hd
 ·rcases hk with hk | hk
  ·exact wpAny_Name (wpAny_loadName_cell I.ok.kind hk hc hcell fin) hd
  ·exact wpAny_Name (wpAny_loadName_free I.ok.kind hk hc hcell fin hcd) hd
theorem ae{i j pos}:PE X (.Constant (.int i) j pos) (tC (.int i)):=fun _ _ _ H _ I h=>wpAny_Constant_int ⟨.int i,H,I.tok _,⟨_,rfl⟩,h⟩
theorem cn{b j pos}:PE X (.Constant (.bool b) j pos) (tC (.bl b)):=fun _ _ _ H _ I h=>Constant_bool ⟨.bl b,H,I,rfl,h⟩
theorem fm{j pos}:PE X (.Constant .none j pos) (tC .non):=fun _ _ _ H _ I h=>Constant_none ⟨.non,H,I,rfl,h⟩
theorem av{x j pos}:PE X (.Constant (.str x) j pos) (tC (.str x)):=fun _ _ _ H _ I h=>Calls.Constant_str ⟨.str x,H,I.tok _,⟨_,rfl⟩,h⟩
def Gl(X:Cx)(x:Str):Prop:=X.env.kindOf x=some .globalImplicit
theorem fw{E:Value->Shared->Prop}{pins:List (Addr×Obj)}{s:Shared}{σ:St}{H:Hp}{x:Str}{u:Value}{pos:Pos}{Q:Value->Shared->Prop}(I:Inv X pins σ H s)(hg:Gl X x)(hm:X.mg x=some u)(h:Q u s)
  (hd:(x == ("__debug__":Str))=false:=by decide):wpAny (model X.prog X.w) X.A (eval (.Name x pos) X.env) Q E s:=
 Calls.Name_function_global I.ok.kind hg (Calls.loadGlobal_global (by rw[I.ok.glob];exact I.mod.glob.keeps I.bk) hm h) hd
theorem eJ{E:Value->Shared->Prop}{pins:List (Addr×Obj)}{s:Shared}{σ:St}{H:Hp}{x:Str}{u:Value}{pos:Pos}{Q:Value->Shared->Prop}(I:Inv X pins σ H s)(hg:Gl X x)(hm:X.mg x=none)(hv:bootBuiltins x=some u)(h:Q u s)
  (hn:x≠"__name__":=by decide) (hd:(x == ("__debug__":Str))=false:=by decide):wpAny (model X.prog X.w) X.A (eval (.Name x pos) X.env) Q E s:=by
 obtain⟨mb,h1,h2⟩:=I.mod.blt
 exact Calls.Name_function_global I.ok.kind hg (Calls.loadGlobal_builtin (by rw[I.ok.glob];exact I.mod.glob.keeps I.bk) hm (by rw[I.ok.blt];exact h1.keeps I.bk) ((h2 x hn).trans hv) h) hd
theorem bU{x:Str}{v:V}{u:Value}{pos:Pos}(hg:Gl X x)(hm:X.mg x=some u)(r:RelV v u)(hd:(x == ("__debug__":Str))=false:=by decide):PE X (.Name x pos) (tC v):=
 fun _ _ _ H _ I h=>fw I hg hm ⟨v,H,I,r,h⟩ hd
theorem fb{x:Str}{v:V}{u:Value}{pos:Pos}(hg:Gl X x)(hm:X.mg x=none)(hv:bootBuiltins x=some u)(r:RelV v u)(hn:x≠"__name__":=by decide)(hd:(x == ("__debug__":Str))=false:=by decide):PE X (.Name x pos) (tC v):=
 fun _ _ _ H _ I h=>eJ I hg hm hv ⟨v,H,I,r,h⟩ hn hd
variable {a b:Expr} {ta tb:TE} {pos:Pos}
def PC(X:Cx)(op:CmpOp)(a b:Expr)(t:TE):Prop:=
 ∀(pins:List (Addr×Obj)) (s:Shared) (σ:St) (H:Hp) (Q:VK),Inv X pins σ H s->t σ H Q →
  wpAny (model X.prog X.w) X.A (eval a X.env) (fun v s₁=>wpAny (model X.prog X.w) X.A (eval b X.env) (fun u s₂=>wpAny (model X.prog X.w) X.A (compareOp op v u) (EP X pins σ Q) X.xe s₂) X.xe s₁) X.xe s
def tB(t:TE):TT:=fun σ H Q=>t σ H fun x H1=>∃c,x=.bl c/\Q c H1
theorem AU{op:CmpOp}{t:TE}(h:PC X op a b t)(h1:behindInMarks op b=false:=by first | exact nobehind _ (by decide) (by decide) | rfl):PE X (.Compare a [op] [b] pos) t:=fun pins s σ H Q I hw=>wpAny_Compare1 (h pins s σ H Q I hw) h1
theorem nW{op:CmpOp}{t:TE}(h:PC X op a b t)(h1:behindInMarks op b=false:=by first | exact nobehind _ (by decide) (by decide) | rfl):PT X (.Compare a [op] [b] pos) (tB t):=by
 intro pins s σ H Q I hw
 refine wpAny_isTrue_Compare1 (au (h pins s σ H _ I hw) fun v s1 h1=>au h1 fun u s2 h2=>au h2 fun c s3 ⟨x,H1,I1,r1,q1⟩=>?_) h1
 obtain⟨d,rfl,q⟩:=q1
 cases r1
 exact wpAny_truthy_bool ⟨H1,I1,q⟩
theorem cS{e:Expr}{t:TE}(h:PE X e t)(he:∀whole,isTrue e X.env whole=(do let v ←whole;standAt e.pos;holding [v] (truthy v)):=by intro _;rfl):PT X e (tB t):=by
 intro pins s σ H Q I hw
 refine isTrue_plain (au (h pins s σ H _ I hw) fun v s1 ⟨x,H1,I1,r1,q1⟩=>?_) (he _)
 obtain⟨d,rfl,q⟩:=q1
 cases r1
 exact wpAny_truthy_bool ⟨H1,I1,q⟩
variable {tA tB':TT} {rest:List Expr}
def sZ(t u:TT):TT:=fun σ H Q=>t σ H fun c H1=>if c=true then u σ H1 Q else Q false H1
def sv(t u:TT):TT:=fun σ H Q=>t σ H fun c H1=>if c=true then Q true H1 else u σ H1 Q
def oU(t:TT):TT:=fun σ H Q=>t σ H fun c H1=>Q (!c) H1
theorem lR(ha:PT X a tA):PW X (.BoolOp .And [a] pos) tA:=by
 intro wh pins s σ H Q I h
 refine isTrue_and (au (ha pins s σ H Q I h) fun c s1 e=>?_)
 cases c with
 | true=>exact isTrue_and_nil e
 | false=>exact e
theorem dZ(ha:PT X a tA):PW X (.BoolOp .Or [a] pos) tA:=by
 intro wh pins s σ H Q I h
 refine isTrue_or (au (ha pins s σ H Q I h) fun c s1 e=>?_)
 cases c with
 | false=>exact isTrue_or_nil e
 | true=>exact e
theorem iS(ha:PT X a tA)(hb:PW X (.BoolOp .And (b::rest) pos) tB'):PW X (.BoolOp .And (a::b::rest) pos) (sZ tA tB'):=by
 intro wh pins s σ H Q I h
 refine isTrue_and (au (ha pins s σ H _ I h) fun c s1 ⟨H1,I1,q1⟩=>?_)
 cases c with
 | true=>exact hb wh pins s1 σ H1 Q I1 q1
 | false=>exact⟨H1,I1,q1⟩
theorem dn(ha:PT X a tA)(hb:PW X (.BoolOp .Or (b::rest) pos) tB'):PW X (.BoolOp .Or (a::b::rest) pos) (sv tA tB'):=by
 intro wh pins s σ H Q I h
 refine isTrue_or (au (ha pins s σ H _ I h) fun c s1 ⟨H1,I1,q1⟩=>?_)
 cases c with
 | true=>exact⟨H1,I1,q1⟩
 | false=>exact hb wh pins s1 σ H1 Q I1 q1
theorem dJ(ha:PT X a tA):PT X (.UnaryOp .Not a pos) (oU tA):=by
 intro pins s σ H Q I h
 exact isTrue_not (ha pins s σ H (fun c H1=>Q (!c) H1) I h)
def tZ(ta tb:TE):TE:=fun σ H Q=>ta σ H fun x H1=>∃c,x=.bl c/\if c=true then tb σ H1 Q else Q (.bl false) H1
def qH(ta tb:TE):TE:=fun σ H Q=>ta σ H fun x H1=>∃c,x=.bl c/\if c=true then Q (.bl true) H1 else tb σ H1 Q
def pw(ta:TE):TE:=fun σ H Q=>ta σ H fun x H1=>∃c,x=.bl c/\Q (.bl (!c)) H1
theorem eW{op}{t:TE}(h:PE X a t):PE X (.BoolOp op [a] pos) t:=fun pins s σ H Q I hw=>BoolOp_one (h pins s σ H Q I hw)
theorem eu(ha:PE X a ta)(hb:PE X (.BoolOp .And (b::rest) pos) tb):PE X (.BoolOp .And (a::b::rest) pos) (tZ ta tb):=by
 intro pins s σ H Q I h
 refine BoolOp_and (au (ha pins s σ H _ I h) fun v s1 ⟨x,H1,I1,r1,q1⟩=>?_)
 obtain⟨c,rfl,q1⟩:=q1
 cases r1
 refine wpAny_truthy_bool ?_
 cases c with
 | true=>exact hb pins s1 σ H1 Q I1 q1
 | false=>exact⟨.bl false,H1,I1,rfl,q1⟩
theorem Dk(ha:PE X a ta)(hb:PE X (.BoolOp .Or (b::rest) pos) tb):PE X (.BoolOp .Or (a::b::rest) pos) (qH ta tb):=by
 intro pins s σ H Q I h
 refine BoolOp_or (au (ha pins s σ H _ I h) fun v s1 ⟨x,H1,I1,r1,q1⟩=>?_)
 obtain⟨c,rfl,q1⟩:=q1
 cases r1
 refine wpAny_truthy_bool ?_
 cases c with
 | false=>exact hb pins s1 σ H1 Q I1 q1
 | true=>exact⟨.bl true,H1,I1,rfl,q1⟩
theorem Ct(ha:PE X a ta):PE X (.UnaryOp .Not a pos) (pw ta):=by
 intro pins s σ H Q I h
 refine UnaryOp_ (au (ha pins s σ H _ I h) fun v s1 ⟨x,H1,I1,r1,q1⟩=>?_)
 obtain⟨c,rfl,q1⟩:=q1
 cases r1
 exact not_of (wpAny_truthy_bool ⟨.bl (!c),H1,I1,rfl,q1⟩)
def sj(t:TT)(ta tb:TE):TE:=fun σ H Q=>t σ H fun c H1=>if c=true then ta σ H1 Q else tb σ H1 Q
theorem Ea{c:Expr}(hc:PT X c tA)(ha:PE X a ta)(hb:PE X b tb):PE X (.IfExp c a b pos) (sj tA ta tb):=by
 intro pins s σ H Q I h
 refine wpAny_IfExp (au (hc pins s σ H _ I h) fun d s1 ⟨H1,I1,q1⟩=>?_)
 cases d with
 | true=>exact ha pins s1 σ H1 Q I1 q1
 | false=>exact hb pins s1 σ H1 Q I1 q1
end
end L2
namespace L2
open PySem PySem.Spec PyProof.Rows
def ag(K:EE)(H:Hp)(a:Addr)(xs:List V):Prop:=
 Rd H a (.lst xs) ∨
  ∃(o:Obj) (its:Array Value) (n:Nat),K.lookup a=some o/\o.cls=.type "list"/\o.dict=none/\o.data=.seq its n/\its.size<=sizeLine/\Vals xs its.toList
def aj(K:EE)(H:Hp)(a:Addr)(xs:List V):Prop:=
 Rd H a (.tup xs) ∨
  ∃(o:Obj) (its:Array Value) (n:Nat),K.lookup a=some o/\o.cls=.type "tuple"/\o.data=.seq its n/\its.size<=sizeLine/\Vals xs its.toList
def xy:Value->Option V
 | .none=>some .non
 | .bool b=>some (.bl b)
 | .int i _=>some (.int i)
 | .str x _=>some (.str x)
 | .bytes b _=>some (.byt b)
 | .float b _=>some (.flt b)
 | .ref a=>some (.ref a)
 | .type n=>some (.ty n)
 | _=>none
theorem RelV.abs{x:V}{u:Value}(r:RelV x u):xy u=some x:=by
 cases x with
 | non=>cases r;rfl
 | bl _=>cases r;rfl
 | int _=>obtain⟨t,rfl⟩:=r;rfl
 | str _=>obtain⟨t,rfl⟩:=r;rfl
 | byt _=>obtain⟨t,rfl⟩:=r;rfl
 | flt _=>obtain⟨t,rfl⟩:=r;rfl
 | ref _=>cases r;rfl
 | ty _=>cases r;rfl
theorem RelV.inj{x y:V}{u:Value}(r:RelV x u)(q:RelV y u):x=y:=Option.some.inj (r.abs.symm.trans q.abs)
theorem Vals.inj:∀{xs ys:List V} {us:List Value},Vals xs us->Vals ys us->xs=ys
 | _,_,_,.nil,.nil=>rfl
 | _,_,_,.cons r t,.cons r' t'=>by rw[r.inj r',Vals.inj t t']
section
variable {X:Cx} {pins:List (Addr×Obj)} {σ:St} {H:Hp} {s:Shared} {a:Addr} {xs ys:List V}
theorem ag.of{K:EE}(h:H a=some (.lst xs)):ag K H a xs:=.inl (.inl h)
theorem aj.of{K:EE}(h:H a=some (.tup xs)):aj K H a xs:=.inl (.inl h)
theorem Inv.list(I:Inv X pins σ H s)(h:ag X.K H a xs):∃its:List Value,Vals xs its/\PlainL s.heap a its.toArray/\xs.length<=sizeLine:=by
 rcases h with h | ⟨o,its,n,hk,hc,hd,hs,hz,r⟩
 ·obtain⟨z,its,n,r,e⟩:=h.ok I.hok
  exact⟨its,r,⟨_,n,e,rfl,rfl,rfl⟩,z⟩
 ·refine⟨its.toList,r,⟨o,n,I.kIn a o hk,hc,hd,by simpa using hs⟩,?_⟩
  have e:=r.length
  simp only[EM]at e
  omega
theorem Inv.tuple(I:Inv X pins σ H s)(h:aj X.K H a xs):∃its:List Value,Vals xs its/\IsTup s.heap a its.toArray/\xs.length<=sizeLine:=by
 rcases h with h | ⟨o,its,n,hk,hc,hs,hz,r⟩
 ·obtain⟨z,its,r,p⟩:=h.ok I.hok
  exact⟨its,r,p,z⟩
 ·refine⟨its.toList,r,⟨o,I.kIn a o hk,hc,n,by simpa using hs⟩,?_⟩
  have e:=r.length
  simp only[EM]at e
  omega
theorem Inv.list_inj(I:Inv X pins σ H s)(h:ag X.K H a xs)(h':ag X.K H a ys):xs=ys:=by
 obtain⟨its,r,⟨o,n,e,_,_,d⟩,_⟩:=I.list h
 obtain⟨its',r',⟨o',n',e',_,_,d'⟩,_⟩:=I.list h'
 rw[e]at e';cases e'
 rw[d]at d'
 injection d' with d1 _
 have:its=its':=by simpa using congrArg Array.toList d1
 subst this
 exact r.inj r'
theorem Inv.tuple_inj(I:Inv X pins σ H s)(h:aj X.K H a xs)(h':aj X.K H a ys):xs=ys:=by
 obtain⟨its,r,⟨o,e,_,n,d⟩,_⟩:=I.tuple h
 obtain⟨its',r',⟨o',e',_,n',d'⟩,_⟩:=I.tuple h'
 rw[e]at e';cases e'
 rw[d]at d'
 injection d' with d1 _
 have:its=its':=by simpa using congrArg Array.toList d1
 subst this
 exact r.inj r'
end
abbrev Cx.wish(X:Cx)(E:Value->Shared->Prop):Cx:={ X with xe:=E }
abbrev Cx.nox(X:Cx):Cx:=X.wish fun _ _=>False
theorem Cx.Ok.wish{X:Cx}(ok:X.Ok)(E:Value->Shared->Prop):(X.wish E).Ok:=
 ⟨ok.mod,ok.kind,ok.glob,ok.blt,ok.above,ok.inj,ok.has,ok.cab,ok.hd,ok.frames,ok.stk,ok.exf,ok.bs,ok.bsz,ok.noex,ok.exfs,ok.funs,ok.frf⟩
theorem Cx.Ok.unwish{X:Cx}{E:Value->Shared->Prop}(ok:(X.wish E).Ok):X.Ok:=
 ⟨ok.mod,ok.kind,ok.glob,ok.blt,ok.above,ok.inj,ok.has,ok.cab,ok.hd,ok.frames,ok.stk,ok.exf,ok.bs,ok.bsz,ok.noex,ok.exfs,ok.funs,ok.frf⟩
section
variable {X:Cx} {pins:List (Addr×Obj)} {σ:St} {H:Hp} {s:Shared} {E:Value->Shared->Prop}
theorem Inv.wish(I:Inv X pins σ H s)(E:Value->Shared->Prop):Inv (X.wish E) pins σ H s:=⟨I.ok.wish E,I.os,I.bare,I.base,I.loc,I.cell,I.free,I.freeC,I.pin,I.hok,I.len⟩
theorem Inv.unwish(I:Inv (X.wish E) pins σ H s):Inv X pins σ H s:=⟨I.ok.unwish,I.os,I.bare,I.base,I.loc,I.cell,I.free,I.freeC,I.pin,I.hok,I.len⟩
theorem SP.unwish{D:Ends}{f:Flow}{s':Shared}(h:SP (X.wish E) pins D f s'):SP X pins D f s':=by
 cases f with
 | next=>obtain⟨σ',H',I,q⟩:=h;exact⟨σ',H',I.unwish,q⟩
 | brk=>obtain⟨σ',H',I,q⟩:=h;exact⟨σ',H',I.unwish,q⟩
 | cont=>obtain⟨σ',H',I,q⟩:=h;exact⟨σ',H',I.unwish,q⟩
 | ret u=>obtain⟨v,σ',H',I,r,q⟩:=h;exact⟨v,σ',H',I.unwish,r,q⟩
theorem b9.nox{st:List Stmt}{t:TS}(h:b9 X.nox st t):b9 X st t:=fun pins s σ H D I hw=>
 wpAny_mono (h pins s σ H D (I.wish _) hw) (fun _ _ q=>q.unwish) fun _ _ z=>False.elim z
end
section
variable {X:Cx} {st:Stmt} {rest:List Stmt} {t u:TS} {e:Expr} {te:TE} {pos:Pos}
def tD:TS:=fun D σ H=>D.nx σ H
def tX(t u:TS):TS:=fun D σ H=>t { D with nx:=u D } σ H
theorem aU:b9 X [] tD:=fun _ _ σ H _ I h=>wpAny_execs_nil ⟨σ,H,I,h⟩
theorem ak(h1:PS X st t)(h2:b9 X rest u):b9 X (st::rest) (tX t u):=by
 intro pins s σ H D I h
 refine wpAny_execs_cons (au (h1 pins s σ H { D with nx:=u D } I h) fun f s1 q=>?_)
 cases f with
 | next=>
  obtain⟨σ',H',I',q⟩:=q
  exact h2 pins s1 σ' H' D I' q
 | ret v=>exact q
 | brk=>exact q
 | cont=>exact q
theorem ar(h1:PS X st t):b9 X [st] t:=by
 intro pins s σ H D I h
 refine wpAny_execs_cons (au (h1 pins s σ H D I h) fun f s1 q=>?_)
 cases f with
 | next=>exact wpAny_execs_nil q
 | ret v=>exact q
 | brk=>exact q
 | cont=>exact q
theorem Inv.quiet{pins:List (Addr×Obj)}{σ:St}{H:Hp}{s:Shared}(I:Inv X pins σ H s):interactive X.env=false:=by simp[interactive,I.ok.kind]
def o6(te:TE):TS:=fun D σ H=>te σ H fun _ H1=>D.nx σ H1
theorem bw(he:PE X e te)(hs:swapsWith e none pos.line X.env=pure false:=by rfl):PS X (.Expr e pos) (o6 te):=by
 intro pins s σ H D I h
 exact wpAny_Expr_any (au (he pins s σ H _ I h) fun v s1 ⟨x,H1,I1,r1,q1⟩=>⟨σ,H1,I1,q1⟩) I.quiet hs
def uY(te:TE):TS:=fun D σ H=>te σ H D.rt
theorem aC(he:PE X e te):PS X (.Return (some e) pos) (uY te):=by
 intro pins s σ H D I h
 exact wpAny_Return_some (au (he pins s σ H _ I h) fun v s1 ⟨x,H1,I1,r1,q1⟩=>⟨x,σ,H1,I1,r1,q1⟩)
def pB(c:TT)(t u:TS):TS:=fun D σ H=>c σ H fun b H1=>if b=true then t D σ H1 else u D σ H1
theorem br{c:Expr}{a b:List Stmt}{tc:TT}(hc:PT X c tc)(ha:b9 X a t)(hb:b9 X b u):PS X (.If c a b pos) (pB tc t u):=by
 intro pins s σ H D I h
 refine wpAny_If (au (hc pins s σ H _ I h) fun d s1 ⟨H1,I1,q1⟩=>?_)
 cases d with
 | true=>exact ha pins s1 σ H1 D I1 q1
 | false=>exact hb pins s1 σ H1 D I1 q1
def AX:TS:=fun _ _ _=>False
theorem rH:PS X st AX:=fun _ _ _ _ _ _ h=>h.elim
end
abbrev TG:=V->St->Hp->(St->Hp->Prop)->Prop
abbrev cV:=List V->St->Hp->(St->Hp->Prop)->Prop
def PG(X:Cx)(target:Expr)(t:TG):Prop:=
 ∀(pins:List (Addr×Obj)) (s:Shared) (σ:St) (H:Hp) (v:V) (u:Value) (Q:St->Hp->Prop),Inv X pins σ H s->RelV v u->t v σ H Q →
  wpAny (model X.prog X.w) X.A (assign target X.env u) (fun _ s'=>∃σ' H',Inv X pins σ' H' s'/\Q σ' H') X.xe s
def gU(X:Cx)(ts:List Expr)(t:cV):Prop:=
 ∀(pins:List (Addr×Obj)) (s:Shared) (σ:St) (H:Hp) (vs:List V) (us:List Value) (Q:St->Hp->Prop),Inv X pins σ H s->Vals vs us->t vs σ H Q →
  wpAny (model X.prog X.w) X.A (assignInOrder ((assignEach ts X.env).map (·.2)) us) (fun _ s'=>∃σ' H',Inv X pins σ' H' s'/\Q σ' H') X.xe s
abbrev ju:=V->V->V->Hp->(Hp->Prop)->Prop
def qt(X:Cx)(t:ju):Prop:=
 ∀(pins:List (Addr×Obj)) (s:Shared) (σ:St) (H:Hp) (o i v:V) (ov iv u:Value) (Q:Hp->Prop),Inv X pins σ H s->RelV o ov->RelV i iv->RelV v u->t o i v H Q →
  wpAny (model X.prog X.w) X.A (setItem ov iv u) (fun _ s'=>∃H',Inv X pins σ H' s'/\Q H') X.xe s
abbrev iU:=V->V->Hp->VK->Prop
def vh(X:Cx)(op:Operator)(t:iU):Prop:=
 ∀(pins:List (Addr×Obj)) (s:Shared) (σ:St) (H:Hp) (x y:V) (v u:Value) (Q:VK),Inv X pins σ H s->RelV x v->RelV y u->t x y H Q →
  wpAny (model X.prog X.w) X.A (inplaceOp op v u) (EP X pins σ Q) X.xe s
section
variable {X:Cx} {pos:Pos}
def iR(i:Nat):TG:=fun v σ H Q=>Q (σ.set i (some v)) H
theorem aR{i:Nat}{x:Str}(hN:X.N.Nodup)(hi:X.N[i]?=some x)(hx:Loc X.env.scope x)(hf:X.fn x=true\/X.env.scope.names.lookup x=some .local:=by first | exact .inl rfl | exact .inr rfl | assumption):PG X (.Name x pos) (iR i):=by
 intro pins s σ H v u Q I r h
 exact wpAny_assign_Name (gj I hN hi hx r (fun s' I'=>⟨_,H,I',h⟩) hf)
def sU:cV:=fun vs σ H Q=>vs=[]/\Q σ H
def pY(t:TG)(u:cV):cV:=fun vs σ H Q=>∃v r,vs=v::r/\t v σ H fun σ' H'=>u r σ' H' Q
theorem fS:gU X [] sU:=by
 intro pins s σ H vs us Q I r h
 obtain⟨e,h⟩:=h
 subst e
 cases r
 exact assignInOrder_nil ⟨σ,H,I,h⟩
theorem cq{e:Expr}{es:List Expr}{t:TG}{u:cV}(h1:PG X e t)(h2:gU X es u)
  (hs:(assignEach (e::es) X.env).map (·.2)=assign e X.env::(assignEach es X.env).map (·.2):=by rfl):gU X (e::es) (pY t u):=by
 intro pins s σ H vs us Q I r h
 obtain⟨v,vr,e1,h⟩:=h
 subst e1
 cases r with
 | cons r rr=>
  rw[hs]
  refine assignInOrder_cons (au (h1 pins s σ H _ _ _ I r h) fun _ s1 ⟨σ1,H1,I1,q1⟩=>?_)
  exact h2 pins s1 σ1 H1 _ _ Q I1 rr q1
def nF(K:EE)(n:Nat)(t:cV):TG:=fun v σ H Q=>∃a xs,v=.ref a/\aj K H a xs/\xs.length=n/\t xs σ H Q
theorem zm{es:List Expr}{k:Nat}{t:cV}{n:Nat}(hc:X.calm=true)(h:gU X es t)
  (hn:(assignEach es X.env).length=n:=by rfl) (hst:(assignEach es X.env).findIdx? (·.1)=none:=by rfl):PG X (.Tuple es k pos) (nF X.K n t):=by
 intro pins s σ H v u Q I r hw
 obtain⟨a,xs,e1,hq,hl,hw⟩:=hw
 subst e1
 cases r
 obtain⟨its,rv,ht,hz⟩:=I.tuple hq
 refine assign_Tuple_tuple (I.ok.hd hc) ht (by simp[hn,←hl,rv.length]) hst fun h' hx=>?_
 have I1:Inv X pins σ H { s with heap:=h' }:=I.kept (t':=s.toks) fun b o e=>hx b o (Nat.ne_of_lt (EH e)) e
 exact h pins _ σ H xs _ Q I1 (by simpa using rv) hw
def sy(to ti:TE)(t:ju):TG:=fun v σ H Q=>to σ H fun o H1=>ti σ H1 fun i H2=>t o i v H2 fun H3=>Q σ H3
theorem zR{o i:Expr}{to ti:TE}{t:ju}(ho:PE X o to)(hi:PE X i ti)(hs:qt X t)
  (ha:∀v,assign (.Subscript o i pos) X.env v=(do
   let ov ←holding [v] (eval o X.env)
   let iv ←holding [v,ov] (eval i X.env)
   standAt pos
   holding [v,ov,iv] (setItem ov iv v)
   release [v,ov,iv] []):=by intro _;rfl):PG X (.Subscript o i pos) (sy to ti t):=by
 intro pins s σ H v u Q I r h
 rw[ha]
 refine EC (wpAny_holding (au (ho pins s σ H _ I h) fun ov s1 ⟨x,H1,I1,r1,q1⟩=>?_))
 refine EC (wpAny_holding (au (hi pins s1 σ H1 _ I1 q1) fun iv s2 ⟨y,H2,I2,r2,q2⟩=>?_))
 refine EC (wpAny_standAt (EC (wpAny_holding (au (hs pins s2 σ H2 x y v ov iv u _ I2 r1 r2 r q2) fun _ s3 ⟨H3,I3,q3⟩=>?_))))
 exact wpAny_release ⟨σ,H3,I3,q3⟩
def jr(te:TE)(g:TG):TS:=fun D σ H=>te σ H fun x H1=>g x σ H1 D.nx
theorem mh{tg e:Expr}{te:TE}{g:TG}(he:PE X e te)(hg:PG X tg g)(hs:swapsWithSole [tg] e pos.line X.env=pure false:=by rfl)(hw:swappedStores [tg] e X.env=pure none:=by rfl)
  (h1:(assignEach [tg] X.env).map (·.2)=[assign tg X.env]:=by rfl):PS X (.Assign [tg] e pos) (jr te g):=by
 intro pins s σ H D I h
 refine wpAny_Assign_stores (au (he pins s σ H _ I h) fun v s1 ⟨x,H1,I1,r1,q1⟩=>?_) hs hw
 rw[h1]
 exact au (hg pins s1 σ H1 x v _ I1 r1 q1) fun _ s2 q=>q
theorem aA{i:Nat}{x:Str}{e:Expr}{te:TE}{pos':Pos}(hN:X.N.Nodup)(hi:X.N[i]?=some x)(hx:Loc X.env.scope x)(he:PE X e te)(hs:swapsWith e (some (.Name x pos')) pos.line X.env=pure false:=by rfl)(hf:X.fn x=true\/X.env.scope.names.lookup x=some .local:=by first | exact .inl rfl | exact .inr rfl | assumption):
  PS X (.Assign [.Name x pos'] e pos) (jr te (iR i)):=by
 intro pins s σ H D I h
 refine wpAny_Assign_Name (au (he pins s σ H _ I h) fun v s1 ⟨y,H1,I1,r1,q1⟩=>?_) hs
 exact gj I1 hN hi hx r1 (fun s2 I2=>⟨_,H1,I2,q1⟩) hf
def pU(i j:Nat)(ta:TA):TS:=fun D σ H=>ta σ H fun vs H1=>∃v w,vs=[v,w]/\D.nx ((σ.set i (some v)).set j (some w)) H1
theorem tI{i j:Nat}{x y:Str}{a b:Expr}{ta:TA}{px py pt:Pos}{kt k2 pt2}(hc:X.calm=true)(hN:X.N.Nodup)(hi:X.N[i]?=some x)(hj:X.N[j]?=some y)(hij:i≠j)
  (hx:X.env.scope.names.lookup x=some .local) (hy:X.env.scope.names.lookup y=some .local) (ha:PA X [a,b] ta)
  (hw:swappedStores [.Tuple [.Name x px,.Name y py] kt pt] (.Tuple [a,b] k2 pt2) X.env=pure (some [x,y]))
  (hs:swapsWithSole [.Tuple [.Name x px,.Name y py] kt pt] (.Tuple [a,b] k2 pt2) pos.line X.env=pure false:=by rfl) :
  PS X (.Assign [.Tuple [.Name x px,.Name y py] kt pt] (.Tuple [a,b] k2 pt2) pos) (pU i j ta):=by
 intro pins s σ H D I h
 rw[exec_Assign_arm]
 refine EC (wpAny_standAt ?_)
 rw[hs]
 refine EC (ED ?_)
 rw[if_neg (by decide)]
 refine EC (Tuple_ (au (ha _ pins s σ H _ I h) fun us s1 ⟨vs,H1,I1,r1,q1⟩=>?_))
 obtain⟨v,w,e1,q1⟩:=q1
 subst e1
 obtain⟨u1,u2,rfl,rv,rw'⟩:∃u1 u2,us=[u1,u2]/\RelV v u1/\RelV w u2:=by
  cases r1 with
  | cons p q=>
   cases q with
   | cons p' q'=>
    cases q'
    exact⟨_,_,rfl,p,p'⟩
 refine wpAny_newObj_type ?_ (by show 2<=sizeLine;decide)
 have I2:Inv X pins σ H1 { s1 with heap:=s1.heap.push { cls:=.type "tuple",data:=.seq [u1,u2].toArray } }:=I1.kept (t':=s1.toks) fun b o e=>EF _ e
 rw[hw]
 refine EC (ED ?_)
 show wpAny (model X.prog X.w) X.A (do rule "assign.swapped-stores";let items ←unpackItems (.ref s1.heap.objs.size) 2 none;assignInOrder [fun v=>bindName X.env y v,fun v=>bindName X.env x v] items.reverse;pure Flow.next) _ _ _
 refine EC (wpAny_rule (EC (unpackItems_tuple (items:=#[u1,u2]) (I.ok.hd hc) (IsTup.new s1.heap _) fun h' hx'=>?_)))
 have I3:=I2.kept (h':=h') (t':=s1.toks) fun b o e=>hx' b o (Nat.ne_of_lt (EH e)) e
 show wpAny _ _ (assignInOrder [fun v=>bindName X.env y v,fun v=>bindName X.env x v] [u2,u1] >>= fun _=>pure Flow.next) _ _ _
 refine EC (assignInOrder_cons (wpAny_bindName (gj I3 hN hj (.inl hy) rw' (fun s2 I4=>?_) (.inr hy))))
 refine assignInOrder_cons (wpAny_bindName (gj I4 hN hi (.inl hx) rv (fun s3 I5=>assignInOrder_nil (ED ?_)) (.inr hx)))
 rw[List.set_comm _ _ (Ne.symm hij)]at I5
 exact⟨_,H1,I5,q1⟩
def oW(i:Nat)(te:TE)(ti:iU):TS:=fun D σ H=>∃x,σ[i]?=some (some x)/\te σ H fun y H1=>ti x y H1 fun z H2=>D.nx (σ.set i (some z)) H2
theorem Ec{i:Nat}{x:Str}{e:Expr}{te:TE}{op:Operator}{ti:iU}{pos':Pos}(hN:X.N.Nodup)(hi:X.N[i]?=some x)(hx:Loc X.env.scope x)(he:PE X e te)(ho:vh X op ti)(hf:X.fn x=true\/X.env.scope.names.lookup x=some .local:=by first | exact .inl rfl | exact .inr rfl | assumption):
  PS X (.AugAssign (.Name x pos') op e pos) (oW i te ti):=by
 intro pins s σ H D I h
 obtain⟨v,e1,h⟩:=h
 obtain⟨m,hn,hl⟩:=I.loc
 have vis:i8 X.env.scope x:=by rcases hx with k | k;exact .inl k;exact .inr (.inl k)
 obtain⟨u,r,l⟩:=hl i x v hi e1 vis
 refine wpAny_AugAssign_Name ?_
 have go:wpAny (model X.prog X.w) X.A (eval e X.env) (fun w s₂=>wpAny (model X.prog X.w) X.A (inplaceOp op u w) (fun r s₃=>wpAny (model X.prog X.w) X.A (storeName X.env x r) (fun _=>SP X pins D .next) X.xe s₃) X.xe s₂) X.xe s:=by
  refine au (he pins s σ H _ I h) fun w s1 ⟨y,H1,I1,r1,q1⟩=>?_
  refine au (ho pins s1 σ H1 v y u w _ I1 r r1 q1) fun z s2 ⟨zv,H2,I2,r2,q2⟩=>?_
  exact gj I2 hN hi hx r2 (fun s3 I3=>⟨_,H2,I3,q2⟩) hf
 rcases l with⟨hk,hm⟩ | ⟨hk,c,hc,hcell⟩
 ·exact wpAny_loadName_local I.ok.kind hk hn hm go
 ·rcases hk with hk | hk
  ·exact wpAny_loadName_cell I.ok.kind hk hc hcell go
  ·rcases hx with k | k
   ·have:X.env.scope.names.lookup x=some .free:=hk
    rw[k]at this;cases this
   ·have:X.env.scope.names.lookup x=some .free:=hk
    rw[k]at this;cases this
def vH(f:Int->Int->Int):iU:=fun x y H Q=>∃i j,x=.int i/\y=.int j/\Q (.int (f i j)) H
theorem AA:vh X .Add (vH fun i j=>i+j):=by
 intro pins s σ H x y v u Q I r1 r2 h
 obtain⟨i,j,e1,e2,q⟩:=h
 subst e1;subst e2
 obtain⟨t,rfl⟩:=r1
 obtain⟨t',rfl⟩:=r2
 exact iadd_int ⟨.int _,H,I.tok _,⟨_,rfl⟩,q⟩
end
section
variable {X:Cx} {pos:Pos}
def BI(c:TT)(tb:TS):TS:=fun D σ H=>∃W:Nat->St->Hp->Prop,(∃m,W m σ H)/\∀m σ H,W m σ H →
 c σ H fun b H1=>if b=true then ∃N:St->Hp->Prop,(∀σ' H',N σ' H'->∃m',m'<m/\W m' σ' H')/\tb { D with nx:=N,ct:=N,bk:=D.nx } σ H1 else D.nx σ H1
theorem CC{c:Expr}{body:List Stmt}{tc:TT}{tb:TS}(hp:PassesOwn (model X.prog X.w) X.A X.env X.xe)(hc:PT X c tc)(hb:b9 X body tb):PS X (.While c body [] pos) (BI tc tb):=by
 intro pins s σ H D I h
 obtain⟨W,⟨m0,w0⟩,turn⟩:=h
 refine wpAny_While (codeAny_whileLoop (fun n s'=>∃σ' H',Inv X pins σ' H' s'/\W n σ' H') ?_ m0 ⟨σ,H,I,w0⟩)
 rintro n s1 ⟨σ1,H1,I1,w1⟩
 refine wpAny_passesOwn hp (au (hc pins s1 σ1 H1 _ I1 (turn n σ1 H1 w1)) fun b s2 ⟨H2,I2,q2⟩=>?_)
 cases b with
 | true=>
  obtain⟨N,hN,q2⟩:=q2
  rw[if_pos rfl]
  refine wpAny_passesOwn hp (au (hb pins s2 σ1 H2 _ I2 q2) fun f s3 q3=>?_)
  cases f with
  | next=>
   obtain⟨σ3,H3,I3,n3⟩:=q3
   obtain⟨m',hm,w3⟩:=hN σ3 H3 n3
   exact⟨m',hm,σ3,H3,I3,w3⟩
  | cont=>
   obtain⟨σ3,H3,I3,n3⟩:=q3
   obtain⟨m',hm,w3⟩:=hN σ3 H3 n3
   exact⟨m',hm,σ3,H3,I3,w3⟩
  | brk=>exact q3
  | ret v=>exact q3
 | false=>
  rw[if_neg Bool.false_ne_true]
  exact wpAny_execs_nil ⟨σ1,H2,I2,q2⟩
end
structure It where
 go:Nat->Hp->Prop
 yld:Nat->Hp->V->Hp->Prop
 stop:Nat->Hp->Prop
def bO(X:Cx)(pins:List (Addr×Obj))(H:Hp)(b:Addr):Prop:=
 H b=none/\b≠X.env.locals/\b∉X.fs/\(b∈X.ex\/X.s₀.heap.objs.size<=b)/\(∀x c,X.env.cells.lookup x=some c->c≠b)/\∀p∈X.pn++pins,p.1≠b
theorem Inv.fpOk{X:Cx}{pins:List (Addr×Obj)}{σ:St}{H H':Hp}{s:Shared}{b:Addr}(I:Inv X pins σ H s)(hb:s.heap.objs.size<=b)(hn:H' b=none):bO X pins H' b:=by
 refine⟨hn,Nat.ne_of_gt (Nat.lt_of_lt_of_le I.lt hb),I.nofs hb,.inr (Nat.le_trans I.sz hb),fun x c e z=>?_,fun p hp z=>?_⟩
 ·obtain⟨v,q⟩:=I.cell x c e
  exact absurd (Nat.lt_of_lt_of_le q.lt (by rw[z];exact hb)) (Nat.lt_irrefl _)
 ·exact absurd (Nat.lt_of_lt_of_le (EH (I.pin p hp).1) (by rw[z];exact hb)) (Nat.lt_irrefl _)
structure Turn(P:Program)(w:World)(K:EE)(tg:Expr)(J:It)(fp:List Addr)(it:Addr)(tn:Nat->Heap->Prop):Prop where
 mem:it∈fp
 obj:∀i h,tn i h->∀b∈fp,∃o,h.get? b=some o/\∀v,o.data≠.cell v
 keep:∀i h h',tn i h->(∀b∈fp,∀o,h.get? b=some o->h'.get? b=some o)->tn i h'
 item:∀(X:Cx),X.prog=P->X.w=w->X.K=K->X.calm=true->∀(i:Nat) (pins:List (Addr×Obj)) (s:Shared) (σ:St) (H:Hp) (E:Value->Shared->Prop),Inv X pins σ H s->(∀b∈fp,bO X pins H b)->tn i s.heap->J.go i H →
  wpAny (model P w) X.A (pyNext (.ref it)) (fun r s1=>∃u,r=some u ∧
   wpAny (model P w) X.A (letOwnedTupleGo tg (.ref it) u) (fun _ s2=>∃x H',Inv X pins σ H' s2/\RelV x u/\J.yld i H x H'/\tn (i+1) s2.heap/\∀b∈fp,H' b=none) E s1) E s
 done:∀(X:Cx),X.prog=P->X.w=w->X.K=K->X.calm=true->∀(i:Nat) (pins:List (Addr×Obj)) (s:Shared) (σ:St) (H:Hp) (E:Value->Shared->Prop),Inv X pins σ H s->(∀b∈fp,bO X pins H b)->tn i s.heap->J.stop i H →
  wpAny (model P w) X.A (pyNext (.ref it)) (fun r s1=>r=none/\Inv X pins σ H s1) E s
 self:∀(A:Around) (i:Nat) (s:Shared) (Q:Value->Shared->Prop) (E:Value->Shared->Prop),tn i s.heap->Q (.ref it) s->wpAny (model P w) A (pyIter (.ref it)) Q E s
abbrev TI:=St->Hp->(It->Hp->Prop)->Prop
def nq(X:Cx)(pins:List (Addr×Obj))(σ:St)(tg:Expr)(R:It->Hp->Prop)(itv:Value)(s2:Shared):Prop:=
 ∃(it:Addr) (fp:List Addr) (tn:Nat->Heap->Prop) (J:It) (H':Hp),itv=.ref it/\Inv X pins σ H' s2/\Turn X.prog X.w X.K tg J fp it tn/\tn 0 s2.heap/\(∀b∈fp,bO X pins H' b)/\R J H'
def PI(X:Cx)(tg iter:Expr)(wi:TI):Prop:=
 ∀(pins:List (Addr×Obj)) (s:Shared) (σ:St) (H:Hp) (R:It->Hp->Prop),Inv X pins σ H s->wi σ H R →
  wpAny (model X.prog X.w) X.A (eval iter X.env) (fun v s1=>wpAny (model X.prog X.w) X.A (pyIter v) (nq X pins σ tg R) X.xe s1) X.xe s
theorem iT {M : Model} {A : Around} {E : Value → Shared → Prop} {s : Shared} {tg : Expr} {it : Addr} {u : Value} {o : Obj} {n : String} {vs : Array Value} {Q : Unit → Shared → Prop} (ho : s.heap.get? it = some o) (hc : o.cls = .type n) (hd : o.data = .fields vs)
    (hn : ["enumerate", "zip", "dict_itemiterator", "dict_reverseitemiterator", "odict_iterator", "itertools.zip_longest", "itertools.pairwise"].contains n = false) (hQ : Q () s) : wpAny M A (letOwnedTupleGo tg (.ref it) u) Q E s := by
  unfold letOwnedTupleGo
  cases tg <;> first
    | exact ED hQ
    | (cases u <;> first
        | exact ED hQ
        | (refine EC (wpAny_load ho ?_)
           rw [hc, hd]
           show wpAny M A (if (["enumerate", "zip", "dict_itemiterator", "dict_reverseitemiterator", "odict_iterator", "itertools.zip_longest", "itertools.pairwise"].contains n && vs[0]? == some (rawInt _)) = true then _ else _) Q E s
           rw [if_neg (by intro h; rw [hn, Bool.false_and] at h; cases h)]
           exact ED hQ))
def b6(K:EE)(a:Addr):It:=
 ⟨fun i H=>∃xs x,ag K H a xs/\xs[i]?=some x,fun i H x H'=>H'=H/\∀xs,ag K H a xs->xs[i]?=some x,fun i H=>∃xs,ag K H a xs/\xs.length<=i⟩
def bT(K:EE)(a:Addr):It:=
 ⟨fun i H=>∃xs x,aj K H a xs/\xs[i]?=some x,fun i H x H'=>H'=H/\∀xs,aj K H a xs->xs[i]?=some x,fun i H=>∃xs,aj K H a xs/\xs.length<=i⟩
def dI(lo:Int)(n:Nat):It:=⟨fun i _=>i<n,fun i H x H'=>H'=H/\x=.int (lo+i),fun i _=>n<=i⟩
theorem pH{P:Program}{w:World}{K:EE}{tg:Expr}(a it:Addr):Turn P w K tg (b6 K a) [it] it (fun i h=>h.IsListIter it a i) where
 mem:=by simp
 obj:=fun i h st b hb=>by
  have e:b=it:=by simpa using hb
  subst e
  obtain⟨o,e,c,d⟩:=st
  exact⟨o,e,fun v z=>by rw[d]at z;cases z⟩
 keep:=fun i h h' st k=>st.at fun o e=>k it (by simp) o e
 item:=by
  intro X hP hw hK hc i pins s σ H E I hf st hg
  subst hP hw hK
  obtain⟨xs,x,hq,hx⟩:=hg
  obtain⟨its,rv,p,hz⟩:=I.list hq
  obtain⟨u,hu,ru⟩:=rv.get hx
  obtain⟨f0,f1,f2,f3,f4,f5⟩:=hf it (by simp)
  refine wpAny_pyNext_list_item st p.isList (x:=u) (by simpa using hu) fun h' st' sb=>?_
  have I1:Inv X pins σ H { s with heap:=h' }:=I.turned (t':=s.toks) (fun b o hb e=>(sb.2 b hb).trans e) f0 f1 f3 f4 f5
  obtain⟨o,e,c,d⟩:=id st'
  exact⟨u,rfl,iT (s:={ s with heap:=h' }) e c d (by decide) ⟨x,H,I1,ru,⟨rfl,fun ys hy=>by rw[I.list_inj hy hq];exact hx⟩,st',fun b hb=>(hf b hb).1⟩⟩
 done:=by
  intro X hP hw hK hc i pins s σ H E I hf st hg
  subst hP hw hK
  obtain⟨xs,hq,hx⟩:=hg
  obtain⟨its,rv,p,hz⟩:=I.list hq
  obtain⟨f0,f1,f2,f3,f4,f5⟩:=hf it (by simp)
  have hl:=rv.length
  exact wpAny_pyNext_list_end (I.ok.hd hc) st p.isList (by simp;omega) fun h' eb=>⟨rfl,I.turned (t':=s.toks) (fun b o hb e=>eb b o hb e) f0 f1 f3 f4 f5⟩
 self:=fun _ _ _ _ _ st h=>wpAny_pyIter_listiter st h
theorem uI{P:Program}{w:World}{K:EE}{tg:Expr}(a it:Addr):Turn P w K tg (bT K a) [it] it (fun i h=>h.IsTupleIter it a i) where
 mem:=by simp
 obj:=fun i h st b hb=>by
  have e:b=it:=by simpa using hb
  subst e
  obtain⟨o,e,c,d⟩:=st
  exact⟨o,e,fun v z=>by rw[d]at z;cases z⟩
 keep:=fun i h h' st k=>st.at fun o e=>k it (by simp) o e
 item:=by
  intro X hP hw hK hc i pins s σ H E I hf st hg
  subst hP hw hK
  obtain⟨xs,x,hq,hx⟩:=hg
  obtain⟨its,rv,p,hz⟩:=I.tuple hq
  obtain⟨u,hu,ru⟩:=rv.get hx
  obtain⟨f0,f1,f2,f3,f4,f5⟩:=hf it (by simp)
  refine wpAny_pyNext_tuple_item st (show s.heap.IsTuple a its.toArray from p) (x:=u) (by simpa using hu) fun h' st' sb=>?_
  have I1:Inv X pins σ H { s with heap:=h' }:=I.turned (t':=s.toks) (fun b o hb e=>(sb.2 b hb).trans e) f0 f1 f3 f4 f5
  obtain⟨o,e,c,d⟩:=id st'
  exact⟨u,rfl,iT (s:={ s with heap:=h' }) e c d (by decide) ⟨x,H,I1,ru,⟨rfl,fun ys hy=>by rw[I.tuple_inj hy hq];exact hx⟩,st',fun b hb=>(hf b hb).1⟩⟩
 done:=by
  intro X hP hw hK hc i pins s σ H E I hf st hg
  subst hP hw hK
  obtain⟨xs,hq,hx⟩:=hg
  obtain⟨its,rv,p,hz⟩:=I.tuple hq
  obtain⟨f0,f1,f2,f3,f4,f5⟩:=hf it (by simp)
  have hl:=rv.length
  exact wpAny_pyNext_tuple_end (I.ok.hd hc) st (show s.heap.IsTuple a its.toArray from p) (by simp;omega) fun h' eb=>⟨rfl,I.turned (t':=s.toks) (fun b o hb e=>eb b o hb e) f0 f1 f3 f4 f5⟩
 self:=fun _ _ _ _ _ st h=>wpAny_pyIter_tupleiter st h
theorem CU{P:Program}{w:World}{K:EE}{tg:Expr}(it:Addr)(lo:Int)(n:Nat):Turn P w K tg (dI lo n) [it] it (fun i h=>IsRangeIter h it (lo+(i:Nat)*1) ((n:Int)-(i:Nat)) 1) where
 mem:=by simp
 obj:=fun i h st b hb=>by
  have e:b=it:=by simpa using hb
  subst e
  exact⟨_,st,fun v z=>by
   have z':Data.fields _=Data.cell v:=z
   cases z'⟩
 keep:=fun i h h' st k=>k it (by simp) _ st
 item:=by
  intro X hP hw hK hc i pins s σ H E I hf st hg
  subst hP hw hK
  obtain⟨f0,f1,f2,f3,f4,f5⟩:=hf it (by simp)
  have W:=Walks.range (prog:=X.prog) (w:=X.w) (I.ok.hd hc) it lo 1 n
  refine W.item i s _ _ hg st fun v h' tk hv st' kk=>?_
  obtain⟨t,rfl⟩:=hv
  have I1:Inv X pins σ H { s with heap:=h',toks:=tk }:=I.turned (fun b o hb e=>kk b o (by simpa using hb) e) f0 f1 f3 f4 f5
  refine⟨_,rfl,iT (s:={ s with heap:=h',toks:=tk }) (n:="range_iterator") st' rfl rfl (by decide) ⟨.int (lo+i),H,I1,⟨t,?_⟩,⟨rfl,rfl⟩,st',fun b hb=>(hf b hb).1⟩⟩
  rw[Int.mul_one]
 done:=by
  intro X hP hw hK hc i pins s σ H E I hf st hg
  subst hP hw hK
  obtain⟨f0,f1,f2,f3,f4,f5⟩:=hf it (by simp)
  exact wpAny_pyNext_range_end (I.ok.hd hc) st (by have:n<=i:=hg;omega) fun h' eb=>⟨rfl,I.turned (t':=s.toks) (fun b o hb e=>eb b o hb e) f0 f1 f3 f4 f5⟩
 self:=fun _ _ _ _ _ st h=>wpAny_pyIter_rangeiter st h
end L2
namespace L2
open PySem PySem.Spec PyProof.Rows
section
variable {X:Cx} {tg:Expr}
def og(K:EE)(tl:TE):TI:=fun σ H R=>tl σ H fun x H1=>∃a,x=.ref a/\(∃xs,ag K H1 a xs)/\R (b6 K a) H1
def mD(K:EE)(tl:TE):TI:=fun σ H R=>tl σ H fun x H1=>∃a,x=.ref a/\(∃xs,aj K H1 a xs)/\R (bT K a) H1
theorem xZ{l:Expr}{tl:TE}(hl:PE X l tl):PI X tg l (og X.K tl):=by
 intro pins s σ H R I h
 refine au (hl pins s σ H _ I h) fun v s1 ⟨x,H1,I1,r1,q1⟩=>?_
 obtain⟨a,e,⟨xs,hq⟩,q⟩:=q1
 subst e
 cases r1
 obtain⟨its,rv,p,hz⟩:=I1.list hq
 refine wpAny_pyIter_list p.isList ?_
 refine⟨s1.heap.objs.size,[s1.heap.objs.size],_,_,H1,rfl,I1.kept (t':=s1.toks) fun b o e=>EF _ e,pH a _,⟨_,EG _ rfl,rfl,rfl⟩,fun b hb=>?_,q⟩
 have e:b=s1.heap.objs.size:=by simpa using hb
 subst e
 exact I1.fpOk (Nat.le_refl _) (I1.hok.fresh (Nat.le_refl _))
theorem yE{l:Expr}{tl:TE}(hl:PE X l tl):PI X tg l (mD X.K tl):=by
 intro pins s σ H R I h
 refine au (hl pins s σ H _ I h) fun v s1 ⟨x,H1,I1,r1,q1⟩=>?_
 obtain⟨a,e,⟨xs,hq⟩,q⟩:=q1
 subst e
 cases r1
 obtain⟨its,rv,p,hz⟩:=I1.tuple hq
 refine wpAny_pyIter_tuple (show s1.heap.IsTuple a its.toArray from p) ?_
 refine⟨s1.heap.objs.size,[s1.heap.objs.size],_,_,H1,rfl,I1.kept (t':=s1.toks) fun b o e=>EF _ e,uI a _,⟨_,EG _ rfl,rfl,rfl⟩,fun b hb=>?_,q⟩
 have e:b=s1.heap.objs.size:=by simpa using hb
 subst e
 exact I1.fpOk (Nat.le_refl _) (I1.hok.fresh (Nat.le_refl _))
theorem wA{pins:List (Addr×Obj)}{σ:St}{H:Hp}{s:Shared}{R:It->Hp->Prop}{E:Value->Shared->Prop}{lo hi:Int}{t u v:Tok}{tk:Nat}(I:Inv X pins σ H s)(h1:-(2 ^ 62)<=lo)(h2:lo<2 ^ 62)(h3:-(2 ^ 62)<=hi)(h4:hi<2 ^ 62)
  (q:R (dI lo (hi-lo).toNat) H):wpAny (model X.prog X.w) X.A (pyIter (.ref s.heap.objs.size)) (nq X pins σ tg R) E { s with heap:=s.heap.push { cls:=.type "range",data:=.fields #[.int lo t,.int hi u,.int 1 v] },toks:=tk }:=by
 refine wpAny_pyIter_range (IsRange.new ..) (small_one h1 h2 h3 h4) ?_
 have I1:Inv X pins σ H { s with heap:=s.heap.push { cls:=.type "range",data:=.fields #[.int lo t,.int hi u,.int 1 v] },toks:=tk }:=I.kept fun b o e=>EF _ e
 refine⟨(s.heap.push { cls:=.type "range",data:=.fields #[.int lo t,.int hi u,.int 1 v] }).objs.size,[(s.heap.push { cls:=.type "range",data:=.fields #[.int lo t,.int hi u,.int 1 v] }).objs.size],_,_,H,rfl,
  I1.kept (t':=tk) fun b o e=>EF _ e,CU _ lo (hi-lo).toNat,?_,fun b hb=>?_,q⟩
 ·have e1:lo+((0:Nat):Int)*1=lo:=by simp
  have e2:(((hi-lo).toNat:Nat):Int)-((0:Nat):Int)=Builtin.Range.rangeSize lo hi 1:=by rw[rangeSize_one];split<;>omega
  show IsRangeIter _ _ (lo+((0:Nat):Int)*1) ((((hi-lo).toNat:Nat):Int)-((0:Nat):Int)) 1
  rw[e1,e2]
  exact EG _ rfl
 ·have e:b=(s.heap.push { cls:=.type "range",data:=.fields #[.int lo t,.int hi u,.int 1 v] }).objs.size:=by simpa using hb
  subst e
  exact I1.fpOk (Nat.le_refl _) (I1.hok.fresh (Nat.le_refl _))
def qK(ta:TA):TI:=fun σ H R=>ta σ H fun vs H1=>∃j:Int,vs=[.int j]/\-(2 ^ 62)<=j/\j<2 ^ 62/\R (dI 0 j.toNat) H1
theorem dC{a:Expr}{ta:TA}{p pos:Pos}(hg:Gl X "range")(hm:X.mg "range" = none)(ha:PA X [a] ta)(hs:starEach [a] X.env=[(false,eval a X.env)]:=by rfl):PI X tg (.Call (.Name "range" p) [a] [] pos) (qK ta):=by
 intro pins s σ H R I h
 refine Call_ (eJ I hg hm boot_range (PyProof.Rows.callWith_type1 (au (ha pos pins s σ H _ I h) fun us s1 ⟨vs,H1,I1,r1,q1⟩=>?_) hs rfl))
 obtain⟨j,e,q1,q2,q⟩:=q1
 subst e
 cases r1 with
 | cons r rr=>
  cases rr
  obtain⟨t,rfl⟩:=r
  exact call_range_1 (wA I1 (by omega) (by omega) q1 q2 (by simpa using q))
def sx(wi:TI)(g:TG)(tb:TS):TS:=fun D σ H=>wi σ H fun J H1=>∃W:Nat->Nat->St->Hp->Prop,(∃m,W 0 m σ H1)/\∀i m σ H,W i m σ H →
 (J.stop i H/\D.nx σ H)\/(J.go i H/\∃N:St->Hp->Prop,(∀σ' H',N σ' H'->∃m',m'<m/\W (i+1) m' σ' H')/\∀x H',J.yld i H x H'->g x σ H' fun σ2 H2=>tb { D with nx:=N,ct:=N,bk:=D.nx } σ2 H2)
def eX(fp:List Addr)(h:Heap):List (Addr×Obj):=fp.filterMap fun b=>(h.get? b).map fun o=>(b,o)
theorem lK{fp:List Addr}{h:Heap}{b:Addr}{o:Obj}(hb:b∈fp)(e:h.get? b=some o):(b,o)∈eX fp h:=List.mem_filterMap.mpr ⟨b,hb,by rw[e];rfl⟩
theorem uo{fp:List Addr}{h:Heap}{p:Addr×Obj}(hp:p∈eX fp h):p.1∈fp/\h.get? p.1=some p.2:=by
 obtain⟨b,hb,e⟩:=List.mem_filterMap.mp hp
 cases q:h.get? b with
 | none=>rw[q]at e;cases e
 | some o=>
  rw[q]at e
  have e':(b,o)=p:=Option.some.inj e
  subst e'
  exact⟨hb,q⟩
theorem Inv.pinned{pins:List (Addr×Obj)}{σ:St}{H:Hp}{s:Shared}{fp:List Addr}(I:Inv X pins σ H s)(hf:∀b∈fp,bO X pins H b)(ho:∀b∈fp,∃o,s.heap.get? b=some o/\∀v,o.data≠.cell v):Inv X (pins++eX fp s.heap) σ H s:=
 I.pins_of fun p hp=>(List.mem_append.mp hp).elim (fun z=>I.pin p (List.mem_append_right _ z)) fun z=>by
  obtain⟨hb,e⟩:=uo z
  obtain⟨f0,f1,f2,_⟩:=hf p.1 hb
  obtain⟨o,e',d⟩:=ho p.1 hb
  rw[e]at e';cases e'
  exact⟨e,f0,f1,f2,d⟩
theorem Inv.unpinned{pins pl:List (Addr×Obj)}{σ:St}{H:Hp}{s:Shared}(I:Inv X (pins++pl) σ H s):Inv X pins σ H s:=I.pins_of fun p hp=>I.pin p (List.mem_append_right _ (List.mem_append_left _ hp))
theorem bJ{iter:Expr}{body:List Stmt}{wi:TI}{g:TG}{tb:TS}{pos:Pos}(hp:PassesOwn (model X.prog X.w) X.A X.env X.xe)(hc:X.calm=true)(hi:PI X tg iter wi)(hg:PG X tg g)(hb:b9 X body tb)
  (hs:∀x,foldedSetIterable iter X.env x=pure x:=by intro _;rfl):PS X (.For tg iter body [] pos) (sx wi g tb):=by
 intro pins s σ H D I h
 refine wpAny_For (au (hi pins s σ H _ I h) fun v s1 h1=>au h1 fun itv s2 h2=>?_) hs
 obtain⟨it,fp,tn,J,H2,e,I2,T,st2,f2,W,⟨m0,w0⟩,turn⟩:=h2
 subst e
 -- what stays true of the iterator's objects through the loop
 have stat:∀{H':Hp},(∀b∈fp,H' b=none)->∀b∈fp,bO X pins H' b:=fun hn b hb=>⟨hn b hb,(f2 b hb).2⟩
 refine codeAny_forLoop_any (fun n s'=>∃i σ' H',Inv X pins σ' H' s'/\tn i s'.heap/\(∀b∈fp,H' b=none)/\W i n σ' H') ?_ m0 ⟨0,σ,H2,I2,st2,fun b hb=>(f2 b hb).1,w0⟩
 rintro n s3 ⟨i,σ3,H3,I3,st3,fr3,w3⟩
 rcases turn i n σ3 H3 w3 with⟨stop,qn⟩ | ⟨go,N,hN,step⟩
 ·refine wpAny_passesOwn hp (au (T.done X rfl rfl rfl hc i pins s3 σ3 H3 X.xe I3 (stat fr3) st3 stop) fun r s4 ⟨hr,I4⟩=>?_)
  subst hr
  exact wpAny_execs_nil ⟨σ3,H3,I4,qn⟩
 ·refine wpAny_passesOwn hp (au (T.item X rfl rfl rfl hc i pins s3 σ3 H3 X.xe I3 (stat fr3) st3 go) fun r s4 ⟨u,hr,h4⟩=>?_)
  subst hr
  refine wpAny_passesOwn hp (au h4 fun _ s5 ⟨x,H5,I5,r5,y5,st5,fr5⟩=>?_)
  have I5':=I5.pinned (stat fr5) (T.obj _ _ st5)
  refine wpAny_passesOwn hp (au (hg _ s5 σ3 H5 x u _ I5' r5 (step x H5 y5)) fun _ s6 ⟨σ6,H6,I6,q6⟩=>?_)
  refine wpAny_passesOwn hp (au (hb _ s6 σ6 H6 _ I6 q6) fun f s7 q7=>?_)
  have again:∀{σ7:St} {H7:Hp},Inv X (pins++eX fp s5.heap) σ7 H7 s7->N σ7 H7->∃m,m<n/\∃i σ' H',Inv X pins σ' H' s7/\tn i s7.heap/\(∀b∈fp,H' b=none)/\W i m σ' H':=fun{σ7 H7} I7 n7=>by
   obtain⟨m',hm,w7⟩:=hN σ7 H7 n7
   refine⟨m',hm,i+1,σ7,H7,I7.unpinned,T.keep _ _ _ st5 fun b hb o e=>(I7.pin (b,o) (List.mem_append_right _ (List.mem_append_right _ (lK hb e)))).1,fun b hb=>?_,w7⟩
   obtain⟨o,e,d⟩:=T.obj _ _ st5 b hb
   exact(I7.pin (b,o) (List.mem_append_right _ (List.mem_append_right _ (lK hb e)))).2.1
  cases f with
  | next=>obtain⟨σ7,H7,I7,n7⟩:=q7;exact again I7 n7
  | cont=>obtain⟨σ7,H7,I7,n7⟩:=q7;exact again I7 n7
  | brk=>obtain⟨σ7,H7,I7,q7⟩:=q7;exact⟨σ7,H7,I7.unpinned,q7⟩
  | ret v=>obtain⟨x7,σ7,H7,I7,r7,q7⟩:=q7;exact⟨x7,σ7,H7,I7.unpinned,r7,q7⟩
end
theorem Co{K:EE}{a:Addr}{xs:List V}{g:TG}{tb:TS}{D:Ends}{σ:St}{H:Hp}(Pv:Nat->St->Hp->Prop)(h0:Pv 0 σ H)(hl:∀i σ H,i<=xs.length->Pv i σ H->ag K H a xs)
  (hs:∀i x σ H,xs[i]?=some x->Pv i σ H->g x σ H fun σ2 H2=>tb { D with nx:=Pv (i+1),ct:=Pv (i+1),bk:=D.nx } σ2 H2) (hd:∀σ H,Pv xs.length σ H->D.nx σ H) :
  ∃W:Nat->Nat->St->Hp->Prop,(∃m,W 0 m σ H)/\∀i m σ H,W i m σ H →
   ((b6 K a).stop i H/\D.nx σ H)\/((b6 K a).go i H/\∃N:St->Hp->Prop,(∀σ' H',N σ' H'->∃m',m'<m/\W (i+1) m' σ' H')/\∀x H',(b6 K a).yld i H x H'->g x σ H' fun σ2 H2=>tb { D with nx:=N,ct:=N,bk:=D.nx } σ2 H2):=by
 refine⟨fun i m σ H=>m=xs.length-i/\i<=xs.length/\Pv i σ H,⟨xs.length,by simp,Nat.zero_le _,h0⟩,?_⟩
 rintro i m σ H ⟨rfl,hi,p⟩
 have q:=hl i σ H hi p
 by_cases hlt:i<xs.length
 ·refine .inr ⟨⟨xs,xs[i],q,by simp[hlt]⟩,Pv (i+1),fun σ' H' p'=>⟨xs.length-(i+1),by omega,rfl,hlt,p'⟩,fun x H' y=>?_⟩
  obtain⟨e,y⟩:=y
  subst e
  exact hs i x σ _ (y xs q) p
 ·have e:i=xs.length:=by omega
  subst e
  exact .inl ⟨⟨xs,q,Nat.le_refl _⟩,hd σ H p⟩
theorem Bg{K:EE}{a:Addr}{xs:List V}{g:TG}{tb:TS}{D:Ends}{σ:St}{H:Hp}(Pv:Nat->St->Hp->Prop)(h0:Pv 0 σ H)(hl:∀i σ H,i<=xs.length->Pv i σ H->aj K H a xs)
  (hs:∀i x σ H,xs[i]?=some x->Pv i σ H->g x σ H fun σ2 H2=>tb { D with nx:=Pv (i+1),ct:=Pv (i+1),bk:=D.nx } σ2 H2) (hd:∀σ H,Pv xs.length σ H->D.nx σ H) :
  ∃W:Nat->Nat->St->Hp->Prop,(∃m,W 0 m σ H)/\∀i m σ H,W i m σ H →
   ((bT K a).stop i H/\D.nx σ H)\/((bT K a).go i H/\∃N:St->Hp->Prop,(∀σ' H',N σ' H'->∃m',m'<m/\W (i+1) m' σ' H')/\∀x H',(bT K a).yld i H x H'->g x σ H' fun σ2 H2=>tb { D with nx:=N,ct:=N,bk:=D.nx } σ2 H2):=by
 refine⟨fun i m σ H=>m=xs.length-i/\i<=xs.length/\Pv i σ H,⟨xs.length,by simp,Nat.zero_le _,h0⟩,?_⟩
 rintro i m σ H ⟨rfl,hi,p⟩
 have q:=hl i σ H hi p
 by_cases hlt:i<xs.length
 ·refine .inr ⟨⟨xs,xs[i],q,by simp[hlt]⟩,Pv (i+1),fun σ' H' p'=>⟨xs.length-(i+1),by omega,rfl,hlt,p'⟩,fun x H' y=>?_⟩
  obtain⟨e,y⟩:=y
  subst e
  exact hs i x σ _ (y xs q) p
 ·have e:i=xs.length:=by omega
  subst e
  exact .inl ⟨⟨xs,q,Nat.le_refl _⟩,hd σ H p⟩
theorem CM{lo:Int}{n:Nat}{g:TG}{tb:TS}{D:Ends}{σ:St}{H:Hp}(Pv:Nat->St->Hp->Prop)(h0:Pv 0 σ H)
  (hs:∀i σ H,i<n->Pv i σ H->g (.int (lo+i)) σ H fun σ2 H2=>tb { D with nx:=Pv (i+1),ct:=Pv (i+1),bk:=D.nx } σ2 H2) (hd:∀σ H,Pv n σ H->D.nx σ H) :
  ∃W:Nat->Nat->St->Hp->Prop,(∃m,W 0 m σ H)/\∀i m σ H,W i m σ H →
   ((dI lo n).stop i H/\D.nx σ H)\/((dI lo n).go i H/\∃N:St->Hp->Prop,(∀σ' H',N σ' H'->∃m',m'<m/\W (i+1) m' σ' H')/\∀x H',(dI lo n).yld i H x H'->g x σ H' fun σ2 H2=>tb { D with nx:=N,ct:=N,bk:=D.nx } σ2 H2):=by
 refine⟨fun i m σ H=>m=n-i/\i<=n/\Pv i σ H,⟨n,by simp,Nat.zero_le _,h0⟩,?_⟩
 rintro i m σ H ⟨rfl,hi,p⟩
 by_cases hlt:i<n
 ·refine .inr ⟨hlt,Pv (i+1),fun σ' H' p'=>⟨n-(i+1),by omega,rfl,hlt,p'⟩,fun x H' y=>?_⟩
  obtain⟨e,y⟩:=y
  subst e y
  exact hs i σ _ hlt p
 ·have e:i=n:=by omega
  subst e
  exact .inl ⟨Nat.le_refl _,hd σ H p⟩
end L2
namespace L2
open PySem PySem.Spec PyProof.Rows
abbrev R2:=V->V->Hp->VK->Prop
def aZ(X:Cx)(f:Value->Value->Sem Value)(r:R2):Prop:=
 ∀(pins:List (Addr×Obj)) (s:Shared) (σ:St) (H:Hp) (x y:V) (v u:Value) (Q:VK),Inv X pins σ H s->RelV x v->RelV y u->r x y H Q →
  wpAny (model X.prog X.w) X.A (f v u) (EP X pins σ Q) X.xe s
def lP(X:Cx)(f:Value->Sem Value)(r:V->Hp->VK->Prop):Prop:=
 ∀(pins:List (Addr×Obj)) (s:Shared) (σ:St) (H:Hp) (x:V) (v:Value) (Q:VK),Inv X pins σ H s->RelV x v->r x H Q →
  wpAny (model X.prog X.w) X.A (f v) (EP X pins σ Q) X.xe s
def bI(X:Cx)(f:Value)(r:List V->Hp->VK->Prop):Prop:=
 ∀(pins:List (Addr×Obj)) (s:Shared) (σ:St) (H:Hp) (xs:List V) (us:List Value) (Q:VK),Inv X pins σ H s->Vals xs us->r xs H Q →
  wpAny (model X.prog X.w) X.A (call f us) (EP X pins σ Q) X.xe s
def iF(r:R2)(ta tb:TE):TE:=fun σ H Q=>ta σ H fun x H1=>tb σ H1 fun y H2=>r x y H2 Q
def u7(r:V->Hp->VK->Prop)(ta:TE):TE:=fun σ H Q=>ta σ H fun x H1=>r x H1 Q
def rI(C:Int->Int->Prop)(g:Int->Int->V):R2:=fun x y H Q=>∃i j,x=.int i/\y=.int j/\C i j/\Q (g i j) H
def dF(g:Int->Int->V):R2:=fun x y H Q=>∃i j,x=.int i/\y=.int j/\Q (g i j) H
def rU(g:Int->V):V->Hp->VK->Prop:=fun x H Q=>∃i,x=.int i/\Q (g i) H
section
variable {X:Cx} {a b c:Expr} {ta tb tc:TE} {pos:Pos}
theorem ny(ha:PE X a ta)(hb:PE X b tb){pins:List (Addr×Obj)}{s:Shared}{σ:St}{H:Hp}{R:V->V->Hp->Prop}(I:Inv X pins σ H s)
  (h:ta σ H fun x H1=>tb σ H1 fun y H2=>R x y H2) {Q:Value->Shared->Prop} {f:Value->Value->Sem Value}
  (hf:∀v u s2 x y H2,Inv X pins σ H2 s2->RelV x v->RelV y u->R x y H2->wpAny (model X.prog X.w) X.A (f v u) Q X.xe s2) :
  wpAny (model X.prog X.w) X.A (eval a X.env) (fun v s₁=>wpAny (model X.prog X.w) X.A (eval b X.env) (fun u s₂=>wpAny (model X.prog X.w) X.A (f v u) Q X.xe s₂) X.xe s₁) X.xe s:=by
 refine au (ha pins s σ H _ I h) fun v s1 ⟨x,H1,I1,r1,q1⟩=>?_
 refine au (hb pins s1 σ H1 _ I1 q1) fun u s2 ⟨y,H2,I2,r2,q2⟩=>?_
 exact hf v u s2 x y H2 I2 r1 r2 q2
theorem aq{op:Operator}{r:R2}(ho:aZ X (binaryOp op) r)(ha:PE X a ta)(hb:PE X b tb):PE X (.BinOp a op b pos) (iF r ta tb):=by
 intro pins s σ H Q I h
 exact wpAny_BinOp (ny ha hb I h fun v u s2 x y H2 I2 rx ry q=>ho pins s2 σ H2 x y v u Q I2 rx ry q)
theorem fV{op:UnaryOp}{r:V->Hp->VK->Prop}(ho:lP X (unaryOp op) r)(ha:PE X a ta):PE X (.UnaryOp op a pos) (u7 r ta):=by
 intro pins s σ H Q I h
 exact UnaryOp_ (au (ha pins s σ H _ I h) fun v s1 ⟨x,H1,I1,r1,q1⟩=>ho pins s1 σ H1 x v Q I1 r1 q1)
theorem gQ{f:Value->Value->Sem Value}{C:Int->Int->Prop}{g:Int->Int->Int}
  (rule:∀(i j:Int) (t u:Tok) (s:Shared) (Q:Value->Shared->Prop) (E:Value->Shared->Prop),C i j->Q (.int (g i j) s.toks) { s with toks:=s.toks+1 }->wpAny (model X.prog X.w) X.A (f (.int i t) (.int j u)) Q E s) :
  aZ X f (rI C fun i j=>.int (g i j)):=by
 intro pins s σ H x y v u Q I rx ry h
 obtain⟨i,j,rfl,rfl,hc,q⟩:=h
 obtain⟨t,rfl⟩:=rx
 obtain⟨t',rfl⟩:=ry
 exact rule i j t t' s _ _ hc ⟨.int (g i j),H,I.tok _,⟨_,rfl⟩,q⟩
theorem jC{f:Value->Value->Sem Value}{g:Int->Int->Int}
  (rule:∀(i j:Int) (t u:Tok) (s:Shared) (Q:Value->Shared->Prop) (E:Value->Shared->Prop),Q (.int (g i j) s.toks) { s with toks:=s.toks+1 }->wpAny (model X.prog X.w) X.A (f (.int i t) (.int j u)) Q E s) :
  aZ X f (dF fun i j=>.int (g i j)):=by
 intro pins s σ H x y v u Q I rx ry h
 obtain⟨i,j,rfl,rfl,q⟩:=h
 obtain⟨t,rfl⟩:=rx
 obtain⟨t',rfl⟩:=ry
 exact rule i j t t' s _ _ ⟨.int (g i j),H,I.tok _,⟨_,rfl⟩,q⟩
theorem jK{f:Value->Value->Sem Value}{g:Int->Int->Bool}
  (rule:∀(i j:Int) (t u:Tok) (s:Shared) (Q:Value->Shared->Prop) (E:Value->Shared->Prop),Q (.bool (g i j)) s->wpAny (model X.prog X.w) X.A (f (.int i t) (.int j u)) Q E s) :
  aZ X f (dF fun i j=>.bl (g i j)):=by
 intro pins s σ H x y v u Q I rx ry h
 obtain⟨i,j,rfl,rfl,q⟩:=h
 obtain⟨t,rfl⟩:=rx
 obtain⟨t',rfl⟩:=ry
 exact rule i j t t' s _ _ ⟨.bl (g i j),H,I,rfl,q⟩
def oQ(i j:Int):Prop:=0<=j/\j<=1000000/\i.natAbs<2 ^ 64
def j7(i j:Int):Prop:=(-(2 ^ 64)<i/\i<2 ^ 64)\/(-(2 ^ 64)<j/\j<2 ^ 64)
theorem j7.ok{i j:Int}(h:j7 i j):IntMulOk i j:=by
 rcases h with⟨h1,h2⟩ | ⟨h1,h2⟩
 ·exact .of_left (intBits_le_64 h1 h2)
 ·exact .of_right (intBits_le_64 h1 h2)
theorem xI(k:Nat):(0:Int)<=2 ^ k:=by
 rw[two_pow_cast]
 exact Int.natCast_nonneg _
theorem aS:aZ X (binaryOp .Add) (dF fun i j=>.int (i+j)):=jC fun _ _ _ _ _ _ _ q=>add_int q
theorem cK:aZ X (binaryOp .Sub) (dF fun i j=>.int (i-j)):=jC fun _ _ _ _ _ _ _ q=>sub_int q
theorem cR:aZ X (binaryOp .Mult) (rI j7 fun i j=>.int (i*j)):=gQ fun _ _ _ _ _ _ _ hc q=>mul_int q hc.ok
theorem bP:aZ X (binaryOp .Mod) (rI (fun _ j=>0<j) fun i j=>.int (i % j)):=gQ fun i j _ _ _ _ _ hc q=>by
 have h1:(0:Int)<j:=hc
 exact mod_int' (by omega) (by rw[Int.fmod_eq_emod_of_nonneg i (by omega)];exact q)
theorem eC:aZ X (binaryOp .Pow) (rI oQ fun i j=>.int (i ^ j.toNat)):=gQ fun _ _ _ _ _ _ _ hc q=>pow_int_small hc.1 hc.2.1 hc.2.2 q
theorem CK:aZ X (binaryOp .RShift) (rI (fun _ j=>0<=j) fun i j=>.int (i / 2 ^ j.toNat)):=gQ fun i j _ _ _ _ _ hc q=>
 rshift_int hc (by rw[Int.fdiv_eq_ediv_of_nonneg i (xI _)];exact q)
theorem vk:aZ X (binaryOp .BitAnd) (dF fun i j=>.int (Builtin.bitAnd i j)):=jC fun _ _ _ _ _ _ _ q=>and_int q
theorem zw:aZ X (binaryOp .BitOr) (dF fun i j=>.int (Builtin.bitOr i j)):=jC fun _ _ _ _ _ _ _ q=>or_int q
theorem yR{f:Value->Sem Value}{g:Int->Int}
  (rule:∀(i:Int) (t:Tok) (s:Shared) (Q:Value->Shared->Prop) (E:Value->Shared->Prop),Q (.int (g i) s.toks) { s with toks:=s.toks+1 }->wpAny (model X.prog X.w) X.A (f (.int i t)) Q E s) :
  lP X f (rU fun i=>.int (g i)):=by
 intro pins s σ H x v Q I rx h
 obtain⟨i,rfl,q⟩:=h
 obtain⟨t,rfl⟩:=rx
 exact rule i t s _ _ ⟨.int (g i),H,I.tok _,⟨_,rfl⟩,q⟩
theorem ft:lP X (unaryOp .USub) (rU fun i=>.int (-i)):=yR fun _ _ _ _ _ q=>neg_int q
end
def pz:V->V->Bool
 | .non,.non=>true | .non,.int _=>true | .int _,.non=>true | .non,.bl _=>true | .bl _,.non=>true | .non,.str _=>true | .str _,.non=>true
 | .int _,.int _=>true | .bl _,.bl _=>true | .str _,.str _=>true | .byt _,.byt _=>true
 | .int _,.str _=>true | .str _,.int _=>true | .bl _,.str _=>true | .str _,.bl _=>true
 | _,_=>false
def mw:R2:=fun x y H Q=>pz x y=true/\Q (.bl (decide (x=y))) H
def iH:R2:=fun x y H Q=>pz x y=true/\Q (.bl (!decide (x=y))) H
theorem tq{i j:Int}:decide (V.int i=V.int j)=(i == j):=by
 rw[Bool.eq_iff_iff]
 simp
theorem qZ{i j:Bool}:decide (V.bl i=V.bl j)=(i == j):=by
 rw[Bool.eq_iff_iff]
 simp
theorem iq{i j:Str}:decide (V.str i=V.str j)=(i == j):=by
 rw[Bool.eq_iff_iff]
 simp
theorem sT{i j:Array UInt8}:decide (V.byt i=V.byt j)=(i.toList == j.toList):=by
 rw[Bool.eq_iff_iff]
 cases i
 cases j
 simp
section
variable {X:Cx} {a b c:Expr} {ta tb tc:TE} {pos:Pos}
theorem bo{pins:List (Addr×Obj)}{σ:St}{H:Hp}{s:Shared}{Q:VK}{k k':Bool}(I:Inv X pins σ H s)(q:Q (.bl k) H)(e:k=k'):EP X pins σ Q (.bool k') s:=by
 subst e
 exact⟨.bl k,H,I,rfl,q⟩
theorem bV:aZ X (compareOp .Eq) mw:=by
 intro pins s σ H x y v u Q I rx ry h
 obtain⟨hs,q⟩:=h
 cases x with
 | non=>
  cases rx
  cases y with
  | non=>cases ry;exact PySem.EqNone.eq_none_none (bo I q (by simp))
  | bl j=>cases ry;exact PySem.EqNone.eq_none_bool (bo I q (by simp))
  | int j=>obtain⟨t',rfl⟩:=ry;exact PySem.EqNone.eq_none_int (bo I q (by simp))
  | str j=>obtain⟨t',rfl⟩:=ry;exact PySem.EqNone.eq_none_str (bo I q (by simp))
  | _=>exact absurd (show false=true from hs) Bool.false_ne_true
 | bl i=>
  cases rx
  cases y with
  | non=>cases ry;exact PySem.EqNone.eq_bool_none (bo I q (by simp))
  | bl j=>cases ry;exact eq_bool (bo I q qZ)
  | str j=>obtain⟨t',rfl⟩:=ry;exact PySem.EqMixed.eq_bool_str (bo I q (by simp))
  | _=>exact absurd (show false=true from hs) Bool.false_ne_true
 | int i=>
  obtain⟨t,rfl⟩:=rx
  cases y with
  | non=>cases ry;exact PySem.EqNone.eq_int_none (bo I q (by simp))
  | int j=>obtain⟨t',rfl⟩:=ry;exact eq_int (bo I q tq)
  | str j=>obtain⟨t',rfl⟩:=ry;exact PySem.EqMixed.eq_int_str (bo I q (by simp))
  | _=>exact absurd (show false=true from hs) Bool.false_ne_true
 | str i=>
  obtain⟨t,rfl⟩:=rx
  cases y with
  | non=>cases ry;exact PySem.EqNone.eq_str_none (bo I q (by simp))
  | bl j=>cases ry;exact PySem.EqMixed.eq_str_bool (bo I q (by simp))
  | int j=>obtain⟨t',rfl⟩:=ry;exact PySem.EqMixed.eq_str_int (bo I q (by simp))
  | str j=>obtain⟨t',rfl⟩:=ry;exact eq_str (bo I q iq)
  | _=>exact absurd (show false=true from hs) Bool.false_ne_true
 | byt i=>
  obtain⟨t,rfl⟩:=rx
  cases y with
  | byt j=>obtain⟨t',rfl⟩:=ry;exact PySem.W.eq_bytes (bo I q sT)
  | _=>exact absurd (show false=true from hs) Bool.false_ne_true
 | _=>cases y<;>exact absurd (show false=true from hs) Bool.false_ne_true
theorem cL:aZ X (compareOp .NotEq) iH:=by
 intro pins s σ H x y v u Q I rx ry h
 obtain⟨hs,q⟩:=h
 cases x with
 | non=>
  cases rx
  cases y with
  | non=>cases ry;exact PySem.EqNone.ne_none_none (bo I q (by simp))
  | bl j=>cases ry;exact PySem.EqNone.ne_none_bool (bo I q (by simp))
  | int j=>obtain⟨t',rfl⟩:=ry;exact PySem.EqNone.ne_none_int (bo I q (by simp))
  | str j=>obtain⟨t',rfl⟩:=ry;exact PySem.EqNone.ne_none_str (bo I q (by simp))
  | _=>exact absurd (show false=true from hs) Bool.false_ne_true
 | bl i=>
  cases rx
  cases y with
  | non=>cases ry;exact PySem.EqNone.ne_bool_none (bo I q (by simp))
  | bl j=>cases ry;exact ne_bool (bo I q (congrArg not qZ))
  | str j=>obtain⟨t',rfl⟩:=ry;exact PySem.EqMixed.ne_bool_str (bo I q (by simp))
  | _=>exact absurd (show false=true from hs) Bool.false_ne_true
 | int i=>
  obtain⟨t,rfl⟩:=rx
  cases y with
  | non=>cases ry;exact PySem.EqNone.ne_int_none (bo I q (by simp))
  | int j=>obtain⟨t',rfl⟩:=ry;exact ne_int (bo I q (congrArg not tq))
  | str j=>obtain⟨t',rfl⟩:=ry;exact PySem.EqMixed.ne_int_str (bo I q (by simp))
  | _=>exact absurd (show false=true from hs) Bool.false_ne_true
 | str i=>
  obtain⟨t,rfl⟩:=rx
  cases y with
  | non=>cases ry;exact PySem.EqNone.ne_str_none (bo I q (by simp))
  | bl j=>cases ry;exact PySem.EqMixed.ne_str_bool (bo I q (by simp))
  | int j=>obtain⟨t',rfl⟩:=ry;exact PySem.EqMixed.ne_str_int (bo I q (by simp))
  | str j=>obtain⟨t',rfl⟩:=ry;exact ne_str (bo I q (congrArg not iq))
  | _=>exact absurd (show false=true from hs) Bool.false_ne_true
 | byt i=>
  obtain⟨t,rfl⟩:=rx
  cases y with
  | byt j=>obtain⟨t',rfl⟩:=ry;exact PySem.W.ne_bytes (bo I q (congrArg not sT))
  | _=>exact absurd (show false=true from hs) Bool.false_ne_true
 | _=>cases y<;>exact absurd (show false=true from hs) Bool.false_ne_true
theorem eS:aZ X (compareOp .Lt) (dF fun i j=>.bl (decide (i<j))):=jK fun _ _ _ _ _ _ _ q=>lt_int q
theorem jV:aZ X (compareOp .LtE) (dF fun i j=>.bl (decide (i<=j))):=jK fun _ _ _ _ _ _ _ q=>le_int q
theorem fg:aZ X (compareOp .Gt) (dF fun i j=>.bl (decide (j<i))):=jK fun _ _ _ _ _ _ _ q=>gt_int q
theorem uz:aZ X (compareOp .GtE) (dF fun i j=>.bl (decide (j<=i))):=jK fun _ _ _ _ _ _ _ q=>ge_int q
theorem Ay:aZ X (compareOp .Is) (fun x y H Q=>y=.non/\Q (.bl (decide (x=.non))) H):=by
 intro pins s σ H x y v u Q I rx ry h
 obtain⟨rfl,q⟩:=h
 cases ry
 refine is_none_gen (bo I q ?_)
 cases x<;>first
  | (cases rx;rfl)
  | (obtain⟨t,rfl⟩:=rx;rfl)
theorem wI:aZ X (compareOp .IsNot) (fun x y H Q=>y=.non/\Q (.bl (!decide (x=.non))) H):=by
 intro pins s σ H x y v u Q I rx ry h
 obtain⟨rfl,q⟩:=h
 cases ry
 refine isnot_none_gen (bo I q ?_)
 cases x<;>first
  | (cases rx;rfl)
  | (obtain⟨t,rfl⟩:=rx;rfl)
theorem aK(b:Expr){op:CmpOp}(h:op≠.In:=by decide)(h2:op≠.NotIn:=by decide):behindInMarks op b=false:=by
 have e1:(op == CmpOp.In)=false:=by cases op<;>first | rfl | exact absurd rfl h
 have e2:(op == CmpOp.NotIn)=false:=by cases op<;>first | rfl | exact absurd rfl h2
 cases b<;>simp[behindInMarks,e1,e2]
theorem hZ{op:CmpOp}{r:R2}(ho:aZ X (compareOp op) r)(ha:PE X a ta)(hb:PE X b tb)(hm:behindInMarks op b=false):PE X (.Compare a [op] [b] pos) (iF r ta tb):=by
 intro pins s σ H Q I h
 exact wpAny_Compare1 (ny ha hb I h fun v u s2 x y H2 I2 rx ry q=>ho pins s2 σ H2 x y v u Q I2 rx ry q) hm
def uL(t:TE):TT:=fun σ H Q=>t σ H fun x H'=>∃k,x=.bl k/\Q k H'
theorem aM{op:CmpOp}{r:R2}(ho:aZ X (compareOp op) r)(ha:PE X a ta)(hb:PE X b tb)(hm:behindInMarks op b=false):PT X (.Compare a [op] [b] pos) (uL (iF r ta tb)):=by
 intro pins s σ H Q I h
 refine wpAny_isTrue_Compare1 (au (ha pins s σ H _ I h) fun v s1 ⟨x,H1,I1,r1,q1⟩=>au (hb pins s1 σ H1 _ I1 q1) fun u s2 ⟨y,H2,I2,r2,q2⟩=>
  au (ho pins s2 σ H2 x y v u _ I2 r1 r2 q2) fun c s3 ⟨z,H3,I3,r3,k,e,q3⟩=>?_) hm
 subst e
 cases r3
 exact wpAny_truthy_bool ⟨H3,I3,q3⟩
def pL(r r':R2)(ta tb tc:TE):TE:=fun σ H Q=>ta σ H fun x H1=>tb σ H1 fun y H2=>r x y H2 fun z H3=>∃k,z=.bl k ∧
 (if k=true then tc σ H3 fun w' H4=>r' y w' H4 Q else Q (.bl false) H3)
theorem mS{op op':CmpOp}{r r':R2}(ho:aZ X (compareOp op) r)(ho':aZ X (compareOp op') r')(ha:PE X a ta)(hb:PE X b tb)(hc:PE X c tc)
  (hm:lastMarks [op,op'] [b,c]=false:=by with_unfolding_all rfl):PE X (.Compare a [op,op'] [b,c] pos) (pL r r' ta tb tc):=by
 intro pins s σ H Q I h
 refine Compare_chain (au (ha pins s σ H _ I h) fun v s1 ⟨x,H1,I1,r1,q1⟩=>chain_link (au (hb pins s1 σ H1 _ I1 q1) fun u s2 ⟨y,H2,I2,r2,q2⟩=>
  au (ho pins s2 σ H2 x y v u _ I2 r1 r2 q2) fun d s3 ⟨z,H3,I3,r3,k,e,q3⟩=>?_)) hm
 subst e
 cases r3
 refine wpAny_truthy_bool ?_
 cases k with
 | false=>exact ite_ff ⟨.bl false,H3,I3,rfl,q3⟩
 | true=>exact ite_tt (chain_last (au (hc pins s3 σ H3 _ I3 q3) fun w' s4 ⟨z',H4,I4,r4,q4⟩=>ho' pins s4 σ H4 y z' u w' Q I4 r2 r4 q4))
theorem gg:(sizeLine:Nat)<2 ^ 63:=by rw[sizeLine_eq];decide
theorem pQ:aZ X (binaryOp .Add) (fun x y H Q=>∃i j,x=.str i/\y=.str j/\i.length+j.length<=sizeLine/\Q (.str (i++j)) H):=by
 intro pins s σ H x y v u Q I rx ry h
 obtain⟨i,j,rfl,rfl,hz,q⟩:=h
 obtain⟨t,rfl⟩:=rx
 obtain⟨t',rfl⟩:=ry
 exact add_str (fun t' tk=>⟨.str (i++j),H,I.tok _,⟨_,rfl⟩,q⟩) hz
theorem vals1{x:V}{us:List Value}(r:Vals [x] us):∃u,us=[u]/\RelV x u:=by
 cases r with
 | cons r1 r2=>cases r2;exact⟨_,rfl,r1⟩
theorem vals2{x y:V}{us:List Value}(r:Vals [x,y] us):∃u w',us=[u,w']/\RelV x u/\RelV y w':=by
 cases r with
 | cons r1 r2=>
  cases r2 with
  | cons r3 r4=>cases r4;exact⟨_,_,rfl,r1,r3⟩
theorem yO(hc:X.calm=true):bI X (.builtin "max") (fun xs H Q=>∃i j,xs=[.int i,.int j]/\Q (.int (if j>i then j else i)) H):=by
 intro pins s σ H xs us Q I r h
 obtain⟨i,j,rfl,q⟩:=h
 obtain⟨u,w',rfl,⟨t,rfl⟩,⟨t',rfl⟩⟩:=vals2 r
 refine max_two_ints (I.ok.hd hc) fun h' tk k=>⟨_,H,I.kept k,?_,q⟩
 by_cases hj:j>i
 ·rw[if_pos hj,if_pos hj];exact⟨_,rfl⟩
 ·rw[if_neg hj,if_neg hj];exact⟨_,rfl⟩
end
end L2
namespace L2
open PySem PySem.Spec PyProof.Rows
structure ObjM(h:Heap)(x dx C:Addr)(mA:Str->Option Value):Prop where
 obj:h.get? x=some (PySem.W.instObj C dx)
 ns:h.Ns1 dx mA
 ne:dx≠x
theorem xk{h:Heap}{dx:Addr}{mA:Str->Option Value}(n:h.Ns1 dx mA):∃od,h.get? dx=some od/\∀name,PySem.W.lookIn name od=some (mA name):=by
 obtain⟨o,es,ep,ho,hd,hk,_,hm⟩:=n
 refine⟨o,ho,fun name=>?_⟩
 have e:=hm name
 unfold nsFind findBy at e
 rw[←Array.find?_toList]at e
 unfold PySem.W.lookIn
 rw[hd]
 dsimp only
 split
 ·rename_i y q
  rw[q]at e
  exact congrArg some e
 ·rename_i q
  rw[q]at e
  have a:es.toList.any (·.refKey)=false:=by
   rw[List.any_eq_false]
   intro y hy
   obtain⟨z,t,hkey⟩:=hk y (Array.mem_toList_iff.mp hy)
   simp[DictEntry.refKey,hkey]
  have a':¬es.toList.any (·.refKey)=true:=by rw[a];exact Bool.false_ne_true
  rw[if_neg a']
  exact congrArg some e
theorem ObjM.look{h:Heap}{x dx C:Addr}{mA:Str->Option Value}(I:ObjM h x dx C mA):∃od,PySem.W.InstAt h x (PySem.W.instObj C dx) C (some od)/\∀name,PySem.W.lookIn name od=some (mA name):=
 let ⟨od,ho,hl⟩:=xk I.ns
 ⟨od,⟨I.obj,rfl,rfl,ho⟩,hl⟩
section
variable {prog:Program} {w:World} {A:Around} {E:Value->Shared->Prop} {s:Shared} {K:EE} {x dx C f:Addr} {mA:Str->Option Value} {name:Str} {v:Value}
end
theorem dg.some_of{v:V}{o:Option Value}(r:dg (some v) o):∃u,o=some u/\RelV v u:=by
 cases o with
 | none=>exact(show False from r).elim
 | some u=>exact⟨u,rfl,r⟩
section
variable {P:Program} {w:World} {H H':Hp} {h h':Heap} {a C dx:Addr} {fs fs':List (Str×V)}
theorem BY(hok:bj P w H h)(e:H a=some (.ins C dx fs)):∃mA,ObjM h a dx C mA/\(∀f,dg (fs.lookup f) (mA f))/\PySem.Within mA (fs.map (·.1))/\fs.length<=1000/\H dx=some (.own a):=by
 obtain⟨d,z,ne,ob,mA,n,r,q⟩:=(show bp P w H h a (.ins C dx fs)from hok a _ e)
 exact⟨mA,⟨ob,n,ne⟩,r,q,z,d⟩
end
structure Cls(K:EE)(C:Addr):Prop where
 pg:PySem.W.plainGet K C Str.empty=true
 hd:PySem.W.hasDictIn K C=true
 po:PySem.W.plainOver K C=true
 sa:PySem.W.findIn K (.ref C) "__setattr__" = some (some (.builtin "object.__setattr__"))
theorem Cls.get{K:EE}{C:Addr}(c:Cls K C)(f:Str):PySem.W.plainGet K C f=true:=c.pg
section
variable {X:Cx} {pins:List (Addr×Obj)} {σ:St} {H:Hp} {s:Shared} {a C dx:Addr} {fs:List (Str×V)} {f:Str} {v:V} {A:Around} {E:Value->Shared->Prop}
end
section
variable {X:Cx} {o e value:Expr} {f:Str} {pos pos' tpos:Pos} {ta tv:TE}
end
section
variable {X:Cx} {pins:List (Addr×Obj)} {σ:St} {H:Hp} {s:Shared} {A:Around} {E:Value->Shared->Prop} {Q:Value->Shared->Prop} {c:Value} {b:Bool}
inductive TyOf(K:EE)(H:Hp):V->Value->Prop where
 | non:TyOf K H .non (.type "NoneType")
 | bl (x:Bool):TyOf K H (.bl x) (.type "bool")
 | int (i:Int):TyOf K H (.int i) (.type "int")
 | str (x:Str):TyOf K H (.str x) (.type "str")
 | flt (x:UInt64):TyOf K H (.flt x) (.type "float")
 | lst {a:Addr} {xs:List V} (e:H a=some (.lst xs)):TyOf K H (.ref a) (.type "list")
 | frz {a:Addr} {o:Obj} {xs:List V} (e:H a=some (.frz o (.lst xs))):TyOf K H (.ref a) (.type "list")
 | tup {a:Addr} {xs:List V} (e:H a=some (.tup xs)):TyOf K H (.ref a) (.type "tuple")
 | dK {a:Addr} {kvs:List (Key×V)} (e:H a=some (.dK kvs)):TyOf K H (.ref a) (.type "dict")
 | dT {a:Addr} {kvs:List (List Key×V)} (e:H a=some (.dT kvs)):TyOf K H (.ref a) (.type "dict")
 | ins {a C dx:Addr} {fs:List (Str×V)} (e:H a=some (.ins C dx fs)) (cl:Cls K C) (ha:PySem.W.findIn K (.ref C) "__class__" = some (some (.builtin "object.__class__")))
   (hn:PySem.W.specialIn K (.builtin "object.__class__") "__get__" = some (some (.builtin "getset_descriptor.__get__"))) (htk:PySem.W.takesIn K (.builtin "object.__class__")=some true)
   (hm:PySem.W.mroIn K C (.type "object")=some true):TyOf K H (.ref a) (.ref C)
theorem Dm{x:V}{u t:Value}(I:Inv X pins σ H s)(rx:RelV x u)(ty:TyOf X.K H x t)(e:PySem.W.kitOne X.K t c=some b)(h:∀tk,Q (.bool b) { s with toks:=tk }):
  wpAny (model X.prog X.w) A (call (.builtin "isinstance") [u,c]) Q E s:=by
 cases ty with
 | non=>cases(show u=Value.none from rx);exact PySem.W.kia_one PySem.W.kitx_none I.kIn True.intro e (fun z=>nomatch z) h
 | bl y=>cases(show u=Value.bool y from rx);exact PySem.W.kia_one PySem.W.kitx_bool I.kIn True.intro e (fun z=>nomatch z) h
 | int i=>obtain⟨t,q⟩:=(show ∃t,u=Value.int i t from rx);cases q;exact PySem.W.kia_one PySem.W.kitx_int I.kIn True.intro e (fun z=>nomatch z) h
 | str y=>obtain⟨t,q⟩:=(show ∃t,u=Value.str y t from rx);cases q;exact PySem.W.kia_one PySem.W.kitx_str I.kIn True.intro e (fun z=>nomatch z) h
 | flt y=>obtain⟨t,q⟩:=(show ∃t,u=Value.float y t from rx);cases q;exact PySem.W.kia_one PySem.W.kitx_float I.kIn True.intro e (fun z=>nomatch z) h
 | @lst a xs ea=>
  cases(show u=Value.ref a from rx)
  obtain⟨_,_,n,_,h1⟩:=(show bp X.prog X.w H s.heap a (.lst xs)from I.hok a _ ea)
  exact PySem.W.kia_one PySem.W.kitx_list I.kIn ⟨_,h1,rfl⟩ e (fun z=>nomatch z) h
 | @frz a ob xs ea=>
  cases(show u=Value.ref a from rx)
  obtain⟨_,_,_,n,_,h1⟩:=(show bp X.prog X.w H s.heap a (.frz ob (.lst xs))from I.hok a _ ea)
  exact PySem.W.kia_one PySem.W.kitx_list I.kIn ⟨_,h1,rfl⟩ e (fun z=>nomatch z) h
 | @tup a xs ea=>
  cases(show u=Value.ref a from rx)
  obtain⟨_,_,_,p⟩:=(show bp X.prog X.w H s.heap a (.tup xs)from I.hok a _ ea)
  obtain⟨o,h1,h2,_⟩:=p
  exact PySem.W.kia_one PySem.W.kitx_tuple I.kIn ⟨o,h1,h2⟩ e (fun z=>nomatch z) h
 | @dK a kvs ea=>
  cases(show u=Value.ref a from rx)
  obtain⟨_,_,vs,_,p⟩:=(show bp X.prog X.w H s.heap a (.dK kvs)from I.hok a _ ea)
  obtain⟨o,es,ep,h1,h2,_⟩:=p
  exact PySem.W.kia_one PySem.W.kitx_dict I.kIn ⟨o,h1,h2.1⟩ e (fun z=>nomatch z) h
 | @dT a kvs ea=>
  cases(show u=Value.ref a from rx)
  obtain⟨_,_,xs,_,o,es,ep,h1,h2,_⟩:=(show bp X.prog X.w H s.heap a (.dT kvs)from I.hok a _ ea)
  exact PySem.W.kia_one PySem.W.kitx_dict I.kIn ⟨o,h1,h2.1⟩ e (fun z=>nomatch z) h
 | @ins a C dx fs ea cl ha hn htk hm=>
  cases(show u=Value.ref a from rx)
  obtain⟨mA,O,_⟩:=BY I.hok ea
  obtain⟨od,J,_⟩:=O.look
  exact PySem.W.kia_one (PySem.W.kitx_own (cl.get _) cl.hd ha hn htk hm) I.kIn J e (fun z=>nomatch z) h
end
end L2
namespace L2
open PySem PySem.Spec PyProof.Rows
structure Room(k:Nat)(A:Around):Prop where
 hd:A.handled=none
 dp:A.depth+3*k+5<recursionLimit
 un:A.units+16*k+200<cLine
theorem Room.mono{j k:Nat}{A:Around}(r:Room k A)(h:j<=k):Room j A:=⟨r.hd,by have:=r.dp;omega,by have:=r.un;omega⟩
theorem Room.deeper{k:Nat}{A:Around}(r:Room (k+1) A)(env:Env):Room k (A.deeper env):=
 ⟨r.hd,by have:=r.dp;show A.depth+1+3*k+5<_;omega,by have:=r.un;show A.units+3+16*k+200<_;omega⟩
theorem Room.depth{k:Nat}{A:Around}(r:Room k A):A.depth<recursionLimit:=by have:=r.dp;omega
theorem Room.units{k:Nat}{A:Around}(r:Room k A):A.units+64<cLine:=by have:=r.un;omega
def oa:TA:=fun _ H Q=>Q [] H
def jg(ta:TE)(tr:TA):TA:=fun σ H Q=>ta σ H fun x H1=>tr σ H1 fun xs H2=>Q (x::xs) H2
section
variable {X:Cx} {e:Expr} {es:List Expr} {te:TE} {t:TA} {pos:Pos}
theorem af:PA X [] oa:=fun _ _ _ _ H Q I h=>Calls.spliced_nil ⟨[],H,I,.nil,h⟩
theorem aa(ha:PE X e te)(hr:PA X es t)(hs:starEach (e::es) X.env=(false,eval e X.env)::starEach es X.env:=by rfl):PA X (e::es) (jg te t):=by
 intro pos pins s σ H Q I h
 rw[hs]
 show wpAny _ _ (spliced ((false,eval e X.env)::backTo pos (starEach es X.env))) _ _ s
 refine Calls.spliced_cons (au (ha pins s σ H _ I h) fun u s1 ⟨x,H1,I1,r1,q1⟩=>?_)
 exact au (hr pos pins s1 σ H1 _ I1 q1) fun us s2 ⟨xs,H2,I2,r2,q2⟩=>⟨x::xs,H2,I2,.cons r1 r2,q2⟩
def mz(t:TA):TE:=fun σ H Q=>t σ H fun xs H1=>xs.length<=sizeLine/\∀p,H1 p=none->Q (.ref p) (upd H1 p (.tup xs))
def uK(t:TA):TE:=fun σ H Q=>t σ H fun xs H1=>xs.length<=sizeLine/\∀p,H1 p=none->Q (.ref p) (upd H1 p (.lst xs))
theorem aF{x1}(h:PA X es t):PE X (.Tuple es x1 pos) (mz t):=by
 intro pins s σ H Q I hq
 refine wpAny_Tuple_spliced (au (h pos pins s σ H _ I hq) fun us s1 ⟨xs,H1,I1,r,z,q⟩=>⟨by rw[←r.length];exact z,?_⟩)
 have hf:H1 s1.heap.objs.size=none:=I1.hok.fresh (Nat.le_refl _)
 refine⟨.ref s1.heap.objs.size,upd H1 s1.heap.objs.size (.tup xs),I1.laid (t':=s1.toks) (fun b u e=>EF _ e) (Nat.le_refl _) ?_,rfl,q _ hf⟩
 exact⟨z,us,r,⟨_,EG _ rfl,rfl,_,rfl⟩⟩
theorem aQ(h:PA X es t):PE X (.List es pos) (uK t):=by
 intro pins s σ H Q I hq
 refine wpAny_List_spliced (au (h pos pins s σ H _ I hq) fun us s1 ⟨xs,H1,I1,r,z,q⟩=>⟨by rw[←r.length];exact z,?_⟩)
 have hf:H1 s1.heap.objs.size=none:=I1.hok.fresh (Nat.le_refl _)
 refine⟨.ref s1.heap.objs.size,upd H1 s1.heap.objs.size (.lst xs),I1.laid (t':=s1.toks) (fun b u e=>EF _ e) (Nat.le_refl _) ?_,rfl,q _ hf⟩
 exact⟨z,us,0,r,EG _ rfl⟩
end
abbrev Sp:=List V->Hp->VK->XK->Prop
abbrev df:=List Env->Hp->Shared->XK->Value->Shared->Prop
structure Env0(P:Program)(w:World)(K:EE)(mg:Str->Option Value)(base:Heap)(A:Around)(outer:List Env)(s:Shared)(H:Hp):Prop where
 frames:A.frames=some outer
 mod:Mod K mg base
 bs:∀b o,base.get? b=some o->s.heap.get? b=some o/\H b=none
 bsz:base.objs.size<=s.heap.objs.size
 funs:s.heap.FunFrames base outer
 frf:∀b∈aX outer,H b=none
 hok:bj P w H s.heap
 bare:AllBare s.gens
def CE(outer:List Env)(P:Program)(w:World)(H:Hp)(s:Shared)(Q:VK)(u:Value)(s':Shared):Prop:=
 ∃v H',s'.os=s.os/\AllBare s'.gens/\Un (aX outer) [] H H' s.heap s'.heap/\bj P w H' s'.heap/\RelV v u/\Q v H'
def CR(CX:df)(outer:List Env)(P:Program)(w:World)(H:Hp)(s:Shared)(Q:VK)(E:XK)(r:Result)(s':Shared):Prop:=
 match r with
 | .ok (.ret u)=>CE outer P w H s Q u s'
 | .ok _=>False
 | .error e=>CX outer H s E e s'
structure FnOk(P:Program)(w:World)(K:EE)(mg:Str->Option Value)(base:Heap)(CX:df)(k:Nat)(f:Addr)(fd:FuncData)(ps:List Str)(sp:Sp):Prop where
 len:∀vs H Q E,sp vs H Q E->vs.length=ps.length
 run:∀(A:Around) (outer:List Env) (s:Shared) (H:Hp) (args:Args) (us:List Value) (vs:List V) (Q:VK) (E:XK),Room k A->Env0 P w K mg base A outer s H->BindsTo s fd args (ps.zip us)->Vals vs us->sp vs H Q E →
  codeAny (model P w) A (.call (.ref f) args) (CR CX outer P w H s Q E) s
section
variable {X:Cx} {pins:List (Addr×Obj)} {σ:St} {H:Hp} {s s':Shared}
theorem Inv.env0(I:Inv X pins σ H s):Env0 X.prog X.w X.K X.mg X.base X.A X.stack s H:=
 ⟨I.ok.frames,I.ok.mod,I.bs,Nat.le_trans I.ok.bsz I.sz,I.stack,I.stkFree,I.hok,I.bare⟩
theorem Inv.after{Q:VK}{u:Value}(I:Inv X pins σ H s)(h:CE X.stack X.prog X.w H s Q u s'):EP X pins σ Q u s':=by
 obtain⟨v,H',os,bare,un,hok,r,q⟩:=h
 obtain⟨hh,g,d,t,os'⟩:=s'
 obtain rfl:os'=s.os:=os
 exact⟨v,H',I.call (h':=hh) (g':=g) (d':=d) (t':=t) (ch:=[]) un hok bare (fun b z=>absurd z (by simp)),r,q⟩
end
def kT(sp:Sp)(dvs:List V)(E:XK)(t:TA):TE:=fun σ H Q=>t σ H fun vs H1=>sp (vs++dvs) H1 Q E
def Binds(K:EE)(fd:FuncData)(ps:List Str)(ds:List Value):Prop:=
 ∀(s:Shared) (us:List Value),K.In s.heap->(us++ds).length=ps.length->BindsTo s fd ⟨us,[]⟩ (ps.zip (us++ds))
theorem Binds.all{K:EE}{fd:FuncData}{ps:List Str}(h:∀us:List Value,us.length=ps.length->bindArgs fd ⟨us,[]⟩=pure (ps.zip us)):Binds K fd ps []:=fun s us _ hl=>by
 rw[List.append_nil]at hl ⊢
 exact .of_eq (h us hl)
def Passes(CX:df)(X:Cx)(E:XK):Prop:=∀(pins:List (Addr×Obj)) (σ:St) (H:Hp) (s:Shared) (e:Value) (s':Shared),Inv X pins σ H s->CX X.stack H s E e s'->X.xe e s'
section
variable {X:Cx} {CX:df} {k:Nat} {f C:Addr} {fd:FuncData} {ps:List Str} {sp:Sp} {dvs:List V} {ds:List Value} {E:XK} {x m:Str} {p pos apos:Pos} {e o:Expr} {es:List Expr} {ta:TE} {t:TA}
theorem zU{pins:List (Addr×Obj)}{σ:St}{H:Hp}{s:Shared}{Q:VK}{us:List Value}{vs:List V}(F:FnOk X.prog X.w X.K X.mg X.base CX k f fd ps sp)(hr:Room k X.A)(hb:Binds X.K fd ps ds)(hd:Vals dvs ds)(hx:Passes CX X E)
  (I:Inv X pins σ H s) (r:Vals vs us) (h:sp (vs++dvs) H Q E):wpAny (model X.prog X.w) X.A (call (.ref f) us) (EP X pins σ Q) X.xe s:=by
 have r2:Vals (vs++dvs) (us++ds):=r.append hd
 have hl:(us++ds).length=ps.length:=by rw[←r2.length];exact F.len _ _ _ _ h
 refine wpAny_call (codeAny_mono (F.run X.A X.stack s H ⟨us,[]⟩ (us++ds) (vs++dvs) Q E hr I.env0 (hb s us I.kIn hl) r2 h) fun r s' hq=>?_)
 cases r with
 | error e=>exact hx pins σ H s e s' I hq
 | ok fl=>
  cases fl with
  | ret u=>exact I.after hq
  | next=>exact False.elim hq
  | brk=>exact False.elim hq
  | cont=>exact False.elim hq
theorem oG(F:FnOk X.prog X.w X.K X.mg X.base CX k f fd ps sp)(hr:Room k X.A)(hg:Gl X x)(hm:X.mg x=some (.ref f))(hk:PySem.W.keepIn X.K (.ref f)=true)(hb:Binds X.K fd ps ds)(hd:Vals dvs ds)(hx:Passes CX X E)
  (ha:PA X (e::es) t) (hdb:(x == ("__debug__":Str))=false:=by decide) (he:starEach (e::es) X.env=(false,eval e X.env)::starEach es X.env:=by rfl) (hpl:(backTo pos (starEach es X.env)).any (·.1)=false:=by rfl) :
  PE X (.Call (.Name x p) (e::es) [] pos) (kT sp dvs E t):=by
 intro pins s σ H Q I h
 refine wpAny_Call_Name_kw (fw I hg hm ?_ hdb)
 refine PySem.W.callWith_K (h₀:=X.base) I.ok.mod.kin hk (au (ha pos pins s σ H _ I h) fun us s1 ⟨vs,H1,I1,r,q⟩=>⟨I1.kIn,?_⟩) he hpl
 exact zU F hr hb hd hx I1 r q
end
section
variable {X:Cx} {CX:df} {k:Nat} {f C:Addr} {fd:FuncData} {ps ks:List Str} {sp:Sp} {E:XK} {x m:Str} {p pos apos kpos:Pos} {e o:Expr} {es:List Expr} {kws:List Keyword} {te ta:TE} {t tk:TA} {nm:Option Str}
variable {g:List Value->List Value->List Value} {gV:List V->List V->List V}
end
structure FnScope(N P:List Str)(sc:Scope):Prop where
 kind:sc.kind=.function
 co:sc.isCoroutine=false
 gen:sc.isGenerator=false
 nd:N.Nodup
 pre:N.take P.length=P
 par:∀x∈P,sc.names.lookup x=some .local\/sc.names.lookup x=some .cell
 nofree:∀y∈sc.names,y.2≠.free
theorem vI{kindOf:Str->Option NameKind}{x:Str}:∀{binds:List (Str×Value)} {m:Str->Option Value},(∀v,(x,v)∉binds)->bindL kindOf binds m x=m x
 | [],_,_=>rfl
 | (n,v)::r,m,h=>by
  unfold bindL
  rw[vI fun w hw=>h w (EL _ hw)]
  split
  ·have:x≠n:=by rintro rfl;exact h v EO
   simp[this]
  ·rfl
theorem oN{kindOf:Str->Option NameKind}{x:Str}:∀{binds:List (Str×Value)} {m:Str->Option Value},(∀v,(x,v)∉binds)->bindC kindOf binds m x=m x
 | [],_,_=>rfl
 | (n,v)::r,m,h=>by
  unfold bindC
  rw[oN fun w hw=>h w (EL _ hw)]
  split
  ·rfl
  ·have:x≠n:=by rintro rfl;exact h v EO
   simp[this]
theorem rD{kindOf:Str->Option NameKind}{x:Str}{v:Value}:∀{P:List Str} {vs:List Value} {i:Nat} {m:Str->Option Value},P.Nodup->P[i]?=some x->vs[i]?=some v->kindOf x=some .local →
  bindL kindOf (P.zip vs) m x=some v
 | [],_,_,_,_,h,_,_=>by simp at h
 | _::_,[],_,_,_,_,h,_=>by simp at h
 | p::P,w::vs,0,m,nd,h1,h2,hk=>by
  simp at h1 h2;subst h1;subst h2
  show bindL kindOf ((p,w)::P.zip vs) m p=_
  unfold bindL
  rw[vI fun v hv=>(List.nodup_cons.mp nd).1 (List.of_mem_zip hv).1,if_pos hk]
  simp
 | p::P,w::vs,i+1,m,nd,h1,h2,hk=>by
  show bindL kindOf ((p,w)::P.zip vs) m x=_
  unfold bindL
  exact rD (i:=i) (List.nodup_cons.mp nd).2 (by simpa using h1) (by simpa using h2) hk
theorem sq{kindOf:Str->Option NameKind}{x:Str}{v:Value}:∀{P:List Str} {vs:List Value} {i:Nat} {m:Str->Option Value},P.Nodup->P[i]?=some x->vs[i]?=some v->kindOf x≠some .local →
  bindC kindOf (P.zip vs) m x=some v
 | [],_,_,_,_,h,_,_=>by simp at h
 | _::_,[],_,_,_,_,h,_=>by simp at h
 | p::P,w::vs,0,m,nd,h1,h2,hk=>by
  simp at h1 h2;subst h1;subst h2
  show bindC kindOf ((p,w)::P.zip vs) m p=_
  unfold bindC
  rw[oN fun v hv=>(List.nodup_cons.mp nd).1 (List.of_mem_zip hv).1,if_neg hk]
  simp
 | p::P,w::vs,i+1,m,nd,h1,h2,hk=>by
  show bindC kindOf ((p,w)::P.zip vs) m x=_
  unfold bindC
  exact sq (i:=i) (List.nodup_cons.mp nd).2 (by simpa using h1) (by simpa using h2) hk
def start(N:List Str)(vs:List V):St:=vs.map some++List.replicate (N.length-vs.length) none
def bA(CX:df)(P:Program)(w:World)(K:EE)(mg:Str->Option Value)(base:Heap)(N:List Str)(qual:Str)(scope:Scope)(f:Addr)(cd:Value)(A:Around)(outer:List Env)(s:Shared)(H:Hp)(E:XK):Cx where
 prog:=P
 w:=w
 K:=K
 mg:=mg
 base:=base
 A:=A.deeper (envOfC qual scope s.heap.objs.size f cd)
 N:=N
 s₀:=s
 H₀:=H
 env:=envOfC qual scope s.heap.objs.size f cd
 outer:=outer
 stack:=envOfC qual scope s.heap.objs.size f cd::outer
 ex:=[]
 calm:=true
 fn:=fun _=>true
 pn:=[]
 xe:=fun e s'=>wpAny (model P w) (A.deeper (envOfC qual scope s.heap.objs.size f cd)) (leaving (envOfC qual scope s.heap.objs.size f cd) e) (fun _ s''=>CX outer H s E e s'') (fun e' s''=>CX outer H s E e' s'') s'
theorem uJ{sc:Scope}{n:Nat}{x:Str}(h:sc.names.lookup x=some .cell):∃c,(cellsFrom n sc.names []).lookup x=some c:=by
 have q:=PySem.W.cellsFrom_some sc.names n [] (.inl h)
 exact Option.isSome_iff_exists.mp q
theorem wG{CX:df}{P:Program}{w:World}{K:EE}{mg:Str->Option Value}{base:Heap}{N ps:List Str}{qual:Str}{scope:Scope}{f:Addr}{cd:Value}{A:Around}{outer:List Env}{s s1:Shared}{H:Hp}{E:XK}{us:List Value}{vs:List V}
  (S:FnScope N ps scope) (hd:A.handled=none) (e0:Env0 P w K mg base A outer s H) (hl:vs.length=ps.length) (r:Vals vs us)
  (x:InCallC s s.heap.objs.size (bindL (envOfC qual scope s.heap.objs.size f cd).kindOf (ps.zip us) fun _=>none) (cellsFrom (s.heap.objs.size+1) scope.names []) (bindC (envOfC qual scope s.heap.objs.size f cd).kindOf (ps.zip us) fun _=>none) s1) :
  Inv (bA CX P w K mg base N qual scope f cd A outer s H E) [] (start N vs) H s1:=by
 have hpl:ps.length<=N.length:=by have:=congrArg List.length S.pre;rw[List.length_take]at this;omega
 obtain⟨h1,tk,rfl,hk⟩:=x.done
 have noA:∀b:Addr,b∉(bA CX P w K mg base N qual scope f cd A outer s H E).ex:=fun b z=>absurd (show b∈([]:List Addr)from z) (by simp)
 refine⟨⟨e0.mod,S.kind,rfl,rfl,Nat.le_refl _,fun y z c h1 h2=>?_,fun y hy=>?_,fun y c _ h=>?_,fun _=>hd,Around.frames_deeper e0.frames,.inr ⟨rfl,rfl⟩,fun b z=>absurd z (noA b),e0.bs,e0.bsz,fun b _ _=>noA b,fun b z=>absurd z (noA b),e0.funs,e0.frf⟩,
  rfl,e0.bare,Un.kept hk,⟨_,x.toInCall.ns,fun i y v h1 h2 h3=>?_⟩,fun y c h=>⟨_,x.cell y c h⟩,e0.hok.fresh (Nat.le_refl _),fun y c h=>?_,fun p hp=>absurd (show p∈([]:List (Addr×Obj))from hp) (by simp),e0.hok.kept hk,?_⟩
 ·exact name_of_addr x.apart (PySem.mem_of_lookup h1) (PySem.mem_of_lookup h2)
 ·have hy:scope.names.lookup y=some .cell\/scope.names.lookup y=some .free:=hy
  rcases hy with hy | hy
  ·exact uJ hy
  ·exact absurd rfl (S.nofree _ (PySem.mem_of_lookup hy))
 ·exact Nat.le_of_lt (x.above y c (PySem.mem_of_lookup h))
 ·have hi:i<vs.length:=by
   unfold start at h2
   by_cases hi:i<vs.length
   ·exact hi
   ·rw[List.getElem?_append_right (by simpa using hi)]at h2
    rw[List.getElem?_replicate]at h2
    split at h2<;>cases h2
  have ha:vs[i]?=some v:=by
   unfold start at h2
   rw[List.getElem?_append_left (by simpa using hi),EK]at h2
   cases e:vs[i]? with
   | none=>rw[e]at h2;cases h2
   | some a=>rw[e]at h2;cases h2;rfl
  obtain⟨u,hu,rv⟩:=r.get ha
  have hp:ps[i]?=some y:=by
   rw[←S.pre,List.getElem?_take_of_lt (by omega)];exact h1
  have ndP:ps.Nodup:=by rw[←S.pre];exact S.nd.sublist (List.take_sublist _ _)
  refine⟨u,rv,?_⟩
  rcases S.par y (List.mem_of_getElem? hp)with k | k
  ·exact .inl ⟨k,rD ndP hp hu k⟩
  ·obtain⟨c,e⟩:=uJ (n:=s.heap.objs.size+1) k
   refine .inr ⟨.inl k,c,e,?_⟩
   have q:=x.cell y c e
   rw[sq ndP hp hu (by show scope.names.lookup y≠_;rw[k];decide)]at q
   exact q
 ·exact e0.hok.fresh (Nat.le_of_lt (x.above y c (PySem.mem_of_lookup h)))
 ·unfold start
  show _=N.length
  rw[List.length_append,EI,List.length_replicate]
  omega
theorem om{CX:df}{P:Program}{w:World}{K:EE}{mg:Str->Option Value}{base:Heap}{k:Nat}{f:Addr}{name qual:Str}{params:Arguments}{body:List Stmt}{scope:Scope}{dV kV doc pm cdv ct oc:Value}{an od:Option Addr}
  {osl:Array (Option Value)} {N ps:List Str} {sp:Sp} (lk:K.lookup f=some ⟨oc,od,.func (PySem.W.fnOf name qual params body scope dV kV doc pm an cdv ct),osl⟩) (hcd:PySem.W.codeIn K cdv qual=true) (S:FnScope N ps scope)
  (len:∀vs H Q E,sp vs H Q E->vs.length=ps.length)
  (hbody:∀(A:Around) (outer:List Env) (s:Shared) (H:Hp) (vs:List V) (Q:VK) (E:XK),Room k (A.deeper (envOfC qual scope s.heap.objs.size f cdv))->sp vs H Q E →
   ∃t,b9 (bA CX P w K mg base N qual scope f cdv A outer s H E) body t/\t { nx:=fun _ H'=>Q .non H',rt:=Q } (start N vs) H) :
  FnOk P w K mg base CX (k+1) f (PySem.W.fnOf name qual params body scope dV kV doc pm an cdv ct) ps sp:=by
 refine⟨len,fun A outer s H args us vs Q E hr e0 hb r hsp=>?_⟩
 have hl:=len _ _ _ _ hsp
 have KX:K.In s.heap:=e0.mod.kin.keeps fun b o e=>(e0.bs b o e).1
 have lim:s.heap.NoLimit:=e0.mod.nolimit.keeps fun b o e=>(e0.bs b o e).1
 have hkind:∀y∈ps.zip us,scope.names.lookup y.1=some .local\/(scope.names.lookup y.1=some .cell/\((cellsFrom (s.heap.objs.size+1) scope.names []).lookup y.1).isSome=true):=fun⟨n,v⟩ hy=>by
  rcases S.par n (List.of_mem_zip hy).1 with q | q
  ·exact .inl q
  ·exact .inr ⟨q,PySem.W.cellsFrom_some _ _ _ (.inl q)⟩
 refine codeAny_call_function hr.depth (KX _ _ lk) rfl S.co S.gen rfl (PySem.W.codeRec_of KX hcd) (hb _ _ _ _ ?_)
 refine wpAny_newFunctionEnv_cells S.kind hkind fun env he s1 x=>?_
 subst he
 refine⟨lim.keeps x.toInCall.keep,codeAny_func ?_⟩
 obtain⟨t,ht,hq⟩:=hbody A outer s H vs Q E (hr.deeper _) hsp
 have I:Inv (bA CX P w K mg base N qual scope f cdv A outer s H E) [] (start N vs) H s1:=wG S hr.hd e0 hl r x
 refine wpAny_mono (ht [] s1 (start N vs) H _ I hq) (fun fl s' hs=>?_) fun e s' hs=>hs
 have fin:∀{σ':St} {H':Hp} {v:V} {u:Value},Inv (bA CX P w K mg base N qual scope f cdv A outer s H E) [] σ' H' s'->RelV v u->Q v H'->CE outer P w H s Q u s':=
  fun{σ' H' v u} J rv q=>⟨v,H',J.os,J.bare,J.base,J.hok,rv,q⟩
 cases fl with
 | ret u=>
  obtain⟨v,σ',H',J,rv,q⟩:=hs
  exact fin J rv q
 | next=>
  obtain⟨σ',H',J,q⟩:=hs
  exact fin (v:=V.non) (u:=Value.none) J rfl q
 | brk=>
  obtain⟨_,_,_,q⟩:=hs
  exact False.elim q
 | cont=>
  obtain⟨_,_,_,q⟩:=hs
  exact False.elim q
end L2
namespace L2
open PySem PySem.Spec PyProof.Rows
section
variable {X:Cx} {x:Str} {p pos:Pos} {e:Expr} {es:List Expr} {t:TA} {id T:String} {r:List V->Hp->VK->Prop}
def mX(r:List V->Hp->VK->Prop)(t:TA):TE:=fun σ H Q=>t σ H fun vs H1=>r vs H1 Q
theorem aT(hc:bI X (.builtin id) r)(hg:Gl X x)(hm:X.mg x=none)(hv:bootBuiltins x=some (.builtin id))(ha:PA X (e::es) t)(hn:x≠"__name__":=by decide)(hdb:(x == ("__debug__":Str))=false:=by decide)
  (he:starEach (e::es) X.env=(false,eval e X.env)::starEach es X.env:=by rfl) (hpl:(backTo pos (starEach es X.env)).any (·.1)=false:=by rfl):PE X (.Call (.Name x p) (e::es) [] pos) (mX r t):=by
 intro pins s σ H Q I h
 refine wpAny_Call_Name_kw (eJ I hg hm hv ?_ hn hdb)
 exact PyProof.Rows.callWith_builtin1 (au (ha pos pins s σ H _ I h) fun us s1 ⟨vs,H1,I1,r1,q1⟩=>hc pins s1 σ H1 vs us Q I1 r1 q1) he hpl
theorem gm(hc:bI X (.type T) r)(hg:Gl X x)(hm:X.mg x=none)(hv:bootBuiltins x=some (.type T))(ha:PA X (e::es) t)(hn:x≠"__name__":=by decide)(hdb:(x == ("__debug__":Str))=false:=by decide)
  (he:starEach (e::es) X.env=(false,eval e X.env)::starEach es X.env:=by rfl) (hpl:(backTo pos (starEach es X.env)).any (·.1)=false:=by rfl):PE X (.Call (.Name x p) (e::es) [] pos) (mX r t):=by
 intro pins s σ H Q I h
 refine wpAny_Call_Name_kw (eJ I hg hm hv ?_ hn hdb)
 exact PyProof.Rows.callWith_type1 (au (ha pos pins s σ H _ I h) fun us s1 ⟨vs,H1,I1,r1,q1⟩=>hc pins s1 σ H1 vs us Q I1 r1 q1) he hpl
end
end L2
namespace HT
open PySem PyProof.Rows
section
open PySem.SeqAt
open PySem.AutoSeq1 (wpAny_loadPart')
open PySem.MeetsSeq PySem.MeetsSeq2 PySem.MeetsSeq3
end
section
variable {prog:Program} {w:World} {A:Around} {E:Value->Shared->Prop} {s:Shared}
theorem zq{t b:Addr}{vs ws:List Value}{Q:Value->Shared->Prop}(ht:IsTup s.heap t vs.toArray)(hb:IsTup s.heap b ws.toArray)(hv:vs≠[])
  (h1:ws=[]->Q (.ref t) s) (h2:ws≠[]->Q (.ref s.heap.objs.size) { s with heap:=s.heap.push { cls:=.type "tuple",data:=.seq (vs++ws).toArray } })
  (hsz:vs.length+ws.length<=sizeLine):wpAny (model prog w) A (binaryOp .Add (.ref t) (.ref b)) Q E s:=by
 obtain⟨⟨cls,dd,data,sl⟩,ho,hc,n,hd⟩:=id ht
 obtain⟨⟨cls2,dd2,data2,sl2⟩,ho2,hc2,n2,hd2⟩:=id hb
 simp only at hc hd hc2 hd2
 subst hc hd hc2 hd2
 have e:vs.toArray++ws.toArray=(vs++ws).toArray:=by simp
 by_cases hw:ws=[]
 ·exact concat_meets ⟨_,ho,rfl⟩ ⟨_,ho2,rfl⟩ noFill_tuple_add seq_tuple_add PySem.F.slot_tuple_add PySem.F.entry_tuple_add (PySem.F.args_tuple_add_2 _ _)
   (tuple_addW1 t b vs.toArray ws.toArray n n2 dd dd2 sl sl2 (by simpa using hv) (by simp[hw])) ⟨ho,ho2,h1 hw⟩
 ·refine concat_meets ⟨_,ho,rfl⟩ ⟨_,ho2,rfl⟩ noFill_tuple_add seq_tuple_add PySem.F.slot_tuple_add PySem.F.entry_tuple_add (PySem.F.args_tuple_add_2 _ _)
   (tuple_addW2 t b vs.toArray ws.toArray n n2 dd dd2 sl sl2 (by simpa using hv) (by simpa using hw) (by rw[EN,EN];exact hsz)) ⟨ho,ho2,?_⟩
  rw[e]
  exact h2 hw
def aH(n d:Nat):Option Int->Nat
 | none=>d
 | some v=>if v<0 then(v+(n:Int)).toNat else min v.toNat n
theorem xi(n d:Nat):aH n d none=d:=rfl
theorem nS(n d k:Nat):aH n d (some (k:Int))=min k n:=by
 show(if(k:Int)<0 then((k:Int)+(n:Int)).toNat else min (k:Int).toNat n)=min k n
 rw[if_neg (by omega),Int.toNat_natCast]
theorem za(n d:Nat)(hd:d<=n)(o:Option Int):aH n d o<=n:=by
 cases o with
 | none=>exact hd
 | some v=>
  show(if v<0 then(v+(n:Int)).toNat else min v.toNat n)<=n
  by_cases hv:v<0
  ·rw[if_pos hv];omega
  ·rw[if_neg hv];exact Nat.min_le_right _ _
theorem oI(v:Int)(n d:Nat):(if v<0 then max (v+(n:Int)) 0 else min v (n:Int))=((aH n d (some v):Nat):Int):=by
 show(if v<0 then max (v+(n:Int)) 0 else min v (n:Int))=(((if v<0 then(v+(n:Int)).toNat else min v.toNat n):Nat):Int)
 by_cases hv:v<0
 ·simp only[if_pos hv];omega
 ·simp only[if_neg hv];omega
theorem Bu(lo hi:Option Int)(n:Nat):Builtin.Slice.sliceAdjust lo hi 1 (n:Int)=(((aH n 0 lo:Nat):Int),((aH n n hi:Nat):Int)):=by
 have h1:¬((1:Int)<0):=by omega
 unfold Builtin.Slice.sliceAdjust
 simp only[h1,if_false]
 refine Prod.ext ?_ ?_
 ·cases lo with
  | none=>rfl
  | some v=>exact oI v n 0
 ·cases hi with
  | none=>rfl
  | some v=>exact oI v n n
theorem Ez(i j:Nat):Builtin.Slice.slicePlaces (i:Int) (j:Int) 1=j-i:=by
 unfold Builtin.Slice.slicePlaces
 have h1:(1:Int)>0:=by omega
 simp only[h1,if_true,Int.ediv_one]
 split<;>omega
theorem ui{v:Value}{o:Option Int}{Q:Option Int->Shared->Prop}(p:IsPart v o)(h:Q o s):wpAny (model prog w) A (Builtin.Slice.slicePartIndex v) Q E s:=by
 cases p with
 | none=>exact slicePart_none h
 | int i t=>exact slicePart_int h
theorem uO{sl:Addr}{vl vu:Value}{lo hi:Option Int}{n:Nat}{Q:Int×Int×Nat->Shared->Prop}(hs:s.heap.IsSliceOf sl vl vu .none)(pl:IsPart vl lo)(pu:IsPart vu hi)
  (h:Q (((aH n 0 lo:Nat):Int),1,aH n n hi-aH n 0 lo) s):wpAny (model prog w) A (Builtin.Slice.sliceApplied (.ref sl) (pure (n:Int))) Q E s:=by
 obtain⟨os,hos,hcs,hds⟩:=id hs
 unfold Builtin.Slice.sliceApplied Builtin.Slice.sliceFields
 refine EC (EC (wpAny_field hos hds (x:=vl) rfl (EC (wpAny_field hos hds (x:=vu) rfl (EC (wpAny_field hos hds (x:=.none) rfl (ED ?_)))))))
 refine EC (slicePart_none ?_)
 show wpAny _ _ (if((1:Int) == 0)=true then _ else _) _ _ s
 rw[if_neg (by decide)]
 refine EC (ui pl (EC (ui pu (EC (ED ?_)))))
 show wpAny _ _ (match Builtin.Slice.sliceAdjust lo hi 1 (n:Int)with | (lo,hi)=>pure (lo,(1:Int),Builtin.Slice.slicePlaces lo hi 1)) _ _ s
 rw[Bu lo hi n]
 show wpAny _ _ (pure (((aH n 0 lo:Nat):Int),(1:Int),Builtin.Slice.slicePlaces ((aH n 0 lo:Nat):Int) ((aH n n hi:Nat):Int) 1)) _ _ s
 rw[Ez]
 exact ED h
theorem zo(xs:Array Value)(i k:Nat):((List.range k).filterMap fun(m:Nat)=>xs[((i:Int)+(m:Int)*1).toNat]?).toArray=((xs.toList.drop i).take k).toArray:=by
 have e:(fun(m:Nat)=>xs[((i:Int)+(m:Int)*1).toNat]?)=fun m=>xs[i+m]?:=by
  funext m
  have:((i:Int)+(m:Int)*1).toNat=i+m:=by omega
  rw[this]
 rw[e]
 have:=pick_run xs i k
 rw[List.filterMap_map]at this
 have e2:((fun x=>xs[x]?)∘fun x=>i+x)=fun m=>xs[i+m]?:=rfl
 rw[e2]at this
 rw[this]
theorem AH{t sl:Addr}{items:Array Value}{vl vu:Value}{lo hi:Option Int}{Q:Value->Shared->Prop}(ht:IsTup s.heap t items)(hs:s.heap.IsSliceOf sl vl vu .none)(pl:IsPart vl lo)(pu:IsPart vu hi)
  (hw:¬(aH items.size 0 lo=0/\aH items.size items.size hi=items.size))
  (h:Q (.ref s.heap.objs.size) { s with heap:=s.heap.push { cls:=.type "tuple",data:=.seq ((items.toList.drop (aH items.size 0 lo)).take (aH items.size items.size hi-aH items.size 0 lo)).toArray } })
  (hsz:items.size<=sizeLine):wpAny (model prog w) A (getItem (.ref t) (.ref sl)) Q E s:=by
 have htake:sizeOk (.seq ((items.toList.drop (aH items.size 0 lo)).take (aH items.size items.size hi-aH items.size 0 lo)).toArray):=by
  show((items.toList.drop (aH items.size 0 lo)).take (aH items.size items.size hi-aH items.size 0 lo)).toArray.size<=sizeLine
  rw[EN,List.length_take,List.length_drop,EM]
  omega
 have hj:aH items.size items.size hi<=items.size:=za _ _ (Nat.le_refl _) hi
 obtain⟨os,hos,hcs,hds⟩:=id hs
 have hTs:s.TypeIs (.ref sl) "slice":=⟨os,hos,hcs⟩
 unfold getItem
 try with_reducible refine wpAny_holding ?_
 first | refine EC (ED ?_) | skip
 refine EC (wpAny_sequenceKey ht.typeIs (by decide) ?_)
 refine EC (wpAny_callSpecial?_slot (name:=Str.ofString "__getitem__") ht.typeIs PyProof.Rows.slot_tuple_getitem
  (wpAny_call_entry PyProof.Rows.slot_tuple_getitem ht.typeIs entry_tuple_getitem ?_ (args_tuple_getitem _ _)))
 show wpAny _ _ (Builtin.Tuple.tupleItemsOf (.ref t) >>= _) _ _ s
 refine EC (tupleItemsOf_ ht ?_)
 refine EC (wpAny_typeOf hTs ?_)
 rw[if_pos (by decide)]
 refine EC (uO hs pl pu ?_)
 have hno:¬((((aH items.size 0 lo:Nat):Int) == 0 && (1:Int) == 1 && (aH items.size items.size hi-aH items.size 0 lo) == items.size)=true):=by
  intro q
  rw[Bool.and_eq_true,Bool.and_eq_true]at q
  have q1:((aH items.size 0 lo:Nat):Int)=0:=eq_of_beq q.1.1
  have q2:aH items.size items.size hi-aH items.size 0 lo=items.size:=eq_of_beq q.2
  exact hw ⟨by omega,by omega⟩
 show wpAny _ _ (if(((aH items.size 0 lo:Nat):Int) == 0 && (1:Int) == 1 && (aH items.size items.size hi-aH items.size 0 lo) == items.size)=true then _ else _) _ _ s
 rw[if_neg hno,zo]
 first
  | exact EC (m:=Builtin.Tuple.tupleExact _) (wpAny_newObj_type (ED ⟨_,rfl,ED h⟩) htake)
  | exact EC (m:=Builtin.Tuple.tupleExact _) (wpAny_newObj_type (EC (ED (ED ⟨_,rfl,ED h⟩))) htake)
  | exact EC (EC (m:=Builtin.Tuple.tupleExact _) (wpAny_newObj_type (ED (ED ⟨_,rfl,ED h⟩)) htake))
  | exact EC (EC (m:=Builtin.Tuple.tupleExact _) (wpAny_newObj_type (ED ⟨_,rfl,ED h⟩) htake))
end
end HT
namespace L2
open PySem PySem.Spec PyProof.Rows
abbrev TO:=St->Hp->(Option Int->Hp->Prop)->Prop
def PO(X:Cx)(e:Option Expr)(t:TO):Prop:=
 ∀(pins:List (Addr×Obj)) (s:Shared) (σ:St) (H:Hp) (Q:Option Int->Hp->Prop),Inv X pins σ H s->t σ H Q →
  wpAny (model X.prog X.w) X.A (evalPart e X.env) (fun u s'=>∃o H',Inv X pins σ H' s'/\IsPart u o/\Q o H') X.xe s
def vT:TO:=fun _ H Q=>Q none H
def r6(t:TE):TO:=fun σ H Q=>t σ H fun x H1=>∃i,x=.int i/\Q (some i) H1
section
variable {X:Cx} {e:Expr} {te:TE} {lo hi:Option Expr} {tl th:TO} {pos p2:Pos}
theorem n9:PO X none vT:=by
 intro pins s σ H Q I h
 rw[evalPart_none]
 exact ED ⟨none,H,I,.none,h⟩
theorem gL(h:PE X e te):PO X (some e) (r6 te):=by
 intro pins s σ H Q I hw
 rw[evalPart_some]
 refine au (h pins s σ H _ I hw) fun u s1 ⟨x,H1,I1,r1,q1⟩=>?_
 obtain⟨i,rfl,q⟩:=q1
 obtain⟨t,rfl⟩:=r1
 exact⟨some i,H1,I1,.int i t,q⟩
def iD(X:Cx)(r:V->Option Int->Option Int->Hp->VK->Prop):Prop:=
 ∀(pins:List (Addr×Obj)) (s:Shared) (σ:St) (H:Hp) (x:V) (v vl vu:Value) (lo hi:Option Int) (sl:Addr) (Q:VK),Inv X pins σ H s->RelV x v->s.heap.IsSliceOf sl vl vu .none->IsPart vl lo->IsPart vu hi->r x lo hi H Q →
  ∃T id,typeLookup (.type T) "__getitem__" = pure (some (.builtin id))/\s.TypeIs v T/\wpAny (model X.prog X.w) X.A (getItem v (.ref sl)) (EP X pins σ Q) X.xe s
def vy(r:V->Option Int->Option Int->Hp->VK->Prop)(te:TE)(tl th:TO):TE:=fun σ H Q=>te σ H fun x H1=>tl σ H1 fun l H2=>th σ H2 fun u H3=>r x l u H3 Q
theorem jl{r:V->Option Int->Option Int->Hp->VK->Prop}(hr:iD X r)(he:PE X e te)(hl:PO X lo tl)(hu:PO X hi th):PE X (.Subscript e (.Slice lo hi none p2) pos) (vy r te tl th):=by
 intro pins s σ H Q I h
 refine Subscript_ (au (he pins s σ H _ I h) fun v s1 ⟨x,H1,I1,r1,q1⟩=>?_)
 refine wpAny_Slice (au (hl pins s1 σ H1 _ I1 q1) fun vl s2 ⟨l,H2,I2,pl,q2⟩=>au (hu pins s2 σ H2 _ I2 q2) fun vu s3 ⟨u,H3,I3,pu,q3⟩=>?_)
 rw[evalPart_none]
 refine ED ?_
 have I4:Inv X pins σ H3 { s3 with heap:=s3.heap.push { cls:=.type "slice",data:=.fields #[vl,vu,.none] } }:=I3.kept (t':=s3.toks) fun b ob q=>EF _ q
 obtain⟨T,id,hT,ht,hg⟩:=hr pins { s3 with heap:=s3.heap.push { cls:=.type "slice",data:=.fields #[vl,vu,.none] } } σ H3 x v vl vu l u s3.heap.objs.size Q I4 r1 (Heap.IsSliceOf.new ..) pl pu q3
 show wpAny (model X.prog X.w) X.A (subscriptTail e (.Slice lo hi none p2) v (.ref s3.heap.objs.size)) (EP X pins σ Q) X.xe { s3 with heap:=s3.heap.push { cls:=.type "slice",data:=.fields #[vl,vu,.none] } }
 exact tail_any (ops:=[.ref s3.heap.objs.size,v]) ht hT hg (by with_unfolding_all rfl)
def ck(xs:List V)(lo hi:Option Int):List V:=(xs.drop (HT.aH xs.length 0 lo)).take (HT.aH xs.length xs.length hi-HT.aH xs.length 0 lo)
theorem mf(xs:List V)(lo hi:Option Int):(ck xs lo hi).length<=xs.length:=by
 unfold ck
 rw[List.length_take,List.length_drop]
 omega
def Dv(K:EE):V->Option Int->Option Int->Hp->VK->Prop:=fun x lo hi H Q=>∃a xs,x=.ref a/\aj K H a xs ∧
 ¬(HT.aH xs.length 0 lo=0/\HT.aH xs.length xs.length hi=xs.length)/\∀p,H p=none->Q (.ref p) (upd H p (.tup (ck xs lo hi)))
theorem yo:iD X (Dv X.K):=by
 intro pins s σ H x v vl vu lo hi sl Q I rx hs pl pu h
 obtain⟨a,xs,rfl,hx,hw,q⟩:=h
 cases rx
 obtain⟨its,r,ht,hz⟩:=I.tuple hx
 have hlen:its.toArray.size=xs.length:=by rw[EN];exact r.length.symm
 refine⟨"tuple",_,PyProof.Rows.slot_tuple_getitem.lookup,ht.typeIs,?_⟩
 refine HT.AH ht hs pl pu (by rw[hlen];exact hw) ?_ (by rw[hlen];exact hz)
 rw[hlen]
 refine⟨.ref s.heap.objs.size,_,I.laid (t':=s.toks) (o:=.tup (ck xs lo hi)) (fun b ob q=>EF _ q) (Nat.le_refl _) ?_,rfl,q _ (I.hok.fresh (Nat.le_refl _))⟩
 exact⟨Nat.le_trans (mf xs lo hi) hz,_,(r.drop (HT.aH xs.length 0 lo)).take (HT.aH xs.length xs.length hi-HT.aH xs.length 0 lo),IsTup.new _ _⟩
def Ad(K:EE):R2:=fun x y H Q=>∃a b xs ys,x=.ref a/\y=.ref b/\aj K H a xs/\aj K H b ys/\xs≠[]/\xs.length+ys.length<=sizeLine ∧
 (ys=[]->Q (.ref a) H)/\(ys≠[]->∀p,H p=none->Q (.ref p) (upd H p (.tup (xs++ys))))
theorem Vals.nil_iff{xs:List V}{us:List Value}(r:Vals xs us):us=[]↔xs=[]:=by
 cases r with
 | nil=>simp
 | cons _ _=>simp
theorem yK:aZ X (binaryOp .Add) (Ad X.K):=by
 intro pins s σ H x y v u Q I rx ry h
 obtain⟨a,b,xs,ys,rfl,rfl,ha,hb,hx,hz,q1,q2⟩:=h
 cases rx
 cases ry
 obtain⟨its,r1,p1,_⟩:=I.tuple ha
 obtain⟨its2,r2,p2,_⟩:=I.tuple hb
 refine HT.zq p1 p2 (fun z=>hx (r1.nil_iff.mp z)) (fun z=>⟨.ref a,H,I,rfl,q1 (r2.nil_iff.mp z)⟩) (fun z=>?_) (by rw[←r1.length,←r2.length];exact hz)
 refine⟨.ref s.heap.objs.size,_,I.laid (t':=s.toks) (o:=.tup (xs++ys)) (fun b ob q=>EF _ q) (Nat.le_refl _) ?_,rfl,q2 (fun w=>z (r2.nil_iff.mpr w)) _ (I.hok.fresh (Nat.le_refl _))⟩
 exact⟨by rw[List.length_append];exact hz,_,r1.append r2,IsTup.new _ _⟩
end
end L2
namespace L2
open PySem PySem.Spec PyProof.Rows
def dW(n:Nat)(i:Int):Option Nat:=if 0<=i then(if i<n then some i.toNat else none)else if -(n:Int)<=i then some (i+n).toNat else none
def bK{α:Type}(xs:List α)(i:Int):Option α:=(dW xs.length i).bind fun j=>xs[j]?
theorem oA{n:Nat}{i:Int}{j:Nat}(h:dW n i=some j):seqIndex? i n=some j/\j<n/\-(n:Int)<=i/\i<n:=by
 unfold dW at h
 by_cases h0:0<=i
 ·rw[if_pos h0]at h
  by_cases h1:i<n
  ·rw[if_pos h1]at h
   have e:i.toNat=j:=Option.some.inj h
   exact⟨by rw[seqIndex_of h0 h1,e],by omega,by omega,h1⟩
  ·rw[if_neg h1]at h;cases h
 ·rw[if_neg h0]at h
  by_cases h1:-(n:Int)<=i
  ·rw[if_pos h1]at h
   have e:(i+n).toNat=j:=Option.some.inj h
   exact⟨by rw[seqIndex_neg (by omega) h1,e],by omega,h1,by omega⟩
  ·rw[if_neg h1]at h;cases h
theorem md{α:Type}{xs:List α}{i:Int}{v:α}(h:bK xs i=some v):∃j,seqIndex? i xs.length=some j/\xs[j]?=some v/\j<xs.length/\-(xs.length:Int)<=i/\i<xs.length:=by
 unfold bK at h
 cases e:dW xs.length i with
 | none=>rw[e]at h;cases h
 | some j=>
  rw[e]at h
  obtain⟨h1,h2,h3,h4⟩:=oA e
  exact⟨j,h1,h,h2,h3,h4⟩
theorem eD{α:Type}{xs:List α}{j:Nat}{v:α}(h:xs[j]?=some v):bK xs (j:Int)=some v:=by
 have hj:j<xs.length:=(List.getElem?_eq_some_iff.mp h).1
 have e:dW xs.length (j:Int)=some j:=by
  unfold dW
  rw[if_pos (by omega),if_pos (by omega)];simp
 unfold bK;rw[e];exact h
def AV(b:Expr):Prop:=∀o i,subscripted b false o i=operate [o,i] (getItem o i)
def gN(X:Cx)(r:R2):Prop:=
 ∀(value slice:Expr) (pins:List (Addr×Obj)) (s:Shared) (σ:St) (H:Hp) (x y:V) (v u:Value) (Q:VK),Inv X pins σ H s->RelV x v->RelV y u->r x y H Q →
  subscripted slice false v u=operate [v,u] (getItem v u)->wpAny (model X.prog X.w) X.A (subscriptTail value slice v u) (EP X pins σ Q) X.xe s
def ic(X:Cx)(id:String)(r:V->List V->Hp->VK->Prop):Prop:=
 ∀(pins:List (Addr×Obj)) (s:Shared) (σ:St) (H:Hp) (x:V) (xs:List V) (v:Value) (us:List Value) (Q:VK),Inv X pins σ H s->RelV x v->Vals xs us->r x xs H Q →
  wpAny (model X.prog X.w) X.A (call (.builtin id) (v::us)) (EP X pins σ Q) X.xe s
section
variable {X:Cx} {a b:Expr} {ta tb:TE} {pos:Pos}
theorem ao{r:R2}(hr:gN X r)(ha:PE X a ta)(hb:PE X b tb)(hs:AV b):PE X (.Subscript a b pos) (iF r ta tb):=by
 intro pins s σ H Q I h
 exact Subscript_ (ny ha hb I h fun v u s2 x y H2 I2 rx ry q=>hr a b pins s2 σ H2 x y v u Q I2 rx ry q (hs _ _))
def nA(K:EE):R2:=fun x y H Q=>∃p xs i v,x=.ref p/\y=.int i/\ag K H p xs/\bK xs i=some v/\Q v H
def nL(K:EE):R2:=fun x y H Q=>∃p xs i v,x=.ref p/\y=.int i/\aj K H p xs/\bK xs i=some v/\Q v H
def zV:R2:=fun x y H Q=>∃z i c,x=.str z/\y=.int i/\z.length<=sizeLine/\bK z.cps.toList i=some c/\Q (.str ⟨#[c]⟩) H
theorem xt:gN X (nA X.K):=by
 intro value slice pins s σ H x y v u Q I rx ry h hs
 obtain⟨p,xs,i,z,rfl,rfl,hq,he,q⟩:=h
 cases rx
 obtain⟨t,rfl⟩:=ry
 obtain⟨its,r,pl,hz⟩:=I.list hq
 obtain⟨j,h1,h2,h3,h4,h5⟩:=md he
 obtain⟨w,ew,rw'⟩:=r.get h2
 have hl:=r.length
 have hn:=gg
 have fin:EP X pins σ Q w s:=⟨z,H,I,rw',q⟩
 by_cases h0:0<=i
 ·have hj:i.toNat=j:=by
   rw[seqIndex_of h0 h5]at h1
   exact Option.some.inj h1
  exact item_listR pl.isList h0 (by omega) (by rw[hj];simpa using ew) fin hs
 ·have hj:(i+(its.toArray.size:Int)).toNat=j:=by
   rw[seqIndex_neg (by omega) h4]at h1
   rw[EN,←hl]
   exact Option.some.inj h1
  exact subscriptTail_builtinR (x:=w) pl.isList.typeIs slot_list_getitem.lookup
   (wpAny_getItem_list_neg (Q:=fun r s'=>r=w/\EP X pins σ Q r s') pl.isList (by omega) (by rw[EN]<;>omega) (by omega) (by rw[hj];simpa using ew) ⟨rfl,fin⟩) hs
theorem DB:gN X (nL X.K):=by
 intro value slice pins s σ H x y v u Q I rx ry h hs
 obtain⟨p,xs,i,z,rfl,rfl,hq,he,q⟩:=h
 cases rx
 obtain⟨t,rfl⟩:=ry
 obtain⟨its,r,pl,hz⟩:=I.tuple hq
 obtain⟨j,h1,h2,h3,h4,h5⟩:=md he
 obtain⟨w,ew,rw'⟩:=r.get h2
 have hl:=r.length
 have hn:=gg
 have fin:EP X pins σ Q w s:=⟨z,H,I,rw',q⟩
 exact subscriptTail_builtinR (x:=w) pl.typeIs slot_tuple_getitem.lookup
  (getItem_tuple (j:=j) (Q:=fun r s'=>r=w/\EP X pins σ Q r s') pl (by omega) (by omega) (by rw[EN,←hl];exact h1) (by simpa using ew) ⟨rfl,fin⟩) hs
theorem su:gN X zV:=by
 intro value slice pins s σ H x y v u Q I rx ry h hs
 obtain⟨z,i,c,rfl,rfl,hz,he,q⟩:=h
 obtain⟨t,rfl⟩:=rx
 obtain⟨t',rfl⟩:=ry
 obtain⟨j,h1,h2,h3,h4,h5⟩:=md he
 have hl:z.cps.toList.length=z.length:=by simp[Str.length]
 rw[hl]at h1 h4 h5
 have hn:=gg
 exact tail_any (typeIs_str s z t) slot_str_getitem.lookup (getItem_str (c:=c) (by
  have e1:decide (i < -(2 ^ 63:Int))=false:=decide_eq_false (by omega)
  have e2:decide (i ≥ 2 ^ 63)=false:=decide_eq_false (by omega)
  rw[e1,e2,Bool.or_false]) (by rw[h1];simpa using h2) ⟨.str ⟨#[c]⟩,H,I.tok _,⟨_,rfl⟩,q⟩) hs
theorem xW(its:List Value)(n j:Nat)(u:Value):Obj.mapSeq (·.setIfInBounds j u) { cls:=.type "list",data:=.seq its.toArray n }={ cls:=.type "list",data:=.seq (its.set j u).toArray n }:=by
 simp[Obj.mapSeq]
theorem Inv.lst{pins:List (Addr×Obj)}{σ:St}{H:Hp}{s:Shared}{p:Addr}{xs:List V}(I:Inv X pins σ H s)(h:H p=some (.lst xs)):
  ∃(its:List Value) (n:Nat),Vals xs its/\s.heap.get? p=some { cls:=.type "list",data:=.seq its.toArray n }/\xs.length<=sizeLine:=by
 obtain⟨z,its,n,r,e⟩:=I.hok p _ h
 exact⟨its,n,r,e,z⟩
theorem Inv.lstUpd{pins:List (Addr×Obj)}{σ:St}{H:Hp}{s:Shared}{p:Addr}{xs ys:List V}{its its':List Value}{n n':Nat}{f:Obj->Obj}(I:Inv X pins σ H s)(h:H p=some (.lst xs))
  (ho:s.heap.get? p=some { cls:=.type "list",data:=.seq its.toArray n }) (hf:f { cls:=.type "list",data:=.seq its.toArray n }={ cls:=.type "list",data:=.seq its'.toArray n' }) (r:Vals ys its') (hz:ys.length<=sizeLine) (t:Nat) :
  Inv X pins σ (upd H p (.lst ys)) { s with heap:=s.heap.update p f,toks:=t }:=by
 have e:(s.heap.update p f).get? p=some { cls:=.type "list",data:=.seq its'.toArray n' }:=by
  rw[Heap.get?_update_self f ho (by rw[hf]<;>rfl),hf]
 refine I.write (x:=p) (e:=p) (by rw[h];trivial) (.inl rfl) (fun b u hb q=>(Heap.get?_update_other _ _ (Ne.symm hb)).trans q) ⟨_,e⟩ ?_
 exact⟨hz,its',n',r,e⟩
def tY:V->V->V->Hp->(Hp->Prop)->Prop:=fun o i v H Q=>∃p xs k j,o=.ref p/\i=.int k/\H p=some (.lst xs)/\dW xs.length k=some j/\Q (upd H p (.lst (xs.set j v)))
theorem set_list:qt X tY:=by
 intro pins s σ H o i v ov iv u Q I ro ri rv h
 obtain⟨p,xs,k,j,rfl,rfl,hp,hj,q⟩:=h
 cases ro
 obtain⟨t,rfl⟩:=ri
 obtain⟨its,n,r,ho,hz⟩:=I.lst hp
 obtain⟨h1,h2,h3,h4⟩:=oA hj
 have hl:=r.length
 have hn:=gg
 have I':Inv X pins σ (upd H p (.lst (xs.set j v))) { s with heap:=s.heap.update p (Obj.mapSeq (·.setIfInBounds j u)) }:=
  I.lstUpd hp ho (xW its n j u) (r.set rv j) (by rw[List.length_set];exact hz) s.toks
 by_cases h0:0<=k
 ·have hk:k.toNat=j:=by
   rw[seqIndex_of h0 h4]at h1
   exact Option.some.inj h1
  exact PySem.W.ki_setAt ho h0 (by omega) (by rw[EN,←hl];exact h4) (by rw[hk];exact⟨_,I',q⟩)
 ·have hk:(k+(its.toArray.size:Int)).toNat=j:=by
   rw[seqIndex_neg (by omega) h3]at h1
   rw[EN,←hl]
   exact Option.some.inj h1
  exact PySem.W.ki_setBack ho (by omega) (by rw[EN,←hl];exact h3) (by omega) (by rw[hk];exact⟨_,I',q⟩)
theorem xm(lo hi:Option Int)(n:Nat):(sliceBounds lo hi none n).1=((HT.aH n 0 lo:Nat):Int)/\(sliceBounds lo hi none n).2.1=((HT.aH n n hi:Nat):Int)/\(sliceBounds lo hi none n).2.2=1:=by
 refine⟨?_,?_,rfl⟩
 ·cases lo with
  | none=>simp[sliceBounds,HT.aH]
  | some i=>
   simp only[sliceBounds,HT.aH,Option.getD_none,show (1:Int)>0 by decide,if_true]
   by_cases h:i<0
   ·simp only[h,if_true]<;>omega
   ·simp only[h,if_false]<;>omega
 ·cases hi with
  | none=>simp[sliceBounds,HT.aH]
  | some i=>
   simp only[sliceBounds,HT.aH,Option.getD_none,show (1:Int)>0 by decide,if_true]
   by_cases h:i<0
   ·simp only[h,if_true]<;>omega
   ·simp only[h,if_false]<;>omega
theorem w4(its:List Value)(lo hi:Option Int):slicePick its.toArray lo hi none=((its.drop (HT.aH its.length 0 lo)).take (HT.aH its.length its.length hi-HT.aH its.length 0 lo)).toArray:=by
 obtain⟨h1,h2,h3⟩:=xm lo hi its.toArray.size
 unfold slicePick
 rw[h1,h2,h3]
 simp only[sliceRange_one,pick_run,EN]<;>rfl
def mH(K:EE):V->Option Int->Option Int->Hp->VK->Prop:=fun x lo hi H Q=>∃a xs,x=.ref a/\ag K H a xs/\∀p,H p=none->Q (.ref p) (upd H p (.lst (ck xs lo hi)))
theorem xw:iD X (mH X.K):=by
 intro pins s σ H x v vl vu lo hi sl Q I rx hs pl pu h
 obtain⟨a,xs,rfl,hx,q⟩:=h
 cases rx
 obtain⟨its,r,ht,hz⟩:=I.list hx
 have hlen:=r.length
 refine⟨"list",_,slot_list_getitem.lookup,ht.isList.typeIs,?_⟩
 refine wpAny_getItem_list_slice ht.isList hs pl pu .none (by simp) ?_ (by rw[EN]<;>omega)
 rw[w4,←hlen]
 refine⟨.ref s.heap.objs.size,_,I.laid (t':=s.toks) (o:=.lst (ck xs lo hi)) (fun b ob q=>EF _ q) (Nat.le_refl _) ?_,rfl,q _ (I.hok.fresh (Nat.le_refl _))⟩
 exact⟨Nat.le_trans (mf xs lo hi) hz,_,0,(r.drop (HT.aH xs.length 0 lo)).take (HT.aH xs.length xs.length hi-HT.aH xs.length 0 lo),EG _ rfl⟩
def iV:V->Bool
 | .non=>true
 | .bl _=>true
 | .int _=>true
 | .str _=>true
 | _=>false
def hJ:V->V->Bool
 | .non,.non=>true
 | .bl a,.bl b=>a == b
 | .bl a,.int b=>(if a then 1 else 0) == b
 | .int a,.bl b=>a == (if b then 1 else 0)
 | .int a,.int b=>a == b
 | .str a,.str b=>a == b
 | _,_=>false
theorem ze{A:Around}{s:Shared}{y x:V}{u v:Value}(ry:RelV y u)(rx:RelV x v)(fy:iV y=true)(fx:iV x=true):SeqAt.EqAt A s u v (hJ y x):=by
 cases y with
 | non=>
  cases ry
  cases x with
  | non=>cases rx;exact SeqAt.EqAt.same _
  | bl b=>cases rx;exact SeqAt.EqAt.none_bool b
  | int b=>obtain⟨t,rfl⟩:=rx;exact SeqAt.EqAt.none_int b t
  | str b=>obtain⟨t,rfl⟩:=rx;exact SeqAt.EqAt.none_str b t
  | _=>exact absurd (show false=true from fx) Bool.false_ne_true
 | bl a=>
  cases ry
  cases x with
  | non=>cases rx;exact SeqAt.EqAt.bool_none a
  | bl b=>cases rx;exact SeqAt.EqAt.bool_bool a b
  | int b=>obtain⟨t,rfl⟩:=rx;exact SeqAt.EqAt.bool_int a b t
  | str b=>obtain⟨t,rfl⟩:=rx;exact SeqAt.EqAt.bool_str a b t
  | _=>exact absurd (show false=true from fx) Bool.false_ne_true
 | int a=>
  obtain⟨t',rfl⟩:=ry
  cases x with
  | non=>cases rx;exact SeqAt.EqAt.int_none a t'
  | bl b=>cases rx;exact SeqAt.EqAt.int_bool a t' b
  | int b=>obtain⟨t,rfl⟩:=rx;exact SeqAt.EqAt.int_int a t' b t
  | str b=>obtain⟨t,rfl⟩:=rx;exact SeqAt.EqAt.int_str a t' b t
  | _=>exact absurd (show false=true from fx) Bool.false_ne_true
 | str a=>
  obtain⟨t',rfl⟩:=ry
  cases x with
  | non=>cases rx;exact SeqAt.EqAt.str_none a t'
  | bl b=>cases rx;exact SeqAt.EqAt.str_bool a t' b
  | int b=>obtain⟨t,rfl⟩:=rx;exact SeqAt.EqAt.str_int a t' b t
  | str b=>obtain⟨t,rfl⟩:=rx;exact SeqAt.EqAt.str_str a t' b t
  | _=>exact absurd (show false=true from fx) Bool.false_ne_true
 | _=>exact absurd (show false=true from fy) Bool.false_ne_true
def fM(x:V)(u:Value):Bool:=match u with
 | .none=>hJ .non x
 | .bool b=>hJ (.bl b) x
 | .int i _=>hJ (.int i) x
 | .str z _=>hJ (.str z) x
 | _=>false
theorem De{x y:V}{u:Value}(r:RelV y u)(f:iV y=true):fM x u=hJ y x:=by
 cases y with
 | non=>cases r;rfl
 | bl b=>cases r;rfl
 | int i=>obtain⟨t,rfl⟩:=r;rfl
 | str z=>obtain⟨t,rfl⟩:=r;rfl
 | _=>exact absurd (show false=true from f) Bool.false_ne_true
theorem lG{A:Around}{s:Shared}{x:V}{v:Value}(rx:RelV x v)(fx:iV x=true):∀{xs:List V} {us:List Value},Vals xs us->xs.all iV=true->∀u∈us,SeqAt.EqAt A s u v (fM x u)
 | _,_,.nil,_=>fun u hu=>by cases hu
 | y::xs,u::us,.cons r t,f=>fun u' hu=>by
  rw[List.all_cons,Bool.and_eq_true]at f
  rcases List.mem_cons.mp hu with rfl | hu
  ·rw[De r f.1];exact ze r rx f.1 fx
  ·exact lG rx fx t f.2 u' hu
theorem yw:bI X (.builtin "len") (fun xs H Q=>∃p ys,xs=[.ref p]/\(ag X.K H p ys\/aj X.K H p ys)/\Q (.int ys.length) H):=by
 intro pins s σ H xs us Q I r h
 obtain⟨p,ys,rfl,hq,q⟩:=h
 obtain⟨u,rfl,rx⟩:=vals1 r
 cases rx
 have hn:=gg
 rcases hq with hq | hq
 ·obtain⟨its,r',pl,hz⟩:=I.list hq
  have hlen:=r'.length
  exact Calls.call_len_list pl.isList (by simp only[EN]<;>omega) ⟨.int ys.length,H,I.tok _,⟨s.toks+1,by rw[EN,hlen]⟩,q⟩
 ·obtain⟨its,r',pl,hz⟩:=I.tuple hq
  have hlen:=r'.length
  exact len_tuple pl (by simp only[EN]<;>omega) ⟨.int ys.length,H,I.tok _,⟨s.toks+1,by rw[EN,hlen]⟩,q⟩
theorem pJ:bI X (.builtin "len") (fun xs H Q=>∃z,xs=[.str z]/\z.length<=sizeLine/\Q (.int z.length) H):=by
 intro pins s σ H xs us Q I r h
 obtain⟨z,rfl,hz,q⟩:=h
 obtain⟨u,rfl,t,rfl⟩:=vals1 r
 have hn:=gg
 exact len_str (by omega) ⟨.int z.length,H,I.tok _,⟨_,rfl⟩,q⟩
theorem En:bI X (.type "list") (fun xs H Q=>∃p ys,xs=[.ref p]/\(ag X.K H p ys\/aj X.K H p ys)/\∀l,H l=none->Q (.ref l) (upd H l (.lst ys))):=by
 intro pins s σ H xs us Q I r h
 obtain⟨p,ys,rfl,hq,q⟩:=h
 obtain⟨u,rfl,rx⟩:=vals1 r
 cases rx
 have fin:∀(its:List Value),Vals ys its->ys.length<=sizeLine->∀(h':Heap) (c':Nat),(∀b o',s.heap.get? b=some o'->h'.get? b=some o') →
   h'.get? s.heap.objs.size=some { cls:=.type "list",dict:=none,data:=.seq its.toArray c',slots:=#[] }->EP X pins σ Q (.ref s.heap.objs.size) { s with heap:=h' }:=fun its r' hz h' c' kp e=>
  ⟨.ref s.heap.objs.size,_,I.laid (t':=s.toks) kp (Nat.le_refl _) (show bp X.prog X.w _ h' _ (.lst ys)from⟨hz,its,c',r',e⟩),rfl,q _ (I.hok.fresh (Nat.le_refl _))⟩
 rcases hq with hq | hq
 ·obtain⟨its,r',pl,hz⟩:=I.list hq
  have hlen:=r'.length
  obtain⟨o,ho,hc,n,hd⟩:=pl.isList
  exact call_list_seq p (.inl rfl) ho hc hd (fun h' c' kp e=>fin its r' hz h' c' kp e) (by simp only[EN]<;>omega)
 ·obtain⟨its,r',pl,hz⟩:=I.tuple hq
  have hlen:=r'.length
  obtain⟨o,ho,hc,n,hd⟩:=pl
  exact call_list_seq p (.inr rfl) ho hc hd (fun h' c' kp e=>fin its r' hz h' c' kp e) (by simp only[EN]<;>omega)
theorem yr:bI X (.type "tuple") (fun xs H Q=>∃p ys,xs=[.ref p]/\((ag X.K H p ys/\∀l,H l=none->Q (.ref l) (upd H l (.tup ys)))\/(aj X.K H p ys/\Q (.ref p) H))):=by
 intro pins s σ H xs us Q I r h
 obtain⟨p,ys,rfl,h⟩:=h
 obtain⟨u,rfl,rx⟩:=vals1 r
 cases rx
 rcases h with⟨hq,q⟩ | ⟨hq,q⟩
 ·obtain⟨its,r',pl,hz⟩:=I.list hq
  have hlen:=r'.length
  refine call_tuple_list pl.isList (fun h' kp=>?_) (by simp only[EN]<;>omega)
  have I1:Inv X pins σ H { s with heap:=h' }:=I.kept (t':=s.toks) kp
  have I2:Inv X pins σ (upd H h'.objs.size (.tup ys)) { s with heap:=h'.push { cls:=.type "tuple",data:=.seq its.toArray } }:=
   I1.laid (t':=s.toks) (fun b o e=>EF _ e) (Nat.le_refl _) (show bp X.prog X.w _ _ _ (.tup ys)from⟨hz,its,r',IsTup.new _ _⟩)
  exact⟨.ref h'.objs.size,_,I2,rfl,q _ (I1.hok.fresh (Nat.le_refl _))⟩
 ·obtain⟨its,r',pl,hz⟩:=I.tuple hq
  exact call_tuple_same pl ⟨.ref p,H,I,rfl,q⟩
def iA(K:EE)(T:String)(x:V)(H:Hp):Prop:=match x with
 | .str _=>T = "str"
 | .int _=>T = "int"
 | .ref p=>(T = "list"/\∃xs,ag K H p xs)\/(T = "tuple"/\∃o,K.lookup p=some o/\o.cls=.type "tuple"/\o.dict=none) ∨
   (T = "dict"/\((∃kvs,H p=some (.dK kvs))\/∃kvs,H p=some (.dT kvs)))\/(T = "set"/\∃S n,H p=some (.set S n))
 | _=>False
theorem Ex{pins:List (Addr×Obj)}{σ:St}{H:Hp}{s:Shared}{T:String}{x:V}{v:Value}(I:Inv X pins σ H s)(r:RelV x v)(ty:iA X.K T x H):
  s.TypeIs v T/\∀a,v=.ref a->∃ob,s.heap.get? a=some ob/\ob.dict=none:=by
 cases x with
 | str z=>
  obtain⟨t,rfl⟩:=r
  cases(show T = "str" from ty)
  exact⟨typeIs_str s z t,fun _ e=>nomatch e⟩
 | int i=>
  obtain⟨t,rfl⟩:=r
  cases(show T = "int" from ty)
  exact⟨typeIs_int s i t,fun _ e=>nomatch e⟩
 | ref p=>
  cases r
  rcases ty with⟨rfl,xs,hq⟩ | ⟨rfl,o,hk,hc,hd⟩ | ⟨rfl,hk⟩ | ⟨rfl,S,n,hk⟩
  ·obtain⟨its,_,pl,_⟩:=I.list hq
   refine⟨pl.isList.typeIs,fun a e=>?_⟩
   cases e
   obtain⟨o,n,e,c,hd,_⟩:=pl
   exact⟨o,e,hd⟩
  ·refine⟨⟨o,I.kIn p o hk,hc⟩,fun a e=>?_⟩
   cases e
   exact⟨o,I.kIn _ o hk,hd⟩
  ·have z:∃o,s.heap.get? p=some o/\o.ExactDict:=by
    rcases hk with⟨kvs,hk⟩ | ⟨kvs,hk⟩
    ·obtain⟨_,_,_,_,o,_,_,e,ex,_⟩:=I.hok p _ hk
     exact⟨o,e,ex⟩
    ·obtain⟨_,_,_,_,o,_,_,e,ex,_⟩:=I.hok p _ hk
     exact⟨o,e,ex⟩
   obtain⟨o,e,ex⟩:=z
   refine⟨⟨o,e,ex.1⟩,fun a e2=>?_⟩
   cases e2
   exact⟨o,e,ex.2.1⟩
  ·obtain⟨o,_,_,_,e,ex,_⟩:=I.hok p _ hk
   refine⟨⟨o,e,ex.1⟩,fun a e2=>?_⟩
   cases e2
   exact⟨o,e,ex.2.1⟩
 | _=>exact False.elim ty
def lq(K:EE)(T:String)(r:V->List V->Hp->VK->Prop)(to:TE)(t:TA):TE:=fun σ H Q=>to σ H fun x H1=>iA K T x H1/\t σ H1 fun xs H2=>r x xs H2 Q
variable {o e:Expr} {es:List Expr} {to:TE} {t:TA} {name:Str} {apos cpos:Pos} {T id:String} {r:V->List V->Hp->VK->Prop}
theorem CJ(pa:PlainAttrs T)(slot:Slot T name id)(hty:typeOf (.builtin id)=pure (.type "method_descriptor"))(hm:ic X id r)(ho:PE X o to)(ha:PA X (e::es) t)
  (hbase:attributeBase o name X.env (eval o X.env)=eval o X.env:=by rfl)
  (hfew:((backTo cpos (starEach (e::es) X.env)).all (fun x=>!x.1) && (backToKw cpos (keywordEach [] X.env)).all (fun x=>x.1.isSome)
   && decide ((e::es).length+([]:List Keyword).length+(if([]:List Keyword).isEmpty then 0 else 1)<30))=true:=by rfl)
  (hline:(apos.endLine == cpos.line)=true:=by rfl) (hs:starEach (e::es) X.env=(false,eval e X.env)::starEach es X.env:=by rfl) (hplain:(backTo cpos (starEach es X.env)).any (·.1)=false:=by rfl) :
  PE X (.Call (.Attribute o name apos) (e::es) [] cpos) (lq X.K T r to t):=by
 intro pins s σ H Q I h
 refine wpAny_Call_method_late hbase hfew hline rfl (au (ho pins s σ H _ I h) fun v s1 ⟨x,H1,I1,r1,ty,q1⟩=>?_)
 obtain⟨h1,h2⟩:=Ex I1 r1 ty
 refine⟨T,id,pa,slot,hty,h1,h2,?_⟩
 have hA:=ha cpos pins s1 σ H1 _ I1 q1
 rw[hs]at hA ⊢
 refine Calls.callWith_builtin (by show(false || (backTo cpos (starEach es X.env)).any (·.1))=false;rw[hplain]<;>rfl) (Calls.evalArgs_plain ?_)
 exact au hA fun us s2 ⟨vs,H2,I2,r2,q2⟩=>hm pins s2 σ H2 x vs v us Q I2 r1 r2 q2
end
end L2
namespace L2
open PySem PySem.Spec PyProof.Rows
def uf(X:Cx)(id:String)(r:V->List V->Hp->VK->Prop):Prop:=
 ∀(pins:List (Addr×Obj)) (s:Shared) (σ:St) (H:Hp) (x:V) (xs:List V) (v:Value) (us:List Value) (Q:VK),Inv X pins σ H s->RelV x v->Vals xs us->r x xs H Q →
  wpAny (model X.prog X.w) X.A (call (.builtin id) (v::us)) (EP X pins σ Q) X.xe s
theorem Vals.one:∀{x:V} {us:List Value},Vals [x] us->∃u,us=[u]/\RelV x u
 | _,_,.cons r .nil=>⟨_,rfl,r⟩
theorem Vals.rep{xs:List V}{us:List Value}(h:Vals xs us):∀k:Nat,Vals (List.replicate k xs).flatten (List.replicate k us).flatten
 | 0=>.nil
 | k+1=>by
  rw[List.replicate_succ,List.replicate_succ,List.flatten_cons,List.flatten_cons]
  exact Vals.append h (Vals.rep h k)
theorem foldl_rep(its:List Value):∀(k:Nat) (acc:List Value),
  List.foldl (fun x1 x2=>x1++x2) acc.toArray (List.replicate k its.toArray)=(acc++(List.replicate k its).flatten).toArray
 | 0,acc=>by simp
 | k+1,acc=>by
  have e:acc.toArray++its.toArray=(acc++its).toArray:=by simp
  have e2:(acc++its)++(List.replicate k its).flatten=acc++(List.replicate (k+1) its).flatten:=by
   rw[List.replicate_succ,List.flatten_cons,List.append_assoc]
  rw[←e2,←foldl_rep its k (acc++its),←e,List.replicate_succ,List.foldl_cons]
section
variable {X:Cx} {pins:List (Addr×Obj)} {σ:St} {H:Hp} {s:Shared} {l b:Addr} {xs ys zs:List V}
theorem Inv.lset{its its':List Value}{n:Nat}{f:Array Value->Array Value}{t':Nat}(I:Inv X pins σ H s)(hH:H l=some (.lst xs))
  (e:s.heap.get? l=some { cls:=.type "list",data:=.seq its.toArray n }) (hf:f its.toArray=its'.toArray) (hv:Vals ys its') (hz:ys.length<=sizeLine) :
  Inv X pins σ (upd H l (.lst ys)) { s with heap:=s.heap.update l (Obj.mapSeq f),toks:=t' }:=by
 have q:=PySem.IsL.update e f
 rw[hf]at q
 refine I.write (x:=l) (e:=l) (by rw[hH];exact trivial) (.inl rfl) (fun b' u hb hu=>(Heap.get?_update_other s.heap (Obj.mapSeq f) (Ne.symm hb)).trans hu) ⟨_,q⟩ ?_
 exact⟨hz,its',_,hv,q⟩
theorem Inv.lnew{its:List Value}{t':Nat}(I:Inv X pins σ H s)(hv:Vals ys its)(hz:ys.length<=sizeLine):
  Inv X pins σ (upd H s.heap.objs.size (.lst ys)) { s with heap:=s.heap.push { cls:=.type "list",data:=.seq its.toArray },toks:=t' }:=
 I.laid (fun _ _ q=>EF _ q) (Nat.le_refl _) ⟨hz,its,0,hv,EG _ rfl⟩
theorem Inv.fresh(I:Inv X pins σ H s):H s.heap.objs.size=none:=I.hok.fresh (Nat.le_refl _)
theorem Inv.lstM(I:Inv X pins σ H s)(hH:H l=some (.lst xs)):xs.length<=sizeLine/\∃(its:List Value) (n:Nat),Vals xs its/\xs.length=its.length/\s.heap.get? l=some { cls:=.type "list",data:=.seq its.toArray n }:=by
 obtain⟨z,its,n,r,e⟩:=I.hok l _ hH
 exact⟨z,its,n,r,r.length,e⟩
theorem wg{n:Nat}(h:n<=sizeLine):Builtin.List.listTooLong n=false:=by
 unfold Builtin.List.listTooLong
 exact decide_eq_false (by omega)
end
section
variable {X:Cx}
def vG:V->List V->Hp->VK->Prop:=fun x vs H Q=>∃l xs y,x=.ref l/\vs=[y]/\H l=some (.lst xs)/\xs.length<sizeLine/\Q .non (upd H l (.lst (xs++[y])))
theorem bW:uf X "list.append" vG:=by
 intro pins s σ H x vs v us Q I rx rv h
 obtain⟨l,xs,y,rfl,rfl,hH,hz,q⟩:=h
 cases rx
 obtain⟨u,rfl,ru⟩:=rv.one
 obtain⟨z,its,n,r,hl,e⟩:=I.lstM hH
 refine call_meets F.slot_list_append ⟨_,e,rfl⟩ F.entry_list_append (F.args_list_append_2 _ _) (PySem.list_append l its.toArray n u (by rw[EN];omega)) ⟨e,?_⟩
 refine⟨.non,_,I.lset (its':=its++[u]) hH e (by simp) (r.append (.cons ru .nil)) ?_,rfl,q⟩
 rw[List.length_append,List.length_singleton]
 omega
def xC:V->List V->Hp->VK->Prop:=fun x vs H Q=>∃l b xs zs,x=.ref l/\vs=[.ref b]/\H l=some (.lst xs)/\H b=some (.lst zs)/\xs.length+zs.length<=sizeLine/\Q .non (upd H l (.lst (xs++zs)))
theorem AY:uf X "list.extend" xC:=by
 intro pins s σ H x vs v us Q I rx rv h
 obtain⟨l,b,xs,zs,rfl,rfl,hH,hB,hz,q⟩:=h
 cases rx
 obtain⟨u,rfl,ru⟩:=rv.one
 cases ru
 obtain⟨z,its,n,r,hl,e⟩:=I.lstM hH
 obtain⟨z2,its2,n2,r2,hl2,e2⟩:=I.lstM hB
 have hsz:its.toArray.size+its2.toArray.size<=sizeLine:=by rw[EN,EN];omega
 have hlong:¬(!its.toArray.isEmpty && Builtin.List.listTooLong (its.toArray.size+its2.toArray.size))=true:=by
  rw[wg hsz,Bool.and_false]
  exact Bool.false_ne_true
 refine call_meets F.slot_list_extend ⟨_,e,rfl⟩ F.entry_list_extend (F.args_list_extend_2 _ _)
  (AutoSeq1.list_extend_list_list_0 l its.toArray n b its2.toArray n2 hlong (by rw[EN];omega) (by omega)) ⟨e,e2,?_⟩
 refine⟨.non,_,I.lset (its':=its++its2) hH e (by simp) (r.append r2) ?_,rfl,q⟩
 rw[List.length_append]
 omega
def wa:R2:=fun x y H Q=>∃l b xs zs,x=.ref l/\y=.ref b/\H l=some (.lst xs)/\H b=some (.lst zs)/\xs.length+zs.length<=sizeLine/\∀p,H p=none->Q (.ref p) (upd H p (.lst (xs++zs)))
theorem gq:aZ X (binaryOp .Add) wa:=by
 intro pins s σ H x y v u Q I rx ry h
 obtain⟨l,b,xs,zs,rfl,rfl,hH,hB,hz,q⟩:=h
 cases rx
 cases ry
 obtain⟨z,its,n,r,hl,e⟩:=I.lstM hH
 obtain⟨z2,its2,n2,r2,hl2,e2⟩:=I.lstM hB
 refine PySem.P.add_list e e2 ?_ (by rw[EN,EN];omega)
 have ea:its.toArray++its2.toArray=(its++its2).toArray:=by simp
 rw[ea]
 exact⟨.ref _,_,I.lnew (t':=s.toks) (r.append r2) (by rw[List.length_append];omega),rfl,q _ I.fresh⟩
def vZ:R2:=fun x y H Q=>∃l k xs,x=.ref l/\y=.int k/\H l=some (.lst xs)/\-(2 ^ 63)<=k/\k<2 ^ 63/\xs.length*k.toNat<=sizeLine ∧
 ∀p,H p=none->Q (.ref p) (upd H p (.lst (List.replicate k.toNat xs).flatten))
theorem len_rep{α:Type}(xs:List α)(k:Nat):(List.replicate k xs).flatten.length=k*xs.length:=by
 induction k with
 | zero=>simp
 | succ k ih=>rw[List.replicate_succ,List.flatten_cons,List.length_append,ih,Nat.succ_mul,Nat.add_comm]
theorem vD:aZ X (binaryOp .Mult) vZ:=by
 intro pins s σ H x y v u Q I rx ry h
 obtain⟨l,k,xs,rfl,rfl,hH,h1,h2,hz,q⟩:=h
 cases rx
 obtain⟨t,rfl⟩:=ry
 obtain⟨z,its,n,r,hl,e⟩:=I.lstM hH
 have hlen:its.toArray.size*k.toNat<=sizeLine:=by rw[EN,←hl];exact hz
 have hcap:¬its.toArray.size*k.toNat>(2 ^ 63-1) / 8:=by
  have:(sizeLine:Nat)<=(2 ^ 63-1) / 8:=by decide
  omega
 have hfit:¬(!Builtin.List.listFitsIndex k)=true:=by
  rw[fitsIndex_both h1 h2]
  exact Bool.false_ne_true
 have hlong:¬Builtin.List.listTooLong (its.toArray.size*k.toNat)=true:=by
  rw[wg hlen]
  exact Bool.false_ne_true
 have hnew:List.foldl (fun x1 x2=>x1++x2) #[] (List.replicate (if its.toArray.isEmpty=true then 0 else k.toNat) its.toArray)=(List.replicate k.toNat its).flatten.toArray:=by
  have f0:∀m:Nat,List.foldl (fun x1 x2=>x1++x2) #[] (List.replicate m its.toArray)=(List.replicate m its).flatten.toArray:=fun m=>by
   have:=foldl_rep its m []
   rw[List.nil_append]at this
   exact this
  rw[f0]
  cases its with
  | nil=>simp
  | cons a r'=>rw[if_neg (by simp)]
 refine wpAny_binaryOp_repeat_ref (T:="list") (U:="int") (by decide) ⟨_,e,rfl⟩ (fun s'=>typeIs_int s' k t) noFill_list_mul F.fills_int_mul F.slot_int_rmul repeat_list F.slot_int_index.lookup
  (call_meets F.slot_int_rmul (typeIs_int s k t) F.entry_int_rmul (F.args_int_rmul_2 _ _) (int___rmul___int_list k t l its.toArray n)
   ⟨e,rfl,⟨_,e,rfl⟩,call_meets F.slot_list_mul ⟨_,e,rfl⟩ F.entry_list_mul (F.args_list_mul_2 _ _) (AutoListH.list___mul___list_int_3 l its.toArray n k t hfit hcap hlong) ⟨e,?_⟩⟩)
 rw[hnew]
 exact⟨.ref _,_,I.lnew (t':=s.toks) (r.rep k.toNat) (by rw[len_rep,Nat.mul_comm];exact hz),rfl,q _ I.fresh⟩
end
section
variable {prog:Program} {w:World} {A:Around} {E:Value->Shared->Prop} {s:Shared}
end
section
variable {X:Cx}
end
end L2
namespace Att
open PySem PySem.W PySem.Calls PyProof.Rows
theorem Cq{P:Params}{h:Heap}:∀(ns:List Int) (vs:List Value),WellAll P h vs (ns.map WData.int)->IntsAre vs ns:=by
 intro ns
 induction ns with
 | nil=>
  intro vs w
  rw[List.map_nil]at w
  cases w
  exact .nil
 | cons n ns ih=>
  intro vs w
  rw[List.map_cons]at w
  cases w with
  | cons a b=>
   cases a
   exact .cons _ _ (ih _ b)
theorem yt{l:OpenLaw}{n:Nat}(hn:l.most=some n){P:Params}{h:Heap}{args:List WData}{vals:List Value}
  (hpre:l.row.toRowW.claim.pre args=true) (hwl:WellAll P h vals args) :
  ∃a vs ns,vals=[Value.ref a]/\args=[WData.list (ns.map WData.int)]/\h.get? a=some { cls:=.type "list",data:=.seq vs.toArray }/\IntsAre vs ns/\ns.length<=n:=by
 have hsh:WShape.hasAll [] args [.list .int]=true:=(pre_splitW hpre).1
 have hc:l.pre.holds [] { args:=args }=true:=(pre_splitW hpre).2
 obtain⟨d,r,rfl,h1,h2⟩:=hasAllW_cons hsh
 obtain rfl:=hasAllW_nil h2
 obtain⟨xs,rfl,h3⟩:=hasW_list h1
 obtain⟨ns,rfl⟩:=items_int h3
 have hlen:ns.length<=n:=by
  unfold OpenLaw.pre at hc
  have h4:(WTm.not (.lt (.lit (.int (n:Int))) (.len (.arg 0)))).holds [] { args:=[.list (ns.map .int)] }=true:=by
   have h4:=(holds_andW hc).1
   rw[hn]at h4
   exact h4
  have h5:=condW_of h4 (w_not (w_lt w_lit (w_len_list (w_arg rfl))))
  rw[EI]at h5
  refine Nat.le_of_not_lt fun q=>?_
  have q':(n:Int)<((ns.length:Nat):Int):=by omega
  first
   | (rw[decide_eq_true q']at h5;exact absurd h5 (by decide))
   | (simp at h5;omega)
 cases hwl with
 | cons w1 w2=>
  cases w2
  cases w1 with
  | list ho hall=>exact⟨_,_,ns,rfl,rfl,ho,Cq ns _ hall,hlen⟩
theorem ya(l:OpenLaw)(args:List WData):l.row.toRowW.claim.post args (.bool true) args=true:=
 postW_of (r:=l.row.toRowW) (X:=(true == true))
  (show WShape.has [] (.bool true) .bool=true by first | rfl | decide | simp [WShape.has,WShape.arms,WShape.armsAll])
  (show(WTm.eq .res (.lit (.bool true))).value [] { args:=args,res:=some (.bool true),after:=args }=some (.bool (true == true))from w_eq_bool (w_res rfl) w_lit) rfl
theorem Ci{l:OpenLaw}{n:Nat}{q:Program}{loose:List Str}{XP:(Str->Option Value)->Heap->Prop}{YP:World->Heap->Prop}{d:DefRec}
  (hn:l.most=some n) (hdf:d.params.defaults=[])
  (call:∀(w:World) (s₀ s₁:Shared) (mg mb:Str->Option Value) (fa:Addr) (o:Obj) (pm cd doc:Value) (a:Addr) (vs:List Value) (ns:List Int),
   Ground q loose [] XP w s₀ mg mb s₁.heap->YP w s₁.heap →
   s₁.heap.get? fa=some o->o.data=.func (docDef d.name d.params d.body d.scope pm cd doc)->s₁.heap.CodeRec cd d.name->mg d.name=some (.ref fa) →
   s₁.heap.get? a=some { cls:=.type "list",data:=.seq vs.toArray }->IntsAre vs ns->ns.length<=n->s₁.gens = #[] →
   codeAny (model l.prog w) callerA (.call (.ref fa) ⟨[.ref a],[]⟩) (fun r s'=>r=.ok (.ret (.bool true))/\OldK s₁.heap s'.heap/\s'.os=s₁.os/\AllBare s'.gens) s₁) :
  WalkO q loose XP YP l.row.toRowW d [] (fun f vs=>PySem.call f vs):=by
 intro w s₀ s₁ mg mb G Y fa o pm cd doc dV kV ho hd hcd hD hmg hg args vals as hpre hlay hrd hwl hlo
 obtain rfl:dV=.none:=Dflts.none hD hdf
 obtain rfl:kV=.none:=Dflts.noKw hD
 obtain⟨a,vs,ns,rfl,rfl,hobj,hints,hlen⟩:=yt hn hpre hwl
 refine enter_call (codeAny_mono (call w s₀ s₁ mg mb fa o pm cd doc a vs ns G Y ho (fd_plain hd) hcd hmg hobj hints hlen hg) fun r s' hq=>?_)
 obtain⟨rfl,h2,h3,h4⟩:=hq
 exact⟨.inl ⟨.bool true,.bool true,[],rfl,fun _=>rfl,.bool true,ya l _,fun _=>⟨List.Pairwise.nil,fun _ hm=>(nomatch hm)⟩⟩,h2,h3,h4⟩
section
variable {prog:Program} {w:World} {A:Around} {E:Value->Shared->Prop} {s:Shared} {K:Frag}
end
end Att
namespace L2
open PySem PySem.Spec PyProof.Rows
theorem vL:∀{vs:List Value} {ns:List Int},IntsAre vs ns->Vals (ns.map V.int) vs
 | _,_,.nil=>.nil
 | _,_,.cons n t h=>.cons ⟨t,rfl⟩ (vL h)
def nN(H:Hp):Prop:=∀b,H b=none\/∃o xs,H b=some (.frz o (.lst xs))
theorem law_call{P:Program}{w:World}{K:EE}{mg mb:Str->Option Value}{CX:df}{k:Nat}{fa a:Addr}{fd:FuncData}{x:Str}{sp:Sp}{s₁:Shared}{vs:List Value}{ns:List Int}
  (KX:K.In s₁.heap) (hns:s₁.heap.Ns mainGlobals mg) (hb:s₁.heap.Ns builtinsNs mb) (hbb:∀x:Str,x≠"__name__"->mb x=bootBuiltins x) (hlim:s₁.heap.NoLimit) (hg:s₁.gens = #[])
  (ha:s₁.heap.get? a=some { cls:=.type "list",data:=.seq vs.toArray }) (hi:IntsAre vs ns) (hl:ns.length<=sizeLine) (hr:Room k callerA)
  (F:∀base:Heap,K.In base->base.Ns mainGlobals mg->FnOk P w K mg base CX k fa fd [x] sp) (hbind:∀(s:Shared) (u:Value),BindsTo s fd ⟨[u],[]⟩ [(x,u)])
  (hsp:∀H:Hp,nN H->ag K H a (ns.map V.int)->sp [.ref a] H (fun v _=>v=.bl true) fun _ _ _=>False)
  (hCX:∀H e s',CX [] H s₁ (fun _ _ _=>False) e s'->False) :
  codeAny (model P w) callerA (.call (.ref fa) ⟨[.ref a],[]⟩) (fun r s'=>r=.ok (.ret (.bool true))/\OldK s₁.heap s'.heap/\s'.os=s₁.os/\AllBare s'.gens) s₁:=by
 have rv:=vL hi
 have lenV:=hi.length
 -- from an abstract heap in which nothing but the script may be tracked
 have core:∀H:Hp,nN H->ag K H a (ns.map V.int)->bj P w H s₁.heap->(∀b,H b≠none->b=a)->(H a≠none->K.lookup a=none) →
   codeAny (model P w) callerA (.call (.ref fa) ⟨[.ref a],[]⟩) (fun r s'=>r=.ok (.ret (.bool true))/\OldK s₁.heap s'.heap/\s'.os=s₁.os/\AllBare s'.gens) s₁:=by
  intro H hO hS hok hA hK
  have base_of:∀{b:Addr} {o:Obj},s₁.heap.get? b=some o->H b=none->(eO s₁.heap H).get? b=some o:=fun e n=>xB e n
  have noA:∀{b:Addr} {o:Obj} {es:Array DictEntry} {ep:Nat},s₁.heap.get? b=some o->o.data=.dict es ep->H b=none:=fun{b o es ep} e d=>by
   cases q:H b with
   | none=>rfl
   | some u=>
    have e':b=a:=hA b (by rw[q];simp)
    subst e'
    rw[ha]at e;cases e
    have d':Data.seq vs.toArray _=Data.dict es ep:=d
    cases d'
  have nsK:∀{b:Addr} {m:Str->Option Value},s₁.heap.Ns b m->(eO s₁.heap H).Ns b m:=fun{b m} ⟨o,es,ep,e,d,r⟩=>⟨o,es,ep,base_of e (noA e d),d,r⟩
  have hKb:K.In (eO s₁.heap H):=fun b o e=>base_of (KX b o e) (by
   cases q:H b with
   | none=>rfl
   | some u=>
    have e':b=a:=hA b (by rw[q];simp)
    subst e'
    rw[hK (by rw[q];simp)]at e;cases e)
  have hM:Mod K mg (eO s₁.heap H):=⟨hKb,nsK hns,⟨mb,nsK hb,hbb⟩,let ⟨mc,h1,h2⟩:=hlim;⟨mc,nsK h1,h2⟩⟩
  have e0:Env0 P w K mg (eO s₁.heap H) callerA [] s₁ H:=⟨rfl,hM,fun b o e=>Bl e,Nat.le_of_eq (An _ _),trivial,fun b hb=>absurd (show b∈([]:List Addr)from hb) (by simp),hok,.of_eq hg⟩
  refine codeAny_mono ((F _ hKb (nsK hns)).run callerA [] s₁ H ⟨[.ref a],[]⟩ [.ref a] [.ref a] _ _ hr e0 (hbind s₁ (.ref a)) (.cons rfl .nil) (hsp H hO hS)) fun r s' h=>?_
  cases r with
  | error e=>exact(hCX H e s' h).elim
  | ok fl=>
   cases fl with
   | next=>exact False.elim h
   | brk=>exact False.elim h
   | cont=>exact False.elim h
   | ret u=>
    obtain⟨v,H',os,bare,un,hok',r',q⟩:=h
    have q':v=.bl true:=q
    subst q'
    obtain rfl:u=Value.bool true:=r'
    refine⟨rfl,OldK.of_keep fun b o e=>?_,os,bare⟩
    cases q:H b with
    | none=>exact un.keep b o e q (by intro z;exact absurd (show b∈([]:List Addr)from z) (by simp)) (by simp)
    | some u=>
     rcases hO b with z | ⟨ob,xs,z⟩
     ·rw[q]at z;cases z
     ·have z2:=un.frzs b ob _ z
      obtain⟨e1,_⟩:=hok b _ z
      obtain⟨e2,_⟩:=hok' b _ z2
      rw[e]at e1;cases e1
      exact e2
 cases hk:K.lookup a with
 | some o=>
  -- the script is one of the module's own objects
  have e:=KX a o hk
  rw[ha]at e
  cases e
  refine core (fun _=>none) (fun _=>.inl rfl) (.inr ⟨_,vs.toArray,_,hk,rfl,rfl,rfl,by rw[EN,lenV];exact hl,by simpa using rv⟩) (fun b u z=>by have z':(none:Option HO)=some u:=z;cases z') (fun b z=>absurd rfl z) fun z=>absurd rfl z
 | none=>
  refine core (fun b=>if b=a then some (.frz { cls:=.type "list",data:=.seq vs.toArray } (.lst (ns.map V.int)))else none) (fun b=>?_) (.inl (.inr ⟨{ cls:=.type "list",data:=.seq vs.toArray },if_pos rfl⟩)) (fun b u z=>?_) (fun b z=>?_) fun _=>hk
  ·by_cases hb:b=a
   ·exact .inr ⟨_,_,if_pos hb⟩
   ·exact .inl (if_neg hb)
  ·by_cases hb:b=a
   ·have z':=(if_pos hb).symm.trans z
    cases z'
    subst hb
    exact⟨ha,by rw[EI];exact hl,vs,_,rv,ha⟩
   ·have z':=(if_neg hb).symm.trans z
    cases z'
  ·by_cases hb:b=a
   ·exact hb
   ·exact absurd (if_neg hb) z
end L2
namespace L2
open PySem PySem.Spec PyProof.Rows
theorem AJ{l:PySem.W.OpenLaw}{n k:Nat}{q:Program}{loose:List Str}{XP:(Str->Option Value)->Heap->Prop}{YP:World->Heap->Prop}{d:DefRec}{K:Params->EE}{CX:World->df}{sp:World->Sp}{x:Str}
  (hn:l.most=some n) (hn2:n<=sizeLine) (hdf:d.params.defaults=[]) (hr:Room k callerA)
  (hY:∀(w:World) (h:Heap),YP w h->(K w.params).In h)
  (F:∀(w:World) (mg:Str->Option Value) (fa:Addr) (h:Heap),(K w.params).In h->h.Ns mainGlobals mg->mg d.name=some (.ref fa) →
   ∃fd:FuncData,(∀(s:Shared) (u:Value),BindsTo s fd ⟨[u],[]⟩ [(x,u)]) ∧
    ∀base:Heap,(K w.params).In base->base.Ns mainGlobals mg->FnOk l.prog w (K w.params) mg base (CX w) k fa fd [x] (sp w))
  (hsp:∀(w:World) (H:Hp) (a:Addr) (ns:List Int),ns.length<=n->nN H->ag (K w.params) H a (ns.map V.int)->sp w [.ref a] H (fun v _=>v=.bl true) fun _ _ _=>False)
  (hCX:∀(w:World) (H:Hp) (s:Shared) (e:Value) (s':Shared),CX w [] H s (fun _ _ _=>False) e s'->False) :
  PySem.W.WalkO q loose XP YP l.row.toRowW d [] (fun f vs=>PySem.call f vs):=by
 refine Att.Ci hn hdf fun w s₀ s₁ mg mb fa o pm cd doc a vs ns G Y ho hd hcd hmg hobj hints hlen hg=>?_
 have KX:=hY w _ Y
 obtain⟨fd,hb,hF⟩:=F w mg fa _ KX G.T.g hmg
 exact law_call KX G.T.g G.T.b G.T.builtins G.T.nolimit hg hobj hints (Nat.le_trans hlen hn2) hr hF hb (fun H hO hS=>hsp w H a ns hlen hO hS) fun H e s'=>hCX w H s₁ e s'
end L2
namespace L2
open PySem PySem.Spec PyProof.Rows
def fB(s:Stmt):Arguments:=match s with
 | .FunctionDef _ a _ _ _ _ _ _ _ _=>a
 | _=>{ posonlyargs:=[],args:=[],vararg:=none,kwonlyargs:=[],kw_defaults:=[],kwarg:=none,defaults:=[] }
def dS(s:Stmt):List Stmt:=match s with
 | .FunctionDef _ _ b _ _ _ _ _ _ _=>b
 | _=>[]
def aG(s:Stmt):Scope:=match s with
 | .FunctionDef _ _ _ _ _ _ sc _ _ _=>sc
 | _=>{ kind:=.function,names:=[],isGenerator:=false,isCoroutine:=false }
abbrev eP:df:=fun _ _ _ _ _ _=>False
abbrev E0:XK:=fun _ _ _=>False
theorem x9{X:Cx}:Passes eP X E0:=fun _ _ _ _ _ _ _ h=>h.elim
structure Fun(K:EE)(x qual:Str)(st:Stmt)(f:Addr)(fd:FuncData):Prop where
 ex:∃(oc:Value) (od:Option Addr) (kV doc pm:Value) (an:Option Addr) (cdv ct:Value) (osl:Array (Option Value)),
  fd=PySem.W.fnOf x qual (fB st) (dS st) (aG st) .none kV doc pm an cdv ct/\K.lookup f=some ⟨oc,od,.func fd,osl⟩/\PySem.W.codeIn K cdv qual=true
 kp:PySem.W.keepIn K (.ref f)=true
section
variable {P:Program} {w:World} {K:EE} {mg:Str->Option Value} {base:Heap}
theorem Fun.ok{x qual:Str}{st:Stmt}{f:Addr}{fd:FuncData}{N ps:List Str}{k:Nat}{sp:Sp}(F:Fun K x qual st f fd)(S:FnScope N ps (aG st))(len:∀vs H Q E,sp vs H Q E->vs.length=ps.length)
  (hbody:∀(cdv:Value) (A:Around) (outer:List Env) (s:Shared) (H:Hp) (vs:List V) (Q:VK) (E:XK),Room k (A.deeper (envOfC qual (aG st) s.heap.objs.size f cdv))->sp vs H Q E →
   ∃t,b9 (bA eP P w K mg base N qual (aG st) f cdv A outer s H E).nox (dS st) t/\t { nx:=fun _ H'=>Q .non H',rt:=Q } (start N vs) H):FnOk P w K mg base eP (k+1) f fd ps sp:=by
 obtain⟨oc,od,kV,doc,pm,an,cdv,ct,osl,rfl,lk,hcd⟩:=F.ex
 refine om lk hcd S len fun A outer s H vs Q E hr hsp=>?_
 obtain⟨t,h,q⟩:=hbody cdv A outer s H vs Q E hr hsp
 exact⟨t,h.nox,q⟩
theorem Fun.binds{x qual:Str}{st:Stmt}{f:Addr}{fd:FuncData}{ps:List Str}(F:Fun K x qual st f fd)
  (h:∀(kV doc pm:Value) (an:Option Addr) (cdv ct:Value) (us:List Value),us.length=ps.length->bindArgs (PySem.W.fnOf x qual (fB st) (dS st) (aG st) .none kV doc pm an cdv ct) ⟨us,[]⟩=pure (ps.zip us)):Binds K fd ps []:=by
 obtain⟨oc,od,kV,doc,pm,an,cdv,ct,osl,rfl,lk,hcd⟩:=F.ex
 exact .all (h kV doc pm an cdv ct)
theorem sP{x qual:Str}{st:Stmt}{f:Addr}{oc:Value}{od an:Option Addr}{osl:Array (Option Value)}{kV doc pm cdv ct:Value}(l:K.lookup f=some ⟨oc,od,.func (PySem.W.fnOf x qual (fB st) (dS st) (aG st) .none kV doc pm an cdv ct),osl⟩)
  (c:PySem.W.codeIn K cdv qual=true) (k:PySem.W.keepIn K (.ref f)=true):Fun K x qual st f (PySem.W.fnOf x qual (fB st) (dS st) (aG st) .none kV doc pm an cdv ct):=⟨⟨oc,od,kV,doc,pm,an,cdv,ct,osl,rfl,l,c⟩,k⟩
end
theorem fv{A:Around}{k:Nat}(hr:Room k A):A.units+1<cLine:=Nat.lt_of_le_of_lt (Nat.add_le_add_left (by decide:1<=64) _) hr.units
section
variable {X:Cx}
theorem pv(i:Nat){x:Str}{pos:Pos}(hN:X.N[i]?=some x:=by rfl)(hv:i8 X.env.scope x:=by first | exact Or.inl rfl | exact Or.inr (Or.inl rfl) | exact Or.inr (Or.inr rfl))(hd:(x == ("__debug__":Str))=false:=by decide)
  (hcd:(x == ("__classdict__":Str))=false:=by decide):PE X (.Name x pos) (nJ i):=Cn hN hv hd hcd
end
theorem aw{A B:Prop}(h:B):if false=true then A else B:=by
 rw[if_neg Bool.false_ne_true]
 exact h
theorem aB{A B:Prop}(h:A):if true=true then A else B:=by
 rw[if_pos rfl]
 exact h
theorem cN{c A B:Prop}[Decidable c](h1:c->A)(h2:¬c->B):if c then A else B:=by
 by_cases h:c
 ·rw[if_pos h]
  exact h1 h
 ·rw[if_neg h]
  exact h2 h
end L2
namespace L2
open PySem PySem.Spec PyProof.Rows
structure Blk where
 s:Shared
 H:Hp
 fp:List Addr
 C:Addr
def fU(names:List (Str×NameKind))(cells:List (Str×Addr)):List (Str×Addr):=
 names.foldl (fun acc p=>if p.2 == .free then(p.1,(cells.lookup p.1).getD 0)::acc else acc) []
def cE(X:Cx)(sc:Scope)(own:List Str)(js:List Nat)(z:Blk):Cx where
 prog:=X.prog
 w:=X.w
 K:=X.K
 mg:=X.mg
 base:=X.base
 A:=X.A
 N:=own++js.map fun j=>X.N.getD j ""
 s₀:=z.s
 H₀:=z.H
 env:=compEnvC sc (fU sc.names X.env.cells) z.C X.env
 outer:=X.stack
 stack:=X.stack
 ex:=z.fp
 fn:=fun _=>false
 calm:=X.calm
 pn:=[]
 xe:=fun _ _=>False
def eo(sc out:Scope):Bool:=sc.names.all fun p=>p.2 != .cell && (p.2 != .local || sc.names.lookup p.1 == some .local) && (p.2 != .free || out.names.lookup p.1 == some .cell || out.names.lookup p.1 == some .free)
def kh(sc:Scope)(N:List Str)(js:List Nat):Bool:=js.all fun j=>decide (j<N.length) && (sc.names.lookup (N.getD j "") == some .free)
def cp(n:Nat)(js:List Nat)(σ:St):St:=List.replicate n none++js.map fun j=>(σ[j]?).join
theorem qI(cells:List (Str×Addr)):∀(names:List (Str×NameKind)) (acc:List (Str×Addr)) (x:Str) (c:Addr),
  (names.foldl (fun acc p=>if p.2 == .free then(p.1,(cells.lookup p.1).getD 0)::acc else acc) acc).lookup x=some c →
  ((x,NameKind.free)∈names/\c=(cells.lookup x).getD 0)\/acc.lookup x=some c
 | [],acc,x,c,h=>.inr h
 | (n,k)::r,acc,x,c,h=>by
  rw[List.foldl_cons]at h
  rcases qI cells r _ x c h with⟨h1,h2⟩ | h1
  ·exact .inl ⟨EL _ h1,h2⟩
  ·cases hk:(k == NameKind.free)with
   | false=>
    simp only[hk]at h1
    exact .inr h1
   | true=>
    simp only[hk,if_true]at h1
    rw[List.lookup_cons]at h1
    cases hx:(x == n)with
    | false=>rw[hx]at h1;exact .inr h1
    | true=>
     rw[hx]at h1
     have e1:x=n:=by simpa using hx
     have e2:k=.free:=by simpa using hk
     subst e1 e2
     exact .inl ⟨EO,(Option.some.inj h1).symm⟩
theorem qQ(cells:List (Str×Addr)):∀(names:List (Str×NameKind)) (acc:List (Str×Addr)) (x:Str),
  ((x,NameKind.free)∈names\/(acc.lookup x).isSome=true)->((names.foldl (fun acc p=>if p.2 == .free then(p.1,(cells.lookup p.1).getD 0)::acc else acc) acc).lookup x).isSome=true
 | [],acc,x,h=>by
  rcases h with h | h
  ·simp at h
  ·exact h
 | (n,k)::r,acc,x,h=>by
  rw[List.foldl_cons]
  apply qQ cells r
  rcases h with h | h
  ·rcases List.mem_cons.mp h with e | h
   ·right
    cases e
    simp[List.lookup_cons]
   ·exact .inl h
  ·right
   cases hk:(k == NameKind.free)with
   | false=>simpa[hk]using h
   | true=>
    simp only[hk,if_true,List.lookup_cons]
    cases hx:(x == n)with
    | true=>rfl
    | false=>exact h
theorem tF{env:Env}{sc:Scope}(h:∀p∈sc.names,p.2=.free->∃c,env.cells.lookup p.1=some c):closureFor sc env=pure (fU sc.names env.cells):=by
 have go:∀(names:List (Str×NameKind)) (acc:List (Str×Addr)),(∀p∈names,p.2=NameKind.free->∃c,env.cells.lookup p.1=some c) →
   (forIn names acc fun(p:Str×NameKind) (r:List (Str×Addr))=>(match p with | (name,kind)=>if(kind == NameKind.free)=true then do let c ←cellOf env name;pure (ForInStep.yield ((name,c)::r))else pure (ForInStep.yield r):Sem _)) =
   pure (names.foldl (fun acc p=>if p.2 == .free then(p.1,(env.cells.lookup p.1).getD 0)::acc else acc) acc):=by
  intro names
  induction names with
  | nil=>intro acc _;rfl
  | cons p r ih=>
   intro acc hp
   obtain⟨n,k⟩:=p
   rw[List.forIn_cons,List.foldl_cons]
   cases hk:(k == NameKind.free)with
   | false=>
    simp only[hk,Bool.false_eq_true,if_false]
    exact ih acc fun q hq=>hp q (EL _ hq)
   | true=>
    obtain⟨c,hc⟩:=hp (n,k) EO (by simpa using hk)
    have e:cellOf env n=pure c:=by
     unfold cellOf
     rw[show env.cells.lookup n=some c from hc]
    simp only[hk,if_true,e]
    have hc':env.cells.lookup n=some c:=hc
    rw[hc']
    exact ih _ fun q hq=>hp q (EL _ hq)
 unfold closureFor fU
 have:=go sc.names [] h
 simp only[this]
 rfl
def iz(X:Cx)(ifs:List Expr)(t:TT):Prop:=
 ∀(pins:List (Addr×Obj)) (s:Shared) (σ:St) (H:Hp) (Q:Bool->Hp->Prop),Inv X pins σ H s->t σ H Q →
  wpAny (model X.prog X.w) X.A (forIn ifs true fun c r=>if r=true then do let ok ←isTrue c X.env (eval c X.env);pure (ForInStep.yield ok)else pure (ForInStep.yield r)) (TP X pins σ Q) X.xe s
def tN:TT:=fun _ H Q=>Q true H
theorem eY{X:Cx}:iz X [] tN:=fun _ _ _ H _ I h=>wpAny_tests_nil ⟨H,I,h⟩
theorem Ba{X:Cx}{c:Expr}{t:TT}(h:PT X c t):iz X [c] t:=fun pins s σ H Q I hq=>wpAny_tests_one (h pins s σ H Q I hq)
theorem Ee{prog:Program}{w:World}{A:Around}{R:Result->Shared->Prop}{t0:Shared}{elt tgt iter:Expr}{ifs:List Expr}{sc:Scope}{ps:Pos}{itv acc:Value}{ce:Env}(Wd:Nat->Shared->Prop)
  (step:∀k t,Wd k t->wpAny (model prog w) A (pyNext itv) (fun got t1=>
   match got with
   | none=>R (.ok .next) t1
   | some u=>wpAny (model prog w) A (letOwnedTupleGo tgt itv u) (fun _ t2=>wpAny (model prog w) A (assign tgt ce u) (fun _ t3=>
     wpAny (model prog w) A (forIn ifs true fun c r=>if r=true then do let ok ←isTrue c ce (eval c ce);pure (ForInStep.yield ok)else pure (ForInStep.yield r)) (fun yes t4=>
      if yes=true then wpAny (model prog w) A (eval elt ce) (fun val t5=>wpAny (model prog w) A (call (.builtin "list.append") [acc,val]) (fun _ t6=>∃m,m<k/\Wd m t6) (fun _ _=>False) t5) (fun _ _=>False) t4
      else ∃m,m<k/\Wd m t4) (fun _ _=>False) t3) (fun _ _=>False) t2) (fun _ _=>False) t1) (fun _ _=>False) t)
  (k0:Nat) (start:Wd k0 t0):codeAny (model prog w) A (.compLoop (.ListComp elt [⟨tgt,iter,ifs,0⟩] sc ps) 0 itv acc ce) R t0:=by
 refine codeAny_loop rfl Wd (fun k t hW=>?turn) k0 start
 case turn=>
  have nox:∀{α:Type} {m:Sem α} {Q:α->Shared->Prop} {E:Value->Shared->Prop} {z:Shared},wpAny (model prog w) A m Q (fun _ _=>False) z->wpAny (model prog w) A m Q E z:=fun h=>wpAny_mono h (fun _ _ q=>q) fun _ _ f=>f.elim
  show wpAny _ A ((compTurn (.ListComp elt [⟨tgt,iter,ifs,0⟩] sc ps) 0 itv acc ce).onRaise (fun x=>do noteFrame x ce;theTreesLotGoes x)) _ _ t
  apply wpAny_noted
  rw[compTurn_list]
  refine EC (wpAny_standAt (EC (nox (wpAny_mono (step k t hW) (fun got t1 h1=>?_) fun _ _ f=>f))))
  cases got with
  | none=>exact ED h1
  | some u=>
   refine EC (nox (wpAny_mono h1 (fun _ t2 h2=>?_) fun _ _ f=>f))
   refine EC (nox (wpAny_mono h2 (fun _ t3 h3=>?_) fun _ _ f=>f))
   refine EC (nox (wpAny_mono h3 (fun yes t4 h4=>?_) fun _ _ f=>f))
   cases yes with
   | false=>
    rw[if_neg Bool.false_ne_true]at h4
    exact ED ⟨rfl,h4⟩
   | true=>
    rw[if_pos rfl]at h4
    refine EC (EC (nox (wpAny_mono h4 (fun val t5 h5=>?_) fun _ _ f=>f)))
    exact EC (nox (wpAny_mono h5 (fun _ t6 h6=>ED (ED ⟨rfl,h6⟩)) fun _ _ f=>f))
section
variable {X:Cx} {pins:List (Addr×Obj)} {σ:St} {H:Hp} {s:Shared}
def de(its:List Value)(n:Nat):Obj:={ cls:=.type "list",data:=.seq its.toArray n }
theorem kD{sc out:Scope}(h:eo sc out=true){p:Str×NameKind}(hp:p∈sc.names)(hf:p.2=.free):out.names.lookup p.1=some .cell\/out.names.lookup p.1=some .free:=by
 have:=List.all_eq_true.mp h p hp
 simp only[hf,Bool.and_eq_true,Bool.or_eq_true,beq_iff_eq,bne_iff_ne,ne_eq,not_true,false_or]at this
 exact this.2
theorem qE{sc out:Scope}(h:eo sc out=true){p:Str×NameKind}(hp:p∈sc.names):p.2≠.cell:=by
 have:=List.all_eq_true.mp h p hp
 simp only[Bool.and_eq_true,bne_iff_ne,ne_eq]at this
 exact this.1.1
theorem vW{sc out:Scope}(h:eo sc out=true){p:Str×NameKind}(hp:p∈sc.names)(hf:p.2=.local):sc.names.lookup p.1=some .local:=by
 have:=List.all_eq_true.mp h p hp
 simp only[hf,Bool.and_eq_true,Bool.or_eq_true,beq_iff_eq,bne_iff_ne,ne_eq,not_true,false_or]at this
 exact this.1.2
theorem kR{sc:Scope}{env:Env}{x:Str}:∀{names:List (Str×NameKind)} {k:NameKind},(names.map fun(p:Str×NameKind)=>match p with | (n,k)=>if(k == NameKind.free && env.scope.kind == .function && env.kindOf n == some .cell)then(n,NameKind.cell)else(n,k)).lookup x=some k →
  ∃k',names.lookup x=some k'/\(k'=k\/(k'=.free/\k=.cell))
 | [],_,h=>by simp at h
 | (n,q)::r,k,h=>by
  rw[List.map_cons]at h
  rw[List.lookup_cons]
  cases hx:(x == n)with
  | true=>
   refine⟨q,rfl,?_⟩
   by_cases hc:(q == NameKind.free && env.scope.kind == .function && env.kindOf n == some .cell)=true
   ·simp only[hc,if_true,List.lookup_cons,hx]at h
    right
    simp only[Bool.and_eq_true,beq_iff_eq]at hc
    exact⟨hc.1.1,(Option.some.inj h).symm⟩
   ·left
    have h2:List.lookup x ((n,q)::(r.map fun(p:Str×NameKind)=>match p with | (n,k)=>if(k == NameKind.free && env.scope.kind == .function && env.kindOf n == some .cell)then(n,NameKind.cell)else(n,k)))=some k:=by
     have h3:=h
     dsimp only at h3
     rw[if_neg hc]at h3
     exact h3
    rw[List.lookup_cons,hx]at h2
    exact Option.some.inj h2
  | false=>
   have:List.lookup x (r.map fun(p:Str×NameKind)=>match p with | (n,k)=>if(k == NameKind.free && env.scope.kind == .function && env.kindOf n == some .cell)then(n,NameKind.cell)else(n,k))=some k:=by
    by_cases hc:(q == NameKind.free && env.scope.kind == .function && env.kindOf n == some .cell)=true
    ·simpa only[hc,if_true,List.lookup_cons,hx]using h
    ·dsimp only at h
     rw[if_neg hc,List.lookup_cons,hx]at h
     exact h
   exact kR (sc:=sc) this
theorem pA{names:List (Str×NameKind)}{x:Str}{k:NameKind}(h:names.lookup x=some k):(x,k)∈names:=PySem.mem_of_lookup h
theorem eB(ok:X.Ok){sc:Scope}(hb:eo sc X.env.scope=true){x:Str}{c:Addr}(h:(fU sc.names X.env.cells).lookup x=some c):X.env.cells.lookup x=some c:=by
 rcases qI X.env.cells sc.names [] x c h with⟨h1,h2⟩ | h1
 ·obtain⟨d,hd⟩:=ok.has x (kD hb h1 rfl)
  rw[hd]at h2 ⊢
  rw[h2]
  rfl
 ·simp at h1
theorem mK{sc:Scope}{x:Str}{cells:List (Str×Addr)}(h:(x,NameKind.free)∈sc.names):∃c,(fU sc.names cells).lookup x=some c:=
 Option.isSome_iff_exists.mp (qQ cells sc.names [] x (.inl h))
theorem Inv.stk_lt(I:Inv X pins σ H s){b:Addr}(hb:b∈aX X.stack):b<s.heap.objs.size:=by
 rcases List.mem_cons.mp (I.stkSub b hb)with e | h
 ·rw[e];exact I.lt
 ·obtain⟨_,o,ho,_⟩:=I.ok.funs.mem h
  exact Nat.lt_of_lt_of_le (EH ho) I.sz
theorem Inv.cell_lt(I:Inv X pins σ H s){x:Str}{c:Addr}(h:X.env.cells.lookup x=some c):c<s.heap.objs.size:=by
 obtain⟨v,q⟩:=I.cell x c h
 exact q.lt
theorem Inv.pin_lt(I:Inv X pins σ H s){p:Addr×Obj}(h:p∈X.pn++pins):p.1<s.heap.objs.size:=EH (I.pin p h).1
theorem AF(I:Inv X pins σ H s){sc:Scope}{own:List Str}{js:List Nat}{fp:List Addr}{C:Nat}(hk:sc.kind=.function)(hb:eo sc X.env.scope=true)
  (hfp:∀b∈fp,bO X pins H b) (hC:s.heap.objs.size<=C) (hlt:∀b∈fp,b<s.heap.objs.size):(cE X sc own js ⟨s,H,fp,C⟩).Ok where
 mod:=I.ok.mod
 kind:=hk
 glob:=I.ok.glob
 blt:=I.ok.blt
 above:=hC
 inj:=fun x y c h1 h2=>I.ok.inj x y c (eB I.ok hb h1) (eB I.ok hb h2)
 has:=fun x hx=>by
  have hx':(relabel sc X.env).names.lookup x=some .cell\/(relabel sc X.env).names.lookup x=some .free:=hx
  have go:∀k,(relabel sc X.env).names.lookup x=some k->(k=.cell\/k=.free)->∃c,(fU sc.names X.env.cells).lookup x=some c:=fun k h hkk=>by
   obtain⟨k',h1,h2⟩:=kR (sc:=sc) (env:=X.env) h
   have m:=pA h1
   rcases h2 with h2 | ⟨h2,_⟩
   ·subst h2
    rcases hkk with e | e
    ·exact absurd e (qE hb m)
    ·rw[e]at m;exact mK m
   ·rw[h2]at m;exact mK m
  rcases hx' with h | h
  ·exact go _ h (.inl rfl)
  ·exact go _ h (.inr rfl)
 cab:=fun x c h _=>by cases h
 hd:=I.ok.hd
 frames:=I.ok.frames
 stk:=.inl rfl
 exf:=fun b hb'=>⟨Nat.ne_of_lt (Nat.lt_of_lt_of_le (hlt b hb') hC),fun x c e=>(hfp b hb').2.2.2.2.1 x c (eB I.ok hb e)⟩
 bs:=I.bs
 bsz:=Nat.le_trans I.ok.bsz I.sz
 noex:=fun b o e hb'=>by
  rcases(hfp b hb').2.2.2.1 with z | z
  ·exact I.ok.noex b o e z
  ·exact absurd (Nat.lt_of_lt_of_le (EH e) (Nat.le_trans I.ok.bsz z)) (Nat.lt_irrefl _)
 exfs:=fun b hb' hm=>by
  rcases List.mem_cons.mp (I.stkSub b hm)with e | h
  ·exact(hfp b hb').2.1 e
  ·exact(hfp b hb').2.2.1 h
 funs:=I.stack
 frf:=I.stkFree
theorem vN{n:Nat}{js:List Nat}{i:Nat}{v:V}(h:(cp n js σ)[i]?=some (some v)):∃k j,i=n+k/\js[k]?=some j/\σ[j]?=some (some v):=by
 unfold cp at h
 by_cases hi:i<n
 ·rw[List.getElem?_append_left (by simpa using hi),List.getElem?_replicate]at h
  split at h<;>cases h
 ·rw[List.getElem?_append_right (by simpa using Nat.le_of_not_lt hi),List.length_replicate,EK]at h
  cases e:js[i-n]? with
  | none=>rw[e]at h;cases h
  | some j=>
   rw[e]at h
   refine⟨i-n,j,by omega,e,?_⟩
   have h':(σ[j]?).join=some v:=by simpa using h
   cases q:σ[j]? with
   | none=>rw[q]at h';cases h'
   | some o=>
    rw[q]at h'
    have:o=some v:=h'
    rw[this]
theorem BQ(I:Inv X pins σ H s){sc:Scope}{own:List Str}{js:List Nat}{fp:List Addr}{C D:Nat}{h1:Heap}{tk:Nat}{o:Obj}{m:Str->Option Value}(hk:sc.kind=.function)(hb:eo sc X.env.scope=true)(hj:kh sc X.N js=true)
  (hfp:∀b∈fp,bO X pins H b) (hlt:∀b∈fp,b<s.heap.objs.size) (hD:D=s.heap.objs.size) (hC:C=s.heap.objs.size+1) (old:∀b o,s.heap.get? b=some o->h1.get? b=some o)
  (hDo:h1.get? D=some o) (hod:∀v,o.data≠.cell v) (hm:h1.Ns C m) :
  Inv (cE X sc own js ⟨s,H,fp,C⟩) [(D,o)] (cp own.length js σ) H { s with heap:=h1,toks:=tk } where
 ok:=AF I hk hb hfp (show @LE.le Nat _ s.heap.objs.size C by omega) hlt
 os:=rfl
 bare:=I.bare
 base:=Un.kept old
 loc:=by
  refine⟨m,hm,fun i x v e1 e2 e3=>?_⟩
  obtain⟨k,j,rfl,ej,es⟩:=vN e2
  have e1':(own++js.map fun j=>X.N.getD j "")[own.length+k]?=some x:=e1
  rw[List.getElem?_append_right (by omega),Nat.add_sub_cancel_left,EK,ej]at e1'
  have ex:X.N.getD j "" = x:=by simpa using e1'
  have hjj:=List.all_eq_true.mp hj j (List.mem_of_getElem? ej)
  simp only[Bool.and_eq_true,decide_eq_true_eq,beq_iff_eq]at hjj
  have exN:X.N[j]?=some x:=by
   rw[←ex,List.getD_eq_getElem?_getD,EJ hjj.1]
   rfl
  have hfree:sc.names.lookup x=some .free:=by rw[←ex];exact hjj.2
  have hmem:=pA hfree
  have hout:=kD hb hmem rfl
  obtain⟨m0,hn0,hl0⟩:=I.loc
  obtain⟨u,r,l⟩:=hl0 j x v exN es (by rcases hout with z | z;exact .inr (.inl z);exact .inr (.inr z))
  refine⟨u,r,?_⟩
  obtain⟨c,hc⟩:=mK (cells:=X.env.cells) hmem
  have hc':=eB I.ok hb hc
  have hcell:s.heap.IsCell c (some u):=by
   rcases l with⟨z,_⟩ | ⟨_,c',e',q⟩
   ·have z':X.env.scope.names.lookup x=some .local:=z
    rcases hout with w | w<;>(rw[z']at w;cases w)
   ·rw[hc']at e';cases e';exact q
  have hcell1:h1.IsCell c (some u):=by
   obtain⟨oc,ho,hd⟩:=hcell
   exact⟨oc,old c oc ho,hd⟩
  right
  refine⟨?_,c,hc,hcell1⟩
  have e3':(relabel sc X.env).names.lookup x=some .local\/(relabel sc X.env).names.lookup x=some .cell\/(relabel sc X.env).names.lookup x=some .free:=e3
  rcases e3' with z | z
  ·obtain⟨k',z1,z2⟩:=kR (sc:=sc) (env:=X.env) z
   rw[hfree]at z1
   rcases z2 with z2 | ⟨_,z2⟩
   ·rw[z2]at z1;cases z1
   ·cases z2
  ·exact z
 cell:=fun x c e=>by
  obtain⟨v,oc,ho,hd⟩:=I.cell x c (eB I.ok hb e)
  exact⟨v,oc,old c oc ho,hd⟩
 free:=I.hok.fresh (show @LE.le Nat _ s.heap.objs.size C by omega)
 freeC:=fun x c e=>I.freeC x c (eB I.ok hb e)
 pin:=fun p hp=>by
  have e:p=(D,o):=by simpa[cE]using hp
  subst e
  refine⟨hDo,I.hok.fresh (show @LE.le Nat _ s.heap.objs.size D by omega),?_,fun z=>?_,hod⟩
  ·exact Nat.ne_of_lt (show @LT.lt Nat _ D C by omega)
  ·have h9:@LT.lt Nat _ D s.heap.objs.size:=I.stk_lt (b:=D) z
   omega
 hok:=I.hok.kept old
 len:=by
  show(cp own.length js σ).length=(own++js.map fun j=>X.N.getD j "").length
  simp[cp]
def fG(J:It)(n:Nat)(js:List Nat)(g:TG)(tc:TT)(te:TE)(σ:St)(H:Hp)(Q:VK):Prop:=
 ∃W:Nat->Nat->List V->Hp->Prop,(∃m,W 0 m [] H)/\∀i m ys H',W i m ys H' →
  (J.stop i H'/\∀p,H' p=none->Q (.ref p) (upd H' p (.lst ys))) ∨
  (J.go i H'/\ys.length<sizeLine/\∃N:List V->Hp->Prop,(∀ys' H2,N ys' H2->∃m',m'<m/\W (i+1) m' ys' H2)/\∀x H2,J.yld i H' x H2->g x (cp n js σ) H2 fun σ2 H3=>tc σ2 H3 fun b H4=>
   if b=true then te σ2 H4 fun v H5=>N (ys++[v]) H5 else N ys H4)
def ml(n:Nat)(js:List Nat)(wi:TI)(g:TG)(tc:TT)(te:TE):TE:=fun σ H Q=>wi σ H fun J H1=>fG J n js g tc te σ H1 Q
theorem uk{elt tg iter:Expr}{ifs:List Expr}{sc:Scope}{pos:Pos}{own:List Str}{js:List Nat}{g:TG}{tc:TT}{te:TE}{J:It}{it:Addr}{fp:List Addr}{tn:Nat->Heap->Prop}{RR:Value->Addr->Result->Shared->Prop}{E:Value->Shared->Prop}
  {Q:VK} {W:Nat->Nat->List V->Hp->Prop} (hk:sc.kind=.function) (hb:eo sc X.env.scope=true) (hj:kh sc X.N js=true) (hc:X.calm=true)
  (hg:∀z,PG (cE X sc own js z) tg g) (ht:∀z,iz (cE X sc own js z) ifs tc) (he:∀z,PE (cE X sc own js z) elt te)
  (I:Inv X pins σ H s) (T:Turn X.prog X.w X.K tg J fp it tn) (st:tn 0 s.heap) (hfp:∀b∈fp,bO X pins H b) (w0:∃m,W 0 m [] H)
  (turn:∀i m ys H',W i m ys H'->(J.stop i H'/\∀p,H' p=none->Q (.ref p) (upd H' p (.lst ys))) ∨
   (J.go i H'/\ys.length<sizeLine/\∃N:List V->Hp->Prop,(∀ys' H2,N ys' H2->∃m',m'<m/\W (i+1) m' ys' H2)/\∀x H2,J.yld i H' x H2->g x (cp own.length js σ) H2 fun σ2 H3=>tc σ2 H3 fun b H4=>
    if b=true then te σ2 H4 fun v H5=>N (ys++[v]) H5 else N ys H4))
  (fin:∀D C s' ys H',H' D=none->Inv X pins σ (upd H' D (.lst ys)) s'->bO X pins (upd H' D (.lst ys)) C->(∃m,s'.heap.Ns C m)->s.heap.objs.size<=C->Q (.ref D) (upd H' D (.lst ys))->RR (.ref D) C (.ok .next) s') :
  wpAny (model X.prog X.w) X.A (newList []) (fun acc s₃=>wpAny (model X.prog X.w) X.A (newFunctionEnv sc X.env.globals (fU sc.names X.env.cells) [] X.env.qual none .none (some X.env)) (fun cenv s₄=>
   codeAny (model X.prog X.w) X.A (.compStart (.ListComp elt [⟨tg,iter,ifs,0⟩] sc pos) 0 (.ref it) acc { cenv with scope:=relabel sc X.env }) (RR acc cenv.locals) s₄) E s₃) E s:=by
 have hlt:∀b∈fp,b<s.heap.objs.size:=fun b hb'=>by
  obtain⟨o,e,_⟩:=T.obj 0 s.heap st b hb'
  exact EH e
 refine wpAny_newObj_type (wpAny_newFunctionEnv (fun y hy=>qE hb hy) (by intro y hy;simp at hy) (fun h₁ hns₁ hsb₁=>?_) hk)
 dsimp only at hns₁ hsb₁ ⊢
 generalize hH2:s.heap.push { cls:=.type "list",dict:=none,data:=.seq ([]:List Value).toArray }=H2 at hns₁ hsb₁ ⊢
 have hCs:H2.objs.size=s.heap.objs.size+1:=by rw[←hH2,Heap.size_push]
 generalize hCe:H2.objs.size=C at *
 have below:∀b:Nat,b<s.heap.objs.size->b≠C:=fun b hb'=>by omega
 have old:∀b o,s.heap.get? b=some o->h₁.get? b=some o:=fun b o e=>hsb₁.extBut b o (below b (EH e)) (EF _ (hH2 ▸ EF _ e))
 have hDo:h₁.get? s.heap.objs.size=some (de [] 0):=hsb₁.extBut _ _ (show @Ne Nat s.heap.objs.size C by omega) (EF _ (hH2 ▸ EG _ rfl))
 generalize hDe:s.heap.objs.size=D at *
 -- the loop's word
 let Y:Cx:=cE X sc own js ⟨s,H,fp,C⟩
 have J0:Inv Y [(D,de [] 0)] (cp own.length js σ) H { s with heap:=h₁,toks:=s.toks+([]:List (Str×Value)).length }:=
  BQ I hk hb hj hfp (by rw[hDe];exact hlt) hDe.symm (by rw[hDe];exact hCs) old hDo (fun v z=>by cases z) hns₁
 have ndC:@Ne Nat D C:=by omega
 have statF:∀{P':List (Addr×Obj)} {H':Hp},(∀b∈fp,H' b=none)->(∀p∈P',p.1∉fp)->∀b∈fp,bO Y P' H' b:=fun{P' H'} hn hp b hb'=>by
  obtain⟨f0,f1,f2,f3,f4,f5⟩:=hfp b hb'
  refine⟨hn b hb',fun z=>below b (hlt b hb') z,fun z=>?_,.inl hb',fun x c e=>f4 x c (eB I.ok hb e),fun p hp' z=>?_⟩
  ·rcases List.mem_cons.mp (I.stkSub b z)with e | h
   ·exact f1 e
   ·exact f2 h
  ·have:p∈P':=by simpa[Y,cE]using hp'
   exact hp p this (by rw[z];exact hb')
 have Dfp:D∉fp:=fun z=>by have h9:@LT.lt Nat _ D D:=hlt D z;omega
 have st1:tn 0 h₁:=T.keep 0 s.heap h₁ st fun b _ o e=>old b o e
 have loop:∀s₃:Shared,s₃={ s with heap:=h₁,toks:=s.toks+([]:List (Str×Value)).length } →
   codeAny (model X.prog X.w) X.A (.compLoop (.ListComp elt [⟨tg,iter,ifs,0⟩] sc pos) 0 (.ref it) (.ref D) Y.env) (RR (.ref D) C) s₃:=by
  rintro s₃ rfl
  obtain⟨m0,w0⟩:=w0
  refine Ee (fun n s'=>∃i ys its q H',Inv Y [(D,de its q)] (cp own.length js σ) H' s'/\Vals ys its/\ys.length<=sizeLine/\tn i s'.heap/\(∀b∈fp,H' b=none)/\W i n ys H') ?_ m0
   ⟨0,[],[],0,H,J0,.nil,Nat.zero_le _,st1,fun b hb'=>(hfp b hb').1,w0⟩
  rintro n s3 ⟨i,ys,its,q,H3,I3,rv,hz,st3,fr3,w3⟩
  have pD:∀p∈[(D,de its q)],p.1∉fp:=fun p hp=>by
   have e:p=(D,de its q):=by simpa using hp
   rw[e];exact Dfp
  rcases turn i n ys H3 w3 with⟨stop,qn⟩ | ⟨go,hlen,N,hN,step⟩
  ·-- the end
   refine au (T.done Y rfl rfl rfl hc i _ s3 _ H3 _ I3 (statF fr3 pD) st3 stop) fun r s4 ⟨hr,I4⟩=>?_
   subst hr
   show RR (.ref D) C (.ok .next) s4
   have hDp:=I4.pin (D,de its q) (List.mem_append_right _ (List.mem_singleton.mpr rfl))
   have hD4:s4.heap.get? D=some (de its q):=hDp.1
   have nD:H3 D=none:=hDp.2.1
   have U:Un (aX X.stack) fp H H3 s.heap s4.heap:=I4.base
   have neD:∀b o,s.heap.get? b=some o->b≠D:=fun b o e=>Nat.ne_of_lt (by have h9:@LT.lt Nat _ b s.heap.objs.size:=EH e;omega)
   have neDH:∀b o,H b=some o->b≠D:=fun b o e=>Nat.ne_of_lt (by have h9:@LT.lt Nat _ b s.heap.objs.size:=I.hok.lt e;omega)
   have U2:Un (aX X.stack) fp H (upd H3 D (.lst ys)) s.heap s4.heap:=
    ⟨U.keep,U.slot,fun b o e n hx=>by rw[aL (neD b o e)];exact U.free b o e n hx,U.there,fun b xs e=>by rw[aL (neDH b _ e)];exact U.tups b xs e,
     fun b o u e=>by rw[aL (neDH b _ e)];exact U.frzs b o u e,fun b ps e=>by rw[aL (neDH b _ e)];exact U.tbls b ps e⟩
   have hok2:bj X.prog X.w (upd H3 D (.lst ys)) s4.heap:=fun b o e=>by
    by_cases hb':b=D
    ·subst hb'
     rw[aY]at e
     cases e
     exact⟨hz,its,q,rv,hD4⟩
    ·rw[aL hb']at e
     exact(I4.hok b o e).stay (fun c u _ z=>z) (fun c z=>by rw[aL (cB z nD)];exact z) fun c xs z=>by rw[aL (cB z nD)];exact z
   have IX:Inv X pins σ (upd H3 D (.lst ys)) s4:=I.call' (ch:=fp) I4.os U2 hok2 I4.bare fun b hb'=>by
    obtain⟨f0,f1,f2,f3,f4,f5⟩:=hfp b hb'
    exact⟨f3,f1,f4,f5⟩
   obtain⟨m4,hn4,_⟩:=I4.loc
   have nC:H3 C=none:=I4.free
   refine fin D C s4 ys H3 nD IX ?_ ⟨m4,hn4⟩ (show @LE.le Nat _ D C by omega) (qn D nD)
   refine⟨by rw[aL (Ne.symm ndC)];exact nC,?_,?_,?_,?_,?_⟩
   ·have h9:@LT.lt Nat _ X.env.locals s.heap.objs.size:=I.lt
    exact Nat.ne_of_gt (show @LT.lt Nat _ X.env.locals C by omega)
   ·exact I.nofs (show @LE.le Nat _ s.heap.objs.size C by omega)
   ·right
    have h9:@LE.le Nat _ X.s₀.heap.objs.size s.heap.objs.size:=I.sz
    exact(show @LE.le Nat _ X.s₀.heap.objs.size C by omega)
   ·intro x c e
    have h9:@LT.lt Nat _ c s.heap.objs.size:=I.cell_lt e
    exact Nat.ne_of_lt (show @LT.lt Nat _ c C by omega)
   ·intro p hp
    have h9:@LT.lt Nat _ p.1 s.heap.objs.size:=I.pin_lt hp
    exact Nat.ne_of_lt (show @LT.lt Nat _ p.1 C by omega)
  ·-- a turn
   refine au (T.item Y rfl rfl rfl hc i _ s3 _ H3 _ I3 (statF fr3 pD) st3 go) fun r s4 ⟨u,hr,h4⟩=>?_
   subst hr
   refine au h4 fun _ s5 ⟨x,H5,I5,r5,y5,st5,fr5⟩=>?_
   have I5':=I5.pinned (statF fr5 pD) (T.obj _ _ st5)
   refine au (hg _ _ s5 _ H5 x u _ I5' r5 (step x H5 y5)) fun _ s6 ⟨σ6,H6,I6,q6⟩=>?_
   refine au (ht _ _ s6 σ6 H6 _ I6 q6) fun ok s7 ⟨H7,I7,q7⟩=>?_
   have back:∀{s':Shared} {σ':St} {H':Hp} {ys':List V} {its':List Value} {q':Nat},Inv Y ([(D,de its' q')]++eX fp s5.heap) σ' H' s'->Vals ys' its'->ys'.length<=sizeLine->N ys' H' →
     ∃m,m<n/\∃i ys its q H',Inv Y [(D,de its q)] (cp own.length js σ) H' s'/\Vals ys its/\ys.length<=sizeLine/\tn i s'.heap/\(∀b∈fp,H' b=none)/\W i m ys H':=by
    intro s' σ' H' ys' its' q' I' rv' hz' nn
    obtain⟨m',hm,w'⟩:=hN ys' H' nn
    have hpin:∀b∈fp,∀o,s5.heap.get? b=some o->s'.heap.get? b=some o/\H' b=none:=fun b hb' o e=>by
     have:=I'.pin (b,o) (List.mem_append_right _ (List.mem_append_right _ (lK hb' e)))
     exact⟨this.1,this.2.1⟩
    refine⟨m',hm,i+1,ys',its',q',H',?_,rv',hz',T.keep _ _ _ st5 fun b hb' o e=>(hpin b hb' o e).1,fun b hb'=>?_,w'⟩
    ·have I'':=I'.unpinned
     obtain⟨mm,hmm,_⟩:=id I''.loc
     refine⟨I''.ok,I''.os,I''.bare,I''.base,⟨mm,hmm,fun k x v e1 e2 e3=>?_⟩,I''.cell,I''.free,I''.freeC,I''.pin,I''.hok,?_⟩
     ·-- the captured names: their cells are as they were at the block's beginning
      obtain⟨m1,hn1,hl1⟩:=J0.loc
      obtain⟨u1,r1,l1⟩:=hl1 k x v e1 e2 e3
      refine⟨u1,r1,?_⟩
      rcases l1 with⟨z,zz⟩ | ⟨z,c,e,zz⟩
      ·-- a captured name is no local one
       exfalso
       obtain⟨k',j,rfl,ej,es⟩:=vN e2
       have e1':(own++js.map fun j=>X.N.getD j "")[own.length+k']?=some x:=e1
       rw[List.getElem?_append_right (by omega),Nat.add_sub_cancel_left,EK,ej]at e1'
       have ex:X.N.getD j "" = x:=by simpa using e1'
       have hjj:=List.all_eq_true.mp hj j (List.mem_of_getElem? ej)
       simp only[Bool.and_eq_true,decide_eq_true_eq,beq_iff_eq]at hjj
       have hfree:sc.names.lookup x=some .free:=by rw[←ex];exact hjj.2
       obtain⟨k2,z1,z2⟩:=kR (sc:=sc) (env:=X.env) (show(relabel sc X.env).names.lookup x=some .local from z)
       rw[hfree]at z1
       rcases z2 with z2 | ⟨_,z2⟩
       ·rw[z2]at z1;cases z1
       ·cases z2
      ·refine .inr ⟨z,c,e,?_⟩
       have hcs:X.env.cells.lookup x=some c:=eB I.ok hb e
       obtain⟨ov,oc,hoc,hdc⟩:=I.cell x c hcs
       have hoc1:=old c oc hoc
       obtain⟨oz,hoz,hdz⟩:=zz
       have hoz':h₁.get? c=some oz:=hoz
       rw[hoc1]at hoz'
       cases hoz'
       have cnf:c∉fp:=fun z'=>(hfp c z').2.2.2.2.1 x c hcs rfl
       obtain⟨sl,hh⟩:=I''.base.any hoc (I.freeC x c hcs) cnf
       exact⟨_,hh,hdz⟩
     ·show(cp own.length js σ).length=_
      exact J0.len
    ·obtain⟨o,e,d⟩:=T.obj _ _ st5 b hb'
     exact(hpin b hb' o e).2
   cases ok with
   | false=>
    rw[if_neg Bool.false_ne_true]at q7 ⊢
    exact back I7 rv hz q7
   | true=>
    rw[if_pos rfl]at q7 ⊢
    refine au (he _ _ s7 σ6 H7 _ I7 q7) fun xv s8 ⟨v,H8,I8,r8,q8⟩=>?_
    have hDp:=I8.pin (D,de its q) (List.mem_append_right _ (List.mem_append_left _ (List.mem_singleton.mpr rfl)))
    have hD8:s8.heap.get? D=some { cls:=.type "list",data:=.seq its.toArray q }:=hDp.1
    have hl:=rv.length
    refine call_meets F.slot_list_append ⟨_,hD8,rfl⟩ F.entry_list_append (F.args_list_append_2 _ _) (PySem.list_append D its.toArray q xv (by rw[EN];omega)) ⟨hD8,?_⟩
    have qq:=PySem.IsL.update hD8 (fun a=>a.push xv)
    have eqs:its.toArray.push xv=(its++[xv]).toArray:=by simp
    rw[eqs]at qq
    obtain⟨q2,hq2⟩:∃q2,(s8.heap.update D (Obj.mapSeq fun a=>a.push xv)).get? D=some (de (its++[xv]) q2):=⟨_,qq⟩
    -- without the pin of D,the record turns,then it is pinned again
    have I8a:Inv Y (eX fp s5.heap) σ6 H8 s8:=I8.pins_of fun p hp=>I8.pin p (List.mem_append_right _ (List.mem_append_right _ hp))
    have nD8:H8 D=none:=hDp.2.1
    have I9:Inv Y (eX fp s5.heap) σ6 H8 { s8 with heap:=s8.heap.update D (Obj.mapSeq fun a=>a.push xv),toks:=s8.toks }:=by
     refine I8a.turned (it:=D) (fun b o hb' e=>(Heap.get?_update_other s8.heap (Obj.mapSeq fun a=>a.push xv) (Ne.symm hb')).trans e) nD8 ndC (.inr (show @LE.le Nat _ s.heap.objs.size D by omega)) (fun x c e=>?_) fun p hp=>?_
     ·have h9:@LT.lt Nat _ c s.heap.objs.size:=I.cell_lt (eB I.ok hb e)
      exact Nat.ne_of_lt (show @LT.lt Nat _ c D by omega)
     ·have hp':p∈eX fp s5.heap:=by simpa[Y,cE]using hp
      obtain⟨h1,_⟩:=uo hp'
      exact fun z=>Dfp (z ▸ h1)
    refine back (ys':=ys++[v]) (its':=its++[xv]) (q':=q2) (I9.pins_of fun p hp=>?_) (rv.append (.cons r8 .nil)) (by rw[List.length_append,List.length_singleton];omega) q8
    rcases List.mem_append.mp hp with hp | hp
    ·have e:p=(D,de (its++[xv]) q2):=by simpa using hp
     subst e
     refine⟨hq2,nD8,ndC,fun z=>?_,fun v z=>by cases z⟩
     have h9:@LT.lt Nat _ D s.heap.objs.size:=I.stk_lt (b:=D) z
     omega
    ·exact I9.pin p (List.mem_append_right _ hp)
 exact codeAny_compStart_list (loop _ rfl) (T.self X.A 0 { s with heap:=h₁,toks:=s.toks+([]:List (Str×Value)).length } _ _ st1 (loop _ rfl))
theorem eZ{elt tg iter:Expr}{ifs:List Expr}{sc:Scope}{pos:Pos}(own:List Str)(js:List Nat){wi:TI}{g:TG}{tc:TT}{te:TE}(hi:PI X tg iter wi)(hg:∀z,PG (cE X sc own js z) tg g)(ht:∀z,iz (cE X sc own js z) ifs tc)
  (he:∀z,PE (cE X sc own js z) elt te) (hc:X.calm=true:=by rfl) (hk:sc.kind=.function:=by rfl) (hb:eo sc X.env.scope=true:=by rfl) (hj:kh sc X.N js=true:=by rfl)
  (hs:∀x,foldedSetIterable iter X.env x=pure x:=by intro _;rfl):PE X (.ListComp elt [⟨tg,iter,ifs,0⟩] sc pos) (ml own.length js wi g tc te):=by
 intro pins s σ H Q I h
 rw[eval_ListComp]
 refine wpAny_comprehension_free (use:=none) rfl hs (tF fun p hp hf=>I.ok.has p.1 (kD hb hp hf)) hk (fun p hp hl=>vW hb hp hl) (au (hi pins s σ H _ I h) fun v s1 h1=>au h1 fun itv s2 h2=>?_)
 obtain⟨it,fp,tn,J,H2,e,I2,T,st2,f2,W,w0,turn⟩:=h2
 subst e
 refine uk (RR:=fun acc C=>compPost (model X.prog X.w) X.A X.xe none (EP X pins σ Q) acc C) hk hb hj hc hg ht he I2 T st2 f2 w0 turn ?_
 intro D C s' ys H' nD I' hC ⟨m,hm⟩ _ q
 refine⟨m,hm,fun h' hs'=>?_⟩
 obtain⟨f0,f1,f2,f3,f4,f5⟩:=hC
 exact⟨.ref D,_,I'.turned (t':=s'.toks) (it:=C) (fun b o hb' e=>(hs'.2 b hb').trans e) f0 f1 f3 f4 f5,rfl,q⟩
theorem BZ{i:Nat}{y:Str}{py:Pos}{elt tg iter:Expr}{ifs:List Expr}{sc:Scope}{pos spos:Pos}(own:List Str)(js:List Nat){wi:TI}{g:TG}{tc:TT}{te:TE}(hN:X.N.Nodup)(hi':X.N[i]?=some y)(hx:Loc X.env.scope y)
  (hi:PI X tg iter wi) (hg:∀z,PG (cE X sc own js z) tg g) (ht:∀z,iz (cE X sc own js z) ifs tc)
  (he:∀z,PE (cE X sc own js z) elt te) (hsw:swapsWith (.ListComp elt [⟨tg,iter,ifs,0⟩] sc pos) (some (.Name y py)) spos.line X.env=pure true:=by rfl) (hc:X.calm=true:=by rfl) (hk:sc.kind=.function:=by rfl) (hb:eo sc X.env.scope=true:=by rfl) (hj:kh sc X.N js=true:=by rfl)
  (hs:∀x,foldedSetIterable iter X.env x=pure x:=by intro _;rfl) (hf:X.fn y=true\/X.env.scope.names.lookup y=some .local:=by first | exact .inl rfl | exact .inr rfl | assumption) :
  PS X (.Assign [.Name y py] (.ListComp elt [⟨tg,iter,ifs,0⟩] sc pos) spos) (jr (ml own.length js wi g tc te) (iR i)):=by
 intro pins s σ H D' I h
 rw[exec_Assign_Name_used _ _ _ _ hsw]
 refine EC (wpAny_standAt (EC ?_))
 show wpAny _ X.A (do let _ ←comprehension (.ListComp elt [⟨tg,iter,ifs,0⟩] sc pos) sc X.env _ (newList []) false (eval iter X.env) (some (assign (.Name y py) X.env))) _ _ s
 refine EC (wpAny_mono (wpAny_comprehension_free (use:=some (assign (.Name y py) X.env)) (Q:=fun _ s'=>SP X pins D' .next s') rfl hs (tF fun p hp hf=>I.ok.has p.1 (kD hb hp hf)) hk (fun p hp hl=>vW hb hp hl)
  (au (hi pins s σ H _ I h) fun v s1 h1=>au h1 fun itv s2 h2=>?_)) (fun _ s' hq=>ED (ED hq)) fun _ _ e=>e)
 obtain⟨it,fp,tn,J,H2,e,I2,T,st2,f2,W,w0,turn⟩:=h2
 subst e
 refine uk (Q:=fun x H1=>iR i x σ H1 D'.nx) (RR:=fun acc C=>compPost (model X.prog X.w) X.A X.xe (some (assign (.Name y py) X.env)) (fun _ s'=>SP X pins D' .next s') acc C) hk hb hj hc hg ht he I2 T st2 f2 w0 turn ?_
 intro D C s' ys H' nD I' hC ⟨m,hm⟩ hCs q
 show wpAny _ X.A (assign (.Name y py) X.env (.ref D)) _ _ _
 refine wpAny_assign_Name (sF I' hN hi' hx (v:=.ref D) rfl (fun s'' I'' ⟨a,hsb,ha⟩=>?_) hf)
 obtain⟨f0,f1,f2,f3,f4,f5⟩:=hC
 have hac:a≠C:=by
  rcases ha with rfl | ha
  ·exact Ne.symm f1
  ·exact f4 y a ha
 refine⟨m,hm.sameBut hsb (Ne.symm hac),fun h' hs'=>?_⟩
 exact⟨_,_,I''.turned (t':=s''.toks) (it:=C) (fun b o hb' e=>(hs'.2 b hb').trans e) f0 f1 f3 f4 f5,q⟩
end
theorem vC{K:EE}{a:Addr}{xs:List V}{n:Nat}{js:List Nat}{g:TG}{tc:TT}{te:TE}{Q:VK}{σ:St}{H:Hp}(Pv:Nat->List V->Hp->Prop)(hz:xs.length<=sizeLine)(h0:Pv 0 [] H)(hl:∀i ys H,i<=xs.length->Pv i ys H->ag K H a xs/\ys.length<=i)
  (hs:∀i x ys H,xs[i]?=some x->Pv i ys H->g x (cp n js σ) H fun σ2 H3=>tc σ2 H3 fun b H4=>if b=true then te σ2 H4 fun v H5=>Pv (i+1) (ys++[v]) H5 else Pv (i+1) ys H4)
  (hd:∀ys H p,Pv xs.length ys H->H p=none->Q (.ref p) (upd H p (.lst ys))):fG (b6 K a) n js g tc te σ H Q:=by
 refine⟨fun i m ys H=>m=xs.length-i/\i<=xs.length/\Pv i ys H,⟨xs.length,by simp,Nat.zero_le _,h0⟩,?_⟩
 rintro i m ys H ⟨rfl,hi,p⟩
 have q:=hl i ys H hi p
 by_cases hlt:i<xs.length
 ·refine .inr ⟨⟨xs,xs[i],q.1,by simp[hlt]⟩,by have:=q.2;omega,Pv (i+1),fun ys' H' p'=>⟨xs.length-(i+1),by omega,rfl,hlt,p'⟩,fun x H' y=>?_⟩
  obtain⟨e,y⟩:=y
  subst e
  exact hs i x ys _ (y xs q.1) p
 ·have e:i=xs.length:=by omega
  subst e
  exact .inl ⟨⟨xs,q.1,Nat.le_refl _⟩,fun p' hp=>hd ys H p' p hp⟩
theorem lh{K:EE}{a:Addr}{xs:List V}{n:Nat}{js:List Nat}{g:TG}{tc:TT}{te:TE}{Q:VK}{σ:St}{H:Hp}(Pv:Nat->List V->Hp->Prop)(hz:xs.length<=sizeLine)(h0:Pv 0 [] H)(hl:∀i ys H,i<=xs.length->Pv i ys H->aj K H a xs/\ys.length<=i)
  (hs:∀i x ys H,xs[i]?=some x->Pv i ys H->g x (cp n js σ) H fun σ2 H3=>tc σ2 H3 fun b H4=>if b=true then te σ2 H4 fun v H5=>Pv (i+1) (ys++[v]) H5 else Pv (i+1) ys H4)
  (hd:∀ys H p,Pv xs.length ys H->H p=none->Q (.ref p) (upd H p (.lst ys))):fG (bT K a) n js g tc te σ H Q:=by
 refine⟨fun i m ys H=>m=xs.length-i/\i<=xs.length/\Pv i ys H,⟨xs.length,by simp,Nat.zero_le _,h0⟩,?_⟩
 rintro i m ys H ⟨rfl,hi,p⟩
 have q:=hl i ys H hi p
 by_cases hlt:i<xs.length
 ·refine .inr ⟨⟨xs,xs[i],q.1,by simp[hlt]⟩,by have:=q.2;omega,Pv (i+1),fun ys' H' p'=>⟨xs.length-(i+1),by omega,rfl,hlt,p'⟩,fun x H' y=>?_⟩
  obtain⟨e,y⟩:=y
  subst e
  exact hs i x ys _ (y xs q.1) p
 ·have e:i=xs.length:=by omega
  subst e
  exact .inl ⟨⟨xs,q.1,Nat.le_refl _⟩,fun p' hp=>hd ys H p' p hp⟩
theorem oq{lo:Int}{N n:Nat}{js:List Nat}{g:TG}{tc:TT}{te:TE}{Q:VK}{σ:St}{H:Hp}(Pv:Nat->List V->Hp->Prop)(hz:N<=sizeLine)(h0:Pv 0 [] H)(hl:∀i ys H,i<=N->Pv i ys H->ys.length<=i)
  (hs:∀i ys H,i<N->Pv i ys H->g (.int (lo+i)) (cp n js σ) H fun σ2 H3=>tc σ2 H3 fun b H4=>if b=true then te σ2 H4 fun v H5=>Pv (i+1) (ys++[v]) H5 else Pv (i+1) ys H4)
  (hd:∀ys H p,Pv N ys H->H p=none->Q (.ref p) (upd H p (.lst ys))):fG (dI lo N) n js g tc te σ H Q:=by
 refine⟨fun i m ys H=>m=N-i/\i<=N/\Pv i ys H,⟨N,by simp,Nat.zero_le _,h0⟩,?_⟩
 rintro i m ys H ⟨rfl,hi,p⟩
 have q:=hl i ys H hi p
 by_cases hlt:i<N
 ·refine .inr ⟨hlt,by omega,Pv (i+1),fun ys' H' p'=>⟨N-(i+1),by omega,rfl,hlt,p'⟩,fun x H' y=>?_⟩
  obtain⟨e,y⟩:=y
  subst e y
  exact hs i ys _ hlt p
 ·have e:i=N:=by omega
  subst e
  exact .inl ⟨Nat.le_refl _,fun p' hp=>hd ys H p' p hp⟩
end L2
namespace L2
open PySem PySem.Spec PyProof.Rows
structure Cal(P:Program)(w:World)(K:EE)(mg:Str->Option Value)(base:Heap)(x:Str)(k:Nat)(ps:List Str)(sp:Sp):Prop where
 ex:∃(f:Addr) (fd:FuncData),mg x=some (.ref f)/\PySem.W.keepIn K (.ref f)=true/\Binds K fd ps []/\FnOk P w K mg base eP k f fd ps sp
structure Dfn(K:EE)(mg:Str->Option Value)(x:Str)(st:Stmt)(ps:List Str):Prop where
 ex:∃(f:Addr) (fd:FuncData),mg x=some (.ref f)/\Fun K x x st f fd/\Binds K fd ps []
section
variable {P:Program} {w:World} {K:EE} {mg:Str->Option Value} {base:Heap}
theorem Dfn.ok{x:Str}{st:Stmt}{N ps:List Str}{k:Nat}{sp:Sp}(D:Dfn K mg x st ps)(S:FnScope N ps (aG st))(len:∀vs H Q E,sp vs H Q E->vs.length=ps.length)
  (hbody:∀(X:Cx) (hX:∃f cdv A outer s H E,X=(bA eP P w K mg base N x (aG st) f cdv A outer s H E).nox/\Room k X.A) (H:Hp) (vs:List V) (Q:VK) (E:XK),sp vs H Q E →
   ∃t,b9 X (dS st) t/\t { nx:=fun _ H'=>Q .non H',rt:=Q } (start N vs) H):Cal P w K mg base x (k+1) ps sp:=by
 obtain⟨f,fd,hm,F,hb⟩:=D.ex
 exact⟨f,fd,hm,F.kp,hb,F.ok S len fun cdv A outer s H vs Q E hr h=>hbody _ ⟨f,cdv,A,outer,s,H,E,rfl,hr⟩ H vs Q E h⟩
end
section
variable {X:Cx}
theorem az{x:Str}{k j:Nat}{ps:List Str}{sp:Sp}{e:Expr}{es:List Expr}{t:TA}{p pos:Pos}(C:Cal X.prog X.w X.K X.mg X.base x j ps sp)(hr:Room k X.A)(ha:PA X (e::es) t)(hjk:j<=k:=by decide)(hg:Gl X x:=by rfl)(hdb:(x == ("__debug__":Str))=false:=by decide)
  (he:starEach (e::es) X.env=(false,eval e X.env)::starEach es X.env:=by rfl) (hpl:(backTo pos (starEach es X.env)).any (·.1)=false:=by rfl) :
  PE X (.Call (.Name x p) (e::es) [] pos) (kT sp [] E0 t):=by
 obtain⟨f,fd,hm,hk,hb,F⟩:=C.ex
 exact oG F (hr.mono hjk) hg hm hk hb .nil x9 ha hdb he hpl
theorem lI:aZ X (binaryOp .FloorDiv) (rI (fun _ j=>0<j/\j<2 ^ 64) fun i j=>.int (i / j)):=gQ fun i j _ _ _ _ _ hc q=>by
 have h1:(0:Int)<j:=hc.1
 have h2:j<2 ^ 64:=hc.2
 refine floordiv_int (by omega) (by rw[Int.fdiv_eq_ediv_of_nonneg i (by omega)];exact q) (.inl (PyProof.noPylong_of_log2 ?_))
 have h0:j.natAbs≠0:=by omega
 have h64:j.natAbs<2 ^ 64:=by omega
 have:=(Nat.log2_lt h0).mpr h64
 omega
def dv(H:Hp):V->String->Prop
 | .non,n=>n = "NoneType"
 | .bl _,n=>n = "bool"
 | .int _,n=>n = "int"
 | .str _,n=>n = "str"
 | .ref a,n=>(n = "list"/\∃xs,H a=some (.lst xs))\/(n = "tuple"/\∃xs,H a=some (.tup xs))
 | _,_=>False
theorem dv.ty{K:EE}{H:Hp}{x:V}{n:String}(h:dv H x n):TyOf K H x (.type n):=by
 cases x with
 | non=>cases(show n = "NoneType" from h);exact .non
 | bl b=>cases(show n = "bool" from h);exact .bl b
 | int i=>cases(show n = "int" from h);exact .int i
 | str z=>cases(show n = "str" from h);exact .str z
 | ref a=>
  rcases h with⟨rfl,xs,e⟩ | ⟨rfl,xs,e⟩
  ·exact .lst e
  ·exact .tup e
 | _=>exact False.elim h
def fo:String->String->Option Bool
 | "NoneType","tuple"=>some false | "NoneType","int"=>some false | "NoneType","bool"=>some false | "NoneType","list"=>some false | "NoneType","str"=>some false
 | "bool","tuple"=>some false | "bool","int"=>some true | "bool","bool"=>some true | "bool","list"=>some false | "bool","str"=>some false
 | "int","tuple"=>some false | "int","int"=>some true | "int","bool"=>some false | "int","list"=>some false | "int","str"=>some false
 | "str","tuple"=>some false | "str","int"=>some false | "str","bool"=>some false | "str","list"=>some false | "str","str"=>some true
 | "list","tuple"=>some false | "list","int"=>some false | "list","bool"=>some false | "list","list"=>some true | "list","str"=>some false
 | "tuple","tuple"=>some true | "tuple","int"=>some false | "tuple","bool"=>some false | "tuple","list"=>some false | "tuple","str"=>some false
 | _,_=>none
theorem yz{K:EE}{n T:String}{b:Bool}(h:fo n T=some b):PySem.W.kitOne K (.type n) (.type T)=some b:=by
 unfold fo at h
 split at h<;>first
  | (cases h;kernel_rfl)
  | cases h
def sL:List V->Hp->VK->Prop:=fun xs H Q=>∃x n T b,xs=[x,.ty T]/\dv H x n/\fo n T=some b/\Q (.bl b) H
theorem fN:bI X (.builtin "isinstance") sL:=by
 intro pins s σ H xs us Q I r h
 obtain⟨x,n,T,b,rfl,hk,hb,q⟩:=h
 obtain⟨u,w',rfl,r1,r2⟩:=vals2 r
 cases(show w'=Value.type T from r2)
 exact Dm I r1 hk.ty (yz hb) fun tk=>⟨.bl b,H,I.tok tk,rfl,q⟩
def eT(lo c:Int)(n:Nat):It:=⟨fun i _=>i<n,fun i H x H'=>H'=H/\x=.int (lo+i*c),fun i _=>n<=i⟩
theorem DY{P:Program}{w:World}{K:EE}{tg:Expr}(it:Addr)(lo c:Int)(n:Nat):Turn P w K tg (eT lo c n) [it] it (fun i h=>IsRangeIter h it (lo+(i:Nat)*c) ((n:Int)-(i:Nat)) c) where
 mem:=by simp
 obj:=fun i h st b hb=>by
  have e:b=it:=by simpa using hb
  subst e
  exact⟨_,st,fun v z=>by
   have z':Data.fields _=Data.cell v:=z
   cases z'⟩
 keep:=fun i h h' st k=>k it (by simp) _ st
 item:=by
  intro X hP hw hK hc i pins s σ H E I hf st hg
  subst hP hw hK
  obtain⟨f0,f1,f2,f3,f4,f5⟩:=hf it (by simp)
  have W:=Walks.range (prog:=X.prog) (w:=X.w) (I.ok.hd hc) it lo c n
  refine W.item i s _ _ hg st fun v h' tk hv st' kk=>?_
  obtain⟨t,rfl⟩:=hv
  have I1:Inv X pins σ H { s with heap:=h',toks:=tk }:=I.turned (fun b o hb e=>kk b o (by simpa using hb) e) f0 f1 f3 f4 f5
  exact⟨_,rfl,iT (s:={ s with heap:=h',toks:=tk }) (n:="range_iterator") st' rfl rfl (by decide) ⟨.int (lo+i*c),H,I1,⟨t,rfl⟩,⟨rfl,rfl⟩,st',fun b hb=>(hf b hb).1⟩⟩
 done:=by
  intro X hP hw hK hc i pins s σ H E I hf st hg
  subst hP hw hK
  obtain⟨f0,f1,f2,f3,f4,f5⟩:=hf it (by simp)
  exact wpAny_pyNext_range_end (I.ok.hd hc) st (by have:n<=i:=hg;omega) fun h' eb=>⟨rfl,I.turned (t':=s.toks) (fun b o hb e=>eb b o hb e) f0 f1 f3 f4 f5⟩
 self:=fun _ _ _ _ _ st h=>wpAny_pyIter_rangeiter st h
def iB(i j c:Int):Prop:=(-(2 ^ 40)<=i/\i<2 ^ 40)/\(-(2 ^ 40)<=j/\j<2 ^ 40)/\(-(2 ^ 29)<c/\c<2 ^ 29)/\c≠0
def dQ(i j c:Int):Nat:=if 0<c then(if i<j then((j-i-1) / c+1).toNat else 0)else(if j<i then((i-j-1) / (-c)+1).toNat else 0)
theorem yG(i j c:Int)(hc:c≠0):Builtin.Range.rangeSize i j c=(dQ i j c:Nat):=by
 unfold Builtin.Range.rangeSize dQ
 by_cases h:0<c
 ·rw[if_pos h,if_pos h]
  by_cases h2:i<j
  ·rw[if_pos h2,if_pos h2]
   have:0<=(j-i-1) / c:=Int.ediv_nonneg (by omega) (by omega)
   omega
  ·rw[if_neg h2,if_neg h2];rfl
 ·rw[if_neg h,if_neg h]
  by_cases h2:j<i
  ·rw[if_pos (show i>j from h2),if_pos h2]
   have:0<=(i-j-1) / (-c):=Int.ediv_nonneg (by omega) (by omega)
   omega
  ·rw[if_neg (show ¬i>j from h2),if_neg h2];rfl
theorem BN{i j c:Int}(h:iB i j c):Builtin.Range.small i j c=true:=by
 obtain⟨⟨h1,h2⟩,⟨h3,h4⟩,⟨h5,h6⟩,h0⟩:=h
 have hb:Builtin.Range.rangeSize i j c<=2 ^ 42/\0<=Builtin.Range.rangeSize i j c:=by
  unfold Builtin.Range.rangeSize
  by_cases hc:c>0
  ·rw[if_pos hc]
   by_cases h':i<j
   ·rw[if_pos h']
    have e1:(j-i-1) / c<=j-i-1:=Int.ediv_le_self _ (by omega)
    have e2:0<=(j-i-1) / c:=Int.ediv_nonneg (by omega) (by omega)
    omega
   ·rw[if_neg h'];omega
  ·rw[if_neg hc]
   by_cases h':i>j
   ·rw[if_pos h']
    have e1:(i-j-1) / (-c)<=i-j-1:=Int.ediv_le_self _ (by omega)
    have e2:0<=(i-j-1) / (-c):=Int.ediv_nonneg (by omega) (by omega)
    omega
   ·rw[if_neg h'];omega
 unfold Builtin.Range.small
 generalize Builtin.Range.rangeSize i j c=z at hb ⊢
 have f:∀x:Int,-(2 ^ 62)<=x->x<2 ^ 62->Builtin.Range.rangeFitsLong x=true:=fun x h1 h2=>by
  unfold Builtin.Range.rangeFitsLong
  rw[decide_eq_true (show -(2 ^ 63)<=x by omega),decide_eq_true (show x<2 ^ 63 by omega)]
  rfl
 rw[f i (by omega) (by omega),f j (by omega) (by omega),f c (by omega) (by omega),f z (by omega) (by omega)]
 by_cases hc:c>0
 ·rw[if_pos hc,f (j+(c-1)) (by omega) (by omega),Bool.or_true];rfl
 ·rw[if_neg hc,f (j+(c+1)) (by omega) (by omega),Bool.or_true];rfl
def vQ(ta:TA):TI:=fun σ H R=>ta σ H fun vs H1=>∃i j c:Int,vs=[.int i,.int j,.int c]/\iB i j c/\R (eT i c (dQ i j c)) H1
theorem xc{tg a b c:Expr}{ta:TA}{p pos:Pos}(hg:Gl X "range")(hm:X.mg "range" = none)(ha:PA X [a,b,c] ta)(hs:starEach [a,b,c] X.env=[(false,eval a X.env),(false,eval b X.env),(false,eval c X.env)]:=by rfl)
  (hs2:starEach [b,c] X.env=[(false,eval b X.env),(false,eval c X.env)]:=by rfl) :
  PI X tg (.Call (.Name "range" p) [a,b,c] [] pos) (vQ ta):=by
 intro pins s σ H R I h
 refine Call_ (eJ I hg hm boot_range (PyProof.Rows.callWith_type1 (au (ha pos pins s σ H _ I h) fun us s1 ⟨vs,H1,I1,r1,q1⟩=>?_) (by rw[hs,hs2]) (by rw[hs2];rfl)))
 obtain⟨i,j,c,e,hsm,q⟩:=q1
 subst e
 cases r1 with
 | cons r rr=>
  cases rr with
  | cons r' rr=>
   cases rr with
   | cons r'' rr=>
    cases rr
    obtain⟨t,rfl⟩:=r
    obtain⟨t',rfl⟩:=r'
    obtain⟨t'',rfl⟩:=r''
    have h0:c≠0:=hsm.2.2.2
    have h5:c.natAbs<1073741824:=by have:=hsm.2.2.1;omega
    refine call_range_3 h0 ?_ (.inl (PyProof.noPylong_small h5))
    refine wpAny_pyIter_range (IsRange.new ..) (BN hsm) ?_
    have I2:Inv X pins σ H1 { s1 with heap:=s1.heap.push { cls:=.type "range",data:=.fields #[.int i t,.int j t',.int c t''] },toks:=s1.toks }:=I1.kept fun b o e=>EF _ e
    refine⟨_,[_],_,_,H1,rfl,I2.kept (t':=s1.toks) fun b o e=>EF _ e,DY _ i c (dQ i j c),?_,fun b hb=>?_,q⟩
    ·show IsRangeIter _ _ (i+((0:Nat):Int)*c) (((dQ i j c:Nat):Int)-((0:Nat):Int)) c
     rw[show i+((0:Nat):Int)*c=i by simp,show ((dQ i j c:Nat):Int)-((0:Nat):Int)=Builtin.Range.rangeSize i j c by rw[yG i j c h0];simp]
     exact EG _ rfl
    ·have e:=List.mem_singleton.mp hb
     subst e
     exact I2.fpOk (Nat.le_refl _) (I2.hok.fresh (Nat.le_refl _))
theorem xf{lo c:Int}{n:Nat}{g:TG}{tb:TS}{D:Ends}{σ:St}{H:Hp}(Pv:Nat->St->Hp->Prop)(h0:Pv 0 σ H)
  (hs:∀i σ H,i<n->Pv i σ H->g (.int (lo+i*c)) σ H fun σ2 H2=>tb { D with nx:=Pv (i+1),ct:=Pv (i+1),bk:=D.nx } σ2 H2) (hd:∀σ H,Pv n σ H->D.nx σ H) :
  ∃W:Nat->Nat->St->Hp->Prop,(∃m,W 0 m σ H)/\∀i m σ H,W i m σ H →
   ((eT lo c n).stop i H/\D.nx σ H)\/((eT lo c n).go i H/\∃N:St->Hp->Prop,(∀σ' H',N σ' H'->∃m',m'<m/\W (i+1) m' σ' H')/\∀x H',(eT lo c n).yld i H x H'->g x σ H' fun σ2 H2=>tb { D with nx:=N,ct:=N,bk:=D.nx } σ2 H2):=by
 refine⟨fun i m σ H=>m=n-i/\i<=n/\Pv i σ H,⟨n,by simp,Nat.zero_le _,h0⟩,?_⟩
 rintro i m σ H ⟨rfl,hi,p⟩
 by_cases hlt:i<n
 ·refine .inr ⟨hlt,Pv (i+1),fun σ' H' p'=>⟨n-(i+1),by omega,rfl,hlt,p'⟩,fun x H' y=>?_⟩
  obtain⟨e,y⟩:=y
  subst e y
  exact hs i σ _ hlt p
 ·have e:i=n:=by omega
  subst e
  exact .inl ⟨Nat.le_refl _,hd σ H p⟩
theorem ug{k:Bool}:∀{bs:List Bool} {us:List Value},Vals (bs.map V.bl) us->us.countP (fM (.bl k))=bs.countP (· == k)
 | [],us,r=>by cases r;rfl
 | b::bs,us,r=>by
  cases r with
  | cons r t=>
   cases r
   rw[List.countP_cons,List.countP_cons,ug t]
   rfl
def sC(K:EE):V->List V->Hp->VK->Prop:=fun x xs H Q=>∃(p:Addr) (bs:List Bool) (k:Bool),x=.ref p/\xs=[.bl k]/\ag K H p (bs.map V.bl)/\Q (.int ((bs.countP (· == k):Nat):Int)) H
theorem Av:ic X "list.count" (sC X.K):=by
 intro pins s σ H x xs v us Q I rx rv h
 obtain⟨p,bs,k,rfl,rfl,hq,q⟩:=h
 cases rx
 obtain⟨u,rfl,ru⟩:=rv.one
 cases ru
 obtain⟨its,r,pl,hz⟩:=I.list hq
 obtain⟨⟨cls,dd,data,sl⟩,n,ho,hc,hdd,hd⟩:=id pl
 simp only at hc hd hdd
 subst hc hd hdd
 refine call_meets PySem.F.slot_list_count ⟨_,ho,rfl⟩ PySem.F.entry_list_count (PySem.F.args_list_count_2 _ _) (SeqAt.list_countAt p its.toArray n none sl (.bool k) (fM (.bl k)))
  ⟨ho,fun y hy=>lG (x:=.bl k) rfl rfl r (by rw[List.all_map,List.all_eq_true];intro x _;rfl) y (by simpa using hy),?_⟩
 refine⟨.int _,H,I.tok _,⟨_,rfl⟩,?_⟩
 have e:its.toArray.toList.countP (fM (.bl k))=bs.countP (· == k):=ug r
 rw[e]
 exact q
def ke(K:EE):List V->Hp->VK->Prop:=fun xs H Q=>∃p ys,xs=[.ref p]/\(ag K H p ys\/aj K H p ys)/\Q (.int ys.length) H
theorem Ce:bI X (.builtin "len") (ke X.K):=yw
def nX(K:EE):List V->Hp->VK->Prop:=fun xs H Q=>∃p ys,xs=[.ref p]/\((ag K H p ys/\∀l,H l=none->Q (.ref l) (upd H l (.tup ys)))\/(aj K H p ys/\Q (.ref p) H))
theorem yj:bI X (.type "tuple") (nX X.K):=yr
def lD(K:EE):List V->Hp->VK->Prop:=fun xs H Q=>∃p ys,xs=[.ref p]/\(ag K H p ys\/aj K H p ys)/\∀l,H l=none->Q (.ref l) (upd H l (.lst ys))
theorem CF:bI X (.type "list") (lD X.K):=En
def rl:List V->Hp->VK->Prop:=fun xs H Q=>∃i j,xs=[.int i,.int j]/\Q (.int (if j>i then j else i)) H
theorem AZ(hc:X.calm=true):bI X (.builtin "max") rl:=yO hc
end
end L2
namespace L2
open PySem PySem.Spec PyProof.Rows
def Ext(H H':Hp):Prop:=∀b o,H b=some o->H' b=some o
theorem Ext.rfl'(H:Hp):Ext H H:=fun _ _ h=>h
theorem Ext.trans{H H1 H2:Hp}(a:Ext H H1)(b:Ext H1 H2):Ext H H2:=fun x o h=>b x o (a x o h)
theorem Ext.none{H H':Hp}(e:Ext H H'){l:Addr}(h:H' l=Option.none):H l=Option.none:=by
 cases q:H l with
 | none=>rfl
 | some o=>rw[e l o q]at h;cases h
section
variable {X:Cx} (K:EE)
theorem aJ(h:X.K=K:=by rfl):gN X (nA K):=by subst h;exact xt
theorem ay(h:X.K=K:=by rfl):gN X (nL K):=by subst h;exact DB
theorem vS(h:X.K=K:=by rfl):iD X (mH K):=by subst h;exact xw
theorem cG(h:X.K=K:=by rfl):bI X (.builtin "len") (ke K):=by subst h;exact Ce
theorem nP(h:X.K=K:=by rfl):bI X (.type "tuple") (nX K):=by subst h;exact yj
theorem xx(h:X.K=K:=by rfl):bI X (.type "list") (lD K):=by subst h;exact CF
theorem zJ(h:X.K=K:=by rfl):ic X "list.count" (sC K):=by subst h;exact Av
theorem dH{tg l:Expr}{tl:TE}(hl:PE X l tl)(h:X.K=K:=by rfl):PI X tg l (og K tl):=by subst h;exact xZ hl
theorem jH{tg l:Expr}{tl:TE}(hl:PE X l tl)(h:X.K=K:=by rfl):PI X tg l (mD K tl):=by subst h;exact yE hl
theorem gf{es:List Expr}{k:Nat}{t:cV}{n:Nat}{pos:Pos}(hc:X.calm=true)(hg:gU X es t)(h:X.K=K:=by rfl)
  (hn:(assignEach es X.env).length=n:=by rfl) (hst:(assignEach es X.env).findIdx? (·.1)=none:=by rfl):PG X (.Tuple es k pos) (nF K n t):=by subst h;exact zm hc hg hn hst
theorem bE{o e:Expr}{es:List Expr}{to:TE}{t:TA}{name:Str}{apos cpos:Pos}{T id:String}{r:V->List V->Hp->VK->Prop}(pa:PlainAttrs T)(slot:Slot T name id)(hty:typeOf (.builtin id)=pure (.type "method_descriptor"))(hm:ic X id r)(ho:PE X o to)(ha:PA X (e::es) t)(h:X.K=K:=by rfl)
  (hbase:attributeBase o name X.env (eval o X.env)=eval o X.env:=by rfl)
  (hfew:((backTo cpos (starEach (e::es) X.env)).all (fun x=>!x.1) && (backToKw cpos (keywordEach [] X.env)).all (fun x=>x.1.isSome)
   && decide ((e::es).length+([]:List Keyword).length+(if([]:List Keyword).isEmpty then 0 else 1)<30))=true:=by rfl)
  (hline:(apos.endLine == cpos.line)=true:=by rfl) (hs:starEach (e::es) X.env=(false,eval e X.env)::starEach es X.env:=by rfl) (hplain:(backTo cpos (starEach es X.env)).any (·.1)=false:=by rfl) :
  PE X (.Call (.Attribute o name apos) (e::es) [] cpos) (lq K T r to t):=by subst h;exact CJ pa slot hty hm ho ha hbase hfew hline hs hplain
end
def uW(ns:List Int):TA:=fun _ H Q=>Q (ns.map V.int) H
inductive IntsE:List Expr->List Int->Prop
 | n:IntsE [] []
 | c {i j pos es ns}:IntsE es ns->IntsE (.Constant (.int i) j pos::es) (i::ns)
theorem iI{X:Cx}{es:List Expr}{ns:List Int}(h:IntsE es ns):PA X es (uW ns):=by
 induction h with
 | n=>exact af
 | @c i j pos es ns _ ih=>
  intro p pins s σ H Q I hq
  exact aa (e:=.Constant (.int i) j pos) ae ih rfl p pins s σ H Q I hq
theorem rd_ints{σ:St}{H:Hp}{ns:List Int}{R:List V->Hp->Prop}(h:R (ns.map V.int) H):uW ns σ H R:=h
def nt(c:TT)(t u:TS):TS:=fun D σ H=>∃R:St->Hp->Prop,(c σ H fun b H1=>if b=true then t { D with nx:=R } σ H1 else u { D with nx:=R } σ H1)/\∀σ' H',R σ' H'->D.nx σ' H'
theorem dG{X:Cx}{c:Expr}{a b:List Stmt}{tc:TT}{t u:TS}{pos:Pos}(hc:PT X c tc)(ha:b9 X a t)(hb:b9 X b u):PS X (.If c a b pos) (nt tc t u):=by
 intro pins s σ H D I h
 obtain⟨R,h,hR⟩:=h
 refine au (br hc ha hb pins s σ H { D with nx:=R } I h) fun f s1 q=>?_
 cases f with
 | next=>
  obtain⟨σ',H',I',q⟩:=q
  exact⟨σ',H',I',hR σ' H' q⟩
 | ret v=>exact q
 | brk=>exact q
 | cont=>exact q
def qv(K:EE):V->Hp->(It->Hp->Prop)->Prop:=fun x H R=>∃a,x=.ref a/\(∃xs,ag K H a xs)/\R (b6 K a) H
def oT(K:EE):V->Hp->(It->Hp->Prop)->Prop:=fun x H R=>∃a,x=.ref a/\(∃xs,aj K H a xs)/\R (bT K a) H
def pq:List V->Hp->(It->Hp->Prop)->Prop:=fun vs H R=>∃j:Int,vs=[.int j]/\-(2 ^ 62)<=j/\j<2 ^ 62/\R (dI 0 j.toNat) H
def v9:List V->Hp->(It->Hp->Prop)->Prop:=fun vs H R=>∃i j c:Int,vs=[.int i,.int j,.int c]/\iB i j c/\R (eT i c (dQ i j c)) H
def eQ(J:It)(g:TG)(tb:TS)(D:Ends)(σ:St)(H:Hp):Prop:=∃W:Nat->Nat->St->Hp->Prop,(∃m,W 0 m σ H)/\∀i m σ H,W i m σ H →
 (J.stop i H/\D.nx σ H)\/(J.go i H/\∃N:St->Hp->Prop,(∀σ' H',N σ' H'->∃m',m'<m/\W (i+1) m' σ' H')/\∀x H',J.yld i H x H'->g x σ H' fun σ2 H2=>tb { D with nx:=N,ct:=N,bk:=D.nx } σ2 H2)
theorem forL{K:EE}{a:Addr}{xs:List V}{g:TG}{tb:TS}{D:Ends}{σ:St}{H:Hp}(Pv:Nat->St->Hp->Prop)(h0:Pv 0 σ H)(hl:∀i σ H,i<=xs.length->Pv i σ H->ag K H a xs)
  (hs:∀i x σ H,xs[i]?=some x->Pv i σ H->g x σ H fun σ2 H2=>tb ⟨Pv (i+1),D.rt,D.nx,Pv (i+1)⟩ σ2 H2) (hd:∀σ H,Pv xs.length σ H->D.nx σ H):eQ (b6 K a) g tb D σ H:=Co Pv h0 hl hs hd
theorem wU{K:EE}{a:Addr}{xs:List V}{g:TG}{tb:TS}{D:Ends}{σ:St}{H:Hp}(Pv:Nat->St->Hp->Prop)(h0:Pv 0 σ H)(hl:∀i σ H,i<=xs.length->Pv i σ H->aj K H a xs)
  (hs:∀i x σ H,xs[i]?=some x->Pv i σ H->g x σ H fun σ2 H2=>tb ⟨Pv (i+1),D.rt,D.nx,Pv (i+1)⟩ σ2 H2) (hd:∀σ H,Pv xs.length σ H->D.nx σ H):eQ (bT K a) g tb D σ H:=Bg Pv h0 hl hs hd
theorem forR{lo:Int}{n:Nat}{g:TG}{tb:TS}{D:Ends}{σ:St}{H:Hp}(Pv:Nat->St->Hp->Prop)(h0:Pv 0 σ H)
  (hs:∀i σ H,i<n->Pv i σ H->g (.int (lo+i)) σ H fun σ2 H2=>tb ⟨Pv (i+1),D.rt,D.nx,Pv (i+1)⟩ σ2 H2) (hd:∀σ H,Pv n σ H->D.nx σ H):eQ (dI lo n) g tb D σ H:=CM Pv h0 hs hd
theorem Eg{lo c:Int}{n:Nat}{g:TG}{tb:TS}{D:Ends}{σ:St}{H:Hp}(Pv:Nat->St->Hp->Prop)(h0:Pv 0 σ H)
  (hs:∀i σ H,i<n->Pv i σ H->g (.int (lo+i*c)) σ H fun σ2 H2=>tb ⟨Pv (i+1),D.rt,D.nx,Pv (i+1)⟩ σ2 H2) (hd:∀σ H,Pv n σ H->D.nx σ H):eQ (eT lo c n) g tb D σ H:=xf Pv h0 hs hd
def dO(H:Hp)(o:HO)(R:VK):Prop:=∀p,H p=none->R (.ref p) (upd H p o)
section
variable {K:EE} {D:Ends} {σ:St} {H:Hp} {Q:VK} {ta tb tc te:TE} {t u:TS} {c c':TT}
theorem rd_seq(h:t ⟨u D,D.rt,D.bk,D.ct⟩ σ H):tX t u D σ H:=h
theorem rd_next(h:D.nx σ H):tD D σ H:=h
theorem rd_ret(h:te σ H D.rt):uY te D σ H:=h
theorem rd_asg{g:TG}(h:te σ H fun x H1=>g x σ H1 D.nx):jr te g D σ H:=h
theorem rd_drop(h:te σ H fun _ H1=>D.nx σ H1):o6 te D σ H:=h
theorem rd_ifS(h:c σ H fun b H1=>if b=true then t D σ H1 else u D σ H1):pB c t u D σ H:=h
theorem iO(R:St->Hp->Prop)(h:c σ H fun b H1=>if b=true then t ⟨R,D.rt,D.bk,D.ct⟩ σ H1 else u ⟨R,D.rt,D.bk,D.ct⟩ σ H1)(k:∀σ' H',R σ' H'->D.nx σ' H'):nt c t u D σ H:=⟨R,h,k⟩
theorem eV(h:c σ H fun b H1=>if b=true then t D σ H1 else u D σ H1):nt c t u D σ H:=⟨D.nx,h,fun _ _ h=>h⟩
theorem rd_name{i:Nat}{v:V}{R:St->Hp->Prop}(h:R (σ.set i (some v)) H):iR i v σ H R:=h
theorem rd_var{i:Nat}{v:V}(e:σ[i]?=some (some v))(h:Q v H):nJ i σ H Q:=⟨v,e,h⟩
theorem rd_c{v:V}(h:Q v H):tC v σ H Q:=h
theorem rd_op{r:R2}(h:ta σ H fun x H1=>tb σ H1 fun y H2=>r x y H2 Q):iF r ta tb σ H Q:=h
theorem rd_un{r:V->Hp->VK->Prop}(h:ta σ H fun x H1=>r x H1 Q):u7 r ta σ H Q:=h
theorem rd_CB{r:List V->Hp->VK->Prop}{a:TA}(h:a σ H fun vs H1=>r vs H1 Q):mX r a σ H Q:=h
theorem rd_cons{a:TA}{R:List V->Hp->Prop}(h:ta σ H fun x H1=>a σ H1 fun xs H2=>R (x::xs) H2):jg ta a σ H R:=h
theorem rd_nil{R:List V->Hp->Prop}(h:R [] H):oa σ H R:=h
theorem rd_test{R:Bool->Hp->Prop}(h:te σ H fun x H'=>∃k,x=.bl k/\R k H'):uL te σ H R:=h
theorem rd_B{R:Bool->Hp->Prop}(h:te σ H fun x H'=>∃k,x=.bl k/\R k H'):tB te σ H R:=h
theorem rd_exb{b:Bool}{R:Bool->Prop}(h:R b):∃k,V.bl b=V.bl k/\R k:=⟨b,rfl,h⟩
theorem rd_not{R:Bool->Hp->Prop}(h:c σ H fun b H1=>R (!b) H1):oU c σ H R:=h
theorem rd_and{R:Bool->Hp->Prop}(h:c σ H fun b H1=>if b=true then c' σ H1 R else R false H1):sZ c c' σ H R:=h
theorem rd_or{R:Bool->Hp->Prop}(h:c σ H fun b H1=>if b=true then R true H1 else c' σ H1 R):sv c c' σ H R:=h
theorem rd_andV(h:ta σ H fun x H1=>∃k,x=.bl k/\if k=true then tb σ H1 Q else Q (.bl false) H1):tZ ta tb σ H Q:=h
theorem rd_orV(h:ta σ H fun x H1=>∃k,x=.bl k/\if k=true then Q (.bl true) H1 else tb σ H1 Q):qH ta tb σ H Q:=h
theorem rd_notV(h:ta σ H fun x H1=>∃k,x=.bl k/\Q (.bl (!k)) H1):pw ta σ H Q:=h
theorem rd_ifE(h:c σ H fun b H1=>if b=true then ta σ H1 Q else tb σ H1 Q):sj c ta tb σ H Q:=h
theorem rd_yes{R:Bool->Hp->Prop}(h:R true H):tN σ H R:=h
theorem rd_I0{g:Int->Int->V}{i j:Int}(h:Q (g i j) H):dF g (.int i) (.int j) H Q:=⟨i,j,rfl,rfl,h⟩
theorem rd_I{C:Int->Int->Prop}{g:Int->Int->V}{i j:Int}(hc:C i j)(h:Q (g i j) H):rI C g (.int i) (.int j) H Q:=⟨i,j,rfl,rfl,hc,h⟩
theorem rd_U{g:Int->V}{i:Int}(h:Q (g i) H):rU g (.int i) H Q:=⟨i,rfl,h⟩
theorem rd_EqI{i j:Int}(h:Q (.bl (decide (i=j))) H):mw (.int i) (.int j) H Q:=⟨rfl,by
 have e:decide (V.int i=V.int j)=decide (i=j):=by rw[Bool.eq_iff_iff];simp
 rw[e];exact h⟩
theorem rd_NeI{i j:Int}(h:Q (.bl (!decide (i=j))) H):iH (.int i) (.int j) H Q:=⟨rfl,by
 have e:decide (V.int i=V.int j)=decide (i=j):=by rw[Bool.eq_iff_iff];simp
 rw[e];exact h⟩
theorem aI{p:Addr}{xs:List V}{i:Int}{v:V}(e:ag K H p xs)(a:bK xs i=some v)(h:Q v H):nA K (.ref p) (.int i) H Q:=⟨p,xs,i,v,rfl,rfl,e,a,h⟩
theorem ax{p:Addr}{xs:List V}{i:Int}{v:V}(e:aj K H p xs)(a:bK xs i=some v)(h:Q v H):nL K (.ref p) (.int i) H Q:=⟨p,xs,i,v,rfl,rfl,e,a,h⟩
theorem dN{p:Addr}{xs:List V}(e:ag K H p xs)(h:Q (.int xs.length) H):ke K [.ref p] H Q:=⟨p,xs,rfl,.inl e,h⟩
theorem ip{p:Addr}{xs:List V}(e:aj K H p xs)(h:Q (.int xs.length) H):ke K [.ref p] H Q:=⟨p,xs,rfl,.inr e,h⟩
theorem lr{p:Addr}{xs:List V}(e:ag K H p xs)(h:dO H (.tup xs) Q):nX K [.ref p] H Q:=⟨p,xs,rfl,.inl ⟨e,h⟩⟩
theorem f9{x:V}{n T:String}{b:Bool}(hk:dv H x n)(hb:fo n T=some b)(h:Q (.bl b) H):sL [x,.ty T] H Q:=⟨x,n,T,b,rfl,hk,hb,h⟩
theorem rd_max2{i j:Int}(h:Q (.int (if j>i then j else i)) H):rl [.int i,.int j] H Q:=⟨i,j,rfl,h⟩
theorem rd_call{sp:Sp}{a:TA}{E:XK}(h:a σ H fun vs H1=>sp (vs++[]) H1 Q E):kT sp [] E a σ H Q:=h
theorem rd_BM{T:String}{r:V->List V->Hp->VK->Prop}{a:TA}(h:te σ H fun x H1=>iA K T x H1/\a σ H1 fun xs H2=>r x xs H2 Q):lq K T r te a σ H Q:=h
theorem rd_tup{a:TA}(h:a σ H fun xs H1=>xs.length<=sizeLine/\dO H1 (.tup xs) Q):mz a σ H Q:=h
theorem rd_lst{a:TA}(h:a σ H fun xs H1=>xs.length<=sizeLine/\dO H1 (.lst xs) Q):uK a σ H Q:=h
theorem rd_sl{r:V->Option Int->Option Int->Hp->VK->Prop}{tl th:TO}(h:te σ H fun x H1=>tl σ H1 fun l H2=>th σ H2 fun v H3=>r x l v H3 Q):vy r te tl th σ H Q:=h
theorem rd_noPart{R:Option Int->Hp->Prop}(h:R none H):vT σ H R:=h
theorem rd_part{R:Option Int->Hp->Prop}(h:te σ H fun x H1=>∃i,x=.int i/\R (some i) H1):r6 te σ H R:=h
theorem rd_exi{i:Int}{R:Int->Prop}(h:R i):∃k,V.int i=V.int k/\R k:=⟨i,rfl,h⟩
theorem rd_chain{r r':R2}(h:ta σ H fun x H1=>tb σ H1 fun y H2=>r x y H2 fun z H3=>∃k,z=.bl k/\(if k=true then tc σ H3 fun w' H4=>r' y w' H4 Q else Q (.bl false) H3)):pL r r' ta tb tc σ H Q:=h
theorem rd_comp{n:Nat}{js:List Nat}{wi:TI}{g:TG}(h:wi σ H fun J H1=>fG J n js g c te σ H1 Q):ml n js wi g c te σ H Q:=h
theorem rd_iL{R:It->Hp->Prop}(h:te σ H fun x H1=>qv K x H1 R):og K te σ H R:=h
theorem rd_iT{R:It->Hp->Prop}(h:te σ H fun x H1=>oT K x H1 R):mD K te σ H R:=h
theorem dU{p:Addr}{xs:List V}{R:It->Hp->Prop}(e:ag K H p xs)(h:R (b6 K p) H):qv K (.ref p) H R:=⟨p,rfl,⟨xs,e⟩,h⟩
theorem ku{p:Addr}{xs:List V}{R:It->Hp->Prop}(e:aj K H p xs)(h:R (bT K p) H):oT K (.ref p) H R:=⟨p,rfl,⟨xs,e⟩,h⟩
theorem rd_i1{a:TA}{R:It->Hp->Prop}(h:a σ H fun vs H1=>pq vs H1 R):qK a σ H R:=h
theorem dD{j:Int}{R:It->Hp->Prop}(h1:-(2 ^ 62)<=j/\j<2 ^ 62)(h:R (dI 0 j.toNat) H):pq [.int j] H R:=⟨j,rfl,h1.1,h1.2,h⟩
theorem rd_i3{a:TA}{R:It->Hp->Prop}(h:a σ H fun vs H1=>v9 vs H1 R):vQ a σ H R:=h
theorem CI{i j c:Int}{R:It->Hp->Prop}(h1:iB i j c)(h:R (eT i c (dQ i j c)) H):v9 [.int i,.int j,.int c] H R:=⟨i,j,c,rfl,h1,h⟩
theorem rd_for{wi:TI}{g:TG}(h:wi σ H fun J H1=>eQ J g t D σ H1):sx wi g t D σ H:=h
theorem bQ{l:Addr}{xs:List V}{y:V}(e:H l=some (.lst xs))(hz:xs.length<sizeLine)(h:Q .non (upd H l (.lst (xs++[y])))):vG (.ref l) [y] H Q:=⟨l,xs,y,rfl,rfl,e,hz,h⟩
theorem bS{p:Addr}{xs:List V}(e:ag K H p xs):iA K "list" (.ref p) H:=.inl ⟨rfl,xs,e⟩
theorem rd_sub{to ti:TE}{w:ju}{v:V}{R:St->Hp->Prop}(h:to σ H fun o H1=>ti σ H1 fun i H2=>w o i v H2 fun H3=>R σ H3):sy to ti w v σ H R:=h
theorem w9{p:Addr}{xs:List V}{k:Int}{j:Nat}{v:V}{R:Hp->Prop}(e:H p=some (.lst xs))(a:dW xs.length k=some j)(h:R (upd H p (.lst (xs.set j v)))):tY (.ref p) (.int k) v H R:=⟨p,xs,k,j,rfl,rfl,e,a,h⟩
theorem gW{n:Nat}{g:cV}{a:Addr}{xs:List V}{R:St->Hp->Prop}(e:aj K H a xs)(hl:xs.length=n)(h:g xs σ H R):nF K n g (.ref a) σ H R:=⟨a,xs,rfl,e,hl,h⟩
theorem rd_gcons{g:TG}{gs:cV}{v:V}{r:List V}{R:St->Hp->Prop}(h:g v σ H fun σ' H'=>gs r σ' H' R):pY g gs (v::r) σ H R:=⟨v,r,rfl,h⟩
theorem rd_gnil{R:St->Hp->Prop}(h:R σ H):sU [] σ H R:=⟨rfl,h⟩
theorem dX{l b:Addr}{xs zs:List V}(e1:H l=some (.lst xs))(e2:H b=some (.lst zs))(hz:xs.length+zs.length<=sizeLine)(h:dO H (.lst (xs++zs)) Q):wa (.ref l) (.ref b) H Q:=⟨l,b,xs,zs,rfl,rfl,e1,e2,hz,h⟩
theorem vq{l:Addr}{k:Int}{xs:List V}(e:H l=some (.lst xs))(hk:0<=k/\k<10 ^ 6)(hz:xs.length*k.toNat<=sizeLine)(h:dO H (.lst (List.replicate k.toNat xs).flatten) Q):vZ (.ref l) (.int k) H Q:=
 ⟨l,k,xs,rfl,rfl,e,by omega,by omega,hz,h⟩
theorem oY{a:Addr}{xs:List V}{lo hi:Option Int}(e:ag K H a xs)(h:dO H (.lst (ck xs lo hi)) Q):mH K (.ref a) lo hi H Q:=⟨a,xs,rfl,e,h⟩
theorem ah{o:HO}{R:VK}(h:∀p H',Ext H H'->H' p=some o->H p=none->R (.ref p) H'):dO H o R:=fun p hp=>
 h p _ (fun b u e=>by rw[aL (cB e hp)];exact e) aY hp
theorem bM{p:Addr}{o:HO}(hp:H p=none):Ext H (upd H p o):=fun b u e=>by rw[aL (cB e hp)];exact e
theorem ag.ext{H':Hp}{p:Addr}{xs:List V}(e:Ext H H')(h:ag K H p xs):ag K H' p xs:=by
 rcases h with(h | ⟨o,h⟩) | h
 ·exact .inl (.inl (e _ _ h))
 ·exact .inl (.inr ⟨o,e _ _ h⟩)
 ·exact .inr h
end
theorem gC{α:Type}{xs:List α}{i:Int}{v:α}(h0:0<=i)(h:xs[i.toNat]?=some v):bK xs i=some v:=by
 have:=eD h
 rwa [Int.toNat_of_nonneg h0]at this
theorem yH{n:Nat}{i:Int}(h0:0<=i)(h:i<n):dW n i=some i.toNat:=by unfold dW;rw[if_pos h0,if_pos h]
end L2
namespace L2
open PySem PySem.Spec PyProof.Rows
def di:V->PyData->Prop
 | .non,.none=>True
 | .bl b,.bool c=>b=c
 | .int i,.int j=>i=j
 | .str x,.str y=>x=y/\(PyData.str y).canLay0=true
 | _,_=>False
def bF(H:Hp):Nat->V->PyData->Prop
 | 0,x,d=>di x d
 | n+1,x,d=>di x d\/∃a xs ds,x=.ref a/\((H a=some (.tup xs)/\d=.tuple ds)\/(H a=some (.lst xs)/\d=.list ds))/\Paired (bF H n) xs ds
section
variable {X:Cx} {pins:List (Addr×Obj)} {σ:St} {H:Hp} {s:Shared}
theorem di.reads{x:V}{d:PyData}{u:Value}(h:di x d)(r:RelV x u):∃as,Reads s.heap u d as:=by
 cases x with
 | non=>cases d<;>first | exact False.elim h | (cases r;exact⟨_,.none⟩)
 | bl b=>cases d<;>first | exact False.elim h | (cases(show b=_ from h);cases r;exact⟨_,.bool _⟩)
 | int i=>cases d<;>first | exact False.elim h | (cases(show i=_ from h);obtain⟨t,rfl⟩:=r;exact⟨_,.int _ t⟩)
 | str z=>cases d<;>first | exact False.elim h | (cases(show z=_/\_ from h).1;obtain⟨t,rfl⟩:=r;exact⟨_,.str _ t⟩)
 | _=>cases d<;>exact False.elim h
theorem di.lay{x:V}{d:PyData}(h:di x d):d.canLay0=true/\d.depth=0:=by
 cases x<;>cases d<;>first | exact False.elim h | exact ⟨rfl,rfl⟩ | exact ⟨h.2,rfl⟩
theorem mQ{R:V->PyData->Prop}(ih:∀{x:V} {d:PyData} {u:Value},R x d->RelV x u->∃as,Reads s.heap u d as):∀{xs:List V} {ds:List PyData} {us:List Value},Paired R xs ds->Vals xs us->∃as,ReadsAll s.heap us ds as
 | _,_,_,.nil,.nil=>⟨_,.nil⟩
 | _,_,_,.cons h t,.cons r rt=>by
  obtain⟨as,ha⟩:=ih h r
  obtain⟨bs,hb⟩:=mQ ih t rt
  exact⟨_,.cons ha hb⟩
theorem bF.reads(I:Inv X pins σ H s):∀(n:Nat) {x:V} {d:PyData} {u:Value},bF H n x d->RelV x u->∃as,Reads s.heap u d as
 | 0,_,_,_,h,r=>di.reads h r
 | n+1,x,d,u,h,r=>by
  rcases h with h | ⟨a,xs,ds,rfl,hh,hp⟩
  ·exact di.reads h r
  ·cases r
   rcases hh with⟨e,rfl⟩ | ⟨e,rfl⟩
   ·obtain⟨its,rv,⟨o,ho,hc,k,hd⟩,_⟩:=I.tuple (aj.of e)
    obtain⟨as,ha⟩:=mQ (fun{x d u}=>bF.reads I n) hp rv
    exact⟨_,.tuple ho hc hd (by simpa using ha)⟩
   ·obtain⟨its,k,rv,ho,_⟩:=I.lst e
    obtain⟨as,ha⟩:=mQ (fun{x d u}=>bF.reads I n) hp rv
    exact⟨_,.list ho rfl rfl (by simpa using ha)⟩
theorem kx{R:V->PyData->Prop}{m:Nat}(ih:∀{x:V} {d:PyData},R x d->d.canLay0=true/\d.depth<=m):∀{xs:List V} {ds:List PyData},Paired R xs ds->PyData.canLayAll0 ds=true/\PyData.depthAll ds<=m
 | _,_,.nil=>⟨rfl,Nat.zero_le _⟩
 | _,_,.cons h t=>by
  obtain⟨h1,h2⟩:=ih h
  obtain⟨h3,h4⟩:=kx ih t
  refine⟨?_,?_⟩
  ·simp only[PyData.canLayAll0,h1,h3,Bool.and_self]
  ·simp only[PyData.depthAll]
   exact Nat.max_le.mpr ⟨h2,h4⟩
theorem bF.lay:∀(n:Nat) {x:V} {d:PyData},bF H n x d->d.canLay0=true/\d.depth<=n
 | 0,_,_,h=>⟨(di.lay h).1,Nat.le_of_eq (di.lay h).2⟩
 | n+1,x,d,h=>by
  rcases h with h | ⟨a,xs,ds,rfl,hh,hp⟩
  ·exact⟨(di.lay h).1,by rw[(di.lay h).2];exact Nat.zero_le _⟩
  ·obtain⟨h1,h2⟩:=kx (fun{x d}=>bF.lay n) hp
   rcases hh with⟨e,rfl⟩ | ⟨e,rfl⟩
   ·exact⟨h1,Nat.succ_le_succ h2⟩
   ·exact⟨h1,Nat.succ_le_succ h2⟩
end
end L2
namespace L2
open PySem PySem.Spec PyProof.Rows
def Bq(K:EE):List V->Hp->VK->Prop:=fun xs H Q=>∃(p:Addr) (bs:List Bool),xs=[.ref p]/\ag K H p (bs.map V.bl)/\Q (.bl (bs.all id)) H
theorem nv:∀{bs:List Bool} {us:List Value},Vals (bs.map V.bl) us->us=bs.map Value.bool
 | [],_,r=>by cases r;rfl
 | b::bs,_,r=>by
  cases r with
  | cons r t=>cases r;rw[nv t];rfl
theorem all_range(bs:List Bool):((List.range bs.length).all fun i=>bs.getD i false)=bs.all id:=by
 rw[Bool.eq_iff_iff,List.all_eq_true,List.all_eq_true]
 constructor
 ·intro h b hb
  obtain⟨i,hi,e⟩:=List.mem_iff_getElem.mp hb
  have:=h i (List.mem_range.mpr hi)
  rw[List.getD_eq_getElem?_getD,EJ hi]at this
  rw[←e]
  exact this
 ·intro h i hi
  have hi':=List.mem_range.mp hi
  rw[List.getD_eq_getElem?_getD,EJ hi']
  exact h _ (List.getElem_mem hi')
theorem zp{X:Cx}(K:EE)(hc:X.calm=true)(hK:X.K=K:=by rfl):bI X (.builtin "all") (Bq K):=by
 subst hK
 intro pins s σ H xs us Q I r h
 obtain⟨p,bs,rfl,hq,q⟩:=h
 obtain⟨u,rfl,rx⟩:=vals1 r
 cases rx
 obtain⟨its,rv,pl,hz⟩:=I.list hq
 have eb:=nv rv
 have hne:p≠s.heap.objs.size:=Nat.ne_of_lt (by obtain⟨o,n,e,_⟩:=pl;exact EH e)
 refine call_all_walk (wpAny_pyIter_list pl.isList ?_)
 have I1:Inv X pins σ H { s with heap:=s.heap.push { cls:=.type "list_iterator",data:=.fields #[.ref p,.int 0 0] } }:=I.kept (t':=s.toks) fun b o e=>EF _ e
 have hf:=I.fpOk (H':=H) (Nat.le_refl s.heap.objs.size) I.fresh
 refine⟨s.heap.objs.size,_,_,_,_,_,(fun i=>bs.getD i false),rfl,Walks.list (A:=X.A.in1) (I.ok.hd hc) _ p hne its.toArray,⟨⟨_,EG _ rfl,rfl,rfl⟩,?_⟩,?_,fun h' tk hk=>?_⟩
 ·exact pl.isList.push _
 ·intro i v s' Q' E' hv hQ
  rw[eb]at hv
  have hv':(bs.map Value.bool)[i]?=some v:=by simpa using hv
  rw[EK]at hv'
  cases eg:bs[i]? with
  | none=>rw[eg]at hv';cases hv'
  | some b=>
   rw[eg]at hv'
   cases hv'
   have eb':bs.getD i false=b:=by rw[List.getD_eq_getElem?_getD,eg];rfl
   have hQ':Q' (bs.getD i false) s':=hQ
   rw[eb']at hQ'
   exact wpAny_truthy_bool hQ'
 ·obtain⟨f0,f1,f2,f3,f4,f5⟩:=hf
  have hl:=rv.length
  rw[EI]at hl
  refine⟨.bl (bs.all id),H,I1.turned (it:=s.heap.objs.size) (fun b o hb e=>hk b o (by simpa using hb) e) f0 f1 f3 f4 f5,?_,q⟩
  show Value.bool _=Value.bool _
  rw[EN,←hl,all_range]
end L2
namespace L2
open PySem PySem.Spec PyProof.Rows
def qm(c:TT)(tb:TS):TS:=fun D σ H=>∃(W:Nat->St->Hp->Prop) (R:St->Hp->Prop),(∃m,W m σ H)/\(∀m σ H,W m σ H →
 c σ H fun b H1=>if b=true then ∃N:St->Hp->Prop,(∀σ' H',N σ' H'->∃m',m'<m/\W m' σ' H')/\tb ⟨N,D.rt,R,N⟩ σ H1 else R σ H1)/\∀σ H,R σ H->D.nx σ H
theorem ou{X:Cx}{pos:Pos}{c:Expr}{body:List Stmt}{tc:TT}{tb:TS}(hp:PassesOwn (model X.prog X.w) X.A X.env X.xe)(hc:PT X c tc)(hb:b9 X body tb):PS X (.While c body [] pos) (qm tc tb):=by
 intro pins s σ H D I h
 obtain⟨W,R,w0,hs,hR⟩:=h
 refine au (CC hp hc hb pins s σ H { D with nx:=R } I ⟨W,w0,hs⟩) fun f s1 q=>?_
 cases f with
 | next=>
  obtain⟨σ',H',I',q⟩:=q
  exact⟨σ',H',I',hR σ' H' q⟩
 | ret v=>exact q
 | brk=>exact q
 | cont=>exact q
section
variable {D:Ends} {σ:St} {H:Hp} {Q:VK} {te:TE} {t:TS} {c:TT}
theorem pR(W:Nat->St->Hp->Prop)(R:St->Hp->Prop)(m:Nat)(h0:W m σ H)(hs:∀m σ H,W m σ H->c σ H fun b H1=>if b=true then ∃N:St->Hp->Prop,(∀σ' H',N σ' H'->∃m',m'<m/\W m' σ' H')/\t ⟨N,D.rt,R,N⟩ σ H1 else R σ H1)(k:∀σ H,R σ H->D.nx σ H):qm c t D σ H:=⟨W,R,⟨m,h0⟩,hs,k⟩
theorem rd_aug{i:Nat}{ti:iU}{x:V}(e:σ[i]?=some (some x))(h:te σ H fun y H1=>ti x y H1 fun z H2=>D.nx (σ.set i (some z)) H2):oW i te ti D σ H:=⟨x,e,h⟩
theorem rd_ipI{f:Int->Int->Int}{i j:Int}(h:Q (.int (f i j)) H):vH f (.int i) (.int j) H Q:=⟨i,j,rfl,rfl,h⟩
end
section
variable {prog:Program} {w:World} {A:Around} {E:Value->Shared->Prop} {s:Shared}
theorem oB{it t:Addr}{i:Nat}{ys:Array Value}{x:Value}{Q:Value->Shared->Prop}(gi:s.heap.IsTupleIter it t i)(gt:s.heap.IsTuple t ys)(gx:ys[i]?=some x)
  (q:∀h',h'.IsTupleIter it t (i+1)->Heap.SameBut it s.heap h'->Q x { s with heap:=h' }):wpAny (model prog w) A (Builtin.SmallTypes.nextOf (.ref it)) Q E s:=by
 obtain⟨u,gu,gc,gd⟩:=id gi
 obtain⟨v,gv,_,k,gk⟩:=gt
 unfold Builtin.SmallTypes.nextOf
 refine EC (wpAny_callSpecial?_slot (name:=Str.ofString "__next__") gi.typeIs F.slot_tuple_iterator_next (wpAny_call_entry F.slot_tuple_iterator_next gi.typeIs F.entry_tuple_iterator_next ?_ (F.args_tuple_iterator_next_1 _)))
 show wpAny _ _ (field (Value.ref it) 0 >>= _) _ _ s
 refine EC (wpAny_field gu gd (x:=Value.ref t) rfl ?_)
 show wpAny _ _ (if(Value.ref t == Value.none)=true then _ else _) _ _ s
 rw[if_neg (show ¬(Value.ref t == Value.none)=true from Bool.false_ne_true)]
 show wpAny _ _ (field (Value.ref it) 1 >>= _) _ _ s
 refine EC (wpAny_field gu gd (x:=Value.int i 0) rfl ?_)
 show wpAny _ _ (seqItems? (Value.ref t) >>= _) _ _ s
 refine EC (wpAny_seqItems gv gk ?_)
 simp only[Int.toNat_natCast,gx]
 refine EC (wpAny_setField gu gd (by simp) (ED ⟨x,rfl,ED (q _ ?_ (Heap.SameBut.update ..))⟩))
 exact⟨_,Heap.get?_update_self _ gu (Obj.isFreed_of_fields (Obj.data_mapFields gd _)),(Obj.cls_mapFields ..).trans gc,by rw[Obj.data_mapFields gd];simp[rawInt]⟩
theorem mU{it t:Addr}{i:Nat}{ys:Array Value}{Q:Value->Shared->Prop}(hA:A.handled=none)(gi:s.heap.IsTupleIter it t i)(gt:s.heap.IsTuple t ys)(gx:ys[i]?=none)
  (q:∀h' e,Heap.ExtBut it s.heap h'->(∃o,h'.get? e=some o/\o.cls=.type "StopIteration")->E (.ref e) { s with heap:=h' }):wpAny (model prog w) A (Builtin.SmallTypes.nextOf (.ref it)) Q E s:=by
 obtain⟨u,gu,gc,gd⟩:=id gi
 obtain⟨v,gv,_,k,gk⟩:=gt
 unfold Builtin.SmallTypes.nextOf
 refine EC (wpAny_callSpecial?_slot (name:=Str.ofString "__next__") gi.typeIs F.slot_tuple_iterator_next (wpAny_call_entry F.slot_tuple_iterator_next gi.typeIs F.entry_tuple_iterator_next ?_ (F.args_tuple_iterator_next_1 _)))
 show wpAny _ _ (field (Value.ref it) 0 >>= _) _ _ s
 refine EC (wpAny_field gu gd (x:=Value.ref t) rfl ?_)
 show wpAny _ _ (if(Value.ref t == Value.none)=true then _ else _) _ _ s
 rw[if_neg (show ¬(Value.ref t == Value.none)=true from Bool.false_ne_true)]
 show wpAny _ _ (field (Value.ref it) 1 >>= _) _ _ s
 refine EC (wpAny_field gu gd (x:=Value.int i 0) rfl ?_)
 show wpAny _ _ (seqItems? (Value.ref t) >>= _) _ _ s
 refine EC (wpAny_seqItems gv gk ?_)
 simp only[Int.toNat_natCast,gx]
 refine EC (wpAny_rule (EC (wpAny_setField gu gd (by simp) ?_)))
 show wpAny _ _ (newExc (Value.type "StopIteration") [] >>= _) _ _ _
 refine EC ?_
 simp only[newExc,newTuple]
 refine EC (wpAny_newObj_type (hd:=by size_fits) ?_)
 refine EC (m:=firstArgMember _ _) (wpAny_of_eq (a:=Value.none) (by first | rfl | (unfold firstArgMember;rfl)) ?_)
 refine wpAny_newObj_type (hd:=by size_fits) ?_
 simp only[raiseNew]
 refine EC (wpAny_handled ?_)
 first | rw [show Around.handled A.in1=none from hA] | rw [hA]
 refine EC (ED (wpAny_throw ?_))
 exact q _ _ (((Heap.SameBut.update ..).extBut.push _).push _) ⟨_,EG _ rfl,rfl⟩
end
structure Sub(P:Program)(w:World)(K:EE)(J:It)(it:Addr)(tn:Nat->Heap->Prop):Prop where
 obj:∀i h,tn i h->∃o,h.get? it=some o/\∀v,o.data≠.cell v
 keep:∀i h h',tn i h->(∀o,h.get? it=some o->h'.get? it=some o)->tn i h'
 item:∀(X:Cx),X.prog=P->X.w=w->X.K=K->∀(A:Around) (i:Nat) (pins:List (Addr×Obj)) (s:Shared) (σ:St) (H:Hp) (Q:Value->Shared->Prop) (E:Value->Shared->Prop),Inv X pins σ H s->bO X pins H it->tn i s.heap->J.go i H →
  (∀x u h',Inv X pins σ H { s with heap:=h' }->RelV x u->J.yld i H x H->tn (i+1) h'->Heap.SameBut it s.heap h'->Q u { s with heap:=h' })->wpAny (model P w) A (Builtin.SmallTypes.nextOf (.ref it)) Q E s
 done:∀(X:Cx),X.prog=P->X.w=w->X.K=K->∀(A:Around),A.handled=none->∀(i:Nat) (pins:List (Addr×Obj)) (s:Shared) (σ:St) (H:Hp) (Q:Value->Shared->Prop) (E:Value->Shared->Prop),Inv X pins σ H s->bO X pins H it->tn i s.heap->J.stop i H →
  (∀h' e,Heap.ExtBut it s.heap h'->(∃o,h'.get? e=some o/\o.cls=.type "StopIteration")->E (.ref e) { s with heap:=h' })->wpAny (model P w) A (Builtin.SmallTypes.nextOf (.ref it)) Q E s
theorem rO{P:Program}{w:World}{K:EE}(a it:Addr):Sub P w K (b6 K a) it (fun i h=>h.IsListIter it a i) where
 obj:=fun i h st=>by
  obtain⟨o,e,c,d⟩:=st
  exact⟨o,e,fun v z=>by rw[d]at z;cases z⟩
 keep:=fun i h h' st k=>st.at k
 item:=by
  intro X hP hw hK A i pins s σ H Q E I hf st hg hQ
  subst hP hw hK
  obtain⟨xs,x,hq,hx⟩:=hg
  obtain⟨its,rv,p,hz⟩:=I.list hq
  obtain⟨u,hu,ru⟩:=rv.get hx
  obtain⟨f0,f1,f2,f3,f4,f5⟩:=hf
  exact wpAny_nextOf_list_item st p.isList (x:=u) (by simpa using hu) fun h' st' sb=>hQ x u h' (I.turned (t':=s.toks) (it:=it) (fun b o hb e=>(sb.2 b hb).trans e) f0 f1 f3 f4 f5) ru ⟨rfl,fun ys hy=>by rw[I.list_inj hy hq];exact hx⟩ st' sb
 done:=by
  intro X hP hw hK A hA i pins s σ H Q E I hf st hg hE
  subst hP hw hK
  obtain⟨xs,hq,hx⟩:=hg
  obtain⟨its,rv,p,hz⟩:=I.list hq
  have hl:=rv.length
  exact wpAny_nextOf_list_end hA st p.isList (by simp;omega) hE
theorem sD{P:Program}{w:World}{K:EE}(a it:Addr):Sub P w K (bT K a) it (fun i h=>h.IsTupleIter it a i) where
 obj:=fun i h st=>by
  obtain⟨o,e,c,d⟩:=st
  exact⟨o,e,fun v z=>by rw[d]at z;cases z⟩
 keep:=fun i h h' st k=>st.at k
 item:=by
  intro X hP hw hK A i pins s σ H Q E I hf st hg hQ
  subst hP hw hK
  obtain⟨xs,x,hq,hx⟩:=hg
  obtain⟨its,rv,p,hz⟩:=I.tuple hq
  obtain⟨u,hu,ru⟩:=rv.get hx
  obtain⟨f0,f1,f2,f3,f4,f5⟩:=hf
  exact oB st (show s.heap.IsTuple a its.toArray from p) (x:=u) (by simpa using hu) fun h' st' sb=>hQ x u h' (I.turned (t':=s.toks) (it:=it) (fun b o hb e=>(sb.2 b hb).trans e) f0 f1 f3 f4 f5) ru ⟨rfl,fun ys hy=>by rw[I.tuple_inj hy hq];exact hx⟩ st' sb
 done:=by
  intro X hP hw hK A hA i pins s σ H Q E I hf st hg hE
  subst hP hw hK
  obtain⟨xs,hq,hx⟩:=hg
  obtain⟨its,rv,p,hz⟩:=I.tuple hq
  have hl:=rv.length
  exact mU hA st (show s.heap.IsTuple a its.toArray from p) (by simp;omega) hE
def fW(J1 J2:It):It:=⟨fun i H=>J1.go i H/\J2.go i H,fun i H x H'=>∃p u v,x=.ref p/\H p=none/\H'=upd H p (.tup [u,v])/\J1.yld i H u H/\J2.yld i H v H,fun i H=>J1.stop i H\/(J1.go i H/\J2.stop i H)⟩
structure Apart(z TI TO i1 i2:Addr):Prop where
 a:TI≠z
 b:TO≠z
 c:i1≠z
 d:i2≠z
 e:TI≠TO
 f:TI≠i1
 g:TI≠i2
 h:TO≠i1
 i:TO≠i2
 j:i1≠i2
section
variable {X:Cx} {pins:List (Addr×Obj)} {σ:St} {H:Hp} {s:Shared}
theorem Inv.same{it:Addr}{k h':Heap}(I:Inv X pins σ H { s with heap:=k })(f:bO X pins H it)(b:Heap.ExtBut it k h'):Inv X pins σ H { s with heap:=h' }:=by
 obtain⟨f0,f1,f2,f3,f4,f5⟩:=f
 exact Inv.turned (s:={ s with heap:=k }) (t':=s.toks) (it:=it) I (fun c o hb e=>b c o hb e) f0 f1 f3 f4 f5
theorem yB{J1 J2:It}{z TI TO i1 i2:Addr}{t1 t2:Nat->Heap->Prop}{A:Around}{E:Value->Shared->Prop}{a b:Value}{i:Nat}{Q:Value->Shared->Prop}(S1:Sub X.prog X.w X.K J1 i1 t1)(S2:Sub X.prog X.w X.K J2 i2 t2)(N:Apart z TI TO i1 i2)
  (I:Inv X pins σ H s) (hf:∀b∈[z,TI,TO,i1,i2],bO X pins H b) (gz:IsZip s.heap z TI TO .none) (gI:IsPair s.heap TI (.ref i1) (.ref i2)) (gO:IsPair s.heap TO a b) (g1:t1 i s.heap) (g2:t2 i s.heap) (go1:J1.go i H) (go2:J2.go i H)
  (q:∀x y h',Inv X pins σ (upd H s.heap.objs.size (.tup [x,y])) { s with heap:=h' }->J1.yld i H x H->J2.yld i H y H->IsZip h' z TI TO (rawInt s.heap.objs.size)->IsPair h' TI (.ref i1) (.ref i2)->(∃a b,IsPair h' TO a b)->t1 (i+1) h'->t2 (i+1) h'->Q (.ref s.heap.objs.size) { s with heap:=h' }) :
  wpAny (model X.prog X.w) A (Builtin.«zip.__next__» ⟨[.ref z],[]⟩) (fun fin s'=>∃v,fin=.done (.ret v)/\Q v s') E s:=by
 have fz:=hf z (by simp)
 have fO:=hf TO (by simp)
 have f1:=hf i1 (by simp)
 have f2:=hf i2 (by simp)
 show wpAny _ _ (field (Value.ref z) 2 >>= _) _ _ _
 refine EC (wpAny_field gz rfl (x:=Value.bool false) rfl ?_)
 show wpAny _ _ (field (Value.ref z) 3 >>= _) _ _ _
 refine EC (wpAny_field gz rfl (x:=Value.ref TI) rfl ?_)
 refine EC (wpAny_seqItems gI rfl ?_)
 show wpAny _ _ (Builtin.SmallTypes.ownedTupleIsFree (Value.ref z) >>= _) _ _ _
 refine EC ?_
 unfold Builtin.SmallTypes.ownedTupleIsFree
 refine EC (wpAny_field gz rfl (x:=Value.none) rfl (ED ?_))
 simp only[if_true]
 refine EC (wpAny_rule ?_)
 refine EC (wpAny_field gz rfl (x:=Value.ref TO) rfl ?_)
 refine EC (wpAny_setField_rec gz (by simp) fun k1 gz1 b1=>?_)
 replace gz1:IsZip k1 z TI TO .ellipsis:=gz1
 have s1:=b1.1
 replace b1:=b1.extBut
 have I1:Inv X pins σ H { s with heap:=k1 }:=Inv.same (show Inv X pins σ H { s with heap:=s.heap }from I) fz b1
 refine EC ?_
 simp only[List.zipIdx_cons,List.zipIdx_nil,List.forIn_cons,List.forIn_nil]
 refine EC (EC (wpAny_onRaise ?_))
 show wpAny _ _ (Builtin.SmallTypes.nextOf (Value.ref i1) >>= _) _ _ _
 refine EC (S1.item X rfl rfl rfl _ i pins _ σ H _ _ I1 f1 (S1.keep i _ _ g1 fun o e=>b1 _ _ N.c e) go1 fun x ux k2 I2 rx yx t12 b2=>ED ?_)
 replace I2:Inv X pins σ H { s with heap:=k2 }:=I2
 have s2:=b2.1
 replace b2:=b2.extBut
 have gO2:IsPair k2 TO a b:=b2 _ _ N.h (b1 _ _ N.b gO)
 refine EC (wpAny_seqItems gO2 rfl ?_)
 refine EC (wpAny_updateSeq_pair gO2 fun k3 gO3 b3=>?_)
 replace gO3:IsPair k3 TO ux b:=gO3
 have s3:=b3.1
 replace b3:=b3.extBut
 have I3:Inv X pins σ H { s with heap:=k3 }:=Inv.same I2 fO b3
 refine EC (wpAny_letGo (ED ?_))
 refine EC (EC (wpAny_onRaise ?_))
 show wpAny _ _ (Builtin.SmallTypes.nextOf (Value.ref i2) >>= _) _ _ _
 refine EC (S2.item X rfl rfl rfl _ i pins _ σ H _ _ I3 f2 (S2.keep i _ _ g2 fun o e=>b3 _ _ (Ne.symm N.i) (b2 _ _ (Ne.symm N.j) (b1 _ _ N.d e))) go2 fun y uy k4 I4 ry yy t24 b4=>ED ?_)
 replace I4:Inv X pins σ H { s with heap:=k4 }:=I4
 have s4:=b4.1
 replace b4:=b4.extBut
 have gO4:IsPair k4 TO ux b:=b4 _ _ N.i gO3
 refine EC (wpAny_seqItems gO4 rfl ?_)
 refine EC (wpAny_updateSeq_pair gO4 fun k5 gO5 b5=>?_)
 replace gO5:IsPair k5 TO ux uy:=gO5
 have s5:=b5.1
 replace b5:=b5.extBut
 have I5:Inv X pins σ H { s with heap:=k5 }:=Inv.same I4 fO b5
 refine EC (wpAny_letGo (ED (ED ?_)))
 refine EC (wpAny_seqItems gO5 rfl ?_)
 refine EC (wpAny_newTuple ?_)
 have sz:k5.objs.size=s.heap.objs.size:=by rw[s5,s4,s3,s2,s1]
 have gz5:IsZip k5 z TI TO .ellipsis:=b5 _ _ (Ne.symm N.b) (b4 _ _ (Ne.symm N.d) (b3 _ _ (Ne.symm N.b) (b2 _ _ (Ne.symm N.c) gz1)))
 have gI5:IsPair k5 TI (.ref i1) (.ref i2):=b5 _ _ N.e (b4 _ _ N.g (b3 _ _ N.e (b2 _ _ N.f (b1 _ _ N.a gI))))
 have t15:t1 (i+1) k5:=S1.keep _ _ _ (S1.keep _ _ _ (S1.keep _ _ _ t12 fun o e=>b3 _ _ (Ne.symm N.h) e) fun o e=>b4 _ _ N.j e) fun o e=>b5 _ _ (Ne.symm N.h) e
 have t25:t2 (i+1) k5:=S2.keep _ _ _ t24 fun o e=>b5 _ _ (Ne.symm N.i) e
 have lz:z<k5.objs.size:=EH gz5
 have I6:Inv X pins σ (upd H k5.objs.size (.tup [x,y])) { s with heap:=k5.push { cls:=.type "tuple",data:=.seq #[ux,uy] } }:=
  I5.laid (t':=s.toks) (o:=.tup [x,y]) (fun b ob e=>EF _ e) (Nat.le_refl _) ⟨by show 2<=sizeLine;decide,[ux,uy],.cons rx (.cons ry .nil),IsTup.new _ _⟩
 have fz6:bO X pins (upd H k5.objs.size (.tup [x,y])) z:=by
  obtain⟨c0,c1,c2,c3,c4,c5⟩:=fz
  exact⟨by rw[aL (Nat.ne_of_lt lz)];exact c0,c1,c2,c3,c4,c5⟩
 show wpAny _ _ (Builtin.SmallTypes.ownedTupleHandOut (Value.ref z) (Value.ref k5.objs.size) >>= _) _ _ _
 refine EC ?_
 unfold Builtin.SmallTypes.ownedTupleHandOut
 have gz6:IsZip (k5.push { cls:=.type "tuple",data:=.seq #[ux,uy] }) z TI TO .ellipsis:=EF _ gz5
 refine EC (wpAny_setField_rec gz6 (by simp) fun k7 gz7 b7=>?_)
 replace gz7:IsZip k7 z TI TO (rawInt k5.objs.size):=gz7
 replace b7:=b7.extBut
 have I7:Inv X pins σ (upd H k5.objs.size (.tup [x,y])) { s with heap:=k7 }:=Inv.same I6 fz6 b7
 refine wpAny_setField_rec gz7 (by simp) fun k8 gz8 b8=>?_
 replace gz8:IsZip k8 z TI TO (rawInt k5.objs.size):=gz8
 replace b8:=b8.extBut
 have I8:Inv X pins σ (upd H k5.objs.size (.tup [x,y])) { s with heap:=k8 }:=Inv.same I7 fz6 b8
 have up:∀b o,b≠z->k5.get? b=some o->k8.get? b=some o:=fun b o ne e=>b8 _ _ ne (b7 _ _ ne (EF _ e))
 rw[sz]at I8 gz8
 refine ED ⟨_,rfl,?_⟩
 show Q (.ref k5.objs.size) _
 rw[sz]
 exact q x y k8 I8 yx yy gz8 (up _ _ N.a gI5) ⟨_,_,up _ _ N.b gO5⟩ (S1.keep _ _ _ t15 fun o e=>up _ o N.c e) (S2.keep _ _ _ t25 fun o e=>up _ o N.d e)
theorem B3{J1 J2:It}{z TI TO i1 i2:Addr}{t1 t2:Nat->Heap->Prop}{A:Around}{E:Value->Shared->Prop}{a b:Value}{i:Nat}{Q:Fin->Shared->Prop}(hA:A.handled=none)(S1:Sub X.prog X.w X.K J1 i1 t1)(S2:Sub X.prog X.w X.K J2 i2 t2)(N:Apart z TI TO i1 i2)
  (I:Inv X pins σ H s) (hf:∀b∈[z,TI,TO,i1,i2],bO X pins H b) (gz:IsZip s.heap z TI TO .none) (gI:IsPair s.heap TI (.ref i1) (.ref i2)) (gO:IsPair s.heap TO a b) (g1:t1 i s.heap) (g2:t2 i s.heap) (st:J1.stop i H\/(J1.go i H/\J2.stop i H))
  (q:∀h' e,Inv X pins σ H { s with heap:=h' }->(∃o,h'.get? e=some o/\o.cls=.type "StopIteration")->E (.ref e) { s with heap:=h' }) :
  wpAny (model X.prog X.w) A (Builtin.«zip.__next__» ⟨[.ref z],[]⟩) Q E s:=by
 have fz:=hf z (by simp)
 have fO:=hf TO (by simp)
 have f1:=hf i1 (by simp)
 have f2:=hf i2 (by simp)
 show wpAny _ _ (field (Value.ref z) 2 >>= _) _ _ _
 refine EC (wpAny_field gz rfl (x:=Value.bool false) rfl ?_)
 show wpAny _ _ (field (Value.ref z) 3 >>= _) _ _ _
 refine EC (wpAny_field gz rfl (x:=Value.ref TI) rfl ?_)
 refine EC (wpAny_seqItems gI rfl ?_)
 show wpAny _ _ (Builtin.SmallTypes.ownedTupleIsFree (Value.ref z) >>= _) _ _ _
 refine EC ?_
 unfold Builtin.SmallTypes.ownedTupleIsFree
 refine EC (wpAny_field gz rfl (x:=Value.none) rfl (ED ?_))
 simp only[if_true]
 refine EC (wpAny_rule ?_)
 refine EC (wpAny_field gz rfl (x:=Value.ref TO) rfl ?_)
 refine EC (wpAny_setField_rec gz (by simp) fun k1 gz1 b1=>?_)
 replace gz1:IsZip k1 z TI TO .ellipsis:=gz1
 replace b1:=b1.extBut
 have I1:Inv X pins σ H { s with heap:=k1 }:=Inv.same (show Inv X pins σ H { s with heap:=s.heap }from I) fz b1
 refine EC ?_
 simp only[List.zipIdx_cons,List.zipIdx_nil,List.forIn_cons,List.forIn_nil]
 refine EC (EC (wpAny_onRaise ?_))
 show wpAny _ _ (Builtin.SmallTypes.nextOf (Value.ref i1) >>= _) _ _ _
 have t11:t1 i k1:=S1.keep i _ _ g1 fun o e=>b1 _ _ N.c e
 rcases st with st | ⟨go,st⟩
 ·refine EC (S1.done X rfl rfl rfl _ hA i pins _ σ H _ _ I1 f1 t11 st fun k2 e b2 he=>?_)
  obtain⟨oe,hoe,hce⟩:=he
  have gz2:IsZip k2 z TI TO .ellipsis:=b2 _ _ (Ne.symm N.c) gz1
  have I2:Inv X pins σ H { s with heap:=k2 }:=Inv.same I1 f1 b2
  have ne:e≠z:=fun x=>by subst x;rw[gz2]at hoe;cases hoe;simp at hce
  exact wpAny_setField_rec gz2 (by simp) fun k3 _ b3=>q k3 e (Inv.same I2 fz b3.extBut) ⟨oe,b3.extBut _ _ ne hoe,hce⟩
 ·refine EC (S1.item X rfl rfl rfl _ i pins _ σ H _ _ I1 f1 t11 go fun x ux k2 I2 rx yx t12 b2=>ED ?_)
  replace I2:Inv X pins σ H { s with heap:=k2 }:=I2
  replace b2:=b2.extBut
  have gO2:IsPair k2 TO a b:=b2 _ _ N.h (b1 _ _ N.b gO)
  refine EC (wpAny_seqItems gO2 rfl ?_)
  refine EC (wpAny_updateSeq_pair gO2 fun k3 gO3 b3=>?_)
  replace b3:=b3.extBut
  have I3:Inv X pins σ H { s with heap:=k3 }:=Inv.same I2 fO b3
  refine EC (wpAny_letGo (ED ?_))
  refine EC (EC (wpAny_onRaise ?_))
  show wpAny _ _ (Builtin.SmallTypes.nextOf (Value.ref i2) >>= _) _ _ _
  refine EC (S2.done X rfl rfl rfl _ hA i pins _ σ H _ _ I3 f2 (S2.keep i _ _ g2 fun o e=>b3 _ _ (Ne.symm N.i) (b2 _ _ (Ne.symm N.j) (b1 _ _ N.d e))) st fun k4 e b4 he=>?_)
  obtain⟨oe,hoe,hce⟩:=he
  have gz4:IsZip k4 z TI TO .ellipsis:=b4 _ _ (Ne.symm N.d) (b3 _ _ (Ne.symm N.b) (b2 _ _ (Ne.symm N.c) gz1))
  have I4:Inv X pins σ H { s with heap:=k4 }:=Inv.same I3 f2 b4
  have ne:e≠z:=fun x=>by subst x;rw[gz4]at hoe;cases hoe;simp at hce
  exact wpAny_setField_rec gz4 (by simp) fun k5 _ b5=>q k5 e (Inv.same I4 fz b5.extBut) ⟨oe,b5.extBut _ _ ne hoe,hce⟩
end
theorem xU{P:Program}{w:World}{K:EE}{elts:List Expr}{kk:Nat}{ps:Pos}{J1 J2:It}{z TI TO i1 i2:Addr}{t1 t2:Nat->Heap->Prop}(S1:Sub P w K J1 i1 t1)(S2:Sub P w K J2 i2 t2)(N:Apart z TI TO i1 i2):
  Turn P w K (.Tuple elts kk ps) (fW J1 J2) [z,TI,TO,i1,i2] z (fun i h=>IsZip h z TI TO .none/\IsPair h TI (.ref i1) (.ref i2)/\(∃a b,IsPair h TO a b)/\t1 i h/\t2 i h) where
 mem:=by simp
 obj:=fun i h st b hb=>by
  obtain⟨gz,gI,⟨a,c,gO⟩,g1,g2⟩:=st
  simp only[List.mem_cons,List.not_mem_nil,or_false]at hb
  rcases hb with rfl | rfl | rfl | rfl | rfl
  ·exact⟨_,gz,fun v e=>by cases(show Data.fields _=Data.cell v from e)⟩
  ·exact⟨_,gI,fun v e=>by cases(show Data.seq _ _=Data.cell v from e)⟩
  ·exact⟨_,gO,fun v e=>by cases(show Data.seq _ _=Data.cell v from e)⟩
  ·exact S1.obj _ _ g1
  ·exact S2.obj _ _ g2
 keep:=fun i h h' st k=>by
  obtain⟨gz,gI,⟨a,c,gO⟩,g1,g2⟩:=st
  exact⟨k z (by simp) _ gz,k TI (by simp) _ gI,⟨a,c,k TO (by simp) _ gO⟩,S1.keep _ _ _ g1 fun o e=>k i1 (by simp) o e,S2.keep _ _ _ g2 fun o e=>k i2 (by simp) o e⟩
 item:=by
  intro X hP hw hK hc i pins s σ H E I hf st hg
  subst hP hw hK
  obtain⟨gz,gI,⟨a,c,gO⟩,g1,g2⟩:=st
  have gT:s.TypeIs (.ref z) "zip":=⟨_,gz,rfl⟩
  unfold pyNext
  refine EC (wpAny_attempt (wpAny_callSpecial?_slot (name:=Str.ofString "__next__") gT F.slot_zip_next (wpAny_call_entry F.slot_zip_next gT F.entry_zip_next
   (yB S1 S2 N I hf gz gI gO g1 g2 hg.1 hg.2 fun x y h' I' yx yy gz' gI' gO' g1' g2'=>ED ⟨_,rfl,?_⟩) (F.args_zip_next_1 _))))
  have lt:∀b∈[z,TI,TO,i1,i2],b≠s.heap.objs.size:=fun b hb=>by
   obtain⟨f0,f1,f2,f3,f4,f5⟩:=hf b hb
   simp only[List.mem_cons,List.not_mem_nil,or_false]at hb
   rcases hb with rfl | rfl | rfl | rfl | rfl
   ·exact Nat.ne_of_lt (EH gz)
   ·exact Nat.ne_of_lt (EH gI)
   ·exact Nat.ne_of_lt (EH gO)
   ·obtain⟨o,e,_⟩:=S1.obj _ _ g1;exact Nat.ne_of_lt (EH e)
   ·obtain⟨o,e,_⟩:=S2.obj _ _ g2;exact Nat.ne_of_lt (EH e)
  have fz:bO X pins (upd H s.heap.objs.size (.tup [x,y])) z:=by
   obtain⟨c0,c1,c2,c3,c4,c5⟩:=hf z (by simp)
   exact⟨by rw[aL (lt z (by simp))];exact c0,c1,c2,c3,c4,c5⟩
  obtain⟨a',c',gO'⟩:=gO'
  refine wpAny_letOwnedTupleGo_zip (s:={ s with heap:=h' }) gz' fun k gk bk=>?_
  refine⟨.ref s.heap.objs.size,upd H s.heap.objs.size (.tup [x,y]),Inv.same I' fz bk.extBut,rfl,⟨_,x,y,rfl,I.hok.fresh (Nat.le_refl _),rfl,yx,yy⟩,
   ⟨gk,bk.extBut _ _ N.a gI',⟨_,_,bk.extBut _ _ N.b gO'⟩,S1.keep _ _ _ g1' fun o e=>bk.extBut _ _ N.c e,S2.keep _ _ _ g2' fun o e=>bk.extBut _ _ N.d e⟩,fun b hb=>?_⟩
  rw[aL (lt b hb)]
  exact(hf b hb).1
 done:=by
  intro X hP hw hK hc i pins s σ H E I hf st hg
  subst hP hw hK
  obtain⟨gz,gI,⟨a,c,gO⟩,g1,g2⟩:=st
  have gT:s.TypeIs (.ref z) "zip":=⟨_,gz,rfl⟩
  unfold pyNext
  refine EC (wpAny_attempt (wpAny_callSpecial?_slot (name:=Str.ofString "__next__") gT F.slot_zip_next (wpAny_call_entry F.slot_zip_next gT F.entry_zip_next
   (B3 (I.ok.hd hc) S1 S2 N I hf gz gI gO g1 g2 hg fun h' e I' he=>?_) (F.args_zip_next_1 _))))
  obtain⟨o,ho,hc'⟩:=he
  refine EC (wpAny_isInstance (s:={ s with heap:=h' }) (T:="StopIteration") (b:=true) ⟨o,ho,hc'⟩ isSubtype_stop ?_)
  exact ED ⟨rfl,I'⟩
 self:=fun _ _ _ _ _ st h=>wpAny_pyIter_zip st.1 h
abbrev kg(h:Heap)(a:Addr):Heap:=h.push { cls:=.type "tuple_iterator",data:=.fields #[.ref a,.int 0 0] }
abbrev jt(h:Heap)(a b:Addr):Heap:=(kg h a).push { cls:=.type "tuple_iterator",data:=.fields #[.ref b,.int 0 0] }
abbrev jy(h:Heap)(a b:Addr):Heap:=(jt h a b).push { cls:=.type "tuple",data:=.seq #[.ref h.objs.size,.ref (kg h a).objs.size] }
abbrev kP(h:Heap)(a b:Addr):Heap:=(jy h a b).push { cls:=.type "tuple",data:=.seq #[.none,.none] }
abbrev gM(h:Heap)(a b:Addr):Heap:=(kP h a b).push { cls:=.type "zip",data:=.fields #[.none,.bool false,.bool false,.ref (jt h a b).objs.size,.ref (jy h a b).objs.size] }
theorem zu(a b:Addr)(xs ys:Array Value):Meets (Builtin.«zip.__new__» ⟨[.type "zip",.ref a,.ref b],[]⟩) (fun _ R s=>s.heap.IsTuple a xs/\s.heap.IsTuple b ys/\R (.ok (.ret (.ref (kP s.heap a b).objs.size))) { s with heap:=gM s.heap a b }):=
 .of_wp fun prog w A R s q=>by
  obtain⟨hp,g,d,tk,os⟩:=s;obtain⟨ga,gb,q⟩:=q
  have hsub:=sub_zip
  have gA:Heap.IsTuple (Shared.heap ⟨hp,g,d,tk,os⟩) a xs:=ga
  have gB:Heap.IsTuple (Shared.heap ⟨hp.push { cls:=.type "tuple_iterator",data:=.fields #[.ref a,.int 0 0] },g,d,tk,os⟩) b ys:=Heap.IsTuple.push gb _
  wp_walk using wpAny_pyIter_tuple gA,wpAny_pyIter_tuple gB
  exact⟨_,rfl,q⟩
theorem Dh{prog:Program}{w:World}{A:Around}{E:Value->Shared->Prop}{s:Shared}{a b:Addr}{xs ys:Array Value}{Q:Value->Shared->Prop}(ga:s.heap.IsTuple a xs)(gb:s.heap.IsTuple b ys)
  (q:∀h',IsZip h' (s.heap.objs.size+4) (s.heap.objs.size+2) (s.heap.objs.size+3) .none->IsPair h' (s.heap.objs.size+2) (.ref s.heap.objs.size) (.ref (s.heap.objs.size+1))->IsPair h' (s.heap.objs.size+3) .none .none →
   h'.IsTupleIter s.heap.objs.size a 0->h'.IsTupleIter (s.heap.objs.size+1) b 0->(∀c o,s.heap.get? c=some o->h'.get? c=some o)->Q (.ref (s.heap.objs.size+4)) { s with heap:=h' }) :
  wpAny (model prog w) A (call (.type "zip") [.ref a,.ref b]) Q E s:=by
 refine callType_new F.called_zip (by decide) (F.typeCall_zip_2 _ _) (F.newCall_zip_2 _ _) (fun ob=>F.args_object_init_3 ob _ _) F.entry_zip_new (zu a b xs ys) ⟨ga,gb,?_⟩
 have n1:(kg s.heap a).objs.size=s.heap.objs.size+1:=Heap.size_push ..
 have n2:(jt s.heap a b).objs.size=s.heap.objs.size+2:=by rw[Heap.size_push,n1]
 have n3:(jy s.heap a b).objs.size=s.heap.objs.size+3:=by rw[Heap.size_push,n2]
 have n4:(kP s.heap a b).objs.size=s.heap.objs.size+4:=by rw[Heap.size_push,n3]
 have k5:(gM s.heap a b).get? (kP s.heap a b).objs.size=some _:=EG _ rfl
 have k4:(gM s.heap a b).get? (jy s.heap a b).objs.size=some _:=EF _ (EG _ rfl)
 have k3:(gM s.heap a b).get? (jt s.heap a b).objs.size=some _:=EF _ (EF _ (EG _ rfl))
 have k2:(gM s.heap a b).get? (kg s.heap a).objs.size=some _:=EF _ (EF _ (EF _ (EG _ rfl)))
 have k1:(gM s.heap a b).get? s.heap.objs.size=some _:=EF _ (EF _ (EF _ (EF _ (EG _ rfl))))
 show _/\_
 rw[n2,n3,n4]at k5
 rw[n1,n2]at k3
 rw[n3]at k4
 rw[n1]at k2
 rw[n4]
 exact⟨⟨_,k5,rfl⟩,q _ k5 k3 k4 ⟨_,k1,rfl,rfl⟩ ⟨_,k2,rfl,rfl⟩ fun c o x=>EF _ (EF _ (EF _ (EF _ (EF _ x))))⟩
section
variable {K:EE} {σ:St} {H:Hp} {Q:VK}
def lS(K:EE):List V->Hp->(It->Hp->Prop)->Prop:=fun vs H R=>∃a b xs ys,vs=[.ref a,.ref b]/\((aj K H a xs/\aj K H b ys/\R (fW (bT K a) (bT K b)) H)\/(ag K H a xs/\ag K H b ys/\R (fW (b6 K a) (b6 K b)) H))
def pN(K:EE)(ta:TA):TI:=fun σ H R=>ta σ H fun vs H1=>lS K vs H1 R
theorem BF{X:Cx}{elts:List Expr}{kk:Nat}{ps:Pos}(K:EE){a b:Expr}{ta:TA}{p pos:Pos}(hg:Gl X "zip")(hm:X.mg "zip" = none)(ha:PA X [a,b] ta)(hK:X.K=K:=by rfl)(hs:starEach [a,b] X.env=[(false,eval a X.env),(false,eval b X.env)]:=by rfl)(hs2:starEach [b] X.env=[(false,eval b X.env)]:=by rfl):
  PI X (.Tuple elts kk ps) (.Call (.Name "zip" p) [a,b] [] pos) (pN K ta):=by
 subst hK
 intro pins s σ H R I h
 refine Call_ (eJ I hg hm PyProof.Rows.boot_zip (PyProof.Rows.callWith_type1 (au (ha pos pins s σ H _ I h) fun us s1 ⟨vs,H1,I1,r1,q1⟩=>?_) (by rw[hs,hs2]) (by rw[hs2];rfl)))
 obtain⟨l,m,xs,ys,e,q1⟩:=q1
 subst e
 cases r1 with
 | cons r rr=>
  cases rr with
  | cons r' rr=>
   cases rr
   cases r
   cases r'
   have mk:∀{J1 J2:It} {t1 t2:Nat->Heap->Prop},Sub X.prog X.w X.K J1 s1.heap.objs.size t1->Sub X.prog X.w X.K J2 (s1.heap.objs.size+1) t2->∀h',IsZip h' (s1.heap.objs.size+4) (s1.heap.objs.size+2) (s1.heap.objs.size+3) .none->IsPair h' (s1.heap.objs.size+2) (.ref s1.heap.objs.size) (.ref (s1.heap.objs.size+1)) →
     IsPair h' (s1.heap.objs.size+3) .none .none->t1 0 h'->t2 0 h'->(∀c o,s1.heap.get? c=some o->h'.get? c=some o)->R (fW J1 J2) H1->wpAny (model X.prog X.w) X.A (pyIter (.ref (s1.heap.objs.size+4))) (nq X pins σ (.Tuple elts kk ps) R) X.xe { s1 with heap:=h' }:=by
    intro J1 J2 t1 t2 S1 S2 h' gz gI gO g1 g2 k q
    refine wpAny_pyIter_zip (s:={ s1 with heap:=h' }) gz ?_
    have N:Apart (s1.heap.objs.size+4) (s1.heap.objs.size+2) (s1.heap.objs.size+3) s1.heap.objs.size (s1.heap.objs.size+1):=by
     constructor<;>(intro h;have h':@Eq Nat _ _:=h;omega)
    refine⟨s1.heap.objs.size+4,[s1.heap.objs.size+4,s1.heap.objs.size+2,s1.heap.objs.size+3,s1.heap.objs.size,s1.heap.objs.size+1],_,_,H1,rfl,I1.kept (t':=s1.toks) k,xU S1 S2 N,⟨gz,gI,⟨_,_,gO⟩,g1,g2⟩,fun b hb=>?_,q⟩
    have le:@LE.le Nat _ s1.heap.objs.size b:=by
     simp only[List.mem_cons,List.not_mem_nil,or_false]at hb
     rcases hb with rfl | rfl | rfl | rfl | rfl
     ·exact Nat.le_add_right _ _
     ·exact Nat.le_add_right _ _
     ·exact Nat.le_add_right _ _
     ·exact Nat.le_refl _
     ·exact Nat.le_add_right _ _
    exact I1.fpOk le (I1.hok.fresh le)
   rcases q1 with⟨ga,gb,q⟩ | ⟨ga,gb,q⟩
   ·obtain⟨its,_,p1,_⟩:=I1.tuple ga
    obtain⟨its2,_,p2,_⟩:=I1.tuple gb
    exact Dh (show s1.heap.IsTuple l its.toArray from p1) (show s1.heap.IsTuple m its2.toArray from p2) fun h' gz gI gO g1 g2 k=>mk (sD l _) (sD m _) h' gz gI gO g1 g2 k q
   ·obtain⟨its,_,p1,_⟩:=I1.list ga
    obtain⟨its2,_,p2,_⟩:=I1.list gb
    exact call_zip_2 p1.isList p2.isList fun h' gz gI gO g1 g2 _ k=>mk (rO l _) (rO m _) h' gz gI gO g1 g2 k q
theorem rd_zip{a:TA}{R:It->Hp->Prop}(h:a σ H fun vs H1=>lS K vs H1 R):pN K a σ H R:=h
theorem Cy{a b:Addr}{xs ys:List V}{R:It->Hp->Prop}(ha:ag K H a xs)(hb:ag K H b ys)(h:R (fW (b6 K a) (b6 K b)) H):lS K [.ref a,.ref b] H R:=⟨a,b,xs,ys,rfl,.inr ⟨ha,hb,h⟩⟩
theorem EB{a b:Addr}{xs ys:List V}{n:Nat}{js:List Nat}{g:TG}{tc:TT}{te:TE}(Pv:Nat->List V->Hp->Prop)(hz:xs.length<=sizeLine)(h0:Pv 0 [] H)(hl:∀i zs H,Pv i zs H->aj K H a xs/\aj K H b ys/\zs.length<=i)
  (hs:∀i u v zs H p H',xs[i]?=some u->ys[i]?=some v->Pv i zs H->Ext H H'->H' p=some (.tup [u,v])->H p=none->g (.ref p) (cp n js σ) H' fun σ2 H3=>tc σ2 H3 fun b H4=>if b=true then te σ2 H4 fun v H5=>Pv (i+1) (zs++[v]) H5 else Pv (i+1) zs H4)
  (hd:∀zs H p,Pv (min xs.length ys.length) zs H->H p=none->Q (.ref p) (upd H p (.lst zs))):fG (fW (bT K a) (bT K b)) n js g tc te σ H Q:=by
 refine⟨fun i m zs H=>m=min xs.length ys.length-i/\i<=min xs.length ys.length/\Pv i zs H,⟨min xs.length ys.length,by simp,Nat.zero_le _,h0⟩,?_⟩
 rintro i m zs H ⟨rfl,hi,p⟩
 obtain⟨qa,qb,ql⟩:=hl i zs H p
 by_cases hlt:i<min xs.length ys.length
 ·have hx:i<xs.length:=by omega
  have hy:i<ys.length:=by omega
  refine .inr ⟨⟨⟨xs,xs[i],qa,by simp[hx]⟩,⟨ys,ys[i],qb,by simp[hy]⟩⟩,by omega,Pv (i+1),fun zs' H' p'=>⟨min xs.length ys.length-(i+1),by omega,rfl,hlt,p'⟩,fun x H' y=>?_⟩
  obtain⟨pp,u,v,rfl,hn,rfl,yu,yv⟩:=y
  exact hs i u v zs H pp _ (yu.2 xs qa) (yv.2 ys qb) p (bM hn) aY hn
 ·have e:i=min xs.length ys.length:=by omega
  refine .inl ⟨?_,fun p' hp=>hd zs H p' (e ▸ p) hp⟩
  by_cases h:xs.length<=i
  ·exact .inl ⟨xs,qa,h⟩
  ·exact .inr ⟨⟨xs,xs[i]'(by omega),qa,EJ (by omega)⟩,⟨ys,qb,by omega⟩⟩
theorem Ak{a b:Addr}{xs ys:List V}{n:Nat}{js:List Nat}{g:TG}{tc:TT}{te:TE}(Pv:Nat->List V->Hp->Prop)(hz:xs.length<=sizeLine)(h0:Pv 0 [] H)(hl:∀i zs H,Pv i zs H->ag K H a xs/\ag K H b ys/\zs.length<=i)
  (hs:∀i u v zs H p H',xs[i]?=some u->ys[i]?=some v->Pv i zs H->Ext H H'->H' p=some (.tup [u,v])->H p=none->g (.ref p) (cp n js σ) H' fun σ2 H3=>tc σ2 H3 fun b H4=>if b=true then te σ2 H4 fun v H5=>Pv (i+1) (zs++[v]) H5 else Pv (i+1) zs H4)
  (hd:∀zs H p,Pv (min xs.length ys.length) zs H->H p=none->Q (.ref p) (upd H p (.lst zs))):fG (fW (b6 K a) (b6 K b)) n js g tc te σ H Q:=by
 refine⟨fun i m zs H=>m=min xs.length ys.length-i/\i<=min xs.length ys.length/\Pv i zs H,⟨min xs.length ys.length,by simp,Nat.zero_le _,h0⟩,?_⟩
 rintro i m zs H ⟨rfl,hi,p⟩
 obtain⟨qa,qb,ql⟩:=hl i zs H p
 by_cases hlt:i<min xs.length ys.length
 ·have hx:i<xs.length:=by omega
  have hy:i<ys.length:=by omega
  refine .inr ⟨⟨⟨xs,xs[i],qa,by simp[hx]⟩,⟨ys,ys[i],qb,by simp[hy]⟩⟩,by omega,Pv (i+1),fun zs' H' p'=>⟨min xs.length ys.length-(i+1),by omega,rfl,hlt,p'⟩,fun x H' y=>?_⟩
  obtain⟨pp,u,v,rfl,hn,rfl,yu,yv⟩:=y
  exact hs i u v zs H pp _ (yu.2 xs qa) (yv.2 ys qb) p (bM hn) aY hn
 ·have e:i=min xs.length ys.length:=by omega
  refine .inl ⟨?_,fun p' hp=>hd zs H p' (e ▸ p) hp⟩
  by_cases h:xs.length<=i
  ·exact .inl ⟨xs,qa,h⟩
  ·exact .inr ⟨⟨xs,xs[i]'(by omega),qa,EJ (by omega)⟩,⟨ys,qb,by omega⟩⟩
end
theorem yN{prog:Program}{w:World}{A:Around}{E:Value->Shared->Prop}{s:Shared}{t sl:Addr}{ys:Array Value}{vl vu:Value}{lo hi:Option Int}{Q:Value->Shared->Prop}(gt:IsTup s.heap t ys)(gs:s.heap.IsSliceOf sl vl vu .none)(pl:IsPart vl lo)(pu:IsPart vu hi)
  (gw:HT.aH ys.size 0 lo=0/\HT.aH ys.size ys.size hi=ys.size) (q:Q (.ref t) s):wpAny (model prog w) A (getItem (.ref t) (.ref sl)) Q E s:=by
 obtain⟨u,gu,gc,gd⟩:=id gs
 have gT:s.TypeIs (.ref sl) "slice":=⟨u,gu,gc⟩
 unfold getItem
 try with_reducible refine wpAny_holding ?_
 first | refine EC (ED ?_) | skip
 refine EC (wpAny_sequenceKey gt.typeIs (by decide) ?_)
 refine EC (wpAny_callSpecial?_slot (name:=Str.ofString "__getitem__") gt.typeIs PyProof.Rows.slot_tuple_getitem (wpAny_call_entry PyProof.Rows.slot_tuple_getitem gt.typeIs entry_tuple_getitem ?_ (args_tuple_getitem _ _)))
 show wpAny _ _ (Builtin.Tuple.tupleItemsOf (Value.ref t) >>= _) _ _ s
 refine EC (tupleItemsOf_ gt ?_)
 refine EC (wpAny_typeOf gT ?_)
 rw[if_pos (by decide)]
 refine EC (HT.uO gs pl pu ?_)
 show wpAny _ _ (if(((HT.aH ys.size 0 lo:Nat):Int) == 0 && (1:Int) == 1 && (HT.aH ys.size ys.size hi-HT.aH ys.size 0 lo) == ys.size)=true then _ else _) _ _ s
 rw[if_pos (by rw[gw.1,gw.2];simp)]
 show wpAny _ _ (Builtin.Tuple.tupleIsExact (Value.ref t) >>= _) _ _ s
 unfold Builtin.Tuple.tupleIsExact
 refine EC (EC (wpAny_typeOf gt.typeIs (ED ?_)))
 rw[if_pos (by decide)]
 refine EC (wpAny_rule ?_)
 exact ED ⟨_,rfl,ED q⟩
def vM:V->Option Int->Option Int->Hp->VK->Prop:=fun x lo hi H Q=>∃a xs,x=.ref a/\H a=some (.tup xs)/\∀p H',Ext H H'->H' p=some (.tup (ck xs lo hi))->Q (.ref p) H'
theorem vV{X:Cx}:iD X vM:=by
 intro pins s σ H x v vl vu lo hi sl Q I rx hs pl pu h
 obtain⟨a,xs,rfl,hx,q⟩:=h
 by_cases gw:HT.aH xs.length 0 lo=0/\HT.aH xs.length xs.length hi=xs.length
 ·cases rx
  obtain⟨its,r,ht,hz⟩:=I.tuple (aj.of hx)
  have hlen:its.toArray.size=xs.length:=by rw[EN];exact r.length.symm
  refine⟨"tuple",_,PyProof.Rows.slot_tuple_getitem.lookup,ht.typeIs,?_⟩
  refine yN ht hs pl pu (by rw[hlen];exact gw) ⟨.ref a,H,I,rfl,q a H (Ext.rfl' H) ?_⟩
  have:ck xs lo hi=xs:=by
   unfold ck
   rw[gw.1,gw.2,List.drop_zero,Nat.sub_zero,List.take_length]
  rw[this]
  exact hx
 ·exact yo pins s σ H (.ref a) v vl vu lo hi sl Q I rx hs pl pu ⟨a,xs,rfl,aj.of hx,gw,fun p hp=>q p _ (bM hp) aY⟩
theorem vz{H:Hp}{Q:VK}{a:Addr}{xs:List V}{lo hi:Option Int}(e:H a=some (.tup xs))(h:∀p H',Ext H H'->H' p=some (.tup (ck xs lo hi))->Q (.ref p) H'):vM (.ref a) lo hi H Q:=⟨a,xs,rfl,e,h⟩
def vo:R2:=fun x y H Q=>∃a b xs ys,x=.ref a/\y=.ref b/\H a=some (.tup xs)/\H b=some (.tup ys)/\xs.length+ys.length<=sizeLine/\∀p H',Ext H H'->H' p=some (.tup (xs++ys))->Q (.ref p) H'
theorem lu{X:Cx}:aZ X (binaryOp .Add) vo:=by
 intro pins s σ H x y v u Q I rx ry h
 obtain⟨a,b,xs,ys,rfl,rfl,ha,hb,hz,q⟩:=h
 cases rx
 cases ry
 by_cases hx:xs=[]
 ·subst hx
  obtain⟨its,r1,p1,_⟩:=I.tuple (aj.of ha)
  obtain⟨its2,r2,p2,_⟩:=I.tuple (aj.of hb)
  have e:=r1.nil_iff.mpr rfl
  subst e
  obtain⟨⟨cls,dd,data,sl⟩,ho,hc,n,hd⟩:=id p1
  obtain⟨⟨cls2,dd2,data2,sl2⟩,ho2,hc2,n2,hd2⟩:=id p2
  simp only at hc hd hc2 hd2
  subst hc hd hc2 hd2
  refine concat_meets ⟨_,ho,rfl⟩ ⟨_,ho2,rfl⟩ noFill_tuple_add seq_tuple_add PySem.F.slot_tuple_add PySem.F.entry_tuple_add (PySem.F.args_tuple_add_2 _ _)
   (tuple_addW0 a b _ _ n n2 dd dd2 sl sl2 (by simp)) ⟨ho,ho2,⟨.ref b,H,I,rfl,q b H (fun _ _ h=>h) (by simpa using hb)⟩⟩
 ·refine yK pins s σ H (.ref a) (.ref b) _ _ Q I rfl rfl ⟨a,b,xs,ys,rfl,rfl,aj.of ha,aj.of hb,hx,hz,fun hy=>?_,fun hy p hp=>?_⟩
  ·subst hy
   exact q a H (fun _ _ h=>h) (by simpa using ha)
  ·exact q p _ (bM hp) aY
theorem nV{H:Hp}{Q:VK}{a b:Addr}{xs ys:List V}(ha:H a=some (.tup xs))(hb:H b=some (.tup ys))(hz:xs.length+ys.length<=sizeLine)(h:∀p H',Ext H H'->H' p=some (.tup (xs++ys))->Q (.ref p) H'):vo (.ref a) (.ref b) H Q:=⟨a,b,xs,ys,rfl,rfl,ha,hb,hz,h⟩
theorem Dl{K:EE}{H:Hp}{Q:VK}{p:Addr}{ys:List V}(e:aj K H p ys)(h:dO H (.lst ys) Q):lD K [.ref p] H Q:=⟨p,ys,rfl,.inr e,h⟩
end L2
namespace L2
open PySem PySem.Spec PyProof.Rows
mutual
inductive LitE:Expr->TE->Prop
 | non {j pos}:LitE (.Constant .none j pos) (tC .non)
 | bl {b j pos}:LitE (.Constant (.bool b) j pos) (tC (.bl b))
 | int {i j pos}:LitE (.Constant (.int i) j pos) (tC (.int i))
 | str {x j pos}:LitE (.Constant (.str x) j pos) (tC (.str x))
 | tup {es ta k pos}:LitsE es ta->LitE (.Tuple es k pos) (mz ta)
inductive LitsE:List Expr->TA->Prop
 | nil:LitsE [] oa
 | cons {e te es ta}:LitE e te->LitsE es ta->LitsE (e::es) (jg te ta)
end
theorem LitE.star{e:Expr}{te:TE}(h:LitE e te)(es:List Expr)(env:Env):starEach (e::es) env=(false,eval e env)::starEach es env:=by
 cases h<;>rfl
end L2
namespace L2
open PySem PySem.Spec PyProof.Rows
section
variable {X:Cx} {pins:List (Addr×Obj)} {σ:St} {H:Hp} {s:Shared}
end
section
variable {X:Cx} {pins:List (Addr×Obj)} {σ:St} {H:Hp} {s:Shared}
end
end L2
namespace L2
open PySem PySem.Spec PyProof.Rows
section
variable {P:Program} {w:World} {K:EE} {mg:Str->Option Value} {base:Heap}
end
end L2
namespace L2
open PySem PySem.Spec PyProof.Rows
section
variable {prog:Program} {w:World} {A:Around} {E:Value->Shared->Prop}
theorem vx{it l:Addr}{ys:Array Value}(ne:l≠it):∀(n i:Nat) (s:Shared) (Q:List Value->Shared->Prop),s.heap.IsListIter it l i->s.heap.IsList l ys->i+n<=ys.size →
  (∀h',h'.IsListIter it l (i+n)->Heap.SameBut it s.heap h'->Q ((ys.toList.drop i).take n) { s with heap:=h' })->wpAny (model prog w) A (draw (.ref it) n) Q E s
 | 0,i,s,Q,gi,_,_,q=>by
  show wpAny _ _ (pure []) Q E s
  exact ED (by simpa using q s.heap gi (Heap.SameBut.refl ..))
 | n+1,i,s,Q,gi,gl,le,q=>by
  have lt:i<ys.size:=by omega
  show wpAny _ _ (pyNext (Value.ref it) >>= _) Q E s
  refine EC (wpAny_pyNext_list_item gi gl (x:=ys[i]) (by simp[lt]) fun k1 g1 b1=>?_)
  refine EC (wpAny_holding (vx ne n (i+1) _ _ g1 (gl.extBut b1.extBut ne) (by omega) fun k2 g2 b2=>ED ?_))
  have e:ys.toList.drop i=ys[i]::ys.toList.drop (i+1):=by simp[List.drop_eq_getElem_cons,lt]
  have:=q k2 (by rw[show i+(n+1)=i+1+n by omega];exact g2) (b1.trans b2)
  rw[e,List.take_succ_cons]at this
  exact this
theorem zX{s:Shared}{l:Addr}{ys:Array Value}{Q:List Value->Shared->Prop}(hA:A.handled=none)(gl:s.heap.IsList l ys)
  (q:∀h',Heap.ExtBut s.heap.objs.size s.heap h'->Q ys.toList { s with heap:=h' }):wpAny (model prog w) A (unpackItems (.ref l) ys.size none) Q E s:=by
 have lt:l≠s.heap.objs.size:=by obtain⟨o,e,_⟩:=gl;exact Nat.ne_of_lt (EH e)
 unfold unpackItems
 refine EC ?_
 unfold notIterableAtAll
 refine EC (wpAny_specialOf gl.typeIs slot_list_iter.lookup ?_)
 refine ED ?_
 simp only[Bool.false_eq_true,if_false]
 refine EC (wpAny_holding (wpAny_pyIter_list gl ?_))
 refine EC (wpAny_holding (vx lt ys.size 0 _ _ ⟨_,EG _ rfl,rfl,rfl⟩ (gl.push _) (by omega) fun k1 g1 b1=>?_))
 rw[show List.take ys.size (List.drop 0 ys.toList)=ys.toList by rw[List.drop_zero];exact List.take_of_length_le (by simp),if_neg (by simp)]
 refine EC (wpAny_holding (wpAny_pyNext_list_end hA g1 ((gl.push _).extBut b1.extBut lt) (by simp) fun k2 b2=>?_))
 simp only[Option.isSome_none,Bool.false_eq_true,if_false]
 exact ED (q k2 fun b o nb e=>b2 b o nb (b1.extBut b o nb (EF _ e)))
theorem Dt{s:Shared}{env:Env}{es:List Expr}{k:Nat}{pos:Pos}{l:Addr}{ys:Array Value}{Q:Unit->Shared->Prop}(hA:A.handled=none)(gl:s.heap.IsList l ys)(hn:(assignEach es env).length=ys.size)(hst:(assignEach es env).findIdx? (·.1)=none)
  (h:∀h',Heap.ExtBut s.heap.objs.size s.heap h'->wpAny (model prog w) A (assignInOrder ((assignEach es env).map (·.2)) ys.toList) Q E { s with heap:=h' }):wpAny (model prog w) A (assign (.Tuple es k pos) env (.ref l)) Q E s:=by
 rw[arm_assign_Tuple]
 refine EC (wpAny_standAt ?_)
 unfold unpack
 rw[hn,hst]
 exact EC (wpAny_holding (zX hA gl h))
end
section
variable {X:Cx} {pos:Pos}
def sA(K:EE)(n:Nat)(t:cV):TG:=fun v σ H Q=>∃a xs,v=.ref a/\ag K H a xs/\xs.length=n/\t xs σ H Q
theorem zP{es:List Expr}{k:Nat}{t:cV}{n:Nat}(K:EE)(hc:X.calm=true)(h:gU X es t)(hK:X.K=K:=by rfl)
  (hn:(assignEach es X.env).length=n:=by rfl) (hst:(assignEach es X.env).findIdx? (·.1)=none:=by rfl):PG X (.Tuple es k pos) (sA K n t):=by
 subst hK
 intro pins s σ H v u Q I r hw
 obtain⟨a,xs,e1,hq,hl,hw⟩:=hw
 subst e1
 cases r
 obtain⟨its,rv,ht,hz⟩:=I.list hq
 refine Dt (I.ok.hd hc) ht.isList (by simp[hn,←hl,rv.length]) hst fun h' hx=>?_
 have I1:Inv X pins σ H { s with heap:=h' }:=I.kept (t':=s.toks) fun b o e=>hx b o (Nat.ne_of_lt (EH e)) e
 exact h pins _ σ H xs _ Q I1 (by simpa using rv) hw
end
theorem A5{K:EE}{σ:St}{H:Hp}{n:Nat}{g:cV}{a:Addr}{xs:List V}{R:St->Hp->Prop}(e:ag K H a xs)(hl:xs.length=n)(h:g xs σ H R):sA K n g (.ref a) σ H R:=⟨a,xs,rfl,e,hl,h⟩
theorem rd_par{i j:Nat}{ta:TA}{D:Ends}{σ:St}{H:Hp}(h:ta σ H fun vs H1=>∃v w,vs=[v,w]/\D.nx ((σ.set i (some v)).set j (some w)) H1):pU i j ta D σ H:=h
theorem rd_par2{v w:V}{R:V->V->Prop}(h:R v w):∃a b,[v,w]=[a,b]/\R a b:=⟨v,w,rfl,h⟩
end L2
namespace L2
open PySem PySem.Spec PyProof.Rows
section
variable {κ:Type} [DecidableEq κ]
def bC(kvs:List (κ×V))(k:κ):Option V:=(kvs.find? fun kv=>decide (kv.1=k)).map (·.2)
def putK(kvs:List (κ×V))(k:κ)(v:V):List (κ×V):=
 if(kvs.any fun kv=>decide (kv.1=k))=true then kvs.map (fun kv=>if kv.1=k then(kv.1,v)else kv)else kvs++[(k,v)]
theorem kU{p:κ×V}{r:List (κ×V)}{k:κ}(e:p.1=k):bC (p::r) k=some p.2:=by simp[bC,List.find?_cons,e]
theorem iG{p:κ×V}{r:List (κ×V)}{k:κ}(e:¬p.1=k):bC (p::r) k=bC r k:=by simp[bC,List.find?_cons,e]
theorem mi(k:κ):∀kvs:List (κ×V),(kvs.any fun kv=>decide (kv.1=k))=(bC kvs k).isSome
 | []=>rfl
 | p::r=>by
  rw[List.any_cons]
  by_cases e:p.1=k
  ·simp only[kU e,decide_eq_true e,Bool.true_or,Option.isSome_some]
  ·rw[iG e,decide_eq_false e,Bool.false_or];exact mi k r
theorem qC(kvs:List (κ×V))(k:κ)(v:V):(putK kvs k v).length<=kvs.length+1:=by
 unfold putK
 split
 ·rw[EI];omega
 ·rw[List.length_append,List.length_cons,List.length_nil];omega
theorem yh{kvs:List (κ×V)}{k:κ}(v:V)(h:bC kvs k=none):putK kvs k v=kvs++[(k,v)]:=by
 unfold putK
 rw[mi,h]
 exact if_neg (by decide)
theorem dg.isSome_eq{o:Option V}{u:Option Value}(r:dg o u):o.isSome=u.isSome:=by
 cases o with
 | none=>cases u with
  | none=>rfl
  | some _=>exact(show False from r).elim
 | some _=>cases u with
  | none=>exact(show False from r).elim
  | some _=>rfl
theorem KV.val{kvs:List (κ×V)}{vs:List (κ×Value)}(r:KV kvs vs)(k:κ):dg (bC kvs k) (valueAt vs k):=by
 unfold KV at r
 induction r with
 | nil=>exact True.intro
 | @cons p q ps qs h t ih=>
  obtain⟨h1,h2⟩:=h
  by_cases e:p.1=k
  ·have e':q.1=k:=h1.symm.trans e
   have b:valueAt (q::qs) k=some q.2:=by simp[valueAt,List.find?_cons,e']
   rw[kU e,b];exact h2
  ·have e':¬q.1=k:=fun z=>e (h1.trans z)
   have b:valueAt (q::qs) k=valueAt qs k:=by simp[valueAt,List.find?_cons,e']
   rw[iG e,b];exact ih
theorem KV.any{kvs:List (κ×V)}{vs:List (κ×Value)}(r:KV kvs vs)(k:κ):(kvs.any fun kv=>decide (kv.1=k))=vs.any fun kv=>decide (kv.1=k):=by
 unfold KV at r
 induction r with
 | nil=>rfl
 | cons h t ih=>rw[List.any_cons,List.any_cons,ih,h.1]
theorem KV.repl{kvs:List (κ×V)}{vs:List (κ×Value)}(r:KV kvs vs)(k:κ){y:V}{u:Value}(ry:RelV y u):
  KV (kvs.map fun kv=>if kv.1=k then(kv.1,y)else kv) (vs.map fun kv=>if kv.1=k then(kv.1,u)else kv):=by
 unfold KV at r ⊢
 induction r with
 | nil=>exact .nil
 | @cons p q ps qs h t ih=>
  rw[List.map_cons,List.map_cons]
  refine .cons ?_ ih
  obtain⟨h1,h2⟩:=h
  by_cases e:p.1=k
  ·rw[if_pos e,if_pos (h1.symm.trans e)];exact⟨h1,ry⟩
  ·rw[if_neg e,if_neg (fun z=>e (h1.trans z))];exact⟨h1,h2⟩
theorem KV.put{kvs:List (κ×V)}{vs:List (κ×Value)}(r:KV kvs vs)(k:κ){y:V}{u:Value}(ry:RelV y u):KV (putK kvs k y) (stored vs k u):=by
 unfold putK stored
 rw[r.any k]
 by_cases e:(vs.any fun kv=>decide (kv.1=k))=true
 ·rw[if_pos e,if_pos e];exact r.repl k ry
 ·rw[if_neg e,if_neg e];exact Paired.snoc r ⟨rfl,ry⟩
theorem KV.keys{kvs:List (κ×V)}{vs:List (κ×Value)}(r:KV kvs vs):kvs.map (·.1)=vs.map (·.1):=by
 unfold KV at r
 induction r with
 | nil=>rfl
 | cons h t ih=>rw[List.map_cons,List.map_cons,ih,h.1]
theorem KV.length{kvs:List (κ×V)}{vs:List (κ×Value)}(r:KV kvs vs):kvs.length=vs.length:=Paired.length r
end
theorem h8{P:Program}{w:World}{k:Key}{u:Value}(r:RelV (kV k) u):(aE P w).is k u=true:=by
 cases k with
 | inl i=>obtain⟨t,e⟩:=(show ∃t,u=Value.int i t from r);subst e;exact wL P w i t
 | inr x=>obtain⟨t,e⟩:=(show ∃t,u=Value.str x t from r);subst e;exact mj P w x t
theorem n8{P:Program}{w:World}:∀{ks:List Key} {us:List Value},Vals (ks.map kV) us->ItemsAre (aE P w) ks us
 | [],_,r=>by rw[List.map_nil]at r;cases r;exact .nil
 | k::ks,_,r=>by
  rw[List.map_cons]at r
  cases r with
  | cons h t=>exact .cons (h8 h) (n8 t)
abbrev KT(H:Hp):List (List Key×V)->List (List Key×Addr×Value)->Prop:=Paired fun p q=>p.1=q.1/\H q.2.1=some (.tup (p.1.map kV))/\RelV p.2 q.2.2
theorem KT.val{H:Hp}{kvs:List (List Key×V)}{xs:List (List Key×Addr×Value)}(r:KT H kvs xs)(k:List Key):dg (bC kvs k) ((atKey xs k).map (·.2)):=by
 induction r with
 | nil=>exact True.intro
 | @cons p q ps qs h t ih=>
  obtain⟨h1,_,h2⟩:=h
  by_cases e:p.1=k
  ·have e':q.1=k:=h1.symm.trans e
   have b:atKey (q::qs) k=some q.2:=by simp[atKey,List.find?_cons,e']
   rw[kU e,b];exact h2
  ·have e':¬q.1=k:=fun z=>e (h1.trans z)
   have b:atKey (q::qs) k=atKey qs k:=by simp[atKey,List.find?_cons,e']
   rw[iG e,b];exact ih
theorem KT.repl{H:Hp}{kvs:List (List Key×V)}{xs:List (List Key×Addr×Value)}(r:KT H kvs xs)(k:List Key){y:V}{u:Value}(ry:RelV y u):
  KT H (kvs.map fun kv=>if kv.1=k then(kv.1,y)else kv) (xs.map (putAt k u)):=by
 induction r with
 | nil=>exact .nil
 | @cons p q ps qs h t ih=>
  rw[List.map_cons,List.map_cons]
  refine .cons ?_ ih
  obtain⟨h1,h2,h3⟩:=h
  unfold putAt
  by_cases e:p.1=k
  ·rw[if_pos e,if_pos (h1.symm.trans e)];exact⟨h1,h2,ry⟩
  ·rw[if_neg e,if_neg (fun z=>e (h1.trans z))];exact⟨h1,h2,h3⟩
theorem KT.put{H:Hp}{kvs:List (List Key×V)}{xs:List (List Key×Addr×Value)}(r:KT H kvs xs)(k:List Key){b:Addr}{y:V}{u:Value}(hb:H b=some (.tup (k.map kV)))(ry:RelV y u):
  KT H (putK kvs k y) (storedH xs k b u):=by
 have e:(kvs.any fun kv=>decide (kv.1=k))=(atKey xs k).isSome:=by
  rw[mi,(r.val k).isSome_eq,Option.isSome_map]
 unfold putK storedH
 rw[e]
 by_cases q:(atKey xs k).isSome=true
 ·rw[if_pos q,if_pos q];exact r.repl k ry
 ·rw[if_neg q,if_neg q];exact Paired.snoc r ⟨rfl,hb,ry⟩
theorem KT.keeps{H H':Hp}{kvs:List (List Key×V)}{xs:List (List Key×Addr×Value)}(r:KT H kvs xs)(ht:∀b ys,H b=some (.tup ys)->H' b=some (.tup ys)):KT H' kvs xs:=
 Paired.mapP r fun _ _ z=>⟨z.1,ht _ _ z.2.1,z.2.2⟩
section
variable {P:Program} {w:World} {H:Hp} {h:Heap} {a:Addr}
theorem rE{u:HO}(ok:bj P w H h)(e:Rd H a u):bp P w H h a u:=e.ok ok
theorem jw{kvs:List (Key×V)}(ok:bj P w H h)(e:Rd H a (.dK kvs)):kvs.length<=sizeLine/\(a == sysModules)=false/\∃vs,KV kvs vs/\h.DictOf (aE P w) a vs:=
 show bp P w H h a (.dK kvs)from rE ok e
theorem CQ{kvs:List (Key×V)}(ok:bj P w H h)(e:H a=some (.dK kvs)):kvs.length<=sizeLine/\(a == sysModules)=false/\∃vs,KV kvs vs/\h.DictOf (aE P w) a vs:=jw ok (.inl e)
theorem ia{ks:List Key}(ok:bj P w H h)(e:H a=some (.tup (ks.map kV))):(tupleKind (aE P w)).is h ks a:=by
 obtain⟨_,its,r,o,h1,h2,n,h3⟩:=(show bp P w H h a (.tup (ks.map kV))from ok a _ e)
 exact⟨o,its.toArray,n,h1,h2,h3,by simpa using n8 r⟩
theorem kK{kvs:List (List Key×V)}(ok:bj P w H h)(e:Rd H a (.dT kvs)):kvs.length<=sizeLine/\(a == sysModules)=false ∧
  ∃xs,KT H kvs xs/\h.DictOfH (tupleKind (aE P w)) a xs:=by
 obtain⟨z,y,xs,r,o,es,ep,h1,h2,h3,h4,h5⟩:=(show bp P w H h a (.dT kvs)from rE ok e)
 refine⟨z,y,xs,r,o,es,ep,h1,h2,h3,h4,fun x hx=>?_,h5⟩
 have all:∀{l:List (List Key×V)} {m:List (List Key×Addr×Value)},KT H l m->∀x∈m,(tupleKind (aE P w)).is h x.1 x.2.1:=by
  intro l m q
  induction q with
  | nil=>intro x hx;exact nomatch hx
  | @cons p q ps qs hq t ih=>
   intro x hx
   rcases List.mem_cons.mp hx with e | hx
   ·subst e
    exact ia ok (by rw[←hq.1];exact hq.2.1)
   ·exact ih x hx
 exact all r x hx
theorem oF{kvs:List (List Key×V)}(ok:bj P w H h)(e:H a=some (.dT kvs)):kvs.length<=sizeLine/\(a == sysModules)=false ∧
  ∃xs,KT H kvs xs/\h.DictOfH (tupleKind (aE P w)) a xs:=kK ok (.inl e)
end
def cQ(H:Hp)(a:Addr)(y:V)(r:Option V):Prop:=
 (∃kvs k,Rd H a (.dK kvs)/\y=kV k/\r=bC kvs k)\/∃kvs k b,Rd H a (.dT kvs)/\y=.ref b/\H b=some (.tup (k.map kV))/\r=bC kvs k
def gH(H:Hp)(a:Addr)(y v:V)(H':Hp):Prop:=
 (∃kvs k,H a=some (.dK kvs)/\y=kV k/\kvs.length<sizeLine/\H'=upd H a (.dK (putK kvs k v))) ∨
 ∃kvs k b,H a=some (.dT kvs)/\y=.ref b/\H b=some (.tup (k.map kV))/\kvs.length<sizeLine/\H'=upd H a (.dT (putK kvs k v))
theorem cQ.t{H:Hp}{a b:Addr}{kvs:List (List Key×V)}{k:List Key}(e:H a=some (.dT kvs))(eb:H b=some (.tup (k.map kV))):cQ H a (.ref b) (bC kvs k):=.inr ⟨kvs,k,b,.inl e,rfl,eb,rfl⟩
theorem gH.t{H:Hp}{a b:Addr}{kvs:List (List Key×V)}{k:List Key}{v:V}(e:H a=some (.dT kvs))(eb:H b=some (.tup (k.map kV)))(hl:kvs.length<sizeLine):
  gH H a (.ref b) v (upd H a (.dT (putK kvs k v))):=.inr ⟨kvs,k,b,e,rfl,eb,hl,rfl⟩
section
variable {X:Cx} {pins:List (Addr×Obj)} {σ:St} {H:Hp} {s:Shared} {a:Addr} {y v:V} {u r:Value} {o:Option V} {A:Around} {E:Value->Shared->Prop}
theorem Inv.big(I:Inv X pins σ H s):sysModules<s.heap.objs.size:=by
 have h:mainGlobals<s.heap.objs.size:=(I.mod.glob.keeps I.bk).lt
 exact Nat.lt_trans (by decide) h
theorem Dz{Q:Value->Shared->Prop}(hu:A.units+1<cLine)(I:Inv X pins σ H s)(g:cQ H a y (some v))(ry:RelV y u)(h:∀w' s',Inv X pins σ H s'->RelV v w'->Q w' s'):
  wpAny (model X.prog X.w) A (getItem (.ref a) u) Q E s:=by
 rcases g with⟨kvs,k,e,ey,l⟩ | ⟨kvs,k,b,e,ey,eb,l⟩
 ·subst ey
  obtain⟨z,hd,vs,rel,dd⟩:=jw I.hok e
  obtain⟨w',hw,rw'⟩:=dg.some_of (v:=v) (o:=valueAt vs k) (by rw[l];exact rel.val k)
  exact wpAny_getItem_of (h8 ry) dd.mapOf hw (h w' _ (I.tok _) rw')
 ·subst ey
  cases(show u=Value.ref b from ry)
  obtain⟨z,hd,xs,rel,dd⟩:=kK I.hok e
  obtain⟨w',hw,rw'⟩:=dg.some_of (v:=v) (o:=(atKey xs k).map (·.2)) (by rw[l];exact rel.val k)
  obtain⟨p,hp,hp2⟩:=Option.map_eq_some_iff.mp hw
  refine wpAny_getItem_heap (tupleKind_room_in1 hu) (ia I.hok eb) dd hp ?_
  rw[hp2]
  exact h w' _ (I.tok _) rw'
theorem wY{Q:Value->Shared->Prop}(hu:A.units+1<cLine)(I:Inv X pins σ H s)(g:cQ H a y o)(ry:RelV y u)(h:∀s',Inv X pins σ H s'->Q (.bool (!o.isSome)) s'):
  wpAny (model X.prog X.w) A (compareOp .NotIn u (.ref a)) Q E s:=by
 rcases g with⟨kvs,k,e,ey,l⟩ | ⟨kvs,k,b,e,ey,eb,l⟩
 ·subst ey
  obtain⟨z,hd,vs,rel,dd⟩:=jw I.hok e
  refine wpAny_notIn_of (h8 ry) hd dd.mapOf ?_
  rw[←(rel.val k).isSome_eq,←l]
  exact h _ (I.tok _)
 ·subst ey
  cases(show u=Value.ref b from ry)
  obtain⟨z,hd,xs,rel,dd⟩:=kK I.hok e
  refine wpAny_notIn_heap (tupleKind_room_in1 hu) (ia I.hok eb) hd dd ?_
  have q:=(rel.val k).isSome_eq
  rw[Option.isSome_map]at q
  rw[←q,←l]
  exact h _ (I.tok _)
theorem mL{h':Heap}{t':Nat}{ob:HO}(I:Inv X pins σ H s)(mu:ij (H a))(hs:Heap.SameBut a s.heap h')(he:∃q,h'.get? a=some q)(new:bp X.prog X.w (upd H a ob) h' a ob):
  Inv X pins σ (upd H a ob) { s with heap:=h',toks:=t' }:=
 I.write (x:=a) (e:=a) mu (.inl rfl) (fun b q hb z=>(hs.2 b hb).trans z) he new
theorem Cc{P:Program}{w:World}{H':Hp}{h':Heap}{kvs:List (Key×V)}{vs:List (Key×Value)}(z:kvs.length<=sizeLine)(hd:(a == sysModules)=false)(rel:KV kvs vs)(dd:h'.DictOf (aE P w) a vs):
  bp P w H' h' a (.dK kvs):=⟨z,hd,vs,rel,dd⟩
theorem DZ{H':Hp}{Q:Unit->Shared->Prop}(hu:A.units+1<cLine)(I:Inv X pins σ H s)(g:gH H a y v H')(ry:RelV y u)(rv:RelV v r)(h:∀s',Inv X pins σ H' s'->Q () s'):
  wpAny (model X.prog X.w) A (setItem (.ref a) u r) Q E s:=by
 rcases g with⟨kvs,k,e,ey,l,eH⟩ | ⟨kvs,k,b,e,ey,eb,l,eH⟩
 ·subst ey eH
  obtain⟨z,hd,vs,rel,dd⟩:=CQ I.hok e
  have hz:vs.length<=sizeLine:=by rw[←rel.length];exact z
  have hl:(putK kvs k v).length<=sizeLine:=by have:=qC kvs k v;omega
  refine wpAny_setItem_pairs (hsz:=hz) (h8 ry) dd fun h' dd' hs=>h _ ?_
  have he:∃q,h'.get? a=some q:=let ⟨q,_,_,hq,_⟩:=dd';⟨q,hq⟩
  exact mL I (by rw[e];exact True.intro) hs he (Cc hl hd (rel.put k rv) dd')
 ·subst ey eH
  cases(show u=Value.ref b from ry)
  obtain⟨z,hd,xs,rel,dd⟩:=oF I.hok e
  have hz:xs.length<=sizeLine:=by rw[←Paired.length rel];exact z
  have hl:(putK kvs k v).length<=sizeLine:=by have:=qC kvs k v;omega
  refine wpAny_setItem_heap (hsz:=hz) (tupleKind_room_in1 hu) (ia I.hok eb) dd fun h' dd' hs=>h _ ?_
  obtain⟨q,es,ep,hq,h2,h3,h4,_,h5⟩:=dd'
  refine mL I (by rw[e];exact True.intro) hs ⟨q,hq⟩ ⟨hl,hd,_,(rel.put k eb rv).keeps fun c ys ec=>?_,q,es,ep,hq,h2,h3,h4,h5⟩
  rw[aL (du ec e (fun z=>nomatch z))]
  exact ec
end
section
variable {X:Cx} {pins:List (Addr×Obj)} {σ:St} {H:Hp} {s:Shared} {a:Addr} {kvs:List (Key×V)} {k:Key} {u:Value} {A:Around} {E:Value->Shared->Prop}
end
def lM(i:Expr):Prop:=∀ov iv,subscripted i false ov iv=operate [ov,iv] (getItem ov iv)
theorem ur{prog:Program}{w:World}{A:Around}{E:Value->Shared->Prop}{s:Shared}{env:Env}{value slice:Expr}{pos:Pos}{T id:String}{Q:Value->Shared->Prop}
  (hl:typeLookup (.type T) "__getitem__" = pure (some (.builtin id))) (hs:lM slice)
  (h:wpAny (model prog w) A (eval value env) (fun o s₁=>wpAny (model prog w) A (eval slice env) (fun i s₂=>s₂.TypeIs o T/\wpAny (model prog w) A (getItem o i) Q E s₂) E s₁) E s) :
  wpAny (model prog w) A (eval (.Subscript value slice pos) env) Q E s:=by
 refine Subscript_ (wpAny_mono h (fun o s₁ h₁=>wpAny_mono h₁ (fun i s₂ h₂=>?_) fun _ _ x=>x) fun _ _ x=>x)
 obtain⟨hT,h₂⟩:=h₂
 unfold subscriptTail
 refine EC ?_
 rw[getitemInPython_of_ne hT.not_modules]
 refine EC (wpAny_specialOf hT hl ?_)
 have fin:wpAny (model prog w) A (subscripted slice false o i) (fun r s₃=>wpAny (model prog w) A (letTemporaryGo value o r >>= fun _=>pure r) Q E s₃) E s₂:=by
  rw[hs o i]
  exact wpAny_operating (wpAny_mono h₂ (fun r s₃ h₃=>EC (wpAny_letTemporaryGo (ED h₃))) fun _ _ x=>x)
 first
  | exact ED (EC fin)
  | exact EC (ED (EC fin))
  | exact EC fin
theorem xb{X:Cx}{pins:List (Addr×Obj)}{σ:St}{H:Hp}{s:Shared}{a:Addr}{y:V}{o:Option V}(I:Inv X pins σ H s)(g:cQ H a y o):s.TypeIs (.ref a) "dict":=by
 rcases g with⟨kvs,k,e,_,_⟩ | ⟨kvs,k,b,e,_,_,_⟩
 ·obtain⟨_,_,vs,_,dd⟩:=jw I.hok e
  exact dd.typeIs
 ·obtain⟨_,_,xs,_,dd⟩:=kK I.hok e
  exact dd.typeIs
def rM(td ty:TE):TE:=fun σ H Q=>td σ H fun x H1=>ty σ H1 fun y H2=>∃a v,x=.ref a/\cQ H2 a y (some v)/\Q v H2
def ve(ty td:TE):TE:=fun σ H Q=>ty σ H fun y H1=>td σ H1 fun x H2=>∃a o,x=.ref a/\cQ H2 a y o/\Q (.bl (!o.isSome)) H2
def o3(td ty tv:TE):TS:=fun D σ H=>tv σ H fun v H1=>td σ H1 fun x H2=>ty σ H2 fun y H3=>∃a H4,x=.ref a/\gH H3 a y v H4/\D.nx σ H4
section
variable {X:Cx} {o i e value:Expr} {pos pos' tpos:Pos} {td ty tv:TE}
theorem vX(hu:X.A.units+1<cLine)(ho:PE X o td)(hi:PE X i ty)(hs:lM i):PE X (.Subscript o i pos) (rM td ty):=by
 intro pins s σ H Q I h
 refine ur PySem.F.slot_dict_getitem.lookup hs (au (ho pins s σ H _ I h) fun u s1 ⟨x,H1,I1,rx,q1⟩=>au (hi pins s1 σ H1 _ I1 q1) fun iv s2 ⟨y,H2,I2,ry,a,v,ex,g,q2⟩=>?_)
 subst ex
 obtain rfl:u=Value.ref a:=rx
 exact⟨xb I2 g,Dz hu I2 g ry fun w' s3 I3 rw'=>⟨v,H2,I3,rw',q2⟩⟩
theorem lU(hu:X.A.units+1<cLine)(hi:PE X i ty)(ho:PE X o td):PC X .NotIn i o (ve ty td):=by
 intro pins s σ H Q I h
 refine au (hi pins s σ H _ I h) fun iv s1 ⟨y,H1,I1,ry,q1⟩=>au (ho pins s1 σ H1 _ I1 q1) fun u s2 ⟨x,H2,I2,rx,a,ov,ex,g,q2⟩=>?_
 subst ex
 obtain rfl:u=Value.ref a:=rx
 exact wY hu I2 g ry fun s3 I3=>⟨.bl (!ov.isSome),H2,I3,rfl,q2⟩
theorem yW(hu:X.A.units+1<cLine)(ho:PE X o td)(hi:PE X i ty)(hv:PE X value tv)(hs:swapsWith value (some (.Subscript o i pos')) pos.line X.env=pure false):
  PS X (.Assign [.Subscript o i pos'] value pos) (o3 td ty tv):=by
 intro pins s σ H D I h
 refine wpAny_Assign_Subscript (au (hv pins s σ H _ I h) fun r s1 ⟨v,H1,I1,rv,q1⟩=>au (ho pins s1 σ H1 _ I1 q1) fun u s2 ⟨x,H2,I2,rx,q2⟩=>au (hi pins s2 σ H2 _ I2 q2) fun iv s3 ⟨y,H3,I3,ry,a,H4,ex,g,q3⟩=>?_) hs
 subst ex
 obtain rfl:u=Value.ref a:=rx
 exact DZ hu I3 g ry rv fun s4 I4=>⟨σ,H4,I4,q3⟩
end
theorem DT{P:Program}{w:World}{H:Hp}(h:Heap)(hb:sysModules<h.objs.size):bp P w H (h.push { cls:=.type "dict",data:=.dict #[] }) h.objs.size (.dT []):=
 ⟨Nat.zero_le _,beq_eq_false_iff_ne.mpr (Ne.symm (Nat.ne_of_lt hb)),[],.nil,_,#[],0,EG _ rfl,⟨rfl,rfl,rfl⟩,rfl,rfl,List.nodup_nil⟩
section
variable {X:Cx} {pos:Pos}
end
section
variable {X:Cx} {pins:List (Addr×Obj)} {σ:St} {H:Hp} {s:Shared} {a:Addr} {y d:V} {u r:Value} {o:Option V} {A:Around} {E:Value->Shared->Prop}
end
section
variable {X:Cx} {o e f:Expr} {apos cpos:Pos} {td ty tx:TE}
end
section
variable {X:Cx} {pins:List (Addr×Obj)} {σ:St} {H:Hp} {s:Shared} {a:Addr} {kvs:List (Key×V)} {A:Around} {E:Value->Shared->Prop}
end
section
variable {X:Cx} {pins:List (Addr×Obj)} {σ:St} {H:Hp} {s:Shared} {a:Addr} {y:V} {u:Value} {A:Around} {E:Value->Shared->Prop}
end
end L2
namespace L2
open PySem PySem.Spec PyProof.Rows
section
variable {X:Cx}
end
section
variable {κ:Type} [DecidableEq κ]
end
end L2
namespace L2
open PySem PySem.Spec PyProof.Rows
theorem bp.obj{P:Program}{w:World}{H:Hp}{h:Heap}{a:Addr}{o:HO}(x:bp P w H h a o):∃ob,h.get? a=some ob:=by
 cases o with
 | lst xs=>obtain⟨_,_,_,_,e⟩:=x;exact⟨_,e⟩
 | tup xs=>obtain⟨_,_,_,ob,e,_⟩:=x;exact⟨_,e⟩
 | dK kvs=>obtain⟨_,_,_,_,ob,es,ep,e,_⟩:=x;exact⟨_,e⟩
 | dT kvs=>obtain⟨_,_,_,_,ob,es,ep,e,_⟩:=x;exact⟨_,e⟩
 | set S n=>obtain⟨ob,es,ep,t,e,_⟩:=x;exact⟨_,e⟩
 | ins C dx fs=>obtain⟨_,_,_,e,_⟩:=x;exact⟨_,e⟩
 | own y=>exact x
 | xd fs=>obtain⟨mA,hn,_⟩:=x;obtain⟨ob,es,ep,e,_⟩:=hn;exact⟨_,e⟩
 | rng lo hi=>obtain⟨_,_,_,e⟩:=x;exact⟨_,e⟩
 | frz ob u=>exact⟨_,x.1⟩
 | tbl ps=>exact⟨_,x⟩
 | met f y=>exact⟨_,x⟩
 | ext φ=>exact x.2.1
structure Fly(P:Program)(w:World)(outer:List Env)(H:Hp)(s:Shared)(x:Addr)(cls:Value)(H':Hp)(s':Shared):Prop where
 os:s'.os=s.os
 bare:AllBare s'.gens
 un:Un (aX outer) [] H H' s.heap s'.heap
 hok:bj P w H' s'.heap
 new:H' x=none
 fly:∃B a0,Heap.FlyingW B outer x cls a0 s'.heap/\(∀b o,s'.heap.get? b=some o->H' b≠none->B.get? b=some o) ∧
  ∀b o o',s.heap.get? b=some o->b∉aX outer->s'.heap.get? b=some o'->B.get? b=some o'
def bD(P:Program)(w:World):df:=fun outer H s E e s'=>∃x cls H',e=.ref x/\E cls none H'/\Fly P w outer H s x cls H' s'
section
variable {P:Program} {w:World} {K:EE} {mg:Str->Option Value} {base:Heap} {N:List Str} {qual:Str} {scope:Scope} {f:Addr} {cd:Value} {A:Around} {outer:List Env} {s₀:Shared} {H₀:Hp} {E:XK}
theorem va{l:List Env}{env:Env}{a:Addr}(h:env∈l)(e:env.frame=some a):a∈aX l:=List.mem_filterMap.mpr ⟨env,h,e⟩
theorem Ax{pins:List (Addr×Obj)}{σ:St}{H:Hp}{s:Shared}{h1:Heap}{tk:Nat}{e:Addr}{cls:Value}{args:List Value}(I:Inv (bA (bD P w) P w K mg base N qual scope f cd A outer s₀ H₀ E) pins σ H s)
  (hx:Heap.MadeExcOf s.heap h1 e cls args) (hE:E cls none H):(bA (bD P w) P w K mg base N qual scope f cd A outer s₀ H₀ E).xe (.ref e) { s with heap:=h1,toks:=tk }:=by
 have stk:(bA (bD P w) P w K mg base N qual scope f cd A outer s₀ H₀ E).stack=envOfC qual scope s₀.heap.objs.size f cd::outer:=rfl
 have hL:∀b∈aX (envOfC qual scope s₀.heap.objs.size f cd::outer),b∈aX outer\/b=s₀.heap.objs.size:=fun b hb=>by
  have:=I.stkSub b hb
  rcases List.mem_cons.mp this with z | z
  ·exact .inr z
  ·exact .inl z
 have hfr:∀env∈(envOfC qual scope s₀.heap.objs.size f cd::outer),∀a,env.frame=some a->a∈aX (envOfC qual scope s₀.heap.objs.size f cd::outer):=fun env he a ha=>va he ha
 have hff:=PySem.W.funFrames_hide I.stack hfr
 have low:∀b o,s₀.heap.get? b=some o->b∉aX outer->b∉aX (envOfC qual scope s₀.heap.objs.size f cd::outer):=fun b o hb hn hm=>by
  rcases hL b hm with z | z
  ·exact hn z
  ·exact absurd (EH hb) (by rw[z];exact Nat.lt_irrefl _)
 refine wpAny_leaves_madeW (base:=PySem.W.hideAll s.heap (aX (envOfC qual scope s₀.heap.objs.size f cd::outer))) (h:=s.heap) I.ok.frames rfl (fun b o q=>PySem.W.of_hideAll _ q) hff hx fun h' t x1 x2 x3 x4=>?_
 have up:∀b∈aX (envOfC qual scope s₀.heap.objs.size f cd::outer),∀o,s.heap.get? b=some o->∃sl,h'.get? b=some { o with slots:=sl }:=fun b hb o ho=>by
  obtain⟨_,o',ho',hd⟩:=hff.mem hb
  rw[ho]at ho'
  cases ho'
  exact x4 b o (hx.keeps b o ho) hd
 have stay:∀b o,b∉aX (envOfC qual scope s₀.heap.objs.size f cd::outer)->s.heap.get? b=some o->h'.get? b=some o:=fun b o hn ho=>x1.1 b o (PySem.W.hideAll_get _ ho hn)
 have fc:∀b,H b≠none->b∉aX (envOfC qual scope s₀.heap.objs.size f cd::outer):=fun b hb hm=>hb (I.stkFree b hm)
 have U:=I.base
 have hnew:H e=none:=by
  cases hq:H e with
  | none=>rfl
  | some u=>
   obtain⟨ob,z⟩:=(I.hok e u hq).obj
   rw[hx.new]at z
   cases z
 refine⟨e,cls,H,rfl,hE,I.os,I.bare,⟨fun b o q n hb _=>stay b o (low b o q hb) (U.keep b o q n hb (by intro z;cases z)),fun b o q n hb _=>?_,fun b o q n _=>U.free b o q n (by intro z;cases z),fun b o q _=>?_,U.tups,U.frzs,U.tbls⟩,fun a o q=>?_,hnew,_,_,x1,fun b o q hb=>?_,fun b o o' q hb q'=>?_⟩
 ·obtain⟨sl,e1⟩:=U.slot b o q n hb (by intro z;cases z)
  obtain⟨sl',e2⟩:=up b (by show b∈List.filterMap _ (_::_);exact EL _ hb) _ e1
  exact⟨sl',e2⟩
 ·obtain⟨o1,e1⟩:=U.there b o q (by intro z;cases z)
  by_cases hb:b∈aX (envOfC qual scope s₀.heap.objs.size f cd::outer)
  ·obtain⟨sl,e2⟩:=up b hb _ e1
   exact⟨_,e2⟩
  ·exact⟨_,stay b _ hb e1⟩
 ·refine(I.hok a o q).stay (fun b u hb z=>stay b u (fc b ?_) z) (fun _ z=>z) fun _ _ z=>z
  rcases hb with rfl | hb
  ·rw[q];intro z;cases z
  ·rw[hb];intro z;cases z
 ·obtain⟨o1,e1⟩:∃o1,s.heap.get? b=some o1:=by
   cases hq:H b with
   | none=>exact absurd hq hb
   | some u=>exact(I.hok b u hq).obj
  have:=stay b o1 (fc b hb) e1
  rw[q]at this
  cases this
  exact PySem.W.hideAll_get _ e1 (fc b hb)
 ·obtain⟨o1,e1⟩:=U.there b o q (by intro z;cases z)
  have hn:=low b o q hb
  have:=stay b o1 hn e1
  rw[q']at this
  cases this
  exact PySem.W.hideAll_get _ e1 hn
theorem AM{E':XK}(hEE:∀cls H,E' cls none H->E cls none H):Passes (bD P w) (bA (bD P w) P w K mg base N qual scope f cd A outer s₀ H₀ E) E':=by
 intro pins σ H s e s' I h
 obtain⟨x,cls,H',rfl,hE,F⟩:=h
 obtain⟨B,a0,fl,f1,f2⟩:=F.fly
 have hL:∀b∈aX (envOfC qual scope s₀.heap.objs.size f cd::outer),b∈aX outer\/b=s₀.heap.objs.size:=fun b hb=>by
  rcases List.mem_cons.mp (I.stkSub b hb)with z | z
  ·exact .inr z
  ·exact .inl z
 have low:∀b o,s₀.heap.get? b=some o->b∉aX outer->b∉aX (envOfC qual scope s₀.heap.objs.size f cd::outer):=fun b o hb hn hm=>by
  rcases hL b hm with z | z
  ·exact hn z
  ·exact absurd (EH hb) (by rw[z];exact Nat.lt_irrefl _)
 have U:=I.base
 have no:∀b:Addr,b∉([]:List Addr):=fun b z=>by cases z
 refine wpAny_leaves_onW I.ok.frames rfl fl fun h' x1 x2=>?_
 have two:∀b o,s₀.heap.get? b=some o->∃o1 o2,s.heap.get? b=some o1/\s'.heap.get? b=some o2:=fun b o q=>by
  obtain⟨o1,e1⟩:=U.there b o q (no b)
  obtain⟨o2,e2⟩:=F.un.there b o1 e1 (no b)
  exact⟨o1,o2,e1,e2⟩
 have stay:∀b o o2,s₀.heap.get? b=some o->b∉aX outer->s'.heap.get? b=some o2->B.get? b=some o2:=fun b o o2 q hb q2=>by
  obtain⟨o1,o2',e1,e2⟩:=two b o q
  exact f2 b o1 o2 e1 (low b o q hb) q2
 have hff:=fl.2.2.1
 refine⟨x,cls,H',rfl,hEE _ _ hE,F.os.trans I.os,F.bare,⟨fun b o q n hb _=>?_,fun b o q n hb _=>?_,fun b o q n _=>?_,fun b o q _=>?_,fun b xs q=>F.un.tups b xs (U.tups b xs q),fun b o u q=>F.un.frzs b o u (U.frzs b o u q),fun b ps q=>?_⟩,fun a o q=>?_,F.new,B,a0,x1,fun b o q hb=>?_,fun b o o' q hb q'=>?_⟩
 ·have e1:=U.keep b o q n hb (no b)
  have e2:=F.un.keep b o e1 (U.free b o q n (no b)) (low b o q hb) (no b)
  exact x1.1 b o (stay b o o q hb e2)
 ·obtain⟨sl,e1⟩:=U.slot b o q n hb (no b)
  have hb':b∈aX (envOfC qual scope s₀.heap.objs.size f cd::outer):=by show b∈List.filterMap _ (_::_);exact EL _ hb
  obtain⟨sl2,e2⟩:=F.un.slot b _ e1 (U.free b o q n (no b)) hb' (no b)
  obtain⟨_,o',ho',hd⟩:=hff.mem hb'
  rw[e2]at ho'
  cases ho'
  obtain⟨sl3,e3⟩:=x2 b _ e2 hd
  exact⟨sl3,e3⟩
 ·obtain⟨o1,e1⟩:=U.there b o q (no b)
  exact F.un.free b o1 e1 (U.free b o q n (no b)) (no b)
 ·obtain⟨o1,o2,e1,e2⟩:=two b o q
  by_cases hb:b∈aX outer
  ·have hb':b∈aX (envOfC qual scope s₀.heap.objs.size f cd::outer):=by show b∈List.filterMap _ (_::_);exact EL _ hb
   obtain⟨_,o',ho',hd⟩:=hff.mem hb'
   obtain⟨sl3,e3⟩:=x2 b _ ho' hd
   exact⟨_,e3⟩
  ·exact⟨_,x1.1 b o2 (stay b o o2 q hb e2)⟩
 ·obtain⟨m1,e1⟩:=U.tbls b ps q
  obtain⟨m2,e2⟩:=F.un.tbls b _ e1
  exact⟨m1++m2,by rw[e2,Array.append_assoc]⟩
 ·refine(F.hok a o q).stay (fun b u hb z=>x1.1 b u (f1 b u z ?_)) (fun _ z=>z) fun _ _ z=>z
  rcases hb with rfl | hb
  ·rw[q];intro z;cases z
  ·rw[hb];intro z;cases z
 ·obtain⟨o1,e1⟩:∃o1,s'.heap.get? b=some o1:=by
   cases hq:H' b with
   | none=>exact absurd hq hb
   | some u=>exact(F.hok b u hq).obj
  have e2:=f1 b o1 e1 hb
  have:=x1.1 b o1 e2
  rw[q]at this
  cases this
  exact e2
 ·obtain⟨o1,o2,e1,e2⟩:=two b o q
  have e3:=stay b o o2 q hb e2
  have:=x1.1 b o2 e3
  rw[q']at this
  cases this
  exact e3
end
end L2
namespace L2
open PySem PySem.Spec PyProof.Rows
section
variable {prog:Program} {w:World} {A:Around} {E:Value->Shared->Prop} {K:EE} {x D:Addr} {ox:Obj} {s:Shared}
structure InstC(h:Heap)(x:Addr)(ox:Obj)(D:Addr):Prop where
 at_:h.get? x=some ox
 cls:ox.cls=.ref D
theorem InstC.type{M:Model}{h:Heap}{y C:Addr}{oy:Obj}(I:InstC h y oy C):PySem.W.Looks M h (typeOf (.ref y)) (.ref C):=by
 have z:PySem.W.Looks M h (typeOf (.ref y)) oy.cls:=(PySem.W.Looks.ld I.at_).andThen .now
 rwa [I.cls]at z
theorem wK{M:Model}{h:Heap}(X:K.In h)(ha:PySem.W.findIn K (.ref D) "__class__" = some (some (.builtin "object.__class__")))(hg:PySem.W.specialIn K (.builtin "object.__class__") "__get__" = some (some (.builtin "getset_descriptor.__get__")))
  (ht:PySem.W.takesIn K (.builtin "object.__class__")=some true):PySem.W.Looks M h (Builtin.ObjectAttr.find (.ref x) (.ref D) "__class__") (.bind (.builtin "getset_descriptor.__get__") (.builtin "object.__class__")):=by
 have L1:=PySem.W.looks_findIn (M:=M) X ha
 have L2:PySem.W.Looks M h (Builtin.ObjectAttr.getOf (some (.builtin "object.__class__"))) (some (.builtin "getset_descriptor.__get__")):=PySem.W.looks_specialIn X hg
 have L3:=PySem.W.looks_takesIn (M:=M) X ht
 refine L1.andThen (L2.andThen ?_)
 refine PySem.W.Looks.andThen (a:=some (.builtin "getset_descriptor.__get__",.builtin "object.__class__")) (L3.andThen ?_) (PySem.W.Looks.tag .now)
 rw[if_pos rfl]
 exact .now
theorem zY{tp:Value}{R:Result->Shared->Prop}(X:K.In s.heap)(I:InstC s.heap x ox D)(hm:PySem.W.mroIn K D (.type "object")=some true)(hq:R (.ok (.ret (.ref D))) s):
  codeAny (model prog w) A (.call (.builtin "getset_descriptor.__get__") ⟨[.builtin "object.__class__",.ref x,tp],[]⟩) R s:=by
 obtain⟨hh,g,d,t,os⟩:=s
 have T0:=I.type (M:=model prog w)
 have T1:=PySem.W.looks_mroIn (M:=model prog w) X hm
 refine codeAny_call_builtin PySem.W.KF.slot_gs.plain PySem.W.KF.entry_gs (PySem.W.KF.slot_gs.check _ _ _ _ _ _ _ _ PySem.W.KF.type_class (PySem.W.KF.args_gs _ _ _) ?_)
 unfold Builtin.«getset_descriptor.__get__» Builtin.Getset_descriptor.descrGet;rw[PySem.W.dga_obj]
 refine EC (ED ?_);unfold Builtin.Getset_descriptor.descrGetter Builtin.Getset_descriptor.descrCheckInstance Builtin.Getset_descriptor.descrNameAndClass isInstance
 simp only[PySem.W.KF.owner_class];repeat lk
 refine⟨Code.quiet_builtin _ (by decide +kernel),codeAny_builtin PySem.W.KF.entry_class ?_⟩
 unfold Builtin.«object.__class__» shownTypeOf;repeat lk
 exact hq
theorem wC{tk:Tok}{Q:Fin->Shared->Prop}(X:K.In s.heap)(I:InstC s.heap x ox D)(ha:PySem.W.findIn K (.ref D) "__class__" = some (some (.builtin "object.__class__")))(hg:PySem.W.specialIn K (.builtin "object.__class__") "__get__" = some (some (.builtin "getset_descriptor.__get__")))
  (ht:PySem.W.takesIn K (.builtin "object.__class__")=some true) (hm:PySem.W.mroIn K D (.type "object")=some true)
  (hq:Q (.done (.ret (.ref D))) s):wpAny (model prog w) A (Builtin.«object.__getattribute__» ⟨[.ref x,.str "__class__" tk],[]⟩) Q E s:=by
 obtain⟨hh,g,d,t,os⟩:=s
 have L0:=I.type (M:=model prog w)
 have L1:=wK (M:=model prog w) (x:=x) X ha hg ht
 unfold Builtin.«object.__getattribute__»
 refine EC (ED (EC (ED (EC (L0.at (EC (L1.at ?_)))))))
 show wpAny _ _ (holding [Value.builtin "object.__class__"] (call (Value.builtin "getset_descriptor.__get__") [.builtin "object.__class__",.ref x,.ref D]) >>= ret) _ _ _
 exact EC (wpAny_holding (wpAny_call (zY (s:=⟨hh,g,d,t,os⟩) X I hm (ED hq))))
theorem By{nameV:Value}{M:Model}{Q:Unit->Shared->Prop}(X:K.In s.heap)(I:InstC s.heap x ox D)(hs:PySem.W.subIn K (.ref D) (.type "BaseException")=some true)(hq:Q () s):
  wpAny M A (checkBuiltinCall "BaseException.__getattribute__" ⟨[.ref x,nameV],[]⟩) Q E s:=by
 have k1:builtinKind "BaseException.__getattribute__" = some .slot:=by decide +kernel
 have k2:splitId "BaseException.__getattribute__" = some ("BaseException","__getattribute__"):=by decide +kernel
 have k3:=PySem.F.args_bexc_ga (.ref x) nameV
 have LI:PySem.W.Looks M s.heap (isInstance (.ref x) (.type "BaseException")) true:=(I.type (M:=M)).andThen (PySem.W.looks_subIn X hs)
 obtain⟨hh,g,d,t,os⟩:=s
 simp only[checkBuiltinCall,k1,k2]
 refine EC (LI.at ?_)
 repeat (any_goals (first | assumption | wp_step))
structure ExcK(K:EE)(D:Addr):Prop where
 lk:∃c d cd sl,K.lookup D=some ⟨c,d,.cls cd,sl⟩
 ga:PySem.W.findIn K (.ref D) "__getattribute__" = some (some (.builtin "BaseException.__getattribute__"))
 gt:PySem.W.findIn K (.ref D) "__getattr__" = some none
 sb:PySem.W.subIn K (.ref D) (.type "BaseException")=some true
 cf:PySem.W.findIn K (.ref D) "__class__" = some (some (.builtin "object.__class__"))
 cg:PySem.W.specialIn K (.builtin "object.__class__") "__get__" = some (some (.builtin "getset_descriptor.__get__"))
 ct:PySem.W.takesIn K (.builtin "object.__class__")=some true
 mo:PySem.W.mroIn K D (.type "object")=some true
theorem yS{Q:Option Value->Shared->Prop}(X:K.In s.heap)(I:InstC s.heap x ox D)(F:ExcK K D)
  (h:Q (some (.ref D)) { s with toks:=s.toks+1 }):wpAny (model prog w) A (getAttr? (.ref x) "__class__") Q E s:=by
 obtain⟨hh,g,d,t,os⟩:=s
 have L0:=I.type (M:=model prog w)
 have L1:=PySem.W.looks_findIn (M:=model prog w) X F.ga
 have L2:=PySem.W.looks_findIn (M:=model prog w) X F.gt
 unfold getAttr? getAttrBy? getAttrBy
 refine EC (wpAny_mkText (EC (wpAny_attempt (wpAny_holding (EC (L0.at (EC (L1.at ?_))))))))
 repeat (any_goals (first | assumption | wp_step | lk))
 refine codeAny_call_builtin (PySem.F.excAttr_ValueError).ga.plain PySem.F.entry_bexc_ga (By (s:=⟨hh,g,d,t+1,os⟩) X I F.sb (wC (s:=⟨hh,g,d,t+1,os⟩) X I F.cf F.cg F.ct F.mo ?_))
 repeat (any_goals (first | assumption | wp_step | lk))
theorem nZ(F:ExcK K D):PySem.W.KitX K (.ref x) (.ref D) (fun h=>InstC h x ox D) where
 ty:=fun _ _ _ I=>I.type
 it:=fun M h X _=>by
  obtain⟨c,d,cd,sl,ho⟩:=F.lk
  intro A' Q' E' s' k q
  unfold isType loadHead
  exact EC (wpAny_loadPart (k _ _ (X _ _ ho)) (ED q))
 ne:=fun h tp dd its n sl X htp=>by
  obtain⟨c,d,cd,sl',ho⟩:=F.lk
  rw[Bool.eq_false_iff]
  intro q
  cases(show D=tp from Value.ref.inj (eq_of_beq q))
  have z:=X _ _ ho
  rw[htp]at z
  cases z
 ca:=fun X I k=>yS X I F k
end
abbrev cT(X:Cx)(x:Addr)(oe:Obj):Cx:={ X with A:=X.A.mark (some (.ref x)),calm:=false,pn:=(x,oe)::X.pn,xe:=fun _ _=>False }
abbrev nj(X:Cx)(x:Addr):Cx:={ X with A:=X.A.mark (some (.ref x)),calm:=false,xe:=fun _ _=>False }
section
variable {X:Cx} {pins:List (Addr×Obj)} {σ:St} {H:Hp} {s:Shared} {x:Addr} {oe:Obj}
theorem Cx.Ok.marked(ok:X.Ok)(x:Addr):(nj X x).Ok:=
 ⟨ok.mod,ok.kind,ok.glob,ok.blt,ok.above,ok.inj,ok.has,ok.cab,(fun z=>Bool.noConfusion z),ok.frames,ok.stk,ok.exf,ok.bs,ok.bsz,ok.noex,ok.exfs,ok.funs,ok.frf⟩
theorem Inv.marked(I:Inv X pins σ H s)(x:Addr):Inv (nj X x) pins σ H s:=⟨I.ok.marked x,I.os,I.bare,I.base,I.loc,I.cell,I.free,I.freeC,I.pin,I.hok,I.len⟩
theorem Inv.pinH(I:Inv X pins σ H s)(h1:s.heap.get? x=some oe)(h2:H x=none)(h3:x≠X.env.locals)(h4:x∉X.fs)(h5:∀v,oe.data≠.cell v):Inv (cT X x oe) pins σ H s:=
  ⟨⟨I.ok.mod,I.ok.kind,I.ok.glob,I.ok.blt,I.ok.above,I.ok.inj,I.ok.has,I.ok.cab,(fun z=>Bool.noConfusion z),I.ok.frames,I.ok.stk,I.ok.exf,I.ok.bs,I.ok.bsz,I.ok.noex,I.ok.exfs,I.ok.funs,I.ok.frf⟩,I.os,I.bare,I.base,I.loc,I.cell,I.free,I.freeC,
    fun p hp=>by
      rcases List.mem_cons.mp hp with rfl | hp
      · exact ⟨h1,h2,h3,h4,h5⟩
      · exact I.pin p hp,I.hok,I.len⟩
theorem Inv.unpinH(ok:X.Ok)(I:Inv (cT X x oe) pins σ H s):Inv X pins σ H s:=⟨ok,I.os,I.bare,I.base,I.loc,I.cell,I.free,I.freeC,fun p hp=>I.pin p (EL _ hp),I.hok,I.len⟩
def nh(K:EE)(x D:Addr):List V->Hp->VK->Prop:=fun xs H Q=>∃b:Bool,((∃C,xs=[.ref x,.ref C]/\PySem.W.kitOne K (.ref D) (.ref C)=some b)\/(∃T,xs=[.ref x,.ty T]/\PySem.W.kitOne K (.ref D) (.type T)=some b) ∨
 ∃(p:Addr) (Cs:List Addr),xs=[.ref x,.ref p]/\H p=some (.tup (Cs.map V.ref))/\PySem.W.kitAny K (.ref D) (Cs.map Value.ref)=some b)/\Q (.bl b) H
theorem uE:∀{Cs:List Addr} {us:List Value},Vals (Cs.map V.ref) us->us=Cs.map Value.ref
 | [],_,r=>by cases r;rfl
 | _::_,_,r=>by
  cases r with
  | cons r t=>cases r;rw[uE t];rfl
theorem dw{D:Addr}(F:ExcK X.K D)(hc:oe.cls=.ref D):bI (cT X x oe) (.builtin "isinstance") (nh X.K x D):=by
 intro pins s σ H xs us Q I r h
 obtain⟨b,h,q⟩:=h
 have p:=(I.pin (x,oe) (List.mem_append_left _ EO)).1
 have J:InstC s.heap x oe D:=⟨p,hc⟩
 rcases h with⟨C,rfl,hk⟩ | ⟨T,rfl,hk⟩ | ⟨tp,Cs,rfl,ht,hk⟩
 ·obtain⟨u,w',rfl,r1,r2⟩:=vals2 r
  cases(show u=Value.ref x from r1)
  cases(show w'=Value.ref C from r2)
  exact PySem.W.kia_one (nZ F) I.kIn J hk (fun z=>nomatch z) fun tk=>⟨.bl b,H,I.tok tk,rfl,q⟩
 ·obtain⟨u,w',rfl,r1,r2⟩:=vals2 r
  cases(show u=Value.ref x from r1)
  cases(show w'=Value.type T from r2)
  exact PySem.W.kia_one (nZ F) I.kIn J hk (fun z=>nomatch z) fun tk=>⟨.bl b,H,I.tok tk,rfl,q⟩
 ·obtain⟨u,w',rfl,r1,r2⟩:=vals2 r
  cases(show u=Value.ref x from r1)
  cases(show w'=Value.ref tp from r2)
  obtain⟨its,rv,⟨⟨cls,dd,data,sl⟩,ho,hcl,n,hdt⟩,_⟩:=I.tuple (aj.of ht)
  simp only at hcl hdt
  subst hcl hdt
  rw[uE rv]at ho
  exact PySem.W.kia_tup (nZ F) I.kIn J ho hk (fun z=>nomatch z) fun tk=>⟨.bl b,H,I.tok tk,rfl,q⟩
end
def vR(cls:Value)(E:XK)(t:TA):TS:=fun _ σ H=>t σ H fun vs H1=>vs.length<=sizeLine/\E cls none H1
theorem Al{K:EE}{h:Heap}{mg:Str->Option Value}{x:Str}{C:Addr}{bm:List Value}{nid:String}(X:K.In h)(G:h.Ns mainGlobals mg)(e:PySem.W.nsIn K mainGlobals x=some (some (.ref C)))(q:PySem.W.excIn K C bm nid=true):OwnCls x C bm nid mg h:=by
 constructor
 ·exact PySem.W.mg_of X G e
 ·unfold PySem.W.excIn at q
  cases hl:K.lookup C with
  | none=>rw[hl]at q;cases q
  | some o=>
   rw[hl]at q
   obtain⟨cl,dd,data,sl⟩:=o
   split at q
   ·rename_i hh
    cases hh
    split at q
    ·rename_i _ cd _ _ C' bm' k0 k1 k2 k3 n k5 hm hs
     simp only[Bool.and_eq_true,beq_iff_eq,Bool.not_eq_true']at q
     obtain⟨⟨⟨⟨⟨rfl,rfl⟩,d0⟩,t0⟩,o0⟩,i0⟩:=q
     obtain⟨nm,bs,mro,ns,qn,hd,sn,sub,ab,col,del⟩:=cd
     try dsimp only at hm d0 o0 i0
     subst hm d0
     obtain⟨l⟩:=sl
     simp only at hs
     subst hs
     exact⟨_,_,_,_,_,_,_,_,_,_,_,_,_,_,_,_,_,X _ _ hl,.of_isNs (PySem.W.isNs_of_in X o0),PySem.W.nsMap_none_of_in X o0 i0,PySem.W.tail_of_in X t0⟩
    ·cases q
   ·cases q
section
variable {P:Program} {w:World} {K:EE} {mg:Str->Option Value} {base:Heap} {N:List Str} {qual:Str} {scope:Scope} {f:Addr} {cd:Value} {A:Around} {outer:List Env} {s₀:Shared} {H₀:Hp} {E:XK}
theorem je{x:Str}{C:Addr}{B nid iid:String}{bm:List Value}{np cpos pos:Pos}{e:Expr}{es:List Expr}{t:TA}(O:OwnCls x C bm nid mg base)(FB:ExcBaseFacts B nid iid bm)
  (ha:PA (bA (bD P w) P w K mg base N qual scope f cd A outer s₀ H₀ E) (e::es) t) (hg:Gl (bA (bD P w) P w K mg base N qual scope f cd A outer s₀ H₀ E) x:=by rfl) (hd:(x == ("__debug__":Str))=false:=by decide)
  (he:starEach (e::es) (bA (bD P w) P w K mg base N qual scope f cd A outer s₀ H₀ E).env=(false,eval e (bA (bD P w) P w K mg base N qual scope f cd A outer s₀ H₀ E).env)::starEach es (bA (bD P w) P w K mg base N qual scope f cd A outer s₀ H₀ E).env:=by rfl)
  (hpl:(backTo cpos (starEach es (bA (bD P w) P w K mg base N qual scope f cd A outer s₀ H₀ E).env)).any (·.1)=false:=by rfl) :
  PS (bA (bD P w) P w K mg base N qual scope f cd A outer s₀ H₀ E) (.Raise (some (.Call (.Name x np) (e::es) [] cpos)) none pos) (vR (.ref C) E t):=by
 intro pins s σ H D I h
 obtain⟨tl,Nn,nm,q,bs,hdct,sn,sub,ab,col,dd,k0,k1,k2,k3,k5,mN,hC,hN,hni,T⟩:=O.obj
 refine wpAny_Raise_call_subT (newId:=nid) (k5:=k5) (k3:=k3) (k2:=k2) (k1:=k1) (k0:=k0) (dd:=dd) (col:=col) (ab:=ab) (sub:=sub) (sn:=sn) (hdct:=hdct) (bs:=bs) (q:=q) (nm:=nm) (C:=C) (N:=Nn) (bm:=tl) FB (mN:=mN) (T.hasType FB.hasBase) (I.ok.hd rfl) (by rw[he];show(false || (backTo cpos (starEach es _)).any (·.1))=false;rw[hpl];rfl) hni (fw I hg O.bound ⟨rfl,?_⟩ hd)
 rw[he]
 have ha':=ha cpos pins s σ H _ I h
 rw[he]at ha'
 exact Calls.evalArgs_plain (au ha' fun us s1 ⟨vs,H1,I1,r,z,q⟩=>⟨rfl,by rw[←r.length];exact z,I1.bk _ _ hC,hN.keeps I1.bk,T.keeps I1.bk,fun h' e hx=>Ax (tk:=s1.toks) I1 hx q⟩)
end
theorem jL{X:Cx}{pins:List (Addr×Obj)}{σ:St}{H:Hp}{s:Shared}{M:Model}{A:Around}{E:Value->Shared->Prop}{i:Nat}{x:Str}{pos:Pos}{Q:Unit->Shared->Prop}(I:Inv X pins σ H s)(hN:X.N.Nodup)(hi:X.N[i]?=some x)(hk:X.env.kindOf x=some .local)
  (h:∀s',Inv X pins (σ.set i none) H s'->Q () s'):wpAny M A (do bindName X.env x .none;unbindBehindTheSuite X.env x pos) Q E s:=by
 obtain⟨m,hn,hl⟩:=id I.loc
 have hiσ:i<σ.length:=by rw[I.len];exact(List.getElem?_eq_some_iff.mp hi).1
 have cne:=I.cne
 refine wpAny_nameGoes_keeps hk hn (by rw[I.ok.kind];rfl) fun h' v hn' hs=>?_
 obtain⟨oL,_,_,hoL,_⟩:=id hn
 have low:∀{b:Addr} {o:Obj},X.s₀.heap.get? b=some o->b≠X.env.locals:=fun e=>Nat.ne_of_lt (Nat.lt_of_lt_of_le (EH e) I.ok.above)
 refine h _ ⟨I.ok,I.os,I.bare,⟨fun b o e n hb hx=>(hs.2 b (low e)).trans (I.base.keep b o e n hb hx),fun b o e n hb hx=>?_,I.base.free,fun b o e hx=>?_,I.base.tups,I.base.frzs,I.base.tbls⟩,⟨_,hn',fun j y v' e1 e2 e3=>?_⟩,fun y c e=>?_,I.free,I.freeC,fun p hp=>?_,fun b ob e=>?_,by simpa using I.len⟩
 ·obtain⟨sl,e1⟩:=I.base.slot b o e n hb hx
  exact⟨sl,(hs.2 b (low e)).trans e1⟩
 ·obtain⟨o',e1⟩:=I.base.there b o e hx
  exact⟨o',(hs.2 b (low e)).trans e1⟩
 ·by_cases hj:j=i
  ·subst hj
   rw[List.getElem?_set_self hiσ]at e2
   cases e2
  ·rw[List.getElem?_set_ne (Ne.symm hj)]at e2
   obtain⟨u',r',q⟩:=hl j y v' e1 e2 e3
   refine⟨u',r',?_⟩
   rcases q with⟨k,e⟩ | ⟨k,c,e,z⟩
   ·refine .inl ⟨k,?_⟩
    have:y≠x:=fun e=>hj (ni hN e1 (e ▸ hi))
    simp[this,e]
   ·exact .inr ⟨k,c,e,z.sameBut hs (cne y c e)⟩
 ·obtain⟨w',z⟩:=I.cell y c e
  exact⟨w',z.sameBut hs (cne y c e)⟩
 ·obtain⟨e,n,ne,nf,d⟩:=I.pin p hp
  exact⟨(hs.2 p.1 ne).trans e,n,ne,nf,d⟩
 ·refine(I.hok b ob e).stay (fun c w' hc q=>(hs.2 c ?_).trans q) (fun _ q=>q) fun _ _ q=>q
  rintro rfl
  rcases hc with rfl | hc
  ·rw[I.free]at e;cases e
  ·rw[I.free]at hc;cases hc
section
def PB(Y:Cx)(st:Stmt)(t:Ends->(St->XK)->St->Hp->Prop):Prop:=
 ∀(pins:List (Addr×Obj)) (s:Shared) (σ:St) (H:Hp) (D:Ends) (E:St->XK),Inv Y.nox pins σ H s->t D E σ H →
  wpAny (model Y.prog Y.w) Y.A (exec st Y.env) (SP Y.nox pins D) (fun e s'=>∃σ1 H1 s1,Inv Y.nox pins σ1 H1 s1/\bD Y.prog Y.w Y.stack H1 s1 (E σ1) e s') s
def gY(Y:Cx)(st:List Stmt)(t:Ends->(St->XK)->St->Hp->Prop):Prop:=
 ∀(pins:List (Addr×Obj)) (s:Shared) (σ:St) (H:Hp) (D:Ends) (E:St->XK),Inv Y.nox pins σ H s->t D E σ H →
  wpAny (model Y.prog Y.w) Y.A (execs st Y.env) (SP Y.nox pins D) (fun e s'=>∃σ1 H1 s1,Inv Y.nox pins σ1 H1 s1/\bD Y.prog Y.w Y.stack H1 s1 (E σ1) e s') s
def ud:Ends->(St->XK)->St->Hp->Prop:=fun D _ σ H=>D.nx σ H
theorem fX{Y:Cx}:gY Y [] ud:=fun _ _ σ H _ _ I h=>wpAny_execs_nil ⟨σ,H,I,h⟩
def uj(t u:Ends->(St->XK)->St->Hp->Prop):Ends->(St->XK)->St->Hp->Prop:=fun D E σ H=>t ⟨u D E,D.rt,D.bk,D.ct⟩ E σ H
theorem gJ{Y:Cx}{st:Stmt}{rest:List Stmt}{t u:Ends->(St->XK)->St->Hp->Prop}(h1:PB Y st t)(h2:gY Y rest u):gY Y (st::rest) (uj t u):=by
 intro pins s σ H D E I h
 refine wpAny_execs_cons (au (h1 pins s σ H ⟨u D E,D.rt,D.bk,D.ct⟩ E I h) fun f s1 q=>?_)
 cases f with
 | next=>
  obtain⟨σ',H',I',q⟩:=q
  exact h2 pins s1 σ' H' D E I' q
 | brk=>exact q
 | cont=>exact q
 | ret v=>exact q
def uS(c:TT)(t u:Ends->(St->XK)->St->Hp->Prop):Ends->(St->XK)->St->Hp->Prop:=fun D E σ H=>c σ H fun b H1=>if b=true then t D E σ H1 else u D E σ H1
theorem lE{Y:Cx}{c:Expr}{a b:List Stmt}{tc:TT}{t u:Ends->(St->XK)->St->Hp->Prop}{pos:Pos}(hc:PT Y.nox c tc)(ha:gY Y a t)(hb:gY Y b u):PB Y (.If c a b pos) (uS tc t u):=by
 intro pins s σ H D E I h
 refine wpAny_If (wpAny_mono (hc pins s σ H _ I h) (fun k s1 ⟨H1,I1,q⟩=>?_) fun _ _ z=>z.elim)
 cases k with
 | true=>exact ha pins s1 σ H1 D E I1 (by simpa using q)
 | false=>exact hb pins s1 σ H1 D E I1 (by simpa using q)
def uF(sp:Sp)(t:TA):Ends->(St->XK)->St->Hp->Prop:=fun D E σ H=>t σ H fun vs H1=>sp vs H1 (fun _ H2=>D.nx σ H2) (E σ)
end
structure CalX(P:Program)(w:World)(K:EE)(mg:Str->Option Value)(base:Heap)(x:Str)(k:Nat)(ps:List Str)(sp:Sp):Prop where
 ex:∃(f:Addr) (fd:FuncData),mg x=some (.ref f)/\PySem.W.keepIn K (.ref f)=true/\Binds K fd ps []/\FnOk P w K mg base (bD P w) k f fd ps sp
theorem nR{Y:Cx}{x:Str}{k j:Nat}{ps:List Str}{sp:Sp}{e:Expr}{es:List Expr}{t:TA}{p pos pos2:Pos}(C:CalX Y.prog Y.w Y.K Y.mg Y.base x j ps sp)(hr:Room k Y.A)(ha:PA Y.nox (e::es) t)(hjk:j<=k:=by decide)(hg:Gl Y x:=by rfl)(hdb:(x == ("__debug__":Str))=false:=by decide)
  (he:starEach (e::es) Y.env=(false,eval e Y.env)::starEach es Y.env:=by rfl) (hpl:(backTo pos (starEach es Y.env)).any (·.1)=false:=by rfl) (hs:swapsWith (.Call (.Name x p) (e::es) [] pos) none pos2.line Y.env=pure false:=by rfl) :
  PB Y (.Expr (.Call (.Name x p) (e::es) [] pos) pos2) (uF sp t):=by
 intro pins s σ H D E I h
 obtain⟨f,fd,hm,hk,hb,F⟩:=C.ex
 refine wpAny_Expr_any (wpAny_Call_Name_kw (fw (X:=Y.nox) I hg hm ?_ hdb)) I.quiet hs
 refine PySem.W.callWith_K (h₀:=Y.base) I.ok.mod.kin hk (wpAny_mono (ha pos pins s σ H _ I h) (fun us s1 ⟨vs,H1,I1,r,q⟩=>⟨I1.kIn,?_⟩) fun _ _ z=>z.elim) he hpl
 have hl:us.length=ps.length:=by rw[←r.length];exact F.len _ _ _ _ q
 have hb':=hb s1 us I1.kIn (by rw[List.append_nil];exact hl)
 rw[List.append_nil]at hb'
 refine wpAny_call (codeAny_mono (F.run Y.A Y.stack s1 H1 ⟨us,[]⟩ us vs _ (E σ) (hr.mono hjk) I1.env0 hb' r q) fun r s' hq=>?_)
 cases r with
 | error e=>exact⟨σ,H1,s1,I1,hq⟩
 | ok fl=>
  cases fl with
  | ret u=>
   obtain⟨v,H2,I2,_,q2⟩:=I1.after hq
   exact⟨σ,H2,I2,q2⟩
  | next=>exact False.elim hq
  | brk=>exact False.elim hq
  | cont=>exact False.elim hq
theorem Fly.lands{P:Program}{w:World}{l:List Env}{H:Hp}{s:Shared}{x:Addr}{cls a0:Value}{H':Hp}{s':Shared}{B h5:Heap}(F:Fly P w l H s x cls H' s')(fl:Heap.FlyingW B l x cls a0 s'.heap)(f1:∀b o,s'.heap.get? b=some o->H' b≠none->B.get? b=some o)
  (f2:∀b o o',s.heap.get? b=some o->b∉aX l->s'.heap.get? b=some o'->B.get? b=some o') (fl5:Heap.FlyingW B l x cls a0 h5) (sm:s'.heap.UpToSlots h5):Un (aX l) [] H H' s.heap h5/\bj P w H' h5:=by
 have no:∀b:Addr,b∉([]:List Addr):=fun b z=>by cases z
 have hff:=fl.2.2.1
 have up:∀b∈aX l,∀o,s'.heap.get? b=some o->∃sl,h5.get? b=some { o with slots:=sl }:=fun b hb o ho=>by
  obtain⟨_,o',ho',hd⟩:=hff.mem hb
  rw[ho]at ho'
  cases ho'
  exact sm b o ho hd
 refine⟨⟨fun b o q n hb _=>fl5.1 b o (f2 b o o q hb (F.un.keep b o q n hb (no b))),fun b o q n hb _=>?_,F.un.free,fun b o q _=>?_,F.un.tups,F.un.frzs,F.un.tbls⟩,fun a o q=>?_⟩
 ·obtain⟨sl,e1⟩:=F.un.slot b o q n hb (no b)
  obtain⟨sl',e2⟩:=up b hb _ e1
  exact⟨sl',e2⟩
 ·obtain⟨o2,e2⟩:=F.un.there b o q (no b)
  by_cases hb:b∈aX l
  ·obtain⟨sl,e3⟩:=up b hb _ e2
   exact⟨_,e3⟩
  ·exact⟨_,fl5.1 b o2 (f2 b o o2 q hb e2)⟩
 ·refine(F.hok a o q).stay (fun b u hb z=>fl5.1 b u (f1 b u z ?_)) (fun _ z=>z) fun _ _ z=>z
  rcases hb with rfl | hb
  ·rw[q];intro z;cases z
  ·rw[hb];intro z;cases z
def qM(K:EE)(C:Addr)(i:Nat)(tb:Ends->(St->XK)->St->Hp->Prop)(ts:Addr->Addr->TS):TS:=fun D σ H=>
 tb D (fun σ1 cls _ H1=>∃Dx,cls=.ref Dx/\PySem.W.exmOne K (.ref Dx) (.ref C)=some true/\ExcK K Dx/\∀x,H1 x=none →
  ts x Dx ⟨fun σ' H'=>D.nx (σ'.set i none) H',D.rt,fun σ' H'=>D.bk (σ'.set i none) H',fun σ' H'=>D.ct (σ'.set i none) H'⟩ (σ1.set i (some (.ref x))) H1) σ H
theorem xJ{Y:Cx}{i:Nat}{c n:Str}{C:Addr}{body:List Stmt}{b0:Stmt}{suite:List Stmt}{np hpos pos:Pos}{tb:Ends->(St->XK)->St->Hp->Prop}{ts:Addr->Addr->TS}
  (hstk:Y.stack=Y.env::Y.outer) (hfrm:Y.env.frame=some Y.env.locals) (hN:Y.N.Nodup) (hi:Y.N[i]?=some n) (hk:Y.env.kindOf n=some .local) (hx:Y.env.scope.names.lookup n=some .local) (hm:Y.mg c=some (.ref C)) (hg:Gl Y c) (hd:(c == ("__debug__":Str))=false)
  (hb:gY Y body tb) (hs:∀(x:Addr) (oe:Obj) (Dx:Addr),ExcK Y.K Dx->oe.cls=.ref Dx->b9 (cT Y x oe) (b0::suite) (ts x Dx)) :
  PS Y.nox (.Try body [.ExceptHandler (some (.Name c np)) (some n) (b0::suite) hpos] [] [] pos) (qM Y.K C i tb ts):=by
 intro pins s σ H D I h
 refine wpAny_Try_except (wpAny_mono (hb pins s σ H _ _ I h) (fun f s1 q=>?_) fun e s1 q=>?_)
 ·cases f with
  | next=>exact wpAny_execs_nil q
  | brk=>exact q
  | cont=>exact q
  | ret v=>exact q
 obtain⟨σ1,H1,s2,I1,x,cls,H',rfl,⟨Dx,rfl,hex,hK,hts⟩,F⟩:=q
 obtain⟨B,a0,fl,f1,f2⟩:=F.fly
 have ok:Y.nox.Ok:=I1.ok
 have hfr:Y.A.frames=some (Y.env::Y.outer):=by rw[←hstk];exact ok.frames
 have fl':Heap.FlyingW B (Y.env::Y.outer) x (.ref Dx) a0 s1.heap:=by rw[←hstk];exact fl
 refine wpAny_looks_onW hfr hfrm fl' fun h4 hd4 sm4=>wpAny_landsW hd4 fun h5 fl5 sm5=>?_
 have sm45:s1.heap.UpToSlots h5:=sm4.trans sm5
 have lnd:∀h6,Heap.FlyingW B (Y.env::Y.outer) x (.ref Dx) a0 h6->s1.heap.UpToSlots h6->∀g tk dr,g=s1.gens->Inv Y.nox pins σ1 H' ⟨h6,g,dr,tk,s1.os⟩:=fun h6 fl6 sm6 g tk dr eg=>by
  obtain⟨un,hok⟩:=F.lands fl f1 f2 (by rw[hstk];exact fl6) sm6
  exact I1.call' (s':=⟨h6,g,dr,tk,s1.os⟩) F.os un hok (by rw[eg];exact F.bare) (fun b z=>by cases z)
 have I5:=lnd h5 fl5 sm45 s1.gens s1.toks s1.drawn rfl
 have ty5:PySem.W.Looks (model Y.prog Y.w) h5 (typeOf (.ref x)) (.ref Dx):=by
  obtain⟨ob,hob,hc⟩:=fl5.there
  exact InstC.type ⟨hob,hc⟩
 refine wpAny_handleBy_cons (codeAny_handlers_test ?_) (by intro q;cases q)
 refine fw (X:=nj Y.nox x) (I5.marked x) hg hm ?_ hd
 refine(PySem.W.exm_one (M:=model Y.prog Y.w) I5.kIn ty5 hex).here ?_
 dsimp only
 rw[if_pos rfl]
 refine codeAny_handlers_suite_as (lands_againW fl5 fun h6 fl6 sm6=>?_)
 have I6:=lnd h6 fl6 (sm45.trans sm6) s1.gens s1.toks s1.drawn rfl
 obtain⟨oe,vs,he,hc,hdt,_⟩:=fl6.first
 have nfr:x∉aX (Y.env::Y.outer):=fun hm'=>by
  obtain⟨_,o,ho,hnf⟩:=fl6.2.2.1.mem hm'
  rw[he]at ho
  cases ho
  exact hnf vs hdt
 have I7:=I6.pinH (x:=x) he F.new (fun z=>nfr (va (env:=Y.env) EO (by rw[hfrm,z]))) (fun z=>nfr (by show x∈List.filterMap _ _;rw[List.filterMap_cons,hfrm];exact EL _ z)) (fun v z=>by rw[hdt]at z;cases z)
 refine gj (X:=cT Y.nox x oe) (v:=.ref x) I7 hN hi (.inl hx) rfl (fun s8 I8=>?_) (.inr hx)
 refine wpAny_mono (hs x oe Dx hK hc pins s8 _ H' _ I8 (hts x F.new)) (fun f s9 q=>?_) fun _ _ z=>z.elim
 cases f with
 | next=>
  obtain⟨σ',H9,I9,q⟩:=q
  exact jL (X:=Y.nox) (Inv.unpinH ok I9) hN hi hk fun s10 I10=>⟨_,H9,I10,q⟩
 | brk=>
  obtain⟨σ',H9,I9,q⟩:=q
  exact jL (X:=Y.nox) (Inv.unpinH ok I9) hN hi hk fun s10 I10=>⟨_,H9,I10,q⟩
 | cont=>
  obtain⟨σ',H9,I9,q⟩:=q
  exact jL (X:=Y.nox) (Inv.unpinH ok I9) hN hi hk fun s10 I10=>⟨_,H9,I10,q⟩
 | ret u=>
  obtain⟨v,σ',H9,I9,rv,q⟩:=q
  exact jL (X:=Y.nox) (Inv.unpinH ok I9) hN hi hk fun s10 I10=>⟨v,_,H9,I10,rv,q⟩
theorem Dfn.okX{P:Program}{w:World}{K:EE}{mg:Str->Option Value}{base:Heap}{x:Str}{st:Stmt}{N ps:List Str}{k:Nat}{sp:Sp}(D:Dfn K mg x st ps)(S:FnScope N ps (aG st))(len:∀vs H Q E,sp vs H Q E->vs.length=ps.length)
  (hbody:∀(f:Addr) (cdv:Value) (A:Around) (outer:List Env) (s:Shared) (H:Hp) (vs:List V) (Q:VK) (E:XK),Room k (A.deeper (envOfC x (aG st) s.heap.objs.size f cdv))->sp vs H Q E →
   ∃t,b9 (bA (bD P w) P w K mg base N x (aG st) f cdv A outer s H E) (dS st) t/\t { nx:=fun _ H'=>Q .non H',rt:=Q } (start N vs) H):CalX P w K mg base x (k+1) ps sp:=by
 obtain⟨f,fd,hm,F,hb⟩:=D.ex
 obtain⟨oc,od,kV,doc,pm,an,cdv,ct,osl,rfl,lk,hcd⟩:=F.ex
 exact⟨f,_,hm,F.kp,hb,om lk hcd S len fun A outer s H vs Q E hr h=>hbody f cdv A outer s H vs Q E hr h⟩
section
variable {P:Program} {w:World} {K:EE} {mg:Str->Option Value} {base:Heap} {N:List Str} {qual:Str} {scope:Scope} {f:Addr} {cd:Value} {A:Around} {outer:List Env} {s₀:Shared} {H₀:Hp} {E:XK}
theorem iX{x:Str}{k j:Nat}{ps:List Str}{sp:Sp}{e:Expr}{es:List Expr}{t:TA}{p pos:Pos}(C:CalX P w K mg base x j ps sp)(hr:Room k (bA (bD P w) P w K mg base N qual scope f cd A outer s₀ H₀ E).A)
  (ha:PA (bA (bD P w) P w K mg base N qual scope f cd A outer s₀ H₀ E) (e::es) t) (hjk:j<=k:=by decide) (hg:Gl (bA (bD P w) P w K mg base N qual scope f cd A outer s₀ H₀ E) x:=by rfl) (hdb:(x == ("__debug__":Str))=false:=by decide)
  (he:starEach (e::es) (bA (bD P w) P w K mg base N qual scope f cd A outer s₀ H₀ E).env=(false,eval e (bA (bD P w) P w K mg base N qual scope f cd A outer s₀ H₀ E).env)::starEach es (bA (bD P w) P w K mg base N qual scope f cd A outer s₀ H₀ E).env:=by rfl)
  (hpl:(backTo pos (starEach es (bA (bD P w) P w K mg base N qual scope f cd A outer s₀ H₀ E).env)).any (·.1)=false:=by rfl) :
  PE (bA (bD P w) P w K mg base N qual scope f cd A outer s₀ H₀ E) (.Call (.Name x p) (e::es) [] pos) (kT sp [] E t):=by
 obtain⟨f',fd,hm,hk,hb,F⟩:=C.ex
 exact oG F (hr.mono hjk) hg hm hk hb .nil (AM fun _ _ h=>h) ha hdb he hpl
end
abbrev nU:List Value:=[.type "ValueError",.type "Exception",.type "BaseException",.type "object"]
def cA(K:EE)(x:Str):Addr:=match PySem.W.nsIn K mainGlobals x with
 | some (some (.ref C))=>C
 | _=>0
def mC(K:EE)(x:Str):Bool:=
 PySem.W.excIn K (cA K x) nU "ValueError.__new__" && (match K.lookup (cA K x)with | some ⟨_,_,.cls _,_⟩=>true | _=>false) && PySem.W.findIn K (.ref (cA K x)) "__getattribute__" == some (some (.builtin "BaseException.__getattribute__")) &&
 PySem.W.findIn K (.ref (cA K x)) "__getattr__" == some none && PySem.W.subIn K (.ref (cA K x)) (.type "BaseException") == some true && PySem.W.findIn K (.ref (cA K x)) "__class__" == some (some (.builtin "object.__class__")) &&
 PySem.W.specialIn K (.builtin "object.__class__") "__get__" == some (some (.builtin "getset_descriptor.__get__")) && PySem.W.takesIn K (.builtin "object.__class__") == some true && PySem.W.mroIn K (cA K x) (.type "object") == some true
structure Xf(K:EE)(mg:Str->Option Value)(base:Heap)(all raised:List Str):Prop where
 cl:∀x∈all,mg x=some (.ref (cA K x))
 own:∀x∈raised,OwnCls x (cA K x) nU "ValueError.__new__" mg base
 exk:∀x∈raised,ExcK K (cA K x)
 up:∀x∈raised,PySem.W.exmOne K (.ref (cA K x)) (.ref (cA K "StairError"))=some true
 kv:∀x∈raised,PySem.W.kitOne K (.ref (cA K x)) (.type "ValueError")=some true
 kc:∀x∈raised,∀y∈all,PySem.W.kitOne K (.ref (cA K x)) (.ref (cA K y))=some (x == y || y == ("StairError":Str))
def nk(K:EE)(all raised:List Str):Bool:=
 all.all (fun x=>PySem.W.nsIn K mainGlobals x == some (some (.ref (cA K x)))) && raised.all (fun x=>all.contains x && mC K x && PySem.W.exmOne K (.ref (cA K x)) (.ref (cA K "StairError")) == some true && PySem.W.kitOne K (.ref (cA K x)) (.type "ValueError") == some true &&
  all.all fun y=>PySem.W.kitOne K (.ref (cA K x)) (.ref (cA K y)) == some (x == y || y == ("StairError":Str)))
theorem zy{K:EE}{mg:Str->Option Value}{base:Heap}{all raised:List Str}(X:K.In base)(G:base.Ns mainGlobals mg)(h:nk K all raised=true):Xf K mg base all raised:=by
 unfold nk at h
 rw[Bool.and_eq_true,List.all_eq_true,List.all_eq_true]at h
 obtain⟨h1,h2⟩:=h
 have n1:∀x∈all,PySem.W.nsIn K mainGlobals x=some (some (.ref (cA K x))):=fun x hx=>eq_of_beq (h1 x hx)
 have h3:∀x∈raised,((((x∈all/\mC K x=true)/\PySem.W.exmOne K (.ref (cA K x)) (.ref (cA K "StairError"))=some true)/\PySem.W.kitOne K (.ref (cA K x)) (.type "ValueError")=some true)/\∀y∈all,PySem.W.kitOne K (.ref (cA K x)) (.ref (cA K y))=some (x == y || y == ("StairError":Str))):=fun x hx=>by
  have:=h2 x hx
  simp only[Bool.and_eq_true,beq_iff_eq,List.contains_iff_mem,List.all_eq_true]at this
  exact this
 have e1:∀x∈raised,PySem.W.excIn K (cA K x) nU "ValueError.__new__" = true/\ExcK K (cA K x):=fun x hx=>by
  have:=(h3 x hx).1.1.1.2
  unfold mC at this
  simp only[Bool.and_eq_true,beq_iff_eq]at this
  obtain⟨⟨⟨⟨⟨⟨⟨⟨a1,a2⟩,a3⟩,a4⟩,a5⟩,a6⟩,a7⟩,a8⟩,a9⟩:=this
  refine⟨a1,?_,a3,a4,a5,a6,a7,a8,a9⟩
  cases hl:K.lookup (cA K x)with
  | none=>rw[hl]at a2;cases a2
  | some o=>
   rw[hl]at a2
   obtain⟨c,d,data,sl⟩:=o
   cases data<;>first | exact ⟨_,_,_,_,rfl⟩ | cases a2
 exact⟨fun x hx=>PySem.W.mg_of X G (n1 x hx),fun x hx=>Al X G (n1 x (h3 x hx).1.1.1.1) (e1 x hx).1,fun x hx=>(e1 x hx).2,fun x hx=>(h3 x hx).1.1.2,fun x hx=>(h3 x hx).1.2,fun x hx=>(h3 x hx).2⟩
section
variable {K:EE} {D:Ends} {σ:St} {H:Hp} {Q:VK} {E:XK} {C x:Addr}
theorem rd_raise{t:TA}{cls:Value}(h:t σ H fun vs H1=>vs.length<=sizeLine/\E cls none H1):vR cls E t D σ H:=h
theorem bg{C':Addr}{b:Bool}(hk:PySem.W.kitOne K (.ref C) (.ref C')=some b)(h:Q (.bl b) H):nh K x C [.ref x,.ref C'] H Q:=⟨b,.inl ⟨C',rfl,hk⟩,h⟩
theorem mn{T:String}{b:Bool}(hk:PySem.W.kitOne K (.ref C) (.type T)=some b)(h:Q (.bl b) H):nh K x C [.ref x,.ty T] H Q:=⟨b,.inr (.inl ⟨T,rfl,hk⟩),h⟩
end
theorem CalX.cal{P:Program}{w:World}{K:EE}{mg:Str->Option Value}{base:Heap}{x:Str}{k:Nat}{ps:List Str}{sp:Sp}(C:CalX P w K mg base x k ps sp):Cal P w K mg base x k ps (fun vs H Q _=>sp vs H Q E0):=by
 obtain⟨f,fd,hm,hk,hb,F⟩:=C.ex
 refine⟨f,fd,hm,hk,hb,fun vs H Q E h=>F.len vs H Q E0 h,fun A outer s H args us vs Q E hr he hbt hv hs=>codeAny_mono (F.run A outer s H args us vs Q E0 hr he hbt hv hs) fun r s' hq=>?_⟩
 cases r with
 | error e=>
  obtain⟨_,_,_,_,hE,_⟩:=hq
  exact hE.elim
 | ok fl=>cases fl<;>exact hq
section
variable {K:EE} {D:Ends} {σ:St} {H:Hp} {E:St->XK} {C:Addr} {i:Nat} {t u tb:Ends->(St->XK)->St->Hp->Prop} {ts:Addr->Addr->TS} {c:TT}
theorem rd_bseq(h:t ⟨u D E,D.rt,D.bk,D.ct⟩ E σ H):uj t u D E σ H:=h
theorem rd_bnext(h:D.nx σ H):ud D E σ H:=h
theorem rd_bif(h:c σ H fun b H1=>if b=true then t D E σ H1 else u D E σ H1):uS c t u D E σ H:=h
theorem rd_bcall{sp:Sp}{a:TA}(h:a σ H fun vs H1=>sp vs H1 (fun _ H2=>D.nx σ H2) (E σ)):uF sp a D E σ H:=h
end
end L2
namespace Tb
open PySem
def nx(m i:Nat):Nat:=(i*5+1) % (m+1)
def it(m:Nat):Nat->Nat->Nat
 | 0,i=>i
 | n+1,i=>it m n (nx m i)
theorem g8(m:Nat):∀a b i,it m (a+b) i=it m b (it m a i)
 | 0,b,i=>by rw[Nat.zero_add];rfl
 | a+1,b,i=>by rw[Nat.succ_add];exact g8 m a b (nx m i)
theorem CS(m n i:Nat):it m (n+1) i=nx m (it m n i):=by rw[g8 m n 1 i];rfl
def mT(m:Nat):Nat->Nat->List Nat
 | 0,_=>[]
 | n+1,i=>i::mT m n (nx m i)
theorem vE{m:Nat}:∀{n i j:Nat},j∈mT m n i->∃k,k<n/\it m k i=j
 | 0,_,_,h=>by cases h
 | n+1,i,j,h=>by
  rcases List.mem_cons.mp h with rfl | h
  ·exact⟨0,Nat.succ_pos _,rfl⟩
  ·obtain⟨k,hk,e⟩:=vE h
   exact⟨k+1,Nat.succ_lt_succ hk,e⟩
def good(m:Nat):Bool:=(List.range (m+1)).all (fun j=>(mT m (m+1) 0).contains j) && it m (m+1) 0 == 0
theorem Dd:good 7=true:=by decide +kernel
theorem yT:good 31=true:=by decide +kernel
theorem Cm:good 127=true:=by decide +kernel
theorem DP:good 511=true:=by decide +kernel
def Full(N:Nat):Prop:=(∀j,j<N->∃k,k<N/\it (N-1) k 0=j)/\it (N-1) N 0=0
theorem kj{m:Nat}(h:good m=true):Full (m+1):=by
 unfold Tb.good at h
 rw[Bool.and_eq_true,List.all_eq_true]at h
 refine⟨fun j hj=>?_,eq_of_beq h.2⟩
 have h1:=h.1 j (List.mem_range.mpr hj)
 rw[List.contains_iff_mem]at h1
 exact vE h1
def co:Nat->Nat
 | 0=>0
 | n+1=>5*co n+1
theorem rN(m:Nat):∀n i,it m n i % (m+1)=(5 ^ n*i+co n) % (m+1)
 | 0,i=>by simp[it,co]
 | n+1,i=>by
  rw[CS]
  unfold nx
  rw[Nat.mod_mod,Nat.add_mod,Nat.mul_mod,rN m n i,←Nat.mul_mod,←Nat.add_mod]
  congr 1
  show(5 ^ n*i+co n)*5+1=5 ^ (n+1)*i+(5*co n+1)
  rw[Nat.pow_succ,Nat.add_mul]
  have:5 ^ n*i*5=5 ^ n*5*i:=by rw[Nat.mul_assoc,Nat.mul_comm i 5,Nat.mul_assoc]
  omega
theorem lL(m:Nat):∀n i,i<=m->it m n i<=m
 | 0,i,h=>h
 | n+1,i,h=>by
  refine lL m n _ ?_
  unfold nx
  have:=Nat.mod_lt (i*5+1) (show 0<m+1 by omega)
  omega
theorem pV{m n i:Nat}(h:i<=m):it m n i=(5 ^ n*i+co n) % (m+1):=by
 rw[←rN,Nat.mod_eq_of_lt (Nat.lt_succ_of_le (lL m n i h))]
theorem CA(n:Nat):5 ^ n % 2=1:=by
 induction n with
 | zero=>rfl
 | succ n ih=>rw[Nat.pow_succ,Nat.mul_mod,ih]
theorem sr:∀n,4*co n+1=5 ^ n
 | 0=>rfl
 | n+1=>by
  have:=sr n
  show 4*(5*co n+1)+1=5 ^ (n+1)
  rw[Nat.pow_succ]
  omega
theorem B4{a N:Nat}(h:a % 2=1)(r:Nat):(a*N+r) % (2*N)=(N+r) % (2*N):=by
 obtain⟨c,rfl⟩:∃c,a=2*c+1:=⟨a / 2,by omega⟩
 have:(2*c+1)*N+r=(N+r)+2*N*c:=by
  rw[Nat.add_mul,Nat.one_mul,Nat.mul_assoc,Nat.mul_comm c N,←Nat.mul_assoc]
  omega
 rw[this,Nat.add_mul_mod_self_left]
theorem two{x N:Nat}(h:x<2*N)(hN:0<N):x=x % N\/x=N+x % N:=by
 rcases Nat.lt_or_ge x N with a | a
 ·exact .inl (Nat.mod_eq_of_lt a).symm
 ·refine .inr ?_
  rw[Nat.mod_eq_sub_mod a,Nat.mod_eq_of_lt (by omega)]
  omega
theorem Full.double{N:Nat}(hN:0<N)(h:Full N)(hc:co N % (2*N)=N):Full (2*N):=by
 obtain⟨h1,h2⟩:=h
 have hm:2*N-1+1=2*N:=by omega
 have hm1:N-1+1=N:=by omega
 have val:∀n i,i<=2*N-1->it (2*N-1) n i=(5 ^ n*i+co n) % (2*N):=fun n i hi=>by rw[pV hi,hm]
 have eN:it (2*N-1) N 0=N:=by rw[val N 0 (by omega),Nat.mul_zero,Nat.zero_add,hc]
 have up:∀k,it (2*N-1) (N+k) 0=(N+it (2*N-1) k 0) % (2*N):=fun k=>by
  rw[g8,eN,val k N (by omega),val k 0 (by omega),Nat.mul_zero,Nat.zero_add,B4 (CA k)]
  rw[Nat.add_mod_mod]
 refine⟨fun j hj=>?_,?_⟩
 ·obtain⟨k,hk,ek⟩:=h1 (j % N) (Nat.mod_lt _ hN)
  have e1:it (2*N-1) k 0 % N=j % N:=by
   rw[val k 0 (by omega),Nat.mul_zero,Nat.zero_add,Nat.mod_mul_left_mod,←ek,pV (Nat.zero_le _),hm1,Nat.mul_zero,Nat.zero_add]
  have e2:it (2*N-1) k 0<2*N:=by
   have:=lL (2*N-1) k 0 (Nat.zero_le _)
   omega
  by_cases e:it (2*N-1) k 0=j
  ·exact⟨k,by omega,e⟩
  ·refine⟨N+k,by omega,?_⟩
   rw[up k]
   have t1:=two hj hN
   have t2:=two e2 hN
   rw[e1]at t2
   generalize it (2*N-1) k 0=x at *
   generalize j % N=r at *
   rcases t1 with a | a<;>rcases t2 with b | b
   ·omega
   ·have:N+x=j+2*N:=by omega
    rw[this,Nat.add_mod_right,Nat.mod_eq_of_lt hj]
   ·have:N+x=j:=by omega
    rw[this,Nat.mod_eq_of_lt hj]
   ·omega
 ·rw[show 2*N=N+N by omega,show N+N-1=2*N-1 by omega,up N,eN,show N+N=2*N by omega,Nat.mod_self]
theorem jT{N c:Nat}(h:4*c+1=5 ^ N):co N=c:=by
 have:=sr N
 omega
theorem A4:Full 8:=kj Dd
theorem yZ:Full 32:=kj yT
theorem BD:Full 128:=kj Cm
theorem uG:Full 512:=kj DP
theorem DS:co 512 % (2*512)=512:=by rw[jT (c:=(5 ^ 512-1) / 4) (by decide +kernel)];decide +kernel
theorem Ca:co 1024 % (2*1024)=1024:=by rw[jT (c:=(5 ^ 1024-1) / 4) (by decide +kernel)];decide +kernel
theorem BX:co 2048 % (2*2048)=2048:=by rw[jT (c:=(5 ^ 2048-1) / 4) (by decide +kernel)];decide +kernel
theorem Cw:co 4096 % (2*4096)=4096:=by rw[jT (c:=(5 ^ 4096-1) / 4) (by decide +kernel)];decide +kernel
theorem sh:Full 2048:=Full.double (N:=1024) (by decide) (uG.double (by decide) DS) Ca
theorem Bt:Full 8192:=Full.double (N:=4096) (by decide) (sh.double (by decide) BX) Cw
def Mask(m:Nat):Prop:=m=7\/m=31\/m=127\/m=511\/m=2047\/m=8191
theorem Mask.full{m:Nat}(h:Mask m):Full (m+1):=by
 rcases h with rfl | rfl | rfl | rfl | rfl | rfl
 ·exact A4
 ·exact yZ
 ·exact BD
 ·exact uG
 ·exact sh
 ·exact Bt
theorem oO{m:Nat}(h:Mask m){j:Nat}(hj:j<=m):∃k,k<=m/\it m k 0=j:=by
 obtain⟨k,hk,e⟩:=h.full.1 j (by omega)
 exact⟨k,by omega,e⟩
theorem round0{m:Nat}(h:Mask m):it m (m+1) 0=0:=h.full.2
theorem reach{m:Nat}(h:Mask m){i j:Nat}(hi:i<=m)(hj:j<=m):∃k,k<=m/\it m k i=j:=by
 obtain⟨a,ha,ea⟩:=oO h hi
 obtain⟨b,hb,eb⟩:=oO h hj
 rcases Nat.lt_or_ge b a with hlt | hge
 ·refine⟨m+1-a+b,by omega,?_⟩
  rw[←ea,←g8,show a+(m+1-a+b)=(m+1)+b by omega,g8,round0 h]
  exact eb
 ·refine⟨b-a,by omega,?_⟩
  rw[←ea,←g8,show a+(b-a)=b by omega]
  exact eb
def lp(m:Nat):Nat->Nat×Nat->Nat×Nat
 | 0,s=>s
 | n+1,s=>lp m n (SetTable.leap m s.1 s.2)
theorem lj(m:Nat):∀n s,lp m (n+1) s=SetTable.leap m (lp m n s).1 (lp m n s).2
 | 0,s=>rfl
 | n+1,s=>by
  show lp m (n+1) (SetTable.leap m s.1 s.2)=_
  rw[lj m n]
  rfl
theorem oC(m:Nat):∀n s,(lp m n s).2=s.2 / 32 ^ n
 | 0,s=>by simp[lp]
 | n+1,s=>by
  rw[lj m n s]
  show(lp m n s).2 / 32=_
  rw[oC m n s,Nat.div_div_eq_div_mul,Nat.pow_succ]
theorem qG(m:Nat):∀n s,s.1<=m->(lp m n s).1<=m
 | 0,s,h=>h
 | n+1,s,h=>by
  rw[lj m n s]
  show(_ % (m+1))<=m
  have:=Nat.mod_lt ((lp m n s).1*5+1+(lp m n s).2 / 32) (show 0<m+1 by omega)
  omega
theorem pF(m:Nat):∀n i,(lp m n (i,0)).1=it m n i
 | 0,i=>rfl
 | n+1,i=>by
  show(lp m n (SetTable.leap m i 0)).1=it m n (nx m i)
  have:SetTable.leap m i 0=(nx m i,0):=rfl
  rw[this]
  exact pF m n _
theorem pP(m:Nat):∀a b s,lp m (a+b) s=lp m b (lp m a s)
 | 0,b,s=>by rw[Nat.zero_add];rfl
 | a+1,b,s=>by rw[Nat.succ_add];exact pP m a b _
theorem tJ{m:Nat}(h:Mask m){i p j:Nat}(hi:i<=m)(hp:p<2 ^ 64)(hj:j<=m):∃n,n<=m+13/\(lp m n (i,p)).1=j:=by
 have hz:(lp m 13 (i,p)).2=0:=by
  rw[oC]
  exact Nat.div_eq_of_lt (Nat.lt_of_lt_of_le hp (by decide))
 obtain⟨k,hk,e⟩:=reach h (qG m 13 (i,p) hi) hj
 refine⟨13+k,by omega,?_⟩
 rw[pP]
 have:lp m 13 (i,p)=((lp m 13 (i,p)).1,0):=by rw[←hz]
 rw[this,pF]
 exact e
theorem rd(h:Int):SetTable.bits h<2 ^ 64:=by
 unfold SetTable.bits
 have h1:=Int.emod_lt_of_pos h (show(0:Int)<2 ^ 64 by decide)
 have h2:=Int.emod_nonneg h (show(2:Int) ^ 64≠0 by decide)
 omega
def aD(t:SetTable):Nat->SetTable.Probe->SetTable.Probe
 | 0,p=>p
 | n+1,p=>aD t n (t.advance p)
theorem fL(t:SetTable):∀a b p,aD t (a+b) p=aD t b (aD t a p)
 | 0,b,p=>by rw[Nat.zero_add];rfl
 | a+1,b,p=>by rw[Nat.succ_add];exact fL t a b _
def at_(t:SetTable)(s:Nat×Nat):SetTable.Probe:={ j:=s.1,more:=SetTable.runEnd t.mask s.1-s.1,i:=s.1,perturb:=s.2,dummy:=none }
theorem n6(t:SetTable):∀(r:Nat) (p:SetTable.Probe),p.more=r->aD t (r+1) p={ p with j:=(SetTable.leap t.mask p.i p.perturb).1,more:=SetTable.runEnd t.mask (SetTable.leap t.mask p.i p.perturb).1-(SetTable.leap t.mask p.i p.perturb).1,i:=(SetTable.leap t.mask p.i p.perturb).1,perturb:=(SetTable.leap t.mask p.i p.perturb).2 }
 | 0,p,h=>by
  show t.advance p=_
  unfold SetTable.advance
  rw[if_neg (by omega)]
 | r+1,p,h=>by
  show aD t (r+1) (t.advance p)=_
  have e:t.advance p={ p with j:=p.j+1,more:=p.more-1 }:=by
   unfold SetTable.advance
   rw[if_pos (by omega)]
  rw[e,n6 t r _ (by show p.more-1=r;omega)]
theorem BP(t:SetTable)(s:Nat×Nat):∃k,k<=10/\aD t k (at_ t s)=at_ t (SetTable.leap t.mask s.1 s.2):=by
 refine⟨SetTable.runEnd t.mask s.1-s.1+1,?_,?_⟩
 ·unfold SetTable.runEnd
  split<;>omega
 ·exact(n6 t (SetTable.runEnd t.mask s.1-s.1) (at_ t s) rfl).trans rfl
theorem o5(t:SetTable):∀(n:Nat) (s:Nat×Nat),∃k,k<=10*n/\aD t k (at_ t s)=at_ t (lp t.mask n s)
 | 0,s=>⟨0,Nat.le_refl _,rfl⟩
 | n+1,s=>by
  obtain⟨k1,h1,e1⟩:=BP t s
  obtain⟨k2,h2,e2⟩:=o5 t n (SetTable.leap t.mask s.1 s.2)
  refine⟨k1+k2,by omega,?_⟩
  rw[fL,e1,e2]
  rfl
theorem DE(t:SetTable)(h:Int):t.probeStart h=at_ t (SetTable.bits h % (t.mask+1),SetTable.bits h):=rfl
theorem zS{t:SetTable}(hm:Mask t.mask){j:Nat}(hj:j<=t.mask)(h:Int):∃K,K<10*SetTable.turns t.mask/\(aD t K (t.probeStart h)).j=j:=by
 have h1:SetTable.bits h % (t.mask+1)<=t.mask:=by
  have:=Nat.mod_lt (SetTable.bits h) (show 0<t.mask+1 by omega)
  omega
 obtain⟨n,hn,e⟩:=tJ hm h1 (rd h) hj
 obtain⟨K,hK,eK⟩:=o5 t n (SetTable.bits h % (t.mask+1),SetTable.bits h)
 refine⟨K,by unfold SetTable.turns;omega,?_⟩
 rw[DE,eK]
 exact e
theorem kM{t:SetTable}{j i:Nat}(h:t.slot j=.live i):t.place[i]?=some j:=by
 unfold SetTable.slot at h
 dsimp only at h
 split at h
 ·rename_i hq
  cases h
  exact eq_of_beq hq
 ·split at h<;>cases h
theorem wx(j:Nat):SetTable.has #[] j=false:=rfl
theorem mE{t:SetTable}(hd:t.dummies = #[])(j:Nat):t.slot j=.empty\/∃i,t.slot j=.live i:=by
 unfold SetTable.slot
 dsimp only
 split
 ·exact .inr ⟨_,rfl⟩
 ·rw[hd,wx]
  exact .inl rfl
theorem uP:∀(n:Nat) (l:List Nat),(∀j,j<n->j∈l)->n<=l.length
 | 0,l,_=>Nat.zero_le _
 | n+1,l,h=>by
  have hn:=h n (Nat.lt_succ_self n)
  have:=uP n (l.erase n) fun j hj=>(List.mem_erase_of_ne (by omega)).mpr (h j (by omega))
  rw[List.length_erase_of_mem hn]at this
  have:0<l.length:=List.length_pos_of_mem hn
  omega
theorem B9{t:SetTable}(hd:t.dummies = #[])(h:t.place.size<=t.mask):∃j,j<=t.mask/\t.slot j=.empty:=by
 rcases Classical.em (∃j,j<=t.mask/\t.slot j=.empty)with h1 | h1
 ·exact h1
 ·exfalso
  have:=uP (t.mask+1) t.place.toList fun j hj=>by
   rcases mE hd j with h2 | ⟨i,h2⟩
   ·exact absurd ⟨j,by omega,h2⟩ h1
   ·have:=kM h2
    rw[←Array.getElem?_toList]at this
    exact List.mem_of_getElem? this
  rw[EM]at this
  omega
theorem iK(t:SetTable):∀n p,(aD t n p).dummy=p.dummy
 | 0,p=>rfl
 | n+1,p=>by
  show(aD t n (t.advance p)).dummy=_
  rw[iK t n]
  unfold SetTable.advance
  split<;>rfl
theorem pM{α:Type}:∀{l:List (Option α)} {j:Nat} {k:α},l[j]?=some none->((l.set j (some k)).filterMap id).Perm (k::l.filterMap id)
 | [],j,k,h=>by cases h
 | x::l,0,k,h=>by
  have:x=none:=by simpa using h
  subst this
  exact .refl _
 | x::l,j+1,k,h=>by
  have h':l[j]?=some none:=by simpa using h
  have ih:=pM (k:=k) h'
  cases x with
  | none=>exact ih
  | some y=>exact(List.Perm.cons y ih).trans (.swap _ _ _)
theorem Bo{α:Type}(l:List (Option α)):(l.filterMap id).length+(l.filter (·.isNone)).length=l.length:=by
 induction l with
 | nil=>rfl
 | cons x l ih=>
  cases x<;>simp at ih ⊢<;>omega
theorem A6{m:Nat}(hm:Mask m)(owner:Array (Option Nat))(hz:owner.size=m+1){j:Nat}(hj:owner[j]?=some none):∀(fuel n i p:Nat),i<=m->n<fuel->(lp m n (i,p)).1=j →
  ∃j',SetTable.layClean.free m owner fuel i p=some j'/\owner[j']?=some none:=by
 intro fuel
 induction fuel with
 | zero=>intro n i p _ h;omega
 | succ fuel ih=>
  intro n i p hi hn he
  unfold SetTable.layClean.free
  split
  ·rename_i k hk
   have h1:=List.find?_some hk
   have h2:=List.mem_range.mp (List.mem_of_find?_eq_some hk)
   refine⟨i+k,rfl,?_⟩
   have hb:i+k<owner.size:=by
    rw[hz]
    unfold SetTable.runEnd at h2
    split at h2<;>omega
   rw[Array.getElem?_eq_getElem hb]
   have:owner.getD (i+k) (some 0)=owner[i+k]:=by
    rw[Array.getD_eq_getD_getElem?,Array.getElem?_eq_getElem hb]
    rfl
   rw[this]at h1
   congr 1
   cases hq:owner[i+k]with
   | none=>rfl
   | some y=>rw[hq]at h1;cases h1
  ·rename_i hk
   cases n with
   | zero=>
    exfalso
    have h0:i=j:=he
    have:=List.find?_eq_none.mp hk 0 (List.mem_range.mpr (by unfold SetTable.runEnd;split<;>omega))
    rw[Nat.add_zero,h0,Array.getD_eq_getD_getElem?,hj]at this
    simp at this
   | succ n=>
    have:=qG m 1 (i,p) hi
    exact ih n (SetTable.leap m i p).1 (SetTable.leap m i p).2 this (by omega) he
def jc(mask:Nat)(acc:Option (Array (Option Nat)×Nat))(h:Int):Option (Array (Option Nat)×Nat):=do
 let (owner,k) ←acc
 let j ←SetTable.layClean.free mask owner (SetTable.turns mask) (SetTable.bits h % (mask+1)) (SetTable.bits h)
 pure (owner.setIfInBounds j (some k),k+1)
theorem yC{l:List (Option Nat)}(h:(l.filterMap id).length<l.length):∃j:Nat,l[j]?=some none:=by
 have:=Bo l
 have h1:0<(l.filter (·.isNone)).length:=by omega
 obtain⟨x,hx⟩:=List.exists_mem_of_length_pos h1
 obtain⟨hx1,hx2⟩:=List.mem_filter.mp hx
 have:x=none:=by cases x<;>simp_all
 subst this
 obtain⟨j,hj⟩:=List.getElem?_of_mem hx1
 exact⟨j,hj⟩
theorem m9{α:Type}(xs:Array α)(p:Nat)(x:α):(SetTable.insertAt xs p x).size=xs.size+1:=by
 unfold SetTable.insertAt
 simp
 omega
theorem DV{α:Type}{xs:Array α}{p:Nat}{x e:α}(h:e∈(SetTable.insertAt xs p x).toList):e=x\/e∈xs.toList:=by
 unfold SetTable.insertAt at h
 simp only[Array.toList_append,Array.toList_push,Array.toList_extract,List.mem_append,List.mem_singleton]at h
 rcases h with(h | h) | h
 ·exact .inr (List.mem_of_mem_take (by simpa using h))
 ·exact .inl h
 ·exact .inr (List.mem_of_mem_drop (List.mem_of_mem_take h))
theorem Bk:SetTable.sizeAbove 20-1=31:=by decide +kernel
theorem xn:SetTable.sizeAbove 76-1=127:=by decide +kernel
theorem zL:SetTable.sizeAbove 308-1=511:=by decide +kernel
theorem xj:SetTable.sizeAbove 1228-1=2047:=by decide +kernel
theorem Em:SetTable.sizeAbove 4916-1=8191:=by decide +kernel
end Tb
namespace Tb
open PySem
theorem least{P:Nat->Prop}:∀n,P n->∃m,m<=n/\P m/\∀k,k<m->¬P k:=by
 intro n
 induction n using Nat.strongRecOn with
 | ind n ih=>
  intro h
  rcases Classical.em (∃k,k<n/\P k)with⟨k,hk,pk⟩ | hn
  ·obtain⟨m,h1,h2,h3⟩:=ih k hk pk
   exact⟨m,by omega,h2,h3⟩
  ·exact⟨n,Nat.le_refl _,h,fun k hk pk=>hn ⟨k,hk,pk⟩⟩
theorem nE{xs:Array Nat}(h:xs.toList.Pairwise (· < ·)){a b x y:Nat}(ha:xs[a]?=some x)(hb:xs[b]?=some y)(hab:a<b):x<y:=by
 obtain⟨h1,e1⟩:=Array.getElem?_eq_some_iff.mp ha
 obtain⟨h2,e2⟩:=Array.getElem?_eq_some_iff.mp hb
 have:=List.pairwise_iff_getElem.mp h a b (by simpa using h1) (by simpa using h2) hab
 simp only[Array.getElem_toList]at this
 rw[e1,e2]at this
 exact this
theorem mM(xs:Array Nat)(j:Nat)(hs:xs.toList.Pairwise (· < ·)):∀fuel lo hi,hi-lo<=fuel->lo<=hi->hi<=xs.size->(∀k x,k<lo->xs[k]?=some x->x<j)->(∀k x,hi<=k->xs[k]?=some x->j<=x) →
  SetTable.below.go xs j fuel lo hi<=xs.size/\(∀k x,k<SetTable.below.go xs j fuel lo hi->xs[k]?=some x->x<j)/\(∀k x,SetTable.below.go xs j fuel lo hi<=k->xs[k]?=some x->j<=x)
 | 0,lo,hi,h1,h2,h3,h4,h5=>by
  have:lo=hi:=by omega
  subst this
  exact⟨h3,h4,h5⟩
 | fuel+1,lo,hi,h1,h2,h3,h4,h5=>by
  unfold SetTable.below.go
  by_cases hlt:lo<hi
  ·rw[if_pos hlt]
   dsimp only
   have hm:(lo+hi) / 2<xs.size:=by omega
   have em:xs[(lo+hi) / 2]?=some xs[(lo+hi) / 2]:=getElem?_pos xs _ hm
   have eg:xs.getD ((lo+hi) / 2) j=xs[(lo+hi) / 2]:=by
    rw[Array.getD_eq_getD_getElem?,em]
    rfl
   rw[eg]
   by_cases hc:xs[(lo+hi) / 2]<j
   ·rw[if_pos hc]
    refine mM xs j hs fuel _ _ (by omega) (by omega) h3 (fun k x hk ek=>?_) h5
    rcases Nat.lt_or_ge k ((lo+hi) / 2)with a | a
    ·have:=nE hs ek em a
     omega
    ·have:k=(lo+hi) / 2:=by omega
     subst this
     rw[em]at ek
     cases ek
     exact hc
   ·rw[if_neg hc]
    refine mM xs j hs fuel _ _ (by omega) (by omega) (by omega) h4 (fun k x hk ek=>?_)
    rcases Nat.lt_or_ge ((lo+hi) / 2) k with a | a
    ·have:=nE hs em ek a
     omega
    ·have:k=(lo+hi) / 2:=by omega
     subst this
     rw[em]at ek
     cases ek
     omega
  ·rw[if_neg hlt]
   have:lo=hi:=by omega
   subst this
   exact⟨h3,h4,h5⟩
theorem lJ{xs:Array Nat}(hs:xs.toList.Pairwise (· < ·))(j:Nat):SetTable.below xs j<=xs.size/\(∀k x,k<SetTable.below xs j->xs[k]?=some x->x<j)/\(∀k x,SetTable.below xs j<=k->xs[k]?=some x->j<=x):=
 mM xs j hs xs.size 0 xs.size (by omega) (Nat.zero_le _) (Nat.le_refl _) (fun k x hk=>by omega) (fun k x hk e=>by
  have:=(Array.getElem?_eq_some_iff.mp e).1
  omega)
theorem slot_mem{t:SetTable}(hs:t.place.toList.Pairwise (· < ·)){j i:Nat}(h:t.place[i]?=some j):t.slot j=.live i:=by
 obtain⟨h1,h2,h3⟩:=lJ hs j
 have e:SetTable.below t.place j=i:=by
  have hi:=(Array.getElem?_eq_some_iff.mp h).1
  rcases Nat.lt_or_ge i (SetTable.below t.place j)with a | a
  ·have:=h2 i j a h
   omega
  ·rcases Nat.lt_or_ge (SetTable.below t.place j) i with b | b
   ·have eb:t.place[SetTable.below t.place j]?=some t.place[SetTable.below t.place j]:=getElem?_pos t.place _ (by omega)
    have c1:=h3 _ _ (Nat.le_refl _) eb
    have c2:=nE hs eb h b
    omega
   ·omega
 unfold SetTable.slot
 dsimp only
 rw[e,h,if_pos (beq_self_eq_true _)]
theorem hV{α:Type}(xs:Array α)(p:Nat)(x:α):(SetTable.insertAt xs p x).toList=xs.toList.take p++(x::xs.toList.drop p):=by
 unfold SetTable.insertAt
 rw[Array.toList_append,Array.toList_push,Array.toList_extract,Array.toList_extract]
 show List.take (p-0) (xs.toList.drop 0)++[x]++List.take (xs.size-p) (xs.toList.drop p)=_
 rw[List.take_of_length_le (l:=xs.toList.drop p) (by rw[List.length_drop,EM];exact Nat.le_refl _),List.append_assoc]
 rfl
theorem uR{α:Type}(xs:Array α){p:Nat}(hp:p<=xs.size)(x:α)(i:Nat):(SetTable.insertAt xs p x)[i]?=if i<p then xs[i]? else if i=p then some x else xs[i-1]?:=by
 rw[←Array.getElem?_toList,hV,List.getElem?_append,List.length_take,EM,show min p xs.size=p by omega]
 by_cases h:i<p
 ·rw[if_pos h,if_pos h,List.getElem?_take_of_lt h,Array.getElem?_toList]
 ·rw[if_neg h,if_neg h]
  by_cases e:i=p
  ·rw[if_pos e,e,Nat.sub_self]
   rfl
  ·rw[if_neg e]
   obtain⟨k,rfl⟩:∃k,i=p+(k+1):=⟨i-p-1,by omega⟩
   rw[show p+(k+1)-p=k+1 by omega,List.getElem?_cons_succ,List.getElem?_drop,Array.getElem?_toList]
   congr 1
theorem Cj{xs:Array Nat}(hs:xs.toList.Pairwise (· < ·)){j:Nat}(hn:j∉xs.toList):(SetTable.insertAt xs (SetTable.below xs j) j).toList.Pairwise (· < ·):=by
 obtain⟨h1,h2,h3⟩:=lJ hs j
 rw[hV]
 have hs':=hs
 rw[←List.take_append_drop (SetTable.below xs j) xs.toList,List.pairwise_append]at hs'
 rw[List.pairwise_append,List.pairwise_cons]
 refine⟨hs'.1,⟨fun y hy=>?_,hs'.2.1⟩,fun x hx y hy=>?_⟩
 ·obtain⟨k,hk,e⟩:=List.mem_iff_getElem.mp hy
  rw[List.length_drop,EM]at hk
  rw[List.getElem_drop,Array.getElem_toList]at e
  have ex:xs[SetTable.below xs j+k]?=some y:=by
   rw[getElem?_pos xs _ (by omega),e]
  have:=h3 _ _ (by omega) ex
  have ne:y≠j:=fun z=>hn (by rw[←z];exact Array.mem_toList_iff.mpr (Array.mem_of_getElem? ex))
  omega
 ·have hxj:x<j:=by
   obtain⟨k,hk,e⟩:=List.mem_iff_getElem.mp hx
   rw[List.length_take,EM]at hk
   rw[List.getElem_take,Array.getElem_toList]at e
   exact h2 k x (by omega) (by rw[getElem?_pos xs _ (by omega),e])
  rcases List.mem_cons.mp hy with rfl | hy
  ·exact hxj
  ·exact hs'.2.2 x hx y hy
abbrev tM(m:Nat):SetTable:={ mask:=m,place:=#[],dummies:=#[],finger:=0,led:=false,moves:=0,plain:=false }
def pm(m:Nat)(h:Int)(k:Nat):Nat:=(aD (tM m) k ((tM m).probeStart h)).j
theorem qY(t:SetTable):∀k p,aD t k p=aD (tM t.mask) k p
 | 0,p=>rfl
 | k+1,p=>qY t k _
theorem tO(t:SetTable)(h:Int)(k:Nat):(aD t k (t.probeStart h)).j=pm t.mask h k:=by
 rw[qY]
 rfl
structure TOk(m:Nat)(pl:Array Nat)(hs:Array Int):Prop where
 len:pl.size=hs.size
 inc:pl.toList.Pairwise (· < ·)
 rch:∀(i j:Nat) (h:Int),pl[i]?=some j->hs[i]?=some h->∃K,K<10*SetTable.turns m/\pm m h K=j/\∀k,k<K->pm m h k∈pl.toList
theorem TOk.nil(m:Nat):TOk m #[] #[]:=⟨rfl,.nil,fun i j h e=>by simp at e⟩
theorem TOk.put{m:Nat}{pl:Array Nat}{hs:Array Int}(T:TOk m pl hs){h:Int}{K:Nat}(hK:K<10*SetTable.turns m)(hn:pm m h K∉pl.toList)(hb:∀k,k<K->pm m h k∈pl.toList):
  TOk m (SetTable.insertAt pl (SetTable.below pl (pm m h K)) (pm m h K)) (SetTable.insertAt hs (SetTable.below pl (pm m h K)) h):=by
 have hle:=(lJ T.inc (pm m h K)).1
 have more:∀x,x∈pl.toList->x∈(SetTable.insertAt pl (SetTable.below pl (pm m h K)) (pm m h K)).toList:=fun x hx=>by
  rw[hV]
  rw[←List.take_append_drop (SetTable.below pl (pm m h K)) pl.toList]at hx
  rcases List.mem_append.mp hx with a | a
  ·exact List.mem_append_left _ a
  ·exact List.mem_append_right _ (EL _ a)
 have old:∀(i j:Nat) (h':Int),pl[i]?=some j->hs[i]?=some h'->∃K',K'<10*SetTable.turns m/\pm m h' K'=j/\∀k,k<K'->pm m h' k∈(SetTable.insertAt pl (SetTable.below pl (pm m h K)) (pm m h K)).toList:=fun i j h' e1 e2=>by
  obtain⟨K',h1,h2,h3⟩:=T.rch i j h' e1 e2
  exact⟨K',h1,h2,fun k hk=>more _ (h3 k hk)⟩
 refine⟨by rw[m9,m9,T.len],Cj T.inc hn,fun i j h' e1 e2=>?_⟩
 rw[uR pl hle]at e1
 rw[uR hs (by rw[←T.len];exact hle)]at e2
 by_cases c1:i<SetTable.below pl (pm m h K)
 ·rw[if_pos c1]at e1 e2
  exact old i j h' e1 e2
 ·rw[if_neg c1]at e1 e2
  by_cases c2:i=SetTable.below pl (pm m h K)
  ·rw[if_pos c2]at e1 e2
   cases e1
   cases e2
   exact⟨K,hK,rfl,fun k hk=>more _ (hb k hk)⟩
  ·rw[if_neg c2]at e1 e2
   exact old _ j h' e1 e2
theorem wR{t:SetTable}(hd:t.dummies = #[]){j:Nat}(h:t.slot j≠.empty):j∈t.place.toList:=by
 rcases mE hd j with e | ⟨i,e⟩
 ·exact absurd e h
 ·exact Array.mem_toList_iff.mpr (Array.mem_of_getElem? (kM e))
theorem qp{t:SetTable}(hs:t.place.toList.Pairwise (· < ·)){j:Nat}(h:j∈t.place.toList):∃i,t.slot j=.live i/\t.place[i]?=some j:=by
 obtain⟨i,hi⟩:=List.getElem?_of_mem h
 rw[Array.getElem?_toList]at hi
 exact⟨i,slot_mem hs hi,hi⟩
theorem AR{t:SetTable}(hs:t.place.toList.Pairwise (· < ·)){j:Nat}(h:t.slot j=.empty):j∉t.place.toList:=fun hm=>by
 obtain⟨i,e,_⟩:=qp hs hm
 rw[h]at e
 cases e
theorem xO{t:SetTable}(hd:t.dummies = #[])(hm:Mask t.mask)(hp:t.place.size<=t.mask)(h:Int):∃K,K<10*SetTable.turns t.mask/\t.slot (pm t.mask h K)=.empty/\∀k,k<K->t.slot (pm t.mask h k)≠.empty:=by
 obtain⟨j0,hj0,hs0⟩:=B9 hd hp
 obtain⟨N,hN,eN⟩:=zS hm hj0 h
 rw[tO]at eN
 obtain⟨K,h1,h2,h3⟩:=least (P:=fun n=>t.slot (pm t.mask h n)=.empty) N (by show t.slot (pm t.mask h N)=_;rw[eN];exact hs0)
 exact⟨K,by omega,h2,h3⟩
theorem sS{t:SetTable}(hd:t.dummies = #[])(hash:Nat->Int)(h:Int):∀(K fuel:Nat) (p:SetTable.Probe),K<fuel->p.dummy=none->(∀k,k<K->t.slot (aD t k p).j≠.empty) →
  (∃k i,k<K/\SetTable.probe.go t hash h fuel p=some (.candidate (aD t k p).j i (aD t (k+1) p))/\t.slot (aD t k p).j=.live i)\/SetTable.probe.go t hash h fuel p=SetTable.probe.go t hash h (fuel-K) (aD t K p):=by
 intro K
 induction K with
 | zero=>intro fuel p _ _ _;exact .inr rfl
 | succ K ih=>
  intro fuel p hf hp hs
  obtain⟨f,rfl⟩:∃f,fuel=f+1:=⟨fuel-1,by omega⟩
  have h0:t.slot p.j≠.empty:=hs 0 (by omega)
  rcases mE hd p.j with h1 | ⟨i,h1⟩
  ·exact absurd h1 h0
  ·by_cases hq:(hash i == h)=true
   ·refine .inl ⟨0,i,by omega,?_,h1⟩
    conv=>lhs;unfold SetTable.probe.go
    rw[h1]
    dsimp only
    rw[if_pos hq]
    rfl
   ·have e:SetTable.probe.go t hash h (f+1) p=SetTable.probe.go t hash h f (t.advance p):=by
     conv=>lhs;unfold SetTable.probe.go
     rw[h1]
     dsimp only
     rw[if_neg hq]
    rw[e]
    have hp':(t.advance p).dummy=none:=by
     have:=iK t 1 p
     rw[hp]at this
     exact this
    rcases ih f (t.advance p) (by omega) hp' (fun k hk=>hs (k+1) (by omega))with⟨k,i',hk,e',hl⟩ | e'
    ·exact .inl ⟨k+1,i',by omega,e',hl⟩
    ·refine .inr ?_
     rw[e',show f+1-(K+1)=f-K by omega]
     rfl
theorem wQ{t:SetTable}(hd:t.dummies = #[])(hash:Nat->Int)(h:Int){K fuel:Nat}{p:SetTable.Probe}(hf:K<fuel)(hp:p.dummy=none)(hs:∀k,k<K->t.slot (aD t k p).j≠.empty)(he:t.slot (aD t K p).j=.empty):
  (∃k i,k<K/\SetTable.probe.go t hash h fuel p=some (.candidate (aD t k p).j i (aD t (k+1) p))/\t.slot (aD t k p).j=.live i)\/SetTable.probe.go t hash h fuel p=some (.empty (aD t K p).j none):=by
 rcases sS hd hash h K fuel p hf hp hs with a | a
 ·exact .inl a
 ·refine .inr ?_
  rw[a]
  obtain⟨f,hf'⟩:∃f,fuel-K=f+1:=⟨fuel-K-1,by omega⟩
  rw[hf']
  unfold SetTable.probe.go
  rw[he]
  dsimp only
  rw[iK,hp]
theorem y7{t:SetTable}(hd:t.dummies = #[])(hash:Nat->Int)(h:Int){K fuel i0:Nat}{p:SetTable.Probe}(hf:K<fuel)(hp:p.dummy=none)(hs:∀k,k<K->t.slot (aD t k p).j≠.empty)(he:t.slot (aD t K p).j=.live i0)(hh:hash i0=h):
  ∃k i,k<=K/\SetTable.probe.go t hash h fuel p=some (.candidate (aD t k p).j i (aD t (k+1) p))/\t.slot (aD t k p).j=.live i:=by
 rcases sS hd hash h K fuel p hf hp hs with⟨k,i,hk,e,hl⟩ | a
 ·exact⟨k,i,by omega,e,hl⟩
 ·refine⟨K,i0,Nat.le_refl _,?_,he⟩
  rw[a]
  obtain⟨f,hf'⟩:∃f,fuel-K=f+1:=⟨fuel-K-1,by omega⟩
  rw[hf']
  conv=>lhs;unfold SetTable.probe.go
  rw[he]
  dsimp only
  rw[if_pos (by rw[hh];exact beq_self_eq_true _)]
  rw[fL]
  rfl
theorem wq(t:SetTable):∀(k:Nat) (p:SetTable.Probe),k<=p.more->aD t k p={ p with j:=p.j+k,more:=p.more-k }
 | 0,p,h=>rfl
 | k+1,p,h=>by
  show aD t k (t.advance p)=_
  have e:t.advance p={ p with j:=p.j+1,more:=p.more-1 }:=by
   unfold SetTable.advance
   rw[if_pos (by omega)]
  rw[e,wq t k _ (by show k<=p.more-1;omega)]
  simp only[SetTable.Probe.mk.injEq,true_and,and_true]
  omega
theorem zt{m i:Nat}(h:i<=m):SetTable.runEnd m i<=m/\i<=SetTable.runEnd m i/\SetTable.runEnd m i<=i+9:=by
 unfold SetTable.runEnd
 split<;>omega
theorem oh{t:SetTable}{i p k:Nat}(h:k<=SetTable.runEnd t.mask i-i):(aD t k (at_ t (i,p))).j=i+k:=by
 rw[wq t k _ h]
 rfl
theorem qU{owner:Array (Option Nat)}{j:Nat}(hj:j<owner.size)(h:(owner.getD j (some 0)).isNone=false):∃x,owner[j]?=some (some x):=by
 rw[Array.getD_eq_getD_getElem?,getElem?_pos owner j hj]at h
 rw[getElem?_pos owner j hj]
 cases e:owner[j]with
 | none=>rw[e]at h;cases h
 | some x=>exact⟨x,rfl⟩
theorem qD{t:SetTable}(owner:Array (Option Nat))(hz:owner.size=t.mask+1):∀(fuel i p j':Nat),i<=t.mask->SetTable.layClean.free t.mask owner fuel i p=some j' →
  ∃K,K<10*fuel/\(aD t K (at_ t (i,p))).j=j'/\∀k,k<K->∃x,owner[(aD t k (at_ t (i,p))).j]?=some (some x)
 | 0,i,p,j',hi,h=>by cases h
 | fuel+1,i,p,j',hi,h=>by
  obtain⟨r1,r2,r3⟩:=zt hi
  unfold SetTable.layClean.free at h
  split at h
  ·rename_i k0 hk
   cases h
   rw[List.find?_range_eq_some]at hk
   obtain⟨hk1,hk2,hk3⟩:=hk
   have hk2:=List.mem_range.mp hk2
   refine⟨k0,by omega,oh (by omega),fun k hk=>?_⟩
   rw[oh (by omega)]
   refine qU (by omega) ?_
   have:=hk3 k hk
   simpa using this
  ·rename_i hk
   rw[List.find?_range_eq_none]at hk
   have hnx:(SetTable.leap t.mask i p).1<=t.mask:=by
    show(_ % (t.mask+1))<=t.mask
    have:=Nat.mod_lt (i*5+1+p / 32) (show 0<t.mask+1 by omega)
    omega
   obtain⟨K,h1,h2,h3⟩:=qD owner hz fuel _ _ j' hnx h
   have hr:aD t (SetTable.runEnd t.mask i-i+1) (at_ t (i,p))=at_ t (SetTable.leap t.mask i p):=(n6 t (SetTable.runEnd t.mask i-i) (at_ t (i,p)) rfl).trans rfl
   refine⟨SetTable.runEnd t.mask i-i+1+K,by omega,?_,fun k hk'=>?_⟩
   ·rw[fL,hr]
    exact h2
   ·rcases Nat.lt_or_ge k (SetTable.runEnd t.mask i-i+1)with a | a
    ·rw[oh (by omega)]
     refine qU (by omega) ?_
     have:=hk k (by omega)
     simpa using this
    ·obtain⟨k',rfl⟩:∃k',k=SetTable.runEnd t.mask i-i+1+k':=⟨k-(SetTable.runEnd t.mask i-i+1),by omega⟩
     rw[fL,hr]
     exact h3 k' (by omega)
def lV(m:Nat)(F:Nat->Int)(owner:Array (Option Nat)):Prop:=∀j x:Nat,owner[j]?=some (some x)->∃K,K<10*SetTable.turns m/\pm m (F x) K=j/\∀k,k<K->∃y,owner[pm m (F x) k]?=some (some y)
theorem tW{m:Nat}(hm:Mask m)(F:Nat->Int):∀(hs:List Int) (owner:Array (Option Nat)) (k:Nat),owner.size=m+1->(owner.toList.filterMap id).Perm (List.range k)->k+hs.length<=m->(∀i h,hs[i]?=some h->F (k+i)=h)->lV m F owner →
  ∃owner',hs.foldl (jc m) (some (owner,k))=some (owner',k+hs.length)/\owner'.size=m+1/\(owner'.toList.filterMap id).Perm (List.range (k+hs.length))/\lV m F owner'
 | [],owner,k,h1,h2,h3,h4,h5=>⟨owner,rfl,h1,h2,h5⟩
 | h::hs,owner,k,h1,h2,h3,h4,h5=>by
  rw[List.length_cons]at h3 ⊢
  have hlt:(owner.toList.filterMap id).length<owner.toList.length:=by
   rw[h2.length_eq,List.length_range,EM,h1]
   omega
  obtain⟨j,hj⟩:=yC hlt
  rw[Array.getElem?_toList]at hj
  have hjm:j<=m:=by
   have:=(Array.getElem?_eq_some_iff.mp hj).1
   omega
  have hi:SetTable.bits h % (m+1)<=m:=by
   have:=Nat.mod_lt (SetTable.bits h) (show 0<m+1 by omega)
   omega
  obtain⟨n,hn,en⟩:=tJ hm hi (rd h) hjm
  obtain⟨j',e',hj'⟩:=A6 hm owner h1 hj (SetTable.turns m) n _ _ hi (by unfold SetTable.turns;omega) en
  obtain⟨K,K1,K2,K3⟩:=qD (t:=tM m) owner h1 (SetTable.turns m) _ _ j' hi e'
  have step:jc m (some (owner,k)) h=some (owner.setIfInBounds j' (some k),k+1):=by
   unfold jc
   simp[e']
  rw[List.foldl_cons,step]
  have hp:((owner.setIfInBounds j' (some k)).toList.filterMap id).Perm (List.range (k+1)):=by
   rw[Array.toList_setIfInBounds]
   rw[←Array.getElem?_toList]at hj'
   refine(pM hj').trans ?_
   rw[List.range_succ]
   exact(List.Perm.cons k h2).trans (List.perm_append_comm (l₁:=[k]) (l₂:=List.range k))
  have hj's:j'<owner.size:=(Array.getElem?_eq_some_iff.mp hj').1
  have keep:∀i x,owner[i]?=some (some x)->(owner.setIfInBounds j' (some k))[i]?=some (some x):=fun i x e=>by
   rw[Array.getElem?_setIfInBounds,if_neg]
   ·exact e
   ·rintro rfl
    rw[hj']at e
    cases e
  have hR:lV m F (owner.setIfInBounds j' (some k)):=fun i x e=>by
   rw[Array.getElem?_setIfInBounds]at e
   by_cases c:j'=i
   ·rw[if_pos c,if_pos hj's]at e
    cases e
    have eF:F k=h:=by
     have:=h4 0 h rfl
     rwa [Nat.add_zero]at this
    rw[eF]
    refine⟨K,K1,?_,fun k' hk'=>?_⟩
    ·rw[←c]
     exact K2
    ·obtain⟨y,hy⟩:=K3 k' hk'
     exact⟨y,keep _ _ hy⟩
   ·rw[if_neg c]at e
    obtain⟨K',q1,q2,q3⟩:=h5 i x e
    refine⟨K',q1,q2,fun k' hk'=>?_⟩
    obtain⟨y,hy⟩:=q3 k' hk'
    exact⟨y,keep _ _ hy⟩
  obtain⟨o',f1,f2,f3,f4⟩:=tW hm F hs (owner.setIfInBounds j' (some k)) (k+1) (by simpa using h1) hp (by omega) (fun i h' e=>by
   have:=h4 (i+1) h' e
   rwa [show k+(i+1)=k+1+i by omega]at this) hR
  exact⟨o',by rw[f1];congr 2;omega,f2,by rw[show k+(hs.length+1)=k+1+hs.length by omega];exact f3,f4⟩
theorem ir{α:Type}(es:Array α):∀(l:List Nat),(∀i∈l,i<es.size)->∀n:Nat,(l.filterMap (es[·]?))[n]?=(l[n]?).bind (es[·]?)
 | [],_,n=>by simp
 | x::l,h,n=>by
  have hx:=h x EO
  have e:(x::l).filterMap (es[·]?)=es[x]::l.filterMap (es[·]?):=by
   rw[List.filterMap_cons]
   simp[hx]
  rw[e]
  cases n with
  | zero=>simp[hx]
  | succ n=>simpa using ir es l (fun i hi=>h i (EL _ hi)) n
theorem vf{f:Nat->Option (Nat×Nat)}(hf:∀j x,f j=some x->x.1=j):∀(l:List Nat),(∀x∈(l.filterMap f),f x.1=some x)/\((l.filterMap f).map (·.1))=l.filter (fun j=>(f j).isSome)
 | []=>⟨fun x hx=>(by cases hx),rfl⟩
 | a::l=>by
  obtain⟨i1,i2⟩:=vf hf l
  cases e:f a with
  | none=>
   rw[List.filterMap_cons_none e,List.filter_cons_of_neg (by rw[e];simp)]
   exact⟨i1,i2⟩
  | some x=>
   rw[List.filterMap_cons_some e,List.filter_cons_of_pos (by rw[e];rfl),List.map_cons,i2,hf a x e]
   refine⟨fun y hy=>?_,rfl⟩
   rcases List.mem_cons.mp hy with rfl | hy
   ·rw[hf a y e]
    exact e
   ·exact i1 y hy
theorem Ap(t:SetTable){es:Array (Int×Value)}{wanted m:Nat}(hm:Mask m)(hw:SetTable.sizeAbove wanted-1=m)(hn:es.size<=m):
  ∃t' order,t.relaid (es.map (·.1)) wanted=some (t',order)/\t'.place.size=es.size/\t'.dummies = #[]/\t'.mask=m/\order.toList.Perm (List.range es.size)/\t'.led=t.led/\t'.plain=t.plain/\TOk m t'.place ((order.filterMap (es[·]?)).map (·.1)):=by
 obtain⟨o',f1,f2,f3,f4⟩:=tW hm (fun i=>((es[i]?).map (·.1)).getD 0) (es.map (·.1)).toList (Array.replicate (m+1) none) 0 (by simp) (by simp) (by rw[EM,Array.size_map];omega) (fun i h e=>by
   rw[Array.getElem?_toList,Array.getElem?_map]at e
   show((es[0+i]?).map (·.1)).getD 0=h
   rw[Nat.zero_add,e]
   rfl) (fun j x e=>by
   rw[Array.getElem?_replicate]at e
   split at e<;>cases e)
 rw[EM,Nat.zero_add,Array.size_map]at f1 f3
 have hlay:SetTable.layClean m (es.map (·.1))=some o':=by
  show((es.map (·.1)).foldl (jc m) (some (Array.replicate (m+1) none,0))).map (·.1)=some o'
  rw[←Array.foldl_toList,f1]
  rfl
 have hsnd:((List.range (m+1)).filterMap fun j=>(o'.getD j none).map (j,·)).map (·.2)=o'.toList.filterMap id:=by
  rw[List.map_filterMap]
  have:o'.toList=(List.range (m+1)).map fun j=>o'.getD j none:=by
   apply List.ext_getElem
   ·rw[EM,EI,List.length_range,f2]
   ·intro i h1 h2
    rw[EM]at h1
    simp[h1]
  rw[this,List.filterMap_map]
  congr 1
  funext j
  show((o'.getD j none).map (j,·)).map (·.2)=o'.getD j none
  cases o'.getD j none<;>rfl
 have hrel:t.relaid (es.map (·.1)) wanted=some (({ mask:=m,place:=(((List.range (m+1)).filterMap fun j=>(o'.getD j none).map (j,·)).map (·.1)).toArray,dummies:=#[],finger:=t.finger,led:=t.led,moves:=t.movedTo m,plain:=t.plain }:SetTable),(((List.range (m+1)).filterMap fun j=>(o'.getD j none).map (j,·)).map (·.2)).toArray):=by
  unfold SetTable.relaid
  rw[hw]
  unfold SetTable.laid
  rw[hlay]
  rfl
 obtain⟨lv1,lv2⟩:=vf (f:=fun j=>(o'.getD j none).map (j,·)) (fun j x e=>by
  obtain⟨y,_,rfl⟩:=Option.map_eq_some_iff.mp e
  rfl) (List.range (m+1))
 have hlen:((List.range (m+1)).filterMap fun j=>(o'.getD j none).map (j,·)).length=es.size:=by
  have:=congrArg List.length hsnd
  rwa [EI,f3.length_eq,List.length_range]at this
 have hall:∀i∈((List.range (m+1)).filterMap fun j=>(o'.getD j none).map (j,·)).map (·.2),i<es.size:=fun i hi=>by
  rw[hsnd]at hi
  exact List.mem_range.mp (f3.mem_iff.mp hi)
 refine⟨_,_,hrel,?_,rfl,rfl,?_,rfl,rfl,?_⟩
 ·show(((List.range (m+1)).filterMap fun j=>(o'.getD j none).map (j,·)).map (·.1)).toArray.size=_
  rw[EN,EI,hlen]
 ·show(((List.range (m+1)).filterMap fun j=>(o'.getD j none).map (j,·)).map (·.2)).toArray.toList.Perm _
  rw[List.toList_toArray,hsnd]
  exact f3
 ·generalize hlv:((List.range (m+1)).filterMap fun j=>(o'.getD j none).map (j,·))=lv at lv1 lv2 hlen hall
  show TOk m (lv.map (·.1)).toArray (((lv.map (·.2)).toArray.filterMap (es[·]?)).map (·.1))
  have mem:∀j,(∃y,o'[j]?=some (some y))->j∈(lv.map (·.1)).toArray.toList:=fun j ⟨y,hy⟩=>by
   rw[List.toList_toArray,lv2,List.mem_filter]
   have hj:=(Array.getElem?_eq_some_iff.mp hy).1
   refine⟨List.mem_range.mpr (by omega),?_⟩
   rw[Array.getD_eq_getD_getElem?,hy]
   rfl
  have hes:∀n:Nat,((((lv.map (·.2)).toArray.filterMap (es[·]?)).map (·.1)))[n]?=(((lv.map (·.2))[n]?).bind (es[·]?)).map (·.1):=fun n=>by
   rw[Array.getElem?_map,←Array.getElem?_toList,Array.toList_filterMap,List.toList_toArray,ir es _ hall]
  refine⟨?_,?_,fun i j h e1 e2=>?_⟩
  ·rw[Array.size_map,←EM,←EM,Array.toList_filterMap,List.toList_toArray,List.toList_toArray,EI]
   have key:∀l:List Nat,(∀i∈l,i<es.size)->(l.filterMap (es[·]?)).length=l.length:=by
    intro l
    induction l with
    | nil=>intro _;rfl
    | cons x l ih=>
     intro hl
     have hx:=hl x EO
     rw[List.filterMap_cons,getElem?_pos es x hx,List.length_cons,List.length_cons,ih fun i hi=>hl i (EL _ hi)]
   rw[key _ hall,EI]
  ·rw[List.toList_toArray,lv2]
   exact List.Pairwise.filter _ List.pairwise_lt_range
  ·rw[hes]at e2
   rw[List.getElem?_toArray,EK]at e1
   rw[EK]at e2
   obtain⟨⟨j',x⟩,hx,rfl⟩:=Option.map_eq_some_iff.mp e1
   rw[hx]at e2
   have hf:=lv1 _ (List.mem_of_getElem? hx)
   have hx':o'.getD j' none=some x:=by
    obtain⟨y,hy,ey⟩:=Option.map_eq_some_iff.mp hf
    cases ey
    exact hy
   have ho:o'[j']?=some (some x):=by
    rw[Array.getD_eq_getD_getElem?]at hx'
    cases q:o'[j']? with
    | none=>rw[q]at hx';cases hx'
    | some y=>rw[q]at hx';cases hx';rfl
   obtain⟨K,q1,q2,q3⟩:=f4 j' x ho
   have eF:((es[x]?).map (·.1)).getD 0=h:=by
    have:(es[x]?).map (·.1)=some h:=e2
    rw[this]
    rfl
   dsimp only at q2 q3
   rw[eF]at q2 q3
   exact⟨K,q1,q2,fun k hk=>mem _ (q3 k hk)⟩
end Tb
namespace L2
open PySem PySem.Spec PyProof.Rows
section
variable {P:Program} {w:World} {A:Around} {E:Value->Shared->Prop} {s:Shared} {K:Type} [DecidableEq K] {knd:KeyKind P w K}
theorem m3{ks:List K}{vs:List Value}(h:ItemsAre knd ks vs):∀v∈vs,∀b,v≠.ref b:=fun v hv b e=>by
 have:=h.byValue v hv
 subst e
 cases this
theorem zx(n:Nat){v:Value}(h:∀b,v≠.ref b):ofAClassStatement n v=pure false:=by
 cases v with
 | ref b=>exact absurd rfl (h b)
 | _=>unfold ofAClassStatement;rfl
theorem vK{ks:List K}{b:Addr}{Q:Bool->Shared->Prop}(hk:IsTupleKey knd s.heap ks b)(h:Q false s):wpAny (model P w) A (ofAClassStatement 8 (.ref b)) Q E s:=by
 have hT:=hk.typeIs
 obtain⟨o,items,n,ho,hc,hd,hi⟩:=hk
 unfold ofAClassStatement
 refine EC (wpAny_typeOf hT ?_)
 dsimp only
 refine EC (ED ?_)
 simp only[Bool.not_true,Bool.false_eq_true,if_false]
 refine EC (wpAny_seqItems ho hd ?_)
 dsimp only
 refine EC ?_
 rw[←Array.forIn_toList]
 refine wpAny_forIn_list _ (fun rest r s'=>r.1=none/\s'=s/\∀v∈rest,∀b,v≠.ref b) _ ?_ ?_ _ _ ⟨rfl,rfl,m3 hi⟩
 ·rintro v rest r s' ⟨hr,rfl,hall⟩
  rw[zx _ (hall v EO)]
  refine EC (ED ?_)
  simp only[Bool.false_eq_true,if_false]
  exact ED ⟨rfl,rfl,fun u hu=>hall u (EL _ hu)⟩
 ·rintro⟨r1,r2⟩ s' ⟨hr,rfl,_⟩
  simp only at hr
  subst hr
  exact ED h
theorem qS{ks:List K}{b:Addr}{l:List Value}{Q:Bool->Shared->Prop}(hk:IsTupleKey knd s.heap ks b)(hl:∀y∈l,∃b' k',y=.ref b'/\IsTupleKey knd s.heap k' b')(h:Q false s):wpAny (model P w) A (searchCouldBeSeen (.ref b) l) Q E s:=by
 unfold searchCouldBeSeen
 refine EC ?_
 refine wpAny_forIn_list _ (fun rest r s'=>r.1=none/\s'=s/\∀y∈rest,∃b' k',y=.ref b'/\IsTupleKey knd s.heap k' b') _ ?_ ?_ _ _ ⟨rfl,rfl,hl⟩
 ·rintro v rest r s' ⟨hr,rfl,hall⟩
  obtain⟨b',k',rfl,hk'⟩:=hall v EO
  have next:∀y∈rest,∃b' k',y=.ref b'/\IsTupleKey knd s'.heap k' b':=fun y hy=>hall y (EL _ hy)
  dsimp only
  split
  ·exact ED ⟨rfl,rfl,next⟩
  ·refine EC (wpAny_eqIsQuiet_tuple hk ?_)
   simp only[Bool.not_true,Bool.false_eq_true,if_false]
   refine EC (wpAny_eqIsQuiet_tuple hk' ?_)
   simp only[Bool.not_true,Bool.false_eq_true,if_false]
   refine EC (vK hk ?_)
   simp only[Bool.false_eq_true,if_false]
   refine EC (vK hk' ?_)
   simp only[Bool.false_eq_true,if_false]
   exact ED ⟨rfl,rfl,next⟩
 ·rintro⟨r1,r2⟩ s' ⟨hr,rfl,_⟩
  simp only at hr
  subst hr
  exact ED h
theorem tH{t:SetTable}(hm:Tb.Mask t.mask):t.gaveWay=false:=by
 unfold SetTable.gaveWay
 rcases hm with e | e | e | e | e | e<;>rw[e]<;>rfl
theorem ye{a b:Addr}{k:List K}{h:Int}{o:Obj}{es:Array (Int×Value)}{ep:Nat}{t:SetTable}(hu:A.units<cLine)(hk:IsTupleKey knd s.heap k b)(ho:s.heap.get? a=some o)(hd:o.data=.set es ep t)(hf:t.fits es.size=true)(hm:Tb.Mask t.mask)(hdm:t.dummies = #[])
  (hall:∀e∈es.toList,∃b' k',e.2=.ref b'/\IsTupleKey knd s.heap k' b'/\k'≠k) {Q:SetFound->Shared->Prop} :
  ∀(K fuel:Nat) (stand:Option SetTable.Probe),K<fuel->K<10*SetTable.turns t.mask->(stand.getD (t.probeStart h)).dummy=none->(∀k',k'<K->t.slot (Tb.aD t k' (stand.getD (t.probeStart h))).j≠.empty)->t.slot (Tb.aD t K (stand.getD (t.probeStart h))).j=.empty →
   Q (.free (Tb.aD t K (stand.getD (t.probeStart h))).j false) s->wpAny (model P w) A (setSearchFrom a (.ref b) h true fuel stand) Q E s:=by
 intro K
 induction K using Nat.strongRecOn with
 | ind K ih=>
  intro fuel stand hfu hK hdu hne hs hQ
  obtain⟨f,rfl⟩:∃f,fuel=f+1:=⟨fuel-1,by omega⟩
  unfold setSearchFrom
  refine EC (wpAny_setState_of ho hd hf ?_)
  dsimp only
  have hg:=tH hm
  have hsz:t.place.size=es.size:=by
   simp only[SetTable.fits,Bool.and_eq_true,beq_iff_eq]at hf
   exact hf.1
  have hsm:t.sameMemory t.moves t.mask=some true:=by
   unfold SetTable.sameMemory
   rw[if_pos (beq_self_eq_true _)]
  rw[hg]
  simp only[Bool.false_eq_true,if_false]
  generalize hr:t.probe _ h (stand.getD (t.probeStart h))=r
  obtain⟨g,hr⟩:∃g,SetTable.probe.go t g h (10*SetTable.turns t.mask) (stand.getD (t.probeStart h))=r:=⟨_,hr⟩
  rcases Tb.wQ hdm g h hK hdu hne hs with⟨k',i,hk',e,hl⟩ | e
  ·rw[e]at hr
   subst hr
   have hpl:=Tb.kM hl
   have hi:i<es.size:=by
    rw[←hsz]
    exact(Array.getElem?_eq_some_iff.mp hpl).1
   have hmem:es[i]∈es.toList:=by simp
   obtain⟨b',k2,hy,hk2,hne2⟩:=hall _ hmem
   have hes:es[i]?=some (es[i].1,.ref b'):=by
    rw[Array.getElem?_eq_getElem hi,←hy]
   have hst:∀y∈((es.filter fun x=>x.1 == h).toList.map fun x=>x.2),∃b' k',y=Value.ref b'/\IsTupleKey knd s.heap k' b':=fun y hy=>by
    obtain⟨e0,he0,rfl⟩:=List.mem_map.mp hy
    have he1:e0∈es.toList:=by
     have:=Array.mem_toList_iff.mp he0
     exact Array.mem_toList_iff.mpr (Array.mem_filter.mp this).1
    obtain⟨b3,k3,h1,h2,_⟩:=hall e0 he1
    exact⟨b3,k3,h1,h2⟩
   have eK:∀x,Tb.aD t (k'+1+x) (stand.getD (t.probeStart h))=Tb.aD t x (Tb.aD t (k'+1) (stand.getD (t.probeStart h))):=fun x=>Tb.fL t _ _ _
   have again:wpAny (model P w) A (setSearchFrom a (.ref b) h true f (some (Tb.aD t (k'+1) (stand.getD (t.probeStart h))))) Q E s:=by
    refine ih (K-(k'+1)) (by omega) f _ (by omega) (by omega) ?_ (fun x hx=>?_) ?_ ?_
    ·show(Tb.aD t (k'+1) _).dummy=none
     rw[Tb.iK]
     exact hdu
    ·show t.slot (Tb.aD t x (Tb.aD t (k'+1) _)).j≠_
     rw[←eK]
     exact hne _ (by omega)
    ·show t.slot (Tb.aD t (K-(k'+1)) (Tb.aD t (k'+1) _)).j=_
     rw[←eK,show k'+1+(K-(k'+1))=K by omega]
     exact hs
    ·show Q (.free (Tb.aD t (K-(k'+1)) (Tb.aD t (k'+1) _)).j false) s
     rw[←eK,show k'+1+(K-(k'+1))=K by omega]
     exact hQ
   have same:isSame (Value.ref b') (Value.ref b')=pure true:=by
    unfold isSame
    simp
   dsimp only
   cases hled:t.led
   ·simp only[Bool.not_false,if_true]
    refine EC (qS hk hst ?_)
    simp only[Bool.false_eq_true,if_false]
    rw[hes]
    dsimp only
    refine EC (wpAny_holding (wpAny_eqBool_tuple hu hk2 hk ?_))
    rw[decide_eq_false hne2]
    refine EC (wpAny_setState_of ho hd hf ?_)
    dsimp only
    simp only[Bool.and_false,Bool.false_eq_true,if_false,hsm,if_true,hl,hes,same]
    exact EC (ED (EC (ED again)))
   ·simp only[Bool.not_true,Bool.false_eq_true,if_false]
    rw[hes]
    dsimp only
    refine EC (wpAny_holding (wpAny_eqBool_tuple hu hk2 hk ?_))
    rw[decide_eq_false hne2]
    refine EC (wpAny_setState_of ho hd hf ?_)
    dsimp only
    simp only[Bool.and_false,Bool.false_eq_true,if_false,hsm,if_true,hl,hes,same]
    exact EC (ED (EC (ED again)))
  ·rw[e]at hr
   subst hr
   exact ED hQ
theorem xN{a b:Addr}{k:List K}{h:Int}{o:Obj}{es:Array (Int×Value)}{ep i0:Nat}{t:SetTable}(hu:A.units<cLine)(hk:IsTupleKey knd s.heap k b)(ho:s.heap.get? a=some o)(hd:o.data=.set es ep t)(hf:t.fits es.size=true)(hm:Tb.Mask t.mask)(hdm:t.dummies = #[])
  (hall:∀e∈es.toList,∃b' k',e.2=.ref b'/\IsTupleKey knd s.heap k' b') (hi0:∃b0,es[i0]?=some (h,.ref b0)/\IsTupleKey knd s.heap k b0) {Q:SetFound->Shared->Prop} (hQ:Q (.there none) s) :
  ∀(K fuel:Nat) (stand:Option SetTable.Probe),K<fuel->K<10*SetTable.turns t.mask->(stand.getD (t.probeStart h)).dummy=none->(∀k',k'<K->t.slot (Tb.aD t k' (stand.getD (t.probeStart h))).j≠.empty)->t.slot (Tb.aD t K (stand.getD (t.probeStart h))).j=.live i0 →
   wpAny (model P w) A (setSearchFrom a (.ref b) h true fuel stand) Q E s:=by
 obtain⟨b0,hb0,hkb0⟩:=hi0
 intro K
 induction K using Nat.strongRecOn with
 | ind K ih=>
  intro fuel stand hfu hK hdu hne hs
  obtain⟨f,rfl⟩:∃f,fuel=f+1:=⟨fuel-1,by omega⟩
  unfold setSearchFrom
  refine EC (wpAny_setState_of ho hd hf ?_)
  dsimp only
  have hg:=tH hm
  have hsz:t.place.size=es.size:=by
   simp only[SetTable.fits,Bool.and_eq_true,beq_iff_eq]at hf
   exact hf.1
  have hsm:t.sameMemory t.moves t.mask=some true:=by
   unfold SetTable.sameMemory
   rw[if_pos (beq_self_eq_true _)]
  rw[hg]
  simp only[Bool.false_eq_true,if_false]
  generalize hr:t.probe _ h (stand.getD (t.probeStart h))=r
  obtain⟨g,hgi,hr⟩:∃g:Nat->Int,g i0=h/\SetTable.probe.go t g h (10*SetTable.turns t.mask) (stand.getD (t.probeStart h))=r:=⟨_,by show((es[i0]?).map (·.1)).getD 0=h;rw[hb0];rfl,hr⟩
  obtain⟨k',i,hk',e,hl⟩:=Tb.y7 hdm g h hK hdu hne hs hgi
  rw[e]at hr
  subst hr
  have hpl:=Tb.kM hl
  have hi:i<es.size:=by
   rw[←hsz]
   exact(Array.getElem?_eq_some_iff.mp hpl).1
  have hmem:es[i]∈es.toList:=by simp
  obtain⟨b',k2,hy,hk2⟩:=hall _ hmem
  have hes:es[i]?=some (es[i].1,.ref b'):=by
   rw[Array.getElem?_eq_getElem hi,←hy]
  have hst:∀y∈((es.filter fun x=>x.1 == h).toList.map fun x=>x.2),∃b' k',y=Value.ref b'/\IsTupleKey knd s.heap k' b':=fun y hy=>by
   obtain⟨e0,he0,rfl⟩:=List.mem_map.mp hy
   have he1:e0∈es.toList:=by
    have:=Array.mem_toList_iff.mp he0
    exact Array.mem_toList_iff.mpr (Array.mem_filter.mp this).1
   obtain⟨b3,k3,h1,h2⟩:=hall e0 he1
   exact⟨b3,k3,h1,h2⟩
  have eK:∀x,Tb.aD t (k'+1+x) (stand.getD (t.probeStart h))=Tb.aD t x (Tb.aD t (k'+1) (stand.getD (t.probeStart h))):=fun x=>Tb.fL t _ _ _
  have again:k2≠k->wpAny (model P w) A (setSearchFrom a (.ref b) h true f (some (Tb.aD t (k'+1) (stand.getD (t.probeStart h))))) Q E s:=fun hne2=>by
   have hlt:k'<K:=by
    rcases Nat.lt_or_ge k' K with q | q
    ·exact q
    ·have:k'=K:=by omega
     subst this
     rw[hs]at hl
     cases hl
     rw[hb0]at hes
     cases hes
     obtain⟨o1,i1,n1,z1,_,z2,z3⟩:=hk2
     obtain⟨o2,i2,n2,y1,_,y2,y3⟩:=hkb0
     rw[z1]at y1
     cases y1
     rw[z2]at y2
     cases y2
     exact absurd (z3.inj y3) hne2
   refine ih (K-(k'+1)) (by omega) f _ (by omega) (by omega) ?_ (fun x hx=>?_) ?_
   ·show(Tb.aD t (k'+1) _).dummy=none
    rw[Tb.iK]
    exact hdu
   ·show t.slot (Tb.aD t x (Tb.aD t (k'+1) _)).j≠_
    rw[←eK]
    exact hne _ (by omega)
   ·show t.slot (Tb.aD t (K-(k'+1)) (Tb.aD t (k'+1) _)).j=_
    rw[←eK,show k'+1+(K-(k'+1))=K by omega]
    exact hs
  have same:isSame (Value.ref b') (Value.ref b')=pure true:=by
   unfold isSame
   simp
  have fin:wpAny (model P w) A (do
    let equal ←holding [Value.ref b'] (eqBool (.ref b') (.ref b))
    let (es',_,t') ←setState a
    if(true && equal)=true then return SetFound.there none
    let some same:=t'.sameMemory t.moves t.mask | unsupported "set.changed-during-lookup:is-the-new-block-at-the-old-address"
    let still ←match (if same=true then t'.slot (Tb.aD t k' (stand.getD (t.probeStart h))).j else .empty)with
     | .live i'=>match es'[i']? with
      | some (_,y')=>do pure (if ←isSame y' (.ref b')then some i' else none)
      | none=>pure none
     | _=>pure none
    match still with
    | none=>rule "set.search.anew";setSearchFrom a (.ref b) h true f none
    | some i'=>if equal=true then return .there (some i')else setSearchFrom a (.ref b) h true f (some (Tb.aD t (k'+1) (stand.getD (t.probeStart h))))) Q E s:=by
   refine EC (wpAny_holding (wpAny_eqBool_tuple hu hk2 hk ?_))
   refine EC (wpAny_setState_of ho hd hf ?_)
   dsimp only
   by_cases hq:k2=k
   ·rw[decide_eq_true hq]
    simp only[Bool.and_self,if_true]
    exact ED hQ
   ·rw[decide_eq_false hq]
    simp only[Bool.and_false,Bool.false_eq_true,if_false,hsm,if_true,hl,hes,same]
    exact EC (ED (EC (ED (again hq))))
  dsimp only
  cases hled:t.led
  ·simp only[Bool.not_false,if_true]
   refine EC (qS hk hst ?_)
   simp only[Bool.false_eq_true,if_false]
   rw[hes]
   exact fin
  ·simp only[Bool.not_true,Bool.false_eq_true,if_false]
   rw[hes]
   exact fin
theorem iC{h h':Heap}{a b:Addr}{k:List K}{o:Obj}{es:Array (Int×Value)}{ep:Nat}{t:SetTable}(hk:IsTupleKey knd h k b)(ho:h.get? a=some o)(hd:o.data=.set es ep t)(hs:Heap.SameBut a h h'):IsTupleKey knd h' k b:=by
 obtain⟨o',items,n,ho',hc,hd',hi⟩:=hk
 have hne:b≠a:=by
  rintro rfl
  rw[ho]at ho'
  cases ho'
  rw[hd]at hd'
  cases hd'
 exact⟨o',items,n,(hs.2 b hne).trans ho',hc,hd',hi⟩
theorem tm(n:Nat){v:Value}(h:∀b,v≠.ref b):∃c,hashByValue n v=pure c:=by
 cases v with
 | ref b=>exact absurd rfl (h b)
 | _=>exact⟨_,by cases n<;>unfold hashByValue<;>rfl⟩
theorem wX{ks:List K}{b:Addr}{Q:Bool->Shared->Prop}(hk:IsTupleKey knd s.heap ks b)(h:∀c,Q c s):wpAny (model P w) A (hashByValue 8 (.ref b)) Q E s:=by
 have hT:=hk.typeIs
 obtain⟨o,items,n,ho,hc,hd,hi⟩:=hk
 unfold hashByValue
 refine EC (wpAny_specialOf hT F.slot_tuple_hash.lookup ?_)
 dsimp only
 refine EC (wpAny_seqItems ho hd ?_)
 dsimp only[Option.getD_some]
 refine EC ?_
 rw[←Array.forIn_toList]
 refine wpAny_forIn_list _ (fun rest r s'=>(r.1=none\/∃c,r.1=some c)/\s'=s/\∀v∈rest,∀b,v≠.ref b) _ ?_ ?_ _ _ ⟨.inl rfl,rfl,m3 hi⟩
 ·rintro v rest r s' ⟨hr,rfl,hall⟩
  obtain⟨c,hc'⟩:=tm 7 (hall v EO)
  rw[hc']
  refine EC (ED ?_)
  cases c
  ·show wpAny _ _ (pure (ForInStep.done (some false,()))) _ _ _
   exact ED (ED (h false))
  ·simp only[Bool.not_true,Bool.false_eq_true,if_false]
   exact ED ⟨.inl rfl,rfl,fun u hu=>hall u (EL _ hu)⟩
 ·rintro⟨r1,r2⟩ s' ⟨hr,rfl,_⟩
  simp only at hr
  rcases hr with rfl | ⟨c,rfl⟩
  ·exact ED (h true)
  ·exact ED (h c)
theorem yL{α:Type}{es:Array α}{order:Array Nat}(h:order.toList.Perm (List.range es.size)):(order.filterMap (es[·]?)).size=es.size/\∀e∈(order.filterMap (es[·]?)).toList,e∈es.toList:=by
 have key:∀l:List Nat,(∀i∈l,i<es.size)->(l.filterMap (es[·]?)).length=l.length/\∀e∈l.filterMap (es[·]?),e∈es.toList:=by
  intro l
  induction l with
  | nil=>intro _;exact⟨rfl,fun e he=>by cases he⟩
  | cons x l ih=>
   intro hl
   obtain⟨i1,i2⟩:=ih fun i hi=>hl i (EL _ hi)
   have hx:=hl x EO
   have e:(x::l).filterMap (es[·]?)=es[x]::l.filterMap (es[·]?):=by
    rw[List.filterMap_cons]
    simp[hx]
   rw[e]
   refine⟨by rw[List.length_cons,List.length_cons,i1],fun y hy=>?_⟩
   rcases List.mem_cons.mp hy with rfl | hy
   ·simp
   ·exact i2 y hy
 have hlt:∀i∈order.toList,i<es.size:=fun i hi=>List.mem_range.mp (h.mem_iff.mp hi)
 obtain⟨k1,k2⟩:=key order.toList hlt
 rw[Array.toList_filterMap]
 refine⟨?_,k2⟩
 rw[←EM,Array.toList_filterMap,k1,h.length_eq,List.length_range]
theorem zB{α:Type}{es:Array α}{order:Array Nat}(h:order.toList.Perm (List.range es.size)):(order.filterMap (es[·]?)).toList.Perm es.toList:=by
 rw[Array.toList_filterMap]
 have e:(List.range es.size).filterMap (es[·]?)=es.toList:=by
  apply List.ext_getElem?
  intro n
  have e0:es.toList[n]?=es[n]?:=Array.getElem?_toList
  rw[e0,Tb.ir es _ (fun i hi=>List.mem_range.mp hi)]
  by_cases hn:n<es.size
  ·rw[List.getElem?_range hn]
   rfl
  ·have e1:(List.range es.size)[n]?=none:=List.getElem?_eq_none (by rw[List.length_range];omega)
   rw[e1,Array.getElem?_eq_none (by omega)]
   rfl
 rw[←e]
 exact h.filterMap _
end
section
variable {P:Program} {w:World} {A:Around} {E:Value->Shared->Prop} {s:Shared}
theorem items_str{ks:List Key}{vs:List Value}(h:ItemsAre (aE P w) ks vs){x:Str}(hx:Sum.inr x∈ks):∃t,Value.str x t∈vs:=by
 induction h with
 | nil=>cases hx
 | @cons k v ks vs hk _ ih=>
  rcases List.mem_cons.mp hx with rfl | hx
  ·rcases dY (show fT (.inr x) v=true from hk)with⟨i,t,e,_⟩ | ⟨y,t,e,rfl⟩
   ·cases e
   ·cases e
    exact⟨t,EO⟩
  ·obtain⟨t,ht⟩:=ih hx
   exact⟨t,EL _ ht⟩
theorem DH{ks:List Key}{b:Addr}{x:Str}{Q:Bool->Shared->Prop}(hk:IsTupleKey (aE P w) s.heap ks b)(hx:Sum.inr x∈ks)(h:Q false s):wpAny (model P w) A (hashByValue 8 (.ref b)) Q E s:=by
 have hT:=hk.typeIs
 obtain⟨o,items,n,ho,hc,hd,hi⟩:=hk
 unfold hashByValue
 refine EC (wpAny_specialOf hT F.slot_tuple_hash.lookup ?_)
 dsimp only
 refine EC (wpAny_seqItems ho hd ?_)
 dsimp only[Option.getD_some]
 refine EC ?_
 rw[←Array.forIn_toList]
 refine wpAny_forIn_list _ (fun rest r s'=>r.1=none/\s'=s/\(∀v∈rest,∀b,v≠.ref b)/\∃t,Value.str x t∈rest) _ ?_ ?_ _ _ ⟨rfl,rfl,m3 hi,items_str hi hx⟩
 ·rintro v rest r s' ⟨hr,rfl,hall,t,ht⟩
  obtain⟨c,hc'⟩:=tm 7 (hall v EO)
  rw[hc']
  refine EC (ED ?_)
  cases c
  ·show wpAny _ _ (pure (ForInStep.done (some false,()))) _ _ _
   exact ED (ED h)
  ·simp only[Bool.not_true,Bool.false_eq_true,if_false]
   refine ED ⟨rfl,rfl,fun u hu=>hall u (EL _ hu),t,?_⟩
   rcases List.mem_cons.mp ht with rfl | ht
   ·exact absurd hc' (fun z=>by
     have:hashByValue 7 (Value.str x t)=pure false:=by unfold hashByValue;rfl
     rw[this]at z
     injection z with z
     cases z)
   ·exact ht
 ·rintro⟨r1,r2⟩ s' ⟨hr,rfl,_,t,ht⟩
  cases ht
def dj(P:Program)(w:World)(B:Addr->List Key->Prop)(h:Heap)(a:Addr)(ks:List (List Key)):Prop:=ks.Nodup ∧
 ∃o es ep t,h.get? a=some o/\o.ExactSet/\o.data=.set es ep t/\t.dummies = #[]/\Tb.Mask t.mask/\es.size*5<t.mask*3/\es.size=ks.length/\Tb.TOk t.mask t.place (es.map (·.1)) ∧
  (∀e∈es.toList,∃b k,e=(tupleKeyHash (aE P w) k,.ref b)/\k∈ks/\IsTupleKey (aE P w) h k b/\B b k)/\(∀k∈ks,∃b,(tupleKeyHash (aE P w) k,.ref b)∈es.toList/\IsTupleKey (aE P w) h k b)/\((∀k∈ks,∃x,Sum.inr x∈k)->ks=[]\/t.plain=false)
theorem Bm{B:Addr->List Key->Prop}{a:Addr}{o:Obj}{es es1:Array (Int×Value)}{ep n:Nat}{t t1:SetTable}{ks1:List (List Key)}{Q:Bool->Shared->Prop}(hnd:ks1.Nodup)(ho:s.heap.get? a=some o)(hex:o.ExactSet)(hd:o.data=.set es ep t)(hs1:es1.size=n+1)(hdm1:t1.dummies = #[])
  (hm1:Tb.Mask t1.mask) (hfull:n*5<t1.mask*3) (hn:n<1400) (hlen:ks1.length=n+1) (hT1:Tb.TOk t1.mask t1.place (es1.map (·.1))) (hall1:∀e∈es1.toList,∃b k,e=(tupleKeyHash (aE P w) k,.ref b)/\k∈ks1/\IsTupleKey (aE P w) s.heap k b/\B b k)
  (hin1:∀k∈ks1,∃b,(tupleKeyHash (aE P w) k,.ref b)∈es1.toList/\IsTupleKey (aE P w) s.heap k b) (hpl1:(∀k∈ks1,∃x,Sum.inr x∈k)->t1.plain=false)
  (h:∀h',Heap.SameBut a s.heap h'->dj P w B h' a ks1->Q true { s with heap:=h' }) :
  wpAny (model P w) A (do
   storeSet a es1 t1
   if(!false && t1.tooFull)=true then do
    setRelay a (SetTable.grown (n+1))
    pure true
   else pure true) Q E s:=by
 have hline:n+1<=sizeLine:=Nat.le_trans (show n+1<=10000 by omega) (by decide)
 have hp1:t1.place.size=es1.size:=by rw[hT1.len,Array.size_map]
 refine EC (wpAny_storeSet_of ho hd ?_ (by omega))
 have ho1:(s.heap.update a (Obj.putSet es1 t1)).get? a=some { o with data:=.set es1 (ep+1) t1 }:=by
  have:=Heap.get?_update_self (Obj.putSet es1 t1) ho (by rw[putSet_of es1 t1 hd];rfl)
  rw[putSet_of es1 t1 hd]at this
  exact this
 have hsb1:=Heap.SameBut.update s.heap a (Obj.putSet es1 t1)
 generalize s.heap.update a (Obj.putSet es1 t1)=h1 at ho1 hsb1
 have hall2:∀e∈es1.toList,∃b k,e=(tupleKeyHash (aE P w) k,.ref b)/\k∈ks1/\IsTupleKey (aE P w) h1 k b/\B b k:=fun e he=>by
  obtain⟨b,k,z1,z2,z3,z4⟩:=hall1 e he
  exact⟨b,k,z1,z2,iC z3 ho hd hsb1,z4⟩
 have hin2:∀k∈ks1,∃b,(tupleKeyHash (aE P w) k,.ref b)∈es1.toList/\IsTupleKey (aE P w) h1 k b:=fun k hk=>by
  obtain⟨b,z1,z2⟩:=hin1 k hk
  exact⟨b,z1,iC z2 ho hd hsb1⟩
 have hfill:t1.fill=n+1:=by
  unfold SetTable.fill
  rw[hdm1,hp1,hs1]
  rfl
 by_cases hq:t1.tooFull=true
 ·rw[hq]
  simp only[Bool.not_false,Bool.and_self,if_true]
  have hq':t1.mask*3<=(n+1)*5:=by
   unfold SetTable.tooFull at hq
   rw[hfill]at hq
   simpa using hq
  obtain⟨m,hm,hw,hmn,hlt⟩:∃m,Tb.Mask m/\SetTable.sizeAbove (SetTable.grown (n+1))-1=m/\n+1<=m/\(n+1)*5<m*3/\SetTable.sizeAbove (SetTable.grown (n+1))<=sizeLine:=by
   have hg:SetTable.grown (n+1)=(n+1)*4:=by
    unfold SetTable.grown
    rw[if_neg (by omega)]
   rw[hg]
   rcases hm1 with e | e | e | e | e | e<;>rw[e]at hfull hq'
   ·obtain rfl:n=4:=by omega
    exact⟨31,.inr (.inl rfl),Tb.Bk,by omega,by omega,by decide +kernel⟩
   ·obtain rfl:n=18:=by omega
    exact⟨127,.inr (.inr (.inl rfl)),Tb.xn,by omega,by omega,by decide +kernel⟩
   ·obtain rfl:n=76:=by omega
    exact⟨511,.inr (.inr (.inr (.inl rfl))),Tb.zL,by omega,by omega,by decide +kernel⟩
   ·obtain rfl:n=306:=by omega
    exact⟨2047,.inr (.inr (.inr (.inr (.inl rfl)))),Tb.xj,by omega,by omega,by decide +kernel⟩
   ·obtain rfl:n=1228:=by omega
    exact⟨8191,.inr (.inr (.inr (.inr (.inr rfl)))),Tb.Em,by omega,by omega,by decide +kernel⟩
   ·omega
  have hfit1:t1.fits es1.size=true:=by
   simp only[SetTable.fits,Bool.and_eq_true,beq_iff_eq,decide_eq_true_eq]
   refine⟨hp1,?_⟩
   rw[hfill]
   rcases hm1 with e | e | e | e | e | e<;>omega
  obtain⟨t2,order,hrel,hp2,hd2,hm2,hperm,_,hpl2,hT2⟩:=Tb.Ap t1 (es:=es1) hm hw (by omega)
  obtain⟨r1,r2⟩:=yL hperm
  have r3:=zB hperm
  refine EC ?_
  unfold setRelay
  refine EC (wpAny_setState_of (s:={ s with heap:=h1 }) ho1 rfl hfit1 ?_)
  dsimp only
  rw[if_neg (Nat.not_lt.mpr hlt.2),hrel]
  refine EC ?_
  show wpAny _ _ (do
   if(order.filterMap (es1[·]?)).size != es1.size then unsupported "internal:set-table-lost-an-element"
   pure (order.filterMap (es1[·]?),t2)) _ _ _
  rw[r1]
  simp only[bne_self_eq_false,Bool.false_eq_true,if_false]
  refine ED ?_
  dsimp only
  refine wpAny_storeSet_of (s:={ s with heap:=h1 }) ho1 rfl ?_ (by rw[r1];omega)
  have ho2:(h1.update a (Obj.putSet (order.filterMap (es1[·]?)) t2)).get? a=some { o with data:=.set (order.filterMap (es1[·]?)) (ep+1+1) t2 }:=by
   have:=Heap.get?_update_self (Obj.putSet (order.filterMap (es1[·]?)) t2) ho1 (by rw[putSet_of _ _ (o:={ o with data:=.set es1 (ep+1) t1 }) rfl];rfl)
   rw[putSet_of _ _ (o:={ o with data:=.set es1 (ep+1) t1 }) rfl]at this
   exact this
  have hsb2:=Heap.SameBut.update h1 a (Obj.putSet (order.filterMap (es1[·]?)) t2)
  refine ED (h _ (hsb1.trans hsb2) ⟨hnd,_,_,_,t2,ho2,hex,rfl,hd2,by rw[hm2];exact hm,by rw[r1,hm2,hs1];exact hlt.1,by rw[r1,hs1,hlen],by rw[hm2];exact hT2,fun e he=>?_,fun k hk=>?_,fun hx=>.inr (hpl2.trans (hpl1 hx))⟩)
  ·obtain⟨b,k,z1,z2,z3,z4⟩:=hall2 e (r2 e he)
   exact⟨b,k,z1,z2,iC z3 ho1 rfl hsb2,z4⟩
  ·obtain⟨b,z1,z2⟩:=hin2 k hk
   exact⟨b,r3.mem_iff.mpr z1,iC z2 ho1 rfl hsb2⟩
 ·have hq0:t1.tooFull=false:=by simpa using hq
  rw[hq0]
  simp only[Bool.and_false,Bool.false_eq_true,if_false]
  have hq':(n+1)*5<t1.mask*3:=by
   unfold SetTable.tooFull at hq0
   rw[hfill]at hq0
   simpa using hq0
  exact ED (h h1 hsb1 ⟨hnd,_,es1,_,t1,ho1,hex,rfl,hdm1,hm1,by rw[hs1];exact hq',by rw[hs1,hlen],hT1,hall2,hin2,fun hx=>.inr (hpl1 hx)⟩)
theorem pK{α:Type}{xs:Array α}{p:Nat}{x e:α}(h:e=x\/e∈xs.toList):e∈(SetTable.insertAt xs p x).toList:=by
 rw[Tb.hV]
 rcases h with rfl | h
 ·exact List.mem_append_right _ EO
 ·rw[←List.take_append_drop p xs.toList]at h
  rcases List.mem_append.mp h with a | a
  ·exact List.mem_append_left _ a
  ·exact List.mem_append_right _ (EL _ a)
theorem ins_map{α β:Type}(f:α->β)(xs:Array α)(p:Nat)(x:α):(SetTable.insertAt xs p x).map f=SetTable.insertAt (xs.map f) p (f x):=by
 apply Array.toList_inj.mp
 rw[Array.toList_map,Tb.hV,Tb.hV,Array.toList_map]
 simp
theorem Aa{B:Addr->List Key->Prop}{a b:Addr}{k:List Key}{ks:List (List Key)}{Q:Bool->Shared->Prop}(hu:A.units<cLine)(hk:IsTupleKey (aE P w) s.heap k b)(hB:B b k)(hS:dj P w B s.heap a ks)(hsz:ks.length<1400)
  (h:∀h' r ks',Heap.SameBut a s.heap h'->dj P w B h' a ks'->ks'.length<=ks.length+1->(∀x,x∈ks'↔x∈ks\/x=k)->Q r { s with heap:=h' }):wpAny (model P w) A (setAddHashed a (.ref b) (tupleKeyHash (aE P w) k)) Q E s:=by
 obtain⟨hnd,o,es,ep,t,ho,hex,hd,hdm,hm,hfull,hlen,hT,hall,hin,hpl⟩:=id hS
 have hp:t.place.size=es.size:=by rw[hT.len,Array.size_map]
 have hle:es.size<=t.mask:=by omega
 have hf:t.fits es.size=true:=by
  simp only[SetTable.fits,Bool.and_eq_true,beq_iff_eq,decide_eq_true_eq]
  refine⟨hp,?_⟩
  unfold SetTable.fill
  rw[hdm,hp]
  simpa using hle
 have hturn:10*SetTable.turns t.mask<100000:=by
  unfold SetTable.turns
  rcases hm with e | e | e | e | e | e<;>rw[e]<;>decide
 have hst:∀x,(Tb.aD t x (Option.getD none (t.probeStart (tupleKeyHash (aE P w) k)))).j=Tb.pm t.mask (tupleKeyHash (aE P w) k) x:=fun x=>Tb.tO t _ x
 unfold setAddHashed setAddHashedIn
 refine wpAny_holding (EC (wpAny_setState_of ho hd hf ?_))
 dsimp only
 have hsc:byScan (.ref b) es=false:=rfl
 rw[hsc]
 simp only[Bool.false_eq_true,if_false]
 unfold setSearch
 rcases Classical.em (k∈ks)with hold | hold
 ·obtain⟨b0,hb0,hkb0⟩:=hin k hold
  obtain⟨i0,hi0⟩:=List.getElem?_of_mem hb0
  rw[Array.getElem?_toList]at hi0
  have hi0s:=(Array.getElem?_eq_some_iff.mp hi0).1
  obtain⟨j0,hj0⟩:∃j0,t.place[i0]?=some j0:=⟨_,getElem?_pos t.place i0 (by omega)⟩
  obtain⟨K,q1,q2,q3⟩:=hT.rch i0 j0 (tupleKeyHash (aE P w) k) hj0 (by rw[Array.getElem?_map,hi0];rfl)
  refine EC (xN hu hk ho hd hf hm hdm (fun e he=>?_) ⟨b0,hi0,hkb0⟩ ?_ K 100000 none (by omega) q1 rfl (fun x hx=>?_) ?_)
  ·obtain⟨b',k',e1,_,e3,_⟩:=hall e he
   exact⟨b',k',by rw[e1],e3⟩
  ·dsimp only
   refine ED ?_
   have e:s={ s with heap:=s.heap }:=by cases s;rfl
   rw[e]
   exact h s.heap _ ks (Heap.SameBut.refl a s.heap) hS (Nat.le_succ _) fun x=>⟨.inl,fun z=>z.elim id fun e=>e ▸ hold⟩
  ·rw[hst]
   obtain⟨i,e,_⟩:=Tb.qp hT.inc (q3 x hx)
   rw[e]
   intro z
   cases z
  ·rw[hst,q2]
   exact Tb.slot_mem hT.inc hj0
 ·obtain⟨K,q1,q2,q3⟩:=Tb.xO hdm hm (by rw[hp];exact hle) (tupleKeyHash (aE P w) k)
  have hall':∀e∈es.toList,∃b' k',e.2=.ref b'/\IsTupleKey (aE P w) s.heap k' b'/\k'≠k:=fun e he=>by
   obtain⟨b',k',h1,h2,h3,_⟩:=hall e he
   exact⟨b',k',by rw[h1],h3,fun z=>hold (z ▸ h2)⟩
  refine EC (ye hu hk ho hd hf hm hdm hall' K 100000 none (by omega) q1 rfl (fun x hx=>by rw[hst];exact q3 x hx) (by rw[hst];exact q2) ?_)
  rw[hst]
  dsimp only
  refine EC (wpAny_setState_of ho hd hf ?_)
  dsimp only
  have hnm:=Tb.AR hT.inc q2
  have hTp:=hT.put q1 hnm (fun x hx=>Tb.wR hdm (q3 x hx))
  have hput:(t.put (Tb.pm t.mask (tupleKeyHash (aE P w) k) K)).1.dummies = #[]:=by
   show(if SetTable.has t.dummies _=true then _ else t.dummies) = #[]
   rw[hdm,Tb.wx]
   rfl
  generalize Tb.pm t.mask (tupleKeyHash (aE P w) k) K=j at hTp hput
  have hT1:Tb.TOk t.mask (t.put j).1.place ((SetTable.insertAt es (t.put j).2 (tupleKeyHash (aE P w) k,Value.ref b)).map (·.1)):=by
   rw[ins_map]
   exact hTp
  have hins:∀e∈(SetTable.insertAt es (t.put j).2 (tupleKeyHash (aE P w) k,Value.ref b)).toList,∃b' k',e=(tupleKeyHash (aE P w) k',.ref b')/\k'∈k::ks/\IsTupleKey (aE P w) s.heap k' b'/\B b' k':=fun e he=>by
   rcases Tb.DV he with rfl | he
   ·exact⟨b,k,rfl,EO,hk,hB⟩
   ·obtain⟨b',k',z1,z2,z3,z4⟩:=hall e he
    exact⟨b',k',z1,EL _ z2,z3,z4⟩
  have hin':∀k'∈k::ks,∃b',(tupleKeyHash (aE P w) k',Value.ref b')∈(SetTable.insertAt es (t.put j).2 (tupleKeyHash (aE P w) k,Value.ref b)).toList/\IsTupleKey (aE P w) s.heap k' b':=fun k' hk'=>by
   rcases List.mem_cons.mp hk' with rfl | hk'
   ·exact⟨b,pK (.inl rfl),hk⟩
   ·obtain⟨b',z1,z2⟩:=hin k' hk'
    exact⟨b',pK (.inr z1),z2⟩
  have hnd':(k::ks).Nodup:=List.nodup_cons.mpr ⟨hold,hnd⟩
  have h':∀h',Heap.SameBut a s.heap h'->dj P w B h' a (k::ks)->Q true { s with heap:=h' }:=fun h2 sb hS'=>h h2 true _ sb hS' (Nat.le_refl _) fun x=>by rw[List.mem_cons];exact⟨fun z=>z.symm,fun z=>z.symm⟩
  have fin:∀c:Bool,((∀k'∈k::ks,∃x,Sum.inr x∈k')->(t.put j).1.plain=false\/c=false)->wpAny (model P w) A (do
    storeSet a (SetTable.insertAt es (t.put j).2 (tupleKeyHash (aE P w) k,Value.ref b)) (if c=true then(t.put j).1 else{ (t.put j).1 with plain:=false })
    if(!false && (if c=true then(t.put j).1 else{ (t.put j).1 with plain:=false }).tooFull)=true then do
     setRelay a (SetTable.grown (es.size+1))
     pure true
    else pure true) Q E s:=fun c hcp=>by
   refine Bm (ks1:=k::ks) hnd' ho hex hd (Tb.m9 _ _ _) ?_ ?_ ?_ (by omega) (by rw[List.length_cons,hlen]) ?_ hins hin' ?_ h'
   ·cases c<;>exact hput
   ·cases c<;>exact hm
   ·cases c<;>exact hfull
   ·cases c<;>exact hT1
   ·intro hx
    cases c
    ·rfl
    ·rcases hcp hx with z | z
     ·exact z
     ·cases z
  cases hpl':(t.put j).1.plain
  ·simp only[Bool.false_eq_true,if_false]
   exact EC (ED (fin true fun _=>.inl hpl'))
  ·simp only[if_true]
   rcases Classical.em (∃x,Sum.inr x∈k)with⟨x,hx⟩ | hx
   ·exact EC (DH hk hx (fin false fun _=>.inr rfl))
   ·exact EC (wX hk fun c=>fin c fun hall=>absurd (hall k EO) hx)
end
section
variable {P:Program} {w:World} {A:Around} {I:Addr} {fp wr:List Addr} {G:Array GenState->Array GenState->Prop} {n:Nat} {Pz:Nat->Value->Prop} {St:Nat->Shared->Prop}
theorem dj.moved{B:Addr->List Key->Prop}{h h':Heap}{a:Addr}{ks:List (List Key)}{wr:List Addr}(hS:dj P w B h a ks)(hk:∀b o,b∉wr->h.get? b=some o->h'.get? b=some o)(ha:a∉wr)(hw:∀b∈wr,∀o,h.get? b=some o->∃vs,o.data=.fields vs):dj P w B h' a ks:=by
 obtain⟨hnd,o,es,ep,t,ho,hex,hd,h1,h2,h3,h4,h5,hall,hin,hpl⟩:=hS
 have mv:∀k b,IsTupleKey (aE P w) h k b->IsTupleKey (aE P w) h' k b:=fun k b ⟨o',items,m,ho',hc,hd',hi⟩=>⟨o',items,m,hk b o' (fun hb=>by
   obtain⟨vs,hv⟩:=hw b hb o' ho'
   rw[hd']at hv
   cases hv) ho',hc,hd',hi⟩
 refine⟨hnd,o,es,ep,t,hk a o ha ho,hex,hd,h1,h2,h3,h4,h5,fun e he=>?_,fun k hk=>?_,hpl⟩
 ·obtain⟨b,k,z1,z2,z3,z4⟩:=hall e he
  exact⟨b,k,z1,z2,mv k b z3,z4⟩
 ·obtain⟨b,z1,z2⟩:=hin k hk
  exact⟨b,z1,mv k b z2⟩
theorem qR{B:Addr->List Key->Prop}(W:WalksS P w A.in1 I fp wr G n Pz St)(S:Addr)(hS:S∉fp)(hu:A.in1.units<cLine)(bs:List Addr)(kk:List (List Key))(hnk:kk.length=n)(hBk:∀(j:Nat) b k,bs[j]?=some b->kk[j]?=some k->B b k)(hsz:n<1400)
  (hval:∀i v,Pz i v->∃b,v=.ref b/\bs[i]?=some b) (hwr:∀i s,St i s->∀b∈wr,∀o,s.heap.get? b=some o->∃vs,o.data=.fields vs) {R:Result->Shared->Prop} :
  ∀(m i:Nat) (s:Shared) (D:List (List Key)),n-i=m->i<=n->St i s->dj P w B s.heap S D->D.length<=i->(∀k,k∈D↔k∈kk.take i)->(∀(j:Nat) (b:Addr) (k:List Key),bs[j]?=some b->kk[j]?=some k->IsTupleKey (aE P w) s.heap k b) →
   (∀s' D,Moved (S::wr) G s s'->dj P w B s'.heap S D->(∀k,k∈D↔k∈kk)->R (.ok (.ret .none)) s') →
   codeAny (model P w) A (.builtin "set.update.loop" ⟨[.ref S,.ref I],[]⟩) R s:=by
 have hSw:S∉wr:=fun z=>hS (W.sub _ z)
 have more:∀b∈wr,b∈S::wr:=fun b z=>EL _ z
 intro m
 induction m with
 | zero=>
  intro i s D hm hi hst hset _ hD hkeys hR
  obtain rfl:i=n:=by omega
  refine codeAny_builtin F.entry_set_update_loop ?_
  rw[Around.under_plainId F.plain_set_update_loop _]
  show wpAny _ A.in1 (pyNext (.ref I) >>= _) _ _ s
  refine EC (W.done s _ _ hst fun s' mv=>?_)
  rw[←hnk,List.take_length]at hD
  exact ED (hR s' D (mv.mono more) (hset.moved mv.heap hSw (hwr _ s hst)) hD)
 | succ m ih=>
  intro i s D hm hi hst hset hDl hD hkeys hR
  have hlt:i<n:=by omega
  refine codeAny_builtin F.entry_set_update_loop ?_
  rw[Around.under_plainId F.plain_set_update_loop _]
  show wpAny _ A.in1 (pyNext (.ref I) >>= _) _ _ s
  refine EC (W.item i s _ _ hlt hst fun v s' hP hst' mv=>?_)
  obtain⟨b,rfl,hb⟩:=hval i v hP
  have hki:kk[i]?=some kk[i]:=EJ (by omega)
  have hset':=hset.moved mv.heap hSw (hwr _ s hst)
  have hkeys':∀(j:Nat) (b:Addr) (k:List Key),bs[j]?=some b->kk[j]?=some k->IsTupleKey (aE P w) s'.heap k b:=fun j b k e1 e2=>by
   obtain⟨o',items,q,ho',hc,hd',hi'⟩:=hkeys j b k e1 e2
   refine⟨o',items,q,mv.heap b o' (fun hbw=>?_) ho',hc,hd',hi'⟩
   obtain⟨vs,hv⟩:=hwr _ s hst b hbw o' ho'
   rw[hd']at hv
   cases hv
  show wpAny _ A.in1 (holding [Value.ref b] (setAdd S (.ref b)) >>= _) _ _ s'
  refine EC (wpAny_holding ?_)
  unfold setAdd
  refine wpAny_holding (EC (wpAny_pyHash_tuple hu (hkeys' i b _ hb hki) ?_))
  refine Aa (s:={ s' with toks:=s'.toks+(kk[i].length+1) }) hu (hkeys' i b _ hb hki) (hBk i b _ hb hki) hset' (by omega) fun h' r D1 sb hset2 hD1l hD1=>?_
  have htk:∀k,k∈D1↔k∈kk.take (i+1):=fun k=>by
   rw[hD1,hD k,List.take_add_one,hki,List.mem_append]
   simp
  obtain⟨_,oS,esS,epS,tS,hoS,_,hdS,_⟩:=id hset'
  refine ED ⟨plainId_quiet F.plain_set_update_loop _,ih (i+1) _ _ (by omega) hlt (W.frame _ s' _ _ hst' (Nat.le_add_right _ _) fun c hc o e=>?_) hset2 (by omega) htk (fun j c k e1 e2=>iC (hkeys' j c k e1 e2) hoS hdS sb) fun s'' D2 mv2 hS2=>?_⟩
  ·rw[sb.2 c (fun z:c=S=>hS (z ▸ hc))]
   exact e
  ·refine hR s'' D2 (Moved.trans W.gtrans ((mv.mono more).then_heap (Nat.le_add_right _ _) fun c o hc e=>?_) mv2) hS2
   rw[sb.2 c (fun z:c=S=>hc (by rw[z];exact EO))]
   exact e
end
end L2
namespace L2
open PySem PySem.Spec PyProof.Rows
section
variable {P:Program} {w:World} {A:Around} {E:Value->Shared->Prop} {s:Shared}
abbrev bx(led:Bool):Obj:={ cls:=.type "set",dict:=none,data:=.set #[] 0 (.fresh 0 0 led) }
def iL(P:Program)(w:World)(s:Shared)(bs:List Addr)(kk D:List (List Key))(h':Heap):Prop:=
 dj P w (fun b k=>∃j:Nat,bs[j]?=some b/\kk[j]?=some k) h' s.heap.objs.size D/\(∀k,k∈D↔k∈kk)/\∀b o,b<s.heap.objs.size->s.heap.get? b=some o->h'.get? b=some o
theorem DO:isSubtype (.type "tuple") (.type "frozenset")=pure false:=by
 rw[isSubtype_type]
 kernel_rfl
theorem zb{t:Addr}{ys:Array Value}{bs:List Addr}{kk:List (List Key)}{Q:Value->Shared->Prop}(hA:A.handled=none)(hu:A.units+5<cLine)(gt:s.heap.IsTuple t ys)(hb:ys.toList=bs.map Value.ref)
  (hn:kk.length=ys.size) (hz:ys.size<1400) (hkey:∀(j:Nat) (b:Addr) (k:List Key),bs[j]?=some b->kk[j]?=some k->IsTupleKey (aE P w) s.heap k b)
  (h:∀(h':Heap) (tk:Nat) (D:List (List Key)),iL P w s bs kk D h'->Q (.ref s.heap.objs.size) { s with heap:=h',toks:=tk }):wpAny (model P w) A (call (.type "set") [.ref t]) Q E s:=by
 have x1:=F.called_set.notType
 have x2:=F.called_set.canCreate
 have x3:=F.typeCall_set_1 (.ref t)
 have x4:=F.called_set.made
 have x5:=F.called_set.sub
 obtain⟨c,tl,x6⟩:=F.called_set.mro
 refine wpAny_call (codeAny_of_tree ?_)
 show wpAny _ _ (callAny (.type "set") _) _ _ _
 refine ED ⟨Code.quiet_builtin _ (by decide +kernel),codeAny_builtin F.entry_type_call ?_⟩
 rw[Around.under_plain (weight_type_call_type "set" [.ref t] []) rfl]
 repeat (any_goals (first | assumption | wp_step))
 refine codeAny_mono (code_set_new_1 (.ref t) (E:=E) (Q₁:=fun v s1=>∃led,v=.ref s.heap.objs.size/\s1={ s with heap:=s.heap.push (bx led) }) fun led=>⟨led,rfl,rfl⟩) fun r s1 hr=>?_
 cases r with
 | error e=>exact hr
 | ok fl=>
  cases fl with
  | ret v=>
   obtain⟨led,rfl,rfl⟩:=hr
   have gS:(s.heap.push (bx led)).get? s.heap.objs.size=some (bx led):=EG _ rfl
   have hT:Shared.TypeIs { s with heap:=s.heap.push (bx led) } (.ref s.heap.objs.size) "set":=⟨_,gS,rfl⟩
   have x7:=F.called_set.init.lookup
   have x8:=F.called_set.init.bind (.ref s.heap.objs.size)
   repeat (any_goals (first | assumption | wp_step))
   refine codeAny_mono (codeAny_call_builtin (R:=wants (fun r s2=>r=.none/\∃h' tk D,s2={ s with heap:=h',toks:=tk }/\iL P w s bs kk D h') E) F.called_set.init.plain F.entry_set_init (check_set_init_1 hT ?_)) fun r2 s2 hr2=>?_
   ·have g1:(s.heap.push (bx led)).IsTuple t ys:=gt.push _
    have hlt:t<s.heap.objs.size:=by
     obtain⟨o,ho,_⟩:=gt
     exact EH ho
    obtain⟨ol,hol,hcl,nl,hdl⟩:=id g1
    obtain⟨c0,d0,dt,sl⟩:=ol
    simp only at hcl hdl
    subst hcl hdl
    have y1:=F.sub_tuple_set
    have y2:=DO
    have y3:(Value.type "tuple" == Value.type "dict")=false:=by decide
    unfold Builtin.«set.__init__» noKeywords Builtin.Frozenset.updateFrom
    generalize hit:pyIter=PI
    wp_walk
    subst hit
    refine wpAny_pyIter_tuple g1 ?_
    refine EC (wpAny_runValue ?_)
    have e1:(s.heap.push (bx led)).objs.size=s.heap.objs.size+1:=Heap.size_push _ _
    have hA3:A.in1.in1.in1.handled=none:=by simp[hA]
    have hne:t≠(s.heap.push (bx led)).objs.size:=by
     rw[e1]
     exact Nat.ne_of_lt (Nat.lt_succ_of_lt hlt)
    have hSf:s.heap.objs.size∉[(s.heap.push (bx led)).objs.size,t]:=by
     intro z
     rcases List.mem_cons.mp z with z | z
     ·rw[e1]at z
      exact Nat.ne_of_lt (Nat.lt_succ_self _) z
     ·exact Nat.ne_of_gt hlt (List.mem_singleton.mp z)
    have hbs:∀i:Nat,ys[i]?=(bs[i]?).map Value.ref:=fun i=>by
     rw[←Array.getElem?_toList,hb,EK]
    refine qR (B:=fun b k=>∃j:Nat,bs[j]?=some b/\kk[j]?=some k) ((Walks.tuple hA3 _ t hne ys).toS) s.heap.objs.size hSf (by simp only[Around.in1_units];omega) bs kk hn (fun j b k q1 q2=>⟨j,q1,q2⟩) hz (fun i v hv=>?_) (fun i s' hs b hb' o ho=>?_) (ys.size-0) 0 _ [] (by omega) (Nat.zero_le _) ⟨⟨_,EG _ rfl,rfl,rfl⟩,g1.push _⟩ ⟨List.nodup_nil,bx led,#[],0,_,EF _ gS,⟨rfl,rfl,rfl⟩,rfl,rfl,.inl rfl,(show 0*5<7*3 by decide),rfl,(by rw[Array.map_empty];exact Tb.TOk.nil 7),fun e he=>(by simp at he),fun k hk=>(by cases hk),fun _=>.inl rfl⟩ (Nat.le_refl _) (fun k=>by simp) (fun j b k e1 e2=>?_) fun s' D mv hS' hD=>?_
    ·have hv':ys[i]?=some v:=hv
     rw[hbs i]at hv'
     obtain⟨b,e,rfl⟩:=Option.map_eq_some_iff.mp hv'
     exact⟨b,rfl,e⟩
    ·cases List.mem_singleton.mp hb'
     obtain⟨o',ho',_,hd'⟩:=hs.1
     rw[ho']at ho
     cases ho
     exact⟨_,hd'⟩
    ·obtain⟨o,items,q,ho,r⟩:=hkey j b k e1 e2
     exact⟨o,items,q,EF _ (EF _ ho),r⟩
    ·obtain⟨h',g',d',tk',os'⟩:=s'
     have q1:g'=s.gens:=mv.gens
     have q2:d'=s.drawn:=mv.drawn
     have q3:os'=s.os:=mv.os
     subst q1 q2 q3
     show wpAny _ _ _ _ _ _
     refine ED ?_
     show wpAny _ _ (ret Value.none) _ _ _
     refine ED ⟨rfl,h',tk',D,rfl,hS',hD,fun b o hb e=>mv.heap b o (fun z=>?_) (EF _ (EF _ e))⟩
     rcases List.mem_cons.mp z with z | z
     ·exact Nat.ne_of_lt hb z
     ·have z:=List.mem_singleton.mp z
      rw[e1]at z
      exact Nat.ne_of_lt (Nat.lt_succ_of_lt hb) z
   ·cases r2 with
    | error e=>exact hr2
    | ok f2=>
     cases f2 with
     | ret r=>
      obtain⟨rfl,h',tk,D,rfl,hS'⟩:=hr2
      repeat (any_goals (first | assumption | wp_step))
      exact h _ _ D hS'
     | _=>exact hr2.elim
  | _=>exact hr.elim
theorem Ag{t:Addr}{ys:Array Value}{bs:List Addr}{kk:List (List Key)}{Q:Value->Shared->Prop}(hA:A.handled=none)(hu:A.units+5<cLine)(gt:s.heap.IsList t ys)(hb:ys.toList=bs.map Value.ref)
  (hn:kk.length=ys.size) (hz:ys.size<1400) (hkey:∀(j:Nat) (b:Addr) (k:List Key),bs[j]?=some b->kk[j]?=some k->IsTupleKey (aE P w) s.heap k b)
  (h:∀(h':Heap) (tk:Nat) (D:List (List Key)),iL P w s bs kk D h'->Q (.ref s.heap.objs.size) { s with heap:=h',toks:=tk }):wpAny (model P w) A (call (.type "set") [.ref t]) Q E s:=by
 have x1:=F.called_set.notType
 have x2:=F.called_set.canCreate
 have x3:=F.typeCall_set_1 (.ref t)
 have x4:=F.called_set.made
 have x5:=F.called_set.sub
 obtain⟨c,tl,x6⟩:=F.called_set.mro
 refine wpAny_call (codeAny_of_tree ?_)
 show wpAny _ _ (callAny (.type "set") _) _ _ _
 refine ED ⟨Code.quiet_builtin _ (by decide +kernel),codeAny_builtin F.entry_type_call ?_⟩
 rw[Around.under_plain (weight_type_call_type "set" [.ref t] []) rfl]
 repeat (any_goals (first | assumption | wp_step))
 refine codeAny_mono (code_set_new_1 (.ref t) (E:=E) (Q₁:=fun v s1=>∃led,v=.ref s.heap.objs.size/\s1={ s with heap:=s.heap.push (bx led) }) fun led=>⟨led,rfl,rfl⟩) fun r s1 hr=>?_
 cases r with
 | error e=>exact hr
 | ok fl=>
  cases fl with
  | ret v=>
   obtain⟨led,rfl,rfl⟩:=hr
   have gS:(s.heap.push (bx led)).get? s.heap.objs.size=some (bx led):=EG _ rfl
   have hT:Shared.TypeIs { s with heap:=s.heap.push (bx led) } (.ref s.heap.objs.size) "set":=⟨_,gS,rfl⟩
   have x7:=F.called_set.init.lookup
   have x8:=F.called_set.init.bind (.ref s.heap.objs.size)
   repeat (any_goals (first | assumption | wp_step))
   refine codeAny_mono (codeAny_call_builtin (R:=wants (fun r s2=>r=.none/\∃h' tk D,s2={ s with heap:=h',toks:=tk }/\iL P w s bs kk D h') E) F.called_set.init.plain F.entry_set_init (check_set_init_1 hT ?_)) fun r2 s2 hr2=>?_
   ·have g1:(s.heap.push (bx led)).IsList t ys:=gt.push _
    have hlt:t<s.heap.objs.size:=by
     obtain⟨o,ho,_⟩:=gt
     exact EH ho
    obtain⟨ol,hol,hcl,nl,hdl⟩:=id g1
    obtain⟨c0,d0,dt,sl⟩:=ol
    simp only at hcl hdl
    subst hcl hdl
    have y1:=F.sub_list_set
    have y2:=F.sub_list_frozenset
    have y3:(Value.type "list" == Value.type "dict")=false:=by decide
    unfold Builtin.«set.__init__» noKeywords Builtin.Frozenset.updateFrom
    generalize hit:pyIter=PI
    wp_walk
    subst hit
    refine wpAny_pyIter_list g1 ?_
    refine EC (wpAny_runValue ?_)
    have e1:(s.heap.push (bx led)).objs.size=s.heap.objs.size+1:=Heap.size_push _ _
    have hA3:A.in1.in1.in1.handled=none:=by simp[hA]
    have hne:t≠(s.heap.push (bx led)).objs.size:=by
     rw[e1]
     exact Nat.ne_of_lt (Nat.lt_succ_of_lt hlt)
    have hSf:s.heap.objs.size∉[(s.heap.push (bx led)).objs.size,t]:=by
     intro z
     rcases List.mem_cons.mp z with z | z
     ·rw[e1]at z
      exact Nat.ne_of_lt (Nat.lt_succ_self _) z
     ·exact Nat.ne_of_gt hlt (List.mem_singleton.mp z)
    have hbs:∀i:Nat,ys[i]?=(bs[i]?).map Value.ref:=fun i=>by
     rw[←Array.getElem?_toList,hb,EK]
    refine qR (B:=fun b k=>∃j:Nat,bs[j]?=some b/\kk[j]?=some k) ((Walks.list hA3 _ t hne ys).toS) s.heap.objs.size hSf (by simp only[Around.in1_units];omega) bs kk hn (fun j b k q1 q2=>⟨j,q1,q2⟩) hz (fun i v hv=>?_) (fun i s' hs b hb' o ho=>?_) (ys.size-0) 0 _ [] (by omega) (Nat.zero_le _) ⟨⟨_,EG _ rfl,rfl,rfl⟩,g1.push _⟩ ⟨List.nodup_nil,bx led,#[],0,_,EF _ gS,⟨rfl,rfl,rfl⟩,rfl,rfl,.inl rfl,(show 0*5<7*3 by decide),rfl,(by rw[Array.map_empty];exact Tb.TOk.nil 7),fun e he=>(by simp at he),fun k hk=>(by cases hk),fun _=>.inl rfl⟩ (Nat.le_refl _) (fun k=>by simp) (fun j b k e1 e2=>?_) fun s' D mv hS' hD=>?_
    ·have hv':ys[i]?=some v:=hv
     rw[hbs i]at hv'
     obtain⟨b,e,rfl⟩:=Option.map_eq_some_iff.mp hv'
     exact⟨b,rfl,e⟩
    ·cases List.mem_singleton.mp hb'
     obtain⟨o',ho',_,hd'⟩:=hs.1
     rw[ho']at ho
     cases ho
     exact⟨_,hd'⟩
    ·obtain⟨o,items,q,ho,r⟩:=hkey j b k e1 e2
     exact⟨o,items,q,EF _ (EF _ ho),r⟩
    ·obtain⟨h',g',d',tk',os'⟩:=s'
     have q1:g'=s.gens:=mv.gens
     have q2:d'=s.drawn:=mv.drawn
     have q3:os'=s.os:=mv.os
     subst q1 q2 q3
     show wpAny _ _ _ _ _ _
     refine ED ?_
     show wpAny _ _ (ret Value.none) _ _ _
     refine ED ⟨rfl,h',tk',D,rfl,hS',hD,fun b o hb e=>mv.heap b o (fun z=>?_) (EF _ (EF _ e))⟩
     rcases List.mem_cons.mp z with z | z
     ·exact Nat.ne_of_lt hb z
     ·have z:=List.mem_singleton.mp z
      rw[e1]at z
      exact Nat.ne_of_lt (Nat.lt_succ_of_lt hb) z
   ·cases r2 with
    | error e=>exact hr2
    | ok f2=>
     cases f2 with
     | ret r=>
      obtain⟨rfl,h',tk,D,rfl,hS'⟩:=hr2
      repeat (any_goals (first | assumption | wp_step))
      exact h _ _ D hS'
     | _=>exact hr2.elim
  | _=>exact hr.elim
end
end L2
namespace L2
open PySem PySem.Spec PyProof.Rows
namespace SF
theorem rW:entryFor table "set.__iter__" = some Builtin.«frozenset.__iter__»:=entryFor_alias (id':="frozenset.__iter__") (by kernel_rfl) rfl (by decide +kernel) (by kernel_rfl)
theorem qk(a:Value):argsOk "set.__iter__" ⟨[a],[]⟩:=by unfold argsOk;kernel_rfl
theorem slot_next:Slot "set_iterator" "__next__" "set_iterator.__next__":=
 .of (owner:="set_iterator") (n:="__next__") (by rw[typeLookup_type,builtinLookup_eq_fast];kernel_rfl) (by decide +kernel) (by decide +kernel) (by decide +kernel)
  (by first | exact .inl (by decide +kernel) | exact .inr (by decide +kernel)) (by rw[isSubtype_type];kernel_rfl)
theorem entry_next:entryFor table "set_iterator.__next__" = some Builtin.«set_iterator.__next__»:=entryFor_of_fast (by kernel_rfl)
theorem args_next(a:Value):argsOk "set_iterator.__next__" ⟨[a],[]⟩:=by unfold argsOk;kernel_rfl
theorem rB:Slot "set_iterator" "__iter__" "set_iterator.__iter__":=
 .of (owner:="set_iterator") (n:="__iter__") (by rw[typeLookup_type,builtinLookup_eq_fast];kernel_rfl) (by decide +kernel) (by decide +kernel) (by decide +kernel)
  (by first | exact .inl (by decide +kernel) | exact .inr (by decide +kernel)) (by rw[isSubtype_type];kernel_rfl)
theorem BR:entryFor table "set_iterator.__iter__" = some Builtin.«dict_keyiterator.__iter__»:=entryFor_alias (id':="dict_keyiterator.__iter__") (by kernel_rfl) rfl (by decide +kernel) (by kernel_rfl)
theorem Cd(a:Value):argsOk "set_iterator.__iter__" ⟨[a],[]⟩:=by unfold argsOk;kernel_rfl
end SF
section
variable {P:Program} {w:World} {A:Around} {E:Value->Shared->Prop} {s:Shared}
theorem zC{n:Nat}{Q:Nat->Shared->Prop}(hn:n≠0)(h:∀i d,i<n->Q i { s with drawn:=d }):wpAny (model P w) A (choose .order n) Q E s:=fun Γ p hΓ=>by
 unfold choose
 rw[Sem.wp_choose]
 exact⟨hn,by rw[Sem.wp_pure];exact h _ _ (Nat.mod_lt _ (Nat.pos_of_ne_zero hn))⟩
theorem nH{α:Type}:∀{l:List α} {i:Nat} (h:i<l.length),(l[i]::l.eraseIdx i).Perm l
 | [],i,h=>by cases h
 | x::l,0,h=>.refl _
 | x::l,i+1,h=>by
  have:=nH (l:=l) (i:=i) (Nat.lt_of_succ_lt_succ h)
  exact(List.Perm.swap _ _ _).trans (this.cons x)
theorem si{α:Type}:∀(n:Nat) (xs:List α) (s:Shared) {Q:List α->Shared->Prop},n=xs.length->(∀ys d,ys.Perm xs->Q ys { s with drawn:=d })->wpAny (model P w) A (drawOrder n xs) Q E s
 | 0,xs,s,Q,hn,h=>by
  obtain rfl:=List.length_eq_zero_iff.mp hn.symm
  unfold drawOrder
  exact ED (h [] s.drawn (.refl _))
 | n+1,[],s,Q,hn,h=>by cases hn
 | n+1,x::xs,s,Q,hn,h=>by
  unfold drawOrder
  refine EC (zC (by simp) fun i d hi=>?_)
  have e:(x::xs)[i]?=some (x::xs)[i]:=EJ hi
  rw[e]
  dsimp only
  refine EC (si n _ { s with drawn:=d } (by rw[List.length_eraseIdx_of_lt hi,←hn];rfl) fun ys d' hp=>ED (h _ d' ?_))
  exact(List.Perm.cons _ hp).trans (nH hi)
theorem vm{α:Type}(next:Nat->Nat):∀(fuel k:Nat) (left:List α) (out:Array α),fuel=left.length->(pickOrder.go next fuel k left out).toList.Perm (out.toList++left)
 | 0,k,left,out,h=>by
  obtain rfl:=List.length_eq_zero_iff.mp h.symm
  unfold pickOrder.go
  rw[List.append_nil]
 | fuel+1,k,left,out,h=>by
  unfold pickOrder.go
  have hlt:next k % left.length<left.length:=Nat.mod_lt _ (by omega)
  rw[EJ hlt]
  dsimp only
  refine(vm next fuel (k+1) _ _ (by rw[List.length_eraseIdx_of_lt hlt];omega)).trans ?_
  rw[Array.toList_push,List.append_assoc]
  exact(nH hlt).append_left _
theorem gF{α:Type}(next:Nat->Nat)(xs:Array α):(pickOrder next xs).toList.Perm xs.toList:=by
 have:=vm next xs.size 0 xs.toList #[] (by simp)
 rw[List.nil_append]at this
 exact this
end
end L2
namespace L2
open PySem PySem.Spec PyProof.Rows
section
variable {P:Program} {w:World} {A:Around} {E:Value->Shared->Prop} {s:Shared}
abbrev aO(a:Addr)(first:Value)(i n ep:Nat):Obj:={ cls:=.type "set_iterator",data:=.fields #[first,rawInt i,.ref a,rawInt n,rawInt ep] }
theorem mG{it:Addr}{h1:Heap}{Q:Option Value->Shared->Prop}(hh:A.handled=none)(he:Heap.ExtBut it s.heap h1)(hQ:∀h',Heap.ExtBut it s.heap h'->Q none { s with heap:=h' }):
  wpAny (model P w) A.in1 (newExc (.type "StopIteration") [] >>= raiseNew) (fun r s'=>∃v,r=Fin.done (.ret v)/\wpAny (model P w) A (pure (some v)) Q E s') (fun e s'=>wpAny (model P w) A (do if ←isInstance e (.type "StopIteration")then pure none else throw e) Q E s') { s with heap:=h1 }:=by
 refine EC ?_
 simp only[newExc,newTuple]
 refine EC (wpAny_newObj_type ?_ (by size_fits))
 refine EC (m:=firstArgMember _ _) (wpAny_of_eq (a:=Value.none) (by first | rfl | (simp only[firstArgMember];rfl)) ?_)
 refine wpAny_newObj_type ?_ (by size_fits)
 simp only[raiseNew]
 refine EC (wpAny_handled ?_)
 rw[show A.in1.handled=none from hh]
 refine EC (ED (wpAny_throw ?_))
 refine EC (wpAny_isInstance (T:="StopIteration") (b:=true) ⟨_,EG _ rfl,rfl⟩ isSubtype_stop ?_)
 exact ED (hQ _ ((he.push _).push _))
theorem gR{it a:Addr}{first x:Value}{i n ep k:Nat}{f':Array Value}{h:Heap}(ho:h.get? it=some (aO a first i n ep))(hf:(#[first,rawInt i,.ref a,rawInt n,rawInt ep]:Array Value).setIfInBounds k x=f'):
  (h.update it (Obj.mapFields (·.setIfInBounds k x))).get? it=some { cls:=.type "set_iterator",data:=.fields f' }:=by
 have:=Heap.get?_update_self (Obj.mapFields (·.setIfInBounds k x)) ho (Obj.isFreed_of_fields (Obj.data_mapFields rfl _))
 rw[this,←hf]
 rfl
theorem Aj{it a:Addr}{i ep:Nat}{o:Obj}{es:Array (Int×Value)}{t:SetTable}{Q:Option Value->Shared->Prop}(hT:w.params.followText "set-order" = true)(hit:s.heap.get? it=some (aO a (rawInt 0) i es.size ep))(ho:s.heap.get? a=some o)(hd:o.data=.set es ep t)(hf:t.fits es.size=true)
  {x:Int×Value} (hx:(pickOrder (w.params.setOrder a ep) es)[i]?=some x) (hQ:∀h',h'.get? it=some (aO a (rawInt 0) (i+1) es.size ep)->Heap.SameBut it s.heap h'->Q (some x.2) { s with heap:=h' }):wpAny (model P w) A (pyNext (.ref it)) Q E s:=by
 have T:s.TypeIs (.ref it) "set_iterator":=⟨_,hit,rfl⟩
 unfold pyNext
 refine EC (wpAny_attempt (wpAny_callSpecial?_slot (name:=Str.ofString "__next__") T SF.slot_next (wpAny_call_entry SF.slot_next T SF.entry_next ?_ (SF.args_next _))))
 show wpAny _ _ (fieldsOf (.ref it) >>= _) _ _ s
 refine EC (wpAny_fieldsOf hit rfl ?_)
 show wpAny _ _ (setEntries a >>= _) _ _ s
 unfold setEntries
 refine EC (EC (wpAny_setState_of ho hd hf (ED ?_)))
 rw[if_neg (by simp)]
 show wpAny _ _ (setNext a 0 _ _ >>= _) _ _ s
 unfold setNext
 refine EC (EC (wpAny_setState_of ho hd hf ?_))
 dsimp only
 unfold setsByText
 refine EC (EC (wpAny_askSetting (ED ?_)))
 rw[show (model P w).w.params.followText "set-order" = true from hT]
 simp only[if_true]
 rw[if_neg (by simp)]
 unfold setWalk
 refine EC (EC (wpAny_setState_of ho hd hf ?_))
 dsimp only
 unfold setsByText
 refine EC (EC (wpAny_askSetting (ED ?_)))
 rw[show (model P w).w.params.followText "set-order" = true from hT]
 simp only[if_true]
 refine EC (wpAny_askSetting (ED ?_))
 rw[Int.toNat_natCast]
 have hx':(pickOrder ((model P w).w.params.setOrder a ep) es)[i]?=some x:=hx
 rw[hx']
 refine ED ?_
 dsimp only[Option.map_some,Option.map_none]
 refine EC (wpAny_setField hit rfl (by simp) ?_)
 have e1:=gR (k:=0) (x:=rawInt (0:Nat)) hit rfl
 have e1':(s.heap.update it (Obj.mapFields (·.setIfInBounds 0 (rawInt (0:Nat))))).get? it=some (aO a (rawInt 0) i es.size ep):=e1
 refine EC (wpAny_setField (s:={ s with heap:=s.heap.update it (Obj.mapFields (·.setIfInBounds 0 (rawInt (0:Nat)))) }) e1' rfl (by simp) ?_)
 have e2:=gR (k:=1) (x:=rawInt ((i:Int)+1)) e1' rfl
 refine ED ⟨_,rfl,ED (hQ _ ?_ ((Heap.SameBut.update ..).trans (Heap.SameBut.update ..)))⟩
 exact e2
theorem A3{it a:Addr}{i ep:Nat}{o:Obj}{es:Array (Int×Value)}{t:SetTable}{Q:Option Value->Shared->Prop}(hh:A.handled=none)(hT:w.params.followText "set-order" = true)(hit:s.heap.get? it=some (aO a (rawInt 0) i es.size ep))(ho:s.heap.get? a=some o)(hd:o.data=.set es ep t)(hf:t.fits es.size=true)
  (hx:(pickOrder (w.params.setOrder a ep) es)[i]?=none) (hQ:∀h',Heap.ExtBut it s.heap h'->Q none { s with heap:=h' }):wpAny (model P w) A (pyNext (.ref it)) Q E s:=by
 have T:s.TypeIs (.ref it) "set_iterator":=⟨_,hit,rfl⟩
 unfold pyNext
 refine EC (wpAny_attempt (wpAny_callSpecial?_slot (name:=Str.ofString "__next__") T SF.slot_next (wpAny_call_entry SF.slot_next T SF.entry_next ?_ (SF.args_next _))))
 show wpAny _ _ (fieldsOf (.ref it) >>= _) _ _ s
 refine EC (wpAny_fieldsOf hit rfl ?_)
 show wpAny _ _ (setEntries a >>= _) _ _ s
 unfold setEntries
 refine EC (EC (wpAny_setState_of ho hd hf (ED ?_)))
 rw[if_neg (by simp)]
 show wpAny _ _ (setNext a 0 _ _ >>= _) _ _ s
 unfold setNext
 refine EC (EC (wpAny_setState_of ho hd hf ?_))
 dsimp only
 unfold setsByText
 refine EC (EC (wpAny_askSetting (ED ?_)))
 rw[show (model P w).w.params.followText "set-order" = true from hT]
 simp only[if_true]
 rw[if_neg (by simp)]
 unfold setWalk
 refine EC (EC (wpAny_setState_of ho hd hf ?_))
 dsimp only
 unfold setsByText
 refine EC (EC (wpAny_askSetting (ED ?_)))
 rw[show (model P w).w.params.followText "set-order" = true from hT]
 simp only[if_true]
 refine EC (wpAny_askSetting (ED ?_))
 rw[Int.toNat_natCast]
 have hx':(pickOrder ((model P w).w.params.setOrder a ep) es)[i]?=none:=hx
 rw[hx']
 refine ED ?_
 dsimp only[Option.map_some,Option.map_none]
 refine EC (wpAny_setField hit rfl (by simp) ?_)
 exact mG (s:=s) (it:=it) hh (Heap.SameBut.update ..).extBut hQ
theorem wO{it a:Addr}{i ep:Nat}{o:Obj}{es:Array (Int×Value)}{t:SetTable}{Q:Option Value->Shared->Prop}{T0:Addr}{ys:List Nat}(hT0:s.heap.get? T0=some (seqObj "tuple" (ys.map fun(i:Nat)=>rawInt i).toArray 0))(hit:s.heap.get? it=some (aO a (.ref T0) i es.size ep))(ho:s.heap.get? a=some o)(hd:o.data=.set es ep t)(hf:t.fits es.size=true)
  {y:Nat} {x:Int×Value} (hy:ys[i]?=some y) (hx:es[y]?=some x) (hQ:∀h',h'.get? it=some (aO a (.ref T0) (i+1) es.size ep)->Heap.SameBut it s.heap h'->Q (some x.2) { s with heap:=h' }):wpAny (model P w) A (pyNext (.ref it)) Q E s:=by
 have T:s.TypeIs (.ref it) "set_iterator":=⟨_,hit,rfl⟩
 unfold pyNext
 refine EC (wpAny_attempt (wpAny_callSpecial?_slot (name:=Str.ofString "__next__") T SF.slot_next (wpAny_call_entry SF.slot_next T SF.entry_next ?_ (SF.args_next _))))
 show wpAny _ _ (fieldsOf (.ref it) >>= _) _ _ s
 refine EC (wpAny_fieldsOf hit rfl ?_)
 show wpAny _ _ (setEntries a >>= _) _ _ s
 unfold setEntries
 refine EC (EC (wpAny_setState_of ho hd hf (ED ?_)))
 rw[if_neg (by simp)]
 show wpAny _ _ (seqItems? (.ref T0) >>= _) _ _ s
 refine EC (wpAny_seqItems hT0 rfl ?_)
 dsimp only
 rw[Int.toNat_natCast]
 have hpl:((ys.map fun(i:Nat)=>rawInt i).toArray:Array Value)[i]?=some (rawInt y):=by
  rw[List.getElem?_toArray,EK,hy]
  rfl
 rw[hpl]
 show wpAny _ _ (setNextDrawn a _ _ >>= _) _ _ s
 unfold setNextDrawn
 refine EC (EC (wpAny_setState_of ho hd hf ?_))
 dsimp only
 rw[if_neg (by simp)]
 simp only[Int.toNat_natCast]
 rw[hx]
 refine ED ?_
 refine EC (wpAny_setField hit rfl (by simp) ?_)
 have e2:=gR (k:=1) (x:=rawInt ((i:Int)+1)) hit rfl
 exact ED ⟨_,rfl,ED (hQ _ e2 (Heap.SameBut.update ..))⟩
theorem w6{it a:Addr}{i ep:Nat}{o:Obj}{es:Array (Int×Value)}{t:SetTable}{Q:Option Value->Shared->Prop}{T0:Addr}{ys:List Nat}(hh:A.handled=none)(hT0:s.heap.get? T0=some (seqObj "tuple" (ys.map fun(i:Nat)=>rawInt i).toArray 0))(hit:s.heap.get? it=some (aO a (.ref T0) i es.size ep))(ho:s.heap.get? a=some o)(hd:o.data=.set es ep t)(hf:t.fits es.size=true)
  (hy:ys[i]?=none) (hQ:∀h',Heap.ExtBut it s.heap h'->Q none { s with heap:=h' }):wpAny (model P w) A (pyNext (.ref it)) Q E s:=by
 have T:s.TypeIs (.ref it) "set_iterator":=⟨_,hit,rfl⟩
 unfold pyNext
 refine EC (wpAny_attempt (wpAny_callSpecial?_slot (name:=Str.ofString "__next__") T SF.slot_next (wpAny_call_entry SF.slot_next T SF.entry_next ?_ (SF.args_next _))))
 show wpAny _ _ (fieldsOf (.ref it) >>= _) _ _ s
 refine EC (wpAny_fieldsOf hit rfl ?_)
 show wpAny _ _ (setEntries a >>= _) _ _ s
 unfold setEntries
 refine EC (EC (wpAny_setState_of ho hd hf (ED ?_)))
 rw[if_neg (by simp)]
 show wpAny _ _ (seqItems? (.ref T0) >>= _) _ _ s
 refine EC (wpAny_seqItems hT0 rfl ?_)
 dsimp only
 rw[Int.toNat_natCast]
 have hpl:((ys.map fun(i:Nat)=>rawInt i).toArray:Array Value)[i]?=none:=by
  rw[List.getElem?_toArray,EK,hy]
  rfl
 rw[hpl]
 refine EC (wpAny_setField hit rfl (by simp) ?_)
 have e1:=gR (k:=0) (x:=rawInt 0) hit rfl
 have e1':(s.heap.update it (Obj.mapFields (·.setIfInBounds 0 (rawInt 0)))).get? it=some (aO a (rawInt 0) i es.size ep):=e1
 refine EC (wpAny_setField (s:={ s with heap:=s.heap.update it (Obj.mapFields (·.setIfInBounds 0 (rawInt 0))) }) e1' rfl (by simp) ?_)
 exact mG (s:=s) (it:=it) hh ((Heap.SameBut.update ..).trans (Heap.SameBut.update ..)).extBut hQ
theorem mr{it a:Addr}{first:Value}{i n ep:Nat}{Q:Value->Shared->Prop}(hit:s.heap.get? it=some (aO a first i n ep))(h:Q (.ref it) s):wpAny (model P w) A (pyIter (.ref it)) Q E s:=by
 have T:s.TypeIs (.ref it) "set_iterator":=⟨_,hit,rfl⟩
 refine wpAny_pyIter_slot T SF.rB (wpAny_call_entry SF.rB T SF.BR ?_ (SF.Cd _))
 show wpAny _ _ (ret (.ref it)) _ _ s
 exact ED ⟨_,rfl,"set_iterator",_,T,SF.slot_next.lookup,h⟩
theorem r9(hh:A.handled=none)(hT:w.params.followText "set-order" = true)(I a:Addr)(hne:a≠I){o:Obj}{es:Array (Int×Value)}{ep:Nat}{t:SetTable}(hd:o.data=.set es ep t)(hf:t.fits es.size=true):
  Walks P w A I [I,a] [I] es.size (fun i v=>∃x,(pickOrder (w.params.setOrder a ep) es)[i]?=some x/\v=x.2) (fun i h=>h.get? I=some (aO a (rawInt 0) i es.size ep)/\h.get? a=some o) where
 sub:=fun b hb=>by simp at hb;simp[hb]
 frame:=fun _ _ _ st hk=>⟨hk I (by simp) _ st.1,hk a (by simp) _ st.2⟩
 item:=fun i s Q E hi st hQ=>by
  have hl:(pickOrder (w.params.setOrder a ep) es).size=es.size:=by
   rw[←EM,(gF _ es).length_eq,EM]
  have hx:=getElem?_pos (pickOrder (w.params.setOrder a ep) es) i (by omega)
  refine Aj hT st.1 st.2 hd hf hx fun h' hit' sb=>?_
  exact hQ _ h' s.toks ⟨_,hx,rfl⟩ ⟨hit',(sb.2 a hne).trans st.2⟩ fun b o hb e=>sb.extBut b o (fun h=>hb (by simp[h])) e
 done:=fun s Q E st hQ=>by
  have hl:(pickOrder (w.params.setOrder a ep) es).size=es.size:=by
   rw[←EM,(gF _ es).length_eq,EM]
  exact A3 hh hT st.1 st.2 hd hf (Array.getElem?_eq_none (by omega)) fun h' he'=>hQ h' s.toks fun b o hb e=>he' b o (fun h=>hb (by simp[h])) e
 self:=fun _ _ _ _ st hQ=>mr st.1 hQ
theorem Cu(hh:A.handled=none)(I a T0:Addr)(hne:a≠I)(hneT:T0≠I){o:Obj}{es:Array (Int×Value)}{ep:Nat}{t:SetTable}{ys:List Nat}(hd:o.data=.set es ep t)(hf:t.fits es.size=true)(hy:ys.Perm (List.range es.size)):
  Walks P w A I [I,a,T0] [I] es.size (fun i v=>∃y x,ys[i]?=some y/\es[y]?=some x/\v=x.2) (fun i h=>h.get? I=some (aO a (.ref T0) i es.size ep)/\h.get? a=some o/\h.get? T0=some (seqObj "tuple" (ys.map fun(i:Nat)=>rawInt i).toArray 0)) where
 sub:=fun b hb=>by simp at hb;simp[hb]
 frame:=fun _ _ _ st hk=>⟨hk I (by simp) _ st.1,hk a (by simp) _ st.2.1,hk T0 (by simp) _ st.2.2⟩
 item:=fun i s Q E hi st hQ=>by
  have hl:ys.length=es.size:=by rw[hy.length_eq,List.length_range]
  have hyi:=EJ (l:=ys) (i:=i) (by omega)
  have hlt:ys[i]<es.size:=List.mem_range.mp (hy.mem_iff.mp (List.getElem_mem (by omega)))
  have hx:=getElem?_pos es ys[i] hlt
  refine wO st.2.2 st.1 st.2.1 hd hf hyi hx fun h' hit' sb=>?_
  exact hQ _ h' s.toks ⟨_,_,hyi,hx,rfl⟩ ⟨hit',(sb.2 a hne).trans st.2.1,(sb.2 T0 hneT).trans st.2.2⟩ fun b o hb e=>sb.extBut b o (fun h=>hb (by simp[h])) e
 done:=fun s Q E st hQ=>by
  have hl:ys.length=es.size:=by rw[hy.length_eq,List.length_range]
  exact w6 hh st.2.2 st.1 st.2.1 hd hf (List.getElem?_eq_none (by omega)) fun h' he'=>hQ h' s.toks fun b o hb e=>he' b o (fun h=>hb (by simp[h])) e
 self:=fun _ _ _ _ st hQ=>mr st.1 hQ
theorem xV{a:Addr}{o:Obj}{es:Array (Int×Value)}{ep:Nat}{t:SetTable}{Q:Value->Shared->Prop}(ho:s.heap.get? a=some o)(hex:o.ExactSet)(hd:o.data=.set es ep t)(hf:t.fits es.size=true)(hpl:t.plain=false)(h2:2<=es.size)(hsz:es.size<=sizeLine)
  (hT:w.params.followText "set-order" = true->Q (.ref s.heap.objs.size) { s with heap:=s.heap.push (aO a (rawInt 0) 0 es.size ep) })
  (hD:w.params.followText "set-order" = false->∀(ys:List Nat) d,ys.Perm (List.range es.size)->Q (.ref (s.heap.objs.size+1)) { s with heap:=(s.heap.push (seqObj "tuple" (ys.map fun(i:Nat)=>rawInt i).toArray 0)).push (aO a (.ref s.heap.objs.size) 0 es.size ep),drawn:=d }) :
  wpAny (model P w) A (pyIter (.ref a)) Q E s:=by
 have T:s.TypeIs (.ref a) "set":=⟨o,ho,hex.1⟩
 refine wpAny_pyIter_slot T F.slot_set_iter (wpAny_call_entry F.slot_set_iter T SF.rW ?_ (SF.qk _))
 show wpAny _ _ (Builtin.Frozenset.sizeOf a >>= _) _ _ s
 unfold Builtin.Frozenset.sizeOf setEntries
 refine EC (EC (EC (wpAny_setState_of ho hd hf (ED (ED ?_)))))
 show wpAny _ _ (setDrawn a >>= _) _ _ s
 unfold setDrawn
 refine EC (EC (wpAny_setState_of ho hd hf ?_))
 dsimp only
 unfold setsByText
 refine EC (EC (wpAny_askSetting (ED (ED ?_))))
 cases hq:w.params.followText "set-order"
 ·rw[if_pos (by
   show(!(w.params.followText "set-order") && (!t.plain && decide (es.size>1)))=true
   rw[hq,hpl,decide_eq_true (by omega)]
   rfl)]
  refine EC (si _ _ s (by rw[List.length_range]) fun ys d hp=>?_)
  have hyl:ys.length=es.size:=by rw[hp.length_eq,List.length_range]
  simp only[newTuple]
  refine EC (wpAny_newObj_type ?_ (by show(List.map _ ys).toArray.size<=sizeLine;rw[EN,EI,hyl];exact hsz))
  unfold setEpoch
  refine EC (EC (wpAny_setState_of (s:={ s with heap:=s.heap.push (seqObj "tuple" (ys.map fun(i:Nat)=>rawInt i).toArray 0),drawn:=d }) (EF _ ho) hd hf (ED ?_)))
  simp only[newFields]
  have hs1:(s.heap.push (seqObj "tuple" (ys.map fun(i:Nat)=>rawInt i).toArray 0)).objs.size=s.heap.objs.size+1:=Heap.size_push _ _
  refine EC (wpAny_newObj_type (ED ⟨_,rfl,"set_iterator",_,⟨_,EG _ rfl,rfl⟩,SF.slot_next.lookup,?_⟩) (by size_fits))
  have:=hD hq ys d hp
  rw[←hs1]at this
  exact this
 ·rw[if_neg (by
   show ¬(!(w.params.followText "set-order") && (!t.plain && decide (es.size>1)))=true
   rw[hq]
   simp)]
  refine EC (ED ?_)
  unfold setEpoch
  refine EC (EC (wpAny_setState_of ho hd hf (ED ?_)))
  simp only[newFields]
  refine EC (wpAny_newObj_type (ED ⟨_,rfl,"set_iterator",_,⟨_,EG _ rfl,rfl⟩,SF.slot_next.lookup,?_⟩) (by size_fits))
  exact hT hq
end
end L2
namespace PyProof.Rows
open PySem
section
variable {prog:Program} {w:World} {A:Around} {E:Value->Shared->Prop} {s:Shared} {κ:SortKind} {X:Keyed->Prop}
open Classical in
end
end PyProof.Rows
namespace L2
open PySem PySem.Spec PyProof.Rows
section
variable {P:Program} {w:World} {A:Around} {E:Value->Shared->Prop} {s:Shared}
theorem CH:Slot "set" "__len__" "set.__len__":=
 .of (owner:="set") (n:="__len__") (by rw[typeLookup_type,builtinLookup_eq_fast];kernel_rfl) (by decide +kernel) (by decide +kernel) (by decide +kernel)
  (by first | exact .inl (by decide +kernel) | exact .inr (by decide +kernel)) (by rw[isSubtype_type];kernel_rfl)
theorem sub_set_set:isSubtype (.type "set") (.type "set")=pure true:=by rw[isSubtype_type];kernel_rfl
theorem split_len:splitId "set.__len__" = some ("set","__len__"):=by kernel_rfl
theorem n5{a:Addr}{Q:Bool->Shared->Prop}(T:s.TypeIs (.ref a) "set")(h:Q false s):wpAny (model P w) A (Builtin.List.listLengthHint (.ref a)) Q E s:=by
 unfold Builtin.List.listLengthHint
 refine EC (wpAny_specialOf T CH.lookup ?_)
 dsimp only
 rw[split_len]
 dsimp only
 refine EC (wpAny_isInstance (T:="set") (b:=true) T sub_set_set ?_)
 simp only[Bool.not_true,Bool.false_eq_true,if_false]
 rw[if_pos (by first | rfl | decide +kernel | kernel_rfl)]
 refine EC (wpAny_typeOf T ?_)
 exact ED h
theorem Et{a:Addr}{o:Obj}{es:Array (Int×Value)}{ep:Nat}{t:SetTable}{Q:List Value->Shared->Prop}(hA:A.handled=none)(ho:s.heap.get? a=some o)(hex:o.ExactSet)(hd:o.data=.set es ep t)(hf:t.fits es.size=true)(hpl:t.plain=false)(h2:2<=es.size)(hsz:es.size<=sizeLine)
  (hQ:∀(h':Heap) (tk:Nat) d (vs:List Value),vs.Perm (es.toList.map (·.2))->s.toks<=tk->s.heap.objs.size<h'.objs.size->(∀b o,b<s.heap.objs.size->s.heap.get? b=some o->h'.get? b=some o)->Q vs { s with heap:=h',toks:=tk,drawn:=d }):wpAny (model P w) A (collect (.ref a)) Q E s:=by
 have T:s.TypeIs (.ref a) "set":=⟨o,ho,hex.1⟩
 have hlt:a<s.heap.objs.size:=EH ho
 unfold collect
 refine EC (wpAny_runValue (codeAny_builtin F.entry_proto_collect ?_))
 rw[Around.under_plainId F.plain_proto_collect _]
 show wpAny _ A.in1 (newList [] >>= fun l=>again (.builtin "list.__iadd__" ⟨[l,.ref a],[]⟩)) _ _ s
 refine EC (wpAny_newObj_type ?_)
 refine ED ⟨plainId_quiet F.plain_list_iadd _,codeAny_builtin F.entry_list_iadd ?_⟩
 rw[Around.under_plainId F.plain_list_iadd _]
 show wpAny _ A.in1 (Builtin.List.listExtendWith (.ref s.heap.objs.size) (.ref a) (.ref s.heap.objs.size)) _ _ { s with heap:=s.heap.push (seqObj "list" #[] 0) }
 unfold Builtin.List.listExtendWith
 have ho1:(s.heap.push (seqObj "list" #[] 0)).get? a=some o:=EF _ ho
 have hs1:(s.heap.push (seqObj "list" #[] 0)).objs.size=s.heap.objs.size+1:=Heap.size_push _ _
 refine EC (wpAny_typeOf (T:="set") ⟨o,ho1,hex.1⟩ ?_)
 have q1:Builtin.List.listSameRef (.ref s.heap.objs.size) (.ref a)=false:=by
  have:s.heap.objs.size≠a:=Nat.ne_of_gt hlt
  simp[Builtin.List.listSameRef,this]
 have q2:(Value.type "set" == Value.type "list")=false:=by decide
 have q3:(Value.type "set" == Value.type "tuple")=false:=by decide
 simp only[q1,q2,q3,Bool.or_false,Bool.false_eq_true,if_false]
 refine EC (xV (s:={ s with heap:=s.heap.push (seqObj "list" #[] 0) }) ho1 hex hd hf hpl h2 hsz (fun hT=>?_) (fun hT ys d hp=>?_))
 ·have hneI:a≠(s.heap.push (seqObj "list" #[] 0)).objs.size:=by
   rw[hs1]
   exact Nat.ne_of_lt (Nat.lt_succ_of_lt hlt)
  refine EC (wpAny_holding (n5 (s:={ s with heap:=(s.heap.push (seqObj "list" #[] 0)).push (aO a (rawInt 0) 0 es.size ep),drawn:=s.drawn }) ⟨o,EF _ ho1,hex.1⟩ ?_))
  rw[if_pos (by first | rfl | decide +kernel | kernel_rfl)]
  refine EC (wpAny_rule ?_)
  have hS₁:((s.heap.push (seqObj "list" #[] 0)).push (aO a (rawInt 0) 0 es.size ep)).get? s.heap.objs.size=some (seqObj "list" #[] 0):=EF _ (EG _ rfl)
  refine EC ?_
  show wpAny _ A.in1 (updateSeq s.heap.objs.size (·.push .none) >>= fun _=>updateSeq s.heap.objs.size (·.pop)) _ _ { s with heap:=(s.heap.push (seqObj "list" #[] 0)).push (aO a (rawInt 0) 0 es.size ep),drawn:=s.drawn }
  refine EC (wpAny_updateSeq hS₁ rfl ?_)
  have hS₂:=Heap.get?_update_self (Obj.mapSeq (·.push Value.none)) hS₁ rfl
  refine wpAny_updateSeq (s:={ s with heap:=((s.heap.push (seqObj "list" #[] 0)).push (aO a (rawInt 0) 0 es.size ep)).update s.heap.objs.size (Obj.mapSeq (·.push Value.none)),drawn:=s.drawn }) hS₂ rfl ?_
  have hS₃:=Heap.get?_update_self (Obj.mapSeq (·.pop)) hS₂ rfl
  have oth:∀b o,b≠s.heap.objs.size->((s.heap.push (seqObj "list" #[] 0)).push (aO a (rawInt 0) 0 es.size ep)).get? b=some o →
    ((((s.heap.push (seqObj "list" #[] 0)).push (aO a (rawInt 0) 0 es.size ep)).update s.heap.objs.size (Obj.mapSeq (·.push Value.none))).update s.heap.objs.size (Obj.mapSeq (·.pop))).get? b=some o:=
   fun b o hb e=>(Heap.get?_update_other _ _ (Ne.symm hb)).trans ((Heap.get?_update_other _ _ (Ne.symm hb)).trans e)
  have hW:=r9 (P:=P) (A:=A.in1) (by simp[hA]) hT (s.heap.push (seqObj "list" #[] 0)).objs.size a hneI hd hf
  refine ED ⟨plainId_quiet F.plain_extend_loop _,codeAny_extend_loopS hW.toS hsz _ (by rw[hs1];simp only[List.mem_cons,List.not_mem_nil,or_false,not_or];exact⟨Nat.ne_of_lt (Nat.lt_succ_self _),Nat.ne_of_gt hlt⟩) _ es.size 0 { s with heap:=(((s.heap.push (seqObj "list" #[] 0)).push (aO a (rawInt 0) 0 es.size ep)).update s.heap.objs.size (Obj.mapSeq (·.push Value.none))).update s.heap.objs.size (Obj.mapSeq (·.pop)),drawn:=s.drawn } _ _ rfl (Nat.zero_le _)
   ⟨oth _ _ (by rw[hs1];exact Nat.succ_ne_self _) (EG _ rfl),oth _ _ (Nat.ne_of_lt hlt) (EF _ ho1)⟩ hS₃ (ItemsOf.nil _) fun s' acc' c' hm hS' hacc=>?_⟩
  show wpAny _ A (load s.heap.objs.size >>= _) _ _ s'
  refine EC (wpAny_load hS' ?_)
  obtain⟨h',g',d',tk',os'⟩:=s'
  have z1:g'=s.gens:=hm.gens
  have z2:d'=s.drawn:=hm.drawn
  have z3:os'=s.os:=hm.os
  subst z1 z2 z3
  refine ED (hQ h' tk' _ _ ?_ hm.toks (EH hS') fun b o' hb e=>hm.heap b o' (fun z=>?_) (oth b o' (Nat.ne_of_lt hb) ?_))
  ·refine List.Perm.trans (List.Perm.of_eq ?_) ((gF (w.params.setOrder a ep) es).map (·.2))
   have hl:(pickOrder (w.params.setOrder a ep) es).size=es.size:=by
    rw[←EM,(gF _ es).length_eq,EM]
   apply List.ext_getElem
   ·rw[EM,EI,EM,hacc.1,hl]
   ·intro i q1 q2
    rw[EM]at q1
    obtain⟨x,hx,hv⟩:=hacc.2 i acc'[i] (getElem?_pos acc' i q1)
    rw[Array.getElem_toList,hv,List.getElem_map,Array.getElem_toList]
    obtain⟨_,e⟩:=Array.getElem?_eq_some_iff.mp hx
    rw[e]
  ·rcases List.mem_cons.mp z with z | z
   ·exact Nat.ne_of_lt hb z
   ·have z:=List.mem_singleton.mp z
    rw[z]at hb
    exact absurd hb (by rw[hs1];exact Nat.not_lt.mpr (by exact Nat.le_succ _))
  ·exact EF _ (EF _ e)
 ·have hneI:a≠(s.heap.push (seqObj "list" #[] 0)).objs.size+1:=by
   rw[hs1]
   exact Nat.ne_of_lt (Nat.lt_succ_of_lt (Nat.lt_succ_of_lt hlt))
  have hs2:((s.heap.push (seqObj "list" #[] 0)).push (seqObj "tuple" (ys.map fun(i:Nat)=>rawInt i).toArray 0)).objs.size=(s.heap.push (seqObj "list" #[] 0)).objs.size+1:=Heap.size_push _ _
  have gI:(((s.heap.push (seqObj "list" #[] 0)).push (seqObj "tuple" (ys.map fun(i:Nat)=>rawInt i).toArray 0)).push (aO a (.ref (s.heap.push (seqObj "list" #[] 0)).objs.size) 0 es.size ep)).get? ((s.heap.push (seqObj "list" #[] 0)).objs.size+1)=some (aO a (.ref (s.heap.push (seqObj "list" #[] 0)).objs.size) 0 es.size ep):=by
   rw[←hs2]
   exact EG _ rfl
  refine EC (wpAny_holding (n5 (s:={ s with heap:=((s.heap.push (seqObj "list" #[] 0)).push (seqObj "tuple" (ys.map fun(i:Nat)=>rawInt i).toArray 0)).push (aO a (.ref (s.heap.push (seqObj "list" #[] 0)).objs.size) 0 es.size ep),drawn:=d }) ⟨o,EF _ (EF _ ho1),hex.1⟩ ?_))
  rw[if_pos (by first | rfl | decide +kernel | kernel_rfl)]
  refine EC (wpAny_rule ?_)
  have hS₁:(((s.heap.push (seqObj "list" #[] 0)).push (seqObj "tuple" (ys.map fun(i:Nat)=>rawInt i).toArray 0)).push (aO a (.ref (s.heap.push (seqObj "list" #[] 0)).objs.size) 0 es.size ep)).get? s.heap.objs.size=some (seqObj "list" #[] 0):=EF _ (EF _ (EG _ rfl))
  refine EC ?_
  show wpAny _ A.in1 (updateSeq s.heap.objs.size (·.push .none) >>= fun _=>updateSeq s.heap.objs.size (·.pop)) _ _ { s with heap:=((s.heap.push (seqObj "list" #[] 0)).push (seqObj "tuple" (ys.map fun(i:Nat)=>rawInt i).toArray 0)).push (aO a (.ref (s.heap.push (seqObj "list" #[] 0)).objs.size) 0 es.size ep),drawn:=d }
  refine EC (wpAny_updateSeq hS₁ rfl ?_)
  have hS₂:=Heap.get?_update_self (Obj.mapSeq (·.push Value.none)) hS₁ rfl
  refine wpAny_updateSeq (s:={ s with heap:=(((s.heap.push (seqObj "list" #[] 0)).push (seqObj "tuple" (ys.map fun(i:Nat)=>rawInt i).toArray 0)).push (aO a (.ref (s.heap.push (seqObj "list" #[] 0)).objs.size) 0 es.size ep)).update s.heap.objs.size (Obj.mapSeq (·.push Value.none)),drawn:=d }) hS₂ rfl ?_
  have hS₃:=Heap.get?_update_self (Obj.mapSeq (·.pop)) hS₂ rfl
  have oth:∀b o,b≠s.heap.objs.size->(((s.heap.push (seqObj "list" #[] 0)).push (seqObj "tuple" (ys.map fun(i:Nat)=>rawInt i).toArray 0)).push (aO a (.ref (s.heap.push (seqObj "list" #[] 0)).objs.size) 0 es.size ep)).get? b=some o →
    (((((s.heap.push (seqObj "list" #[] 0)).push (seqObj "tuple" (ys.map fun(i:Nat)=>rawInt i).toArray 0)).push (aO a (.ref (s.heap.push (seqObj "list" #[] 0)).objs.size) 0 es.size ep)).update s.heap.objs.size (Obj.mapSeq (·.push Value.none))).update s.heap.objs.size (Obj.mapSeq (·.pop))).get? b=some o:=
   fun b o hb e=>(Heap.get?_update_other _ _ (Ne.symm hb)).trans ((Heap.get?_update_other _ _ (Ne.symm hb)).trans e)
  have hW:=Cu (P:=P) (w:=w) (A:=A.in1) (by simp[hA]) ((s.heap.push (seqObj "list" #[] 0)).objs.size+1) a (s.heap.push (seqObj "list" #[] 0)).objs.size hneI (Nat.ne_of_lt (Nat.lt_succ_self _)) hd hf hp
  refine ED ⟨plainId_quiet F.plain_extend_loop _,codeAny_extend_loopS hW.toS hsz _ (by rw[hs1];simp only[List.mem_cons,List.not_mem_nil,or_false,not_or];exact⟨Nat.ne_of_lt (Nat.lt_succ_of_lt (Nat.lt_succ_self _)),Nat.ne_of_gt hlt,Nat.ne_of_lt (Nat.lt_succ_self _)⟩) _ es.size 0 { s with heap:=((((s.heap.push (seqObj "list" #[] 0)).push (seqObj "tuple" (ys.map fun(i:Nat)=>rawInt i).toArray 0)).push (aO a (.ref (s.heap.push (seqObj "list" #[] 0)).objs.size) 0 es.size ep)).update s.heap.objs.size (Obj.mapSeq (·.push Value.none))).update s.heap.objs.size (Obj.mapSeq (·.pop)),drawn:=d } _ _ rfl (Nat.zero_le _)
   ⟨oth _ _ (by rw[hs1];exact Nat.ne_of_gt (Nat.lt_succ_of_lt (Nat.lt_succ_self _))) gI,oth _ _ (Nat.ne_of_lt hlt) (EF _ (EF _ ho1)),oth _ _ (by rw[hs1];exact Nat.succ_ne_self _) (EF _ (EG _ rfl))⟩ hS₃ (ItemsOf.nil _) fun s' acc' c' hm hS' hacc=>?_⟩
  show wpAny _ A (load s.heap.objs.size >>= _) _ _ s'
  refine EC (wpAny_load hS' ?_)
  obtain⟨h',g',d',tk',os'⟩:=s'
  have z1:g'=s.gens:=hm.gens
  have z2:d'=d:=hm.drawn
  have z3:os'=s.os:=hm.os
  subst z1 z2 z3
  refine ED (hQ h' tk' _ _ ?_ hm.toks (EH hS') fun b o' hb e=>hm.heap b o' (fun z=>?_) (oth b o' (Nat.ne_of_lt hb) ?_))
  ·have hyl:ys.length=es.size:=by rw[hp.length_eq,List.length_range]
   have e0:acc'.toList=(ys.filterMap (es[·]?)).map (·.2):=by
    apply List.ext_getElem?
    intro i
    rw[EK,Tb.ir es ys (fun y hy=>List.mem_range.mp (hp.mem_iff.mp hy))]
    by_cases q1:i<acc'.size
    ·have e1:=getElem?_pos acc' i q1
     obtain⟨y,x,hy,hx,hv⟩:=hacc.2 i acc'[i] e1
     have e2:acc'.toList[i]?=some acc'[i]:=by rw[Array.getElem?_toList];exact e1
     rw[e2,hy,Option.bind_some,hx,hv]
     rfl
    ·have e2:acc'.toList[i]?=none:=List.getElem?_eq_none (by rw[EM];omega)
     rw[e2,List.getElem?_eq_none (by rw[hyl,←hacc.1];omega)]
     rfl
   rw[e0]
   refine List.Perm.map _ ?_
   have e3:(List.range es.size).filterMap (es[·]?)=es.toList:=by
    apply List.ext_getElem?
    intro n
    have e4:es.toList[n]?=es[n]?:=Array.getElem?_toList
    rw[e4,Tb.ir es _ (fun i hi=>List.mem_range.mp hi)]
    by_cases hn:n<es.size
    ·rw[List.getElem?_range hn]
     rfl
    ·have e5:(List.range es.size)[n]?=none:=List.getElem?_eq_none (by rw[List.length_range];omega)
     rw[e5,Array.getElem?_eq_none (by omega)]
     rfl
   rw[←e3]
   exact hp.filterMap _
  ·rcases List.mem_cons.mp z with z | z
   ·exact Nat.ne_of_lt hb z
   ·have z:=List.mem_singleton.mp z
    rw[z]at hb
    exact absurd hb (by rw[hs1];exact Nat.not_lt.mpr (by exact Nat.le_succ_of_le (Nat.le_succ _)))
  ·exact EF _ (EF _ (EF _ e))
end
end L2
namespace L2
open PySem PySem.Spec PyProof.Rows
section
variable {P:Program} {w:World} {A:Around} {E:Value->Shared->Prop} {s:Shared}
open Classical in
theorem wj{α:Type}{D ds:List α}(hd:D.Nodup)(hs:∀k∈D,k∈ds)(hl:ds.length=D.length):ds.Perm D:=by
 induction D generalizing ds with
 | nil=>
  rw[List.length_nil,List.length_eq_zero_iff]at hl
  subst hl
  exact .refl _
 | cons d D ih=>
  have hm:=hs d EO
  have p1:=List.perm_cons_erase hm
  have hd':=List.nodup_cons.mp hd
  refine p1.trans ((ih hd'.2 (fun k hk=>?_) ?_).cons d)
  ·refine(List.mem_erase_of_ne ?_).mpr (hs k (EL _ hk))
   rintro rfl
   exact hd'.1 hk
  ·rw[List.length_erase_of_mem hm,hl]
   rfl
theorem key_inj{h:Heap}{b:Addr}{k1 k2:List Key}(h1:IsTupleKey (aE P w) h k1 b)(h2:IsTupleKey (aE P w) h k2 b):k1=k2:=by
 obtain⟨o1,i1,n1,z1,_,z2,z3⟩:=h1
 obtain⟨o2,i2,n2,y1,_,y2,y3⟩:=h2
 rw[z1]at y1
 cases y1
 rw[z2]at y2
 cases y2
 exact z3.inj y3
end
end L2
namespace L2
open PySem PySem.Spec PyProof.Rows
abbrev pX(P:Program)(w:World)(x:Addr×List Key):Int×Value:=(tupleKeyHash (aE P w) x.2,.ref x.1)
def ja(P:Program)(w:World)(h:Heap)(a:Addr)(L:List (Addr×List Key)):Prop:=∃o es ep t,h.get? a=some o/\o.ExactSet/\o.data=.set es ep t/\t.dummies = #[]/\Tb.Mask t.mask/\es.size*5<t.mask*3/\Tb.TOk t.mask t.place (es.map (·.1))/\es.toList=L.map (pX P w)/\((∀x∈L,∃z,Sum.inr z∈x.2)->L=[]\/t.plain=false)
def kz(P:Program)(w:World)(a:Addr)(L:List (Addr×List Key)):HO:=.ext fun h=>ja P w h a L
section
variable {P:Program} {w:World}
theorem pb{h:Heap}{B:Addr->List Key->Prop}{D:List (List Key)}:∀{es:List (Int×Value)},(∀e∈es,∃b k,e=(tupleKeyHash (aE P w) k,Value.ref b)/\k∈D/\IsTupleKey (aE P w) h k b/\B b k)->∃L:List (Addr×List Key),es=L.map (pX P w)/\∀x∈L,x.2∈D/\IsTupleKey (aE P w) h x.2 x.1/\B x.1 x.2
 | [],_=>⟨[],rfl,fun x hx=>by cases hx⟩
 | e::es,hall=>by
  obtain⟨L,h1,h2⟩:=pb (es:=es) fun x hx=>hall x (EL _ hx)
  obtain⟨b,k,rfl,hk,hkb,hBb⟩:=hall e EO
  refine⟨(b,k)::L,by rw[h1];rfl,fun x hx=>?_⟩
  rcases List.mem_cons.mp hx with rfl | hx
  ·exact⟨hk,hkb,hBb⟩
  ·exact h2 x hx
theorem dj.obj{B:Addr->List Key->Prop}{h:Heap}{a:Addr}{D:List (List Key)}(hS:dj P w B h a D):∃L,ja P w h a L/\(L.map (·.2)).Perm D/\∀x∈L,B x.1 x.2:=by
 obtain⟨hnd,o,es,ep,t,ho,hex,hd,hdm,hm,hfull,hlen,hT,hall,hin,hpl⟩:=hS
 obtain⟨L,h1,h2⟩:=pb hall
 have hl:L.length=D.length:=by
  rw[←hlen,←EM,h1,EI]
 refine⟨L,⟨o,es,ep,t,ho,hex,hd,hdm,hm,hfull,hT,h1,fun hx=>?_⟩,wj hnd (fun k hk=>?_) (by rw[EI,hl]),fun x hx=>(h2 x hx).2.2⟩
 ·have hx':∀k∈D,∃z,Sum.inr z∈k:=fun k hk=>by
   obtain⟨b,hb,hkb⟩:=hin k hk
   rw[h1]at hb
   obtain⟨x,hx',e⟩:=List.mem_map.mp hb
   have e2:Value.ref x.1=Value.ref b:=congrArg Prod.snd e
   cases e2
   rw[key_inj hkb (h2 x hx').2.1]
   exact hx x hx'
  rcases hpl hx' with e | e
  ·subst e
   rw[List.length_nil,List.length_eq_zero_iff]at hl
   exact .inl hl
  ·exact .inr e
 ·obtain⟨b,hb,hkb⟩:=hin k hk
  rw[h1]at hb
  obtain⟨x,hx',e⟩:=List.mem_map.mp hb
  have e2:Value.ref x.1=Value.ref b:=congrArg Prod.snd e
  cases e2
  rw[key_inj hkb (h2 x hx').2.1]
  exact List.mem_map.mpr ⟨x,hx',rfl⟩
theorem zf{H:Hp}{h:Heap}{a:Addr}{L:List (Addr×List Key)}(S:ja P w h a L):bp P w H h a (kz P w a L):=by
 refine⟨S,?_,fun h1 h2 z k=>?_⟩
 ·obtain⟨o,es,ep,t,ho,_⟩:=S
  exact⟨o,ho⟩
 ·obtain⟨o',es',ep',t',ho',r⟩:=z
  exact⟨o',es',ep',t',k _ ho',r⟩
end
section
variable {X:Cx} {pins:List (Addr×Obj)} {σ:St} {H:Hp} {s:Shared}
theorem Inv.dr(I:Inv X pins σ H s)(d:Drawn):Inv X pins σ H { s with drawn:=d }:=⟨I.ok,I.os,I.bare,I.base,I.loc,I.cell,I.free,I.freeC,I.pin,I.hok,I.len⟩
theorem nM:∀{bs:List Addr} {us:List Value},Vals (bs.map V.ref) us->us=bs.map Value.ref
 | [],_,.nil=>rfl
 | b::bs,_,.cons r t=>by
  rw[List.map_cons,←nM (bs:=bs) t]
  exact congrArg (· :: _) r
theorem Dj(I:Inv X pins σ H s){b:Addr}{k:List Key}(e:H b=some (.tup (k.map kV))):IsTupleKey (aE X.prog X.w) s.heap k b:=by
 obtain⟨_,is,rk,o,ho,hc,n,hd⟩:=I.hok b _ e
 exact⟨o,_,n,ho,hc,hd,n8 rk⟩
def iP(H:Hp)(bs:List Addr)(kk:List (List Key)):Prop:=bs.length=kk.length/\∀(j:Nat) (b:Addr) (k:List Key),bs[j]?=some b->kk[j]?=some k->H b=some (.tup (k.map kV))
theorem iP.ext{H H':Hp}{bs:List Addr}{kk:List (List Key)}(e:Ext H H')(h:iP H bs kk):iP H' bs kk:=⟨h.1,fun j b k e1 e2=>e _ _ (h.2 j b k e1 e2)⟩
end
section
variable {X:Cx}
def Ab(P:Program)(w:World):List V->Hp->VK->Prop:=fun xs H Q=>∃p bs kk,xs=[.ref p]/\(H p=some (.tup (bs.map V.ref))\/H p=some (.lst (bs.map V.ref)))/\iP H bs kk/\kk.length<1400 ∧
 ∀l L,H l=none->(L.map Prod.snd).Nodup->(∀k,k∈L.map Prod.snd↔k∈kk)->(∀x∈L,H x.1=some (.tup (x.2.map kV)))->Q (.ref l) (upd H l (kz P w l L))
theorem DM{k:Nat}(hr:Room k X.A):bI X (.type "set") (Ab X.prog X.w):=by
 intro pins s σ H xs us Q I r h
 obtain⟨p,bs,kk,rfl,hp,⟨h2,h3⟩,hz,q⟩:=h
 obtain⟨u,rfl,rx⟩:=vals1 r
 cases rx
 have hu:=hr.units
 have hA:=hr.hd
 have keys:∀(j:Nat) (b:Addr) (k:List Key),bs[j]?=some b->kk[j]?=some k->IsTupleKey (aE X.prog X.w) s.heap k b:=fun j b k e1 e2=>Dj I (h3 j b k e1 e2)
 have fin:∀(h':Heap) (tk:Nat) (D:List (List Key)),iL X.prog X.w s bs kk D h'->∃v H',Inv X pins σ H' { s with heap:=h',toks:=tk }/\RelV v (.ref s.heap.objs.size)/\Q v H':=fun h' tk D hm=>by
  obtain⟨hS,hD,hk⟩:=hm
  obtain⟨L,hO,hLp,hLB⟩:=hS.obj
  have hfr:=I.hok.fresh (Nat.le_refl _)
  refine⟨.ref s.heap.objs.size,_,I.laid (t':=tk) (fun b o e=>hk b o (EH e) e) (Nat.le_refl _) (zf hO),rfl,q _ L hfr (hLp.nodup_iff.mpr hS.1) (fun k=>(hLp.mem_iff.trans (hD k))) fun x hx=>?_⟩
  obtain⟨j,e1,e2⟩:=hLB x hx
  exact h3 j _ _ e1 e2
 rcases hp with hp | hp
 ·obtain⟨_,its,rv,gt⟩:=I.hok p _ hp
  have ei:=nM rv
  subst ei
  refine zb (kk:=kk) (bs:=bs) hA (by omega) (show s.heap.IsTuple p _ from gt) rfl (by simp[h2]) (by simp[h2];exact hz) keys fin
 ·obtain⟨_,its,n,rv,gt⟩:=I.hok p _ hp
  have ei:=nM rv
  subst ei
  refine Ag (kk:=kk) (bs:=bs) hA (by omega) (show s.heap.IsList p _ from⟨_,gt,rfl,n,rfl⟩) rfl (by simp[h2]) (by simp[h2];exact hz) keys fin
def B6(P:Program)(w:World):List V->Hp->VK->Prop:=fun xs H Q=>∃p L,xs=[.ref p]/\H p=some (kz P w p L)/\L.length<1400/\Q (.int L.length) H
theorem DG:bI X (.builtin "len") (B6 X.prog X.w):=by
 intro pins s σ H xs us Q I r h
 obtain⟨p,L,rfl,hp,hn,q⟩:=h
 obtain⟨u,rfl,rx⟩:=vals1 r
 cases rx
 obtain⟨⟨o,es,ep,t,ho,hex,hd,hdm,hm,hfull,hT,hel,_⟩,_⟩:=I.hok p _ hp
 have hpl:t.place.size=es.size:=by rw[hT.len,Array.size_map]
 have hs:es.size=L.length:=by rw[←EM,hel,EI]
 have hf:t.fits es.size=true:=by
  simp only[SetTable.fits,Bool.and_eq_true,beq_iff_eq,decide_eq_true_eq]
  refine⟨hpl,?_⟩
  unfold SetTable.fill
  rw[hdm,hpl]
  have:es.size<=t.mask:=by omega
  simpa using this
 refine call_len_set ho hex hd hf (by omega) ⟨.int L.length,H,I.tok _,⟨s.toks+1,by rw[hs]⟩,q⟩
end
end L2
namespace L2
open PySem PySem.Spec PyProof.Rows
section
variable {X:Cx} {pins:List (Addr×Obj)} {σ:St} {H:Hp} {s:Shared}
theorem Inv.turnedNew{h':Heap}{L:List Addr}{o:HO}{t':Nat}(I:Inv X pins σ H s)(k:∀b u,b∉L->s.heap.get? b=some u->h'.get? b=some u)(f:∀b∈L,bO X pins H b)
  (new:bp X.prog X.w (upd H s.heap.objs.size o) h' s.heap.objs.size o):Inv X pins σ (upd H s.heap.objs.size o) { s with heap:=h',toks:=t' }:=by
 have hn:H s.heap.objs.size=none:=I.hok.fresh (Nat.le_refl _)
 have nin:∀b u,H b=some u->b∉L:=fun b u e z=>by
  rw[(f b z).1]at e
  cases e
 have up:∀b u,H b=some u->upd H s.heap.objs.size o b=some u:=fun b u e=>by
  rw[aL (cB e hn)]
  exact e
 refine I.step (g':=s.gens) (d':=s.drawn) (ch:=L) (fun b hb=>?_) (fun b u _ _ hc e _=>k b u hc e) (fun b u _ _ hc e _=>⟨u.slots,k b u hc e⟩) (fun b u _ e n=>?_) (fun b u hc e=>⟨u,k b u hc e⟩) (fun b xs e=>up b _ e) (fun b u v e=>up b _ e) (fun b ps e=>⟨#[],by rw[up b _ e];simp⟩) (fun m hm=>?_) (fun b u e=>?_) I.bare
 ·obtain⟨f0,f1,f2,f3,f4,f5⟩:=f b hb
  exact⟨f3,f1,f4,f5⟩
 ·rw[aL (Nat.ne_of_lt (EH e))]
  exact n
 ·obtain⟨u,es,ep,hu,r⟩:=hm
  exact⟨u,es,ep,k _ u (fun z=>(f _ z).2.1 rfl) hu,r⟩
 ·by_cases hb:b=s.heap.objs.size
  ·subst hb
   rw[aY]at e
   cases e
   exact new
  ·rw[aL hb]at e
   refine(I.hok b u e).stay (fun c v hc q=>k c v ?_ q) (fun c q=>up c _ q) fun c xs q=>up c _ q
   rcases hc with z | z
   ·rw[z];exact nin b u e
   ·exact nin c _ z
end
theorem yg{P:Program}{w:World}{A:Around}(hA:A.handled=none)(it t:Addr)(ne:t≠it)(ys:Array Value):Draws P w A it [it,t] ys.size (fun i v=>ys[i]?=some v) (fun i h=>h.IsTupleIter it t i/\h.IsTuple t ys) where
 live:=fun i h st=>by
  obtain⟨⟨o,ho,_⟩,_⟩:=st
  exact⟨o,ho⟩
 frame:=fun i h h' st k=>by
  obtain⟨⟨o,ho,r⟩,⟨u,hu,q⟩⟩:=st
  exact⟨⟨o,k it (by simp) o ho,r⟩,⟨u,k t (by simp) u hu,q⟩⟩
 item:=fun i s Q E hi st hQ=>oB st.1 st.2 (x:=ys[i]) (by simp[hi]) fun h' gi sb=>hQ _ h' s.toks (by simp[hi]) ⟨gi,by
  obtain⟨u,hu,q⟩:=st.2
  exact⟨u,(sb.2 t ne).trans hu,q⟩⟩ sb
 done:=fun s Q E st hE=>mU hA st.1 st.2 (by simp) hE
abbrev jX(h:Heap)(a:Addr):Heap:=h.push { cls:=.type "tuple_iterator",data:=.fields #[.ref a,.int 0 0] }
abbrev lB(h:Heap)(a:Addr):Heap:=(jX h a).push { cls:=.type "enumerate",data:=.fields #[.none,.bool false,.ref h.objs.size,rawInt 0,.none,.none] }
open AutoSeq1 (wpAny_loadPart')in
theorem xS(a:Addr)(ys:Array Value)(ob:Obj):Meets (Builtin.«enumerate.__new__» ⟨[.type "enumerate",.ref a],[]⟩) (fun _ R s=>s.heap.get? a=some ob/\s.heap.IsTuple a ys/\R (.ok (.ret (.ref (jX s.heap a).objs.size))) { s with heap:=lB s.heap a }):=
 .of_wp fun prog w A R s q=>by
  obtain⟨hp,g,d,tk,os⟩:=s
  obtain⟨ga,gt,q⟩:=q
  have hsub:=sub_enumerate
  obtain⟨o,go,gc,n,gd⟩:=id gt
  obtain⟨c0,d0,dt,sl⟩:=o
  simp only at gc gd
  subst gc gd
  have gT:Heap.IsTuple (Shared.heap ⟨hp,g,d,tk,os⟩) a ys:=gt
  wp_walk using wpAny_loadPart' go
  refine wpAny_stack_any fun st=>ED ?_
  split
  ·rename_i c _ _ _ _ _
   cases(c == Value.type "enumerate")<;>(wp_walk using wpAny_loadPart' go,wpAny_pyIter_tuple gT;exact⟨_,rfl,q⟩)
  ·wp_walk using wpAny_loadPart' go,wpAny_pyIter_tuple gT
   exact⟨_,rfl,q⟩
theorem DW{prog:Program}{w:World}{A:Around}{E:Value->Shared->Prop}{s:Shared}{a:Addr}{ys:Array Value}{Q:Value->Shared->Prop}(gt:s.heap.IsTuple a ys)
  (q:∀h',IsEnum h' (s.heap.objs.size+1) s.heap.objs.size 0 .none->h'.IsTupleIter s.heap.objs.size a 0->(∀c o,s.heap.get? c=some o->h'.get? c=some o)->Q (.ref (s.heap.objs.size+1)) { s with heap:=h' }) :
  wpAny (model prog w) A (call (.type "enumerate") [.ref a]) Q E s:=by
 obtain⟨o,go,r⟩:=id gt
 refine callType_new F.called_enumerate (by decide) (F.typeCall_enumerate_1 _) (F.newCall_enumerate_1 _) (fun ob=>F.args_object_init_2 ob _) F.entry_enumerate_new (xS a ys o) ⟨go,gt,?_⟩
 have n1:(jX s.heap a).objs.size=s.heap.objs.size+1:=Heap.size_push ..
 have k2:(lB s.heap a).get? (jX s.heap a).objs.size=some _:=EG _ rfl
 have k1:(lB s.heap a).get? s.heap.objs.size=some _:=EF _ (EG _ rfl)
 show _/\_
 rw[n1]at k2 ⊢
 exact⟨⟨_,k2,rfl⟩,q _ k2 ⟨_,k1,rfl,rfl⟩ fun c o x=>EF _ (EF _ x)⟩
def fY(K:EE)(a:Addr):It:=⟨(bT K a).go,fun i H x H'=>∃p v,x=.ref p/\H p=none/\H'=upd H p (.tup [.int i,v])/\(bT K a).yld i H v H,(bT K a).stop⟩
theorem zA{P:Program}{w:World}{K:EE}{elts:List Expr}{kk:Nat}{ps:Pos}(a e it:Addr)(ne:e≠it):Turn P w K (.Tuple elts kk ps) (fY K a) [e,it] e (fun i h=>(∃old,IsEnum h e it i old)/\h.IsTupleIter it a i) where
 mem:=by simp
 obj:=fun i h st b hb=>by
  obtain⟨⟨old,ge⟩,o,go,gc,gd⟩:=st
  rcases List.mem_cons.mp hb with rfl | hb
  ·exact⟨_,ge,fun v z=>by cases(show Data.fields _=Data.cell v from z)⟩
  ·cases List.mem_singleton.mp hb
   exact⟨o,go,fun v z=>by rw[gd]at z;cases z⟩
 keep:=fun i h h' st k=>by
  obtain⟨⟨old,ge⟩,gi⟩:=st
  exact⟨⟨old,k e (by simp) _ ge⟩,gi.at fun o z=>k it (by simp) o z⟩
 item:=by
  intro X hP hw hK hc i pins s σ H E I hf st hg
  subst hP hw hK
  obtain⟨⟨old,ge⟩,gi⟩:=st
  obtain⟨xs,x,hq,hx⟩:=hg
  obtain⟨its,rv,p,hz⟩:=I.tuple hq
  obtain⟨u,hu,ru⟩:=rv.get hx
  have hi:i<its.toArray.size:=by
   have:=(List.getElem?_eq_some_iff.mp hu).1
   simpa using this
  have hA:X.A.in1.handled=none:=I.ok.hd hc
  have hta:a≠it:=fun z=>by
   obtain⟨o,ho,hcl,_⟩:=p
   obtain⟨o',ho',hcl',_⟩:=gi
   rw[z,ho']at ho
   cases ho
   rw[hcl]at hcl'
   exact absurd (Value.type.inj hcl') (by decide)
  have hea:e∉[it,a]:=fun z=>by
   rcases List.mem_cons.mp z with z | z
   ·exact ne z
   ·cases List.mem_singleton.mp z
    obtain⟨o,ho,hcl,_⟩:=p
    rw[ge]at ho
    cases ho
    exact absurd (Value.type.inj hcl) (by decide)
  refine wpAny_pyNext_enum_itemD (yg hA it a hta its.toArray) ge ⟨gi,show s.heap.IsTuple a its.toArray from p⟩ hi ne hea fun y h' tk hy geo gs gT gz gk=>⟨_,rfl,?_⟩
  have ey:y=u:=by
   have:its[i]?=some y:=by simpa using hy
   rw[hu]at this
   exact(Option.some.inj this).symm
  subst ey
  have lt:∀b∈[e,it],b≠s.heap.objs.size:=fun b hb=>by
   rcases List.mem_cons.mp hb with rfl | hb
   ·exact Nat.ne_of_lt (EH ge)
   ·cases List.mem_singleton.mp hb
    obtain⟨o,ho,_⟩:=gi
    exact Nat.ne_of_lt (EH ho)
  have I1:Inv X pins σ (upd H s.heap.objs.size (.tup [.int i,x])) { s with heap:=h',toks:=tk+1 }:=
   Inv.turnedNew (L:=[e,it]) I (fun b o hb z=>gk b o (fun q=>hb (by simp[q])) (fun q=>hb (by simp[q])) z) hf ⟨by show 2<=sizeLine;decide,[.int i tk,y],.cons ⟨tk,rfl⟩ (.cons ru .nil),⟨_,gT,rfl,_,rfl⟩⟩
  have fe:bO X pins (upd H s.heap.objs.size (.tup [.int i,x])) e:=by
   obtain⟨c0,c1,c2,c3,c4,c5⟩:=hf e (by simp)
   exact⟨by rw[aL (lt e (by simp))];exact c0,c1,c2,c3,c4,c5⟩
  refine wpAny_letOwnedTupleGo_enum (s:={ s with heap:=h',toks:=tk+1 }) geo fun k gk' bk=>?_
  refine⟨.ref s.heap.objs.size,upd H s.heap.objs.size (.tup [.int i,x]),Inv.same (s:={ s with heap:=h',toks:=tk+1 }) (k:=h') I1 fe bk.extBut,rfl,⟨_,x,rfl,I.hok.fresh (Nat.le_refl _),rfl,rfl,fun zs hzs=>by rw[I.tuple_inj hzs hq];exact hx⟩,⟨⟨y,by simpa using gk'⟩,gs.1.at fun o z=>bk.extBut it o (Ne.symm ne) z⟩,fun b hb=>?_⟩
  rw[aL (lt b hb)]
  exact(hf b hb).1
 done:=by
  intro X hP hw hK hc i pins s σ H E I hf st hg
  subst hP hw hK
  obtain⟨⟨old,ge⟩,gi⟩:=st
  obtain⟨xs,hq,hx⟩:=hg
  obtain⟨its,rv,p,hz⟩:=I.tuple hq
  have hA:X.A.in1.handled=none:=I.ok.hd hc
  have gT:s.TypeIs (.ref e) "enumerate":=⟨_,ge,rfl⟩
  have hl:=rv.length
  unfold pyNext
  refine EC (wpAny_attempt (wpAny_callSpecial?_slot (name:=Str.ofString "__next__") gT F.slot_enumerate_next (wpAny_call_entry F.slot_enumerate_next gT F.entry_enumerate_next ?_ (F.args_enumerate_next_1 _))))
  show wpAny _ _ (field (Value.ref e) 2 >>= _) _ _ _
  refine EC (wpAny_field ge rfl (x:=Value.ref it) rfl ?_)
  refine EC (mU hA gi (show s.heap.IsTuple a its.toArray from p) (by simp;omega) fun h' x he hx'=>?_)
  obtain⟨o,ho,hc'⟩:=hx'
  refine EC (wpAny_isInstance (s:={ s with heap:=h' }) (T:="StopIteration") (b:=true) ⟨o,ho,hc'⟩ isSubtype_stop ?_)
  exact ED ⟨rfl,Inv.same (k:=s.heap) I (hf it (by simp)) he⟩
 self:=fun _ _ _ _ _ st h=>by
  obtain⟨⟨old,ge⟩,_⟩:=st
  exact wpAny_pyIter_enum ge h
section
variable {K:EE} {σ:St} {H:Hp} {Q:VK}
def lY(K:EE):List V->Hp->(It->Hp->Prop)->Prop:=fun vs H R=>∃a xs,vs=[.ref a]/\aj K H a xs/\R (fY K a) H
def uU(K:EE)(ta:TA):TI:=fun σ H R=>ta σ H fun vs H1=>lY K vs H1 R
theorem Bs{X:Cx}{elts:List Expr}{kk:Nat}{ps:Pos}(K:EE){a:Expr}{ta:TA}{p pos:Pos}(hg:Gl X "enumerate")(hm:X.mg "enumerate" = none)(ha:PA X [a] ta)(hK:X.K=K:=by rfl)(hs:starEach [a] X.env=[(false,eval a X.env)]:=by rfl):
  PI X (.Tuple elts kk ps) (.Call (.Name "enumerate" p) [a] [] pos) (uU K ta):=by
 subst hK
 intro pins s σ H R I h
 refine Call_ (eJ I hg hm PyProof.Rows.boot_enumerate (PyProof.Rows.callWith_type1 (au (ha pos pins s σ H _ I h) fun us s1 ⟨vs,H1,I1,r1,q1⟩=>?_) (by rw[hs];rfl) rfl))
 obtain⟨l,xs,e,hq,q⟩:=q1
 subst e
 obtain⟨u,rfl,rx⟩:=vals1 r1
 cases rx
 obtain⟨its,_,p1,_⟩:=I1.tuple hq
 refine DW (show s1.heap.IsTuple l its.toArray from p1) fun h' ge gi k=>?_
 refine wpAny_pyIter_enum (s:={ s1 with heap:=h' }) ge ?_
 refine⟨s1.heap.objs.size+1,[s1.heap.objs.size+1,s1.heap.objs.size],_,_,H1,rfl,I1.kept (t':=s1.toks) k,zA l (s1.heap.objs.size+1) s1.heap.objs.size (fun z=>by have z':@Eq Nat _ _:=z;omega),⟨⟨_,ge⟩,gi⟩,fun b hb=>?_,q⟩
 have le:@LE.le Nat _ s1.heap.objs.size b:=by
  rcases List.mem_cons.mp hb with rfl | hb
  ·exact Nat.le_add_right _ _
  ·cases List.mem_singleton.mp hb
   exact Nat.le_refl _
 exact I1.fpOk le (I1.hok.fresh le)
theorem rd_enum{a:TA}{R:It->Hp->Prop}(h:a σ H fun vs H1=>lY K vs H1 R):uU K a σ H R:=h
theorem Dw{a:Addr}{xs:List V}{R:It->Hp->Prop}(ha:aj K H a xs)(h:R (fY K a) H):lY K [.ref a] H R:=⟨a,xs,rfl,ha,h⟩
theorem A8{a:Addr}{xs:List V}{g:TG}{tb:TS}{D:Ends}(Pv:Nat->St->Hp->Prop)(h0:Pv 0 σ H)(hl:∀i σ H,i<=xs.length->Pv i σ H->aj K H a xs)
  (hs:∀i u σ H p H',xs[i]?=some u->Pv i σ H->Ext H H'->H' p=some (.tup [.int i,u])->H p=none->g (.ref p) σ H' fun σ2 H2=>tb { D with nx:=Pv (i+1),ct:=Pv (i+1),bk:=D.nx } σ2 H2) (hd:∀σ H,Pv xs.length σ H->D.nx σ H) :
  ∃W:Nat->Nat->St->Hp->Prop,(∃m,W 0 m σ H)/\∀i m σ H,W i m σ H →
   ((fY K a).stop i H/\D.nx σ H)\/((fY K a).go i H/\∃N:St->Hp->Prop,(∀σ' H',N σ' H'->∃m',m'<m/\W (i+1) m' σ' H')/\∀x H',(fY K a).yld i H x H'->g x σ H' fun σ2 H2=>tb { D with nx:=N,ct:=N,bk:=D.nx } σ2 H2):=by
 refine⟨fun i m σ H=>m=xs.length-i/\i<=xs.length/\Pv i σ H,⟨xs.length,by simp,Nat.zero_le _,h0⟩,?_⟩
 rintro i m σ H ⟨rfl,hi,p⟩
 have qa:=hl i σ H hi p
 by_cases hlt:i<xs.length
 ·refine .inr ⟨⟨xs,xs[i],qa,by simp[hlt]⟩,Pv (i+1),fun σ' H' p'=>⟨xs.length-(i+1),by omega,rfl,hlt,p'⟩,fun x H' y=>?_⟩
  obtain⟨pp,u,rfl,hn,rfl,yu⟩:=y
  exact hs i u σ H pp _ (yu.2 xs qa) p (bM hn) aY hn
 ·have e:i=xs.length:=by omega
  subst e
  exact .inl ⟨⟨xs,qa,Nat.le_refl _⟩,hd σ H p⟩
end
section
variable {X:Cx}
def lW(neg:Bool):R2:=fun x y H Q=>∃n p xs d ds,bF H n x d/\y=.ref p/\H p=some (.lst xs)/\Paired (bF H n) xs ds/\n<=50/\Q (.bl (if neg then !(ds.any fun e=>PyData.eqv e d)else ds.any fun e=>PyData.eqv e d)) H
theorem EA{k:Nat}(hr:Room k X.A):aZ X (compareOp .In) (lW false):=by
 intro pins s σ H x y v u Q I rx ry h
 obtain⟨n,p,xs,d,ds,h1,rfl,h2,h3,hn,q⟩:=h
 have h4:bF H (n+1) (.ref p) (.list ds):=.inr ⟨p,xs,ds,rfl,.inr ⟨h2,rfl⟩,h3⟩
 obtain⟨as,ra⟩:=bF.reads I n h1 rx
 obtain⟨bs,rb⟩:=bF.reads I (n+1) h4 ry
 have l1:=bF.lay n h1
 have l2:=kx (fun{x d}=>bF.lay (H:=H) n) h3
 have hu:=hr.units
 have hm:min (PyData.depthAll ds) d.depth<=50:=Nat.le_trans (Nat.min_le_right _ _) (Nat.le_trans l1.2 hn)
 exact SeqAt.in_list_reads rb ra l2.1 l1.1 (by omega) ⟨.bl _,H,I,rfl,q⟩
theorem BB{k:Nat}(hr:Room k X.A):aZ X (compareOp .NotIn) (lW true):=by
 intro pins s σ H x y v u Q I rx ry h
 obtain⟨n,p,xs,d,ds,h1,rfl,h2,h3,hn,q⟩:=h
 have h4:bF H (n+1) (.ref p) (.list ds):=.inr ⟨p,xs,ds,rfl,.inr ⟨h2,rfl⟩,h3⟩
 obtain⟨as,ra⟩:=bF.reads I n h1 rx
 obtain⟨bs,rb⟩:=bF.reads I (n+1) h4 ry
 have l1:=bF.lay n h1
 have l2:=kx (fun{x d}=>bF.lay (H:=H) n) h3
 have hu:=hr.units
 have hm:min (PyData.depthAll ds) d.depth<=50:=Nat.le_trans (Nat.min_le_right _ _) (Nat.le_trans l1.2 hn)
 exact SeqAt.notIn_list_reads rb ra l2.1 l1.1 (by omega) ⟨.bl _,H,I,rfl,q⟩
theorem yV{neg:Bool}{n:Nat}{x:V}{p:Addr}{xs:List V}{d:PyData}{ds:List PyData}{H:Hp}{Q:VK}(h1:bF H n x d)(h2:H p=some (.lst xs))(h3:Paired (bF H n) xs ds)(hn:n<=50)(q:Q (.bl (if neg then !(ds.any fun e=>PyData.eqv e d)else ds.any fun e=>PyData.eqv e d)) H):lW neg x (.ref p) H Q:=
 ⟨n,p,xs,d,ds,h1,rfl,h2,h3,hn,q⟩
end
end L2
namespace L2
open PySem PySem.Spec PyProof.Rows
abbrev Row3:=Str×Tok×Value
def jZ(w:World)(e:Row3):DictEntry:=⟨PyData.keyHash w.params e.1,.str e.1 e.2.1,e.2.2⟩
def gn(w:World)(l:List Row3)(ep:Nat):Obj:={ cls:=.type "dict",dict:=none,data:=.dict (l.map (jZ w)).toArray ep,slots:=#[] }
structure GDict(w:World)(K:EE)(a:Addr)(kvs:List (Key×V)):Prop where
 has:∃l ep,K.lookup a=some (gn w l ep)/\KV kvs (l.map fun e=>((Sum.inr e.1:Key),e.2.2))
 nd:(kvs.map (·.1)).Nodup
 sm:(a == sysModules)=false
theorem rG{P:Program}{w:World}:∀l:List Row3,Pairs (aE P w) (l.map (jZ w)) (l.map fun e=>((Sum.inr e.1:Key),e.2.2))
 | []=>.nil
 | e::l=>.cons (mj P w e.1 e.2.1) rfl (rG l)
theorem DN{P:Program}{w:World}(l:List Row3):KeysOf (aE P w) (l.map (jZ w)).toArray:=fun e he=>by
 have he':e∈l.map (jZ w):=by simpa using he
 obtain⟨x,_,rfl⟩:=List.mem_map.mp he'
 exact⟨.inr x.1,mj P w x.1 x.2.1,rfl⟩
theorem GDict.at{X:Cx}{pins:List (Addr×Obj)}{σ:St}{H:Hp}{s:Shared}{a:Addr}{kvs:List (Key×V)}(D:GDict X.w X.K a kvs)(I:Inv X pins σ H s):∃vs,KV kvs vs/\s.heap.DictOf (aE X.prog X.w) a vs:=by
 obtain⟨l,ep,hl,r⟩:=D.has
 refine⟨_,r,gn X.w l ep,_,ep,I.kIn _ _ hl,⟨rfl,rfl,rfl⟩,rfl,DN l,rG l,?_⟩
 rw[←r.keys]
 exact D.nd
section
variable {X:Cx} {x:Str} {a:Addr} {kvs:List (Key×V)} {i:Expr} {ty:TE} {p pos:Pos}
def sW(kvs:List (Key×V))(ty:TE):TE:=fun σ H Q=>ty σ H fun y H1=>∃k v,y=kV k/\bC kvs k=some v/\Q v H1
def pG(neg:Bool)(kvs:List (Key×V))(ty:TE):TE:=fun σ H Q=>ty σ H fun y H1=>∃k,y=kV k/\Q (.bl (if neg then !(bC kvs k).isSome else(bC kvs k).isSome)) H1
theorem vB(hg:Gl X x)(hm:X.mg x=some (.ref a))(D:GDict X.w X.K a kvs)(hi:PE X i ty)(hs:lM i)(hd:(x == ("__debug__":Str))=false:=by decide):PE X (.Subscript (.Name x p) i pos) (sW kvs ty):=by
 intro pins s σ H Q I h
 refine ur PySem.F.slot_dict_getitem.lookup hs (fw I hg hm (au (hi pins s σ H _ I h) fun iv s2 ⟨y,H2,I2,ry,k,v,ey,hv,q⟩=>?_) hd)
 subst ey
 obtain⟨vs,rel,dd⟩:=D.at I2
 obtain⟨w',hw,rw'⟩:=dg.some_of (v:=v) (o:=valueAt vs k) (by rw[←hv];exact rel.val k)
 exact⟨dd.typeIs,wpAny_getItem_of (h8 ry) dd.mapOf hw ⟨v,H2,I2.tok _,rw',q⟩⟩
theorem Aq(hg:Gl X x)(hm:X.mg x=some (.ref a))(D:GDict X.w X.K a kvs)(hi:PE X i ty)(hd:(x == ("__debug__":Str))=false:=by decide):PC X .In i (.Name x p) (pG false kvs ty):=by
 intro pins s σ H Q I h
 refine au (hi pins s σ H _ I h) fun iv s1 ⟨y,H1,I1,ry,k,ey,q⟩=>fw I1 hg hm ?_ hd
 subst ey
 obtain⟨vs,rel,dd⟩:=D.at I1
 refine wpAny_in_of (h8 ry) D.sm dd.mapOf ?_
 rw[←(rel.val k).isSome_eq]
 exact⟨.bl (bC kvs k).isSome,H1,I1.tok _,rfl,q⟩
theorem rd_gget{σ:St}{H:Hp}{Q:VK}(h:ty σ H fun y H1=>∃k v,y=kV k/\bC kvs k=some v/\Q v H1):sW kvs ty σ H Q:=h
theorem rd_gin{neg:Bool}{σ:St}{H:Hp}{Q:VK}(h:ty σ H fun y H1=>∃k,y=kV k/\Q (.bl (if neg then !(bC kvs k).isSome else(bC kvs k).isSome)) H1):pG neg kvs ty σ H Q:=h
theorem sN{R:V->Prop}{z:Str}{v:V}(hv:bC kvs (.inr z)=some v)(h:R v):∃k v,V.str z=kV k/\bC kvs k=some v/\R v:=⟨.inr z,v,rfl,hv,h⟩
def vd:R2:=fun x y H Q=>∃a b,x=.str a/\y=.str b/\Q (.bl (!decide (b.cps.toList<a.cps.toList))) H
theorem uB:aZ X (compareOp .LtE) vd:=by
 intro pins s σ H x y v u Q I rx ry h
 obtain⟨a,b,rfl,rfl,q⟩:=h
 obtain⟨t,rfl⟩:=rx
 obtain⟨t',rfl⟩:=ry
 exact PySem.P.le_str ⟨.bl _,H,I,rfl,q⟩
theorem rd_leS{a b:Str}{H:Hp}{Q:VK}(h:Q (.bl (!decide (b.cps.toList<a.cps.toList))) H):vd (.str a) (.str b) H Q:=⟨a,b,rfl,rfl,h⟩
theorem m5{α β:Type}{f g:α->Option β}:∀{l:List α},(∀x∈l,f x=g x)->l.filterMap f=l.filterMap g
 | [],_=>rfl
 | x::l,h=>by
  rw[List.filterMap_cons,List.filterMap_cons,h x EO,m5 fun y hy=>h y (EL _ hy)]
theorem AG(n:Nat)(xs:List Value)(h:xs.length=n):(List.range n).filterMap (fun i:Nat=>xs[((n:Int)-1+(i:Int)*(-1)).toNat]?)=xs.reverse:=by
 refine List.ext_getElem? fun i=>?_
 have e:(List.range n).filterMap (fun i:Nat=>xs[((n:Int)-1+(i:Int)*(-1)).toNat]?)=(List.range n).map (fun i:Nat=>xs.reverse.getD i .none):=by
  rw[←List.filterMap_eq_map]
  refine m5 fun i hi=>?_
  have hi:=List.mem_range.mp hi
  have:((n:Int)-1+(i:Int)*(-1)).toNat=n-1-i:=by omega
  rw[this,Function.comp_apply,List.getD_eq_getElem?_getD,List.getElem?_reverse (by omega),h,EJ (show n-1-i<xs.length by omega)]
  rfl
 rw[e,EK]
 by_cases hi:i<n
 ·rw[EJ (by simpa using hi),EJ (by simpa[h]using hi)]
  simp[List.getD_eq_getElem?_getD,h,hi]
 ·rw[List.getElem?_eq_none (by simpa using hi),List.getElem?_eq_none (by simpa[h]using hi)]
  rfl
theorem Ae(its:List Value):slicePick its.toArray none none (some (-1))=its.reverse.toArray:=by
 unfold slicePick
 have e:sliceBounds none none (some (-1)) its.toArray.size=((its.length:Int)-1,-1,-1):=by
  unfold sliceBounds
  simp
 rw[e]
 refine congrArg List.toArray ?_
 rw[←AG its.length its rfl]
 unfold sliceRange
 simp only
 rw[if_neg (by decide),List.filterMap_map]
 have el:(if(its.length:Int)-1 > -1 then((its.length:Int)-1 - -1 - -1-1) / - -1 else 0).toNat=its.length:=by
  rw[show (- -1:Int)=1 by decide,Int.ediv_one]
  split<;>omega
 rw[el]
 refine m5 fun i hi=>?_
 rw[Function.comp_apply,show (its.length:Int)-1 + -1*(i:Int)=(its.length:Int)-1+(i:Int) * -1 by omega]
 simp
theorem Vals.rev{xs:List V}{us:List Value}(r:Vals xs us):Vals xs.reverse us.reverse:=by
 induction r with
 | nil=>exact .nil
 | cons h t ih=>
  rw[List.reverse_cons,List.reverse_cons]
  exact Vals.append ih (.cons h .nil)
def ib(K:EE):V->Hp->VK->Prop:=fun x H Q=>∃a xs,x=.ref a/\ag K H a xs/\dO H (.lst xs.reverse) Q
def oZ(K:EE)(te:TE)(ts:TO):TE:=fun σ H Q=>te σ H fun x H1=>ts σ H1 fun k H2=>k=some (-1)/\ib K x H2 Q
theorem xu{e st:Expr}{te:TE}{ts:TO}{p2:Pos}(K:EE)(he:PE X e te)(hs:PO X (some st) ts)(hK:X.K=K:=by rfl):PE X (.Subscript e (.Slice none none (some st) p2) pos) (oZ K te ts):=by
 subst hK
 intro pins s σ H Q I h
 refine Subscript_ (au (he pins s σ H _ I h) fun v s1 ⟨x,H1,I1,r1,q1⟩=>?_)
 refine wpAny_Slice ?_
 rw[evalPart_none]
 refine ED (ED ?_)
 refine au (hs pins s1 σ H1 _ I1 q1) fun vs s2 ⟨k,H2,I2,pk,q2⟩=>?_
 obtain⟨rfl,a,xs,rfl,hx,q⟩:=q2
 cases pk with
 | int i tk=>
 cases r1
 have I3:Inv X pins σ H2 { s2 with heap:=s2.heap.push { cls:=.type "slice",data:=.fields #[.none,.none,.int (-1) tk] } }:=I2.kept (t':=s2.toks) fun b ob q=>EF _ q
 obtain⟨its,r,ht,hz⟩:=I3.list hx
 have hlen:=r.length
 show wpAny (model X.prog X.w) X.A (subscriptTail e (.Slice none none (some st) p2) (.ref a) (.ref s2.heap.objs.size)) (EP X pins σ Q) X.xe { s2 with heap:=s2.heap.push { cls:=.type "slice",data:=.fields #[.none,.none,.int (-1) tk] } }
 refine tail_any (ops:=[.ref a,.ref s2.heap.objs.size]) ht.isList.typeIs slot_list_getitem.lookup (wpAny_getItem_list_slice ht.isList (Heap.IsSliceOf.new ..) .none .none (.int (-1) tk) (by decide) ?_ (by rw[EN];omega)) (by with_unfolding_all rfl)
 rw[Ae]
 exact⟨.ref _,_,I3.laid (t':=s2.toks) (o:=.lst xs.reverse) (fun b ob e=>EF _ e) (Nat.le_refl _) ⟨by rw[List.length_reverse];exact hz,_,0,r.rev,EG _ rfl⟩,rfl,q _ (I3.hok.fresh (Nat.le_refl _))⟩
theorem rd_revL{K:EE}{te:TE}{ts:TO}{σ:St}{H:Hp}{Q:VK}(h:te σ H fun x H1=>ts σ H1 fun k H2=>k=some (-1)/\ib K x H2 Q):oZ K te ts σ H Q:=h
theorem tE{K:EE}{H:Hp}{Q:VK}{a:Addr}{xs:List V}(e:ag K H a xs)(h:dO H (.lst xs.reverse) Q):ib K (.ref a) H Q:=⟨a,xs,rfl,e,h⟩
theorem rd_dget{td:TE}{σ:St}{H:Hp}{Q:VK}(h:td σ H fun x H1=>ty σ H1 fun y H2=>∃a v,x=.ref a/\cQ H2 a y (some v)/\Q v H2):rM td ty σ H Q:=h
end
end L2
namespace L2
open PySem PySem.Spec PyProof.Rows
theorem Be:typeLookup (.type "list_reverseiterator") "__len__" = pure none:=by rw[typeLookup_type,builtinLookup_eq_fast];kernel_rfl
theorem Dr:typeLookup (.type "list_reverseiterator") "__length_hint__" = pure (some (.builtin "list_reverseiterator.__length_hint__")):=by rw[typeLookup_type,builtinLookup_eq_fast];kernel_rfl
section
variable {prog:Program} {w:World} {A:Around} {E:Value->Shared->Prop} {s:Shared} {r d:Addr}
theorem Ai{Q:Bool->Shared->Prop}(hT:s.TypeIs (.ref r) "list_reverseiterator")(h:Q false s):wpAny (model prog w) A (Builtin.List.listLengthHint (.ref r)) Q E s:=by
 unfold Builtin.List.listLengthHint
 refine EC (wpAny_specialOf hT Be ?_)
 show wpAny _ _ (specialOf (Value.ref r) (Str.ofString "__length_hint__") >>= _) _ _ _
 refine EC (wpAny_specialOf hT Dr ?_)
 generalize hid:("list_reverseiterator.__length_hint__":String)=id0
 wp_delta
 rw[show splitId id0=some ("list_reverseiterator","__length_hint__")from by subst hid;decide +kernel]
 subst hid
 refine EC (wpAny_isInstance (T:="list_reverseiterator") (b:=true) hT (by rw[isSubtype_type];kernel_rfl) ?_)
 refine wpAny_ite_split (fun hab=>absurd hab (by decide)) (fun _=>?_)
 refine wpAny_ite_split (fun _=>?_) (fun hab=>absurd (by decide +kernel) hab)
 refine wpAny_ite_split (fun hab=>absurd hab (by decide +kernel)) (fun _=>?_)
 exact ED h
theorem BS{R:Result->Shared->Prop}{items:Array Value}(hh:A.handled=none)(hne:d≠r)(hit:s.heap.IsRevIter r d ((items.size:Int)-1))(hl:s.heap.IsList d items)(S:Addr)(hSr:S≠r)(hSd:S≠d)(res:Value)(c₀:Nat)(hS:s.heap.get? S=some { cls:=.type "list",data:=.seq #[] c₀ })
  (hR:∀h' tk acc' c',(∀b o,b≠S->b≠r->s.heap.get? b=some o->h'.get? b=some o)->h'.get? S=some { cls:=.type "list",dict:=none,data:=.seq acc' c',slots:=#[] }->ItemsOf (fun i v=>items[items.size-1-i]?=some v) acc' items.size->R (.ok (.ret res)) { s with heap:=h',toks:=tk }) (hn:items.size<=sizeLine) :
  wpAny (model prog w) A.in1 (Builtin.List.listExtendWith (.ref S) (.ref r) res)
   (fun fin s'=>match fin with | .done f=>R (.ok f) s' | .again c'=>c'.quiet=true/\codeAny (model prog w) A c' R s') (fun e s'=>R (.error e) s') s:=by
 have hSf:S∉[r,d]:=by simp only[List.mem_cons,List.not_mem_nil,or_false,not_or];exact⟨hSr,hSd⟩
 have W:=Walks.listRev (prog:=prog) (w:=w) (A:=A.in1) hh r d hne items
 have st:0<=items.size/\s.heap.IsRevIter r d ((items.size:Int)-1-((0:Nat):Int))/\s.heap.IsList d items:=⟨Nat.zero_le _,by rw[show (items.size:Int)-1-((0:Nat):Int)=(items.size:Int)-1 by omega];exact hit,hl⟩
 unfold Builtin.List.listExtendWith
 refine EC (wpAny_typeOf (T:="list_reverseiterator") hit.typeIs ?_)
 have h1:Builtin.List.listSameRef (.ref S) (.ref r)=false:=by simp[Builtin.List.listSameRef,hSr]
 have h2:(Value.type "list_reverseiterator" == Value.type "list")=false:=by decide
 have h3:(Value.type "list_reverseiterator" == Value.type "tuple")=false:=by decide
 simp only[h1,h2,h3,Bool.or_false,Bool.false_eq_true,if_false]
 refine EC (W.self 0 _ _ _ st ?_)
 refine EC (wpAny_holding (Ai hit.typeIs ?_))
 refine wpAny_ite_split (fun hab=>absurd hab (by decide +kernel)) (fun _=>?_)
 refine ED ⟨plainId_quiet PySem.F.plain_extend_loop _,?_⟩
 refine codeAny_extend_loopS W.toS hn S hSf res items.size 0 s #[] c₀ rfl (Nat.zero_le _) st hS (ItemsOf.nil _) fun s' acc' c' hm hS' hacc=>?_
 rw[Moved.eq_with hm]
 refine hR s'.heap s'.toks acc' c' (fun b o hb hb2 e=>hm.heap b o (fun hmem=>?_) e) hS' hacc
 rcases List.mem_cons.mp hmem with e' | hmem
 ·exact hb e'
 ·exact hb2 (List.mem_singleton.mp hmem)
theorem CV{R:Result->Shared->Prop}{items:Array Value}(hh:A.handled=none)(hne:d≠r)(hit:s.heap.IsRevIter r d ((items.size:Int)-1))(hl:s.heap.IsList d items)(S:Addr)(hSr:S≠r)(hSd:S≠d)(hS:s.heap.get? S=some { cls:=.type "list",data:=.seq #[] })
  (hR:∀h' tk acc' c',(∀b o,b≠S->b≠r->s.heap.get? b=some o->h'.get? b=some o)->h'.get? S=some { cls:=.type "list",dict:=none,data:=.seq acc' c',slots:=#[] }->ItemsOf (fun i v=>items[items.size-1-i]?=some v) acc' items.size->R (.ok (.ret .none)) { s with heap:=h',toks:=tk }) (hn:items.size<=sizeLine) :
  wpAny (model prog w) A.in1 (Builtin.«list.__init__» ⟨[.ref S,.ref r],[]⟩)
   (fun fin s'=>match fin with | .done f=>R (.ok f) s' | .again c'=>c'.quiet=true/\codeAny (model prog w) A c' R s') (fun e s'=>R (.error e) s') s:=by
 show wpAny _ _ (do let old ←Builtin.List.listItems (.ref S);Builtin.List.listUpdate (.ref S) (fun _=>#[]);letGo old.toList.reverse;Builtin.List.listExtendWith (.ref S) (.ref r) .none) _ _ s
 refine EC ?_
 unfold Builtin.List.listItems
 refine EC (wpAny_seqItems hS rfl (ED ?_))
 show wpAny _ _ (updateSeq S (fun _=>#[]) >>= fun _=>letGo (#[]:Array Value).toList.reverse >>= fun _=>Builtin.List.listExtendWith (.ref S) (.ref r) .none) _ _ s
 refine EC (wpAny_updateSeq hS rfl ?_)
 have hS₂:=Heap.get?_update_self (Obj.mapSeq (fun _=>(#[]:Array Value))) hS rfl
 have oth:∀b o,b≠S->s.heap.get? b=some o->(s.heap.update S (Obj.mapSeq (fun _=>(#[]:Array Value)))).get? b=some o:=
  fun b o hb e=>(Heap.get?_update_other _ _ (Ne.symm hb)).trans e
 refine EC (wpAny_letGo ?_)
 refine BS hh hne (hit.at fun o e=>oth _ _ hSr.symm e) (hl.at fun o e=>oth _ _ hSd.symm e) S hSr hSd .none _ hS₂ (fun h' tk acc' c' hk hS' hacc=>?_) hn
 exact hR h' tk acc' c' (fun b o hb hb2 e=>hk b o hb hb2 (oth b o hb e)) hS' hacc
theorem yn{Q:Value->Shared->Prop}{items:Array Value}(hh:A.handled=none)(hne:d≠r)(hit:s.heap.IsRevIter r d ((items.size:Int)-1))(hl:s.heap.IsList d items)(hn:items.size<=sizeLine)
  (hQ:∀h' tk acc' c',(∀b o,b≠r->s.heap.get? b=some o->h'.get? b=some o)->h'.get? s.heap.objs.size=some { cls:=.type "list",dict:=none,data:=.seq acc' c',slots:=#[] }->ItemsOf (fun i v=>items[items.size-1-i]?=some v) acc' items.size->Q (.ref s.heap.objs.size) { s with heap:=h',toks:=tk }) :
  wpAny (model prog w) A (call (.type "list") [.ref r]) Q E s:=by
 refine callType_codes (Q₁:=fun obj s₁=>obj=.ref s.heap.objs.size/\s₁={ s with heap:=s.heap.push { cls:=.type "list",data:=.seq #[] } }) PySem.F.called_list (PySem.F.typeCall_list_1 _) PySem.F.entry_list_init
  (code_list_new _ ⟨rfl,rfl⟩) fun obj s₁ h₁=>?_
 obtain⟨rfl,rfl⟩:=h₁
 have hS:(s.heap.push { cls:=.type "list",data:=.seq #[] }).get? s.heap.objs.size=some { cls:=.type "list",data:=.seq #[] }:=EG _ rfl
 have l1:r<s.heap.objs.size:=let ⟨o,ho,_⟩:=hit;EH ho
 have l2:d<s.heap.objs.size:=let ⟨o,ho,_⟩:=hl;EH ho
 refine⟨⟨_,hS,rfl⟩,PySem.F.args_list_init_2 _ _,CV (A:=A.in1) hh hne (hit.at fun o e=>EF _ e) (hl.at fun o e=>EF _ e) _ (Nat.ne_of_gt l1) (Nat.ne_of_gt l2) hS (fun h' tk acc' c' hk hS' hacc=>?_) hn⟩
 exact⟨rfl,hQ h' tk acc' c' (fun b o hb e=>hk b o (Nat.ne_of_lt (EH e)) hb (EF _ e)) hS' hacc⟩
end
theorem zD{its:List Value}{acc:Array Value}(h:ItemsOf (fun i v=>its.toArray[its.toArray.size-1-i]?=some v) acc its.toArray.size):acc=its.reverse.toArray:=by
 have h1:acc.size=its.length:=h.1.trans EN
 have h2:=h.2
 refine Array.ext_getElem? fun i=>?_
 by_cases hi:i<acc.size
 ·have h3:=h2 i acc[i] (Array.getElem?_eq_getElem hi)
  rw[Array.getElem?_eq_getElem hi,←h3,List.getElem?_toArray,List.getElem?_toArray,EN,List.getElem?_reverse (by omega)]
 ·rw[Array.getElem?_eq_none (by omega),List.getElem?_toArray,List.getElem?_eq_none (by rw[List.length_reverse];omega)]
section
variable {X:Cx}
def sM(K:EE)(te:TE):TE:=fun σ H Q=>te σ H fun x H1=>ib K x H1 Q
theorem ym{e:Expr}{te:TE}{p p2 pos pos2:Pos}(K:EE)(hc:X.calm=true)(hg:Gl X "list")(hm:X.mg "list" = none)(hg2:Gl X "reversed")(hm2:X.mg "reversed" = none)(he:PE X e te)(hK:X.K=K:=by rfl)
  (h1:starEach [e] X.env=(false,eval e X.env)::starEach [] X.env:=by rfl)
  (h2:starEach [.Call (.Name "reversed" p2) [e] [] pos2] X.env=(false,eval (.Call (.Name "reversed" p2) [e] [] pos2) X.env)::starEach [] X.env:=by rfl) :
  PE X (.Call (.Name "list" p) [.Call (.Name "reversed" p2) [e] [] pos2] [] pos) (sM K te):=by
 subst hK
 intro pins s σ H Q I h
 refine wpAny_Call_Name_kw (eJ I hg hm PyProof.Rows.boot_list ?_ (by decide) (by decide))
 refine PyProof.Rows.callWith_type1 ?_ h2 rfl
 rw[h2]
 show wpAny _ _ (spliced ((false,eval (.Call (.Name "reversed" p2) [e] [] pos2) X.env)::backTo pos (starEach [] X.env))) _ _ s
 refine Calls.spliced_cons ?_
 refine wpAny_Call_Name_kw (eJ I hg2 hm2 PyProof.Rows.boot_reversed ?_ (by decide) (by decide))
 refine PyProof.Rows.callWith_type1 ?_ h1 rfl
 rw[h1]
 show wpAny _ _ (spliced ((false,eval e X.env)::backTo pos2 (starEach [] X.env))) _ _ s
 refine Calls.spliced_cons (au (he pins s σ H _ I h) fun u s1 ⟨x,H1,I1,r1,q1⟩=>?_)
 refine Calls.spliced_nil ?_
 obtain⟨a,xs,rfl,hx,q⟩:=q1
 cases r1
 obtain⟨its,r,pl,hz⟩:=I1.list hx
 have hlen:=r.length
 refine call_reversed_list pl.isList ?_
 refine Calls.spliced_nil ?_
 have la:a<s1.heap.objs.size:=let ⟨o,ho,_⟩:=pl.isList;EH ho
 have hsz:(s1.heap.push (revObj a ((its.toArray.size:Int)-1))).objs.size=s1.heap.objs.size+1:=Heap.size_push ..
 refine yn (items:=its.toArray) (d:=a) (r:=s1.heap.objs.size) (I1.ok.hd hc) (Nat.ne_of_lt la) ⟨_,EG _ rfl,rfl,rfl⟩ (pl.isList.at fun o e=>EF _ e) (by rw[EN];omega) fun h' tk acc' c' hk hS' hacc=>?_
 have hk':∀b o,s1.heap.get? b=some o->h'.get? b=some o:=fun b o e=>hk b o (Nat.ne_of_lt (EH e)) (EF _ e)
 have hle:s1.heap.objs.size<=(s1.heap.push (revObj a ((its.toArray.size:Int)-1))).objs.size:=by rw[hsz];exact Nat.le_succ _
 rw[zD hacc]at hS'
 exact⟨.ref _,_,I1.laid (t':=tk) (o:=.lst xs.reverse) hk' hle ⟨by rw[List.length_reverse];exact hz,_,c',r.rev,hS'⟩,rfl,q _ (I1.hok.fresh hle)⟩
def oo(tk tv:TE):TE:=fun σ H Q=>∀p,H p=none->tk σ (upd H p (.dT [])) fun x H1=>tv σ H1 fun v H2=>∃b k,x=.ref b/\H2 b=some (.tup (List.map kV k))/\H2 p=some (.dT [])/\Q (.ref p) (upd H2 p (.dT [(k,v)]))
theorem zQ{ek ev:Expr}{tk tv:TE}{pos:Pos}(hu:X.A.units+1<cLine)(hk:PE X ek tk)(hv:PE X ev tv):PE X (.Dict [some ek] [ev] pos) (oo tk tv):=by
 intro pins s σ H Q I q
 have hn:=I.hok.fresh (Nat.le_refl s.heap.objs.size)
 have I1:=I.laid (a:=s.heap.objs.size) (o:=.dT []) (h':=s.heap.push { cls:=.type "dict",data:=.dict #[] }) (t':=s.toks) (fun _ _ q=>EF _ q) (Nat.le_refl _) (DT s.heap I.big)
 refine wpAny_Dict_any rfl rfl (by simp) (by simp) ?_
 refine pairTrees_cons_walk (au (hk pins _ σ _ _ I1 (q _ hn)) fun u s1 ⟨x,H1,I1,rx,q1⟩=>au (hv pins s1 σ H1 _ I1 q1) fun w2 s2 ⟨v,H2,I2,ry,q2⟩=>pairTrees_nil_walk ?_)
 obtain⟨b,k,rfl,hb,e,q3⟩:=q2
 cases(show u=Value.ref b from rx)
 obtain⟨z,hd,xs,rel,dd⟩:=oF I2.hok e
 have hz:xs.length<=sizeLine:=by rw[←Paired.length rel];exact Nat.zero_le _
 unfold storeAll
 rw[List.forIn_cons]
 refine EC (EC (wpAny_dictSet_heap (hsz:=hz) (show(tupleKind (aE X.prog X.w)).room X.A from Nat.lt_of_succ_lt hu) (ia I2.hok hb) dd fun h' dd' hs=>ED ?_))
 dsimp only
 rw[List.forIn_nil]
 refine ED ⟨.ref s.heap.objs.size,_,?_,rfl,q3⟩
 obtain⟨q,es,ep,hq,h2,h3,h4,_,h5⟩:=dd'
 refine mL I2 (by rw[e];exact True.intro) hs ⟨q,hq⟩ ⟨by rw[sizeLine_eq];simp,hd,_,(rel.put k hb ry).keeps fun c ys ec=>?_,q,es,ep,hq,h2,h3,h4,h5⟩
 rw[aL (du ec e (fun z=>nomatch z))]
 exact ec
theorem rd_lrev{K:EE}{te:TE}{σ:St}{H:Hp}{Q:VK}(h:te σ H fun x H1=>ib K x H1 Q):sM K te σ H Q:=h
theorem rd_disp1{tk tv:TE}{σ:St}{H:Hp}{Q:VK}(h:∀p,H p=none->tk σ (upd H p (.dT [])) fun x H1=>tv σ H1 fun v H2=>∃b k,x=.ref b/\H2 b=some (.tup (List.map kV k))/\H2 p=some (.dT [])/\Q (.ref p) (upd H2 p (.dT [(k,v)]))):oo tk tv σ H Q:=h
theorem rd_dnin{ty td:TE}{σ:St}{H:Hp}{Q:VK}(h:ty σ H fun y H1=>td σ H1 fun x H2=>∃a o,x=.ref a/\cQ H2 a y o/\Q (.bl (!o.isSome)) H2):ve ty td σ H Q:=h
theorem rd_dput{td ty tv:TE}{D:Ends}{σ:St}{H:Hp}(h:tv σ H fun v H1=>td σ H1 fun x H2=>ty σ H2 fun y H3=>∃a H4,x=.ref a/\gH H3 a y v H4/\D.nx σ H4):o3 td ty tv D σ H:=h
end
end L2
namespace L2
open PySem PySem.Spec PyProof.Rows
section
variable {X:Cx}
theorem LitE.pe{e:Expr}{te:TE}(h:LitE e te):PE X e te:=
 LitE.rec (motive_1:=fun e te _=>PE X e te) (motive_2:=fun es ta _=>PA X es ta) fm cn ae av (fun _ ih=>aF ih) af (fun h _ ih1 ih2=>aa ih1 ih2 (h.star _ _)) h
theorem eR{e:Expr}{te:TE}{es:List Expr}{t:TA}(h:LitE e te)(hr:PA X es t):PA X (e::es) (jg te t):=aa h.pe hr (h.star _ _)
end
end L2
namespace L2
open PySem PySem.Spec PyProof.Rows
def iQ(z:Str):It:=⟨fun i _=>i<z.cps.size,fun i H x H'=>H'=H/\∃c,z.cps[i]?=some c/\x=.str ⟨#[c]⟩,fun i _=>z.cps.size<=i⟩
theorem xE{P:Program}{w:World}{K:EE}{tg:Expr}(z:Str)(t:Tok)(it:Addr):Turn P w K tg (iQ z) [it] it (fun i h=>h.IsStrIter it (strIterType z) z t i) where
 mem:=by simp
 obj:=fun i h st b hb=>by
  have e:b=it:=by simpa using hb
  subst e
  obtain⟨o,e,c,d⟩:=st
  exact⟨o,e,fun v z=>by rw[d]at z;cases z⟩
 keep:=fun i h h' st k=>by
  obtain⟨o,e,r⟩:=st
  exact⟨o,k it (by simp) o e,r⟩
 item:=by
  intro X hP hw hK hc i pins s σ H E I hf st hg
  subst hP hw hK
  have hx:z.cps[i]?=some z.cps[i]:=Array.getElem?_eq_getElem hg
  obtain⟨f0,f1,f2,f3,f4,f5⟩:=hf it (by simp)
  have fin:∀(ty:String),ty=strIterType z->["enumerate","zip","dict_itemiterator","dict_reverseitemiterator","odict_iterator","itertools.zip_longest","itertools.pairwise"].contains ty=false->∀h',h'.IsStrIter it ty z t (i+1)->Heap.SameBut it s.heap h' →
    ∃u,some (Value.str ⟨#[z.cps[i]]⟩ s.toks)=some u/\wpAny (model X.prog X.w) X.A (letOwnedTupleGo tg (.ref it) u) (fun _ s2=>∃x H',Inv X pins σ H' s2/\RelV x u/\(iQ z).yld i H x H'/\s2.heap.IsStrIter it (strIterType z) z t (i+1)/\∀b∈[it],H' b=none) E { s with heap:=h',toks:=s.toks+1 }:=by
   intro ty hty hn h' st' sb
   have I1:Inv X pins σ H { s with heap:=h',toks:=s.toks+1 }:=I.turned (fun b o hb e=>(sb.2 b hb).trans e) f0 f1 f3 f4 f5
   obtain⟨o,e,c,d⟩:=id st'
   exact⟨_,rfl,iT (s:={ s with heap:=h',toks:=s.toks+1 }) e c d hn ⟨.str ⟨#[z.cps[i]]⟩,H,I1,⟨_,rfl⟩,⟨rfl,_,hx,rfl⟩,by rw[←hty];exact st',fun b hb=>(hf b hb).1⟩⟩
  cases ha:z.cps.all (· < 128)with
  | true=>
   have et:strIterType z = "str_ascii_iterator":=by unfold strIterType;rw[ha];rfl
   rw[et]at st
   exact wpAny_pyNext_ascii_item st hx fun h' st' sb=>fin _ et.symm (by decide) h' st' sb
  | false=>
   have et:strIterType z = "str_iterator":=by unfold strIterType;rw[ha];rfl
   rw[et]at st
   exact wpAny_pyNext_wide_item st hx fun h' st' sb=>fin _ et.symm (by decide) h' st' sb
 done:=by
  intro X hP hw hK hc i pins s σ H E I hf st hg
  subst hP hw hK
  have hx:z.cps[i]?=none:=Array.getElem?_eq_none hg
  obtain⟨f0,f1,f2,f3,f4,f5⟩:=hf it (by simp)
  have fin:∀h',Heap.ExtBut it s.heap h'->(none:Option Value)=none/\Inv X pins σ H { s with heap:=h' }:=fun h' eb=>⟨rfl,I.turned (t':=s.toks) (fun b o hb e=>eb b o hb e) f0 f1 f3 f4 f5⟩
  cases ha:z.cps.all (· < 128)with
  | true=>
   have et:strIterType z = "str_ascii_iterator":=by unfold strIterType;rw[ha];rfl
   rw[et]at st
   exact wpAny_pyNext_ascii_end (I.ok.hd hc) st hx fin
  | false=>
   have et:strIterType z = "str_iterator":=by unfold strIterType;rw[ha];rfl
   rw[et]at st
   exact wpAny_pyNext_wide_end (I.ok.hd hc) st hx fin
 self:=fun A i s Q E st h=>by
  cases ha:z.cps.all (· < 128)with
  | true=>
   have et:strIterType z = "str_ascii_iterator":=by unfold strIterType;rw[ha];rfl
   rw[et]at st
   exact wpAny_pyIter_striter_ascii st h
  | false=>
   have et:strIterType z = "str_iterator":=by unfold strIterType;rw[ha];rfl
   rw[et]at st
   exact wpAny_pyIter_striter_wide st h
section
variable {X:Cx} {tg:Expr}
def uT(tl:TE):TI:=fun σ H R=>tl σ H fun x H1=>∃z,x=.str z/\R (iQ z) H1
theorem BJ{l:Expr}{tl:TE}(hl:PE X l tl):PI X tg l (uT tl):=by
 intro pins s σ H R I h
 refine au (hl pins s σ H _ I h) fun v s1 ⟨x,H1,I1,r1,q1⟩=>?_
 obtain⟨z,rfl,q⟩:=q1
 obtain⟨t,rfl⟩:=r1
 refine wpAny_pyIter_strU ?_
 refine⟨s1.heap.objs.size,[s1.heap.objs.size],_,_,H1,rfl,I1.kept (t':=s1.toks) fun b o e=>EF _ e,xE z t _,⟨_,EG _ rfl,rfl,rfl⟩,fun b hb=>?_,q⟩
 have e:b=s1.heap.objs.size:=by simpa using hb
 subst e
 exact I1.fpOk (Nat.le_refl _) (I1.hok.fresh (Nat.le_refl _))
end
theorem rd_iS{te:TE}{σ:St}{H:Hp}{R:It->Hp->Prop}(h:te σ H fun x H1=>∃z,x=.str z/\R (iQ z) H1):uT te σ H R:=h
theorem wN{z:Str}{g:TG}{tb:TS}{D:Ends}{σ:St}{H:Hp}(Pv:Nat->St->Hp->Prop)(h0:Pv 0 σ H)
  (hs:∀i c σ H,z.cps[i]?=some c->Pv i σ H->g (.str ⟨#[c]⟩) σ H fun σ2 H2=>tb ⟨Pv (i+1),D.rt,D.nx,Pv (i+1)⟩ σ2 H2) (hd:∀σ H,Pv z.cps.size σ H->D.nx σ H):eQ (iQ z) g tb D σ H:=by
 refine⟨fun i m σ H=>m=z.cps.size-i/\i<=z.cps.size/\Pv i σ H,⟨_,rfl,Nat.zero_le _,h0⟩,?_⟩
 rintro i m σ H ⟨rfl,hi,p⟩
 rcases Nat.lt_or_ge i z.cps.size with l | l
 ·refine .inr ⟨l,Pv (i+1),fun σ' H' q=>⟨z.cps.size-(i+1),by omega,rfl,l,q⟩,?_⟩
  rintro x H' ⟨rfl,c,hc,rfl⟩
  exact hs i c σ H' hc p
 ·have:i=z.cps.size:=by omega
  subst this
  exact .inl ⟨l,hd σ H p⟩
section
variable {prog:Program} {w:World} {A:Around} {E:Value->Shared->Prop} {s:Shared}
end
section
variable {X:Cx} {tg:Expr}
end
end L2
namespace L2
open PySem PySem.Spec PyProof.Rows
section
variable {X:Cx}
def Eh:R2:=fun x y H Q=>∃z n,x=.str z/\y=.int n/\0<=n/\n<=1000/\z.length<=1000/\Q (.str (Txt.mul z n)) H
theorem pO:aZ X (binaryOp .Mult) Eh:=by
 intro pins s σ H x y v u Q I rx ry h
 obtain⟨z,n,rfl,rfl,n0,n1,hz,q⟩:=h
 obtain⟨t,rfl⟩:=rx
 obtain⟨t',rfl⟩:=ry
 refine SB.mul ⟨by simp;omega,fun h1 _=>?_,fun h1 _=>?_⟩ fun t' k=>⟨.str _,H,I.tok _,⟨_,rfl⟩,q⟩
 ·have:(1000:Int)<=(2 ^ 63-1) / n:=by
   rw[Int.le_ediv_iff_mul_le (by omega)]
   omega
  omega
 ·have:z.length*n.toNat<=1000*1000:=Nat.mul_le_mul hz (by omega)
  unfold Builtin.Str.tooLong
  rw[sizeLine_eq]
  simp
  omega
end
theorem qu(a b:Nat):Builtin.bitAnd (a:Int) (b:Int)=((a &&& b:Nat):Int):=by
 unfold Builtin.bitAnd
 rw[decide_eq_true (Int.natCast_nonneg a),decide_eq_true (Int.natCast_nonneg b)]
 simp
theorem zI(a b:Nat):Builtin.bitOr (a:Int) (b:Int)=((a ||| b:Nat):Int):=by
 unfold Builtin.bitOr Builtin.bitAnd
 rw[show decide (0<=Builtin.bitNot (a:Int))=false from decide_eq_false (by unfold Builtin.bitNot;omega),show decide (0<=Builtin.bitNot (b:Int))=false from decide_eq_false (by unfold Builtin.bitNot;omega)]
 have e:∀c:Nat,Builtin.bitNot (Builtin.bitNot (c:Int))=(c:Int):=fun c=>by unfold Builtin.bitNot;omega
 simp only[e,Int.toNat_natCast]
def AB(K:EE):List V->Hp->VK->Prop:=fun xs H Q=>∃(p:Addr) (bs:List Bool),xs=[.ref p]/\ag K H p (bs.map V.bl)/\Q (.bl (bs.any id)) H
theorem any_range(bs:List Bool):((List.range bs.length).any fun i=>bs.getD i false)=bs.any id:=by
 rw[Bool.eq_iff_iff,List.any_eq_true,List.any_eq_true]
 constructor
 ·rintro⟨i,hi,h⟩
  have hi':=List.mem_range.mp hi
  rw[List.getD_eq_getElem?_getD,EJ hi']at h
  exact⟨_,List.getElem_mem hi',h⟩
 ·rintro⟨b,hb,h⟩
  obtain⟨i,hi,e⟩:=List.mem_iff_getElem.mp hb
  refine⟨i,List.mem_range.mpr hi,?_⟩
  rw[List.getD_eq_getElem?_getD,EJ hi,e]
  exact h
theorem Ey{X:Cx}(K:EE)(hc:X.calm=true)(hK:X.K=K:=by rfl):bI X (.builtin "any") (AB K):=by
 subst hK
 intro pins s σ H xs us Q I r h
 obtain⟨p,bs,rfl,hq,q⟩:=h
 obtain⟨u,rfl,rx⟩:=vals1 r
 cases rx
 obtain⟨its,rv,pl,hz⟩:=I.list hq
 have eb:=nv rv
 have hne:p≠s.heap.objs.size:=Nat.ne_of_lt (by obtain⟨o,n,e,_⟩:=pl;exact EH e)
 refine call_any_walk (wpAny_pyIter_list pl.isList ?_)
 have I1:Inv X pins σ H { s with heap:=s.heap.push { cls:=.type "list_iterator",data:=.fields #[.ref p,.int 0 0] } }:=I.kept (t':=s.toks) fun b o e=>EF _ e
 have hf:=I.fpOk (H':=H) (Nat.le_refl s.heap.objs.size) I.fresh
 refine⟨s.heap.objs.size,_,_,_,_,_,(fun i=>bs.getD i false),rfl,Walks.list (A:=X.A.in1) (I.ok.hd hc) _ p hne its.toArray,⟨⟨_,EG _ rfl,rfl,rfl⟩,?_⟩,?_,fun h' tk hk=>?_⟩
 ·exact pl.isList.push _
 ·intro i v s' Q' E' hv hQ
  rw[eb]at hv
  have hv':(bs.map Value.bool)[i]?=some v:=by simpa using hv
  rw[EK]at hv'
  cases eg:bs[i]? with
  | none=>rw[eg]at hv';cases hv'
  | some b=>
   rw[eg]at hv'
   cases hv'
   have eb':bs.getD i false=b:=by rw[List.getD_eq_getElem?_getD,eg];rfl
   have hQ':Q' (bs.getD i false) s':=hQ
   rw[eb']at hQ'
   exact wpAny_truthy_bool hQ'
 ·obtain⟨f0,f1,f2,f3,f4,f5⟩:=hf
  have hl:=rv.length
  rw[EI]at hl
  refine⟨.bl (bs.any id),H,I1.turned (it:=s.heap.objs.size) (fun b o hb e=>hk b o (by simpa using hb) e) f0 f1 f3 f4 f5,?_,q⟩
  show Value.bool _=Value.bool _
  rw[EN,←hl,any_range]
end L2
namespace L2
open PySem PySem.Spec PyProof.Rows
section
variable {X:Cx}
end
section
variable {X:Cx}
end
end L2
namespace L2
open PySem PySem.Spec PyProof.Rows
section
variable {X:Cx}
end
end L2
namespace L2
open PySem PySem.Spec PyProof.Rows
section
variable {P:Program} {w:World} {K:EE} {mg:Str->Option Value} {base:Heap}
end
section
variable {X:Cx}
def Cr(K:EE):V->List V->Hp->VK->Prop:=fun x xs H Q=>∃(p:Addr) (bs:List Bool) (k:Bool) (j:Nat),x=.ref p/\xs=[.bl k]/\ag K H p (bs.map V.bl)/\bs[j]?=some k/\(∀m b,m<j->bs[m]?=some b->b≠k)/\j<2 ^ 32/\Q (.int (j:Int)) H
theorem vb{k b:Bool}:fM (.bl k) (.bool b)=(b == k):=by cases k<;>cases b<;>rfl
theorem vn:∀{bs:List Bool} {us:List Value},Vals (bs.map V.bl) us->us=bs.map Value.bool
 | [],_,r=>by cases r;rfl
 | b::bs,_,r=>by
  cases r with
  | cons r t=>
   cases r
   rw[vn t]
   rfl
theorem t9(K:EE)(hK:X.K=K:=by rfl):ic X "list.index" (Cr K):=by
 subst hK
 intro pins s σ H x xs v us Q I rx rv h
 obtain⟨p,bs,k,j,rfl,rfl,hq,hj,hno,hjs,q⟩:=h
 cases rx
 obtain⟨u,rfl,ru⟩:=rv.one
 cases ru
 obtain⟨its,r,pl,hz⟩:=I.list hq
 have ei:=vn r
 subst ei
 obtain⟨⟨cls,dd,data,sl⟩,n,ho,hc,hdd,hd⟩:=id pl
 simp only at hc hd hdd
 subst hc hd hdd
 have hjl:j<bs.length:=(List.getElem?_eq_some_iff.mp hj).1
 have hsz:j<(bs.map Value.bool).toArray.size:=by simpa using hjl
 have hget:∀m (hm:m<(bs.map Value.bool).toArray.size),∃b,bs[m]?=some b/\(bs.map Value.bool).toArray[m]=.bool b:=fun m hm=>by
  have hm':m<bs.length:=by simpa using hm
  exact⟨bs[m],EJ hm',by simp⟩
 refine call_meets PySem.F.slot_list_index ⟨_,ho,rfl⟩ PySem.F.entry_list_index (PySem.F.args_list_index_2 _ _) (SeqAt.list_indexAt p (bs.map Value.bool).toArray n none sl (.bool k) (fM (.bl k)) j hsz (by omega) ?_ ?_)
  ⟨ho,fun y hy=>lG (x:=.bl k) rfl rfl r (by rw[List.all_map,List.all_eq_true];intro x _;rfl) y (by simpa using hy),?_⟩
 ·obtain⟨b,hb,e⟩:=hget j hsz
  rw[e,vb]
  rw[hj]at hb
  cases hb
  exact beq_self_eq_true _
 ·intro m hm hmj
  obtain⟨b,hb,e⟩:=hget m hm
  rw[e,vb]
  exact beq_eq_false_iff_ne.mpr (hno m b hmj hb)
 ·exact⟨.int _,H,I.tok _,⟨_,rfl⟩,q⟩
end
end L2
namespace L2
open PySem PySem.Spec PyProof.Rows
abbrev cI(w:World):Bool:=!w.params.followText "set-order"
theorem DI(t:SetTable)(es:Array (Int×Value))(h:Int)(x:Value):(layNew t es h x).2.1.led=t.led:=by
 unfold layNew
 split
 ·show((t.put _).1.orStandIn _).led=t.led
  unfold SetTable.orStandIn
  split<;>rfl
 ·rfl
theorem Bc{mask finger moves:Nat}{led plain:Bool}{hs:Array Int}{t:SetTable}{o:Array Nat}(h:SetTable.laid mask finger moves led plain hs=some (t,o)):t.led=led/\t.plain=plain:=by
 unfold SetTable.laid at h
 cases e:SetTable.layClean mask hs with
 | none=>rw[e]at h;cases h
 | some ow=>
  rw[e]at h
  cases h
  exact⟨rfl,rfl⟩
theorem B7(t:SetTable)(es:Array (Int×Value))(n:Nat):(relayAll t es n).2.1.led=t.led/\(t.plain=false->(relayAll t es n).2.1.plain=false):=by
 unfold relayAll
 split
 ·rename_i t' o e
  have:=Bc e
  dsimp only
  split
  ·exact⟨this.1,fun h=>this.2.trans h⟩
  ·exact⟨rfl,fun _=>rfl⟩
 ·exact⟨rfl,fun _=>rfl⟩
section
variable {P:Program} {w:World} {A:Around} {E:Value->Shared->Prop} {s:Shared}
theorem u9(k:Str)(tk:Tok):(PySem.strKind P w).is k (.str k tk)=true:=by
 show Value.isStrOf k (.str k tk)=true
 simp[Value.isStrOf]
def cO(P:Program)(w:World)(h:Heap)(a:Addr)(S:Str->Bool)(n:Nat):Prop:=
 ∃o es ep t,h.get? a=some o/\o.ExactSet/\o.data=.set es ep t/\ElemsOf (PySem.strKind P w) es.toList/\(∀k,S k=true↔∃e∈es.toList,(PySem.strKind P w).is k e.2=true)/\es.size<scanBound/\t.fits es.size=true/\es.size=n/\t.led=cI w/\(t.plain=false\/es.size=0)
theorem cO.store{h:Heap}{a:Addr}{o:Obj}{es es':Array (Int×Value)}{ep:Nat}{t t':SetTable}{S':Str->Bool}(ho:h.get? a=some o)(hex:o.ExactSet)(hd:o.data=.set es ep t)
  (hel:ElemsOf (PySem.strKind P w) es'.toList) (hmem:∀k,S' k=true↔∃e∈es'.toList,(PySem.strKind P w).is k e.2=true) (hb:es'.size<scanBound) (hf:t'.fits es'.size=true) (hl:t'.led=cI w) (hp:t'.plain=false) :
  (h.update a (Obj.putSet es' t')).get? a=some { o with data:=.set es' (ep+1) t' }/\cO P w (h.update a (Obj.putSet es' t')) a S' es'.size:=by
 have hg:(h.update a (Obj.putSet es' t')).get? a=some { o with data:=.set es' (ep+1) t' }:=by
  have:=Heap.get?_update_self (Obj.putSet es' t') ho (by rw[putSet_of es' t' hd];rfl)
  rw[putSet_of es' t' hd]at this
  exact this
 exact⟨hg,_,es',ep+1,t',hg,hex,rfl,hel,hmem,hb,hf,rfl,hl,.inl hp⟩
theorem tK {g : Bool → Sem Unit} (hg : ∀ (b : Bool) (s₁ : Shared) (Q' : Unit → Shared → Prop), Q' () s₁ → wpAny (model P w) A (g b) Q' E s₁)
    {a : Addr} {o : Obj} {es es1 : Array (Int × Value)} {ep : Nat} {t t2 : SetTable} {S' : Str → Bool} (ho : s.heap.get? a = some o) (hex : o.ExactSet) (hd : o.data = .set es ep t)
    (hel1 : ElemsOf (PySem.strKind P w) es1.toList) (hmem1 : ∀ k', S' k' = true ↔ ∃ e ∈ es1.toList, (PySem.strKind P w).is k' e.2 = true) (hb1 : es1.size < scanBound) (hf2 : t2.fits es1.size = true) (hl2 : t2.led = cI w) (hp2 : t2.plain = false) {wd : Bool} {R : Option Bool → Shared → Prop}
    (h : ∀ h', Heap.SameBut a s.heap h' → cO P w h' a S' es1.size → R (some true) { s with heap := h' }) :
    wpAny (model P w) A (do
        storeSet a es1 t2
        if (!wd && t2.tooFull) = true then do
            g (relayAll t2 es1 (SetTable.grown es1.size)).2.2
            storeSet a (relayAll t2 es1 (SetTable.grown es1.size)).1 (relayAll t2 es1 (SetTable.grown es1.size)).2.1
            pure (some true)
          else pure (some true)) R E s := by
  refine EC (wpAny_storeSet_of ho hd ?_ (fits_of_scanBound hb1))
  obtain ⟨ho1, hS1⟩ := cO.store (P := P) ho hex hd hel1 hmem1 hb1 hf2 hl2 hp2
  have hsb1 := Heap.SameBut.update s.heap a (Obj.putSet es1 t2)
  split
  · have hp := relayAll_perm t2 es1 (SetTable.grown es1.size)
    have hfr := relayAll_fits t2 es1 (SetTable.grown es1.size)
    obtain ⟨l1, l2⟩ := B7 t2 es1 (SetTable.grown es1.size)
    generalize relayAll t2 es1 (SetTable.grown es1.size) = Rl at hp hfr l1 l2 ⊢
    obtain ⟨es2, t3, gave⟩ := Rl
    dsimp only at hp hfr l1 l2 ⊢
    have hsz : es2.size = es1.size := by rw [← EM, hp.length_eq, EM]
    refine EC (hg _ _ _ (EC (wpAny_storeSet_of ho1 rfl ?_ (fits_of_scanBound (by omega)))))
    obtain ⟨_, hS2⟩ := cO.store (P := P) (w := w) (S' := S') ho1 hex rfl (hel1.perm hp) (fun k' => (hmem1 k').trans ⟨fun ⟨e, he, q⟩ => ⟨e, hp.mem_iff.mpr he, q⟩, fun ⟨e, he, q⟩ => ⟨e, hp.mem_iff.mp he, q⟩⟩) (by omega) hfr (l1.trans hl2) (l2 hp2)
    rw [hsz] at hS2
    exact ED (h _ (hsb1.trans (Heap.SameBut.update _ a _)) hS2)
  · exact ED (h _ hsb1 hS1)
theorem DD{a:Addr}{S:Str->Bool}{n:Nat}{k:Str}{tk:Tok}{Q:Bool->Shared->Prop}(hS:cO P w s.heap a S n)(hroom:n+1<scanBound)
  (h:∀h' b,Heap.SameBut a s.heap h'->cO P w h' a (fun k'=>S k' || decide (k'=k)) (if S k then n else n+1)->Q b { s with heap:=h' }) :
  wpAny (model P w) A (setAddHashed a (.str k tk) ((PySem.strKind P w).hash k)) Q E s:=by
 obtain⟨o,es,ep,t,ho,hex,hd,hel,hmem,hb,hf,hn,hled,hpl⟩:=hS
 have hkey:(PySem.strKind P w).is k (.str k tk)=true:=u9 k tk
 have hsc:(Value.str k tk).scannable=true:=rfl
 unfold setAddHashed setAddHashedIn
 refine wpAny_holding (EC (wpAny_setState_of ho hd hf ?_))
 dsimp only
 rw[byScan_of hsc hb hel]
 simp only[↓reduceIte]
 unfold setAddByScan
 refine EC (EC (wpAny_rule (EC (wpAny_setScan_of hkey ho hd hf hel ?_))))
 cases hr:List.findIdx? (fun e=>(PySem.strKind P w).is k e.2) es.toList with
 | some j=>
  dsimp only
  obtain⟨hj,hpj,_⟩:=List.findIdx?_eq_some_iff_getElem.mp hr
  have hSk:S k=true:=(hmem k).mpr ⟨es.toList[j],List.getElem_mem hj,hpj⟩
  refine ED (ED ?_)
  have e:s={ s with heap:=s.heap }:=by cases s;rfl
  rw[e]
  refine h s.heap _ (Heap.SameBut.refl a s.heap) ⟨o,es,ep,t,ho,hex,hd,hel,fun k'=>?_,hb,hf,by rw[hSk];exact hn,hled,hpl⟩
  rw[Bool.or_eq_true,decide_eq_true_eq,←hmem k']
  exact⟨fun hk=>hk.elim id (fun e=>e ▸ hSk),.inl⟩
 | none=>
  dsimp only
  have hSk:S k=false:=by
   cases hk:S k with
   | false=>rfl
   | true=>
    obtain⟨e,he,hp⟩:=(hmem k).mp hk
    have:=List.findIdx?_eq_none_iff.mp hr e he
    rw[hp]at this
    cases this
  have hgw:∀(b:Bool) {s₁:Shared} {Q':Unit->Shared->Prop},Q' () s₁->wpAny (model P w) A (match b with | true=>rule "set.scan.the-table-gave-way" | false=>pure ()) Q' E s₁:=
   fun b s₁ Q' hq=>by cases b<;>first | exact ED hq | exact wpAny_rule hq
  have hperm:=layNew_perm t es ((PySem.strKind P w).hash k) (.str k tk)
  have hfits:=layNew_fits t es ((PySem.strKind P w).hash k) (.str k tk)
  have hl1:=DI t es ((PySem.strKind P w).hash k) (.str k tk)
  generalize layNew t es ((PySem.strKind P w).hash k) (.str k tk)=L at hperm hfits hl1 ⊢
  obtain⟨es1,t1,wd,gave⟩:=L
  dsimp only at hperm hfits hl1 ⊢
  rw[Array.toList_push]at hperm
  have hel1:ElemsOf (PySem.strKind P w) es1.toList:=(hel.push hkey hsc).perm hperm
  have hmem1:∀k',(S k' || decide (k'=k))=true↔∃e∈es1.toList,(PySem.strKind P w).is k' e.2=true:=mem_push_iff hkey hmem hperm
  have hsz1:es1.size=n+1:=by rw[←EM,hperm.length_eq,List.length_append,EM,hn];rfl
  refine EC (hgw _ ?_)
  have hend:∀h' b,Heap.SameBut a s.heap h'->cO P w h' a (fun k'=>S k' || decide (k'=k)) es1.size->Q b { s with heap:=h' }:=by
   intro h' b hsb hS'
   refine h h' b hsb ?_
   rw[hSk,if_neg Bool.false_ne_true,←hsz1]
   exact hS'
  by_cases htp:t1.plain=true
  ·rw[if_pos htp]
   refine EC ?_
   rw[hashByValue_scannable 8 hsc]
   refine ED ?_
   rw[show plainKind (.str k tk)=false from rfl]
   simp only[Bool.false_eq_true,if_false]
   refine tK ?_ ho hex hd hel1 hmem1 (by omega) (SetTable.fits_plain_off hfits) (hl1.trans hled) rfl ?_
   ·intro b s₁ Q' hq
    cases b<;>first | exact ED hq | exact wpAny_rule hq
   ·intro h' hsb hS'
    dsimp only
    exact ED (hend h' _ hsb hS')
  ·rw[if_neg htp]
   refine EC (ED ?_)
   simp only[if_true]
   refine tK ?_ ho hex hd hel1 hmem1 (by omega) hfits (hl1.trans hled) (by simpa using htp) ?_
   ·intro b s₁ Q' hq
    cases b<;>first | exact ED hq | exact wpAny_rule hq
   ·intro h' hsb hS'
    dsimp only
    exact ED (hend h' _ hsb hS')
end
theorem rf:∀{vs:List Value} {zs:List Str},StrsAre vs zs->∀(i:Nat) (v:Value),vs[i]?=some v->∃z t,v=.str z t/\zs[i]?=some z
 | _,_,.nil,i,v,h=>by simp at h
 | _,_,.cons z t _,0,v,h=>by cases h;exact⟨z,t,rfl,rfl⟩
 | _,_,.cons z t r,i+1,v,h=>rf r i v h
theorem zW{D ds:List Str}(hd:D.Nodup)(hs:∀k∈D,k∈ds)(hl:ds.length=D.length):ds.Perm D:=by
 induction D generalizing ds with
 | nil=>
  rw[List.length_nil,List.length_eq_zero_iff]at hl
  subst hl
  exact .refl _
 | cons d D ih=>
  have hm:=hs d EO
  have p1:=List.perm_cons_erase hm
  have hd':=List.nodup_cons.mp hd
  refine p1.trans ((ih hd'.2 (fun k hk=>?_) ?_).cons d)
  ·refine(List.mem_erase_of_ne ?_).mpr (hs k (EL _ hk))
   rintro rfl
   exact hd'.1 hk
  ·rw[List.length_erase_of_mem hm,hl]
   rfl
section
variable {P:Program} {w:World} {A:Around} {E:Value->Shared->Prop} {s:Shared}
def dz(P:Program)(w:World)(h:Heap)(a:Addr)(D:List Str):Prop:=D.Nodup/\cO P w h a (fun k=>decide (k∈D)) D.length
theorem tR:∀{l:List (Int×Value)},ElemsOf (PySem.strKind P w) l->∃ds,StrsAre (l.map (·.2)) ds/\∀e∈l,∀k,(PySem.strKind P w).is k e.2=true->k∈ds
 | [],_=>⟨[],.nil,fun e he=>by cases he⟩
 | e::l,h=>by
  obtain⟨ds,h1,h2⟩:=tR (l:=l) fun x hx=>h x (EL _ hx)
  obtain⟨⟨k,hk,_⟩,_⟩:=h e EO
  obtain⟨t,ht⟩:=Value.isStrOf_shape (x:=k) hk
  refine⟨k::ds,?_,fun x hx k' hk'=>?_⟩
  ·rw[List.map_cons,ht]
   exact .cons k t h1
  ·rcases List.mem_cons.mp hx with rfl | hx
   ·rw[ht]at hk'
    obtain⟨u,hu⟩:=Value.isStrOf_shape (x:=k') (v:=.str k t) hk'
    cases hu
    exact EO
   ·exact EL _ (h2 x hx k' hk')
theorem dz.elems{h:Heap}{a:Addr}{D:List Str}(hS:dz P w h a D):∃o es ep t ds,h.get? a=some o/\o.ExactSet/\o.data=.set es ep t/\t.fits es.size=true/\t.led=cI w/\(t.plain=false\/es.size=0)/\es.size<scanBound/\es.size=D.length/\StrsAre (es.toList.map (·.2)) ds/\ds.Perm D:=by
 obtain⟨hnd,o,es,ep,t,ho,hex,hd,hel,hmem,hb,hf,hn,hled,hpl⟩:=hS
 obtain⟨ds,h1,h2⟩:=tR hel
 refine⟨o,es,ep,t,ds,ho,hex,hd,hf,hled,hpl,hb,hn,h1,zW hnd (fun k hk=>?_) ?_⟩
 ·obtain⟨e,he,hke⟩:=(hmem k).mp (decide_eq_true hk)
  exact h2 e he k hke
 ·rw[←StrsAre.length h1,EI,EM,hn]
theorem cO.moved{h h':Heap}{a:Addr}{S:Str->Bool}{n:Nat}(hS:cO P w h a S n)(hk:∀o,h.get? a=some o->h'.get? a=some o):cO P w h' a S n:=by
 obtain⟨o,es,ep,t,ho,r⟩:=hS
 exact⟨o,es,ep,t,hk _ ho,r⟩
theorem AW{h:Heap}{a:Addr}{D:List Str}{k:Str}(hd:D.Nodup)(hS:cO P w h a (fun k'=>decide (k'∈D) || decide (k'=k)) (if decide (k∈D)then D.length else D.length+1)):∃D',dz P w h a D'/\D'.length<=D.length+1/\∀x,x∈D'↔x∈D\/x=k:=by
 by_cases hk:k∈D
 ·refine⟨D,⟨hd,?_⟩,Nat.le_succ _,fun x=>⟨.inl,fun z=>z.elim id fun e=>e ▸ hk⟩⟩
  rw[decide_eq_true hk,if_pos rfl]at hS
  have e:(fun k'=>decide (k'∈D) || decide (k'=k))=fun k'=>decide (k'∈D):=by
   funext k'
   by_cases e:k'=k
   ·subst e;simp[hk]
   ·simp[e]
  rw[e]at hS
  exact hS
 ·refine⟨k::D,⟨List.nodup_cons.mpr ⟨hk,hd⟩,?_⟩,Nat.le_refl _,fun x=>by rw[List.mem_cons];exact⟨fun z=>z.symm,fun z=>z.symm⟩⟩
  rw[decide_eq_false hk,if_neg Bool.false_ne_true]at hS
  have e:(fun k'=>decide (k'∈D) || decide (k'=k))=fun k'=>decide (k'∈k::D):=by
   funext k'
   simp only[List.mem_cons]
   by_cases e:k'=k<;>by_cases e2:k'∈D<;>simp[e,e2]
  rw[e]at hS
  exact hS
theorem DA{I:Addr}{fp wr:List Addr}{G:Array GenState->Array GenState->Prop}{n:Nat}{Pz:Nat->Value->Prop}{St:Nat->Shared->Prop}(W:WalksS P w A.in1 I fp wr G n Pz St)(S:Addr)(hS:S∉fp)(zs:List Str)(hnz:zs.length=n)(hsz:n+1<scanBound)
  (hval:∀i v,Pz i v->∃z t,v=.str z t/\zs[i]?=some z) {R:Result->Shared->Prop} :
  ∀(m i:Nat) (s:Shared) (D:List Str),n-i=m->i<=n->St i s->dz P w s.heap S D->D.length<=i->(∀k,k∈D↔k∈zs.take i) →
   (∀s' D,Moved (S::wr) G s s'->dz P w s'.heap S D->(∀k,k∈D↔k∈zs)->R (.ok (.ret .none)) s') →
   codeAny (model P w) A (.builtin "set.update.loop" ⟨[.ref S,.ref I],[]⟩) R s:=by
 have hSw:S∉wr:=fun z=>hS (W.sub _ z)
 have more:∀b∈wr,b∈S::wr:=fun b z=>EL _ z
 intro m
 induction m with
 | zero=>
  intro i s D hm hi hst hset _ hD hR
  obtain rfl:i=n:=by omega
  refine codeAny_builtin F.entry_set_update_loop ?_
  rw[Around.under_plainId F.plain_set_update_loop _]
  show wpAny _ A.in1 (pyNext (.ref I) >>= _) _ _ s
  refine EC (W.done s _ _ hst fun s' mv=>?_)
  rw[←hnz,List.take_length]at hD
  exact ED (hR s' D (mv.mono more) ⟨hset.1,hset.2.moved fun o=>mv.heap S o hSw⟩ hD)
 | succ m ih=>
  intro i s D hm hi hst hset hDl hD hR
  have hlt:i<n:=by omega
  refine codeAny_builtin F.entry_set_update_loop ?_
  rw[Around.under_plainId F.plain_set_update_loop _]
  show wpAny _ A.in1 (pyNext (.ref I) >>= _) _ _ s
  refine EC (W.item i s _ _ hlt hst fun v s' hP hst' mv=>?_)
  obtain⟨z,t,rfl,hz⟩:=hval i v hP
  have hset':cO P w s'.heap S (fun k=>decide (k∈D)) D.length:=hset.2.moved fun o=>mv.heap S o hSw
  show wpAny _ A.in1 (holding [Value.str z t] (setAdd S (.str z t)) >>= _) _ _ s'
  refine EC (wpAny_holding ?_)
  unfold setAdd
  refine wpAny_holding (EC ((PySem.strKind P w).pyHash (k:=z) (u9 z t) ?_))
  refine DD (s:={ s' with toks:=s'.toks+1 }) hset' (by omega) fun h' b sb hset2=>?_
  obtain⟨D',hD1,hD2,hD3⟩:=AW hset.1 hset2
  have htk:∀k,k∈D'↔k∈zs.take (i+1):=fun k=>by
   rw[hD3,hD k,List.take_add_one,hz,List.mem_append]
   simp
  refine ED ⟨plainId_quiet F.plain_set_update_loop _,ih (i+1) _ D' (by omega) hlt (W.frame _ s' _ _ hst' (Nat.le_succ _) fun c hc o e=>?_) hD1 (by omega) htk fun s'' D2 mv2 hS2=>hR s'' D2 (Moved.trans W.gtrans ((mv.mono more).then_heap (Nat.le_succ _) fun c o hc e=>?_) mv2) hS2⟩
  ·rw[sb.2 c (fun z:c=S=>hS (z ▸ hc))]
   exact e
  ·rw[sb.2 c (fun z:c=S=>hc (by rw[z];exact EO))]
   exact e
theorem xr(a:Value){Q₁:Value->Shared->Prop}(h:Q₁ (.ref s.heap.objs.size) { s with heap:=s.heap.push (bx (cI w)) }):
  codeAny (model P w) A (.call (.builtin "set.__new__") ⟨[.type "set",a],[]⟩) (wants Q₁ E) s:=by
 refine codeAny_of_tree ?_
 show wpAny _ A.in1 (do checkBuiltinCall "set.__new__" ⟨[.type "set",a],[]⟩;again (.builtin "set.__new__" ⟨[.type "set",a],[]⟩)) _ _ s
 refine EC (wpAny_of_eq (F.newCall_set_1 a) (ED ⟨plainId_quiet F.plain_set_new _,codeAny_builtin F.entry_set_new ?_⟩))
 rw[Around.under_plainId F.plain_set_new _]
 unfold Builtin.«set.__new__» Builtin.Frozenset.newClass
 have hsub:=sub_set_self
 obtain⟨hp,g,d,tk,os⟩:=s
 dsimp only
 wp_walk
 refine wpAny_askSetting (ED ?_)
 dsimp only
 simp only[newObj]
 refine EC (wpAny_alloc (ED ?_))
 exact ED h
theorem wF{l:Addr}{ys:Array Value}{zs:List Str}{Q:Value->Shared->Prop}(hA:A.handled=none)(gt:s.heap.IsList l ys)(hz:StrsAre ys.toList zs)(hsz:ys.size+1<scanBound)
  (h:∀(h':Heap) (tk:Nat) (D:List Str),dz P w h' s.heap.objs.size D->(∀k,k∈D↔k∈zs)->(∀b o,b<s.heap.objs.size->s.heap.get? b=some o->h'.get? b=some o)->Q (.ref s.heap.objs.size) { s with heap:=h',toks:=tk }):wpAny (model P w) A (call (.type "set") [.ref l]) Q E s:=by
 have x1:=F.called_set.notType
 have x2:=F.called_set.canCreate
 have x3:=F.typeCall_set_1 (.ref l)
 have x4:=F.called_set.made
 have x5:=F.called_set.sub
 obtain⟨c,tl,x6⟩:=F.called_set.mro
 refine wpAny_call (codeAny_of_tree ?_)
 show wpAny _ _ (callAny (.type "set") _) _ _ _
 refine ED ⟨Code.quiet_builtin _ (by decide +kernel),codeAny_builtin F.entry_type_call ?_⟩
 rw[Around.under_plain (weight_type_call_type "set" [.ref l] []) rfl]
 repeat (any_goals (first | assumption | wp_step))
 refine codeAny_mono (xr (.ref l) (E:=E) (Q₁:=fun v s1=>v=.ref s.heap.objs.size/\s1={ s with heap:=s.heap.push (bx (cI w)) }) ⟨rfl,rfl⟩) fun r s1 hr=>?_
 cases r with
 | error e=>exact hr
 | ok fl=>
  cases fl with
  | ret v=>
   obtain⟨rfl,rfl⟩:=hr
   have gS:(s.heap.push (bx (cI w))).get? s.heap.objs.size=some (bx (cI w)):=EG _ rfl
   have hT:Shared.TypeIs { s with heap:=s.heap.push (bx (cI w)) } (.ref s.heap.objs.size) "set":=⟨_,gS,rfl⟩
   have x7:=F.called_set.init.lookup
   have x8:=F.called_set.init.bind (.ref s.heap.objs.size)
   repeat (any_goals (first | assumption | wp_step))
   refine codeAny_mono (codeAny_call_builtin (R:=wants (fun r s2=>r=.none/\∃h' tk D,s2={ s with heap:=h',toks:=tk }/\dz P w h' s.heap.objs.size D/\(∀k,k∈D↔k∈zs)/\∀b o,b<s.heap.objs.size->s.heap.get? b=some o->h'.get? b=some o) E) F.called_set.init.plain F.entry_set_init (check_set_init_1 hT ?_)) fun r2 s2 hr2=>?_
   ·have g1:(s.heap.push (bx (cI w))).IsList l ys:=gt.push _
    have hlt:l<s.heap.objs.size:=by
     obtain⟨o,ho,_⟩:=gt
     exact EH ho
    obtain⟨ol,hol,hcl,nl,hdl⟩:=id g1
    obtain⟨c0,d0,dt,sl⟩:=ol
    simp only at hcl hdl
    subst hcl hdl
    have y1:=F.sub_list_set
    have y2:=F.sub_list_frozenset
    have y3:(Value.type "list" == Value.type "dict")=false:=by decide
    unfold Builtin.«set.__init__» noKeywords Builtin.Frozenset.updateFrom
    generalize hit:pyIter=PI
    wp_walk
    subst hit
    refine wpAny_pyIter_list g1 ?_
    refine EC (wpAny_runValue ?_)
    have e1:(s.heap.push (bx (cI w))).objs.size=s.heap.objs.size+1:=Heap.size_push _ _
    have hA3:A.in1.in1.in1.handled=none:=by simp[hA]
    have hne:l≠(s.heap.push (bx (cI w))).objs.size:=by
     rw[e1]
     exact Nat.ne_of_lt (Nat.lt_succ_of_lt hlt)
    have hSf:s.heap.objs.size∉[(s.heap.push (bx (cI w))).objs.size,l]:=by
     intro z
     rcases List.mem_cons.mp z with z | z
     ·rw[e1]at z
      exact Nat.ne_of_lt (Nat.lt_succ_self _) z
     ·exact Nat.ne_of_gt hlt (List.mem_singleton.mp z)
    have hzl:zs.length=ys.size:=by rw[←StrsAre.length hz,EM]
    refine DA ((Walks.list hA3 _ l hne ys).toS) s.heap.objs.size hSf zs hzl hsz (fun i v hv=>?_) (ys.size-0) 0 _ [] (by omega) (Nat.zero_le _) ⟨⟨_,EG _ rfl,rfl,rfl⟩,g1.push _⟩
     ⟨List.nodup_nil,bx (cI w),#[],0,_,EF _ gS,⟨rfl,rfl,rfl⟩,rfl,fun e he=>by simp at he,fun k=>by simp,by decide,by rfl,rfl,rfl,.inr rfl⟩ (Nat.le_refl _) (fun k=>by simp) fun s' D mv hS' hD=>?_
    ·exact rf hz i v (by rw[Array.getElem?_toList];exact hv)
    ·obtain⟨h',g',d',tk',os'⟩:=s'
     have q1:g'=s.gens:=mv.gens
     have q2:d'=s.drawn:=mv.drawn
     have q3:os'=s.os:=mv.os
     subst q1 q2 q3
     show wpAny _ _ _ _ _ _
     refine ED ?_
     show wpAny _ _ (ret Value.none) _ _ _
     refine ED ⟨rfl,h',tk',D,rfl,hS',hD,fun b o hb e=>mv.heap b o (fun z=>?_) (EF _ (EF _ e))⟩
     rcases List.mem_cons.mp z with z | z
     ·exact Nat.ne_of_lt hb z
     ·have z:=List.mem_singleton.mp z
      rw[e1]at z
      exact Nat.ne_of_lt (Nat.lt_succ_of_lt hb) z
   ·cases r2 with
    | error e=>exact hr2
    | ok f2=>
     cases f2 with
     | ret r=>
      obtain⟨rfl,h',tk,D,rfl,hS',hD,hk⟩:=hr2
      repeat (any_goals (first | assumption | wp_step))
      exact h _ _ D hS' hD hk
     | _=>exact hr2.elim
  | _=>exact hr.elim
end
end L2
namespace L2
open PySem PySem.Spec PyProof.Rows
section
variable {P:Program} {w:World} {A:Around} {E:Value->Shared->Prop} {s:Shared}
theorem Es(j:Nat):SetTable.below #[j] 0=0:=by
 unfold SetTable.below
 show SetTable.below.go #[j] 0 1 0 1=0
 unfold SetTable.below.go
 rw[if_pos (by decide)]
 show(if(#[j]:Array Nat).getD 0 0<0 then _ else _)=0
 rw[if_neg (Nat.not_lt_zero _)]
 rfl
theorem Bb(j:Nat):SetTable.below #[j] (j+1)=1:=by
 unfold SetTable.below
 show SetTable.below.go #[j] (j+1) 1 0 1=1
 unfold SetTable.below.go
 rw[if_pos (by decide)]
 show(if(#[j]:Array Nat).getD 0 (j+1)<j+1 then _ else _)=1
 rw[if_pos (show(#[j]:Array Nat).getD 0 (j+1)<j+1 from Nat.lt_succ_self j)]
 rfl
theorem sV{xs:Array Nat}(h:xs.size=1):∃j,xs = #[j]:=by
 refine⟨xs[0],?_⟩
 apply Array.ext
 ·simp[h]
 ·intro i h1 h2
  have:i=0:=by simp at h2;exact h2
  subst this
  rfl
theorem zO{xs:Array Nat}(h:xs.size=1){j:Nat}(hj:xs[0]?=some j):SetTable.below xs (j+1)=1:=by
 obtain⟨k,rfl⟩:=sV h
 cases hj
 exact Bb _
theorem y8{xs:Array Nat}(h:xs.size<=1):SetTable.below xs 0=0:=by
 by_cases h0:xs.size=0
 ·rw[Array.eq_empty_of_size_eq_zero h0]
  rfl
 ·obtain⟨k,rfl⟩:=sV (show xs.size=1 by omega)
  exact Es _
theorem Df{it a:Addr}{i ep slot:Nat}{o:Obj}{es:Array (Int×Value)}{t:SetTable}{Q:Option Value->Shared->Prop}(hT:w.params.followText "set-order" = false)(hit:s.heap.get? it=some (aO a (rawInt (slot:Int)) i es.size ep))(ho:s.heap.get? a=some o)(hd:o.data=.set es ep t)(hf:t.fits es.size=true)(h1:es.size<=1)(hl:t.led=true)
  {x:Int×Value} {j:Nat} (hx:es[SetTable.below t.place slot]?=some x) (hj:t.place[SetTable.below t.place slot]?=some j) (hQ:∀h',h'.get? it=some (aO a (rawInt ((j+1:Nat):Int)) (i+1) es.size ep)->Heap.SameBut it s.heap h'->Q (some x.2) { s with heap:=h' }):wpAny (model P w) A (pyNext (.ref it)) Q E s:=by
 have T:s.TypeIs (.ref it) "set_iterator":=⟨_,hit,rfl⟩
 unfold pyNext
 refine EC (wpAny_attempt (wpAny_callSpecial?_slot (name:=Str.ofString "__next__") T SF.slot_next (wpAny_call_entry SF.slot_next T SF.entry_next ?_ (SF.args_next _))))
 show wpAny _ _ (fieldsOf (.ref it) >>= _) _ _ s
 refine EC (wpAny_fieldsOf hit rfl ?_)
 show wpAny _ _ (setEntries a >>= _) _ _ s
 unfold setEntries
 refine EC (EC (wpAny_setState_of ho hd hf (ED ?_)))
 rw[if_neg (by simp)]
 show wpAny _ _ (setNext a slot _ _ >>= _) _ _ s
 unfold setNext
 refine EC (EC (wpAny_setState_of ho hd hf ?_))
 dsimp only
 unfold setsByText
 refine EC (EC (wpAny_askSetting (ED ?_)))
 rw[show (model P w).w.params.followText "set-order" = false from hT]
 simp only[Bool.false_eq_true,if_false]
 have hdr:¬((!t.plain && decide (es.size>1))=true):=by
  rw[decide_eq_false (by omega),Bool.and_false]
  exact Bool.false_ne_true
 split
 ·rename_i hh
  exact absurd hh hdr
 ·refine EC ?_
  show wpAny _ _ (if(!t.led && !es.isEmpty)=true then unsupported _ else pure ()) _ _ _
  rw[if_neg (by rw[hl];exact Bool.false_ne_true)]
  refine ED (ED ?_)
  rw[hx,hj]
  dsimp only
  refine EC (wpAny_setField hit rfl (by simp) ?_)
  have e1':(s.heap.update it (Obj.mapFields (·.setIfInBounds 0 (rawInt ((j+1:Nat):Int))))).get? it=some (aO a (rawInt ((j+1:Nat):Int)) i es.size ep):=gR (k:=0) (x:=rawInt ((j+1:Nat):Int)) hit rfl
  refine EC (wpAny_setField (s:={ s with heap:=s.heap.update it (Obj.mapFields (·.setIfInBounds 0 (rawInt ((j+1:Nat):Int)))) }) e1' rfl (by simp) ?_)
  have e2:=gR (k:=1) (x:=rawInt ((i:Int)+1)) e1' rfl
  refine ED ⟨_,rfl,ED (hQ _ ?_ ((Heap.SameBut.update ..).trans (Heap.SameBut.update ..)))⟩
  exact e2
theorem BG{it a:Addr}{i ep slot:Nat}{o:Obj}{es:Array (Int×Value)}{t:SetTable}{Q:Option Value->Shared->Prop}(hh:A.handled=none)(hT:w.params.followText "set-order" = false)(hit:s.heap.get? it=some (aO a (rawInt (slot:Int)) i es.size ep))(ho:s.heap.get? a=some o)(hd:o.data=.set es ep t)(hf:t.fits es.size=true)(h1:es.size<=1)(hl:t.led=true)
  (hx:es[SetTable.below t.place slot]?=none) (hQ:∀h',Heap.ExtBut it s.heap h'->Q none { s with heap:=h' }):wpAny (model P w) A (pyNext (.ref it)) Q E s:=by
 have T:s.TypeIs (.ref it) "set_iterator":=⟨_,hit,rfl⟩
 unfold pyNext
 refine EC (wpAny_attempt (wpAny_callSpecial?_slot (name:=Str.ofString "__next__") T SF.slot_next (wpAny_call_entry SF.slot_next T SF.entry_next ?_ (SF.args_next _))))
 show wpAny _ _ (fieldsOf (.ref it) >>= _) _ _ s
 refine EC (wpAny_fieldsOf hit rfl ?_)
 show wpAny _ _ (setEntries a >>= _) _ _ s
 unfold setEntries
 refine EC (EC (wpAny_setState_of ho hd hf (ED ?_)))
 rw[if_neg (by simp)]
 show wpAny _ _ (setNext a slot _ _ >>= _) _ _ s
 unfold setNext
 refine EC (EC (wpAny_setState_of ho hd hf ?_))
 dsimp only
 unfold setsByText
 refine EC (EC (wpAny_askSetting (ED ?_)))
 rw[show (model P w).w.params.followText "set-order" = false from hT]
 simp only[Bool.false_eq_true,if_false]
 have hdr:¬((!t.plain && decide (es.size>1))=true):=by
  rw[decide_eq_false (by omega),Bool.and_false]
  exact Bool.false_ne_true
 split
 ·rename_i hh
  exact absurd hh hdr
 ·refine EC ?_
  show wpAny _ _ (if(!t.led && !es.isEmpty)=true then unsupported _ else pure ()) _ _ _
  rw[if_neg (by rw[hl];exact Bool.false_ne_true)]
  refine ED (ED ?_)
  rw[hx]
  dsimp only
  refine EC (wpAny_setField hit rfl (by simp) ?_)
  exact mG (s:=s) (it:=it) hh (Heap.SameBut.update ..).extBut hQ
theorem Bf(hh:A.handled=none)(hT:w.params.followText "set-order" = false)(I a:Addr)(hne:a≠I){o:Obj}{es:Array (Int×Value)}{ep:Nat}{t:SetTable}(hd:o.data=.set es ep t)(hf:t.fits es.size=true)(h1:es.size<=1)(hl:t.led=true)(hp:t.place.size=es.size):
  Walks P w A I [I,a] [I] es.size (fun i v=>∃x,es[i]?=some x/\v=x.2) (fun i h=>(∃slot:Nat,h.get? I=some (aO a (rawInt (slot:Int)) i es.size ep)/\SetTable.below t.place slot=i)/\h.get? a=some o) where
 sub:=fun b hb=>by simp at hb;simp[hb]
 frame:=fun _ _ _ st hk=>by
  obtain⟨⟨slot,h1,h2⟩,h3⟩:=st
  exact⟨⟨slot,hk I (by simp) _ h1,h2⟩,hk a (by simp) _ h3⟩
 item:=fun i s Q E hi st hQ=>by
  obtain⟨⟨slot,q1,q2⟩,q3⟩:=st
  have hi0:i=0:=by omega
  subst hi0
  have hx:=getElem?_pos es 0 hi
  have hj:=getElem?_pos t.place 0 (by omega)
  refine Df hT q1 q3 hd hf h1 hl (by rw[q2];exact hx) (by rw[q2];exact hj) fun h' hit' sb=>?_
  refine hQ _ h' s.toks ⟨_,hx,rfl⟩ ⟨⟨_,hit',?_⟩,(sb.2 a hne).trans q3⟩ fun b o hb e=>sb.extBut b o (fun h=>hb (by simp[h])) e
  exact zO (by omega) hj
 done:=fun s Q E st hQ=>by
  obtain⟨⟨slot,q1,q2⟩,q3⟩:=st
  exact BG hh hT q1 q3 hd hf h1 hl (by rw[q2];exact Array.getElem?_eq_none (Nat.le_refl _)) fun h' he'=>hQ h' s.toks fun b o hb e=>he' b o (fun h=>hb (by simp[h])) e
 self:=fun i s Q E st hQ=>by
  obtain⟨⟨slot,q1,q2⟩,q3⟩:=st
  exact mr q1 hQ
theorem CG{a:Addr}{o:Obj}{es:Array (Int×Value)}{ep:Nat}{t:SetTable}{Q:Value->Shared->Prop}(ho:s.heap.get? a=some o)(hex:o.ExactSet)(hd:o.data=.set es ep t)(hf:t.fits es.size=true)(h1:es.size<=1)
  (hT:Q (.ref s.heap.objs.size) { s with heap:=s.heap.push (aO a (rawInt 0) 0 es.size ep) }) :
  wpAny (model P w) A (pyIter (.ref a)) Q E s:=by
 have T:s.TypeIs (.ref a) "set":=⟨o,ho,hex.1⟩
 refine wpAny_pyIter_slot T F.slot_set_iter (wpAny_call_entry F.slot_set_iter T SF.rW ?_ (SF.qk _))
 show wpAny _ _ (Builtin.Frozenset.sizeOf a >>= _) _ _ s
 unfold Builtin.Frozenset.sizeOf setEntries
 refine EC (EC (EC (wpAny_setState_of ho hd hf (ED (ED ?_)))))
 show wpAny _ _ (setDrawn a >>= _) _ _ s
 unfold setDrawn
 refine EC (EC (wpAny_setState_of ho hd hf ?_))
 dsimp only
 unfold setsByText
 refine EC (EC (wpAny_askSetting (ED (ED ?_))))
 rw[if_neg (by
  show ¬(!(w.params.followText "set-order") && (!t.plain && decide (es.size>1)))=true
  rw[decide_eq_false (by omega)]
  simp)]
 refine EC (ED ?_)
 unfold setEpoch
 refine EC (EC (wpAny_setState_of ho hd hf (ED ?_)))
 simp only[newFields]
 refine EC (wpAny_newObj_type (ED ⟨_,rfl,"set_iterator",_,⟨_,EG _ rfl,rfl⟩,SF.slot_next.lookup,?_⟩) (by size_fits))
 exact hT
theorem BL{a:Addr}{o:Obj}{es:Array (Int×Value)}{ep:Nat}{t:SetTable}{Q:List Value->Shared->Prop}(hA:A.handled=none)(ho:s.heap.get? a=some o)(hex:o.ExactSet)(hd:o.data=.set es ep t)(hf:t.fits es.size=true)(h1:es.size<=1)(hled:t.led=cI w)(hp:t.place.size=es.size)
  (hQ:∀(h':Heap) (tk:Nat) d (vs:List Value),vs.Perm (es.toList.map (·.2))->s.toks<=tk->s.heap.objs.size<h'.objs.size->(∀b o,b<s.heap.objs.size->s.heap.get? b=some o->h'.get? b=some o)->Q vs { s with heap:=h',toks:=tk,drawn:=d }):wpAny (model P w) A (collect (.ref a)) Q E s:=by
 have hsz:es.size<=sizeLine:=Nat.le_trans h1 (by decide)
 have hlt:a<s.heap.objs.size:=EH ho
 obtain⟨Pz,St,hW,hSt,hPm⟩:∃(Pz:Nat->Value->Prop) (St:Addr->Nat->Heap->Prop),(∀I,a≠I->Walks P w A.in1.in1 I [I,a] [I] es.size Pz (St I))/\(∀I h,h.get? I=some (aO a (rawInt 0) 0 es.size ep)->h.get? a=some o->St I 0 h)/\∀acc:Array Value,acc.size=es.size->(∀i v,acc[i]?=some v->Pz i v)->acc.toList.Perm (es.toList.map (·.2)):=by
  cases hq:w.params.followText "set-order" with
  | true=>
   refine⟨_,_,fun I hI=>r9 (by simp[hA]) hq I a hI hd hf,fun I h h1 h2=>⟨h1,h2⟩,fun acc hacc1 hacc2=>?_⟩
   refine List.Perm.trans (List.Perm.of_eq ?_) ((gF (w.params.setOrder a ep) es).map (·.2))
   have hl:(pickOrder (w.params.setOrder a ep) es).size=es.size:=by
    rw[←EM,(gF _ es).length_eq,EM]
   apply List.ext_getElem
   ·rw[EM,EI,EM,hacc1,hl]
   ·intro i q1 q2
    rw[EM]at q1
    obtain⟨x,hx,hv⟩:=hacc2 i acc[i] (getElem?_pos acc i q1)
    rw[Array.getElem_toList,hv,List.getElem_map,Array.getElem_toList]
    obtain⟨_,e⟩:=Array.getElem?_eq_some_iff.mp hx
    rw[e]
  | false=>
   have hl:t.led=true:=by
    rw[hled]
    show(!w.params.followText "set-order")=true
    rw[hq]
    rfl
   refine⟨_,_,fun I hI=>Bf (by simp[hA]) hq I a hI hd hf h1 hl hp,fun I h q1 q2=>⟨⟨0,q1,?_⟩,q2⟩,fun acc hacc1 hacc2=>List.Perm.of_eq ?_⟩
   ·exact y8 (by omega)
   ·apply List.ext_getElem
    ·rw[EM,EI,EM,hacc1]
    ·intro i q1 q2
     rw[EM]at q1
     obtain⟨x,hx,hv⟩:=hacc2 i acc[i] (getElem?_pos acc i q1)
     rw[Array.getElem_toList,hv,List.getElem_map,Array.getElem_toList]
     obtain⟨_,e⟩:=Array.getElem?_eq_some_iff.mp hx
     rw[e]
 unfold collect
 refine EC (wpAny_runValue (codeAny_builtin F.entry_proto_collect ?_))
 rw[Around.under_plainId F.plain_proto_collect _]
 show wpAny _ A.in1 (newList [] >>= fun l=>again (.builtin "list.__iadd__" ⟨[l,.ref a],[]⟩)) _ _ s
 refine EC (wpAny_newObj_type ?_)
 refine ED ⟨plainId_quiet F.plain_list_iadd _,codeAny_builtin F.entry_list_iadd ?_⟩
 rw[Around.under_plainId F.plain_list_iadd _]
 show wpAny _ A.in1 (Builtin.List.listExtendWith (.ref s.heap.objs.size) (.ref a) (.ref s.heap.objs.size)) _ _ { s with heap:=s.heap.push (seqObj "list" #[] 0) }
 unfold Builtin.List.listExtendWith
 have ho1:(s.heap.push (seqObj "list" #[] 0)).get? a=some o:=EF _ ho
 have hs1:(s.heap.push (seqObj "list" #[] 0)).objs.size=s.heap.objs.size+1:=Heap.size_push _ _
 refine EC (wpAny_typeOf (T:="set") ⟨o,ho1,hex.1⟩ ?_)
 have q1:Builtin.List.listSameRef (.ref s.heap.objs.size) (.ref a)=false:=by
  have:s.heap.objs.size≠a:=Nat.ne_of_gt hlt
  simp[Builtin.List.listSameRef,this]
 have q2:(Value.type "set" == Value.type "list")=false:=by decide
 have q3:(Value.type "set" == Value.type "tuple")=false:=by decide
 simp only[q1,q2,q3,Bool.or_false,Bool.false_eq_true,if_false]
 refine EC (CG (s:={ s with heap:=s.heap.push (seqObj "list" #[] 0) }) ho1 hex hd hf h1 ?_)
 have hneI:a≠(s.heap.push (seqObj "list" #[] 0)).objs.size:=by
  rw[hs1]
  exact Nat.ne_of_lt (Nat.lt_succ_of_lt hlt)
 refine EC (wpAny_holding (n5 (s:={ s with heap:=(s.heap.push (seqObj "list" #[] 0)).push (aO a (rawInt 0) 0 es.size ep),drawn:=s.drawn }) ⟨o,EF _ ho1,hex.1⟩ ?_))
 rw[if_pos (by first | rfl | decide +kernel | kernel_rfl)]
 refine EC (wpAny_rule ?_)
 have hS₁:((s.heap.push (seqObj "list" #[] 0)).push (aO a (rawInt 0) 0 es.size ep)).get? s.heap.objs.size=some (seqObj "list" #[] 0):=EF _ (EG _ rfl)
 refine EC ?_
 show wpAny _ A.in1 (updateSeq s.heap.objs.size (·.push .none) >>= fun _=>updateSeq s.heap.objs.size (·.pop)) _ _ { s with heap:=(s.heap.push (seqObj "list" #[] 0)).push (aO a (rawInt 0) 0 es.size ep),drawn:=s.drawn }
 refine EC (wpAny_updateSeq hS₁ rfl ?_)
 have hS₂:=Heap.get?_update_self (Obj.mapSeq (·.push Value.none)) hS₁ rfl
 refine wpAny_updateSeq (s:={ s with heap:=((s.heap.push (seqObj "list" #[] 0)).push (aO a (rawInt 0) 0 es.size ep)).update s.heap.objs.size (Obj.mapSeq (·.push Value.none)),drawn:=s.drawn }) hS₂ rfl ?_
 have hS₃:=Heap.get?_update_self (Obj.mapSeq (·.pop)) hS₂ rfl
 have oth:∀b o,b≠s.heap.objs.size->((s.heap.push (seqObj "list" #[] 0)).push (aO a (rawInt 0) 0 es.size ep)).get? b=some o →
   ((((s.heap.push (seqObj "list" #[] 0)).push (aO a (rawInt 0) 0 es.size ep)).update s.heap.objs.size (Obj.mapSeq (·.push Value.none))).update s.heap.objs.size (Obj.mapSeq (·.pop))).get? b=some o:=
  fun b o hb e=>(Heap.get?_update_other _ _ (Ne.symm hb)).trans ((Heap.get?_update_other _ _ (Ne.symm hb)).trans e)
 refine ED ⟨plainId_quiet F.plain_extend_loop _,codeAny_extend_loopS (hW _ hneI).of_in1.toS hsz _ (by rw[hs1];simp only[List.mem_cons,List.not_mem_nil,or_false,not_or];exact⟨Nat.ne_of_lt (Nat.lt_succ_self _),Nat.ne_of_gt hlt⟩) _ es.size 0 { s with heap:=(((s.heap.push (seqObj "list" #[] 0)).push (aO a (rawInt 0) 0 es.size ep)).update s.heap.objs.size (Obj.mapSeq (·.push Value.none))).update s.heap.objs.size (Obj.mapSeq (·.pop)),drawn:=s.drawn } _ _ rfl (Nat.zero_le _)
  (hSt _ _ (oth _ _ (by rw[hs1];exact Nat.succ_ne_self _) (EG _ rfl)) (oth _ _ (Nat.ne_of_lt hlt) (EF _ ho1))) hS₃ (ItemsOf.nil _) fun s' acc' c' hm hS' hacc=>?_⟩
 show wpAny _ A (load s.heap.objs.size >>= _) _ _ s'
 refine EC (wpAny_load hS' ?_)
 obtain⟨h',g',d',tk',os'⟩:=s'
 have z1:g'=s.gens:=hm.gens
 have z2:d'=s.drawn:=hm.drawn
 have z3:os'=s.os:=hm.os
 subst z1 z2 z3
 refine ED (hQ h' tk' _ _ (hPm acc' hacc.1 hacc.2) hm.toks (EH hS') fun b o' hb e=>hm.heap b o' (fun z=>?_) (oth b o' (Nat.ne_of_lt hb) ?_))
 ·rcases List.mem_cons.mp z with z | z
  ·exact Nat.ne_of_lt hb z
  ·have z:=List.mem_singleton.mp z
   rw[z]at hb
   exact absurd hb (by rw[hs1];exact Nat.not_lt.mpr (by exact Nat.le_succ _))
 ·exact EF _ (EF _ e)
theorem zT{a:Addr}{D:List Str}{Q:List Value->Shared->Prop}(hA:A.handled=none)(hS:dz P w s.heap a D)
  (hQ:∀(h':Heap) (tk:Nat) d (vs:List Value) (ds:List Str),StrsAre vs ds->ds.Perm D->s.toks<=tk->s.heap.objs.size<h'.objs.size->(∀b o,b<s.heap.objs.size->s.heap.get? b=some o->h'.get? b=some o)->Q vs { s with heap:=h',toks:=tk,drawn:=d }):wpAny (model P w) A (collect (.ref a)) Q E s:=by
 obtain⟨o,es,ep,t,ds,ho,hex,hd,hf,hled,hpl,hb,hn,hs,hpm⟩:=hS.elems
 have key:∀(h':Heap) (tk:Nat) d (vs:List Value),vs.Perm (es.toList.map (·.2))->s.toks<=tk->s.heap.objs.size<h'.objs.size->(∀b o,b<s.heap.objs.size->s.heap.get? b=some o->h'.get? b=some o)->Q vs { s with heap:=h',toks:=tk,drawn:=d }:=fun h' tk d vs hv q1 q2 q3=>by
  have hst:StrsAre vs (vs.map strOf):=strsAre_map vs fun v hv'=>hs.all v (hv.mem_iff.mp hv')
  refine hQ h' tk d vs _ hst ?_ q1 q2 q3
  refine((hv.map strOf).trans (List.Perm.of_eq ?_)).trans hpm
  exact hs.strs
 by_cases h1:es.size<=1
 ·have hp:t.place.size=es.size:=by
   simp only[SetTable.fits,Bool.and_eq_true,beq_iff_eq,decide_eq_true_eq]at hf
   exact hf.1
  exact BL hA ho hex hd hf h1 hled hp key
 ·have hpl':t.plain=false:=hpl.resolve_right (by omega)
  exact Et hA ho hex hd hf hpl' (by omega) (Nat.le_trans (Nat.le_of_lt hb) (by decide)) key
theorem Eo{a:Addr}{D:List Str}{Q:Value->Shared->Prop}(hA:A.handled=none)(hS:dz P w s.heap a D)(h64:D.length<64)
  (h:∀(h':Heap) (tk:Nat) d (l:Addr) (vs:List Value) (ss:List Str),s.heap.objs.size<=l->(∃e,h'.get? l=some (seqObj "list" vs.toArray e))->StrsAre vs ss->ss.Perm D->sortedS ss=true->s.toks<=tk →
   (∀b o,b<s.heap.objs.size->s.heap.get? b=some o->h'.get? b=some o)->Q (.ref l) { s with heap:=h',toks:=tk,drawn:=d }) :
  wpAny (model P w) A (call (.builtin "sorted") [.ref a]) Q E s:=by
 refine Calls.call_function_entry kind_sorted plain_sorted entry_sorted (args_sorted1 _) ?_
 unfold Builtin.«sorted»
 refine EC (m:=checkCount "sorted" 1 1 _) (ED ?_)
 refine EC (zT (by simp[hA]) hS fun h1 tk d vs ds hst hpm htk hsz1 hk1=>?_)
 have hvl:vs.length=D.length:=by rw[StrsAre.length hst,hpm.length_eq]
 refine EC (wpAny_newList ?_ (Nat.le_trans (show vs.length<=64 by omega) (by decide)))
 have hoL:(h1.push (seqObj "list" vs.toArray 0)).get? h1.objs.size=some (seqObj "list" vs.toArray 0):=EG _ rfl
 refine EC (wpAny_holding (wpAny_call_entry slot_list_sort ⟨_,hoL,rfl⟩ entry_list_sort (list_sort_treeK (s:={ s with heap:=h1.push (seqObj "list" vs.toArray 0),toks:=tk,drawn:=d }) PyProof.Rows.strKind_oneLt hoL hst.keysOf (fun v₁ v₂ rest e=>keyKind_strs (by rw[←e];exact hst)) (by omega) fun st' hp hs=>⟨_,rfl,?_⟩) (args_list_sort _)))
 refine ED ⟨_,rfl,?_⟩
 obtain⟨ss',q1,q2,q3⟩:=sorted_out_str hst hp hs
 refine h _ tk d h1.objs.size ((arrOf st').map (·.2)).toList ss' (Nat.le_of_lt hsz1) ?_ q1 (q2.trans hpm) q3 htk fun b o' hb e=>?_
 ·obtain⟨e1,r1⟩:∃e1,((h1.push (seqObj "list" vs.toArray 0)).update h1.objs.size (Obj.mapSeq fun _=>#[])).get? h1.objs.size=some (seqObj "list" #[] e1):=⟨_,get?_update_seq hoL (fun _=>#[])⟩
  have r2:(((((h1.push (seqObj "list" vs.toArray 0)).update h1.objs.size (Obj.mapSeq fun _=>#[])).push (seqObj "tuple" vs.toArray 0)).push (seqObj "list" #[] 0))).get? h1.objs.size=some (seqObj "list" #[] e1):=EF _ (EF _ r1)
  have r3:=get?_update_seq r2 (fun _=>(arrOf st').map (·.2))
  exact⟨_,by rw[Array.toArray_toList];exact r3⟩
 ·have hb1:b<h1.objs.size:=Nat.lt_trans hb hsz1
  have e1:=hk1 b o' hb e
  unfold sortedHeap
  refine(Heap.get?_update_other _ _ (Nat.ne_of_gt hb1)).trans (EF _ (EF _ ((Heap.get?_update_other _ _ (Nat.ne_of_gt hb1)).trans (EF _ e1))))
end
end L2
namespace L2
open PySem PySem.Spec PyProof.Rows
def jm(P:Program)(w:World)(a:Addr)(D:List Str):HO:=.ext fun h=>dz P w h a D
theorem A9{P:Program}{w:World}{H:Hp}{h:Heap}{a:Addr}{D:List Str}(S:dz P w h a D):bp P w H h a (jm P w a D):=by
 refine⟨S,?_,fun h1 h2 z k=>?_⟩
 ·obtain⟨_,o,es,ep,t,ho,_⟩:=S
  exact⟨o,ho⟩
 ·exact⟨z.1,z.2.moved k⟩
theorem ot:∀{zs:List Str} {us:List Value},Vals (zs.map V.str) us->StrsAre us zs
 | [],_,.nil=>.nil
 | z::zs,_,.cons r t=>by
  obtain⟨tk,rfl⟩:=r
  exact .cons z tk (ot (zs:=zs) t)
theorem v8:∀{us:List Value} {zs:List Str},StrsAre us zs->Vals (zs.map V.str) us
 | _,_,.nil=>.nil
 | _,_,.cons z t r=>.cons ⟨t,rfl⟩ (v8 r)
section
variable {X:Cx} {pins:List (Addr×Obj)} {σ:St} {H:Hp} {s:Shared}
end
section
variable {X:Cx}
def Br(P:Program)(w:World):List V->Hp->VK->Prop:=fun xs H Q=>∃p zs,xs=[.ref p]/\H p=some (.lst (List.map V.str zs))/\zs.length<=4000 ∧
 ∀l D,H l=none->D.Nodup->(∀z,z∈D↔z∈zs)->Q (.ref l) (upd H l (jm P w l D))
theorem zN{k:Nat}(hr:Room k X.A):bI X (.type "set") (Br X.prog X.w):=by
 intro pins s σ H xs us Q I r h
 obtain⟨p,zs,rfl,hp,hz,q⟩:=h
 obtain⟨u,rfl,rx⟩:=vals1 r
 cases rx
 obtain⟨_,its,n,rv,gt⟩:=I.hok p _ hp
 have hst:=ot rv
 have hl:its.length=zs.length:=StrsAre.length hst
 refine wF hr.hd (ys:=its.toArray) (zs:=zs) (show s.heap.IsList p _ from⟨_,gt,rfl,n,rfl⟩) hst (by rw[EN,hl];exact Nat.lt_of_le_of_lt (Nat.succ_le_succ hz) (by decide)) fun h' tk D hS hD hk=>?_
 have hfr:=I.hok.fresh (Nat.le_refl _)
 exact⟨.ref s.heap.objs.size,_,I.laid (t':=tk) (fun b o e=>hk b o (EH e) e) (Nat.le_refl _) (A9 hS),rfl,q _ D hfr hS.1 hD⟩
def CD(P:Program)(w:World):List V->Hp->VK->Prop:=fun xs H Q=>∃(p:Addr) (D:List Str),xs=[.ref p]/\H p=some (jm P w p D)/\D.length<64 ∧
 ∀l (ss:List Str),H l=none->ss.Perm D->sortedS ss=true->Q (.ref l) (upd H l (.lst (List.map V.str ss)))
theorem wH{k:Nat}(hr:Room k X.A):bI X (.builtin "sorted") (CD X.prog X.w):=by
 intro pins s σ H xs us Q I r h
 obtain⟨p,D,rfl,hp,hl,q⟩:=h
 obtain⟨u,rfl,rx⟩:=vals1 r
 cases rx
 obtain⟨hO,_⟩:=I.hok p _ hp
 refine Eo hr.hd (show dz X.prog X.w s.heap p D from hO) hl fun h' tk d l vs ss hle hlst hst hpm hso htk hk=>?_
 have hfr:=I.hok.fresh hle
 obtain⟨e,he⟩:=hlst
 have hsl:ss.length=D.length:=hpm.length_eq
 refine⟨.ref l,_,((I.dr d).laid (t':=tk) (o:=.lst (ss.map V.str)) (fun b o e=>hk b o (EH e) e) hle ?_),rfl,q l ss hfr hpm hso⟩
 exact⟨by rw[EI];exact Nat.le_trans (show ss.length<=64 by omega) (by decide),vs,e,v8 hst,he⟩
def tu(K:EE)(tl:TE):TI:=fun σ H R=>tl σ H fun x H1=>∃a,x=.ref a/\(((∃xs,ag K H1 a xs)/\R (b6 K a) H1)\/((∃xs,aj K H1 a xs)/\R (bT K a) H1))
theorem xp(K:EE){tg l:Expr}{tl:TE}(hl:PE X l tl)(hK:X.K=K:=by rfl):PI X tg l (tu K tl):=by
 subst hK
 intro pins s σ H R I h
 refine au (hl pins s σ H _ I h) fun v s1 ⟨x,H1,I1,r1,q1⟩=>?_
 obtain⟨a,e,q1⟩:=q1
 subst e
 cases r1
 rcases q1 with⟨⟨xs,hq⟩,q⟩ | ⟨⟨xs,hq⟩,q⟩
 ·obtain⟨its,rv,p,hz⟩:=I1.list hq
  refine wpAny_pyIter_list p.isList ?_
  refine⟨s1.heap.objs.size,[s1.heap.objs.size],_,_,H1,rfl,I1.kept (t':=s1.toks) fun b o e=>EF _ e,pH a _,⟨_,EG _ rfl,rfl,rfl⟩,fun b hb=>?_,q⟩
  have e:b=s1.heap.objs.size:=by simpa using hb
  subst e
  exact I1.fpOk (Nat.le_refl _) (I1.hok.fresh (Nat.le_refl _))
 ·obtain⟨its,rv,p,hz⟩:=I1.tuple hq
  refine wpAny_pyIter_tuple (show s1.heap.IsTuple a its.toArray from p) ?_
  refine⟨s1.heap.objs.size,[s1.heap.objs.size],_,_,H1,rfl,I1.kept (t':=s1.toks) fun b o e=>EF _ e,uI a _,⟨_,EG _ rfl,rfl,rfl⟩,fun b hb=>?_,q⟩
  have e:b=s1.heap.objs.size:=by simpa using hb
  subst e
  exact I1.fpOk (Nat.le_refl _) (I1.hok.fresh (Nat.le_refl _))
end
theorem rd_iLT{K:EE}{te:TE}{σ:St}{H:Hp}{R:It->Hp->Prop}(h:te σ H fun x H1=>∃a,x=.ref a/\(((∃xs,ag K H1 a xs)/\R (b6 K a) H1)\/((∃xs,aj K H1 a xs)/\R (bT K a) H1))):tu K te σ H R:=h
end L2
namespace L2
open PySem PySem.Spec PyProof.Rows
section
variable {P:Program} {w:World} {A:Around} {E:Value->Shared->Prop} {s:Shared}
end
section
variable {X:Cx}
end
end L2
namespace L2
open PySem PySem.Spec PyProof.Rows
section
variable {X:Cx}
def sX(i j:Int):Prop:=0<=j/\j<=1000/\i.natAbs.log2<30000
theorem xl:aZ X (binaryOp .LShift) (rI sX fun i j=>.int (i*2 ^ j.toNat)):=gQ fun i j _ _ _ _ _ hc q=>by
 obtain⟨h0,h1,h2⟩:=hc
 refine PyProof.Rows.lshift_int h0 ?_ q
 have:Builtin.Int.intBits i<=30000:=by
  unfold Builtin.Int.intBits
  split<;>omega
 omega
end
end L2
namespace L2
open PySem PySem.Spec PyProof.Rows
section
variable {X:Cx} {pins:List (Addr×Obj)} {σ:St} {H:Hp} {s:Shared}
end
section
variable {X:Cx}
end
end L2
namespace L2
open PySem PySem.Spec PyProof.Rows
section
variable {X:Cx}
end
end L2
namespace L2
open PySem PySem.Spec PyProof.Rows
theorem pW{X:Cx}{st:Stmt}{t:TS}(h:PS X.nox st t):PS X st t:=fun pins s σ H D I hw=>
 wpAny_mono (h pins s σ H D (I.wish _) hw) (fun _ _ q=>q.unwish) fun _ _ z=>False.elim z
def tP(a b:Str)(te:TE):TE:=fun σ H Q=>te σ H fun v H1=>∃i:Int,v=.int i/\i.natAbs.log2<1920/\(Str.empty++a++(toString i:Str)).length<=sizeLine/\(Str.empty++a++(toString i:Str)++b).length<=sizeLine/\∀z,Q (.str z) H1
theorem wz{X:Cx}{a b:Str}{j j2:Nat}{e:Expr}{te:TE}{p1 p2 p3 pos:Pos}(he:PE X e te)(hz:(Str.empty++a).length<=sizeLine:=by decide +kernel):PE X (.JoinedStr [.Constant (.str a) j p1,.FormattedValue e (-1) none p2,.Constant (.str b) j2 p3] pos) (tP a b te):=by
 intro pins s σ H Q I h
 refine JoinedStr_many (joinParts_cons (au ((av:PE X (.Constant (.str a) j p1) (tC (.str a))) pins s σ H (fun v H1=>v=V.str a/\H1=H) I ⟨rfl,rfl⟩) fun v s1 ⟨x,H1,I1,r1,q1,q2⟩=>?_))
 subst q1 q2
 obtain⟨t,rfl⟩:=r1
 refine⟨hz,joinParts_cons (FormattedValue_plain (au (he pins s1 σ H1 _ I1 h) fun v s2 ⟨y,H2,I2,r2,i,e2,hl,hz2,hz3,q⟩=>?_))⟩
 subst e2
 obtain⟨t2,rfl⟩:=r2
 refine formatField_int_small hl ⟨hz2,joinParts_cons (au ((av:PE X (.Constant (.str b) j2 p3) (tC (.str b))) pins _ σ H2 (fun v H3=>v=V.str b/\H3=H2) (I2.tok _) ⟨rfl,rfl⟩) fun v s3 ⟨x,H3,I3,r3,q1,q2⟩=>?_)⟩
 subst q1 q2
 obtain⟨t3,rfl⟩:=r3
 exact⟨hz3,joinParts_nil ⟨.str _,H3,I3.tok _,⟨_,rfl⟩,q _⟩ hz3⟩
def qV(a b c:Str)(te tf:TE):TE:=fun σ H Q=>te σ H fun v H1=>∃i:Int,v=.int i/\i.natAbs.log2<1920/\(Str.empty++a++(toString i:Str)).length<=sizeLine/\(Str.empty++a++(toString i:Str)++b).length<=sizeLine/\tf σ H1 fun u H2=>∃k:Int,u=.int k/\k.natAbs.log2<1920/\(Str.empty++a++(toString i:Str)++b++(toString k:Str)).length<=sizeLine/\(Str.empty++a++(toString i:Str)++b++(toString k:Str)++c).length<=sizeLine/\∀z,Q (.str z) H2
theorem xD{X:Cx}{a b c:Str}{j j2 j3:Nat}{e f:Expr}{te tf:TE}{p1 p2 p3 p4 p5 pos:Pos}(he:PE X e te)(hf:PE X f tf)(hz:(Str.empty++a).length<=sizeLine:=by decide +kernel):PE X (.JoinedStr [.Constant (.str a) j p1,.FormattedValue e (-1) none p2,.Constant (.str b) j2 p3,.FormattedValue f (-1) none p4,.Constant (.str c) j3 p5] pos) (qV a b c te tf):=by
 intro pins s σ H Q I h
 refine JoinedStr_many (joinParts_cons (au ((av:PE X (.Constant (.str a) j p1) (tC (.str a))) pins s σ H (fun v H1=>v=V.str a/\H1=H) I ⟨rfl,rfl⟩) fun v s1 ⟨x,H1,I1,r1,q1,q2⟩=>?_))
 subst q1 q2
 obtain⟨t,rfl⟩:=r1
 refine⟨hz,joinParts_cons (FormattedValue_plain (au (he pins s1 σ H1 _ I1 h) fun v s2 ⟨y,H2,I2,r2,i,e2,hl,hz2,hz3,q⟩=>?_))⟩
 subst e2
 obtain⟨t2,rfl⟩:=r2
 refine formatField_int_small hl ⟨hz2,joinParts_cons (au ((av:PE X (.Constant (.str b) j2 p3) (tC (.str b))) pins _ σ H2 (fun v H3=>v=V.str b/\H3=H2) (I2.tok _) ⟨rfl,rfl⟩) fun v s3 ⟨x,H3,I3,r3,q1,q2⟩=>?_)⟩
 subst q1 q2
 obtain⟨t3,rfl⟩:=r3
 refine⟨hz3,joinParts_cons (FormattedValue_plain (au (hf pins s3 σ H3 _ I3 q) fun v s4 ⟨y,H4,I4,r4,k,e4,hl4,hz4,hz5,q⟩=>?_))⟩
 subst e4
 obtain⟨t4,rfl⟩:=r4
 refine formatField_int_small hl4 ⟨hz4,joinParts_cons (au ((av:PE X (.Constant (.str c) j3 p5) (tC (.str c))) pins _ σ H4 (fun v H5=>v=V.str c/\H5=H4) (I4.tok _) ⟨rfl,rfl⟩) fun v s5 ⟨x,H5,I5,r5,q1,q2⟩=>?_)⟩
 subst q1 q2
 obtain⟨t5,rfl⟩:=r5
 exact⟨hz5,joinParts_nil ⟨.str _,H5,I5.tok _,⟨_,rfl⟩,q _⟩ hz5⟩
theorem rd_fs3{a b:Str}{te:TE}{σ:St}{H:Hp}{Q:VK}(h:te σ H fun v H1=>∃i:Int,v=.int i/\i.natAbs.log2<1920/\(Str.empty++a++(toString i:Str)).length<=sizeLine/\(Str.empty++a++(toString i:Str)++b).length<=sizeLine/\∀z,Q (.str z) H1):tP a b te σ H Q:=h
theorem rd_fs5{a b c:Str}{te tf:TE}{σ:St}{H:Hp}{Q:VK}(h:te σ H fun v H1=>∃i:Int,v=.int i/\i.natAbs.log2<1920/\(Str.empty++a++(toString i:Str)).length<=sizeLine/\(Str.empty++a++(toString i:Str)++b).length<=sizeLine/\tf σ H1 fun u H2=>∃k:Int,u=.int k/\k.natAbs.log2<1920/\(Str.empty++a++(toString i:Str)++b++(toString k:Str)).length<=sizeLine/\(Str.empty++a++(toString i:Str)++b++(toString k:Str)++c).length<=sizeLine/\∀z,Q (.str z) H2):qV a b c te tf σ H Q:=h
theorem Ew{K:EE}{C:Addr}{i:Nat}{tb:Ends->(St->XK)->St->Hp->Prop}{ts:Addr->Addr->TS}{D:Ends}{σ:St}{H:Hp}(P:Addr->St->Hp->Prop)(h1:∀E:St->XK,(∀σ1 Dx H1,P Dx σ1 H1->E σ1 (.ref Dx) none H1)->tb D E σ H)
  (h2:∀σ1 Dx H1,P Dx σ1 H1->PySem.W.exmOne K (.ref Dx) (.ref C)=some true/\ExcK K Dx/\∀x,H1 x=none->ts x Dx ⟨fun σ' H'=>D.nx (σ'.set i none) H',D.rt,fun σ' H'=>D.bk (σ'.set i none) H',fun σ' H'=>D.ct (σ'.set i none) H'⟩ (σ1.set i (some (.ref x))) H1):qM K C i tb ts D σ H:=
 h1 _ fun σ1 Dx H1 p=>⟨Dx,rfl,h2 σ1 Dx H1 p⟩
end L2
namespace St
section
variable {b s:Int} {o a:List Int}
end
end St
namespace St
end St
namespace St
end St
namespace St
end St
namespace St
end St
namespace Bfs
theorem oD:∀(N:Nat) (l:List Nat),l.Nodup->(∀x∈l,x<N)->l.length<=N
 | 0,l,_,h=>by
  cases l with
  | nil=>exact Nat.le_refl _
  | cons x l=>exact absurd (h x EO) (Nat.not_lt_zero _)
 | N+1,l,hn,h=>by
  have ih:=oD N (l.erase N) (hn.erase N) (fun x hx=>by
   have:=h x (List.mem_of_mem_erase hx)
   have hne:x≠N:=fun e=>by
    subst e
    exact(List.Nodup.not_mem_erase hn) hx
   omega)
  by_cases hm:N∈l
  ·rw[List.length_erase_of_mem hm]at ih
   omega
  ·rw[List.erase_of_not_mem hm]at ih
   omega
abbrev Pl:=Int×Int
def inR(T:Int)(x:Pl):Prop:=0<=x.1/\x.1<12/\0<=x.2/\x.2<=T
theorem BH{T:Int}{l:List Pl}(hT:T<=2000)(hn:l.Nodup)(h:∀x∈l,inR T x):l.length<=24012:=by
 have hmap:(l.map fun x=>(x.1*2001+x.2).toNat).Nodup:=by
  unfold List.Nodup at hn ⊢
  rw[List.pairwise_map]
  refine List.Pairwise.imp_of_mem ?_ hn
  intro a b ha hb hab e
  obtain⟨a1,a2,a3,a4⟩:=h a ha
  obtain⟨b1,b2,b3,b4⟩:=h b hb
  refine hab (Prod.ext ?_ ?_)<;>omega
 have:=oD 24012 _ hmap (fun y hy=>by
  obtain⟨x,hx,rfl⟩:=List.mem_map.mp hy
  obtain⟨a1,a2,a3,a4⟩:=h x hx
  omega)
 rwa [EI]at this
section
variable (nx:Pl->Nat->Option Pl) (s:Pl)
inductive Wk:Nat->Pl->Prop
 | zero:Wk 0 s
 | succ {n:Nat} {x y:Pl} {k:Nat}:Wk n x->nx x k=some y->Wk (n+1) y
def gZ(n:Nat)(x:Pl):Prop:=Wk nx s n x/\∀m,m<n->¬Wk nx s m x
abbrev Ent:=Pl×Nat×Option (Pl×Nat)
structure QI(q:List Ent)(i B:Nat):Prop where
 nd:(q.map (·.1)).Nodup
 par:∀e∈q,(e.2.2=none/\e.1=s/\e.2.1=0)\/∃p k d o,e.2.2=some (p,k)/\nx p k=some e.1/\e.2.1=d+1/\(p,d,o)∈q
 le:∀e∈q,e.2.1<=B+1
 lo:∀j e,q[j]?=some e->i<=j->B<=e.2.1
 srt:q.Pairwise fun a b=>a.2.1<=b.2.1
 cl:∀j e,j<i->q[j]?=some e->∀k y,nx e.1 k=some y->∃e'∈q,e'.1=y/\e'.2.1<=e.2.1+1
 s0:(s,0,none)∈q
theorem QI.begin:QI nx s [(s,0,none)] 0 0:=by
 refine⟨by simp,?_,?_,?_,by simp,?_,by simp⟩
 ·intro e he
  rw[List.mem_singleton]at he
  subst he
  exact .inl ⟨rfl,rfl,rfl⟩
 ·intro e he
  rw[List.mem_singleton]at he
  subst he
  simp
 ·intro j e _ _
  exact Nat.zero_le _
 ·intro j e hj
  exact absurd hj (Nat.not_lt_zero _)
variable {nx s}
theorem QI.wk{q:List Ent}{i B:Nat}(h:QI nx s q i B):∀(d:Nat) (e:Ent),e∈q->e.2.1=d->Wk nx s d e.1
 | 0,e,he,hd=>by
  rcases h.par e he with⟨_,hs,_⟩ | ⟨p,k,d,o,_,_,hd',_⟩
  ·rw[hs];exact .zero
  ·omega
 | d+1,e,he,hd=>by
  rcases h.par e he with⟨_,_,h0⟩ | ⟨p,k,d',o,_,hn,hd',hm⟩
  ·omega
  ·have:d'=d:=by omega
   subst this
   exact .succ (QI.wk h d' _ hm rfl) hn
theorem QI.all {q : List Ent} {i B : Nat} (h : QI nx s q i B) : ∀ (n : Nat) (y : Pl), Wk nx s n y → (n ≤ B ∨ i = q.length) → ∃ e ∈ q, e.1 = y ∧ e.2.1 ≤ n := by
  intro n y w
  induction w with
  | zero => intro _; exact ⟨_, h.s0, rfl, Nat.le_refl _⟩
  | @succ n x y k w hk ih =>
    intro hB
    obtain ⟨e, he, hx, hd⟩ := ih (by rcases hB with h | h; · left; omega
                                     · exact .inr h)
    obtain ⟨j, hj⟩ := List.getElem?_of_mem he
    have hji : j < i := by
      rcases hB with hB | hB
      · rcases Nat.lt_or_ge j i with l | l
        · exact l
        · have := h.lo j e hj l
          omega
      · rw [hB]
        exact (List.getElem?_eq_some_iff.mp hj).1
    obtain ⟨e', he', hy, hd'⟩ := h.cl j e hji hj k y (by rw [hx]; exact hk)
    exact ⟨e', he', hy, by omega⟩
theorem Eb{q:List Ent}(hn:(q.map (·.1)).Nodup){e e':Ent}(h:e∈q)(h':e'∈q)(he:e.1=e'.1):e=e':=by
 induction q with
 | nil=>cases h
 | cons a q ih=>
  rw[List.map_cons,List.nodup_cons]at hn
  rcases List.mem_cons.mp h with r | r<;>rcases List.mem_cons.mp h' with r' | r'
  ·rw[r,r']
  ·subst r
   exact absurd (List.mem_map.mpr ⟨e',r',he.symm⟩) hn.1
  ·subst r'
   exact absurd (List.mem_map.mpr ⟨e,r,he⟩) hn.1
  ·exact ih hn.2 r r'
theorem QI.dist{q:List Ent}{i B:Nat}(h:QI nx s q i B){e:Ent}(he:e∈q):gZ nx s e.2.1 e.1:=by
 refine⟨h.wk _ e he rfl,fun m hm w=>?_⟩
 have:=h.le e he
 obtain⟨e',he',hy,hd⟩:=h.all m e.1 w (.inl (by omega))
 have:=Eb h.nd he' he hy
 subst this
 omega
theorem QI.done{q:List Ent}{B:Nat}(h:QI nx s q q.length B){y:Pl}(hy:y∉q.map (·.1))(n:Nat):¬gZ nx s n y:=fun d=>by
 obtain⟨e,he,hx,_⟩:=h.all n y d.1 (.inr rfl)
 exact hy (List.mem_map.mpr ⟨e,he,hx⟩)
theorem vt{q:List Ent}(hs:q.Pairwise fun a b=>a.2.1<=b.2.1){i j:Nat}{a b:Ent}(ha:q[i]?=some a)(hb:q[j]?=some b)(hij:i<=j):a.2.1<=b.2.1:=by
 rcases Nat.lt_or_ge i j with l | l
 ·obtain⟨h1,e1⟩:=List.getElem?_eq_some_iff.mp ha
  obtain⟨h2,e2⟩:=List.getElem?_eq_some_iff.mp hb
  have:=List.pairwise_iff_getElem.mp hs i j h1 h2 l
  rw[e1,e2]at this
  exact this
 ·have:i=j:=by omega
  subst this
  rw[ha]at hb
  cases hb
  exact Nat.le_refl _
theorem QI.deepAt{q:List Ent}{i B:Nat}(h:QI nx s q i B):∀(j:Nat) (e:Ent),q[j]?=some e->e.2.1<=j:=by
 intro j
 induction j using Nat.strongRecOn with
 | _ j ih=>
  intro e he
  rcases h.par e (List.mem_of_getElem? he)with⟨_,_,h0⟩ | ⟨p,k,d,o,_,_,hd,hm⟩
  ·omega
  ·obtain⟨j',hj'⟩:=List.getElem?_of_mem hm
   have hlt:j'<j:=by
    rcases Nat.lt_or_ge j' j with l | l
    ·exact l
    ·have:=vt h.srt he hj' l
     dsimp only at this
     omega
   have:=ih j' hlt _ hj'
   dsimp only at this
   omega
theorem QI.deep{q:List Ent}{i B:Nat}(h:QI nx s q i B){e:Ent}(he:e∈q):e.2.1<=q.length:=by
 obtain⟨j,hj⟩:=List.getElem?_of_mem he
 have h1:=h.deepAt j e hj
 have h2:=(List.getElem?_eq_some_iff.mp hj).1
 omega
structure QF(q:List Ent)(i:Nat)(h:Ent)(ks:List Nat)(m:Nat):Prop where
 at_:q[i]?=some h
 nd:(q.map (·.1)).Nodup
 par:∀e∈q,(e.2.2=none/\e.1=s/\e.2.1=0)\/∃p k d o,e.2.2=some (p,k)/\nx p k=some e.1/\e.2.1=d+1/\(p,d,o)∈q
 le:∀e∈q,e.2.1<=h.2.1+1
 srt:q.Pairwise fun a b=>a.2.1<=b.2.1
 cl:∀j e,j<i->q[j]?=some e->∀k y,nx e.1 k=some y->∃e'∈q,e'.1=y/\e'.2.1<=e.2.1+1
 ch:∀k∈ks.take m,∀y,nx h.1 k=some y->∃e'∈q,e'.1=y/\e'.2.1<=h.2.1+1
 s0:(s,0,none)∈q
theorem QI.look{q:List Ent}{i B:Nat}{h:Ent}(H:QI nx s q i B)(ha:q[i]?=some h)(ks:List Nat):QF (nx:=nx) (s:=s) q i h ks 0:=by
 refine⟨ha,H.nd,H.par,fun e he=>?_,H.srt,H.cl,fun k hk=>by simp at hk,H.s0⟩
 have:=H.le e he
 have:=H.lo i h ha (Nat.le_refl _)
 omega
theorem QF.next{q:List Ent}{i:Nat}{h:Ent}{ks:List Nat}(H:QF (nx:=nx) (s:=s) q i h ks ks.length)(hk:∀k y,nx h.1 k=some y->k∈ks):QI nx s q (i+1) h.2.1:=by
 refine⟨H.nd,H.par,H.le,fun j e hj hij=>vt H.srt H.at_ hj (by omega),H.srt,fun j e hj he k y hy=>?_,H.s0⟩
 rcases Nat.lt_or_ge j i with l | l
 ·exact H.cl j e l he k y hy
 ·have:j=i:=by omega
  subst this
  have e':=H.at_
  rw[he]at e'
  cases e'
  exact H.ch k (by rw[List.take_length];exact hk k y hy) y hy
theorem QF.skip{q:List Ent}{i:Nat}{h:Ent}{ks:List Nat}{m k:Nat}(H:QF (nx:=nx) (s:=s) q i h ks m)(hk:ks[m]?=some k)(hy:∀y,nx h.1 k=some y->y∈q.map (·.1)):QF (nx:=nx) (s:=s) q i h ks (m+1):=by
 refine⟨H.at_,H.nd,H.par,H.le,H.srt,H.cl,fun k' hk' y hy'=>?_,H.s0⟩
 rw[List.take_succ,hk]at hk'
 rcases List.mem_append.mp hk' with z | z
 ·exact H.ch k' z y hy'
 ·have:k'=k:=by simpa using z
  subst this
  obtain⟨e,he,hx⟩:=List.mem_map.mp (hy y hy')
  exact⟨e,he,hx,H.le e he⟩
theorem QF.add{q:List Ent}{i:Nat}{h:Ent}{ks:List Nat}{m k:Nat}{y:Pl}(H:QF (nx:=nx) (s:=s) q i h ks m)(hk:ks[m]?=some k)(hy:nx h.1 k=some y)(hn:y∉q.map (·.1)):
  QF (nx:=nx) (s:=s) (q++[(y,h.2.1+1,some (h.1,k))]) i h ks (m+1):=by
 have hil:=(List.getElem?_eq_some_iff.mp H.at_).1
 have hmem:h∈q:=List.mem_of_getElem? H.at_
 refine⟨by rw[List.getElem?_append_left hil];exact H.at_,?_,?_,?_,?_,?_,?_,List.mem_append_left _ H.s0⟩
 ·rw[List.map_append,List.nodup_append]
  refine⟨H.nd,by simp,fun a ha b hb e=>?_⟩
  have:b=y:=by simpa using hb
  subst this
  subst e
  exact hn ha
 ·intro e he
  rcases List.mem_append.mp he with z | z
  ·rcases H.par e z with p | ⟨p,k',d,o,h1,h2,h3,h4⟩
   ·exact .inl p
   ·exact .inr ⟨p,k',d,o,h1,h2,h3,List.mem_append_left _ h4⟩
  ·have:e=(y,h.2.1+1,some (h.1,k)):=by simpa using z
   subst this
   exact .inr ⟨h.1,k,h.2.1,h.2.2,rfl,hy,rfl,List.mem_append_left _ hmem⟩
 ·intro e he
  rcases List.mem_append.mp he with z | z
  ·exact H.le e z
  ·have:e=(y,h.2.1+1,some (h.1,k)):=by simpa using z
   subst this
   exact Nat.le_refl _
 ·rw[List.pairwise_append]
  refine⟨H.srt,by simp,fun a ha b hb=>?_⟩
  have:b=(y,h.2.1+1,some (h.1,k)):=by simpa using hb
  subst this
  exact H.le a ha
 ·intro j e hj he k' y' hy'
  rw[List.getElem?_append_left (by omega)]at he
  obtain⟨e',h1,h2⟩:=H.cl j e hj he k' y' hy'
  exact⟨e',List.mem_append_left _ h1,h2⟩
 ·intro k' hk' y' hy'
  rw[List.take_succ,hk]at hk'
  rcases List.mem_append.mp hk' with z | z
  ·obtain⟨e',h1,h2⟩:=H.ch k' z y' hy'
   exact⟨e',List.mem_append_left _ h1,h2⟩
  ·have:k'=k:=by simpa using z
   subst this
   rw[hy]at hy'
   cases hy'
   exact⟨_,List.mem_append_right _ EO,rfl,Nat.le_refl _⟩
def gone:Pl->List Nat->Option Pl
 | x,[]=>some x
 | x,k::r=>(nx x k).bind fun y=>gone y r
end
end Bfs
namespace Bfs
end Bfs
namespace Bfs
end Bfs
namespace My
open PySem L2 St
def stq (i : Nat) : Stmt := PySem.Challenge.pw_stairrooms_k60_words_refused.main.body.getD i (.Pass ⟨0, 0, 0, 0⟩)
local macro_rules | `(tactic| walk_at "cond") => `(tactic| first | decide | omega | (dsimp only; omega) | (unfold j7; omega) | (unfold oQ; exact ⟨by decide, by decide, by decide⟩) | (dsimp only; exact ⟨by omega, by omega⟩) | exact .inr ⟨by decide, by decide⟩ | exact .inl ⟨by decide, by decide⟩ | (unfold iB; omega))
local macro_rules | `(tactic| walk_at "rd") => do
 let ts ← ("seq ret retN asg drop ifS next name var c op un CB cons nil ints test B exb not and or andV orV notV ifE yes I0 I U EqI NeI EqB NeB call BM tup lst sl noPart part exi chain comp iL iT i1 i2 i3 for tTru intB max2 min2 sub gcons gnil aug ipI zip rev par par2 lam calV raise fs try bseq bnext bplain bif bcall enum gget gin revL leS disp dget lrev disp1 din dnin dput min3 iS iD bm0 revS iD2 iLT thaw iD3 iDL dgt2 fs3 fs5".splitOn " ").toArray.mapM fun n =>
  let i := Lean.mkIdent (.mkSimple ("rd_" ++ n))
  if n == "var" || n == "aug" then `(tacticSeq| ((with_reducible apply $i); (exact rfl)))
  else if n == "I" then `(tacticSeq| ((with_reducible apply $i); (walk_at "cond")))
  else `(tacticSeq| with_reducible refine $i ?_)
 `(tactic| repeat (first $[| $ts]* | dsimp only))
structure Blt(mg:Str->Option Value):Prop where
 len_:mg "len" = none
 isinstance_:mg "isinstance" = none
 tuple_:mg "tuple" = none
 list_:mg "list" = none
 int_:mg "int" = none
 bool_:mg "bool" = none
 range_:mg "range" = none
 zip_:mg "zip" = none
 max_:mg "max" = none
 min_:mg "min" = none
 abs_:mg "abs" = none
 all_:mg "all" = none
 ValueError_:mg "ValueError" = none
 enumerate_:mg "enumerate" = none
 set_:mg "set" = none
 str_:mg "str" = none
 reversed_:mg "reversed" = none
 any_:mg "any" = none
 sorted_:mg "sorted" = none
abbrev fI:List Str:=["Endless","NoDeed","NoHouse","NoLine","NoPlace","NoStair","NoText","NoWalk","NoWay","NotBare","StairError","TooGreat"]
abbrev fH:List Str:=["NoHouse","NoPlace","TooGreat"]
def isInt:V->Bool
 | .int _=>true
 | _=>false
def isStr:V->Bool
 | .str _=>true
 | _=>false
def isTup(H:Hp):V->Bool
 | .ref p=>match H p with
  | some (.tup _)=>true
  | _=>false
 | _=>false
theorem wD{H:Hp}{v:V}{n:String}(h:dv H v n):∃b c,fo n "int" = some b/\fo n "bool" = some c/\(b && !c)=isInt v:=by
 cases v with
 | non=>cases(show n = "NoneType" from h);exact⟨_,_,rfl,rfl,rfl⟩
 | bl b=>cases(show n = "bool" from h);exact⟨_,_,rfl,rfl,rfl⟩
 | int i=>cases(show n = "int" from h);exact⟨_,_,rfl,rfl,rfl⟩
 | str z=>cases(show n = "str" from h);exact⟨_,_,rfl,rfl,rfl⟩
 | ref a=>rcases h with⟨rfl,xs,e⟩ | ⟨rfl,xs,e⟩<;>exact⟨_,_,rfl,rfl,rfl⟩
 | _=>exact False.elim h
theorem qW{H:Hp}{v:V}{n:String}(h:dv H v n):fo n "str" = some (isStr v):=by
 cases v with
 | non=>cases(show n = "NoneType" from h);rfl
 | bl b=>cases(show n = "bool" from h);rfl
 | int i=>cases(show n = "int" from h);rfl
 | str z=>cases(show n = "str" from h);rfl
 | ref a=>rcases h with⟨rfl,xs,e⟩ | ⟨rfl,xs,e⟩<;>rfl
 | _=>exact False.elim h
theorem mO{H:Hp}{v:V}{n:String}(h:dv H v n):fo n "tuple" = some (isTup H v):=by
 cases v with
 | non=>cases(show n = "NoneType" from h);rfl
 | bl b=>cases(show n = "bool" from h);rfl
 | int i=>cases(show n = "int" from h);rfl
 | str z=>cases(show n = "str" from h);rfl
 | ref a=>rcases h with⟨rfl,xs,e⟩ | ⟨rfl,xs,e⟩<;>(unfold isTup;dsimp only;rw[e];rfl)
 | _=>exact False.elim h
def bf(H:Hp):Nat->V->Prop
 | _,.non=>True
 | _,.bl _=>True
 | _,.int _=>True
 | _,.str z=>z.length<=1000
 | 0,.ref _=>False
 | n+1,.ref p=>∃xs,(H p=some (.tup xs)\/H p=some (.lst xs))/\xs.length<=2000/\∀x∈xs,bf H n x
 | _,_=>False
theorem bf.ext{H H':Hp}(e:Ext H H'):∀{n:Nat} {v:V},bf H n v->bf H' n v:=by
 intro n
 induction n with
 | zero=>intro v h;cases v<;>exact h
 | succ n ih=>
  intro v h
  cases v with
  | ref p=>
   obtain⟨xs,h1,h2,h3⟩:=h
   exact⟨xs,h1.imp (e _ _) (e _ _),h2,fun x hx=>ih (h3 x hx)⟩
  | _=>exact h
theorem bf.kind{H:Hp}{n:Nat}{v:V}(h:bf H n v):∃k,dv H v k:=by
 cases v with
 | non=>exact⟨_,rfl⟩
 | bl b=>exact⟨_,rfl⟩
 | int i=>exact⟨_,rfl⟩
 | str z=>exact⟨_,rfl⟩
 | ref p=>
  cases n with
  | zero=>exact h.elim
  | succ n=>
   obtain⟨xs,h1,_⟩:=h
   rcases h1 with h1 | h1
   ·exact⟨"tuple",.inr ⟨rfl,xs,h1⟩⟩
   ·exact⟨"list",.inl ⟨rfl,xs,h1⟩⟩
 | _=>cases n<;>exact h.elim
theorem jd{H:Hp}{v:V}(h:isTup H v=true):∃p xs,v=.ref p/\H p=some (.tup xs):=by
 cases v with
 | ref p=>
  unfold isTup at h
  dsimp only at h
  split at h
  ·rename_i xs e
   exact⟨p,xs,rfl,e⟩
  ·cases h
 | _=>cases h
theorem bf.items{H:Hp}{n:Nat}{p:Addr}{xs:List V}(h:bf H (n+1) (.ref p))(e:H p=some (.tup xs)):xs.length<=2000/\∀x∈xs,bf H n x:=by
 obtain⟨ys,h1,h2,h3⟩:=h
 rcases h1 with h1 | h1<;>rw[e]at h1<;>cases h1
 exact⟨h2,h3⟩
theorem bX{n:Nat}(h:n<=2000):n<=sizeLine:=Nat.le_trans h (by decide)
def nc(K:EE):Sp:=fun vs H Q _=>∃v n,vs=[v]/\dv H v n/\Q (.bl (isInt v)) H
abbrev jP:Stmt:=stq 14
theorem oE:FnScope ["thing"] ["thing"] (aG jP):=⟨rfl,rfl,rfl,by decide +kernel,rfl,by decide +kernel,by decide +kernel⟩
theorem zc{P:Program}{w:World}{K:EE}{mg:Str->Option Value}{base:Heap}(D:Dfn K mg "is_whole" jP ["thing"])(T:Blt mg):Cal P w K mg base "is_whole" 1 ["thing"] (nc K):=by
 have nd:=(oE).nd
 refine D.ok oE (fun vs H Q E h=>?_) (fun X hX H vs Q E h=>?_)
 ·obtain⟨v,n,rfl,_⟩:=h;rfl
 ·obtain⟨f,cdv,A,outer,s,H0,E0,rfl,hr⟩:=hX
  obtain⟨v,n,rfl,hk,q⟩:=h
  obtain⟨b,c,hb,hc,e⟩:=wD hk
  refine⟨_,(ar (aC (eu (aT fN rfl T.isinstance_ PyProof.Rows.boot_isinstance (aa (pv 0) (aa (fb (v:=.ty "int") rfl T.int_ PyProof.Rows.boot_int rfl) af))) (eW (Ct (aT fN rfl T.isinstance_ PyProof.Rows.boot_isinstance (aa (pv 0) (aa (fb (v:=.ty "bool") rfl T.bool_ PyProof.Rows.boot_bool rfl) af)))))))),?_⟩
  walk_at "rd"
  refine f9 hk hb ?_
  walk_at "rd"
  cases b with
  | false=>refine aw ?_;rw[←e]at q;exact q
  | true=>
   refine aB ?_
   walk_at "rd"
   refine f9 hk hc ?_
   walk_at "rd"
   rw[←e]at q;exact q
def bR(m:Int):V->Bool
 | .int i=>decide (0<=i) && decide (i<m)
 | _=>false
def iy:List (Key×V):=[(.inr "up",.str "down"),(.inr "down",.str "up"),(.inr "stay",.str "stay"),(.inr "zero",.str "zero")]
theorem oK{w:World}{K:EE}{a:Addr}{t1 t2 t3 t4 t5 t6 t7 t8:Tok}{ep:Nat}(h:K.lookup a=some (gn w [("up",t1,.str "down" t2),("down",t3,.str "up" t4),("stay",t5,.str "stay" t6),("zero",t7,.str "zero" t8)] ep))(hs:(a == sysModules)=false):GDict w K a iy:=
 ⟨⟨_,_,h,.cons ⟨rfl,⟨_,rfl⟩⟩ (.cons ⟨rfl,⟨_,rfl⟩⟩ (.cons ⟨rfl,⟨_,rfl⟩⟩ (.cons ⟨rfl,⟨_,rfl⟩⟩ .nil)))⟩,by decide +kernel,hs⟩
def fK:V->Bool
 | .str z=>(bC iy (.inr z)).isSome
 | _=>false
def jQ(z:Str):Bool:=!decide (z.cps.toList<(Str.ofString "a").cps.toList) && !decide ((Str.ofString "z").cps.toList<z.cps.toList)
def fP:V->Bool
 | .str z=>decide (z.length=1) && jQ z
 | _=>false
theorem ph{v:V}(h:isInt v=true):∃i,v=.int i:=by
 cases v<;>first | exact ⟨_,rfl⟩ | cases h
theorem isStr_of{v:V}(h:isStr v=true):∃z,v=.str z:=by
 cases v<;>first | exact ⟨_,rfl⟩ | cases h
theorem xM{m:Int}{v:V}(h:isInt v=false):bR m v=false:=by
 cases v<;>first | rfl | cases h
theorem zh{v:V}(h:isStr v=false):fK v=false:=by
 cases v<;>first | rfl | cases h
theorem yc{v:V}(h:isStr v=false):fP v=false:=by
 cases v<;>first | rfl | cases h
def kq(K:EE):Sp:=fun vs H Q _=>∃v m n,vs=[v,.int m]/\dv H v n/\Q (.bl (bR m v)) H
abbrev jW:Stmt:=stq 21
theorem wu:FnScope ["thing","many"] ["thing","many"] (aG jW):=⟨rfl,rfl,rfl,by decide +kernel,rfl,by decide +kernel,by decide +kernel⟩
theorem Ao{P:Program}{w:World}{K:EE}{mg:Str->Option Value}{base:Heap}(D:Dfn K mg "is_room" jW ["thing","many"])(T:Blt mg)(C_is_whole:Cal P w K mg base "is_whole" 1 ["thing"] (nc K)):Cal P w K mg base "is_room" 2 ["thing","many"] (kq K):=by
 have nd:=(wu).nd
 refine D.ok wu (fun vs H Q E h=>?_) (fun X hX H vs Q E h=>?_)
 ·obtain⟨i,m,n,rfl,_⟩:=h;rfl
 ·obtain⟨f,cdv,A,outer,s,H0,E0,rfl,hr⟩:=hX
  obtain⟨v,m,n,rfl,hk,q⟩:=h
  refine⟨_,(ar (aC (eu (az C_is_whole hr (aa (pv 0) af)) (eW (mS jV eS ae (pv 0) (pv 1)))))),?_⟩
  walk_at "rd"
  refine⟨v,n,rfl,hk,?_⟩
  refine rd_exb ?_
  cases hv:isInt v with
  | false=>
   refine aw ?_
   rw[xM hv]at q
   exact q
  | true=>
   obtain⟨i,rfl⟩:=ph hv
   refine aB ?_
   walk_at "rd"
   unfold bR at q
   dsimp only at q
   cases h0:decide (0<=i)with
   | false=>
    refine aw ?_
    rw[h0]at q
    exact q
   | true=>
    refine aB ?_
    walk_at "rd"
    rw[h0,Bool.true_and]at q
    exact q
def vU(K:EE):Sp:=fun vs H Q _=>∃v n,vs=[v]/\dv H v n/\Q (.bl (fK v)) H
abbrev jj:Stmt:=stq 22
theorem pd:FnScope ["thing"] ["thing"] (aG jj):=⟨rfl,rfl,rfl,by decide +kernel,rfl,by decide +kernel,by decide +kernel⟩
theorem Cz{P:Program}{w:World}{K:EE}{mg:Str->Option Value}{base:Heap}(D:Dfn K mg "is_deed" jj ["thing"])(T:Blt mg)(g_TURNED:∃a,mg "TURNED" = some (.ref a)/\GDict w K a iy):Cal P w K mg base "is_deed" 1 ["thing"] (vU K):=by
 have nd:=(pd).nd
 refine D.ok pd (fun vs H Q E h=>?_) (fun X hX H vs Q E h=>?_)
 ·obtain⟨z,n,rfl,_⟩:=h;rfl
 ·obtain⟨f,cdv,A,outer,s,H0,E0,rfl,hr⟩:=hX
  obtain⟨a_TURNED,m_TURNED,d_TURNED⟩:=g_TURNED
  obtain⟨v,n,rfl,hk,q⟩:=h
  refine⟨_,(ar (aC (eu (aT fN rfl T.isinstance_ PyProof.Rows.boot_isinstance (aa (pv 0) (aa (fb (v:=.ty "str") rfl T.str_ PyProof.Rows.boot_str rfl) af))) (eW (AU (Aq rfl m_TURNED d_TURNED (pv 0)) (by with_unfolding_all rfl)))))),?_⟩
  walk_at "rd"
  refine f9 hk (qW hk) ?_
  walk_at "rd"
  cases hv:isStr v with
  | false=>
   refine aw ?_
   rw[zh hv]at q
   exact q
  | true=>
   obtain⟨z,rfl⟩:=isStr_of hv
   refine aB ?_
   walk_at "rd"
   exact⟨.inr z,rfl,q⟩
def vc(K:EE):Sp:=fun vs H Q _=>∃v n j,vs=[v]/\dv H v n/\bf H j v/\Q (.bl (fP v)) H
abbrev jz:Stmt:=stq 23
theorem qJ:FnScope ["thing"] ["thing"] (aG jz):=⟨rfl,rfl,rfl,by decide +kernel,rfl,by decide +kernel,by decide +kernel⟩
theorem zE{P:Program}{w:World}{K:EE}{mg:Str->Option Value}{base:Heap}(D:Dfn K mg "is_sign" jz ["thing"])(T:Blt mg):Cal P w K mg base "is_sign" 1 ["thing"] (vc K):=by
 have nd:=(qJ).nd
 refine D.ok qJ (fun vs H Q E h=>?_) (fun X hX H vs Q E h=>?_)
 ·obtain⟨z,n,j,rfl,_⟩:=h;rfl
 ·obtain⟨f,cdv,A,outer,s,H0,E0,rfl,hr⟩:=hX
  obtain⟨v,n,j,rfl,hk,ht,q⟩:=h
  refine⟨_,(ar (aC (eu (aT fN rfl T.isinstance_ PyProof.Rows.boot_isinstance (aa (pv 0) (aa (fb (v:=.ty "str") rfl T.str_ PyProof.Rows.boot_str rfl) af))) (eu (hZ bV (aT pJ rfl T.len_ PySem.boot_len (aa (pv 0) af)) ae (aK _)) (eW (mS uB uB av (pv 0) av)))))),?_⟩
  walk_at "rd"
  refine f9 hk (qW hk) ?_
  walk_at "rd"
  cases hv:isStr v with
  | false=>
   refine aw ?_
   rw[yc hv]at q
   exact q
  | true=>
   obtain⟨z,rfl⟩:=isStr_of hv
   refine aB ?_
   walk_at "rd"
   refine⟨_,rfl,bX (Nat.le_trans (show z.length<=1000 by cases j<;>exact ht) (by decide)),?_⟩
   walk_at "rd"
   unfold fP jQ at q
   dsimp only at q
   by_cases h1:z.length=1
   ·rw[decide_eq_true (show((z.length:Nat):Int)=1 by omega)]
    refine aB ?_
    walk_at "rd"
    rw[decide_eq_true h1,Bool.true_and]at q
    cases h2:!decide (z.cps.toList<(Str.ofString "a").cps.toList)with
    | false=>
     refine aw ?_
     rw[h2]at q
     exact q
    | true=>
     refine aB ?_
     walk_at "rd"
     rw[h2,Bool.true_and]at q
     exact q
   ·rw[decide_eq_false (show ¬((z.length:Nat):Int)=1 by omega)]
    refine aw ?_
    rw[decide_eq_false h1,Bool.false_and]at q
    exact q
def eG(m:Int):List V->Bool
 | [a,b,c,d]=>bR m a && (bR m c && (fK b && fP d))
 | _=>false
def bB(H:Hp)(m:Int):V->Bool
 | .ref p=>match H p with
  | some (.tup xs)=>eG m xs
  | _=>false
 | _=>false
theorem rX{H:Hp}{m:Int}{v:V}(h:isTup H v=false):bB H m v=false:=by
 cases v with
 | ref p=>
  unfold isTup at h
  unfold bB
  dsimp only at h ⊢
  split
  ·rename_i xs e
   rw[e]at h
   cases h
  ·rfl
 | _=>rfl
theorem cF{H:Hp}{m:Int}{p:Addr}{xs:List V}(h:H p=some (.tup xs)):bB H m (.ref p)=eG m xs:=by
 unfold bB
 dsimp only
 rw[h]
theorem ji{m:Int}{xs:List V}(h:xs.length≠4):eG m xs=false:=by
 unfold eG
 split
 ·exact absurd rfl h
 ·rfl
theorem four{xs:List V}(h:xs.length=4):∃a b c d,xs=[a,b,c,d]:=by
 match xs,h with
 | [a,b,c,d],_=>exact⟨a,b,c,d,rfl⟩
def uN(K:EE):Sp:=fun vs H Q _=>∃v m,vs=[v,.int m]/\bf H 2 v/\Q (.bl (bB H m v)) H
abbrev kL:Stmt:=stq 24
theorem oP:FnScope ["thing","many"] ["thing","many"] (aG kL):=⟨rfl,rfl,rfl,by decide +kernel,rfl,by decide +kernel,by decide +kernel⟩
theorem xX{P:Program}{w:World}{K:EE}{mg:Str->Option Value}{base:Heap}(D:Dfn K mg "is_way" kL ["thing","many"])(T:Blt mg)(C_is_sign:Cal P w K mg base "is_sign" 1 ["thing"] (vc K))(C_is_deed:Cal P w K mg base "is_deed" 1 ["thing"] (vU K))(C_is_room:Cal P w K mg base "is_room" 2 ["thing","many"] (kq K)):Cal P w K mg base "is_way" 3 ["thing","many"] (uN K):=by
 have nd:=(oP).nd
 refine D.ok oP (fun vs H Q E h=>?_) (fun X hX H vs Q E h=>?_)
 ·obtain⟨p,m,rfl,_⟩:=h;rfl
 ·obtain⟨f,cdv,A,outer,s,H0,E0,rfl,hr⟩:=hX
  obtain⟨v,m,rfl,ht,q⟩:=h
  obtain⟨n,hk⟩:=ht.kind
  refine⟨_,(ak (br (PW.pt (dn (dJ (cS (aT fN rfl T.isinstance_ PyProof.Rows.boot_isinstance (aa (pv 0) (aa (fb (v:=.ty "tuple") rfl T.tuple_ PyProof.Rows.boot_tuple rfl) af))))) (dZ (aM cL (aT (cG K) rfl T.len_ PySem.boot_len (aa (pv 0) af)) ae (aK _))))) (ar (aC cn)) aU)
    (ak (br (PW.pt (dn (dJ (cS (az C_is_room hr (aa (ao (ay K) (pv 0) ae (fun _ _=>rfl)) (aa (pv 1) af))))) (dZ (dJ (cS (az C_is_room hr (aa (ao (ay K) (pv 0) ae (fun _ _=>rfl)) (aa (pv 1) af)))))))) (ar (aC cn)) aU)
    (ar (aC (eu (az C_is_deed hr (aa (ao (ay K) (pv 0) ae (fun _ _=>rfl)) af)) (eW (az C_is_sign hr (aa (ao (ay K) (pv 0) ae (fun _ _=>rfl)) af)))))))),?_⟩
  walk_at "rd"
  refine f9 hk (mO hk) ?_
  walk_at "rd"
  cases hv:isTup H v with
  | false=>
   refine aB ?_
   walk_at "rd"
   rw[rX hv]at q
   exact q
  | true=>
   refine aw ?_
   obtain⟨p,xs,rfl,hp⟩:=jd hv
   obtain⟨hx1,hx2⟩:=ht.items hp
   rw[cF hp]at q
   walk_at "rd"
   refine ip (aj.of hp) ?_
   walk_at "rd"
   by_cases h4:xs.length=4
   ·obtain⟨a,b,c,d,rfl⟩:=four h4
    have ta:=hx2 a (by simp)
    have tb:=hx2 b (by simp)
    have tc:=hx2 c (by simp)
    have td:=hx2 d (by simp)
    obtain⟨ka,hka⟩:=ta.kind
    obtain⟨kb,hkb⟩:=tb.kind
    obtain⟨kc,hkc⟩:=tc.kind
    obtain⟨kd,hkd⟩:=td.kind
    unfold eG at q
    dsimp only at q
    refine aw ?_
    walk_at "rd"
    refine ax (aj.of hp) (v:=a) rfl ?_
    walk_at "rd"
    refine⟨a,m,ka,rfl,hka,?_⟩
    walk_at "rd"
    cases ra:bR m a with
    | false=>
     refine aB ?_
     walk_at "rd"
     rw[ra]at q
     exact q
    | true=>
     refine aw ?_
     walk_at "rd"
     refine ax (aj.of hp) (v:=c) rfl ?_
     walk_at "rd"
     refine⟨c,m,kc,rfl,hkc,?_⟩
     walk_at "rd"
     rw[ra,Bool.true_and]at q
     cases rc:bR m c with
     | false=>
      refine aB ?_
      walk_at "rd"
      rw[rc]at q
      exact q
     | true=>
      refine aw ?_
      walk_at "rd"
      refine ax (aj.of hp) (v:=b) rfl ?_
      walk_at "rd"
      refine⟨b,kb,rfl,hkb,?_⟩
      walk_at "rd"
      rw[rc,Bool.true_and]at q
      cases rb:fK b with
      | false=>
       refine aw ?_
       rw[rb]at q
       exact q
      | true=>
       refine aB ?_
       walk_at "rd"
       refine ax (aj.of hp) (v:=d) rfl ?_
       walk_at "rd"
       rw[rb,Bool.true_and]at q
       exact⟨d,kd,1,rfl,hkd,td,q⟩
   ·rw[ji h4]at q
    rw[decide_eq_false (show ¬((xs.length:Nat):Int)=4 by omega)]
    refine aB ?_
    walk_at "rd"
    exact q
theorem ai{n:Nat}(h:n<=1000000):n<=sizeLine:=Nat.le_trans h (by decide)
def lH(K:EE):Sp:=fun vs H Q _=>∃(a:Addr) (ns:List Int) (k:Int),vs=[.ref a,.int k]/\ag K H a (ns.map V.int)/\ns.length<=63/\0<=k/\∀z,Q (.int z) H
theorem vg{ns:List Int}{i:Int}(h0:0<=i)(h:i<ns.length):∃z,bK (ns.map V.int) i=some (.int z)/\ns[i.toNat]?=some z:=by
 have hi:i.toNat<ns.length:=by omega
 refine⟨ns[i.toNat],gC h0 ?_,EJ hi⟩
 rw[EK,EJ hi]
 rfl
abbrev jA:Stmt:=stq 59
theorem sk:FnScope ["_law_script","_law_k"] ["_law_script","_law_k"] (aG jA):=⟨rfl,rfl,rfl,by decide +kernel,rfl,by decide +kernel,by decide +kernel⟩
theorem yM{P:Program}{w:World}{K:EE}{mg:Str->Option Value}{base:Heap}(D:Dfn K mg "_law_cell" jA ["_law_script","_law_k"])(T:Blt mg):Cal P w K mg base "_law_cell" 1 ["_law_script","_law_k"] (lH K):=by
 have nd:=(sk).nd
 refine D.ok sk (fun vs H Q E h=>?_) (fun X hX H vs Q E h=>?_)
 ·obtain⟨a,ns,k,rfl,_⟩:=h;rfl
 ·obtain⟨f,cdv,A,outer,s,H0,E0,rfl,hr⟩:=hX
  obtain⟨a,ns,k,rfl,ha,hl,hk,q⟩:=h
  refine⟨_,(ak (br (aM bV (aT (cG K) rfl T.len_ PySem.boot_len (aa (pv 0) af)) ae (aK _)) (ar (aC (aq cR ae (aq aS (pv 1) ae)))) aU)
    (ak (br (aM eS (pv 1) (aT (cG K) rfl T.len_ PySem.boot_len (aa (pv 0) af)) (aK _)) (ar (aC (ao (aJ K) (pv 0) (pv 1) (fun _ _=>rfl)))) aU)
    (ar (aC (aq aS (ao (aJ K) (pv 0) (aq bP (pv 1) (aT (cG K) rfl T.len_ PySem.boot_len (aa (pv 0) af))) (fun _ _=>rfl)) (aq cR ae (pv 1))))))),?_⟩
  walk_at "rd"
  refine dN ha ?_
  walk_at "rd"
  rw[EI]
  by_cases h0:(ns.length:Int)=0
  ·rw[decide_eq_true h0]
   refine aB ?_
   walk_at "rd"
   exact q _
  ·rw[decide_eq_false h0]
   refine aw ?_
   walk_at "rd"
   refine dN ha ?_
   walk_at "rd"
   rw[EI]
   by_cases h1:k<ns.length
   ·rw[decide_eq_true h1]
    refine aB ?_
    obtain⟨z,hz,_⟩:=vg hk h1
    walk_at "rd"
    refine aI ha hz ?_
    exact q _
   ·rw[decide_eq_false h1]
    refine aw ?_
    walk_at "rd"
    refine dN ha ?_
    rw[EI]
    have hp:(0:Int)<ns.length:=by omega
    refine rd_I hp ?_
    obtain⟨z,hz,_⟩:=vg (ns:=ns) (Int.emod_nonneg k (by omega)) (Int.emod_lt_of_pos k hp)
    refine aI ha hz ?_
    walk_at "rd"
    exact q _
def o7(K:EE):Sp:=fun vs H Q _=>∃c k p,vs=[.int c,.int k,.int p]/\0<=k/\k<100000/\0<p/\∀z,0<=z->z<p->Q (.int z) H
abbrev jR:Stmt:=stq 60
theorem rj:FnScope ["_law_cell_here","_law_k","_law_prime","_law_far"] ["_law_cell_here","_law_k","_law_prime"] (aG jR):=⟨rfl,rfl,rfl,by decide +kernel,rfl,by decide +kernel,by decide +kernel⟩
theorem Ac{P:Program}{w:World}{K:EE}{mg:Str->Option Value}{base:Heap}(D:Dfn K mg "_law_mixed" jR ["_law_cell_here","_law_k","_law_prime"])(T:Blt mg):Cal P w K mg base "_law_mixed" 1 ["_law_cell_here","_law_k","_law_prime"] (o7 K):=by
 have nd:=(rj).nd
 refine D.ok rj (fun vs H Q E h=>?_) (fun X hX H vs Q E h=>?_)
 ·obtain⟨c,k,p,rfl,_⟩:=h;rfl
 ·obtain⟨f,cdv,A,outer,s,H0,E0,rfl,hr⟩:=hX
  obtain⟨c,k,p,rfl,hk,hk2,hp,q⟩:=h
  refine⟨_,(ak (aA (i:=3) nd rfl (Or.inl rfl) (aq bP (aq cR (aq aS (aq aS (aq aS (pv 0) (aq cR (aq cR ae (pv 1)) (pv 1))) (aq cR ae (pv 1))) ae) ae) ae))
    (ak (aA (i:=3) nd rfl (Or.inl rfl) (aq bP (aq cR (pv 3) (pv 3)) ae))
    (ar (aC (aq bP (aq cR (pv 3) ae) (pv 2)))))),?_⟩
  walk_at "rd"
  exact q _ (Int.emod_nonneg _ (by omega)) (Int.emod_lt_of_pos _ hp)
theorem cu{H H2:Hp}{q:Addr}{o:HO}(e:Ext H H2)(hq:H q=none):Ext H (upd H2 q o):=fun b u hb=>by
 rw[aL (cB hb hq)]
 exact e b u hb
def fQ(K:EE):Sp:=fun vs H Q _=>∃(c:Int) (w:Addr) (ws:List Int) (p:Int),vs=[.int c,.ref w,.int p]/\H w=some (.lst (ws.map V.int))/\(∀x∈ws,0<x/\x<2 ^ 40)/\ws.length<=10000/\0<p ∧
 ∀(q:Addr) (ds:List Int) (H':Hp),Ext H H'->H' q=some (.lst (ds.map V.int))->H q=none->ds.length=ws.length->(∀(i:Nat) d x,ds[i]?=some d->ws[i]?=some x->0<=d/\d<x)->Q (.ref q) H'
theorem y9{K:EE}{H:Hp}{c:Int}{w:Addr}{p:Int}{Q:VK}{xe:XK}(ws:List Int)(h1:H w=some (.lst (ws.map V.int)))(h2:∀x∈ws,0<x/\x<2 ^ 40)(h3:ws.length<=10000)(h4:0<p)
  (k:∀(q:Addr) (ds:List Int) (H':Hp),Ext H H'->H' q=some (.lst (ds.map V.int))->H q=none->ds.length=ws.length->(∀(i:Nat) d x,ds[i]?=some d->ws[i]?=some x->0<=d/\d<x)->Q (.ref q) H'):fQ K [.int c,.ref w,.int p] H Q xe:=⟨c,w,ws,p,rfl,h1,h2,h3,h4,k⟩
abbrev kN:Stmt:=stq 61
theorem pC:FnScope ["_law_cell_here","_law_widths","_law_prime","_law_left","_law_found","_law_k"] ["_law_cell_here","_law_widths","_law_prime"] (aG kN):=⟨rfl,rfl,rfl,by decide +kernel,rfl,by decide +kernel,by decide +kernel⟩
theorem Dp{P:Program}{w:World}{K:EE}{mg:Str->Option Value}{base:Heap}(D:Dfn K mg "_law_draws" kN ["_law_cell_here","_law_widths","_law_prime"])(T:Blt mg)(C__law_mixed:Cal P w K mg base "_law_mixed" 1 ["_law_cell_here","_law_k","_law_prime"] (o7 K)):Cal P w K mg base "_law_draws" 2 ["_law_cell_here","_law_widths","_law_prime"] (fQ K):=by
 have nd:=(pC).nd
 refine D.ok pC (fun vs H Q E h=>?_) (fun X hX H vs Q E h=>?_)
 ·obtain⟨c,w,ws,p,rfl,_⟩:=h;rfl
 ·obtain⟨f,cdv,A,outer,s,H0,E0,rfl,hr⟩:=hX
  obtain⟨c,w,ws,p,rfl,hw,hpos,hlen,hp,q⟩:=h
  refine⟨_,(ak (aA (i:=3) nd rfl (Or.inl rfl) ae)
    (ak (dG (aM uz (pv 0) (aq eC ae ae) (aK _)) (ar (aA (i:=3) nd rfl (Or.inl rfl) (aq cK (pv 0) (aq eC ae ae)))) aU)
    (ak (aA (i:=4) nd rfl (Or.inl rfl) (aQ af))
    (ak (bJ PassesOwn.never rfl (dC rfl T.range_ (aa (aT (cG K) rfl T.len_ PySem.boot_len (aa (pv 1) af)) af)) (aR (i:=5) nd rfl (Or.inl rfl)) (ar (dG (aM fg (pv 3) ae (aK _)) (ak (bw (bE K ER PySem.F.slot_list_append PySem.F.type_list_append bW (pv 4) (aa (aq bP (pv 3) (ao (aJ K) (pv 1) (pv 5) (fun _ _=>rfl))) af)))
    (ar (aA (i:=3) nd rfl (Or.inl rfl) (aq lI (pv 3) (ao (aJ K) (pv 1) (pv 5) (fun _ _=>rfl)))))) (ar (bw (bE K ER PySem.F.slot_list_append PySem.F.type_list_append bW (pv 4) (aa (aq bP (az C__law_mixed hr (aa (pv 0) (aa (pv 5) (aa (pv 2) af)))) (ao (aJ K) (pv 1) (pv 5) (fun _ _=>rfl))) af)))))))
    (ar (aC (pv 4))))))),?_⟩
  walk_at "rd"
  refine iO (fun σ' H'=>H'=H/\∃l,σ'=[some (.int c),some (.ref w),some (.int p),some (.int l),none,none]) ?_ ?_
  ·walk_at "rd"
   refine cN (fun h=>?_) (fun h=>?_)
   ·walk_at "rd"
    exact⟨rfl,_,rfl⟩
   ·walk_at "rd"
    exact⟨rfl,_,rfl⟩
  rintro σ' H' ⟨rfl,l,rfl⟩
  walk_at "rd"
  refine⟨ai (by simp),ah fun f H1 e1 hf hfn=>?_⟩
  walk_at "rd"
  refine dN (ag.of (e1 _ _ hw)) ?_
  rw[EI]
  walk_at "rd"
  refine dD (by omega) ?_
  refine forR (fun i σ H2=>Ext H' H2/\∃(l:Int) (k:Option V) (ds:List Int),σ=[some (.int c),some (.ref w),some (.int p),some (.int l),some (.ref f),k]/\H2 f=some (.lst (ds.map V.int))/\ds.length=i/\∀(i:Nat) d x,ds[i]?=some d->ws[i]?=some x->0<=d/\d<x)
   ⟨e1,l,none,[],rfl,hf,rfl,fun i d x hd=>by simp at hd⟩ ?_ ?_
  ·rintro i σ H2 hi ⟨e2,l,k,ds,rfl,hf2,hds,hb⟩
   rw[Int.toNat_natCast]at hi
   have hwi:ws[i]?=some ws[i]:=EJ hi
   have hx:=hpos ws[i] (List.getElem_mem hi)
   have hat:bK (ws.map V.int) (0+(i:Int))=some (.int ws[i]):=by
    rw[Int.zero_add]
    exact eD (by rw[EK,hwi];rfl)
   have next:∀d,0<=d->d<ws[i]->∀(j:Nat) (d' x:Int),(ds++[d])[j]?=some d'->ws[j]?=some x->0<=d'/\d'<x:=fun d h0 h1 j d' x hj hx'=>by
    rcases Nat.lt_or_ge j ds.length with h | h
    ·rw[List.getElem?_append_left h]at hj
     exact hb j d' x hj hx'
    ·rw[List.getElem?_append_right h]at hj
     have hj0:j-ds.length=0:=by
      rcases Nat.eq_zero_or_pos (j-ds.length)with h | h
      ·exact h
      ·rw[List.getElem?_eq_none (by simp;omega)]at hj;cases hj
     rw[hj0]at hj
     have hji:j=i:=by omega
     subst hji
     rw[hwi]at hx'
     cases hx'
     have:d=d':=by simpa using hj
     rw[←this]
     exact⟨h0,h1⟩
   walk_at "rd"
   refine eV ?_
   walk_at "rd"
   refine cN (fun h=>?_) (fun h=>?_)
   ·have h':1<l:=by simpa using h
    walk_at "rd"
    refine⟨bS (ag.of hf2),?_⟩
    walk_at "rd"
    refine aI (ag.of (e2 _ _ hw)) hat ?_
    refine rd_I (show 0<ws[i] by omega) ?_
    walk_at "rd"
    refine bQ hf2 (by rw[EI];exact Nat.lt_of_le_of_lt (show ds.length<=10000 by omega) (by decide)) ?_
    walk_at "rd"
    refine aI (ag.of (cu e2 hfn _ _ hw)) hat ?_
    refine rd_I (show 0<ws[i]/\ws[i]<2 ^ 64 by omega) ?_
    walk_at "rd"
    refine⟨cu e2 hfn,_,_,ds++[l % ws[i]],rfl,?_,by rw[List.length_append,hds];rfl,next _ (Int.emod_nonneg _ (by omega)) (Int.emod_lt_of_pos _ (by omega))⟩
    rw[aY,List.map_append]
    rfl
   ·walk_at "rd"
    refine⟨bS (ag.of hf2),?_⟩
    walk_at "rd"
    refine⟨c,0+(i:Int),p,rfl,by omega,by omega,hp,fun z hz0 hz1=>?_⟩
    walk_at "rd"
    refine aI (ag.of (e2 _ _ hw)) hat ?_
    refine rd_I (show 0<ws[i] by omega) ?_
    walk_at "rd"
    refine bQ hf2 (by rw[EI];exact Nat.lt_of_le_of_lt (show ds.length<=10000 by omega) (by decide)) ?_
    walk_at "rd"
    refine⟨cu e2 hfn,_,_,ds++[z % ws[i]],rfl,?_,by rw[List.length_append,hds];rfl,next _ (Int.emod_nonneg _ (by omega)) (Int.emod_lt_of_pos _ (by omega))⟩
    rw[aY,List.map_append]
    rfl
  ·rintro σ H2 ⟨e2,l,k,ds,rfl,hf2,hds,hb⟩
   walk_at "rd"
   exact q f ds H2 e2 hf2 hfn (by rw[hds,Int.toNat_natCast]) hb
def tT(K:EE):Sp:=fun vs H Q _=>∃c w,vs=[.int c,.int w]/\0<w/\w<2 ^ 64/\∀z,Q (.int z) H
abbrev jb:Stmt:=stq 62
theorem pE:FnScope ["_law_cell_here","_law_width"] ["_law_cell_here","_law_width"] (aG jb):=⟨rfl,rfl,rfl,by decide +kernel,rfl,by decide +kernel,by decide +kernel⟩
theorem Ep{P:Program}{w:World}{K:EE}{mg:Str->Option Value}{base:Heap}(D:Dfn K mg "_law_spare" jb ["_law_cell_here","_law_width"])(T:Blt mg):Cal P w K mg base "_law_spare" 1 ["_law_cell_here","_law_width"] (tT K):=by
 have nd:=(pE).nd
 refine D.ok pE (fun vs H Q E h=>?_) (fun X hX H vs Q E h=>?_)
 ·obtain⟨c,w,rfl,_⟩:=h;rfl
 ·obtain⟨f,cdv,A,outer,s,H0,E0,rfl,hr⟩:=hX
  obtain⟨c,w,rfl,h1,h2,q⟩:=h
  refine⟨_,(ak (br (aM uz (pv 0) (aq eC ae ae) (aK _)) (ar (aC (aq aS (aq lI (aq cK (pv 0) (aq eC ae ae)) (pv 1)) (aq eC ae ae)))) aU)
    (ar (aC (aq aS (pv 0) ae)))),?_⟩
  walk_at "rd"
  refine cN (fun h=>?_) (fun h=>?_)
  ·walk_at "rd"
   exact q _
  ·walk_at "rd"
   exact q _
def qj:List V->List Key
 | [.int a,.str b,.int c,.str d]=>[.inl a,.inr b,.inl c,.inr d]
 | _=>[]
def cw(H:Hp):V->List Key
 | .ref p=>match H p with
  | some (.tup xs)=>qj xs
  | _=>[]
 | _=>[]
theorem jM{H:Hp}{p:Addr}{xs:List V}(h:H p=some (.tup xs)):cw H (.ref p)=qj xs:=by
 unfold cw
 dsimp only
 rw[h]
theorem yi{H:Hp}{m:Int}{v:V}(h:bB H m v=true):∃p a b c d,v=.ref p/\H p=some (.tup [.int a,.str b,.int c,.str d])/\(0<=a/\a<m)/\(0<=c/\c<m)/\fK (.str b)=true/\fP (.str d)=true:=by
 cases ht:isTup H v with
 | false=>rw[rX ht]at h;cases h
 | true=>
  obtain⟨p,xs,rfl,hp⟩:=jd ht
  rw[cF hp]at h
  by_cases h4:xs.length=4
  ·obtain⟨a,b,c,d,rfl⟩:=four h4
   unfold eG at h
   simp only[Bool.and_eq_true]at h
   obtain⟨h1,h2,h3,h5⟩:=h
   cases a with
   | int i=>
    cases c with
    | int j=>
     cases b with
     | str y=>
      cases d with
      | str z=>
       unfold bR at h1 h2
       simp only[Bool.and_eq_true,decide_eq_true_eq]at h1 h2
       exact⟨p,i,y,j,z,rfl,hp,h1,h2,h3,h5⟩
      | _=>cases h5
     | _=>cases h3
    | _=>cases h2
   | _=>cases h1
  ·rw[ji h4]at h
   cases h
theorem qN{H:Hp}{m:Int}:∀{xs:List V},xs.all (bB H m)=true->∃bs:List Addr,xs=bs.map V.ref/\iP H bs (xs.map (cw H))
 | [],_=>⟨[],rfl,rfl,fun j b k e=>by simp at e⟩
 | x::xs,h=>by
  rw[List.all_cons,Bool.and_eq_true]at h
  obtain⟨bs,e,h1,h2⟩:=qN h.2
  obtain⟨p,a,b,c,d,rfl,hp,_⟩:=yi h.1
  refine⟨p::bs,by rw[List.map_cons,←e],by rw[List.length_cons,List.map_cons,List.length_cons,h1],fun j b' k e1 e2=>?_⟩
  cases j with
  | zero=>
   cases e1
   rw[List.map_cons,jM hp]at e2
   cases e2
   exact hp
  | succ j=>exact h2 j b' k e1 e2
theorem jU{H H':Hp}{m:Int}{n:Nat}{v:V}(e:Ext H H')(h:bf H n v):bB H' m v=bB H m v:=by
 cases v with
 | ref p=>
  cases n with
  | zero=>exact h.elim
  | succ n=>
   obtain⟨xs,h1,_⟩:=h
   unfold bB
   dsimp only
   rcases h1 with h1 | h1<;>rw[h1,e _ _ h1]
 | _=>rfl
theorem Cb{H H':Hp}{n:Nat}{v:V}(e:Ext H H')(h:bf H n v):cw H' v=cw H v:=by
 cases v with
 | ref p=>
  cases n with
  | zero=>exact h.elim
  | succ n=>
   obtain⟨xs,h1,_⟩:=h
   unfold cw
   dsimp only
   rcases h1 with h1 | h1<;>rw[h1,e _ _ h1]
 | _=>rfl
def eh(H:Hp)(m:Int)(xs:List V):Bool:=decide (xs.length<=100) && (xs.all (bB H m) && decide (xs.map (cw H)).Nodup)
def dA(H:Hp)(m:Int):V->Bool
 | .ref p=>match H p with
  | some (.tup xs)=>eh H m xs
  | _=>false
 | _=>false
theorem Cg{H:Hp}{m:Int}{v:V}(h:isTup H v=false):dA H m v=false:=by
 cases v with
 | ref p=>
  unfold isTup at h
  unfold dA
  dsimp only at h ⊢
  split
  ·rename_i xs e
   rw[e]at h
   cases h
  ·rfl
 | _=>rfl
theorem fh{H:Hp}{m:Int}{p:Addr}{xs:List V}(h:H p=some (.tup xs)):dA H m (.ref p)=eh H m xs:=by
 unfold dA
 dsimp only
 rw[h]
open Classical in
theorem i5{α:Type}:∀{D l:List α},D.Nodup->(∀k∈D,k∈l)->D.length<=l.length
 | [],l,_,_=>Nat.zero_le _
 | d::D,l,hn,hs=>by
  have hn':=List.nodup_cons.mp hn
  have hm:=hs d EO
  have:=i5 (D:=D) (l:=l.erase d) hn'.2 fun k hk=>(List.mem_erase_of_ne (by rintro rfl;exact hn'.1 hk)).mpr (hs k (EL _ hk))
  rw[List.length_erase_of_mem hm]at this
  have h0:0<l.length:=List.length_pos_of_mem hm
  rw[List.length_cons]
  omega
theorem nodup_iff{α:Type}{D l:List α}(hn:D.Nodup)(hm:∀k,k∈D↔k∈l):D.length=l.length↔l.Nodup:=by
 constructor
 ·intro e
  exact(wj hn (fun k hk=>(hm k).mp hk) e.symm).nodup_iff.mpr hn
 ·intro hl
  have h1:=i5 hn fun k hk=>(hm k).mp hk
  have h2:=i5 hl fun k hk=>(hm k).mpr hk
  omega
def vP(K:EE):Sp:=fun vs H Q _=>∃v m,vs=[v,.int m]/\bf H 3 v/\∀H',Ext H H'->Q (.bl (dA H m v)) H'
abbrev jG:Stmt:=stq 25
theorem v7:FnScope ["thing","many"] ["thing","many"] (aG jG):=⟨rfl,rfl,rfl,by decide +kernel,rfl,by decide +kernel,by decide +kernel⟩
theorem Bw{P:Program}{w:World}{K:EE}{mg:Str->Option Value}{base:Heap}(D:Dfn K mg "are_ways" jG ["thing","many"])(T:Blt mg)(g_GREATEST_WAYS:∃t,mg "GREATEST_WAYS" = some (.int 100 t))(C_is_way:Cal P w K mg base "is_way" 3 ["thing","many"] (uN K)):Cal P w K mg base "are_ways" 4 ["thing","many"] (vP K):=by
 have nd:=(v7).nd
 refine D.ok v7 (fun vs H Q E h=>?_) (fun X hX H vs Q E h=>?_)
 ·obtain⟨p,m,rfl,_⟩:=h;rfl
 ·obtain⟨f,cdv,A,outer,s,H0,E0,rfl,hr⟩:=hX
  obtain⟨t_GREATEST_WAYS,c_GREATEST_WAYS⟩:=g_GREATEST_WAYS
  obtain⟨v,m,rfl,ht,q⟩:=h
  obtain⟨n,hk⟩:=ht.kind
  refine⟨_,(ak (br (PW.pt (dn (dJ (cS (aT fN rfl T.isinstance_ PyProof.Rows.boot_isinstance (aa (pv 0) (aa (fb (v:=.ty "tuple") rfl T.tuple_ PyProof.Rows.boot_tuple rfl) af))))) (dZ (aM fg (aT (cG K) rfl T.len_ PySem.boot_len (aa (pv 0) af)) (bU (v:=.int 100) rfl c_GREATEST_WAYS ⟨_,rfl⟩) (aK _))))) (ar (aC cn)) aU)
    (ar (aC (eu (aT (zp K rfl) rfl T.all_ PyProof.Rows.boot_all (aa (eZ ["way"] [1] (jH K (pv 0)) (fun _=>(aR (i:=0) (show(["way","many"]:List Str).Nodup from by decide +kernel) rfl (Or.inl rfl) (Or.inr rfl))) (fun _=>eY) (fun _=>(az C_is_way hr (aa (pv 0) (aa (pv 1) af))))) af)) (eW (hZ bV (aT DG rfl T.len_ PySem.boot_len (aa (gm (DM hr) rfl T.set_ PyProof.Rows.boot_set (aa (pv 0) af)) af)) (aT (cG K) rfl T.len_ PySem.boot_len (aa (pv 0) af)) (aK _))))))),?_⟩
  walk_at "rd"
  refine f9 hk (mO hk) ?_
  walk_at "rd"
  cases hv:isTup H v with
  | false=>
   refine aB ?_
   walk_at "rd"
   rw[Cg hv]at q
   exact q H fun _ _ z=>z
  | true=>
   refine aw ?_
   obtain⟨p,xs,rfl,hp⟩:=jd hv
   obtain⟨hx1,hx2⟩:=ht.items hp
   rw[fh hp]at q
   unfold eh at q
   walk_at "rd"
   refine ip (aj.of hp) ?_
   walk_at "rd"
   by_cases h4:xs.length<=100
   ·rw[decide_eq_false (show ¬((100:Int)<((xs.length:Nat):Int)) by omega)]
    rw[decide_eq_true h4,Bool.true_and]at q
    refine aw ?_
    walk_at "rd"
    refine ku (aj.of hp) ?_
    refine lh (xs:=xs) (fun i ys H'=>Ext H H'/\ys=((xs.take i).map (bB H m)).map V.bl) (bX hx1) ⟨fun _ _ z=>z,rfl⟩ (fun i ys H' hi h=>⟨aj.of (h.1 _ _ hp),by rw[h.2,EI,EI,List.length_take];omega⟩) ?_ ?_
    ·rintro i x ys H' hx ⟨e,rfl⟩
     have hxt:=hx2 x (List.mem_of_getElem? hx)
     walk_at "rd"
     refine aB ?_
     walk_at "rd"
     refine⟨x,m,rfl,hxt.ext e,e,?_⟩
     rw[jU e hxt,List.take_add_one,hx]
     simp
    ·rintro ys H' pl ⟨e,rfl⟩ hpl
     rw[List.take_length]
     walk_at "rd"
     have eN:Ext H (upd H' pl (.lst ((xs.map (bB H m)).map V.bl))):=e.trans (bM hpl)
     refine⟨pl,xs.map (bB H m),rfl,ag.of aY,?_⟩
     have ea:(xs.map (bB H m)).all id=xs.all (bB H m):=by
      rw[List.all_map]
      rfl
     rw[ea]
     walk_at "rd"
     cases hall:xs.all (bB H m)with
     | false=>
      refine aw ?_
      rw[hall,Bool.false_and]at q
      exact q _ eN
     | true=>
      refine aB ?_
      rw[hall,Bool.true_and]at q
      obtain⟨bs,ebs,hka⟩:=qN hall
      generalize upd H' pl (.lst ((xs.map (bB H m)).map V.bl))=H2 at eN ⊢
      walk_at "rd"
      refine⟨p,bs,xs.map (cw H),rfl,.inl (by rw[←ebs];exact eN _ _ hp),hka.ext eN,by rw[EI];omega,fun l L hl hnd hmem hL=>?_⟩
      have hll:L.length<=xs.length:=by
       have:=i5 hnd fun k hk=>(hmem k).mp hk
       rwa [EI,EI]at this
      walk_at "rd"
      refine⟨l,L,rfl,aY,by omega,?_⟩
      walk_at "rd"
      have eL:Ext H (upd H2 l (kz P w l L)):=eN.trans (bM hl)
      refine ip (aj.of (eL _ _ hp)) ?_
      walk_at "rd"
      have hiff:=nodup_iff hnd hmem
      rw[EI,EI]at hiff
      have eb:decide ((((L.length:Nat):Int))=((xs.length:Nat):Int))=decide ((xs.map (cw H)).Nodup):=by
       by_cases hq:(xs.map (cw H)).Nodup
       ·rw[decide_eq_true (show((L.length:Nat):Int)=((xs.length:Nat):Int) by have:=hiff.mpr hq;omega)]
        exact(decide_eq_true hq).symm
       ·rw[decide_eq_false (show ¬((L.length:Nat):Int)=((xs.length:Nat):Int)from fun z=>hq (hiff.mp (by omega)))]
        exact(decide_eq_false hq).symm
      rw[eb]
      exact q _ eL
   ·rw[decide_eq_true (show((100:Int)<((xs.length:Nat):Int)) by omega)]
    rw[decide_eq_false h4,Bool.false_and]at q
    refine aB ?_
    walk_at "rd"
    exact q H fun _ _ z=>z
def dk(H:Hp):List V->Bool
 | [.int m,q]=>decide (1<=m) && (decide (m<=12) && dA H m q)
 | _=>false
def cz(H:Hp):V->Bool
 | .ref p=>match H p with
  | some (.tup xs)=>dk H xs
  | _=>false
 | _=>false
theorem Ck{H:Hp}{v:V}(h:isTup H v=false):cz H v=false:=by
 cases v with
 | ref p=>
  unfold isTup at h
  unfold cz
  dsimp only at h ⊢
  split
  ·rename_i xs e
   rw[e]at h
   cases h
  ·rfl
 | _=>rfl
theorem cx{H:Hp}{p:Addr}{xs:List V}(h:H p=some (.tup xs)):cz H (.ref p)=dk H xs:=by
 unfold cz
 dsimp only
 rw[h]
theorem jS{H:Hp}{xs:List V}(h:xs.length≠2):dk H xs=false:=by
 unfold dk
 split
 ·exact absurd rfl h
 ·rfl
theorem Ed{H:Hp}{a b:V}(h:isInt a=false):dk H [a,b]=false:=by
 cases a<;>first | rfl | cases h
theorem xK{xs:List V}(h:xs.length=2):∃a b,xs=[a,b]:=by
 match xs,h with
 | [a,b],_=>exact⟨a,b,rfl⟩
def qL(K:EE):Sp:=fun vs H Q _=>∃v,vs=[v]/\bf H 4 v/\∀H',Ext H H'->Q (.bl (cz H v)) H'
abbrev kf:Stmt:=stq 26
theorem sE:FnScope ["thing"] ["thing"] (aG kf):=⟨rfl,rfl,rfl,by decide +kernel,rfl,by decide +kernel,by decide +kernel⟩
theorem yD{P:Program}{w:World}{K:EE}{mg:Str->Option Value}{base:Heap}(D:Dfn K mg "is_house" kf ["thing"])(T:Blt mg)(g_GREATEST_MANY:∃t,mg "GREATEST_MANY" = some (.int 12 t))(C_are_ways:Cal P w K mg base "are_ways" 4 ["thing","many"] (vP K))(C_is_whole:Cal P w K mg base "is_whole" 1 ["thing"] (nc K)):Cal P w K mg base "is_house" 5 ["thing"] (qL K):=by
 have nd:=(sE).nd
 refine D.ok sE (fun vs H Q E h=>?_) (fun X hX H vs Q E h=>?_)
 ·obtain⟨p,rfl,_⟩:=h;rfl
 ·obtain⟨f,cdv,A,outer,s,H0,E0,rfl,hr⟩:=hX
  obtain⟨t_GREATEST_MANY,c_GREATEST_MANY⟩:=g_GREATEST_MANY
  obtain⟨v,rfl,ht,q⟩:=h
  obtain⟨n,hk⟩:=ht.kind
  refine⟨_,(ak (br (PW.pt (dn (dJ (cS (aT fN rfl T.isinstance_ PyProof.Rows.boot_isinstance (aa (pv 0) (aa (fb (v:=.ty "tuple") rfl T.tuple_ PyProof.Rows.boot_tuple rfl) af))))) (dZ (aM cL (aT (cG K) rfl T.len_ PySem.boot_len (aa (pv 0) af)) ae (aK _))))) (ar (aC cn)) aU)
    (ar (aC (eu (az C_is_whole hr (aa (ao (ay K) (pv 0) ae (fun _ _=>rfl)) af)) (eu (mS jV jV ae (ao (ay K) (pv 0) ae (fun _ _=>rfl)) (bU (v:=.int 12) rfl c_GREATEST_MANY ⟨_,rfl⟩)) (eW (az C_are_ways hr (aa (ao (ay K) (pv 0) ae (fun _ _=>rfl)) (aa (ao (ay K) (pv 0) ae (fun _ _=>rfl)) af))))))))),?_⟩
  walk_at "rd"
  refine f9 hk (mO hk) ?_
  walk_at "rd"
  cases hv:isTup H v with
  | false=>
   refine aB ?_
   walk_at "rd"
   rw[Ck hv]at q
   exact q H fun _ _ z=>z
  | true=>
   refine aw ?_
   obtain⟨p,xs,rfl,hp⟩:=jd hv
   obtain⟨hx1,hx2⟩:=ht.items hp
   rw[cx hp]at q
   walk_at "rd"
   refine ip (aj.of hp) ?_
   walk_at "rd"
   by_cases h4:xs.length=2
   ·obtain⟨a,b,rfl⟩:=xK h4
    have ta:=hx2 a (by simp)
    have tb:=hx2 b (by simp)
    obtain⟨ka,hka⟩:=ta.kind
    refine aw ?_
    walk_at "rd"
    refine ax (aj.of hp) (v:=a) rfl ?_
    walk_at "rd"
    refine⟨a,ka,rfl,hka,?_⟩
    refine rd_exb ?_
    cases ha:isInt a with
    | false=>
     refine aw ?_
     rw[Ed ha]at q
     exact q H fun _ _ z=>z
    | true=>
     obtain⟨m,rfl⟩:=ph ha
     refine aB ?_
     unfold dk at q
     dsimp only at q
     walk_at "rd"
     refine ax (aj.of hp) (v:=.int m) rfl ?_
     walk_at "rd"
     cases h1:decide (1<=m)with
     | false=>
      refine aw ?_
      walk_at "rd"
      refine aw ?_
      rw[h1]at q
      exact q H fun _ _ z=>z
     | true=>
      refine aB ?_
      walk_at "rd"
      rw[h1,Bool.true_and]at q
      cases h2:decide (m<=12)with
      | false=>
       refine aw ?_
       rw[h2]at q
       exact q H fun _ _ z=>z
      | true=>
       refine aB ?_
       walk_at "rd"
       refine ax (aj.of hp) (v:=b) rfl ?_
       walk_at "rd"
       refine ax (aj.of hp) (v:=.int m) rfl ?_
       walk_at "rd"
       rw[h2,Bool.true_and]at q
       exact⟨b,m,rfl,tb,q⟩
   ·rw[jS h4]at q
    rw[decide_eq_false (show ¬((xs.length:Nat):Int)=2 by omega)]
    refine aB ?_
    walk_at "rd"
    exact q H fun _ _ z=>z
def cj(H:Hp)(p:Addr)(kk:List (List Key)):Prop:=∃bs:List Addr,H p=some (.tup (bs.map V.ref))/\bs.length=kk.length/\∀(j:Nat) (b:Addr) (k:List Key),bs[j]?=some b->kk[j]?=some k->H b=some (.tup (k.map kV))
theorem cj.ext{H H':Hp}{p:Addr}{kk:List (List Key)}(e:Ext H H')(h:cj H p kk):cj H' p kk:=by
 obtain⟨bs,h1,h2,h3⟩:=h
 exact⟨bs,e _ _ h1,h2,fun j b k e1 e2=>e _ _ (h3 j b k e1 e2)⟩
structure Way where
 room:Int
 deed:Str
 other:Int
 sign:Str
 deriving DecidableEq
abbrev Way.key(w:Way):List Key:=[.inl w.room,.inr w.deed,.inl w.other,.inr w.sign]
abbrev Way.vs(w:Way):List V:=[.int w.room,.str w.deed,.int w.other,.str w.sign]
theorem Way.key_inj{w u:Way}(h:w.key=u.key):w=u:=by
 cases w;cases u
 simp only[Way.key,List.cons.injEq,Sum.inl.injEq,Sum.inr.injEq]at h
 obtain⟨rfl,rfl,rfl,rfl,_⟩:=h
 rfl
def gp(z:Str):Prop:=∃c:Nat,97<=c/\c<=122/\z=⟨#[c]⟩
def bu(z:Str):Prop:=z = "up"\/z = "down"\/z = "stay"\/z = "zero"
structure Way.Ok(m:Int)(w:Way):Prop where
 r0:0<=w.room
 r1:w.room<m
 o0:0<=w.other
 o1:w.other<m
 dd:bu w.deed
 sg:gp w.sign
structure HOuse(m:Int)(ws:List Way):Prop where
 m1:1<=m
 m12:m<=12
 few:ws.length<=100
 ok:∀w∈ws,w.Ok m
 nd:ws.Nodup
def aW(H:Hp)(v:V)(m:Int)(ws:List Way):Prop:=∃p q,v=.ref p/\H p=some (.tup [.int m,.ref q])/\cj H q (ws.map Way.key)
theorem aW.ext{H H':Hp}{v:V}{m:Int}{ws:List Way}(e:Ext H H')(h:aW H v m ws):aW H' v m ws:=by
 obtain⟨p,q,rfl,h1,h2⟩:=h
 exact⟨p,q,rfl,e _ _ h1,h2.ext e⟩
theorem cj.item{H:Hp}{ws:List Way}{bs:List Addr}(h:∀(j:Nat) (b:Addr) (k:List Key),bs[j]?=some b->(ws.map Way.key)[j]?=some k->H b=some (.tup (k.map kV))){j:Nat}{b:Addr}{w:Way}(e1:bs[j]?=some b)(e2:ws[j]?=some w):H b=some (.tup w.vs):=
 h j b w.key e1 (by rw[EK,e2];rfl)
def aP(H:Hp)(bs:List Addr)(ws:List Way):Prop:=bs.length=ws.length/\∀(j:Nat) (b:Addr) (w:Way),bs[j]?=some b->ws[j]?=some w->H b=some (.tup w.vs)
theorem aP.ext{H H':Hp}{bs:List Addr}{ws:List Way}(e:Ext H H')(h:aP H bs ws):aP H' bs ws:=⟨h.1,fun j b w e1 e2=>e _ _ (h.2 j b w e1 e2)⟩
theorem aP.put{H:Hp}{f:Addr}{xs ys:List V}{bs:List Addr}{ws:List Way}(hf:H f=some (.lst xs))(h:aP H bs ws):aP (upd H f (.lst ys)) bs ws:=⟨h.1,fun j b w e1 e2=>by
 have:=h.2 j b w e1 e2
 rw[aL (du this hf (by intro z;cases z))]
 exact this⟩
theorem aP.nil(H:Hp):aP H [] []:=⟨rfl,fun j b w e=>by simp at e⟩
theorem aP.snoc{H:Hp}{bs:List Addr}{ws:List Way}{b:Addr}{w:Way}(h:aP H bs ws)(hb:H b=some (.tup w.vs)):aP H (bs++[b]) (ws++[w]):=by
 refine⟨by simp[h.1],fun j b' w' e1 e2=>?_⟩
 rcases Nat.lt_or_ge j bs.length with hj | hj
 ·rw[List.getElem?_append_left hj]at e1
  rw[List.getElem?_append_left (by rw[←h.1];exact hj)]at e2
  exact h.2 j b' w' e1 e2
 ·rw[List.getElem?_append_right hj]at e1
  rw[List.getElem?_append_right (by rw[←h.1];exact hj),←h.1]at e2
  cases hk:j-bs.length with
  | zero=>
   rw[hk]at e1 e2
   cases e1;cases e2
   exact hb
  | succ k=>rw[hk]at e1;simp at e1
theorem aP.ways{H:Hp}{p:Addr}{bs:List Addr}{ws:List Way}(h:aP H bs ws)(hp:H p=some (.tup (bs.map V.ref))):cj H p (ws.map Way.key):=
 ⟨bs,hp,by rw[EI];exact h.1,fun j b k e1 e2=>by
  rw[EK]at e2
  obtain⟨w,hw,rfl⟩:=Option.map_eq_some_iff.mp e2
  exact h.2 j b w e1 hw⟩
theorem cj.al{H:Hp}{p:Addr}{ws:List Way}(h:cj H p (ws.map Way.key)):∃bs:List Addr,H p=some (.tup (bs.map V.ref))/\aP H bs ws:=by
 obtain⟨bs,h1,h2,h3⟩:=h
 rw[EI]at h2
 exact⟨bs,h1,h2,fun j b w e1 e2=>cj.item h3 e1 e2⟩
abbrev Way.D(w:Way):PyData:=.tuple [.int w.room,.str w.deed,.int w.other,.str w.sign]
structure Way.Lay(w:Way):Prop where
 d:(PyData.str w.deed).canLay0=true
 s:(PyData.str w.sign).canLay0=true
theorem xT:∀c:Fin 123,97<=c.1->(PyData.str ⟨#[c.1]⟩).canLay0=true:=by decide +kernel
theorem Way.Ok.lay{m:Int}{w:Way}(h:w.Ok m):w.Lay:=by
 constructor
 ·rcases h.dd with e | e | e | e<;>rw[e]<;>decide +kernel
 ·obtain⟨c,h1,h2,e⟩:=h.sg
  rw[e]
  exact xT ⟨c,Nat.lt_succ_of_le h2⟩ h1
theorem Way.rep{H:Hp}{b:Addr}{w:Way}(h:H b=some (.tup w.vs))(l:w.Lay):bF H 1 (.ref b) w.D:=
 .inr ⟨b,w.vs,_,rfl,.inl ⟨h,rfl⟩,.cons rfl (.cons ⟨rfl,l.d⟩ (.cons rfl (.cons ⟨rfl,l.s⟩ .nil)))⟩
theorem Way.eqv(w u:Way):PyData.eqv w.D u.D=decide (w=u):=by
 simp only[PyData.eqv,PyData.eqvAll]
 by_cases h:w=u
 ·subst h;simp
 ·rw[decide_eq_false h]
  obtain⟨a,b,c,d⟩:=w
  obtain⟨a',b',c',d'⟩:=u
  simp only[Way.mk.injEq,not_and]at h
  simp only[Bool.and_true,Bool.and_eq_false_iff,beq_eq_false_iff_ne]
  by_cases h1:a=a'
  ·by_cases h2:b=b'
   ·by_cases h3:c=c'
    ·exact .inr (.inr (.inr (h h1 h2 h3)))
    ·exact .inr (.inr (.inl h3))
   ·exact .inr (.inl h2)
  ·exact .inl h1
theorem aP.reps{H:Hp}:∀{bs:List Addr} {ws:List Way},aP H bs ws->(∀w∈ws,w.Lay)->Paired (bF H 1) (bs.map V.ref) (ws.map Way.D)
 | [],[],_,_=>.nil
 | [],_::_,h,_=>by cases h.1
 | _::_,[],h,_=>by cases h.1
 | b::bs,w::ws,h,l=>.cons (Way.rep (h.2 0 b w rfl rfl) (l w EO)) (aP.reps ⟨Nat.succ.inj h.1,fun j b w e1 e2=>h.2 (j+1) b w e1 e2⟩ fun u hu=>l u (EL _ hu))
theorem Cv(ws:List Way)(w:Way):((ws.map Way.D).any fun e=>PyData.eqv e w.D)=decide (w∈ws):=by
 rw[List.any_map]
 induction ws with
 | nil=>rfl
 | cons u ws ih=>
  rw[List.any_cons,ih,Function.comp_apply,Way.eqv]
  by_cases h:w∈ws
  ·simp[h]
  ·by_cases e:u=w
   ·simp[e]
   ·have:¬w=u:=fun z=>e z.symm
    simp[h,e,this]
def mW(K:EE):Sp:=fun vs H Q _=>∃l bs ws,vs=[.ref l]/\H l=some (.lst (bs.map V.ref))/\aP H bs ws/\(∀w∈ws,Way.Lay w)/\ws.length<=200 ∧
 ∀q H' us,Ext H H'->cj H' q (List.map Way.key us)->us.Nodup->(∀u∈us,u∈ws)->us.length<=ws.length->Q (.ref q) H'
abbrev jF:Stmt:=stq 63
theorem ue:FnScope ["_law_ways","_law_found","_law_way"] ["_law_ways"] (aG jF):=⟨rfl,rfl,rfl,by decide +kernel,rfl,by decide +kernel,by decide +kernel⟩
theorem zd{P:Program}{w:World}{K:EE}{mg:Str->Option Value}{base:Heap}(D:Dfn K mg "_law_unlike" jF ["_law_ways"])(T:Blt mg):Cal P w K mg base "_law_unlike" 1 ["_law_ways"] (mW K):=by
 have nd:=(ue).nd
 refine D.ok ue (fun vs H Q E h=>?_) (fun X hX H vs Q E h=>?_)
 ·obtain⟨l,bs,ws,rfl,_⟩:=h;rfl
 ·obtain⟨f,cdv,A,outer,s,H0,E0,rfl,hr⟩:=hX
  obtain⟨l,bs,ws,rfl,hl,al,lay,hlen,q⟩:=h
  refine⟨_,(ak (aA (i:=1) nd rfl (Or.inl rfl) (aQ af))
    (ak (bJ PassesOwn.never rfl (dH K (pv 0)) (aR (i:=2) nd rfl (Or.inl rfl)) (ar (dG (aM (BB hr) (pv 2) (pv 1) (by with_unfolding_all rfl)) (ar (bw (bE K ER PySem.F.slot_list_append PySem.F.type_list_append bW (pv 1) (aa (pv 2) af)))) aU)))
    (ar (aC (gm (nP K) rfl T.tuple_ PyProof.Rows.boot_tuple (aa (pv 1) af)))))),?_⟩
  walk_at "rd"
  refine⟨ai (by simp),ah fun f H1 e1 hf hfn=>?_⟩
  walk_at "rd"
  refine dU (ag.of (e1 _ _ hl)) ?_
  refine forL (xs:=bs.map V.ref) (fun i σ H2=>Ext H H2/\∃(k:Option V) (cs:List Addr) (us:List Way),σ=[some (.ref l),some (.ref f),k]/\H2 f=some (.lst (cs.map V.ref))/\aP H2 cs us/\us.Nodup/\(∀u∈us,u∈ws)/\us.length<=i)
   ⟨e1,none,[],[],rfl,hf,aP.nil _,List.nodup_nil,fun u hu=>by simp at hu,Nat.le_refl _⟩ (fun i σ H2 _ h=>ag.of (h.1 _ _ hl)) ?_ ?_
  ·rintro i x σ H2 hx ⟨e2,k,cs,us,rfl,hf2,al2,nd2,sub2,len2⟩
   rw[EK]at hx
   obtain⟨b,hb,rfl⟩:=Option.map_eq_some_iff.mp hx
   have hi:i<ws.length:=by
    rw[←al.1]
    exact(List.getElem?_eq_some_iff.mp hb).1
   have hwi:ws[i]?=some ws[i]:=EJ hi
   have hbw:=e2 _ _ (al.2 i b _ hb hwi)
   walk_at "rd"
   refine eV ?_
   walk_at "rd"
   refine yV (Way.rep hbw (lay _ (List.getElem_mem hi))) hf2 (al2.reps fun u hu=>lay u (sub2 u hu)) (by decide) ?_
   simp only[if_true,Cv]
   refine rd_exb ?_
   by_cases hm:ws[i]∈us
   ·rw[decide_eq_true hm]
    refine aw ?_
    walk_at "rd"
    exact⟨e2,_,cs,us,rfl,hf2,al2,nd2,sub2,by omega⟩
   ·rw[decide_eq_false hm]
    refine aB ?_
    walk_at "rd"
    refine⟨bS (ag.of hf2),?_⟩
    walk_at "rd"
    refine bQ hf2 (by rw[EI,al2.1];exact Nat.lt_of_le_of_lt (show us.length<=1000 by omega) (by decide)) ?_
    walk_at "rd"
    refine⟨cu e2 hfn,_,cs++[b],us++[ws[i]],rfl,by rw[aY,List.map_append];rfl,(al2.put hf2).snoc ?_,?_,?_,by simp;omega⟩
    ·rw[aL (du hbw hf2 (by intro z;cases z))]
     exact hbw
    ·rw[List.nodup_append]
     exact⟨nd2,by simp,fun a ha c hc=>by rw[List.mem_singleton.mp hc];exact fun z=>hm (z ▸ ha)⟩
    ·intro u hu
     rcases List.mem_append.mp hu with hu | hu
     ·exact sub2 u hu
     ·rw[List.mem_singleton.mp hu];exact List.getElem_mem hi
  ·rintro σ H2 ⟨e2,k,cs,us,rfl,hf2,al2,nd2,sub2,len2⟩
   walk_at "rd"
   refine lr (ag.of hf2) (ah fun p H3 e3 hp _=>?_)
   exact q p H3 us (e2.trans e3) ((al2.ext e3).ways hp) nd2 sub2 (by rw[EI,al.1]at len2;exact len2)
theorem yI{ds:List Int}{i:Nat}(h:i+4<=ds.length):∃a b c d,ck (ds.map V.int) (some (i:Int)) (some ((i+4:Nat):Int))=[.int a,.int b,.int c,.int d]/\ds[i]?=some a/\ds[i+1]?=some b/\ds[i+2]?=some c/\ds[i+3]?=some d:=by
 refine⟨ds[i],ds[i+1],ds[i+2],ds[i+3],?_,EJ _,EJ _,EJ _,EJ _⟩
 unfold ck
 rw[HT.nS,HT.nS,EI,Nat.min_eq_left (by omega),Nat.min_eq_left (by omega),show i+4-i=4 by omega,←List.map_drop,←List.map_take]
 rw[List.drop_eq_getElem_cons (show i<ds.length by omega),List.drop_eq_getElem_cons (show i+1<ds.length by omega),List.drop_eq_getElem_cons (show i+1+1<ds.length by omega),List.drop_eq_getElem_cons (show i+1+1+1<ds.length by omega)]
 rfl
def dP:List Int:=[8,12,13,31]++(List.replicate 30 ([12,6,12,3]:List Int)).flatten
theorem Er{k:Nat}(h:k<30):dP[4+4*k]?=some 12/\dP[4+4*k+1]?=some 6/\dP[4+4*k+2]?=some 12/\dP[4+4*k+3]?=some 3:=by
 have:∀k:Fin 30,dP[4+4*k.val]?=some 12/\dP[4+4*k.val+1]?=some 6/\dP[4+4*k.val+2]?=some 12/\dP[4+4*k.val+3]?=some 3:=by decide +kernel
 exact this ⟨k,h⟩
def oX(K:EE):Sp:=fun vs H Q _=>∃c p,vs=[.int c,.int p]/\0<p/\∀v m ws H',Ext H H'->aW H' v m ws->HOuse m ws->Q v H'
theorem zg{e:Int}(h0:0<=e)(h1:e<6):∃z,bK ([.str "up",.str "down",.str "stay",.str "zero",.str "up",.str "down"]:List V) e=some (.str z)/\bu z:=by
 have:e=0\/e=1\/e=2\/e=3\/e=4\/e=5:=by omega
 rcases this with rfl | rfl | rfl | rfl | rfl | rfl
 ·exact⟨_,rfl,.inl rfl⟩
 ·exact⟨_,rfl,.inr (.inl rfl)⟩
 ·exact⟨_,rfl,.inr (.inr (.inl rfl))⟩
 ·exact⟨_,rfl,.inr (.inr (.inr rfl))⟩
 ·exact⟨_,rfl,.inl rfl⟩
 ·exact⟨_,rfl,.inr (.inl rfl)⟩
theorem yA:(Str.ofString "abc").cps.toList=[97,98,99]:=by decide +kernel
theorem yX{e:Int}(h0:0<=e)(h1:e<3):∃c,bK (Str.ofString "abc").cps.toList e=some c/\97<=c/\c<=122:=by
 rw[yA]
 have:e=0\/e=1\/e=2:=by omega
 rcases this with rfl | rfl | rfl
 ·exact⟨97,rfl,by decide,by decide⟩
 ·exact⟨98,rfl,by decide,by decide⟩
 ·exact⟨99,rfl,by decide,by decide⟩
theorem AL{e:Int}(h0:0<=e)(h1:e<8):∃w:Int,bK (([4,4,4,5,3,2,5,12]:List Int).map V.int) e=some (.int w)/\1<=w/\w<=12:=by
 have:e=0\/e=1\/e=2\/e=3\/e=4\/e=5\/e=6\/e=7:=by omega
 rcases this with rfl | rfl | rfl | rfl | rfl | rfl | rfl | rfl<;>exact⟨_,rfl,by decide,by decide⟩
theorem aW.mk{H:Hp}{p q:Addr}{m:Int}{ws:List Way}(h1:H p=some (.tup [.int m,.ref q]))(h2:cj H q (ws.map Way.key)):aW H (.ref p) m ws:=⟨p,q,rfl,h1,h2⟩
abbrev lb:Stmt:=stq 64
theorem qB:FnScope ["_law_cell_here","_law_prime","_law_draws_here","_law_many","_law_often","_law_ways","_law_k","_law_room","_law_deed","_law_other","_law_sign","_law_word"] ["_law_cell_here","_law_prime"] (aG lb):=⟨rfl,rfl,rfl,by decide +kernel,rfl,by decide +kernel,by decide +kernel⟩
theorem xh{P:Program}{w:World}{K:EE}{mg:Str->Option Value}{base:Heap}(D:Dfn K mg "_law_drawn_house" lb ["_law_cell_here","_law_prime"])(T:Blt mg)(C__law_unlike:Cal P w K mg base "_law_unlike" 1 ["_law_ways"] (mW K))(C__law_draws:Cal P w K mg base "_law_draws" 2 ["_law_cell_here","_law_widths","_law_prime"] (fQ K)):Cal P w K mg base "_law_drawn_house" 3 ["_law_cell_here","_law_prime"] (oX K):=by
 have nd:=(qB).nd
 refine D.ok qB (fun vs H Q E h=>?_) (fun X hX H vs Q E h=>?_)
 ·obtain⟨c,p,rfl,_⟩:=h;rfl
 ·obtain⟨f,cdv,A,outer,s,H0,E0,rfl,hr⟩:=hX
  obtain⟨c,p,rfl,hp,q⟩:=h
  refine⟨_,(@ak _ _ _ _ _ (@aA _ _ 2 _ _ _ _ nd rfl (Or.inl rfl) (az C__law_draws hr (@aa _ _ _ _ _ (pv 0) (@aa _ _ _ _ _ (aq gq (@aQ _ _ _ _ (iI (.c (.c (.c (.c .n)))))) (aq vD (@aQ _ _ _ _ (iI (.c (.c (.c (.c .n)))))) ae)) (@aa _ _ _ _ _ (pv 1) af rfl) rfl) rfl)) rfl (Or.inl rfl))
    (@ak _ _ _ _ _ (@aA _ _ 3 _ _ _ _ nd rfl (Or.inl rfl) (aq aS ae (aq bP (@ao _ _ _ _ _ _ _ (aJ K) (pv 2) ae (fun _ _=>rfl)) (@ao _ _ _ _ _ _ _ (aJ K) (@aQ _ _ _ _ (iI (.c (.c (.c (.c (.c (.c (.c (.c .n)))))))))) (@ao _ _ _ _ _ _ _ (aJ K) (pv 2) ae (fun _ _=>rfl)) (fun _ _=>rfl)))) rfl (Or.inl rfl))
    (@ak _ _ _ _ _ (@aA _ _ 4 _ _ _ _ nd rfl (Or.inl rfl) (@ao _ _ _ _ _ _ _ (aJ K) (pv 2) ae (fun _ _=>rfl)) rfl (Or.inl rfl))
    (@ak _ _ _ _ _ (dG (aM bV (@ao _ _ _ _ _ _ _ (aJ K) (pv 2) ae (fun _ _=>rfl)) ae (aK _)) (@ar _ _ _ (@aA _ _ 4 _ _ _ _ nd rfl (Or.inl rfl) (@ao _ _ _ _ _ _ _ (aJ K) (pv 2) ae (fun _ _=>rfl)) rfl (Or.inl rfl))) aU)
    (@ak _ _ _ _ _ (@aA _ _ 5 _ _ _ _ nd rfl (Or.inl rfl) (@aQ _ _ _ _ af) rfl (Or.inl rfl))
    (@ak _ _ _ _ _ (bJ PassesOwn.never rfl (dC rfl T.range_ (@aa _ _ _ _ _ (pv 4) af rfl)) (aR (i:=6) nd rfl (Or.inl rfl)) (@ak _ _ _ _ _ (@mh _ _ _ _ _ _ (jl (vS K) (pv 2) (gL (aq aS ae (aq cR ae (pv 6)))) (gL (aq aS ae (aq cR ae (pv 6))))) (zP (n:=4) K rfl (cq (aR (i:=7) nd rfl (Or.inl rfl)) (cq (aR (i:=8) nd rfl (Or.inl rfl)) (cq (aR (i:=9) nd rfl (Or.inl rfl)) (cq (aR (i:=10) nd rfl (Or.inl rfl)) fS))))) rfl rfl rfl)
    (@ak _ _ _ _ _ (@aA _ _ 11 _ _ _ _ nd rfl (Or.inl rfl) (@ao _ _ _ _ _ _ _ (aJ K) (@aQ _ _ _ _ (@aa _ _ _ _ _ av (@aa _ _ _ _ _ av (@aa _ _ _ _ _ av (@aa _ _ _ _ _ av (@aa _ _ _ _ _ av (@aa _ _ _ _ _ av af rfl) rfl) rfl) rfl) rfl) rfl)) (pv 8) (fun _ _=>rfl)) rfl (Or.inl rfl))
    (@ar _ _ _ (bw (bE K ER PySem.F.slot_list_append PySem.F.type_list_append bW (pv 5) (@aa _ _ _ _ _ (@aF _ _ _ _ _ (@aa _ _ _ _ _ (aq bP (pv 7) (pv 3)) (@aa _ _ _ _ _ (pv 11) (@aa _ _ _ _ _ (aq bP (pv 9) (pv 3)) (@aa _ _ _ _ _ (@ao _ _ _ _ _ _ _ su av (pv 10) (fun _ _=>rfl)) af rfl) rfl) rfl) rfl)) af rfl)))))))
    (@ar _ _ _ (@aC _ _ _ _ (@aF _ _ _ _ _ (@aa _ _ _ _ _ (pv 3) (@aa _ _ _ _ _ (az C__law_unlike hr (@aa _ _ _ _ _ (pv 5) af rfl)) af rfl) rfl)))))))))),?_⟩
  walk_at "rd"
  refine⟨ai (by simp),ah fun w0 G1 f1 hw0 _=>?_⟩
  walk_at "rd"
  refine⟨ai (by simp),ah fun w1 G2 f2 hw1 _=>?_⟩
  walk_at "rd"
  refine vq hw1 (by omega) (ai (by decide)) (ah fun w2 G3 f3 hw2 _=>?_)
  walk_at "rd"
  refine dX (f3 _ _ (f2 _ _ hw0)) hw2 (ai (by decide)) (ah fun w3 G4 f4 hw3 _=>?_)
  walk_at "rd"
  refine⟨c,w3,dP,p,rfl,hw3,by decide +kernel,by decide +kernel,hp,fun dq ds H1 e1 hd hdn hl hb=>?_⟩
  have eH:Ext H H1:=f1.trans (f2.trans (f3.trans (f4.trans e1)))
  have hl':ds.length=124:=hl
  have at_:∀(i:Nat) (x:Int),dP[i]?=some x->∃d,ds[i]?=some d/\0<=d/\d<x:=fun i x hx=>by
   have hi:i<ds.length:=by
    rw[hl]
    exact(List.getElem?_eq_some_iff.mp hx).1
   exact⟨ds[i],EJ hi,hb i _ x (EJ hi) hx⟩
  obtain⟨d0,g0,b00,b01⟩:=at_ 0 8 rfl
  obtain⟨d1,g1,b10,b11⟩:=at_ 1 12 rfl
  obtain⟨d2,g2,b20,b21⟩:=at_ 2 13 rfl
  obtain⟨d3,g3,b30,b31⟩:=at_ 3 31 rfl
  have pick:∀{i:Nat} {d:Int},ds[i]?=some d->bK (ds.map V.int) (i:Int)=some (.int d):=fun{i d} h=>eD (by rw[EK,h];rfl)
  walk_at "rd"
  refine aI (ag.of hd) (pick (i:=1) g1) ?_
  walk_at "rd"
  refine⟨ai (by simp),ah fun mq H2 e2 hmq _=>?_⟩
  walk_at "rd"
  refine aI (ag.of (e2 _ _ hd)) (pick (i:=0) g0) ?_
  obtain⟨w,hw,hw1',hw2'⟩:=AL b00 b01
  refine aI (ag.of hmq) hw ?_
  try refine rd_I (show(0:Int)<w by omega) ?_
  walk_at "rd"
  have r0:0<=d1 % w:=Int.emod_nonneg _ (by omega)
  have r1:d1 % w<w:=Int.emod_lt_of_pos _ (by omega)
  obtain⟨m,hm,m1,m2⟩:∃m,1+d1 % w=m/\1<=m/\m<=12:=⟨_,rfl,by omega,by omega⟩
  rw[hm]
  refine aI (ag.of (e2 _ _ hd)) (pick (i:=2) g2) ?_
  walk_at "rd"
  have eH2:Ext H H2:=eH.trans e2
  have hd2:=e2 _ _ hd
  refine iO (fun σ' H'=>H'=H2/\∃o:Nat,o<=30/\σ'=[some (.int c),some (.int p),some (.ref dq),some (.int m),some (.int o),none,none,none,none,none,none,none]) ?_ ?_
  ·walk_at "rd"
   refine aI (ag.of hd2) (pick (i:=0) g0) ?_
   walk_at "rd"
   refine cN (fun h=>?_) (fun h=>?_)
   ·walk_at "rd"
    refine aI (ag.of hd2) (pick (i:=3) g3) ?_
    walk_at "rd"
    exact⟨rfl,d3.toNat,by omega,by rw[Int.toNat_of_nonneg b30];rfl⟩
   ·walk_at "rd"
    exact⟨rfl,d2.toNat,by omega,by rw[Int.toNat_of_nonneg b20];rfl⟩
  rintro σ' H' ⟨rfl,o,ho,rfl⟩
  clear hw hw1' hw2' r0 r1 b00 b01 b10 b11 b20 b21 b30 b31
  walk_at "rd"
  refine⟨ai (by simp),ah fun f H3 e3 hf hfn=>?_⟩
  walk_at "rd"
  refine dD (by omega) ?_
  refine forR (fun i σ H4=>Ext H' H4/\∃(k1 k2 k3 k4 k5 k6:Option V) (cs:List Addr) (us:List Way),σ=[some (.int c),some (.int p),some (.ref dq),some (.int m),some (.int o),some (.ref f),k1,k2,k3,k4,k5,k6]/\H4 f=some (.lst (cs.map V.ref))/\aP H4 cs us/\(∀u∈us,u.Ok m)/\us.length=i)
   ⟨e3,none,none,none,none,none,none,[],[],rfl,hf,aP.nil _,fun u hu=>by simp at hu,rfl⟩ ?_ ?_
  ·rintro i σ H4 hi ⟨e4,k1,k2,k3,k4,k5,k6,cs,us,rfl,hf4,al,ok,len⟩
   rw[Int.toNat_natCast]at hi
   have hi30:i<30:=by omega
   obtain⟨a,b,c',d,hcut,ga,gb,gc,gd⟩:=yI (ds:=ds) (i:=4+4*i) (by omega)
   obtain⟨y0,y1,y2,y3⟩:=Er hi30
   have ba:=hb _ _ _ ga y0
   have bb:=hb _ _ _ gb y1
   have bc:=hb _ _ _ gc y2
   have bd:=hb _ _ _ gd y3
   have hd4:=e4 _ _ hd2
   walk_at "rd"
   refine oY (ag.of hd4) (ah fun t H5 e5 ht htn=>?_)
   rw[show (4:Int)+4*(0+(i:Int))=((4+4*i:Nat):Int) by omega,show (8:Int)+4*(0+(i:Int))=((4+4*i+4:Nat):Int) by omega,hcut]at ht
   walk_at "rd"
   refine A5 (ag.of ht) rfl ?_
   walk_at "rd"
   refine⟨ai (by simp),ah fun u1 H6 e6 hu1 _=>?_⟩
   walk_at "rd"
   obtain⟨z,hz,okz⟩:=zg bb.1 bb.2
   refine aI (ag.of hu1) hz ?_
   walk_at "rd"
   have hf6:=e6 _ _ (e5 _ _ hf4)
   refine⟨bS (ag.of hf6),?_⟩
   walk_at "rd"
   try refine rd_I (show(0:Int)<m by omega) ?_
   walk_at "rd"
   try refine rd_I (show(0:Int)<m by omega) ?_
   walk_at "rd"
   obtain⟨s,hs,s1,s2⟩:=yX bd.1 bd.2
   refine⟨_,_,s,rfl,rfl,bX (by decide +kernel),hs,?_⟩
   walk_at "rd"
   refine⟨ai (by simp),ah fun v H7 e7 hv _=>?_⟩
   have hf7:=e7 _ _ hf6
   walk_at "rd"
   refine bQ hf7 (by rw[EI,al.1,len];exact Nat.lt_of_le_of_lt (show i<=1000 by omega) (by decide)) ?_
   walk_at "rd"
   have al7:aP H7 cs us:=((al.ext e5).ext e6).ext e7
   have hv7:H7 v=some (.tup (Way.vs ⟨a % m,z,c' % m,⟨#[s]⟩⟩)):=hv
   refine⟨cu (e4.trans (e5.trans (e6.trans e7))) hfn,_,_,_,_,_,_,cs++[v],us++[⟨a % m,z,c' % m,⟨#[s]⟩⟩],rfl,by rw[aY,List.map_append];rfl,(al7.put hf7).snoc ?_,?_,by simp[len]⟩
   ·rw[aL (du hv7 hf7 (by intro z;cases z))]
    exact hv7
   ·intro u hu
    rcases List.mem_append.mp hu with hu | hu
    ·exact ok u hu
    ·rw[List.mem_singleton.mp hu]
     exact⟨Int.emod_nonneg _ (by omega),Int.emod_lt_of_pos _ (by omega),Int.emod_nonneg _ (by omega),Int.emod_lt_of_pos _ (by omega),okz,s,s1,s2,rfl⟩
  ·rintro σ H4 ⟨e4,k1,k2,k3,k4,k5,k6,cs,us,rfl,hf4,al,ok,len⟩
   rw[Int.toNat_natCast]at len
   walk_at "rd"
   refine⟨f,cs,us,rfl,hf4,al,fun u hu=>(ok u hu).lay,by omega,fun r H5 ws e5 hws nd sub ln=>?_⟩
   walk_at "rd"
   refine⟨ai (by simp),ah fun t H6 e6 ht _=>?_⟩
   exact q _ m ws H6 (eH2.trans (e4.trans (e5.trans e6))) (aW.mk ht (hws.ext e6)) ⟨m1,m2,by omega,fun u hu=>ok u (sub u hu),nd⟩
structure WL(H0 H:Hp)(f:Addr)(us:List Way):Prop where
 ext:Ext H0 H
 at_:∃cs:List Addr,H f=some (.lst (cs.map V.ref))/\aP H cs us
theorem WL.nil{H0 H:Hp}{f:Addr}(e:Ext H0 H)(hf:H f=some (.lst [])):WL H0 H f []:=⟨e,[],hf,aP.nil _⟩
theorem WL.push{H0 H H1:Hp}{f v:Addr}{us:List Way}{w:Way}(h:WL H0 H f us)(hfn:H0 f=none)(e:Ext H H1)(hv:H1 v=some (.tup w.vs)):
  ∃xs,H1 f=some (.lst xs)/\xs.length=us.length/\WL H0 (upd H1 f (.lst (xs++[.ref v]))) f (us++[w]):=by
 obtain⟨e0,cs,hf,al⟩:=h
 have hf1:=e _ _ hf
 refine⟨cs.map V.ref,hf1,by rw[EI];exact al.1,cu (e0.trans e) hfn,cs++[v],by rw[aY,List.map_append];rfl,((al.ext e).put hf1).snoc ?_⟩
 rw[aL (du hv hf1 (by intro z;cases z))]
 exact hv
theorem WL.ty{K:EE}{H0 H H1:Hp}{f:Addr}{us:List Way}(h:WL H0 H f us)(e:Ext H H1):iA K "list" (.ref f) H1:=by
 obtain⟨_,cs,hf,al⟩:=h
 exact bS (ag.of (e _ _ hf))
theorem iu:gp "a":=⟨97,by decide,by decide,by decide +kernel⟩
theorem gE:gp "b":=⟨98,by decide,by decide,by decide +kernel⟩
theorem mx:gp "c":=⟨99,by decide,by decide,by decide +kernel⟩
theorem ie:bu "up":=.inl rfl
theorem lg:bu "down":=.inr (.inl rfl)
theorem gX:bu "stay":=.inr (.inr (.inl rfl))
theorem nQ:bu "zero":=.inr (.inr (.inr rfl))
theorem da{n:Nat}(h:n<=1000):n<sizeLine:=Nat.lt_of_le_of_lt h (by decide)
theorem kH{a b:V}{e:Int}(h0:0<=e)(h1:e<2):∃v,bK [a,b] e=some v/\(v=a\/v=b):=by
 have:e=0\/e=1:=by omega
 rcases this with rfl | rfl
 ·exact⟨a,rfl,.inl rfl⟩
 ·exact⟨b,rfl,.inr rfl⟩
theorem dB{m:Int}{us:List Way}{w:Way}(h:∀u∈us,u.Ok m)(hw:w.Ok m):∀u∈us++[w],u.Ok m:=fun u hu=>by
 rcases List.mem_append.mp hu with hu | hu
 ·exact h u hu
 ·rw[List.mem_singleton.mp hu];exact hw
theorem yk:(Str.ofString "ab").cps.toList=[97,98]:=by decide +kernel
theorem yY{e:Int}(h0:0<=e)(h1:e<2):∃c,bK (Str.ofString "ab").cps.toList e=some c/\97<=c/\c<=122:=by
 rw[yk]
 have:e=0\/e=1:=by omega
 rcases this with rfl | rfl
 ·exact⟨97,rfl,by decide,by decide⟩
 ·exact⟨98,rfl,by decide,by decide⟩
theorem cy{ws ds:List Int}(hl:ds.length=ws.length)(hb:∀(i:Nat) (d x:Int),ds[i]?=some d->ws[i]?=some x->0<=d/\d<x)(i:Nat){x:Int}(hx:ws[i]?=some x):∃d,bK (ds.map V.int) (i:Int)=some (.int d)/\0<=d/\d<x:=by
 have hi:i<ds.length:=by
  rw[hl]
  exact(List.getElem?_eq_some_iff.mp hx).1
 have g:ds[i]?=some ds[i]:=EJ hi
 exact⟨ds[i],eD (by rw[EK,g];rfl),hb i _ x g hx⟩
def uc(K:EE):Sp:=fun vs H Q _=>∃c p,vs=[.int c,.int p]/\0<p/\∀v m ws H',Ext H H'->aW H' v m ws->HOuse m ws->Q v H'
abbrev ki:Stmt:=stq 66
theorem rK:FnScope ["_law_cell_here","_law_prime","_law_draws_here","_law_up","_law_down","_law_many","_law_ways","_law_k"] ["_law_cell_here","_law_prime"] (aG ki):=⟨rfl,rfl,rfl,by decide +kernel,rfl,by decide +kernel,by decide +kernel⟩
theorem Au{P:Program}{w:World}{K:EE}{mg:Str->Option Value}{base:Heap}(D:Dfn K mg "_law_gate_house" ki ["_law_cell_here","_law_prime"])(T:Blt mg)(C__law_unlike:Cal P w K mg base "_law_unlike" 1 ["_law_ways"] (mW K))(C__law_draws:Cal P w K mg base "_law_draws" 2 ["_law_cell_here","_law_widths","_law_prime"] (fQ K)):Cal P w K mg base "_law_gate_house" 3 ["_law_cell_here","_law_prime"] (uc K):=by
 have nd:=(rK).nd
 refine D.ok rK (fun vs H Q E h=>?_) (fun X hX H vs Q E h=>?_)
 ·obtain⟨c,p,rfl,_⟩:=h;rfl
 ·obtain⟨f,cdv,A,outer,s,H0,E0,rfl,hr⟩:=hX
  obtain⟨c,p,rfl,hp,q⟩:=h
  refine⟨_,(@ak _ _ _ _ _ (@aA _ _ 2 _ _ _ _ nd rfl (Or.inl rfl) (az C__law_draws hr (@aa _ _ _ _ _ (pv 0) (@aa _ _ _ _ _ (@aQ _ _ _ _ (iI (.c (.c (.c (.c (.c (.c (.c .n))))))))) (@aa _ _ _ _ _ (pv 1) af rfl) rfl) rfl)) rfl (Or.inl rfl))
    (@ak _ _ _ _ _ (tI (i:=3) (j:=4) rfl nd rfl rfl (by decide) rfl rfl (@aa _ _ _ _ _ (aq aS ae (@ao _ _ _ _ _ _ _ (aJ K) (pv 2) ae (fun _ _=>rfl))) (@aa _ _ _ _ _ (aq aS ae (@ao _ _ _ _ _ _ _ (aJ K) (pv 2) ae (fun _ _=>rfl))) af rfl) rfl) rfl)
    (@ak _ _ _ _ _ (@aA _ _ 5 _ _ _ _ nd rfl (Or.inl rfl) (aq aS (aq aS (pv 3) (pv 4)) ae) rfl (Or.inl rfl))
    (@ak _ _ _ _ _ (@aA _ _ 6 _ _ _ _ nd rfl (Or.inl rfl) (@aQ _ _ _ _ af) rfl (Or.inl rfl))
    (@ak _ _ _ _ _ (bJ PassesOwn.never rfl (dC rfl T.range_ (@aa _ _ _ _ _ (pv 3) af rfl)) (aR (i:=7) nd rfl (Or.inl rfl)) (@ar _ _ _ (bw (bE K ER PySem.F.slot_list_append PySem.F.type_list_append bW (pv 6) (@aa _ _ _ _ _ (@aF _ _ _ _ _ (@aa _ _ _ _ _ (pv 7) (@aa _ _ _ _ _ av (@aa _ _ _ _ _ (aq bP (aq aS (pv 7) ae) (pv 3)) (@aa _ _ _ _ _ (@ao _ _ _ _ _ _ _ su av (@ao _ _ _ _ _ _ _ (aJ K) (pv 2) ae (fun _ _=>rfl)) (fun _ _=>rfl)) af rfl) rfl) rfl) rfl)) af rfl)))))
    (@ak _ _ _ _ _ (bw (bE K ER PySem.F.slot_list_append PySem.F.type_list_append bW (pv 6) (@aa _ _ _ _ _ (@aF _ _ _ _ _ (@aa _ _ _ _ _ (aq bP (@ao _ _ _ _ _ _ _ (aJ K) (pv 2) ae (fun _ _=>rfl)) (pv 3)) (@aa _ _ _ _ _ av (@aa _ _ _ _ _ (pv 3) (@aa _ _ _ _ _ av af rfl) rfl) rfl) rfl)) af rfl)))
    (@ak _ _ _ _ _ (bJ PassesOwn.never rfl (dC rfl T.range_ (@aa _ _ _ _ _ (pv 4) af rfl)) (aR (i:=7) nd rfl (Or.inl rfl)) (@ar _ _ _ (bw (bE K ER PySem.F.slot_list_append PySem.F.type_list_append bW (pv 6) (@aa _ _ _ _ _ (@aF _ _ _ _ _ (@aa _ _ _ _ _ (aq aS (pv 3) (pv 7)) (@aa _ _ _ _ _ av (@aa _ _ _ _ _ (aq aS (pv 3) (aq bP (aq aS (pv 7) ae) (pv 4))) (@aa _ _ _ _ _ av af rfl) rfl) rfl) rfl)) af rfl)))))
    (@ak _ _ _ _ _ (bw (bE K ER PySem.F.slot_list_append PySem.F.type_list_append bW (pv 6) (@aa _ _ _ _ _ (@aF _ _ _ _ _ (@aa _ _ _ _ _ (aq aS (pv 3) (aq bP (@ao _ _ _ _ _ _ _ (aJ K) (pv 2) ae (fun _ _=>rfl)) (pv 4))) (@aa _ _ _ _ _ av (@aa _ _ _ _ _ (aq cK (pv 5) ae) (@aa _ _ _ _ _ av af rfl) rfl) rfl) rfl)) af rfl)))
    (@ak _ _ _ _ _ (bw (bE K ER PySem.F.slot_list_append PySem.F.type_list_append bW (pv 6) (@aa _ _ _ _ _ (@aF _ _ _ _ _ (@aa _ _ _ _ _ (aq cK (pv 5) ae) (@aa _ _ _ _ _ (@ao _ _ _ _ _ _ _ (aJ K) (@aQ _ _ _ _ (@aa _ _ _ _ _ av (@aa _ _ _ _ _ av af rfl) rfl)) (@ao _ _ _ _ _ _ _ (aJ K) (pv 2) ae (fun _ _=>rfl)) (fun _ _=>rfl)) (@aa _ _ _ _ _ (@ao _ _ _ _ _ _ _ (aJ K) (@aQ _ _ _ _ (@aa _ _ _ _ _ ae (@aa _ _ _ _ _ (aq cK (pv 5) ae) af rfl) rfl)) (@ao _ _ _ _ _ _ _ (aJ K) (pv 2) ae (fun _ _=>rfl)) (fun _ _=>rfl)) (@aa _ _ _ _ _ av af rfl) rfl) rfl) rfl)) af rfl)))
    (@ar _ _ _ (@aC _ _ _ _ (@aF _ _ _ _ _ (@aa _ _ _ _ _ (pv 5) (@aa _ _ _ _ _ (az C__law_unlike hr (@aa _ _ _ _ _ (pv 6) af rfl)) af rfl) rfl))))))))))))),?_⟩
  walk_at "rd"
  refine⟨ai (by simp),ah fun w0 G1 f1 hw0 _=>?_⟩
  walk_at "rd"
  refine⟨c,w0,[6,5,6,5,2,2,2],p,rfl,hw0,by decide,by decide,hp,fun dq ds H1 e1 hd hdn hl hb=>?_⟩
  have eH:Ext H H1:=f1.trans e1
  obtain⟨d0,g0,b00,b01⟩:=cy hl hb 0 rfl
  obtain⟨d1,g1,b10,b11⟩:=cy hl hb 1 rfl
  obtain⟨d2,g2,b20,b21⟩:=cy hl hb 2 rfl
  obtain⟨d3,g3,b30,b31⟩:=cy hl hb 3 rfl
  obtain⟨d4,g4,b40,b41⟩:=cy hl hb 4 rfl
  obtain⟨d5,g5,b50,b51⟩:=cy hl hb 5 rfl
  obtain⟨d6,g6,b60,b61⟩:=cy hl hb 6 rfl
  clear hb hl
  walk_at "rd"
  refine aI (ag.of hd) g0 ?_
  walk_at "rd"
  refine aI (ag.of hd) g1 ?_
  walk_at "rd"
  obtain⟨U,hU⟩:∃U:Nat,1+d0=(U:Int):=⟨(1+d0).toNat,by omega⟩
  obtain⟨D,hD⟩:∃D:Nat,1+d1=(D:Int):=⟨(1+d1).toNat,by omega⟩
  rw[hU,hD]
  have u1:1<=U:=by omega
  have u6:U<=6:=by omega
  have v1:1<=D:=by omega
  have v5:D<=5:=by omega
  clear b00 b01 b10 b11 hU hD
  obtain⟨m,hm⟩:∃m:Int,(U:Int)+(D:Int)+1=m:=⟨_,rfl⟩
  rw[hm]
  refine⟨ai (by simp),ah fun f H2 e2 hf hfn=>?_⟩
  walk_at "rd"
  refine dD (by omega) ?_
  have hfn0:H1 f=none:=hfn
  refine forR (fun i σ H3=>∃(k:Option V) (us:List Way),σ=[some (.int c),some (.int p),some (.ref dq),some (.int U),some (.int D),some (.int m),some (.ref f),k]/\WL H1 H3 f us/\(∀u∈us,u.Ok m)/\us.length=i)
   ⟨none,[],rfl,WL.nil e2 hf,fun u hu=>by simp at hu,rfl⟩ ?_ ?_
  ·rintro i σ H3 hi ⟨k,us,rfl,wl,ok,len⟩
   rw[Int.toNat_natCast]at hi
   walk_at "rd"
   refine⟨wl.ty (Ext.rfl' _),?_⟩
   walk_at "rd"
   try refine rd_I (show(0:Int)<(U:Int) by omega) ?_
   walk_at "rd"
   refine aI (ag.of (wl.ext _ _ hd)) g4 ?_
   obtain⟨s,hs,s1,s2⟩:=yY b40 b41
   refine⟨_,_,s,rfl,rfl,bX (by decide +kernel),hs,?_⟩
   walk_at "rd"
   refine⟨ai (by simp),ah fun v H4 e4 hv _=>?_⟩
   walk_at "rd"
   obtain⟨xs,hx,hlx,wl'⟩:=wl.push (w:=⟨0+(i:Int),"up",(0+(i:Int)+1) % (U:Int),⟨#[s]⟩⟩) hfn0 e4 hv
   refine bQ hx (da (by omega)) ?_
   walk_at "rd"
   exact⟨_,_,rfl,wl',dB ok ⟨by show 0<=0+(i:Int);omega,by show 0+(i:Int)<m;omega,Int.emod_nonneg _ (by omega),Int.lt_trans (Int.emod_lt_of_pos _ (by omega)) (by omega),ie,s,s1,s2,rfl⟩,by simp[len]⟩
  rintro σ H3 ⟨k,us,rfl,wl,ok,len⟩
  rw[Int.toNat_natCast]at len
  walk_at "rd"
  refine⟨wl.ty (Ext.rfl' _),?_⟩
  walk_at "rd"
  refine aI (ag.of (wl.ext _ _ hd)) g2 ?_
  try refine rd_I (show(0:Int)<(U:Int) by omega) ?_
  walk_at "rd"
  refine⟨ai (by simp),ah fun v H4 e4 hv _=>?_⟩
  walk_at "rd"
  have r0:0<=d2 % (U:Int):=Int.emod_nonneg _ (by omega)
  have r1:d2 % (U:Int)<U:=Int.emod_lt_of_pos _ (by omega)
  obtain⟨xs,hx,hlx,wl2⟩:=wl.push (w:=⟨d2 % (U:Int),"stay",(U:Int),"b"⟩) hfn0 e4 hv
  have ok2:=dB ok (w:=⟨d2 % (U:Int),"stay",(U:Int),"b"⟩) ⟨r0,by show d2 % (U:Int)<m;omega,by show 0<=(U:Int);omega,by show(U:Int)<m;omega,gX,gE⟩
  refine bQ hx (da (by omega)) ?_
  generalize upd H4 f _=H5 at wl2 ⊢
  generalize hus2:us++[_]=us2 at wl2 ok2
  have len2:us2.length=U+1:=by rw[←hus2];simp[len]
  clear hus2 hx hlx hv e4 r0 r1 wl ok len
  walk_at "rd"
  refine dD (by omega) ?_
  refine forR (fun i σ H3=>∃(k:Option V) (us:List Way),σ=[some (.int c),some (.int p),some (.ref dq),some (.int U),some (.int D),some (.int m),some (.ref f),k]/\WL H1 H3 f us/\(∀u∈us,u.Ok m)/\us.length=U+1+i)
   ⟨_,us2,rfl,wl2,ok2,len2⟩ ?_ ?_
  ·rintro i σ H3 hi ⟨k,us,rfl,wl,ok,len⟩
   rw[Int.toNat_natCast]at hi
   walk_at "rd"
   refine⟨wl.ty (Ext.rfl' _),?_⟩
   walk_at "rd"
   try refine rd_I (show(0:Int)<(D:Int) by omega) ?_
   walk_at "rd"
   refine⟨ai (by simp),ah fun v H4 e4 hv _=>?_⟩
   walk_at "rd"
   have r0:0<=(0+(i:Int)+1) % (D:Int):=Int.emod_nonneg _ (by omega)
   have r1:(0+(i:Int)+1) % (D:Int)<D:=Int.emod_lt_of_pos _ (by omega)
   obtain⟨xs,hx,hlx,wl'⟩:=wl.push (w:=⟨(U:Int)+(0+(i:Int)),"down",(U:Int)+(0+(i:Int)+1) % (D:Int),"a"⟩) hfn0 e4 hv
   refine bQ hx (da (by omega)) ?_
   walk_at "rd"
   exact⟨_,_,rfl,wl',dB ok ⟨by show 0<=(U:Int)+(0+(i:Int));omega,by show(U:Int)+(0+(i:Int))<m;omega,by show 0<=(U:Int)+(0+(i:Int)+1) % (D:Int);omega,by show(U:Int)+(0+(i:Int)+1) % (D:Int)<m;omega,lg,iu⟩,by simp[len];omega⟩
  clear wl2 ok2 len2
  rintro σ H3 ⟨k,us,rfl,wl,ok,len⟩
  rw[Int.toNat_natCast]at len
  walk_at "rd"
  refine⟨wl.ty (Ext.rfl' _),?_⟩
  walk_at "rd"
  refine aI (ag.of (wl.ext _ _ hd)) g3 ?_
  try refine rd_I (show(0:Int)<(D:Int) by omega) ?_
  walk_at "rd"
  refine⟨ai (by simp),ah fun v H4 e4 hv _=>?_⟩
  walk_at "rd"
  have r0:0<=d3 % (D:Int):=Int.emod_nonneg _ (by omega)
  have r1:d3 % (D:Int)<D:=Int.emod_lt_of_pos _ (by omega)
  obtain⟨xs,hx,hlx,wl2⟩:=wl.push (w:=⟨(U:Int)+d3 % (D:Int),"zero",m-1,"c"⟩) hfn0 e4 hv
  have ok2:=dB ok (w:=⟨(U:Int)+d3 % (D:Int),"zero",m-1,"c"⟩) ⟨by show 0<=(U:Int)+d3 % (D:Int);omega,by show(U:Int)+d3 % (D:Int)<m;omega,by show 0<=m-1;omega,by show m-1<m;omega,nQ,mx⟩
  refine bQ hx (da (by omega)) ?_
  generalize upd H4 f _=H5 at wl2 ⊢
  generalize hus2:us++[_]=us2 at wl2 ok2
  have len2:us2.length=U+D+2:=by rw[←hus2];simp[len];omega
  clear hus2 hx hlx hv e4 r0 r1 wl ok len
  walk_at "rd"
  refine⟨wl2.ty (Ext.rfl' _),?_⟩
  walk_at "rd"
  refine⟨ai (by simp),ah fun t1 H6 e6 ht1 _=>?_⟩
  walk_at "rd"
  refine aI (ag.of (e6 _ _ (wl2.ext _ _ hd))) g5 ?_
  obtain⟨x5,hx5,ax5⟩:=kH (a:=V.str "up") (b:=V.str "stay") b50 b51
  refine aI (ag.of ht1) hx5 ?_
  walk_at "rd"
  refine⟨ai (by simp),ah fun t2 H7 e7 ht2 _=>?_⟩
  walk_at "rd"
  refine aI (ag.of (e7 _ _ (e6 _ _ (wl2.ext _ _ hd)))) g6 ?_
  obtain⟨x6,hx6,ax6⟩:=kH (a:=V.int 0) (b:=V.int (m-1)) b60 b61
  refine aI (ag.of ht2) hx6 ?_
  walk_at "rd"
  refine⟨ai (by simp),ah fun v H8 e8 hv _=>?_⟩
  walk_at "rd"
  obtain⟨z,rfl,oz⟩:∃z,x5=.str z/\bu z:=by
   rcases ax5 with rfl | rfl
   ·exact⟨_,rfl,ie⟩
   ·exact⟨_,rfl,gX⟩
  obtain⟨y,rfl,y0,y1⟩:∃y:Int,x6=.int y/\0<=y/\y<m:=by
   rcases ax6 with rfl | rfl
   ·exact⟨_,rfl,by omega,by omega⟩
   ·exact⟨_,rfl,by omega,by omega⟩
  obtain⟨xs,hx,hlx,wl3⟩:=wl2.push (w:=⟨m-1,z,y,"b"⟩) hfn0 (e6.trans (e7.trans e8)) hv
  have ok3:=dB ok2 (w:=⟨m-1,z,y,"b"⟩) ⟨by show 0<=m-1;omega,by show m-1<m;omega,y0,y1,oz,gE⟩
  refine bQ hx (da (by omega)) ?_
  generalize upd H8 f _=H9 at wl3 ⊢
  generalize hus3:us2++[_]=us3 at wl3 ok3
  have len3:us3.length=U+D+3:=by rw[←hus3];simp[len2]
  walk_at "rd"
  obtain⟨ew,cs,hcs,al⟩:=wl3
  refine⟨f,cs,us3,rfl,hcs,al,fun u hu=>(ok3 u hu).lay,by omega,fun r I1 ws e5 hws nd sub ln=>?_⟩
  walk_at "rd"
  refine⟨ai (by simp),ah fun t I2 e6' ht _=>?_⟩
  exact q _ m ws I2 (eH.trans (ew.trans (e5.trans e6'))) (aW.mk ht (hws.ext e6')) ⟨by omega,by omega,by omega,fun u hu=>ok3 u (sub u hu),nd⟩
theorem aP.rev{H:Hp}{bs:List Addr}{ws:List Way}(h:aP H bs ws):aP H bs.reverse ws.reverse:=by
 refine⟨by rw[List.length_reverse,List.length_reverse];exact h.1,fun j b w e1 e2=>?_⟩
 have hj:j<bs.length:=by
  have:=(List.getElem?_eq_some_iff.mp e1).1
  simpa using this
 rw[List.getElem?_reverse hj]at e1
 rw[List.getElem?_reverse (by rw[←h.1];exact hj),←h.1]at e2
 exact h.2 _ b w e1 e2
theorem g9{us:List Way}{w:Way}(h:us.Nodup)(hw:w∉us):(us++[w]).Nodup:=by
 rw[List.nodup_append]
 exact⟨h,by simp,fun a ha c hc=>by rw[List.mem_singleton.mp hc];exact fun z=>hw (z ▸ ha)⟩
theorem iw{P:Way->Prop}{us:List Way}{w:Way}(h:∀u∈us,P u)(hw:P w):∀u∈us++[w],P u:=fun u hu=>by
 rcases List.mem_append.mp hu with hu | hu
 ·exact h u hu
 ·rw[List.mem_singleton.mp hu];exact hw
theorem sQ:(Str.ofString "a")≠"b":=by decide +kernel
theorem rg:(Str.ofString "a")≠"c":=by decide +kernel
theorem nB:(Str.ofString "b")≠"c":=by decide +kernel
def rZ(K:EE):Sp:=fun vs H Q _=>∃c p,vs=[.int c,.int p]/\0<p/\∀v m ws H',Ext H H'->aW H' v m ws->HOuse m ws->Q v H'
abbrev jo:Stmt:=stq 65
theorem vv:FnScope ["_law_cell_here","_law_prime","_law_draws_here","_law_one","_law_two","_law_many","_law_ways","_law_k"] ["_law_cell_here","_law_prime"] (aG jo):=⟨rfl,rfl,rfl,by decide +kernel,rfl,by decide +kernel,by decide +kernel⟩
theorem CO{P:Program}{w:World}{K:EE}{mg:Str->Option Value}{base:Heap}(D:Dfn K mg "_law_ring_house" jo ["_law_cell_here","_law_prime"])(T:Blt mg)(C__law_draws:Cal P w K mg base "_law_draws" 2 ["_law_cell_here","_law_widths","_law_prime"] (fQ K)):Cal P w K mg base "_law_ring_house" 3 ["_law_cell_here","_law_prime"] (rZ K):=by
 have nd:=(vv).nd
 refine D.ok vv (fun vs H Q E h=>?_) (fun X hX H vs Q E h=>?_)
 ·obtain⟨c,p,rfl,_⟩:=h;rfl
 ·obtain⟨f,cdv,A,outer,s,H0,E0,rfl,hr⟩:=hX
  obtain⟨c,p,rfl,hp,q⟩:=h
  refine⟨_,(@ak _ _ _ _ _ (@aA _ _ 2 _ _ _ _ nd rfl (Or.inl rfl) (az C__law_draws hr (@aa _ _ _ _ _ (pv 0) (@aa _ _ _ _ _ (@aQ _ _ _ _ (iI (.c (.c (.c (.c (.c (.c (.c .n))))))))) (@aa _ _ _ _ _ (pv 1) af rfl) rfl) rfl)) rfl (Or.inl rfl))
    (@ak _ _ _ _ _ (tI (i:=3) (j:=4) rfl nd rfl rfl (by decide) rfl rfl (@aa _ _ _ _ _ (aq aS ae (@ao _ _ _ _ _ _ _ (aJ K) (pv 2) ae (fun _ _=>rfl))) (@aa _ _ _ _ _ (aq aS ae (@ao _ _ _ _ _ _ _ (aJ K) (pv 2) ae (fun _ _=>rfl))) af rfl) rfl) rfl)
    (@ak _ _ _ _ _ (@aA _ _ 5 _ _ _ _ nd rfl (Or.inl rfl) (aq aS (aq aS (pv 3) (pv 4)) ae) rfl (Or.inl rfl))
    (@ak _ _ _ _ _ (@aA _ _ 6 _ _ _ _ nd rfl (Or.inl rfl) (@aQ _ _ _ _ (@aa _ _ _ _ _ (@aF _ _ _ _ _ (@aa _ _ _ _ _ ae (@aa _ _ _ _ _ av (@aa _ _ _ _ _ ae (@aa _ _ _ _ _ av af rfl) rfl) rfl) rfl)) (@aa _ _ _ _ _ (@aF _ _ _ _ _ (@aa _ _ _ _ _ ae (@aa _ _ _ _ _ (@ao _ _ _ _ _ _ _ (aJ K) (@aQ _ _ _ _ (@aa _ _ _ _ _ av (@aa _ _ _ _ _ av af rfl) rfl)) (@ao _ _ _ _ _ _ _ (aJ K) (pv 2) ae (fun _ _=>rfl)) (fun _ _=>rfl)) (@aa _ _ _ _ _ (aq aS ae (pv 3)) (@aa _ _ _ _ _ av af rfl) rfl) rfl) rfl)) af rfl) rfl)) rfl (Or.inl rfl))
    (@ak _ _ _ _ _ (bJ PassesOwn.never rfl (dC rfl T.range_ (@aa _ _ _ _ _ (pv 3) af rfl)) (aR (i:=7) nd rfl (Or.inl rfl)) (@ar _ _ _ (bw (bE K ER PySem.F.slot_list_append PySem.F.type_list_append bW (pv 6) (@aa _ _ _ _ _ (@aF _ _ _ _ _ (@aa _ _ _ _ _ (aq aS ae (pv 7)) (@aa _ _ _ _ _ av (@aa _ _ _ _ _ (aq aS ae (aq bP (aq aS (pv 7) ae) (pv 3))) (@aa _ _ _ _ _ av af rfl) rfl) rfl) rfl)) af rfl)))))
    (@ak _ _ _ _ _ (bJ PassesOwn.never rfl (dC rfl T.range_ (@aa _ _ _ _ _ (pv 4) af rfl)) (aR (i:=7) nd rfl (Or.inl rfl)) (@ar _ _ _ (bw (bE K ER PySem.F.slot_list_append PySem.F.type_list_append bW (pv 6) (@aa _ _ _ _ _ (@aF _ _ _ _ _ (@aa _ _ _ _ _ (aq aS (aq aS ae (pv 3)) (pv 7)) (@aa _ _ _ _ _ (@ao _ _ _ _ _ _ _ (aJ K) (@aQ _ _ _ _ (@aa _ _ _ _ _ av (@aa _ _ _ _ _ av af rfl) rfl)) (@ao _ _ _ _ _ _ _ (aJ K) (pv 2) ae (fun _ _=>rfl)) (fun _ _=>rfl)) (@aa _ _ _ _ _ (aq aS (aq aS ae (pv 3)) (aq bP (aq aS (pv 7) ae) (pv 4))) (@aa _ _ _ _ _ av af rfl) rfl) rfl) rfl)) af rfl)))))
    (@ak _ _ _ _ _ (bw (bE K ER PySem.F.slot_list_append PySem.F.type_list_append bW (pv 6) (@aa _ _ _ _ _ (@aF _ _ _ _ _ (@aa _ _ _ _ _ ae (@aa _ _ _ _ _ av (@aa _ _ _ _ _ (aq cK (pv 5) ae) (@aa _ _ _ _ _ av af rfl) rfl) rfl) rfl)) af rfl)))
    (@ak _ _ _ _ _ (bw (bE K ER PySem.F.slot_list_append PySem.F.type_list_append bW (pv 6) (@aa _ _ _ _ _ (@aF _ _ _ _ _ (@aa _ _ _ _ _ (aq aS ae (pv 3)) (@aa _ _ _ _ _ av (@aa _ _ _ _ _ (aq cK (pv 5) ae) (@aa _ _ _ _ _ av af rfl) rfl) rfl) rfl)) af rfl)))
    (@ak _ _ _ _ _ (dG (aM bV (@ao _ _ _ _ _ _ _ (aJ K) (pv 2) ae (fun _ _=>rfl)) ae (aK _)) (@ar _ _ _ (bw (bE K ER PySem.F.slot_list_append PySem.F.type_list_append bW (pv 6) (@aa _ _ _ _ _ (@aF _ _ _ _ _ (@aa _ _ _ _ _ (aq cK (pv 5) ae) (@aa _ _ _ _ _ av (@aa _ _ _ _ _ (aq cK (pv 5) ae) (@aa _ _ _ _ _ av af rfl) rfl) rfl) rfl)) af rfl)))) aU)
    (@ak _ _ _ _ _ (dG (aM bV (@ao _ _ _ _ _ _ _ (aJ K) (pv 2) ae (fun _ _=>rfl)) ae (aK _)) (@ar _ _ _ (bw (bE K ER PySem.F.slot_list_append PySem.F.type_list_append bW (pv 6) (@aa _ _ _ _ _ (@aF _ _ _ _ _ (@aa _ _ _ _ _ (aq cK (pv 5) ae) (@aa _ _ _ _ _ av (@aa _ _ _ _ _ ae (@aa _ _ _ _ _ av af rfl) rfl) rfl) rfl)) af rfl)))) aU)
    (@ak _ _ _ _ _ (dG (aM bV (@ao _ _ _ _ _ _ _ (aJ K) (pv 2) ae (fun _ _=>rfl)) ae (aK _)) (@ar _ _ _ (@aA _ _ 6 _ _ _ _ nd rfl (Or.inl rfl) (xu K (pv 6) (gL (fV ft ae))) rfl (Or.inl rfl))) aU)
    (@ar _ _ _ (@aC _ _ _ _ (@aF _ _ _ _ _ (@aa _ _ _ _ _ (pv 5) (@aa _ _ _ _ _ (gm (nP K) rfl T.tuple_ PyProof.Rows.boot_tuple (@aa _ _ _ _ _ (pv 6) af rfl)) af rfl) rfl))))))))))))))),?_⟩
  walk_at "rd"
  refine⟨ai (by simp),ah fun w0 G1 f1 hw0 _=>?_⟩
  walk_at "rd"
  refine⟨c,w0,[5,5,2,2,4,4,2],p,rfl,hw0,by decide,by decide,hp,fun dq ds H1 e1 hd hdn hl hb=>?_⟩
  have eH:Ext H H1:=f1.trans e1
  obtain⟨d0,g0,b00,b01⟩:=cy hl hb 0 rfl
  obtain⟨d1,g1,b10,b11⟩:=cy hl hb 1 rfl
  obtain⟨d2,g2,b20,b21⟩:=cy hl hb 2 rfl
  obtain⟨d3,g3,b30,b31⟩:=cy hl hb 3 rfl
  obtain⟨d4,g4,_⟩:=cy hl hb 4 rfl
  obtain⟨d5,g5,_⟩:=cy hl hb 5 rfl
  obtain⟨d6,g6,_⟩:=cy hl hb 6 rfl
  clear hb hl
  walk_at "rd"
  refine aI (ag.of hd) g0 ?_
  walk_at "rd"
  refine aI (ag.of hd) g1 ?_
  walk_at "rd"
  obtain⟨U,hU⟩:∃U:Nat,1+d0=(U:Int):=⟨(1+d0).toNat,by omega⟩
  obtain⟨D,hD⟩:∃D:Nat,1+d1=(D:Int):=⟨(1+d1).toNat,by omega⟩
  rw[hU,hD]
  have u1:1<=U:=by omega
  have u6:U<=5:=by omega
  have v1:1<=D:=by omega
  have v5:D<=5:=by omega
  clear b00 b01 b10 b11 hU hD
  obtain⟨m,hm⟩:∃m:Int,(U:Int)+(D:Int)+2=m:=⟨_,rfl⟩
  rw[hm]
  -- the first two ways
  refine⟨ai (by simp),ah fun a1 H2 e2 ha1 _=>?_⟩
  walk_at "rd"
  refine⟨ai (by simp),ah fun t1 H3 e3 ht1 _=>?_⟩
  walk_at "rd"
  refine aI (ag.of (e3 _ _ (e2 _ _ hd))) g2 ?_
  obtain⟨x2,hx2,ax2⟩:=kH (a:=V.str "stay") (b:=V.str "zero") b20 b21
  refine aI (ag.of ht1) hx2 ?_
  walk_at "rd"
  obtain⟨z2,rfl,oz2⟩:∃z,x2=.str z/\bu z:=by
   rcases ax2 with rfl | rfl
   ·exact⟨_,rfl,gX⟩
   ·exact⟨_,rfl,nQ⟩
  refine⟨ai (by simp),ah fun a2 H4 e4 ha2 _=>?_⟩
  walk_at "rd"
  refine⟨ai (by simp),ah fun f H5 e5 hf hfn=>?_⟩
  have e15:Ext H1 H5:=e2.trans (e3.trans (e4.trans e5))
  have hfn0:H1 f=none:=(e2.trans (e3.trans e4)).none hfn
  obtain⟨y1,hy1⟩:∃y:Way,y=⟨0,"stay",1,"a"⟩:=⟨_,rfl⟩
  obtain⟨y2,hy2⟩:∃y:Way,y=⟨0,z2,1+(U:Int),"b"⟩:=⟨_,rfl⟩
  have wl0:WL H1 H5 f [y1,y2]:=by
   refine⟨e15,[a1,a2],hf,?_⟩
   have k1:H5 a1=some (.tup y1.vs):=by rw[hy1];exact e5 _ _ (e4 _ _ (e3 _ _ ha1))
   have k2:H5 a2=some (.tup y2.vs):=by rw[hy2];exact e5 _ _ ha2
   exact((aP.nil H5).snoc k1).snoc k2
  have ok0:∀u∈[y1,y2],u.Ok m:=by
   intro u hu
   rcases List.mem_cons.mp hu with rfl | hu
   ·subst hy1;exact⟨Int.le_refl _,by show(0:Int)<m;omega,by show(0:Int)<=1;decide,by show(1:Int)<m;omega,gX,iu⟩
   ·rw[List.mem_singleton.mp hu];subst hy2;exact⟨Int.le_refl _,by show(0:Int)<m;omega,by show(0:Int)<=1+(U:Int);omega,by show 1+(U:Int)<m;omega,oz2,gE⟩
  have nd0:[y1,y2].Nodup:=by
   subst hy1 hy2
   refine List.nodup_cons.mpr ⟨fun z=>?_,by simp⟩
   have:=congrArg Way.sign (List.mem_singleton.mp z)
   exact sQ this
  have pr0:∀u∈[y1,y2],u.room<=((0:Nat):Int)/\u.sign≠"c":=by
   intro u hu
   rcases List.mem_cons.mp hu with rfl | hu
   ·subst hy1;exact⟨Int.le_refl _,rg⟩
   ·rw[List.mem_singleton.mp hu];subst hy2;exact⟨Int.le_refl _,nB⟩
  have ln0:[y1,y2].length=2:=rfl
  generalize [y1,y2]=us0 at wl0 ok0 nd0 pr0 ln0
  clear hy1 hy2 ha1 ha2 ht1 hf e2 e3 e4 e5
  walk_at "rd"
  refine dD (by omega) ?_
  refine forR (fun i σ H3=>∃(k:Option V) (us:List Way),σ=[some (.int c),some (.int p),some (.ref dq),some (.int U),some (.int D),some (.int m),some (.ref f),k]/\WL H1 H3 f us/\(∀u∈us,u.Ok m)/\us.Nodup/\(∀u∈us,u.room<=(i:Int)/\u.sign≠"c")/\us.length=2+i)
   ⟨none,us0,rfl,wl0,ok0,nd0,pr0,ln0⟩ ?_ ?_
  ·rintro i σ H3 hi ⟨k,us,rfl,wl,ok,nd',pr,len⟩
   rw[Int.toNat_natCast]at hi
   walk_at "rd"
   refine⟨wl.ty (Ext.rfl' _),?_⟩
   walk_at "rd"
   try refine rd_I (show(0:Int)<(U:Int) by omega) ?_
   walk_at "rd"
   refine⟨ai (by simp),ah fun v H4 e4 hv _=>?_⟩
   walk_at "rd"
   have r0:0<=(0+(i:Int)+1) % (U:Int):=Int.emod_nonneg _ (by omega)
   have r1:(0+(i:Int)+1) % (U:Int)<U:=Int.emod_lt_of_pos _ (by omega)
   obtain⟨xs,hx,hlx,wl'⟩:=wl.push (w:=⟨1+(0+(i:Int)),"up",1+(0+(i:Int)+1) % (U:Int),"a"⟩) hfn0 e4 hv
   refine bQ hx (da (by omega)) ?_
   walk_at "rd"
   refine⟨_,_,rfl,wl',dB ok ⟨by show 0<=1+(0+(i:Int));omega,by show 1+(0+(i:Int))<m;omega,by show 0<=1+(0+(i:Int)+1) % (U:Int);omega,by show 1+(0+(i:Int)+1) % (U:Int)<m;omega,ie,iu⟩,g9 nd' fun z=>?_,iw (fun u hu=>⟨by have:=(pr u hu).1;omega,(pr u hu).2⟩) ⟨by show 1+(0+(i:Int))<=_;omega,rg⟩,by simp[len];omega⟩
   have:=(pr _ z).1
   have:1+(0+(i:Int))<=(i:Int):=this
   omega
  clear wl0 ok0 nd0 pr0 ln0
  rintro σ H3 ⟨k,us,rfl,wl,ok,nd',pr,len⟩
  rw[Int.toNat_natCast]at pr len
  walk_at "rd"
  refine dD (by omega) ?_
  refine forR (fun i σ H3=>∃(k:Option V) (us:List Way),σ=[some (.int c),some (.int p),some (.ref dq),some (.int U),some (.int D),some (.int m),some (.ref f),k]/\WL H1 H3 f us/\(∀u∈us,u.Ok m)/\us.Nodup/\(∀u∈us,u.room<=(U:Int)+(i:Int)/\u.sign≠"c"/\(u.room=1+(U:Int)->u.sign = "b"))/\us.length=2+U+i)
   ⟨_,us,rfl,wl,ok,nd',fun u hu=>⟨by have:=(pr u hu).1;omega,(pr u hu).2,fun z=>by have:=(pr u hu).1;omega⟩,len⟩ ?_ ?_
  ·clear wl ok nd' pr len
   rintro i σ H3 hi ⟨k,us,rfl,wl,ok,nd',pr,len⟩
   rw[Int.toNat_natCast]at hi
   walk_at "rd"
   refine⟨wl.ty (Ext.rfl' _),?_⟩
   walk_at "rd"
   refine⟨ai (by simp),ah fun t1 H6 e6 ht1 _=>?_⟩
   walk_at "rd"
   refine aI (ag.of (e6 _ _ (wl.ext _ _ hd))) g3 ?_
   obtain⟨x3,hx3,ax3⟩:=kH (a:=V.str "up") (b:=V.str "down") b30 b31
   refine aI (ag.of ht1) hx3 ?_
   walk_at "rd"
   obtain⟨z3,rfl,oz3⟩:∃z,x3=.str z/\bu z:=by
    rcases ax3 with rfl | rfl
    ·exact⟨_,rfl,ie⟩
    ·exact⟨_,rfl,lg⟩
   try refine rd_I (show(0:Int)<(D:Int) by omega) ?_
   walk_at "rd"
   refine⟨ai (by simp),ah fun v H4 e4 hv _=>?_⟩
   walk_at "rd"
   have r0:0<=(0+(i:Int)+1) % (D:Int):=Int.emod_nonneg _ (by omega)
   have r1:(0+(i:Int)+1) % (D:Int)<D:=Int.emod_lt_of_pos _ (by omega)
   obtain⟨xs,hx,hlx,wl'⟩:=wl.push (w:=⟨1+(U:Int)+(0+(i:Int)),z3,1+(U:Int)+(0+(i:Int)+1) % (D:Int),"b"⟩) hfn0 (e6.trans e4) hv
   refine bQ hx (da (by omega)) ?_
   walk_at "rd"
   refine⟨_,_,rfl,wl',dB ok ⟨by show 0<=1+(U:Int)+(0+(i:Int));omega,by show 1+(U:Int)+(0+(i:Int))<m;omega,by show 0<=1+(U:Int)+(0+(i:Int)+1) % (D:Int);omega,by show 1+(U:Int)+(0+(i:Int)+1) % (D:Int)<m;omega,oz3,gE⟩,g9 nd' fun z=>?_,iw (fun u hu=>⟨by have:=(pr u hu).1;omega,(pr u hu).2⟩) ⟨by show 1+(U:Int)+(0+(i:Int))<=_;omega,nB,fun _=>rfl⟩,by simp[len];omega⟩
   have:=(pr _ z).1
   have:1+(U:Int)+(0+(i:Int))<=(U:Int)+(i:Int):=this
   omega
  clear wl ok nd' pr len
  rintro σ H3 ⟨k,us,rfl,wl,ok,nd',pr,len⟩
  rw[Int.toNat_natCast]at pr len
  walk_at "rd"
  -- (1,stay,m-1,c)
  refine⟨wl.ty (Ext.rfl' _),?_⟩
  walk_at "rd"
  refine⟨ai (by simp),ah fun v H4 e4 hv _=>?_⟩
  walk_at "rd"
  obtain⟨xs,hx,hlx,wl2⟩:=wl.push (w:=⟨1,"stay",m-1,"c"⟩) hfn0 e4 hv
  have ok2:=dB ok (w:=⟨1,"stay",m-1,"c"⟩) ⟨by show(0:Int)<=1;decide,by show(1:Int)<m;omega,by show 0<=m-1;omega,by show m-1<m;omega,gX,mx⟩
  have nd2:=g9 nd' (w:=⟨1,"stay",m-1,"c"⟩) fun z=>(pr _ z).2.1 rfl
  have pr2:=iw (P:=fun u=>u.room<=(U:Int)+(D:Int)/\(u.room=1+(U:Int)->u.sign = "b")) (fun u hu=>⟨(pr u hu).1,(pr u hu).2.2⟩) (w:=⟨1,"stay",m-1,"c"⟩) ⟨by show(1:Int)<=_;omega,fun z=>by have:(1:Int)=1+(U:Int):=z;omega⟩
  refine bQ hx (da (by omega)) ?_
  generalize upd H4 f _=H5 at wl2 ⊢
  generalize hus2:us++[_]=us2 at wl2 ok2 nd2 pr2
  have len2:us2.length=3+U+D:=by rw[←hus2];simp[len];omega
  clear hus2 hx hlx hv e4 wl ok nd' pr len
  walk_at "rd"
  -- (1+U,stay,m-1,a)
  refine⟨wl2.ty (Ext.rfl' _),?_⟩
  walk_at "rd"
  refine⟨ai (by simp),ah fun v H4 e4 hv _=>?_⟩
  walk_at "rd"
  obtain⟨xs,hx,hlx,wl3⟩:=wl2.push (w:=⟨1+(U:Int),"stay",m-1,"a"⟩) hfn0 e4 hv
  have ok3:=dB ok2 (w:=⟨1+(U:Int),"stay",m-1,"a"⟩) ⟨by show(0:Int)<=1+(U:Int);omega,by show 1+(U:Int)<m;omega,by show 0<=m-1;omega,by show m-1<m;omega,gX,iu⟩
  have nd3:=g9 nd2 (w:=⟨1+(U:Int),"stay",m-1,"a"⟩) fun z=>sQ ((pr2 _ z).2 rfl)
  have pr3:=iw (P:=fun u=>u.room<=(U:Int)+(D:Int)) (fun u hu=>(pr2 u hu).1) (w:=⟨1+(U:Int),"stay",m-1,"a"⟩) (by show 1+(U:Int)<=_;omega)
  refine bQ hx (da (by omega)) ?_
  generalize upd H4 f _=H6 at wl3 ⊢
  generalize hus3:us2++[_]=us3 at wl3 ok3 nd3 pr3
  have len3:us3.length=4+U+D:=by rw[←hus3];simp[len2];omega
  clear hus3 hx hlx hv e4 wl2 ok2 nd2 pr2 len2
  walk_at "rd"
  -- the two that may be left out
  refine iO (fun σ' H'=>∃(k:Option V) (us:List Way),σ'=[some (.int c),some (.int p),some (.ref dq),some (.int U),some (.int D),some (.int m),some (.ref f),k]/\WL H1 H' f us/\(∀u∈us,u.Ok m)/\us.Nodup/\(∀u∈us,u.room<=(U:Int)+(D:Int)\/u.sign = "c")/\us.length<=5+U+D) ?_ ?_
  ·walk_at "rd"
   refine aI (ag.of (wl3.ext _ _ hd)) g4 ?_
   walk_at "rd"
   refine cN (fun h=>?_) (fun h=>?_)
   ·walk_at "rd"
    refine⟨wl3.ty (Ext.rfl' _),?_⟩
    walk_at "rd"
    refine⟨ai (by simp),ah fun v H4 e4 hv _=>?_⟩
    walk_at "rd"
    obtain⟨xs,hx,hlx,wl4⟩:=wl3.push (w:=⟨m-1,"down",m-1,"c"⟩) hfn0 e4 hv
    refine bQ hx (da (by omega)) ?_
    walk_at "rd"
    exact⟨_,_,rfl,wl4,dB ok3 ⟨by show 0<=m-1;omega,by show m-1<m;omega,by show 0<=m-1;omega,by show m-1<m;omega,lg,mx⟩,g9 nd3 fun z=>by have:m-1<=(U:Int)+(D:Int):=pr3 _ z;omega,iw (fun u hu=>.inl (pr3 u hu)) (.inr rfl),by simp[len3];omega⟩
   ·walk_at "rd"
    exact⟨_,us3,rfl,wl3,ok3,nd3,fun u hu=>.inl (pr3 u hu),by omega⟩
  clear wl3 ok3 nd3 pr3 len3
  rintro σ' H7 ⟨k,us,rfl,wl,ok,nd',pr,len⟩
  walk_at "rd"
  refine iO (fun σ' H'=>∃(k:Option V) (us:List Way),σ'=[some (.int c),some (.int p),some (.ref dq),some (.int U),some (.int D),some (.int m),some (.ref f),k]/\WL H1 H' f us/\(∀u∈us,u.Ok m)/\us.Nodup/\us.length<=6+U+D) ?_ ?_
  ·walk_at "rd"
   refine aI (ag.of (wl.ext _ _ hd)) g5 ?_
   walk_at "rd"
   refine cN (fun h=>?_) (fun h=>?_)
   ·walk_at "rd"
    refine⟨wl.ty (Ext.rfl' _),?_⟩
    walk_at "rd"
    refine⟨ai (by simp),ah fun v H4 e4 hv _=>?_⟩
    walk_at "rd"
    obtain⟨xs,hx,hlx,wl4⟩:=wl.push (w:=⟨m-1,"zero",0,"b"⟩) hfn0 e4 hv
    refine bQ hx (da (by omega)) ?_
    walk_at "rd"
    exact⟨_,_,rfl,wl4,dB ok ⟨by show 0<=m-1;omega,by show m-1<m;omega,by show(0:Int)<=0;decide,by show(0:Int)<m;omega,nQ,gE⟩,g9 nd' (fun z=>(pr _ z).elim (fun y=>by have:m-1<=(U:Int)+(D:Int):=y;omega) fun y=>nB y),by simp;omega⟩
   ·walk_at "rd"
    exact⟨_,us,rfl,wl,ok,nd',by omega⟩
  clear wl ok nd' pr len
  rintro σ' H8 ⟨k,us,rfl,wl,ok,nd',len⟩
  walk_at "rd"
  -- backward or not
  refine iO (fun σ' H'=>∃(k:Option V) (f:Addr) (cs:List Addr) (us:List Way),σ'=[some (.int c),some (.int p),some (.ref dq),some (.int U),some (.int D),some (.int m),some (.ref f),k]/\Ext H1 H'/\H' f=some (.lst (cs.map V.ref))/\aP H' cs us/\(∀u∈us,u.Ok m)/\us.Nodup/\us.length<=6+U+D) ?_ ?_
  ·walk_at "rd"
   refine aI (ag.of (wl.ext _ _ hd)) g6 ?_
   walk_at "rd"
   obtain⟨ew,cs,hcs,al⟩:=wl
   refine cN (fun h=>?_) (fun h=>?_)
   ·walk_at "rd"
    refine⟨rfl,tE (ag.of hcs) (ah fun r H9 e9 hr9 _=>?_)⟩
    walk_at "rd"
    exact⟨_,r,cs.reverse,us.reverse,rfl,ew.trans e9,by rw[hr9,List.map_reverse],(al.ext e9).rev,fun u hu=>ok u (List.mem_reverse.mp hu),List.pairwise_reverse.mpr (nd'.imp fun h=>Ne.symm h),by rw[List.length_reverse];omega⟩
   ·walk_at "rd"
    exact⟨_,f,cs,us,rfl,ew,hcs,al,ok,nd',by omega⟩
  clear wl ok nd' len
  rintro σ' H9 ⟨k,g,cs,us,rfl,ew,hcs,al,ok,nd',len⟩
  walk_at "rd"
  refine lr (ag.of hcs) (ah fun r I1 i1 hr1 _=>?_)
  walk_at "rd"
  refine⟨ai (by simp),ah fun t I2 i2 ht _=>?_⟩
  exact q _ m us I2 (eH.trans (ew.trans (i1.trans i2))) (aW.mk ht (((al.ext i1).ways hr1).ext i2)) ⟨by omega,by omega,by omega,ok,nd'⟩
def qO(K:EE):Sp:=fun vs H Q _=>∃c p,vs=[.int c,.int p]/\0<p/\∀v m ws H',Ext H H'->aW H' v m ws->HOuse m ws->Q v H'
abbrev jv:Stmt:=stq 67
theorem vO:FnScope ["_law_cell_here","_law_prime","_law_kind","_law_left"] ["_law_cell_here","_law_prime"] (aG jv):=⟨rfl,rfl,rfl,by decide +kernel,rfl,by decide +kernel,by decide +kernel⟩
theorem DL{P:Program}{w:World}{K:EE}{mg:Str->Option Value}{base:Heap}(D:Dfn K mg "_law_house" jv ["_law_cell_here","_law_prime"])(T:Blt mg)(C__law_drawn_house:Cal P w K mg base "_law_drawn_house" 3 ["_law_cell_here","_law_prime"] (oX K))(C__law_gate_house:Cal P w K mg base "_law_gate_house" 3 ["_law_cell_here","_law_prime"] (uc K))(C__law_ring_house:Cal P w K mg base "_law_ring_house" 3 ["_law_cell_here","_law_prime"] (rZ K))(C__law_spare:Cal P w K mg base "_law_spare" 1 ["_law_cell_here","_law_width"] (tT K))(C__law_draws:Cal P w K mg base "_law_draws" 2 ["_law_cell_here","_law_widths","_law_prime"] (fQ K)):Cal P w K mg base "_law_house" 4 ["_law_cell_here","_law_prime"] (qO K):=by
 have nd:=(vO).nd
 refine D.ok vO (fun vs H Q E h=>?_) (fun X hX H vs Q E h=>?_)
 ·obtain⟨c,p,rfl,_⟩:=h;rfl
 ·obtain⟨f,cdv,A,outer,s,H0,E0,rfl,hr⟩:=hX
  obtain⟨c,p,rfl,hp,q⟩:=h
  refine⟨_,(ak (aA (i:=2) nd rfl (Or.inl rfl) (ao (aJ K) (az C__law_draws hr (aa (pv 0) (aa (aQ (aa ae af)) (aa (pv 1) af)))) ae (fun _ _=>rfl)))
    (ak (aA (i:=3) nd rfl (Or.inl rfl) (az C__law_spare hr (aa (pv 0) (aa ae af))))
    (ak (br (aM bV (pv 2) ae (aK _)) (ar (aC (az C__law_ring_house hr (aa (pv 3) (aa (pv 1) af))))) aU)
    (ak (br (aM bV (pv 2) ae (aK _)) (ar (aC (az C__law_gate_house hr (aa (pv 3) (aa (pv 1) af))))) aU)
    (ar (aC (az C__law_drawn_house hr (aa (pv 3) (aa (pv 1) af))))))))),?_⟩
  walk_at "rd"
  refine⟨ai (by simp),ah fun w0 G1 f1 hw0 _=>?_⟩
  walk_at "rd"
  refine⟨c,w0,[8],p,rfl,hw0,by decide,by decide,hp,fun dq ds H1 e1 hd hdn hl hb=>?_⟩
  have eH:Ext H H1:=f1.trans e1
  obtain⟨d0,g0,_⟩:=cy hl hb 0 rfl
  walk_at "rd"
  refine aI (ag.of hd) g0 ?_
  walk_at "rd"
  refine⟨c,8,rfl,by decide,by decide,fun z=>?_⟩
  walk_at "rd"
  refine cN (fun h=>?_) (fun h=>?_)
  ·walk_at "rd"
   exact⟨z,p,rfl,hp,fun v m ws H' e hv ok=>q v m ws H' (eH.trans e) hv ok⟩
  ·walk_at "rd"
   refine cN (fun h=>?_) (fun h=>?_)
   ·walk_at "rd"
    exact⟨z,p,rfl,hp,fun v m ws H' e hv ok=>q v m ws H' (eH.trans e) hv ok⟩
   ·walk_at "rd"
    exact⟨z,p,rfl,hp,fun v m ws H' e hv ok=>q v m ws H' (eH.trans e) hv ok⟩
theorem il{H:Hp}{m:Int}{xs:List V}{x:V}(hx:x∈xs)(h:bB H m x=false):eh H m xs=false:=by
 unfold eh
 have:xs.all (bB H m)=false:=by
  rw[List.all_eq_false]
  exact⟨x,hx,by rw[h];exact Bool.false_ne_true⟩
 rw[this,Bool.false_and,Bool.and_false]
theorem Bv{m i:Int}(h:i<0):bR m (.int i)=false:=by
 unfold bR
 dsimp only
 rw[decide_eq_false (show ¬0<=i by omega)]
 rfl
theorem nT{m i:Int}(h:m<=i):bR m (.int i)=false:=by
 unfold bR
 dsimp only
 rw[decide_eq_false (show ¬i<m by omega)]
 exact Bool.and_false _
theorem mZ{m i:Int}(h:0<=i)(h':i<m):bR m (.int i)=true:=by
 unfold bR
 dsimp only
 rw[decide_eq_true h,decide_eq_true h']
 rfl
theorem dR{m:Int}{a b c d:V}(h:bR m a=false\/bR m c=false\/fK b=false\/fP d=false):eG m [a,b,c,d]=false:=by
 unfold eG
 dsimp only
 rcases h with h | h | h | h<;>rw[h]<;>simp
def bH(H:Hp)(n:Nat)(xs:List V):Prop:=∀x∈xs,bf H n x
theorem bH.ext{H H':Hp}{n:Nat}{xs:List V}(e:Ext H H')(h:bH H n xs):bH H' n xs:=fun x hx=>(h x hx).ext e
theorem bH.cut{H:Hp}{n:Nat}{xs:List V}{lo hi:Option Int}(h:bH H n xs):bH H n (ck xs lo hi):=fun x hx=>h x (List.mem_of_mem_drop (List.mem_of_mem_take hx))
theorem bH.app{H:Hp}{n:Nat}{xs ys:List V}(h:bH H n xs)(h':bH H n ys):bH H n (xs++ys):=fun x hx=>(List.mem_append.mp hx).elim (h x) (h' x)
theorem bH.nil(H:Hp)(n:Nat):bH H n []:=fun x hx=>by cases hx
theorem bH.cons{H:Hp}{n:Nat}{x:V}{xs:List V}(h:bf H n x)(h':bH H n xs):bH H n (x::xs):=fun y hy=>by
 rcases List.mem_cons.mp hy with rfl | hy
 ·exact h
 ·exact h' y hy
theorem aV{H:Hp}{n:Nat}{p:Addr}{xs:List V}(h:H p=some (.tup xs))(hl:xs.length<=2000)(hx:bH H n xs):bf H (n+1) (.ref p):=⟨xs,.inl h,hl,hx⟩
theorem lZ{H:Hp}{n:Nat}{p:Addr}{xs:List V}(h:H p=some (.lst xs))(hl:xs.length<=2000)(hx:bH H n xs):bf H (n+1) (.ref p):=⟨xs,.inr h,hl,hx⟩
theorem bf.up{H:Hp}:∀{n:Nat} {v:V},bf H n v->bf H (n+1) v:=by
 intro n
 induction n with
 | zero=>
  intro v h
  cases v<;>first | exact h | exact h.elim
 | succ n ih=>
  intro v h
  cases v with
  | ref p=>
   obtain⟨xs,h1,h2,h3⟩:=h
   exact⟨xs,h1,h2,fun x hx=>ih (h3 x hx)⟩
  | _=>exact h
theorem bH.up{H:Hp}{n:Nat}{xs:List V}(h:bH H n xs):bH H (n+1) xs:=fun x hx=>(h x hx).up
theorem aN(H:Hp)(n:Nat)(i:Int):bf H n (.int i):=by cases n<;>trivial
theorem sR(H:Hp)(n:Nat):bf H n .non:=by cases n<;>trivial
theorem qA(H:Hp)(n:Nat)(b:Bool):bf H n (.bl b):=by cases n<;>trivial
theorem bt(H:Hp)(n:Nat){z:Str}(h:z.length<=1000):bf H n (.str z):=by cases n<;>exact h
theorem uZ{xs:List V}{lo hi:Option Int}{k:Nat}(h:xs.length<=k):(ck xs lo hi).length<=k:=Nat.le_trans (mf xs lo hi) h
theorem yQ{z:Str}(h:bu z):z.length<=1000:=by
 rcases h with rfl | rfl | rfl | rfl<;>decide +kernel
theorem Dg{z:Str}(h:gp z):z.length<=1000:=by
 obtain⟨c,_,_,rfl⟩:=h
 show 1<=1000
 decide
theorem zZ{H:Hp}{m:Int}{w:Way}(ok:w.Ok m):bH H 0 w.vs:=
 .cons (aN _ _ _) (.cons (bt _ _ (yQ ok.dd)) (.cons (aN _ _ _) (.cons (bt _ _ (Dg ok.sg)) (.nil _ _))))
theorem sd{H:Hp}{v:V}{m:Int}{ws:List Way}(h:aW H v m ws)(ok:HOuse m ws):∃p q bs,v=.ref p/\H p=some (.tup [.int m,.ref q])/\H q=some (.tup (bs.map V.ref))/\bs.length=ws.length/\aP H bs ws/\bH H 1 (bs.map V.ref):=by
 obtain⟨p,q,rfl,h1,h2⟩:=h
 obtain⟨bs,h3,h4⟩:=h2.al
 refine⟨p,q,bs,rfl,h1,h3,h4.1,h4,fun x hx=>?_⟩
 obtain⟨b,hb,rfl⟩:=List.mem_map.mp hx
 obtain⟨j,hj,e⟩:=List.mem_iff_getElem.mp hb
 have hjw:j<ws.length:=by rw[←h4.1];exact hj
 have hw:ws[j]?=some ws[j]:=EJ hjw
 exact aV (h4.2 j b _ (by rw[EJ hj,e]) hw) (by show 4<=2000;decide) (zZ (ok.ok _ (List.getElem_mem _)))
theorem w5{c:Nat}(h1:97<=c)(h2:c<=122):jQ ⟨#[c]⟩=true:=by
 have ea:(Str.ofString "a").cps.toList=[97]:=by decide +kernel
 have ez:(Str.ofString "z").cps.toList=[122]:=by decide +kernel
 unfold jQ
 rw[ea,ez]
 show(!decide (([c]:List Nat) < [97]) && !decide (([122]:List Nat) < [c]))=true
 rw[decide_eq_false (fun z=>by rw[List.cons_lt_cons_iff]at z;simp at z;omega),decide_eq_false (fun z=>by rw[List.cons_lt_cons_iff]at z;simp at z;omega)]
 rfl
theorem CN{z:Str}(h:bu z):fK (.str z)=true:=by
 rcases h with rfl | rfl | rfl | rfl<;>decide +kernel
theorem AI{H:Hp}{b:Addr}{m:Int}{w:Way}(h:H b=some (.tup w.vs))(ok:w.Ok m):bB H m (.ref b)=true:=by
 rw[cF h]
 obtain⟨c,h1,h2,e⟩:=ok.sg
 unfold Way.vs eG
 dsimp only
 rw[mZ ok.r0 ok.r1,mZ ok.o0 ok.o1,CN ok.dd,e]
 unfold fP
 dsimp only
 rw[w5 h1 h2]
 rfl
theorem qz{H:Hp}:∀{bs:List Addr} {ws:List Way},aP H bs ws->(bs.map V.ref).map (cw H)=ws.map Way.key
 | [],[],_=>rfl
 | [],_::_,h=>by cases h.1
 | _::_,[],h=>by cases h.1
 | b::bs,w::ws,h=>by
  rw[List.map_cons,List.map_cons,List.map_cons,qz (bs:=bs) (ws:=ws) ⟨Nat.succ.inj h.1,fun j b w e1 e2=>h.2 (j+1) b w e1 e2⟩,jM (h.2 0 b w rfl rfl)]
  rfl
theorem xQ{H:Hp}{m:Int}{bs:List Addr}{ws:List Way}(h:aP H bs ws)(ok:∀w∈ws,w.Ok m):(bs.map V.ref).all (bB H m)=true:=by
 rw[List.all_eq_true]
 intro x hx
 obtain⟨b,hb,rfl⟩:=List.mem_map.mp hx
 obtain⟨j,hj,e⟩:=List.mem_iff_getElem.mp hb
 have hjw:j<ws.length:=by rw[←h.1];exact hj
 exact AI (h.2 j b _ (by rw[EJ hj,e]) (EJ hjw)) (ok _ (List.getElem_mem hjw))
theorem DU{H:Hp}{p q:Addr}{m:Int}{bs:List Addr}{ws:List Way}(h1:H p=some (.tup [.int m,.ref q]))(h2:H q=some (.tup (bs.map V.ref)))(h3:aP H bs ws)(m1:1<=m)(m2:m<=12)(ok:∀w∈ws,w.Ok m)(nd:ws.Nodup):cz H (.ref p)=decide (ws.length<=100):=by
 rw[cx h1]
 unfold dk
 dsimp only
 rw[decide_eq_true m1,decide_eq_true m2,fh h2]
 unfold eh
 have hk:(ws.map Way.key).Nodup:=by
  unfold List.Nodup at nd ⊢
  rw[List.pairwise_map]
  exact nd.imp fun ne e=>ne (Way.key_inj e)
 rw[xQ h3 ok,qz h3,decide_eq_true hk,EI,h3.1]
 simp
theorem xo{H H':Hp}{m:Int}{n:Nat}{v:V}(e:Ext H H')(h:bf H (n+1) v):dA H' m v=dA H m v:=by
 cases v with
 | ref p=>
  obtain⟨xs,h1,_,h3⟩:=h
  unfold dA
  dsimp only
  rcases h1 with h1 | h1
  ·rw[h1,e _ _ h1]
   dsimp only
   unfold eh
   have e1:xs.all (bB H' m)=xs.all (bB H m):=by
    rw[Bool.eq_iff_iff,List.all_eq_true,List.all_eq_true]
    exact⟨fun z x hx=>by rw[←jU e (h3 x hx)];exact z x hx,fun z x hx=>by rw[jU e (h3 x hx)];exact z x hx⟩
   have e2:xs.map (cw H')=xs.map (cw H):=List.map_congr_left fun x hx=>Cb e (h3 x hx)
   rw[e1,e2]
  ·rw[h1,e _ _ h1]
 | _=>rfl
theorem AO{H H':Hp}{v:V}(e:Ext H H')(h:bf H 4 v):cz H' v=cz H v:=by
 cases v with
 | ref p=>
  obtain⟨xs,h1,_,h3⟩:=h
  unfold cz
  dsimp only
  rcases h1 with h1 | h1
  ·rw[h1,e _ _ h1]
   dsimp only
   unfold dk
   split
   ·rename_i m q _hl
    rw[xo e (h3 q (by simp))]
   ·rfl
  ·rw[h1,e _ _ h1]
 | _=>rfl
def dh(H:Hp)(v:V):Prop:=bf H 4 v/\cz H v=false
theorem dh.ext{H H':Hp}{v:V}(e:Ext H H')(h:dh H v):dh H' v:=⟨h.1.ext e,(AO e h.1).trans h.2⟩
def Ref(K:EE)(H:Hp)(E:XK):Prop:=∀H',Ext H H'->E (.ref (cA K "NoHouse")) none H'
def fJ(K:EE):Sp:=fun vs H Q E=>∃v,vs=[v]/\bf H 4 v/\∀H',Ext H H'->if cz H v=true then Q .non H' else E (.ref (cA K "NoHouse")) none H'
abbrev kA:Stmt:=stq 27
theorem um:FnScope ["thing"] ["thing"] (aG kA):=⟨rfl,rfl,rfl,by decide +kernel,rfl,by decide +kernel,by decide +kernel⟩
theorem BW{P:Program}{w:World}{K:EE}{mg:Str->Option Value}{base:Heap}(D:Dfn K mg "refuse_no_house" kA ["thing"])(T:Blt mg)(XF:Xf K mg base fI fH)(C_is_house:Cal P w K mg base "is_house" 5 ["thing"] (qL K)):CalX P w K mg base "refuse_no_house" 6 ["thing"] (fJ K):=by
 have nd:=(um).nd
 refine D.okX um (fun vs H Q E h=>?_) (fun f cdv A outer s H vs Q E hr h=>?_)
 ·obtain⟨v,rfl,_⟩:=h;rfl
 ·obtain⟨v,rfl,ht,q⟩:=h
  refine⟨_,(ar (br (dJ (cS (az C_is_house hr (aa (pv 0) af)))) (ar (je (XF.own "NoHouse" (by decide +kernel)) PySem.F.excBase_ValueError (aa av af))) aU)),?_⟩
  walk_at "rd"
  refine⟨v,rfl,ht,fun H1 e1=>?_⟩
  have q1:=q H1 e1
  walk_at "rd"
  cases hv:cz H v with
  | true=>
   rw[hv,if_pos rfl]at q1
   refine aw ?_
   walk_at "rd"
   exact q1
  | false=>
   rw[hv,if_neg Bool.false_ne_true]at q1
   refine aB ?_
   walk_at "rd"
   exact⟨ai (by simp),q1⟩
theorem refuses{K:EE}{H:Hp}{v:V}{Q:VK}{E:XK}(hv:dh H v)(q:Ref K H E):fJ K [v] H Q E:=
 ⟨v,rfl,hv.1,fun H1 e1=>by rw[hv.2];exact aw (q H1 e1)⟩
theorem sf{H:Hp}{v:V}{m:Int}{ws:List Way}(hv:aW H v m ws)(ok:HOuse m ws):bf H 4 v/\cz H v=true:=by
 obtain⟨p,q,bs,rfl,h1,h2,h3,h4,h5⟩:=sd hv ok
 have hfew:=ok.few
 have t2:bf H 2 (.ref q):=aV h2 (by rw[EI,h3];omega) h5
 exact⟨aV h1 (by simp) (.cons (aN _ _ _) (.cons t2.up (.nil _ _))),(DU h1 h2 h4 ok.m1 ok.m12 ok.ok ok.nd).trans (decide_eq_true ok.few)⟩
theorem accepts{K:EE}{H:Hp}{v:V}{m:Int}{ws:List Way}{Q:VK}{E:XK}(hv:aW H v m ws)(ok:HOuse m ws)(q:∀H',Ext H H'->Q .non H'):fJ K [v] H Q E:=
 ⟨v,rfl,(sf hv ok).1,fun H1 e1=>by rw[(sf hv ok).2];exact aB (q H1 e1)⟩
def eU(K:EE)(H:Hp)(E:XK)(c:Str):Prop:=∀H',Ext H H'->E (.ref (cA K c)) none H'
def cv(m p q:Int):Prop:=(0<=p/\p<m)/\0<=q/\q<m
theorem i3(m p:Int):bR m (.int p)=true↔0<=p/\p<m:=by
 unfold bR
 simp
def cZ(z:Str):Str:=if z = "up" then "down" else if z = "down" then "up" else z
theorem AD{z:Str}(h:bu z):bC iy (.inr z)=some (.str (cZ z)):=by
 rcases h with rfl | rfl | rfl | rfl<;>decide +kernel
def Way.turn(w:Way):Way:=⟨w.other,cZ w.deed,w.room,w.sign⟩
theorem Di{z:Str}(h:bu z):bu (cZ z):=by
 rcases h with rfl | rfl | rfl | rfl
 ·exact .inr (.inl (by decide +kernel))
 ·exact .inl (by decide +kernel)
 ·exact .inr (.inr (.inl (by decide +kernel)))
 ·exact .inr (.inr (.inr (by decide +kernel)))
theorem uQ{z:Str}(h:bu z):cZ (cZ z)=z:=by
 rcases h with rfl | rfl | rfl | rfl<;>decide +kernel
theorem Way.turn_turn{m:Int}{w:Way}(h:w.Ok m):w.turn.turn=w:=by
 obtain⟨a,b,c,d⟩:=w
 show(⟨a,cZ (cZ b),c,d⟩:Way)=_
 rw[uQ h.dd]
theorem Way.Ok.turn{m:Int}{w:Way}(h:w.Ok m):w.turn.Ok m:=⟨h.o0,h.o1,h.r0,h.r1,Di h.dd,h.sg⟩
theorem HOuse.turn{m:Int}{ws:List Way}(h:HOuse m ws):HOuse m (ws.map Way.turn) where
 m1:=h.m1
 m12:=h.m12
 few:=by rw[EI];exact h.few
 ok:=fun w hw=>by
  obtain⟨u,hu,rfl⟩:=List.mem_map.mp hw
  exact(h.ok u hu).turn
 nd:=by
  have nd:=h.nd
  unfold List.Nodup at nd ⊢
  rw[List.pairwise_map]
  refine nd.imp_of_mem fun{a b} ha hb ne e=>ne ?_
  rw[←Way.turn_turn (h.ok a ha),←Way.turn_turn (h.ok b hb),e]
def rT(K:EE):Sp:=fun vs H Q _=>∃p w,vs=[.ref p]/\H p=some (.tup (Way.vs w))/\bu w.deed/\∀v H',Ext H H'->H' v=some (.tup (Way.vs w.turn))->Q (.ref v) H'
abbrev kO:Stmt:=stq 29
theorem wy:FnScope ["way"] ["way"] (aG kO):=⟨rfl,rfl,rfl,by decide +kernel,rfl,by decide +kernel,by decide +kernel⟩
theorem DF{P:Program}{w:World}{K:EE}{mg:Str->Option Value}{base:Heap}(D:Dfn K mg "turned_way" kO ["way"])(T:Blt mg)(g_TURNED:∃a,mg "TURNED" = some (.ref a)/\GDict w K a iy):Cal P w K mg base "turned_way" 1 ["way"] (rT K):=by
 have nd:=(wy).nd
 refine D.ok wy (fun vs H Q E h=>?_) (fun X hX H vs Q E h=>?_)
 ·obtain⟨p,w,rfl,_⟩:=h;rfl
 ·obtain⟨f,cdv,A,outer,s,H0,E0,rfl,hr⟩:=hX
  obtain⟨a_TURNED,m_TURNED,d_TURNED⟩:=g_TURNED
  obtain⟨p,w,rfl,hp,od,q⟩:=h
  refine⟨_,(ar (aC (aF (aa (ao (ay K) (pv 0) ae (fun _ _=>rfl)) (aa (vB rfl m_TURNED d_TURNED (ao (ay K) (pv 0) ae (fun _ _=>rfl)) (fun _ _=>rfl)) (aa (ao (ay K) (pv 0) ae (fun _ _=>rfl)) (aa (ao (ay K) (pv 0) ae (fun _ _=>rfl)) af))))))),?_⟩
  walk_at "rd"
  refine ax (aj.of hp) (v:=.int w.other) rfl ?_
  walk_at "rd"
  refine ax (aj.of hp) (v:=.str w.deed) rfl ?_
  walk_at "rd"
  refine sN (AD od) ?_
  walk_at "rd"
  refine ax (aj.of hp) (v:=.int w.room) rfl ?_
  walk_at "rd"
  refine ax (aj.of hp) (v:=.str w.sign) rfl ?_
  walk_at "rd"
  exact⟨ai (by simp),ah fun v H' e hv _=>q v H' e hv⟩
def pT(K:EE):Sp:=fun vs H Q _=>∃v m ws,vs=[v]/\aW H v m ws/\HOuse m ws/\∀u H',Ext H H'->aW H' u m (List.map Way.turn ws)->Q u H'
abbrev i4:Stmt:=stq 30
theorem tU:FnScope ["house"] ["house"] (aG i4):=⟨rfl,rfl,rfl,by decide +kernel,rfl,by decide +kernel,by decide +kernel⟩
theorem xY{P:Program}{w:World}{K:EE}{mg:Str->Option Value}{base:Heap}(D:Dfn K mg "turned_about" i4 ["house"])(T:Blt mg)(C_turned_way:Cal P w K mg base "turned_way" 1 ["way"] (rT K))(C0_refuse_no_house:Cal P w K mg base "refuse_no_house" 6 ["thing"] (fun vs H Q _=>fJ K vs H Q E0)):Cal P w K mg base "turned_about" 7 ["house"] (pT K):=by
 have nd:=(tU).nd
 refine D.ok tU (fun vs H Q E h=>?_) (fun X hX H vs Q E h=>?_)
 ·obtain⟨v,m,ws,rfl,_⟩:=h;rfl
 ·obtain⟨f,cdv,A,outer,s,H0,E0,rfl,hr⟩:=hX
  obtain⟨v,m,ws,rfl,h1,ok,q⟩:=h
  have hfew:=ok.few
  refine⟨_,(ak (bw (az C0_refuse_no_house hr (aa (pv 0) af)))
    (ar (aC (aF (aa (ao (ay K) (pv 0) ae (fun _ _=>rfl)) (aa (gm (nP K) rfl T.tuple_ PyProof.Rows.boot_tuple (aa (eZ ["way"] [] (jH K (ao (ay K) (pv 0) ae (fun _ _=>rfl))) (fun _=>(aR (i:=0) (show(["way"]:List Str).Nodup from by decide +kernel) rfl (Or.inl rfl) (Or.inr rfl))) (fun _=>eY) (fun _=>(az C_turned_way hr (aa (pv 0) af)))) af)) af)))))),?_⟩
  walk_at "rd"
  refine accepts h1 ok fun H1 e1=>?_
  obtain⟨p,r,rfl,g1,g2⟩:=h1.ext e1
  obtain⟨bs,g3,al⟩:=cj.al g2
  walk_at "rd"
  refine ax (aj.of g1) (v:=.int m) rfl ?_
  walk_at "rd"
  refine ax (aj.of g1) (v:=.ref r) rfl ?_
  refine ku (aj.of g3) ?_
  refine lh (xs:=bs.map V.ref) (fun i ys H'=>Ext H1 H'/\∃cs,ys=cs.map V.ref/\aP H' cs ((ws.take i).map Way.turn)) (bX (by rw[EI,al.1];omega)) ⟨Ext.rfl' _,[],rfl,aP.nil _⟩ (fun i ys H' hi h=>⟨aj.of (h.1 _ _ g3),?_⟩) ?_ ?_
  ·obtain⟨_,cs,rfl,hc,_⟩:=h
   rw[EI,hc,EI,List.length_take]
   exact Nat.min_le_left _ _
  ·rintro i x ys H' hx ⟨e2,cs,rfl,al2⟩
   rw[EK]at hx
   obtain⟨b,hb,rfl⟩:=Option.map_eq_some_iff.mp hx
   have hi:i<ws.length:=by
    rw[←al.1]
    exact(List.getElem?_eq_some_iff.mp hb).1
   have hwi:ws[i]?=some ws[i]:=EJ hi
   walk_at "rd"
   refine aB ?_
   walk_at "rd"
   refine⟨b,ws[i],rfl,e2 _ _ (al.2 i b _ hb hwi),(ok.ok _ (List.getElem_mem hi)).dd,fun v H3 e3 hv=>?_⟩
   refine⟨e2.trans e3,cs++[v],by rw[List.map_append];rfl,?_⟩
   rw[List.take_add_one,hwi,List.map_append]
   exact(al2.ext e3).snoc hv
  ·rintro ys H' l ⟨e2,cs,rfl,al2⟩ hl
   rw[EI,al.1,List.take_length]at al2
   walk_at "rd"
   have e3:Ext H1 (upd H' l (.lst (cs.map V.ref))):=e2.trans (bM hl)
   have al3:=al2.ext (bM (o:=.lst (cs.map V.ref)) hl)
   have hl3:upd H' l (.lst (cs.map V.ref)) l=some (.lst (cs.map V.ref)):=aY
   generalize upd H' l (.lst (cs.map V.ref))=H4 at e3 al3 hl3 ⊢
   refine lr (ag.of hl3) (ah fun t H5 e5 ht _=>?_)
   walk_at "rd"
   refine⟨ai (by simp),ah fun u H6 e6 hu _=>?_⟩
   exact q _ H6 (e1.trans (e3.trans (e5.trans e6))) (aW.mk hu (((al3.ext e5).ways ht).ext e6))
theorem iq{a b:Str}:decide (V.str a=V.str b)=decide (a=b):=by
 by_cases h:a=b
 ·subst h;simp
 ·rw[decide_eq_false h,decide_eq_false (fun z=>h (V.str.inj z))]
theorem fk{a b:Str}{H:Hp}{Q:VK}(h:Q (.bl (decide (a=b))) H):mw (.str a) (.str b) H Q:=⟨rfl,by rw[iq];exact h⟩
theorem oj{a b:Str}{H:Hp}{Q:VK}(h:Q (.bl (!decide (a=b))) H):iH (.str a) (.str b) H Q:=⟨rfl,by rw[iq];exact h⟩
theorem iM{α β:Type}{F:α->β->Prop}{cs:List α}{ts:List β}(h:Paired F cs ts):∀{i:Nat} {c:α},cs[i]?=some c->∃t,ts[i]?=some t/\F c t:=by
 induction h with
 | nil=>intro i c e;simp at e
 | cons h t ih=>
  intro i c e
  cases i with
  | zero=>cases e;exact⟨_,rfl,h⟩
  | succ i=>exact ih e
theorem jk{α β:Type}{F:α->β->Prop}{cs:List α}{ts:List β}(h:Paired F cs ts):∀{i:Nat} {t:β},ts[i]?=some t->∃c,cs[i]?=some c/\F c t:=by
 induction h with
 | nil=>intro i c e;simp at e
 | cons h t ih=>
  intro i c e
  cases i with
  | zero=>cases e;exact⟨_,rfl,h⟩
  | succ i=>exact ih e
abbrev bq(H:Hp)(a:Addr)(x:Bfs.Pl):Prop:=H a=some (.tup [.int x.1,.int x.2])
abbrev bG(x:Bfs.Pl):List Key:=[.inl x.1,.inl x.2]
theorem rm{x y:Bfs.Pl}(h:bG x=bG y):x=y:=by
 simp only[bG,List.cons.injEq,Sum.inl.injEq,and_true]at h
 exact Prod.ext h.1 h.2
theorem bq.put{H:Hp}{f a:Addr}{x:Bfs.Pl}{o o':HO}(hf:H f=some o)(hn:∀xs,o≠.tup xs)(h:bq H a x):bq (upd H f o') a x:=by
 show upd H f o' a=_
 rw[aL (du h hf (fun z=>hn _ z.symm))]
 exact h
def cT(m:Int)(x:Bfs.Pl):Prop:=0<=x.1/\x.1<m/\0<=x.2/\x.2<=1000
def rV(K:EE):Sp:=fun vs H Q _=>∃hp hq m l as xs,vs=[.ref hp,.ref l]/\H hp=some (.tup [.int m,hq])/\H l=some (.lst (List.map V.ref as))/\Paired (bq H) as xs/\(∀x∈xs,cT m x)/\Q .non H
abbrev kB:Stmt:=stq 28
theorem rL:FnScope ["house","places","place"] ["house","places"] (aG kB):=⟨rfl,rfl,rfl,by decide +kernel,rfl,by decide +kernel,by decide +kernel⟩
theorem yb{P:Program}{w:World}{K:EE}{mg:Str->Option Value}{base:Heap}(D:Dfn K mg "refuse_bad_places" kB ["house","places"])(T:Blt mg)(g_GREATEST_NUMBER:∃t,mg "GREATEST_NUMBER" = some (.int 1000 t))(C_is_room:Cal P w K mg base "is_room" 2 ["thing","many"] (kq K)):Cal P w K mg base "refuse_bad_places" 3 ["house","places"] (rV K):=by
 have nd:=(rL).nd
 refine D.ok rL (fun vs H Q E h=>?_) (fun X hX H vs Q E h=>?_)
 ·obtain⟨hp,hq,m,l,as,xs,rfl,_⟩:=h;rfl
 ·obtain⟨f,cdv,A,outer,s,H0,E0,rfl,hr⟩:=hX
  obtain⟨t_GREATEST_NUMBER,c_GREATEST_NUMBER⟩:=g_GREATEST_NUMBER
  obtain⟨hp,hq,m,l,as,xs,rfl,h1,h2,h3,hin,q⟩:=h
  refine⟨_,(ak (bJ PassesOwn.never rfl (dH K (pv 1)) (aR (i:=2) nd rfl (Or.inl rfl)) (ar (br (PW.pt (dn (dJ (cS (az C_is_room hr (aa (ao (ay K) (pv 2) ae (fun _ _=>rfl)) (aa (ao (ay K) (pv 0) ae (fun _ _=>rfl)) af))))) (dZ (aM eS (ao (ay K) (pv 2) ae (fun _ _=>rfl)) ae (aK _))))) (ar rH) aU)))
    (ar (bJ PassesOwn.never rfl (dH K (pv 1)) (aR (i:=2) nd rfl (Or.inl rfl)) (ar (br (aM fg (ao (ay K) (pv 2) ae (fun _ _=>rfl)) (bU (v:=.int 1000) rfl c_GREATEST_NUMBER ⟨_,rfl⟩) (aK _)) (ar rH) aU))))),?_⟩
  walk_at "rd"
  refine dU (ag.of h2) ?_
  refine forL (xs:=List.map V.ref as) (fun i σ H'=>H'=H/\∃k,σ=[some (.ref hp),some (.ref l),k]) ⟨rfl,none,rfl⟩ (fun i σ H' _ h=>by rw[h.1];exact ag.of h2) ?_ ?_
  ·rintro i x σ H' hx ⟨rfl,k,rfl⟩
   rw[EK]at hx
   obtain⟨b,hb,rfl⟩:=Option.map_eq_some_iff.mp hx
   obtain⟨t,ht,hp3⟩:=iM h3 hb
   obtain⟨r0,r1,n0,n1⟩:=hin t (List.mem_of_getElem? ht)
   walk_at "rd"
   refine ax (aj.of hp3) (v:=.int t.1) rfl ?_
   walk_at "rd"
   refine ax (aj.of h1) (v:=.int m) rfl ?_
   walk_at "rd"
   refine⟨_,_,"int",rfl,rfl,?_⟩
   rw[mZ r0 r1]
   walk_at "rd"
   refine aw ?_
   walk_at "rd"
   refine ax (aj.of hp3) (v:=.int t.2) rfl ?_
   walk_at "rd"
   rw[decide_eq_false (show ¬t.2<0 by omega)]
   refine aw ?_
   walk_at "rd"
   exact⟨rfl,_,rfl⟩
  ·rintro σ H' ⟨rfl,k,rfl⟩
   walk_at "rd"
   refine dU (ag.of h2) ?_
   refine forL (xs:=List.map V.ref as) (fun i σ H2=>H2=H'/\∃k,σ=[some (.ref hp),some (.ref l),k]) ⟨rfl,_,rfl⟩ (fun i σ H2 _ h=>by rw[h.1];exact ag.of h2) ?_ ?_
   ·rintro i x σ H2 hx ⟨rfl,k,rfl⟩
    rw[EK]at hx
    obtain⟨b,hb,rfl⟩:=Option.map_eq_some_iff.mp hx
    obtain⟨t,ht,hp3⟩:=iM h3 hb
    obtain⟨r0,r1,n0,n1⟩:=hin t (List.mem_of_getElem? ht)
    walk_at "rd"
    refine ax (aj.of hp3) (v:=.int t.2) rfl ?_
    walk_at "rd"
    rw[decide_eq_false (show ¬(1000:Int)<t.2 by omega)]
    refine aw ?_
    walk_at "rd"
    exact⟨rfl,_,rfl⟩
   ·rintro σ H2 ⟨rfl,k,rfl⟩
    walk_at "rd"
    exact q
def fZ(w:Way)(r n:Int):Bool:=decide (w.room=r) && (if decide (w.deed = "down")=true then decide (0<n)else(!decide (w.deed = "zero") || decide (n=0)))
def uw(K:EE):Sp:=fun vs H Q _=>∃b w p x,vs=[.ref b,.ref p]/\H b=some (.tup (Way.vs w))/\bq H p x/\Q (.bl (fZ w x.1 x.2)) H
abbrev iY:Stmt:=stq 31
theorem tj:FnScope ["way","place"] ["way","place"] (aG iY):=⟨rfl,rfl,rfl,by decide +kernel,rfl,by decide +kernel,by decide +kernel⟩
theorem yf{P:Program}{w:World}{K:EE}{mg:Str->Option Value}{base:Heap}(D:Dfn K mg "is_open" iY ["way","place"])(T:Blt mg):Cal P w K mg base "is_open" 1 ["way","place"] (uw K):=by
 have nd:=(tj).nd
 refine D.ok tj (fun vs H Q E h=>?_) (fun X hX H vs Q E h=>?_)
 ·obtain⟨b,w,p,x,rfl,_⟩:=h;rfl
 ·obtain⟨f,cdv,A,outer,s,H0,E0,rfl,hr⟩:=hX
  obtain⟨b,w,p,⟨r,n⟩,rfl,h1,h2,q⟩:=h
  refine⟨_,(ak (br (aM cL (ao (ay K) (pv 0) ae (fun _ _=>rfl)) (ao (ay K) (pv 1) ae (fun _ _=>rfl)) (aK _)) (ar (aC cn)) aU)
    (ak (br (aM bV (ao (ay K) (pv 0) ae (fun _ _=>rfl)) av (aK _)) (ar (aC (hZ fg (ao (ay K) (pv 1) ae (fun _ _=>rfl)) ae (aK _)))) aU)
    (ar (aC (Dk (hZ cL (ao (ay K) (pv 0) ae (fun _ _=>rfl)) av (aK _)) (eW (hZ bV (ao (ay K) (pv 1) ae (fun _ _=>rfl)) ae (aK _)))))))),?_⟩
  walk_at "rd"
  refine ax (aj.of h1) (v:=.int w.room) rfl ?_
  walk_at "rd"
  refine ax (aj.of h2) (v:=.int r) rfl ?_
  walk_at "rd"
  unfold fZ at q
  dsimp only at q
  by_cases e:w.room=r
  ·rw[decide_eq_true e]
   refine aw ?_
   walk_at "rd"
   rw[decide_eq_true e,Bool.true_and]at q
   refine ax (aj.of h1) (v:=.str w.deed) rfl ?_
   walk_at "rd"
   refine fk ?_
   refine rd_exb ?_
   cases ed:decide (w.deed = "down")with
   | true=>
    rw[ed]at q
    refine aB ?_
    walk_at "rd"
    refine ax (aj.of h2) (v:=.int n) rfl ?_
    walk_at "rd"
    exact q
   | false=>
    rw[ed]at q
    refine aw ?_
    walk_at "rd"
    refine ax (aj.of h1) (v:=.str w.deed) rfl ?_
    walk_at "rd"
    refine oj ?_
    refine rd_exb ?_
    cases ez:decide (w.deed = "zero")with
    | true=>
     rw[ez]at q
     refine aw ?_
     walk_at "rd"
     refine ax (aj.of h2) (v:=.int n) rfl ?_
     walk_at "rd"
     exact q
    | false=>
     rw[ez]at q
     exact aB q
  ·rw[decide_eq_false e]
   refine aB ?_
   walk_at "rd"
   rw[decide_eq_false e,Bool.false_and]at q
   exact q
def nu:List (Key×V):=[(.inr "up",.int 1),(.inr "down",.int (-1)),(.inr "stay",.int 0),(.inr "zero",.int 0)]
theorem CW{w:World}{K:EE}{a:Addr}{t1 t2 t3 t4 t5 t6 t7 t8:Tok}{ep:Nat}(h:K.lookup a=some (gn w [("up",t1,.int 1 t2),("down",t3,.int (-1) t4),("stay",t5,.int 0 t6),("zero",t7,.int 0 t8)] ep))(hs:(a == sysModules)=false):GDict w K a nu:=
 ⟨⟨_,_,h,.cons ⟨rfl,⟨_,rfl⟩⟩ (.cons ⟨rfl,⟨_,rfl⟩⟩ (.cons ⟨rfl,⟨_,rfl⟩⟩ (.cons ⟨rfl,⟨_,rfl⟩⟩ .nil)))⟩,by decide +kernel,hs⟩
def rz(z:Str):Int:=if z = "up" then 1 else if z = "down" then -1 else 0
theorem zF{z:Str}(h:bu z):bC nu (.inr z)=some (.int (rz z)):=by
 rcases h with rfl | rfl | rfl | rfl<;>decide +kernel
def rC(K:EE):Sp:=fun vs H Q _=>∃b w,vs=[.ref b]/\H b=some (.tup (Way.vs w))/\bu w.deed/\Q (.int (rz w.deed)) H
abbrev kI:Stmt:=stq 32
theorem oM:FnScope ["way"] ["way"] (aG kI):=⟨rfl,rfl,rfl,by decide +kernel,rfl,by decide +kernel,by decide +kernel⟩
theorem xH{P:Program}{w:World}{K:EE}{mg:Str->Option Value}{base:Heap}(D:Dfn K mg "raised_by" kI ["way"])(T:Blt mg)(g_RAISED:∃a,mg "RAISED" = some (.ref a)/\GDict w K a nu):Cal P w K mg base "raised_by" 1 ["way"] (rC K):=by
 have nd:=(oM).nd
 refine D.ok oM (fun vs H Q E h=>?_) (fun X hX H vs Q E h=>?_)
 ·obtain⟨b,w,rfl,_⟩:=h;rfl
 ·obtain⟨f,cdv,A,outer,s,H0,E0,rfl,hr⟩:=hX
  obtain⟨a_RAISED,m_RAISED,d_RAISED⟩:=g_RAISED
  obtain⟨b,w,rfl,h1,hd,q⟩:=h
  refine⟨_,(ar (aC (vB rfl m_RAISED d_RAISED (ao (ay K) (pv 0) ae (fun _ _=>rfl)) (fun _ _=>rfl)))),?_⟩
  walk_at "rd"
  refine ax (aj.of h1) (v:=.str w.deed) rfl ?_
  exact sN (zF hd) q
def oR(K:EE):Sp:=fun vs H Q _=>∃b w p x,vs=[.ref b,.ref p]/\H b=some (.tup (Way.vs w))/\bu w.deed/\bq H p x/\∀t H',Ext H H'->bq H' t (w.other,x.2+rz w.deed)->H t=none->Q (.ref t) H'
abbrev jq:Stmt:=stq 33
theorem vY:FnScope ["way","place"] ["way","place"] (aG jq):=⟨rfl,rfl,rfl,by decide +kernel,rfl,by decide +kernel,by decide +kernel⟩
theorem Bn{P:Program}{w:World}{K:EE}{mg:Str->Option Value}{base:Heap}(D:Dfn K mg "led_to" jq ["way","place"])(T:Blt mg)(C_raised_by:Cal P w K mg base "raised_by" 1 ["way"] (rC K)):Cal P w K mg base "led_to" 2 ["way","place"] (oR K):=by
 have nd:=(vY).nd
 refine D.ok vY (fun vs H Q E h=>?_) (fun X hX H vs Q E h=>?_)
 ·obtain⟨b,w,p,x,rfl,_⟩:=h;rfl
 ·obtain⟨f,cdv,A,outer,s,H0,E0,rfl,hr⟩:=hX
  obtain⟨b,w,p,⟨r,n⟩,rfl,h1,hd,h2,q⟩:=h
  refine⟨_,(ar (aC (aF (aa (ao (ay K) (pv 0) ae (fun _ _=>rfl)) (aa (aq aS (ao (ay K) (pv 1) ae (fun _ _=>rfl)) (az C_raised_by hr (aa (pv 0) af))) af))))),?_⟩
  walk_at "rd"
  refine ax (aj.of h1) (v:=.int w.other) rfl ?_
  walk_at "rd"
  refine ax (aj.of h2) (v:=.int n) rfl ?_
  walk_at "rd"
  refine⟨b,w,rfl,h1,hd,?_⟩
  walk_at "rd"
  refine⟨ai (by simp),ah fun t H1 e1 ht htn=>?_⟩
  exact q t H1 e1 ht htn
theorem Af{K:EE}{a:Addr}{xs:List V}{g:TG}{tb:TS}{D:Ends}{σ:St}{H:Hp}(Pv:Nat->St->Hp->Prop)(h0:Pv 0 σ H)(hl:∀i σ H,i<=xs.length->Pv i σ H->aj K H a xs)
  (hs:∀i u σ H p H',xs[i]?=some u->Pv i σ H->Ext H H'->H' p=some (.tup [.int i,u])->H p=none->g (.ref p) σ H' fun σ2 H2=>tb { D with nx:=Pv (i+1),ct:=Pv (i+1),bk:=D.nx } σ2 H2) (hd:∀σ H,Pv xs.length σ H->D.nx σ H) :
  eQ (fY K a) g tb D σ H:=A8 Pv h0 hl hs hd
def bY(z:Str)(n:Int):Option Int:=
 if decide (z = "up")=true then some (n+1)else if decide (z = "down")=true then(if decide (0<n)=true then some (n-1)else none)else if decide (z = "stay")=true then some n else if decide (z = "zero")=true then(if decide (n=0)=true then some n else none)else none
theorem Ej:decide ((Str.ofString "up")=Str.ofString "down")=false:=by decide +kernel
theorem BV:decide ((Str.ofString "up")=Str.ofString "zero")=false:=by decide +kernel
theorem lT:decide ((Str.ofString "down")=Str.ofString "up")=false:=by decide +kernel
theorem mY:decide ((Str.ofString "stay")=Str.ofString "up")=false:=by decide +kernel
theorem i9:decide ((Str.ofString "stay")=Str.ofString "down")=false:=by decide +kernel
theorem m8:decide ((Str.ofString "zero")=Str.ofString "up")=false:=by decide +kernel
theorem jx:decide ((Str.ofString "zero")=Str.ofString "down")=false:=by decide +kernel
theorem yJ:decide ((Str.ofString "zero")=Str.ofString "stay")=false:=by decide +kernel
theorem dy(z:Str):decide (z=z)=true:=decide_eq_true rfl
theorem fq(n:Int):bY "up" n=some (n+1):=by unfold bY;rw[dy];rfl
theorem fC(n:Int):bY "down" n=if decide (0<n)=true then some (n-1)else none:=by unfold bY;rw[lT,dy];rfl
theorem fF(n:Int):bY "stay" n=some n:=by unfold bY;rw[mY,i9,dy];rfl
theorem fR(n:Int):bY "zero" n=if decide (n=0)=true then some n else none:=by unfold bY;rw[m8,jx,yJ,dy];rfl
theorem Bz{α:Type}{l:List α}(hn:l.Nodup){i j:Nat}{a:α}(hi:l[i]?=some a)(hj:l[j]?=some a):i=j:=by
 obtain⟨h1,e1⟩:=List.getElem?_eq_some_iff.mp hi
 obtain⟨h2,e2⟩:=List.getElem?_eq_some_iff.mp hj
 rcases Nat.lt_trichotomy i j with z | z | z
 ·exact absurd (e1.trans e2.symm) (List.pairwise_iff_getElem.mp hn i j h1 h2 z)
 ·exact z
 ·exact absurd (e2.trans e1.symm) (List.pairwise_iff_getElem.mp hn j i h2 h1 z)
def cM(ws:List Way)(r:Int)(k:Nat):List Nat:=(List.range k).filter fun j=>(ws[j]?).any fun w=>decide (w.room=r)
theorem Ei{ws:List Way}{r:Int}{i:Nat}{w:Way}(h:ws[i]?=some w):cM ws r (i+1)=cM ws r i++if w.room=r then[i]else[]:=by
 unfold cM
 rw[List.range_succ,List.filter_append]
 congr 1
 simp only[List.filter_cons,List.filter_nil,h,Option.any_some]
 by_cases e:w.room=r
 ·rw[decide_eq_true e,if_pos rfl,if_pos e]
 ·rw[decide_eq_false e,if_neg (by decide),if_neg e]
theorem CL(ws:List Way)(r:Int)(k:Nat):(cM ws r k).length<=k:=by
 unfold cM
 exact Nat.le_trans (List.length_filter_le _ _) (Nat.le_of_eq List.length_range)
theorem xG{ws:List Way}{r:Int}{j:Nat}{w:Way}(h:ws[j]?=some w)(e:w.room=r):j∈cM ws r ws.length:=by
 unfold cM
 rw[List.mem_filter,List.mem_range,h]
 exact⟨(List.getElem?_eq_some_iff.mp h).1,by simp[e]⟩
theorem Du{ws:List Way}{r:Int}{j:Nat}(h:j∈cM ws r ws.length):∃w,ws[j]?=some w/\w.room=r:=by
 unfold cM at h
 rw[List.mem_filter,List.mem_range]at h
 have e:=EJ h.1
 rw[e]at h
 exact⟨_,e,by simpa using h.2⟩
theorem jE{n:Nat}(h:n<=24100):n<sizeLine:=Nat.lt_of_le_of_lt h (by decide)
abbrev bh(l:List Nat):List V:=l.map fun j:Nat=>V.int (j:Int)
theorem lO(l:List Nat)(k:Nat):bh (l++[k])=bh l++[.int (k:Int)]:=List.map_append
structure CT(H:Hp)(c:Addr)(m:Int)(ls:List Addr)(ws:List Way)(k:Nat):Prop where
 at_:H c=some (.lst (List.map V.ref ls))
 len:ls.length=m.toNat
 nd:ls.Nodup
 it:∀(r:Nat) (l:Addr),ls[r]?=some l->H l=some (.lst (bh (cM ws r k)))
theorem CT.ext{H H':Hp}{c:Addr}{m:Int}{ls:List Addr}{ws:List Way}{k:Nat}(e:Ext H H')(h:CT H c m ls ws k):CT H' c m ls ws k:=
 ⟨e _ _ h.at_,h.len,h.nd,fun r l hl=>e _ _ (h.it r l hl)⟩
def uH(K:EE):Sp:=fun vs H Q _=>∃v m ws,vs=[v]/\aW H v m ws/\HOuse m ws/\∀c ls H',Ext H H'->CT H' c m ls ws ws.length->Q (.ref c) H'
abbrev j8:Stmt:=stq 35
theorem rS:FnScope ["house","counts","count","way"] ["house"] (aG j8):=⟨rfl,rfl,rfl,by decide +kernel,rfl,by decide +kernel,by decide +kernel⟩
theorem Ds{P:Program}{w:World}{K:EE}{mg:Str->Option Value}{base:Heap}(D:Dfn K mg "counts_by_room" j8 ["house"])(T:Blt mg):Cal P w K mg base "counts_by_room" 1 ["house"] (uH K):=by
 have nd:=(rS).nd
 refine D.ok rS (fun vs H Q E h=>?_) (fun X hX H vs Q E h=>?_)
 ·obtain⟨v,m,ws,rfl,_⟩:=h;rfl
 ·obtain⟨f,cdv,A,outer,s,H0,E0,rfl,hr⟩:=hX
  obtain⟨v,m,ws,rfl,⟨hh,t,rfl,g1,g2⟩,ok,q⟩:=h
  obtain⟨bs,g3,al⟩:=cj.al g2
  have hfew:=ok.few
  have m1:=ok.m1
  have m2:=ok.m12
  refine⟨_,(ak (BZ (i:=1) ["room"] [] nd rfl (Or.inl rfl) (dC rfl T.range_ (aa (ao (ay K) (pv 0) ae (fun _ _=>rfl)) af)) (fun _=>(aR (i:=0) (show(["room"]:List Str).Nodup from by decide +kernel) rfl (Or.inl rfl) (Or.inr rfl))) (fun _=>eY) (fun _=>(aQ af)))
    (ak (bJ PassesOwn.never rfl (Bs K rfl T.enumerate_ (aa (ao (ay K) (pv 0) ae (fun _ _=>rfl)) af)) (gf (n:=2) K rfl (cq (aR (i:=2) nd rfl (Or.inl rfl)) (cq (aR (i:=3) nd rfl (Or.inl rfl)) fS))) (ar (bw (bE K ER PySem.F.slot_list_append PySem.F.type_list_append bW (ao (aJ K) (pv 1) (ao (ay K) (pv 3) ae (fun _ _=>rfl)) (fun _ _=>rfl)) (aa (pv 2) af)))))
    (ar (aC (pv 1))))),?_⟩
  walk_at "rd"
  refine ax (aj.of g1) (v:=.int m) rfl ?_
  walk_at "rd"
  refine dD ⟨by omega,by omega⟩ ?_
  refine oq (fun i ys H'=>Ext H H'/\∃ls:List Addr,ys=List.map V.ref ls/\ls.length=i/\ls.Nodup/\∀l∈ls,H' l=some (.lst [])/\H l=none) (bX (by omega)) ⟨Ext.rfl' _,[],rfl,rfl,List.nodup_nil,fun l h=>by cases h⟩ (fun i ys H' _ h=>by obtain⟨_,ls,rfl,hl,_⟩:=h;rw[EI,hl];exact Nat.le_refl _) ?_ ?_
  ·rintro i ys H' hi ⟨e,ls,rfl,hl,hnd,hls⟩
   walk_at "rd"
   refine aB ?_
   walk_at "rd"
   refine⟨ai (by simp),ah fun l H1 e1 hl1 hln=>?_⟩
   refine⟨e.trans e1,ls++[l],by rw[List.map_append];rfl,by rw[List.length_append,hl];rfl,?_,?_⟩
   ·rw[List.nodup_append]
    refine⟨hnd,by simp,fun a ha b hb z=>?_⟩
    have:b=l:=by simpa using hb
    subst this
    subst z
    rw[(hls a ha).1]at hln
    cases hln
   ·intro a ha
    rcases List.mem_append.mp ha with z | z
    ·exact⟨e1 _ _ (hls a z).1,(hls a z).2⟩
    ·have:a=l:=by simpa using z
     subst this
     exact⟨hl1,e.none hln⟩
  ·rintro ys H1 c ⟨e,ls,rfl,hl,hnd,hls⟩ hc
   walk_at "rd"
   have eN:Ext H (upd H1 c (.lst (List.map V.ref ls))):=e.trans (bM hc)
   have hcH:H c=none:=e.none hc
   have ct0:CT (upd H1 c (.lst (List.map V.ref ls))) c m ls ws 0:=⟨aY,hl,hnd,fun r l hl=>by
    have:=(hls l (List.mem_of_getElem? hl)).1
    rw[aL (cB this hc)]
    exact this⟩
   have hcl:∀l∈ls,H l=none:=fun l h=>(hls l h).2
   generalize upd H1 c (.lst (List.map V.ref ls))=H2 at eN ct0 ⊢
   clear hls hc e H1
   refine ax (aj.of (eN _ _ g1)) (v:=.ref t) rfl ?_
   walk_at "rd"
   refine Dw (aj.of (eN _ _ g3)) ?_
   refine Af (xs:=bs.map V.ref) (fun i σ H'=>∃k1 k2,σ=[some (.ref hh),some (.ref c),k1,k2]/\Ext H H'/\CT H' c m ls ws i) ⟨none,none,rfl,eN,ct0⟩ (fun i σ H' _ h=>by obtain⟨_,_,_,e,_⟩:=h;exact aj.of (e _ _ g3)) ?_ ?_
   ·rintro i u σ H3 pp H4 hu ⟨k1,k2,rfl,e3,ct3⟩ e4 hpp _
    rw[EK]at hu
    obtain⟨b,hb,rfl⟩:=Option.map_eq_some_iff.mp hu
    have hi:i<ws.length:=by
     rw[←al.1]
     exact(List.getElem?_eq_some_iff.mp hb).1
    have hwi:ws[i]?=some ws[i]:=EJ hi
    have e34:=e3.trans e4
    have ct:=ct3.ext e4
    have okw:=ok.ok _ (List.getElem_mem hi)
    have hw:=e34 _ _ (al.2 i b _ hb hwi)
    have csu:=fun r:Nat=>Ei (r:=(r:Int)) hwi
    clear ct3
    generalize ws[i]=w at hw okw csu hwi
    have r0:=okw.r0
    have r1:=okw.r1
    have hlr:w.room.toNat<ls.length:=by rw[ct.len];omega
    have hlg:ls[w.room.toNat]?=some ls[w.room.toNat]:=EJ hlr
    generalize ls[w.room.toNat]=l at hlg
    have hl:=ct.it _ _ hlg
    have hlen:=CL ws (w.room.toNat:Nat) i
    refine gW (aj.of hpp) rfl ?_
    walk_at "rd"
    refine ax (aj.of hw) (v:=.int w.room) rfl ?_
    refine aI (ag.of ct.at_) (v:=.ref l) ?_ ?_
    ·refine gC r0 ?_
     rw[EK,hlg]
     rfl
    refine⟨bS (ag.of hl),?_⟩
    walk_at "rd"
    refine bQ hl (da (by rw[EI];omega)) ?_
    have lc:l≠c:=du hl ct.at_ (fun z=>by
     have z':=HO.lst.inj z
     have hlc:=congrArg List.length z'
     cases hcn:cM ws (w.room.toNat:Nat) i with
     | nil=>
      rw[hcn]at hlc
      rw[EI,EI]at hlc
      have:ls.length=0:=hlc.symm
      omega
     | cons a r=>
      rw[hcn]at z'
      cases ls with
      | nil=>cases z'
      | cons x y=>cases(List.cons.inj z').1)
    walk_at "rd"
    refine⟨_,_,rfl,cu e34 (hcl l (List.mem_of_getElem? hlg)),?_⟩
    refine⟨by rw[aL lc.symm];exact ct.at_,ct.len,ct.nd,fun r l' hl'=>?_⟩
    rw[csu r]
    by_cases er:r=w.room.toNat
    ·subst er
     rw[hlg]at hl'
     cases hl'
     rw[aY,if_pos (by omega),lO]
    ·have nl:l'≠l:=fun z=>er (by
      subst z
      exact Bz ct.nd hl' hlg)
     rw[aL nl,if_neg (by omega),List.append_nil]
     exact ct.it r l' hl'
   ·rintro σ H' ⟨k1,k2,rfl,e3,ct⟩
    rw[EI,al.1]at ct
    walk_at "rd"
    exact q c ls H' e3 ct
def cH(m:Int)(x g:Bfs.Pl):Int:=(if g.2>x.2 then g.2 else x.2)+m*m
def qr(K:EE):Sp:=fun vs H Q _=>∃v m ws a b x g,vs=[v,.ref a,.ref b]/\aW H v m ws/\HOuse m ws/\bq H a x/\bq H b g/\Q (.int (cH m x g)) H
abbrev kS:Stmt:=stq 36
theorem qe:FnScope ["house","place","goal"] ["house","place","goal"] (aG kS):=⟨rfl,rfl,rfl,by decide +kernel,rfl,by decide +kernel,by decide +kernel⟩
theorem A7{P:Program}{w:World}{K:EE}{mg:Str->Option Value}{base:Heap}(D:Dfn K mg "greatest_met" kS ["house","place","goal"])(T:Blt mg):Cal P w K mg base "greatest_met" 1 ["house","place","goal"] (qr K):=by
 have nd:=(qe).nd
 refine D.ok qe (fun vs H Q E h=>?_) (fun X hX H vs Q E h=>?_)
 ·obtain⟨v,m,ws,a,b,x,g,rfl,_⟩:=h;rfl
 ·obtain⟨f,cdv,A,outer,s,H0,E0,rfl,hr⟩:=hX
  obtain⟨v,m,ws,a,b,x,g,rfl,⟨hh,t,rfl,g1,g2⟩,ok,hx,hg,q⟩:=h
  have m1:=ok.m1
  have m2:=ok.m12
  refine⟨_,(ar (aC (aq aS (aT (AZ rfl) rfl T.max_ PyProof.Rows.boot_max (aa (ao (ay K) (pv 1) ae (fun _ _=>rfl)) (aa (ao (ay K) (pv 2) ae (fun _ _=>rfl)) af))) (aq cR (ao (ay K) (pv 0) ae (fun _ _=>rfl)) (ao (ay K) (pv 0) ae (fun _ _=>rfl)))))),?_⟩
  walk_at "rd"
  refine ax (aj.of hx) (v:=.int x.2) rfl ?_
  walk_at "rd"
  refine ax (aj.of hg) (v:=.int g.2) rfl ?_
  walk_at "rd"
  refine ax (aj.of g1) (v:=.int m) rfl ?_
  walk_at "rd"
  refine ax (aj.of g1) (v:=.int m) rfl ?_
  walk_at "rd"
  try refine rd_I (.inl ⟨by omega,by omega⟩) ?_
  walk_at "rd"
  exact q
def bZ(ws:List Way)(T:Int)(x:Bfs.Pl)(k:Nat):Option Bfs.Pl:=
 (ws[k]?).bind fun w=>if w.room=x.1 then(bY w.deed x.2).bind fun n=>if n<=T then some (w.other,n)else none else none
theorem sG:rz "up" = 1:=by decide +kernel
theorem pS:rz "down" = -1:=by decide +kernel
theorem wt:rz "stay" = 0:=by decide +kernel
theorem pZ:rz "zero" = 0:=by decide +kernel
theorem Ah{z:Str}{n n':Int}(hz:bu z)(h:bY z n=some n'):n'=n+rz z:=by
 rcases hz with e | e | e | e<;>rw[e]at h ⊢
 ·rw[fq]at h;rw[sG];cases h;rfl
 ·rw[fC]at h
  rw[pS]
  split at h
  ·cases h;omega
  ·cases h
 ·rw[fF]at h;rw[wt];cases h;omega
 ·rw[fR]at h
  rw[pZ]
  split at h
  ·cases h;omega
  ·cases h
theorem o9{w:Way}(hz:bu w.deed)(x:Bfs.Pl):fZ w x.1 x.2=true↔w.room=x.1/\bY w.deed x.2=some (x.2+rz w.deed):=by
 unfold fZ
 rcases hz with e | e | e | e<;>rw[e]
 ·rw[Ej,BV,fq,sG];simp
 ·rw[dy,fC,pS]
  by_cases h:0<x.2
  ·rw[decide_eq_true h];simp[Int.sub_eq_add_neg]
  ·rw[decide_eq_false h];simp
 ·rw[i9,decide_eq_false (show ¬(Str.ofString "stay")=Str.ofString "zero" by decide +kernel),fF,wt];simp
 ·rw[jx,dy,fR,pZ]
  by_cases h:x.2=0
  ·rw[decide_eq_true h];simp
  ·rw[decide_eq_false h];simp
theorem yd{ws:List Way}{T:Int}{x:Bfs.Pl}{k:Nat}{w:Way}(h:ws[k]?=some w)(hz:bu w.deed)(ho:fZ w x.1 x.2=true)(ht:x.2+rz w.deed<=T):bZ ws T x k=some (w.other,x.2+rz w.deed):=by
 obtain⟨h1,h2⟩:=(o9 hz x).mp ho
 unfold bZ
 rw[h,Option.bind_some,if_pos h1,h2,Option.bind_some,if_pos ht]
theorem kQ{ws:List Way}{T:Int}{x y:Bfs.Pl}{k:Nat}(h:bZ ws T x k=some y):∃w,ws[k]?=some w/\w.room=x.1/\bY w.deed x.2=some y.2/\y.1=w.other/\y.2<=T:=by
 unfold bZ at h
 obtain⟨w,hw,h⟩:=Option.bind_eq_some_iff.mp h
 split at h
 ·rename_i hr
  obtain⟨n,hn,h⟩:=Option.bind_eq_some_iff.mp h
  split at h
  ·rename_i ht
   cases h
   exact⟨w,hw,hr,hn,rfl,ht⟩
  ·cases h
 ·cases h
theorem uD{ws:List Way}{T:Int}{x y:Bfs.Pl}{k:Nat}{w:Way}(hw:ws[k]?=some w)(hz:bu w.deed)(h:bZ ws T x k=some y):fZ w x.1 x.2=true/\y=(w.other,x.2+rz w.deed)/\x.2+rz w.deed<=T:=by
 obtain⟨w',hw',hr,hs,ho,ht⟩:=kQ h
 rw[hw]at hw'
 cases hw'
 have e:=Ah hz hs
 rw[e]at ht hs
 exact⟨(o9 hz x).mpr ⟨hr,hs⟩,Prod.ext ho e,ht⟩
theorem jf{z:Str}{n n':Int}(hz:bu z)(h0:0<=n)(h:bY z n=some n'):0<=n':=by
 rcases hz with e | e | e | e<;>rw[e]at h
 ·rw[fq]at h;cases h;omega
 ·rw[fC]at h
  split at h
  ·rename_i g
   have:=of_decide_eq_true g
   cases h;omega
  ·cases h
 ·rw[fF]at h;cases h;exact h0
 ·rw[fR]at h
  split at h
  ·cases h;exact h0
  ·cases h
def eE(H:Hp)(v:V):Option (Bfs.Pl×Nat)->Prop
 | none=>v=.non
 | some (p,k)=>∃a b,v=.ref a/\H a=some (.tup [.ref b,.int (k:Int)])/\bq H b p
theorem eE.ext{H H':Hp}(e:Ext H H'){v:V}{o:Option (Bfs.Pl×Nat)}(h:eE H v o):eE H' v o:=by
 cases o with
 | none=>exact h
 | some pk=>
  obtain⟨a,b,h1,h2,h3⟩:=h
  exact⟨a,b,h1,e _ _ h2,e _ _ h3⟩
theorem eE.put{H:Hp}{f:Addr}{u u':HO}(hf:H f=some u)(hn:∀xs,u≠.tup xs){v:V}{o:Option (Bfs.Pl×Nat)}(h:eE H v o):eE (upd H f u') v o:=by
 cases o with
 | none=>exact h
 | some pk=>
  obtain⟨a,b,h1,h2,h3⟩:=h
  exact⟨a,b,h1,by rw[aL (du h2 hf (fun z=>hn _ z.symm))];exact h2,bq.put hf hn h3⟩
abbrev m6(H:Hp)(kv:List Key×V)(e:Bfs.Ent):Prop:=kv.1=bG e.1/\eE H kv.2 e.2.2
abbrev xg(H:Hp)(a:Addr)(e:Bfs.Ent):Prop:=bq H a e.1
section
variable {β:Type} {F:List Key×V->β->Prop} {key:β->Bfs.Pl} {kvs:List (List Key×V)} {q:List β}
theorem kG(hF:∀kv e,F kv e->kv.1=bG (key e))(h:Paired F kvs q){x:Bfs.Pl}(hx:x∉q.map key):bC kvs (bG x)=none:=by
 induction h with
 | nil=>rfl
 | @cons a b as bs h t ih=>
  rw[List.map_cons,List.mem_cons,not_or]at hx
  rw[iG (fun z=>hx.1 (rm (z.symm.trans (hF _ _ h))))]
  exact ih hx.2
theorem ik(hF:∀kv e,F kv e->kv.1=bG (key e))(h:Paired F kvs q)(nd:(q.map key).Nodup){e:β}(he:e∈q):∃v,bC kvs (bG (key e))=some v/\F (bG (key e),v) e:=by
 induction h with
 | nil=>cases he
 | @cons a b as bs h t ih=>
  rw[List.map_cons,List.nodup_cons]at nd
  rcases List.mem_cons.mp he with z | z
  ·subst z
   have e1:=hF _ _ h
   refine⟨a.2,kU e1,?_⟩
   rw[←e1]
   exact h
  ·obtain⟨v,h1,h2⟩:=ih nd.2 z
   refine⟨v,?_,h2⟩
   rw[iG (fun w=>nd.1 ?_)]
   ·exact h1
   ·rw[rm ((hF _ _ h).symm.trans w)]
    exact List.mem_map.mpr ⟨e,z,rfl⟩
end
structure FF(H0 H:Hp)(f rw:Addr)(q:List Bfs.Ent):Prop where
 ext:Ext H0 H
 fn:H0 f=none
 rn:H0 rw=none
 d:∃kvs,H f=some (.dT kvs)/\Paired (m6 H) kvs q
 r:∃as,H rw=some (.lst (List.map V.ref as))/\Paired (xg H) as q
theorem FF.step{H0 H H1:Hp}{f rw:Addr}{q:List Bfs.Ent}(h:FF H0 H f rw q)(e:Ext H H1):FF H0 H1 f rw q:=by
 obtain⟨h1,h2,h3,⟨kvs,h4,h5⟩,as,h6,h7⟩:=h
 exact⟨h1.trans e,h2,h3,⟨kvs,e _ _ h4,Paired.mapP h5 fun _ _ z=>⟨z.1,z.2.ext e⟩⟩,as,e _ _ h6,Paired.mapP h7 fun _ _ z=>e _ _ z⟩
theorem FF.push{H0 H:Hp}{f rw th t b:Addr}{q:List Bfs.Ent}{y p:Bfs.Pl}{k d:Nat}(h:FF H0 H f rw q)(hy:y∉q.map (·.1))(hth:bq H th y)(hb:bq H b p)(ht:H t=some (.tup [.ref b,.int (k:Int)])):
  ∃kvs,H f=some (.dT kvs)/\kvs.length=q.length/\∃as,upd H f (.dT (putK kvs (bG y) (.ref t))) rw=some (.lst (List.map V.ref as))/\as.length=q.length ∧
   FF H0 (upd (upd H f (.dT (putK kvs (bG y) (.ref t)))) rw (.lst (List.map V.ref as++[.ref th]))) f rw (q++[(y,d,some (p,k))]):=by
 obtain⟨h1,h2,h3,⟨kvs,h4,h5⟩,as,h6,h7⟩:=h
 have nf:∀xs,(HO.dT kvs)≠.tup xs:=fun xs z=>by cases z
 have nr:∀xs,(HO.lst (List.map V.ref as))≠.tup xs:=fun xs z=>by cases z
 have ne:rw≠f:=du h6 h4 (by intro z;cases z)
 have h6':upd H f (.dT (putK kvs (bG y) (.ref t))) rw=some (.lst (List.map V.ref as)):=by rw[aL ne];exact h6
 have vp:eE H (.ref t) (some (p,k)):=⟨t,b,rfl,ht,hb⟩
 refine⟨kvs,h4,Paired.length h5,as,h6',Paired.length h7,cu (cu h1 h2) h3,h2,h3,⟨kvs++[(bG y,.ref t)],?_,?_⟩,as++[th],?_,?_⟩
 ·rw[aL ne.symm,aY,yh _ (kG (fun _ _ z=>z.1) h5 hy)]
 ·exact Paired.snoc (Paired.mapP h5 fun _ _ z=>⟨z.1,(z.2.put h4 nf).put h6' nr⟩) ⟨rfl,(vp.put h4 nf).put h6' nr⟩
 ·rw[aY,List.map_append];rfl
 ·exact Paired.snoc (Paired.mapP h7 fun _ _ z=>bq.put h6' nr (bq.put h4 nf z)) (bq.put h6' nr (bq.put h4 nf hth))
def fE(m T:Int)(x:Bfs.Pl):Prop:=0<=x.1/\x.1<m/\0<=x.2/\x.2<=T
theorem fE.few{m T:Int}{l:List Bfs.Pl}(hm:m<=12)(hT:T<=2000)(hn:l.Nodup)(h:∀x∈l,fE m T x):l.length<=24012:=
 Bfs.BH hT hn fun x hx=>by
  obtain⟨a,b,c,d⟩:=h x hx
  exact⟨a,by omega,c,d⟩
theorem DC{m T:Int}{ws:List Way}(ok:HOuse m ws){x y:Bfs.Pl}{k:Nat}(hx:0<=x.2)(h:bZ ws T x k=some y):fE m T y:=by
 obtain⟨w,hw,hr,hs,ho,ht⟩:=kQ h
 have okw:=ok.ok w (List.mem_of_getElem? hw)
 exact⟨by rw[ho];exact okw.o0,by rw[ho];exact okw.o1,jf okw.dd hx hs,ht⟩
def qF(H1:Hp)(ws:List Way)(m T:Int)(x:Bfs.Pl)(v:V)(pa ga c f rw:Addr)(M:Nat)(σ:St)(H':Hp):Prop:=
 ∃q i B k1 k2 k3 k4,σ=[some v,some (.ref pa),some (.ref ga),some (.int T),some (.ref c),some (.ref f),some (.ref rw),some (.int ((i:Nat):Int)),k1,k2,k3,k4]/\FF H1 H' f rw q/\Bfs.QI (bZ ws T) x q i B/\(∀e∈q,fE m T e.1)/\i<=q.length/\M+i=24013
def Dn(H1:Hp)(ws:List Way)(T:Int)(x g:Bfs.Pl)(v:V)(pa ga c f rw:Addr)(σ:St)(H':Hp):Prop:=
 ∃q i B k0 k1 k2 k3 k4,σ=[some v,some (.ref pa),some (.ref ga),some (.int T),some (.ref c),some (.ref f),some (.ref rw),k0,k1,k2,k3,k4]/\FF H1 H' f rw q/\Bfs.QI (bZ ws T) x q i B/\q.length<=24012/\(i=q.length\/g∈q.map (·.1))
def Az(H1:Hp)(ws:List Way)(m T:Int)(x:Bfs.Pl)(v:V)(pa ga c f rw b:Addr)(i:Nat)(h:Bfs.Ent)(ks:List Nat)(j:Nat)(σ:St)(H':Hp):Prop:=
 ∃q k1 k2 k3,σ=[some v,some (.ref pa),some (.ref ga),some (.int T),some (.ref c),some (.ref f),some (.ref rw),some (.int ((i:Nat):Int)),some (.ref b),k1,k2,k3]/\FF H1 H' f rw q/\Bfs.QF (nx:=bZ ws T) (s:=x) q (i-1) h ks j/\(∀e∈q,fE m T e.1)/\bq H' b h.1
theorem CY{m:Int}{x g:Bfs.Pl}(h0:0<=m)(hm:m<=12)(hx:x.2<=1000)(hg:g.2<=1000):cH m x g<=2000:=by
 unfold cH
 have:m*m<=12*12:=Int.mul_le_mul hm hm h0 (by decide)
 split<;>omega
theorem xP{m:Int}{x g:Bfs.Pl}(h0:0<=m):x.2<=cH m x g/\g.2<=cH m x g:=by
 unfold cH
 have:0<=m*m:=Int.mul_nonneg h0 h0
 split<;>constructor<;>omega
def we(K:EE):Sp:=fun vs H Q _=>∃v m ws pa ga x g,vs=[v,.ref pa,.ref ga]/\aW H v m ws/\HOuse m ws/\bq H pa x/\bq H ga g/\cT m x/\cT m g ∧
 ∀f H' kvs q i B,Ext H H'->H' f=some (.dT kvs)->Paired (m6 H') kvs q->Bfs.QI (bZ ws (cH m x g)) x q i B->q.length<=24012->(i=q.length\/g∈q.map (·.1))->Q (.ref f) H'
abbrev jY:Stmt:=stq 37
theorem se:FnScope ["house","place","goal","greatest","counts","found","row","looked","here","count","way","there"] ["house","place","goal"] (aG jY):=⟨rfl,rfl,rfl,by decide +kernel,rfl,by decide +kernel,by decide +kernel⟩
theorem BE{P:Program}{w:World}{K:EE}{mg:Str->Option Value}{base:Heap}(D:Dfn K mg "found_from" jY ["house","place","goal"])(T:Blt mg)(C_is_open:Cal P w K mg base "is_open" 1 ["way","place"] (uw K))(C_led_to:Cal P w K mg base "led_to" 2 ["way","place"] (oR K))(C_counts_by_room:Cal P w K mg base "counts_by_room" 1 ["house"] (uH K))(C_greatest_met:Cal P w K mg base "greatest_met" 1 ["house","place","goal"] (qr K)):Cal P w K mg base "found_from" 3 ["house","place","goal"] (we K):=by
 have nd:=(se).nd
 refine D.ok se (fun vs H Q E h=>?_) (fun X hX H vs Q E h=>?_)
 ·obtain⟨v,m,ws,pa,ga,x,g,rfl,_⟩:=h;rfl
 ·obtain⟨f,cdv,A,outer,s,H0,E0,rfl,hr⟩:=hX
  obtain⟨v,m,ws,pa,ga,x,g,rfl,hv,ok,hx,hg,ix,ig,q⟩:=h
  have m1:=ok.m1
  have m2:=ok.m12
  have hfew:=ok.few
  have hT:=CY (m:=m) (x:=x) (g:=g) (by omega) m2 ix.2.2.2 ig.2.2.2
  have hxT:=(xP (m:=m) (x:=x) (g:=g) (by omega)).1
  refine⟨_,(ak (aA (i:=3) nd rfl (Or.inl rfl) (az C_greatest_met hr (aa (pv 0) (aa (pv 1) (aa (pv 2) af)))))
    (ak (aA (i:=4) nd rfl (Or.inl rfl) (az C_counts_by_room hr (aa (pv 0) af)))
    (ak (aA (i:=5) nd rfl (Or.inl rfl) (zQ (fv hr) (pv 1) fm))
    (ak (aA (i:=6) nd rfl (Or.inl rfl) (aQ (aa (pv 1) af)))
    (ak (aA (i:=7) nd rfl (Or.inl rfl) ae)
    (ak (ou PassesOwn.never (PW.pt (iS (aM eS (pv 7) (aT (cG K) rfl T.len_ PySem.boot_len (aa (pv 6) af)) (aK _)) (lR (nW (lU (fv hr) (pv 2) (pv 5)) (by with_unfolding_all rfl))))) (ak (aA (i:=8) nd rfl (Or.inl rfl) (ao (aJ K) (pv 6) (pv 7) (fun _ _=>rfl)))
    (ak (Ec (i:=7) nd rfl (Or.inl rfl) ae AA)
    (ar (bJ PassesOwn.never rfl (dH K (ao (aJ K) (pv 4) (ao (ay K) (pv 8) ae (fun _ _=>rfl)) (fun _ _=>rfl))) (aR (i:=9) nd rfl (Or.inl rfl)) (ak (aA (i:=10) nd rfl (Or.inl rfl) (ao (ay K) (ao (ay K) (pv 0) ae (fun _ _=>rfl)) (pv 9) (fun _ _=>rfl)))
    (ak (aA (i:=11) nd rfl (Or.inl rfl) (az C_led_to hr (aa (pv 10) (aa (pv 8) af))))
    (ar (dG (PW.pt (iS (cS (az C_is_open hr (aa (pv 10) (aa (pv 8) af)))) (iS (aM jV (ao (ay K) (pv 11) ae (fun _ _=>rfl)) (pv 3) (aK _)) (lR (nW (lU (fv hr) (pv 11) (pv 5)) (by with_unfolding_all rfl)))))) (ak (yW (fv hr) (pv 5) (pv 11) (aF (aa (pv 8) (aa (pv 9) af))) rfl)
    (ar (bw (bE K ER PySem.F.slot_list_append PySem.F.type_list_append bW (pv 6) (aa (pv 11) af))))) aU)))))))))
    (ar (aC (pv 5))))))))),?_⟩
  walk_at "rd"
  refine⟨v,m,ws,pa,ga,x,g,rfl,hv,ok,hx,hg,?_⟩
  generalize cH m x g=T at q hT hxT ⊢
  walk_at "rd"
  refine⟨v,m,ws,rfl,hv,ok,fun c ls H1 e1 ct=>?_⟩
  walk_at "rd"
  refine fun f hfn=>?_
  walk_at "rd"
  refine⟨pa,bG x,rfl,(bM hfn) _ _ (e1 _ _ hx),aY,?_⟩
  walk_at "rd"
  refine⟨ai (by simp),ah fun rw H3 e3 hrw hrn=>?_⟩
  walk_at "rd"
  have e13:Ext H1 (upd (upd H1 f (.dT [])) f (.dT [(bG x,.non)])):=fun b o hb=>by
   rw[aL (cB hb hfn),aL (cB hb hfn)];exact hb
  have hrn1:H1 rw=none:=e13.none hrn
  have hf3:H3 f=some (.dT [(bG x,.non)]):=e3 _ _ aY
  have ff0:FF H1 H3 f rw [(x,0,none)]:=⟨e13.trans e3,hfn,hrn1,⟨_,hf3,.cons ⟨rfl,rfl⟩ .nil⟩,[pa],hrw,.cons (e3 _ _ (e13 _ _ (e1 _ _ hx))) .nil⟩
  refine pR (qF H1 ws m T x v pa ga c f rw) (Dn H1 ws T x g v pa ga c f rw) 24013 ⟨[(x,0,none)],0,0,_,_,_,_,rfl,ff0,Bfs.QI.begin _ _,?_,by simp,rfl⟩ ?_ ?_
  ·intro e he
   rw[List.mem_singleton]at he
   subst he
   exact⟨ix.1,ix.2.1,ix.2.2.1,hxT⟩
  ·clear ff0 hf3 hrn1 e13 hrw hrn e3
   rintro M σ H4 ⟨qq,i,B,k1,k2,k3,k4,rfl,ff,qi,hin,hi,hM⟩
   have hqn:qq.length<=24012:=by
    have:=fE.few m2 hT qi.nd (fun y hy=>by
     obtain⟨e,he,rfl⟩:=List.mem_map.mp hy
     exact hin e he)
    rwa [EI]at this
   obtain⟨kvs,hd,pk⟩:=ff.d
   obtain⟨as,hr,pr⟩:=ff.r
   have hal:=Paired.length pr
   have hg4:bq H4 ga g:=ff.ext _ _ (e1 _ _ hg)
   walk_at "rd"
   refine dN (ag.of hr) ?_
   walk_at "rd"
   by_cases hlt:i<qq.length
   rotate_left
   ·rw[decide_eq_false (show ¬((i:Nat):Int)<((List.map V.ref as).length:Nat) by rw[EI,hal];omega)]
    refine aw ?_
    refine aw ?_
    exact⟨qq,i,B,_,_,_,_,_,rfl,ff,qi,hqn,.inl (by omega)⟩
   ·rw[decide_eq_true (show((i:Nat):Int)<((List.map V.ref as).length:Nat) by rw[EI,hal];omega)]
    refine aB ?_
    walk_at "rd"
    refine⟨f,_,rfl,cQ.t hd (k:=bG g) hg4,?_⟩
    by_cases hgk:g∈qq.map (·.1)
    ·obtain⟨e,he,rfl⟩:=List.mem_map.mp hgk
     obtain⟨v1,hv1,_⟩:=ik (fun _ _ z=>z.1) pk qi.nd he
     rw[hv1]
     refine rd_exb (aw ?_)
     exact⟨qq,i,B,_,_,_,_,_,rfl,ff,qi,hqn,.inr hgk⟩
    ·rw[kG (fun _ _ z=>z.1) pk hgk]
     refine rd_exb (aB ?_)
     refine⟨fun σ' H'=>∃m',m'<M/\qF H1 ws m T x v pa ga c f rw m' σ' H',fun _ _ h=>h,?_⟩
     have hqi:=EJ hlt
     generalize qq[i]=hh at hqi
     obtain⟨b,hb,hbp⟩:=jk pr hqi
     have qf:=qi.look hqi (cM ws hh.1.1 ws.length)
     have hih:=hin hh (List.mem_of_getElem? hqi)
     obtain⟨hr0,hr1,hn0,hn1⟩:=hih
     clear qi hgk hg4 pr hal pk hd
     walk_at "rd"
     refine aI (ag.of hr) (eD (v:=.ref b) (by rw[EK,hb];rfl)) ?_
     walk_at "rd"
     refine ax (aj.of hbp) (v:=.int hh.1.1) rfl ?_
     walk_at "rd"
     have ct4:=ct.ext ff.ext
     have hlr:hh.1.1.toNat<ls.length:=by rw[ct.len];omega
     have hlg:ls[hh.1.1.toNat]?=some ls[hh.1.1.toNat]:=EJ hlr
     generalize ls[hh.1.1.toNat]=l at hlg
     have hll:=ct.it _ _ hlg
     rw[show ((hh.1.1.toNat:Nat):Int)=hh.1.1 by omega]at hll
     refine aI (ag.of ct4.at_) (v:=.ref l) (gC hr0 (by rw[EK,hlg];rfl)) ?_
     refine dU (ag.of (ff.ext _ _ hll)) ?_
     obtain⟨hp,ht,rfl,g1,g2⟩:=hv.ext e1
     obtain⟨bs,g3,al⟩:=cj.al g2
     refine forL (xs:=bh (cM ws hh.1.1 ws.length)) (Az H1 ws m T x (.ref hp) pa ga c f rw b (i+1) hh (cM ws hh.1.1 ws.length)) ?_ (fun j σ H' _ h=>?_) ?_ ?_
     ·exact⟨qq,k2,k3,k4,rfl,ff,qf,hin,hbp⟩
     ·obtain⟨_,_,_,_,_,ff',_⟩:=h
      exact ag.of (ff'.ext _ _ hll)
     ·clear qf ff hbp hr hqi hlt hqn hin
      rintro j u σ H5 hu ⟨q5,c1,c2,c3,rfl,ff,qf,hin,hbp⟩
      rw[EK]at hu
      obtain⟨k,hk,rfl⟩:=Option.map_eq_some_iff.mp hu
      obtain⟨w,hw,hroom⟩:=Du (List.mem_of_getElem? hk)
      have okw:=ok.ok w (List.mem_of_getElem? hw)
      have hkb:k<bs.length:=by rw[al.1];exact(List.getElem?_eq_some_iff.mp hw).1
      have hbk:=EJ hkb
      generalize bs[k]=bk at hbk
      have hwt:=al.2 k bk w hbk hw
      have hqn:q5.length<=24012:=by
       have:=fE.few m2 hT qf.nd (fun y hy=>by
        obtain⟨e,he,rfl⟩:=List.mem_map.mp hy
        exact hin e he)
       rwa [EI]at this
      walk_at "rd"
      refine ax (aj.of (ff.ext _ _ g1)) (v:=.ref ht) rfl ?_
      walk_at "rd"
      refine ax (aj.of (ff.ext _ _ g3)) (v:=.ref bk) (eD (by rw[EK,hbk];rfl)) ?_
      walk_at "rd"
      refine⟨bk,w,b,hh.1,rfl,ff.ext _ _ hwt,okw.dd,hbp,fun th H6 e6 hth hthn=>?_⟩
      have ff6:=ff.step e6
      have hb6:bq H6 b hh.1:=e6 _ _ hbp
      clear ff hbp
      walk_at "rd"
      refine eV ?_
      walk_at "rd"
      refine⟨bk,w,b,hh.1,rfl,ff6.ext _ _ hwt,hb6,?_⟩
      refine rd_exb ?_
      cases ho:fZ w hh.1.1 hh.1.2 with
      | false=>
       refine aw ?_
       refine aw ?_
       walk_at "rd"
       exact⟨q5,_,_,_,rfl,ff6,qf.skip hk (fun y hy=>by rw[(uD hw okw.dd hy).1]at ho;cases ho),hin,hb6⟩
      | true=>
       refine aB ?_
       walk_at "rd"
       refine ax (aj.of hth) (v:=.int (hh.1.2+rz w.deed)) rfl ?_
       walk_at "rd"
       by_cases hle:hh.1.2+rz w.deed<=T
       rotate_left
       ·rw[decide_eq_false hle]
        refine aw ?_
        refine aw ?_
        walk_at "rd"
        exact⟨q5,_,_,_,rfl,ff6,qf.skip hk (fun y hy=>absurd (uD hw okw.dd hy).2.2 hle),hin,hb6⟩
       ·rw[decide_eq_true hle]
        refine aB ?_
        walk_at "rd"
        have hy:=yd (T:=T) hw okw.dd ho hle
        obtain⟨kvs,hd,pk⟩:=ff6.d
        refine⟨f,_,rfl,cQ.t hd (k:=bG (w.other,hh.1.2+rz w.deed)) hth,?_⟩
        by_cases hnew:(w.other,hh.1.2+rz w.deed)∈q5.map (·.1)
        ·obtain⟨e,he,hee⟩:=List.mem_map.mp hnew
         obtain⟨v1,hv1,_⟩:=ik (fun _ _ z=>z.1) pk qf.nd he
         rw[hee]at hv1
         rw[hv1]
         refine rd_exb (aw ?_)
         walk_at "rd"
         exact⟨q5,_,_,_,rfl,ff6,qf.skip hk (fun y hy'=>by rw[hy]at hy';cases hy';exact hnew),hin,hb6⟩
        ·rw[kG (fun _ _ z=>z.1) pk hnew]
         refine rd_exb (aB ?_)
         clear pk hd
         walk_at "rd"
         refine⟨ai (by simp),ah fun t H7 e7 ht7 _=>?_⟩
         walk_at "rd"
         obtain⟨kvs,hd,hkl,as,hr7,hal,ff8⟩:=(ff6.step e7).push (d:=hh.2.1+1) hnew (e7 _ _ hth) (e7 _ _ hb6) ht7
         have hb8:=bq.put (o':=.lst (List.map V.ref as++[.ref th])) hr7 (fun xs z=>by cases z) (bq.put (o':=.dT (putK kvs (bG (w.other,hh.1.2+rz w.deed)) (.ref t))) hd (fun xs z=>by cases z) (e7 _ _ hb6))
         refine⟨f,_,rfl,gH.t hd (k:=bG (w.other,hh.1.2+rz w.deed)) (e7 _ _ hth) (jE (by omega)),?_⟩
         walk_at "rd"
         refine⟨bS (ag.of hr7),?_⟩
         walk_at "rd"
         refine bQ hr7 (jE (by rw[EI];omega)) ?_
         refine⟨_,_,_,_,rfl,ff8,qf.add hk hy hnew,?_,hb8⟩
         intro e he
         rcases List.mem_append.mp he with z | z
         ·exact hin e z
         ·rw[List.mem_singleton]at z
          subst z
          exact DC ok hn0 hy
     ·rintro σ H5 ⟨q5,c1,c2,c3,rfl,ff5,qf5,hin5,hbp5⟩
      rw[EI]at qf5
      refine⟨M-1,by omega,q5,i+1,hh.2.1,_,_,_,_,rfl,ff5,qf5.next (fun k y hy=>?_),hin5,?_,by omega⟩
      ·obtain⟨w,hw,hr,_⟩:=kQ hy
       exact xG hw hr
      ·have:=(List.getElem?_eq_some_iff.mp qf5.at_).1
       omega
  ·rintro σ H4 ⟨qq,i,B,k0,k1,k2,k3,k4,rfl,ff,qi,hqn,hend⟩
   obtain⟨kvs,hd,pk⟩:=ff.d
   walk_at "rd"
   exact q f H4 kvs qq i B (e1.trans ff.ext) hd pk qi hqn hend
def uC(K:EE):Sp:=fun vs H Q _=>∃(f ga:Addr) (kvs:List (List Key×V)) (q:List Bfs.Ent) (nx:Bfs.Pl->Nat->Option Bfs.Pl) (s:Bfs.Pl) (i B:Nat) (e:Bfs.Ent),vs=[.ref f,.ref ga]/\H f=some (.dT kvs)/\Paired (m6 H) kvs q/\Bfs.QI nx s q i B/\bq H ga e.1/\e∈q/\e.2.1<=24012 ∧
 ∀l H' ks,Ext H H'->H' l=some (.lst (bh ks))->H l=none->ks.length=e.2.1->Bfs.gone (nx:=nx) s ks=some e.1->Q (.ref l) H'
def o4(H:Hp)(f ga l:Addr)(q:List Bfs.Ent)(nx:Bfs.Pl->Nat->Option Bfs.Pl)(e:Bfs.Ent)(M:Nat)(σ:St)(H':Hp):Prop:=
 ∃v u ks,σ=[some (.ref f),some (.ref ga),some (.ref l),some v]/\Ext H H'/\H' l=some (.lst (bh ks))/\u∈q/\eE H' v u.2.2/\u.2.1=M/\ks.length+M=e.2.1/\Bfs.gone (nx:=nx) u.1 ks.reverse=some e.1
abbrev jJ:Stmt:=stq 38
theorem sJ:FnScope ["found","goal","walk","step"] ["found","goal"] (aG jJ):=⟨rfl,rfl,rfl,by decide +kernel,rfl,by decide +kernel,by decide +kernel⟩
theorem yF{P:Program}{w:World}{K:EE}{mg:Str->Option Value}{base:Heap}(D:Dfn K mg "walk_back" jJ ["found","goal"])(T:Blt mg):Cal P w K mg base "walk_back" 1 ["found","goal"] (uC K):=by
 have nd:=(sJ).nd
 refine D.ok sJ (fun vs H Q E h=>?_) (fun X hX H vs Q E h=>?_)
 ·obtain⟨f,ga,kvs,q,nx,s,i,B,e,rfl,_⟩:=h;rfl
 ·obtain⟨f,cdv,A,outer,s,H0,E0,rfl,hr⟩:=hX
  obtain⟨f,ga,kvs,q,nx,s,i,B,e,rfl,hf,pk,qi,hg,he,hle,qq⟩:=h
  refine⟨_,(ak (aA (i:=2) nd rfl (Or.inl rfl) (aQ af))
    (ak (aA (i:=3) nd rfl (Or.inl rfl) (vX (fv hr) (pv 0) (pv 1) (fun _ _=>rfl)))
    (ak (ou PassesOwn.never (aM wI (pv 3) fm (aK _)) (ak (bw (bE K ER PySem.F.slot_list_append PySem.F.type_list_append bW (pv 2) (aa (ao (ay K) (pv 3) ae (fun _ _=>rfl)) af)))
    (ar (aA (i:=3) nd rfl (Or.inl rfl) (vX (fv hr) (pv 0) (ao (ay K) (pv 3) ae (fun _ _=>rfl)) (fun _ _=>rfl))))))
    (ar (aC (ym K rfl rfl T.list_ rfl T.reversed_ (pv 2))))))),?_⟩
  walk_at "rd"
  refine⟨ai (by simp),ah fun l H1 e1 hl hln=>?_⟩
  walk_at "rd"
  obtain⟨v0,hv0,_,hp0⟩:=ik (fun _ _ z=>z.1) pk qi.nd he
  refine⟨f,v0,rfl,by rw[←hv0];exact cQ.t (e1 _ _ hf) (k:=bG e.1) (e1 _ _ hg),?_⟩
  walk_at "rd"
  refine pR (o4 H f ga l q nx e) (fun σ H'=>∃v ks,σ=[some (.ref f),some (.ref ga),some (.ref l),some v]/\Ext H H'/\H' l=some (.lst (bh ks))/\ks.length=e.2.1/\Bfs.gone (nx:=nx) s ks.reverse=some e.1) e.2.1 ⟨v0,e,[],rfl,e1,hl,he,hp0.ext e1,rfl,by simp,rfl⟩ ?_ ?_
  ·rintro M σ H4 ⟨v,u,ks,rfl,e4,hl4,hu,hvp,hM,hks,hgo⟩
   walk_at "rd"
   rcases qi.par u hu with⟨p1,p2,p3⟩ | ⟨p,k,d,o,p1,p2,p3,p4⟩
   ·rw[p1]at hvp
    obtain rfl:v=.non:=hvp
    refine⟨rfl,?_⟩
    refine rd_exb (aw ?_)
    exact⟨_,ks,rfl,e4,hl4,by omega,by rw[←p2];exact hgo⟩
   ·rw[p1]at hvp
    obtain⟨a,b,rfl,ha,hb⟩:=hvp
    refine⟨rfl,?_⟩
    rw[decide_eq_false (show ¬(V.ref a=V.non) by intro z;cases z)]
    refine rd_exb (aB ?_)
    refine⟨fun σ' H'=>∃m',m'<M/\o4 H f ga l q nx e m' σ' H',fun _ _ h=>h,?_⟩
    walk_at "rd"
    refine⟨bS (ag.of hl4),?_⟩
    walk_at "rd"
    refine ax (aj.of ha) (v:=.int (k:Int)) rfl ?_
    walk_at "rd"
    refine bQ hl4 (jE (by rw[EI];omega)) ?_
    walk_at "rd"
    have nl:∀xs,(HO.lst (bh ks))≠.tup xs:=fun xs z=>by cases z
    have ha5:upd H4 l (.lst (bh ks++[.int (k:Int)])) a=some (.tup [.ref b,.int (k:Int)]):=by
     rw[aL (du ha hl4 (by intro z;cases z))];exact ha
    have hb5:=bq.put (o':=.lst (bh ks++[.int (k:Int)])) hl4 nl hb
    refine ax (aj.of ha5) (v:=.ref b) rfl ?_
    obtain⟨v1,hv1,_,hp1⟩:=ik (fun _ _ z=>z.1) pk qi.nd p4
    have hf5:upd H4 l (.lst (bh ks++[.int (k:Int)])) f=some (.dT kvs):=by
     rw[aL (du (e4 _ _ hf) hl4 (by intro z;cases z))];exact e4 _ _ hf
    have eH:Ext H (upd H4 l (.lst (bh ks++[.int (k:Int)]))):=cu e4 hln
    refine⟨f,v1,rfl,by rw[←hv1];exact cQ.t hf5 (k:=bG p) hb5,?_⟩
    walk_at "rd"
    refine⟨d,by omega,v1,(p,d,o),ks++[k],rfl,eH,by rw[aY,lO],p4,hp1.ext eH,rfl,by rw[List.length_append];simp;omega,?_⟩
    rw[List.reverse_append]
    show(nx p k).bind _=_
    rw[p2]
    exact hgo
  ·rintro σ H4 ⟨v,ks,rfl,e4,hl4,hks,hgo⟩
   walk_at "rd"
   refine tE (ag.of hl4) (ah fun r H5 e5 hr hrn=>?_)
   refine qq r H5 ks.reverse (e4.trans e5) ?_ (e4.none hrn) (by rw[List.length_reverse];exact hks) hgo
   rw[hr,←List.map_reverse]
def uv(K:EE):Sp:=fun vs H Q _=>∃v m ws pa ga x g,vs=[v,.ref pa,.ref ga]/\aW H v m ws/\HOuse m ws/\bq H pa x/\bq H ga g/\cT m x/\cT m g ∧
 ((∀n,¬Bfs.gZ (bZ ws (cH m x g)) x n g)->∀H',Ext H H'->Q .non H')/\∀n l H' ks,Bfs.gZ (bZ ws (cH m x g)) x n g->n<=24012->Ext H H'->H l=none->H' l=some (.lst (bh ks))->ks.length=n->Bfs.gone (nx:=bZ ws (cH m x g)) x ks=some g->Q (.ref l) H'
abbrev jI:Stmt:=stq 39
theorem ub:FnScope ["house","place","goal","found"] ["house","place","goal"] (aG jI):=⟨rfl,rfl,rfl,by decide +kernel,rfl,by decide +kernel,by decide +kernel⟩
theorem DX{P:Program}{w:World}{K:EE}{mg:Str->Option Value}{base:Heap}(D:Dfn K mg "sought_walk" jI ["house","place","goal"])(T:Blt mg)(C_walk_back:Cal P w K mg base "walk_back" 1 ["found","goal"] (uC K))(C_found_from:Cal P w K mg base "found_from" 3 ["house","place","goal"] (we K)):Cal P w K mg base "sought_walk" 4 ["house","place","goal"] (uv K):=by
 have nd:=(ub).nd
 refine D.ok ub (fun vs H Q E h=>?_) (fun X hX H vs Q E h=>?_)
 ·obtain⟨v,m,ws,pa,ga,x,g,rfl,_⟩:=h;rfl
 ·obtain⟨f,cdv,A,outer,s,H0,E0,rfl,hr⟩:=hX
  obtain⟨v,m,ws,pa,ga,x,g,rfl,hv,ok,hx,hg,ix,ig,qn,qy⟩:=h
  refine⟨_,(ak (aA (i:=3) nd rfl (Or.inl rfl) (az C_found_from hr (aa (pv 0) (aa (pv 1) (aa (pv 2) af)))))
    (ak (br (nW (lU (fv hr) (pv 2) (pv 3)) (by with_unfolding_all rfl)) (ar (aC fm)) aU)
    (ar (aC (az C_walk_back hr (aa (pv 3) (aa (pv 2) af))))))),?_⟩
  walk_at "rd"
  refine⟨v,m,ws,pa,ga,x,g,rfl,hv,ok,hx,hg,ix,ig,fun f H1 kvs q i B e1 hf pk qi hql hend=>?_⟩
  generalize cH m x g=T at qn qy qi
  walk_at "rd"
  refine⟨f,_,rfl,cQ.t hf (k:=bG g) (e1 _ _ hg),?_⟩
  by_cases hgk:g∈q.map (·.1)
  ·obtain⟨e,he,rfl⟩:=List.mem_map.mp hgk
   obtain⟨v1,hv1,_⟩:=ik (fun _ _ z=>z.1) pk qi.nd he
   rw[hv1]
   refine rd_exb (aw ?_)
   walk_at "rd"
   have hd:=qi.dist he
   have hlv:e.2.1<=24012:=Nat.le_trans (qi.deep he) hql
   refine⟨f,ga,kvs,q,bZ ws T,x,i,B,e,rfl,hf,pk,qi,e1 _ _ hg,he,hlv,fun l H2 ks e2 hl hln hks hgo=>?_⟩
   exact qy _ l H2 ks hd hlv (e1.trans e2) (e1.none hln) hl hks hgo
  ·rw[kG (fun _ _ z=>z.1) pk hgk]
   refine rd_exb (aB ?_)
   walk_at "rd"
   refine qn (fun n=>?_) H1 e1
   rcases hend with h | h
   ·subst h
    exact qi.done hgk n
   ·exact absurd h hgk
def tL(K:EE):Sp:=fun vs H Q _=>∃v m ws pa ga x g,vs=[v,.ref pa,.ref ga]/\aW H v m ws/\HOuse m ws/\bq H pa x/\bq H ga g/\cT m x/\cT m g ∧
 ((∀n,¬Bfs.gZ (bZ ws (cH m x g)) x n g)->∀H',Ext H H'->Q .non H')/\∀n l H' ks,Bfs.gZ (bZ ws (cH m x g)) x n g->n<=24012->Ext H H'->H l=none->H' l=some (.lst (bh ks))->ks.length=n->Bfs.gone (nx:=bZ ws (cH m x g)) x ks=some g->Q (.ref l) H'
abbrev j9:Stmt:=stq 40
theorem vJ:FnScope ["house","place","goal"] ["house","place","goal"] (aG j9):=⟨rfl,rfl,rfl,by decide +kernel,rfl,by decide +kernel,by decide +kernel⟩
theorem BK{P:Program}{w:World}{K:EE}{mg:Str->Option Value}{base:Heap}(D:Dfn K mg "shortest" j9 ["house","place","goal"])(T:Blt mg)(C_sought_walk:Cal P w K mg base "sought_walk" 4 ["house","place","goal"] (uv K))(C_refuse_bad_places:Cal P w K mg base "refuse_bad_places" 3 ["house","places"] (rV K))(C0_refuse_no_house:Cal P w K mg base "refuse_no_house" 6 ["thing"] (fun vs H Q _=>fJ K vs H Q E0)):Cal P w K mg base "shortest" 7 ["house","place","goal"] (tL K):=by
 have nd:=(vJ).nd
 refine D.ok vJ (fun vs H Q E h=>?_) (fun X hX H vs Q E h=>?_)
 ·obtain⟨v,m,ws,pa,ga,x,g,rfl,_⟩:=h;rfl
 ·obtain⟨f,cdv,A,outer,s,H0,E0,rfl,hr⟩:=hX
  obtain⟨v,m,ws,pa,ga,x,g,rfl,hv,ok,hx,hg,ix,ig,qn,qy⟩:=h
  refine⟨_,(ak (bw (az C0_refuse_no_house hr (aa (pv 0) af)))
    (ak (bw (az C_refuse_bad_places hr (aa (pv 0) (aa (aQ (aa (pv 1) (aa (pv 2) af))) af))))
    (ar (aC (az C_sought_walk hr (aa (pv 0) (aa (pv 1) (aa (pv 2) af)))))))),?_⟩
  walk_at "rd"
  refine accepts hv ok fun H1 e1=>?_
  walk_at "rd"
  refine⟨ai (by simp),ah fun l H2 e2 hl _=>?_⟩
  walk_at "rd"
  have e12:=e1.trans e2
  obtain⟨hh,t,rfl,g1,g2⟩:=hv.ext e12
  refine⟨hh,_,m,l,[pa,ga],[x,g],rfl,g1,hl,.cons (e12 _ _ hx) (.cons (e12 _ _ hg) .nil),?_,?_⟩
  ·intro y hy
   rcases List.mem_cons.mp hy with rfl | hy
   ·exact ix
   ·rw[List.mem_singleton]at hy
    subst hy
    exact ig
  walk_at "rd"
  exact⟨_,m,ws,pa,ga,x,g,rfl,⟨hh,t,rfl,g1,g2⟩,ok,e12 _ _ hx,e12 _ _ hg,ix,ig,fun h H' e=>qn h H' (e12.trans e),fun n l H' ks hd hn e hln hl hks hgo=>qy n l H' ks hd hn (e12.trans e) (e12.none hln) hl hks hgo⟩
def cP(d:Str)(b:Nat):Nat:=if decide (d = "up")=true then b*2 else if decide (d = "down")=true then b / 2 else if decide (d = "zero")=true then b &&& 1 else b
theorem me(b:Nat):cP "up" b=b*2:=by unfold cP;rw[dy];rfl
theorem lC(b:Nat):cP "down" b=b / 2:=by unfold cP;rw[lT,dy];rfl
theorem nI(b:Nat):cP "stay" b=b:=by unfold cP;rw[mY,i9,decide_eq_false (show ¬(Str.ofString "stay")=Str.ofString "zero" by decide +kernel)];rfl
theorem nz(b:Nat):cP "zero" b=b &&& 1:=by unfold cP;rw[m8,jx,dy];rfl
theorem m7(n:Nat):(1:Nat).testBit n=decide (n=0):=by
 cases n with
 | zero=>rfl
 | succ n=>rw[Nat.testBit_succ];simp
theorem j6{d:Str}(hd:bu d)(b n':Nat):(cP d b).testBit n'=true↔∃n:Nat,b.testBit n=true/\bY d (n:Int)=some (n':Int):=by
 rcases hd with rfl | rfl | rfl | rfl
 ·rw[me]
  constructor
  ·intro h
   cases n' with
   | zero=>rw[Nat.testBit_zero]at h;simp at h
   | succ n=>
    rw[Nat.testBit_succ,Nat.mul_div_cancel _ (by decide)]at h
    exact⟨n,h,by rw[fq];rfl⟩
  ·rintro⟨n,h,e⟩
   rw[fq]at e
   have:n'=n+1:=by have:=Option.some.inj e;omega
   subst this
   rw[Nat.testBit_succ,Nat.mul_div_cancel _ (by decide)]
   exact h
 ·rw[lC]
  constructor
  ·intro h
   rw[←Nat.testBit_succ]at h
   refine⟨n'+1,h,?_⟩
   rw[fC,decide_eq_true (show(0:Int)<((n'+1:Nat):Int) by omega),if_pos rfl]
   congr 1;omega
  ·rintro⟨n,h,e⟩
   rw[fC]at e
   split at e
   ·rename_i g
    have g:=of_decide_eq_true g
    have:n=n'+1:=by have:=Option.some.inj e;omega
    subst this
    rw[←Nat.testBit_succ]
    exact h
   ·cases e
 ·rw[nI]
  constructor
  ·intro h
   exact⟨n',h,by rw[fF]⟩
  ·rintro⟨n,h,e⟩
   rw[fF]at e
   have:n=n':=by have:=Option.some.inj e;omega
   subst this
   exact h
 ·rw[nz,Nat.testBit_and,m7,Bool.and_eq_true,decide_eq_true_iff]
  constructor
  ·rintro⟨h,rfl⟩
   exact⟨0,h,by rw[fR];rfl⟩
  ·rintro⟨n,h,e⟩
   rw[fR]at e
   split at e
   ·rename_i g
    have g:=of_decide_eq_true g
    have e:=Option.some.inj e
    have h0:n=0:=by omega
    have h1:n'=0:=by omega
    subst h0
    exact⟨by rw[h1];exact h,h1⟩
   ·cases e
theorem AN{d:Str}(hd:bu d){b k:Nat}(h:b<2 ^ k):cP d b<2 ^ (k+1):=by
 rw[Nat.pow_succ]
 rcases hd with rfl | rfl | rfl | rfl
 ·rw[me];omega
 ·rw[lC];omega
 ·rw[nI];omega
 ·rw[nz]
  have:=Nat.and_le_left (n:=b) (m:=1)
  omega
theorem BM{a b k:Nat}(ha:a<2 ^ k)(hb:b<2 ^ k):a ||| b<2 ^ k:=Nat.or_lt_two_pow ha hb
def fA(K:EE):Sp:=fun vs H Q E=>∃v p q,vs=[v,.int p,.int q]/\((dh H v/\eU K H E "NoHouse")\/∃m ws,aW H v m ws/\HOuse m ws/\((¬cv m p q/\eU K H E "NoPlace")\/(cv m p q/\∀H',Ext H H'->Q .non H')))
abbrev ko:Stmt:=stq 45
theorem rR:FnScope ["house","p","q"] ["house","p","q"] (aG ko):=⟨rfl,rfl,rfl,by decide +kernel,rfl,by decide +kernel,by decide +kernel⟩
theorem Aw{P:Program}{w:World}{K:EE}{mg:Str->Option Value}{base:Heap}(D:Dfn K mg "refuse_bad_rooms" ko ["house","p","q"])(T:Blt mg)(XF:Xf K mg base fI fH)(C_is_room:Cal P w K mg base "is_room" 2 ["thing","many"] (kq K))(CX_refuse_no_house:CalX P w K mg base "refuse_no_house" 6 ["thing"] (fJ K)):CalX P w K mg base "refuse_bad_rooms" 7 ["house","p","q"] (fA K):=by
 have nd:=(rR).nd
 refine D.okX rR (fun vs H Q E h=>?_) (fun f cdv A outer s H vs Q E hr h=>?_)
 ·obtain⟨v,p,q,rfl,_⟩:=h;rfl
 ·obtain⟨v,p,q,rfl,hh⟩:=h
  refine⟨_,(ak (bw (iX CX_refuse_no_house hr (aa (pv 0) af)))
    (ar (br (PW.pt (dn (dJ (cS (az C_is_room hr (aa (pv 1) (aa (ao (ay K) (pv 0) ae (fun _ _=>rfl)) af))))) (dZ (dJ (cS (az C_is_room hr (aa (pv 2) (aa (ao (ay K) (pv 0) ae (fun _ _=>rfl)) af)))))))) (ar (je (XF.own "NoPlace" (by decide +kernel)) PySem.F.excBase_ValueError (aa av af))) aU))),?_⟩
  walk_at "rd"
  rcases hh with⟨hv,r⟩ | ⟨m,ws,hv,ok,hh⟩
  ·exact refuses hv r
  refine accepts hv ok fun H1 e1=>?_
  obtain⟨hp,t,rfl,g1,g2⟩:=hv.ext e1
  walk_at "rd"
  refine ax (aj.of g1) (v:=.int m) rfl ?_
  walk_at "rd"
  refine⟨.int p,m,"int",rfl,rfl,?_⟩
  refine rd_exb ?_
  have raised:¬cv m p q->eU K H E "NoPlace":=fun hn=>by
   rcases hh with⟨_,r⟩ | ⟨hy,_⟩
   ·exact r
   ·exact absurd hy hn
  cases hp1:bR m (.int p)with
  | false=>
   refine aB ?_
   walk_at "rd"
   exact⟨ai (by simp),raised (fun z=>by rw[(i3 m p).mpr z.1]at hp1;cases hp1) H1 e1⟩
  | true=>
   refine aw ?_
   walk_at "rd"
   refine ax (aj.of g1) (v:=.int m) rfl ?_
   walk_at "rd"
   refine⟨.int q,m,"int",rfl,rfl,?_⟩
   refine rd_exb ?_
   cases hq1:bR m (.int q)with
   | false=>
    refine aB ?_
    walk_at "rd"
    exact⟨ai (by simp),raised (fun z=>by rw[(i3 m q).mpr z.2]at hq1;cases hq1) H1 e1⟩
   | true=>
    refine aw ?_
    walk_at "rd"
    rcases hh with⟨hn,_⟩ | ⟨_,r⟩
    ·exact absurd ⟨(i3 m p).mp hp1,(i3 m q).mp hq1⟩ hn
    ·exact r H1 e1
theorem nG{K:EE}{H:Hp}{v:V}{m:Int}{ws:List Way}{p q:Int}{Q:VK}{E:XK}(hv:aW H v m ws)(ok:HOuse m ws)(h:cv m p q)(k:∀H',Ext H H'->Q .non H'):fA K [v,.int p,.int q] H Q E:=⟨v,p,q,rfl,.inr ⟨m,ws,hv,ok,.inr ⟨h,k⟩⟩⟩
def gG(K:EE)(H:Hp)(E:XK)(v:V)(p q:Int):Prop:=(dh H v/\eU K H E "NoHouse")\/∃m ws,aW H v m ws/\HOuse m ws/\¬cv m p q/\eU K H E "NoPlace"
theorem gG.go{K:EE}{H:Hp}{E:XK}{v:V}{p q:Int}{Q:VK}(h:gG K H E v p q):fA K [v,.int p,.int q] H Q E:=by
 rcases h with⟨h1,h2⟩ | ⟨m,ws,h1,h2,h3,h4⟩
 ·exact⟨v,p,q,rfl,.inl ⟨h1,h2⟩⟩
 ·exact⟨v,p,q,rfl,.inr ⟨m,ws,h1,h2,.inl ⟨h3,h4⟩⟩⟩
def bz(m r:Int):List Nat:=(List.range m.toNat).map fun i:Nat=>if(i:Int)=r then 1 else 0
theorem dE(m r:Int):(bz m r).length=m.toNat:=by unfold bz;rw[EI,List.length_range]
theorem zi{m r:Int}{i:Nat}(h:i<m.toNat):(bz m r).take (i+1)=(bz m r).take i++[if(i:Int)=r then 1 else 0]:=by
 rw[List.take_succ]
 congr 1
 unfold bz
 rw[EK,List.getElem?_range h]
 rfl
def jB(K:EE):Sp:=fun vs H Q _=>∃v m ws r,vs=[v,.int r]/\aW H v m ws/\HOuse m ws/\∀l H',Ext H H'->H' l=some (.lst (bh (bz m r)))->H l=none->Q (.ref l) H'
abbrev jN:Stmt:=stq 46
theorem oJ:FnScope ["house","room"] ["house","room"] (aG jN):=⟨rfl,rfl,rfl,by decide +kernel,rfl,by decide +kernel,by decide +kernel⟩
theorem DJ{P:Program}{w:World}{K:EE}{mg:Str->Option Value}{base:Heap}(D:Dfn K mg "alone_at_zero" jN ["house","room"])(T:Blt mg):Cal P w K mg base "alone_at_zero" 1 ["house","room"] (jB K):=by
 have nd:=(oJ).nd
 refine D.ok oJ (fun vs H Q E h=>?_) (fun X hX H vs Q E h=>?_)
 ·obtain⟨v,m,ws,r,rfl,_⟩:=h;rfl
 ·obtain⟨f,cdv,A,outer,s,H0,E0,rfl,hr⟩:=hX
  obtain⟨v,m,ws,r,rfl,⟨hh,t,rfl,g1,g2⟩,ok,q⟩:=h
  have m1:=ok.m1
  have m2:=ok.m12
  refine⟨_,(ar (aC (eZ ["other"] [1] (dC rfl T.range_ (aa (ao (ay K) (pv 0) ae (fun _ _=>rfl)) af)) (fun _=>(aR (i:=0) (show(["other","room"]:List Str).Nodup from by decide +kernel) rfl (Or.inl rfl) (Or.inr rfl))) (fun _=>eY) (fun _=>(Ea (aM bV (pv 0) (pv 1) (aK _)) ae ae))))),?_⟩
  walk_at "rd"
  refine ax (aj.of g1) (v:=.int m) rfl ?_
  walk_at "rd"
  refine dD ⟨by omega,by omega⟩ ?_
  refine oq (fun i ys H'=>H'=H/\ys=bh ((bz m r).take i)) (bX (by omega)) ⟨rfl,rfl⟩ (fun i ys H' _ h=>by rw[h.2,EI,List.length_take];omega) ?_ ?_
  ·rintro i ys H' hi ⟨rfl,rfl⟩
   walk_at "rd"
   refine aB ?_
   walk_at "rd"
   rw[zi hi,lO]
   by_cases e:(i:Int)=r
   ·rw[decide_eq_true (show 0+(i:Int)=r by omega),if_pos e]
    refine aB ?_
    walk_at "rd"
    exact⟨rfl,rfl⟩
   ·rw[decide_eq_false (show ¬0+(i:Int)=r by omega),if_neg e]
    refine aw ?_
    walk_at "rd"
    exact⟨rfl,rfl⟩
  ·rintro ys H' l ⟨rfl,rfl⟩ hl
   rw[List.take_of_length_le (by rw[dE];exact Nat.le_refl _)]
   exact q l _ (bM hl) aY hl
def wo(K:EE):Sp:=fun vs H Q _=>∃d b,vs=[.str d,.int ((b:Nat):Int)]/\bu d/\b<2 ^ 25001/\Q (.int ((cP d b:Nat):Int)) H
abbrev jn:Stmt:=stq 47
theorem uq:FnScope ["deed","bits"] ["deed","bits"] (aG jn):=⟨rfl,rfl,rfl,by decide +kernel,rfl,by decide +kernel,by decide +kernel⟩
theorem zK{P:Program}{w:World}{K:EE}{mg:Str->Option Value}{base:Heap}(D:Dfn K mg "led_bits" jn ["deed","bits"])(T:Blt mg):Cal P w K mg base "led_bits" 1 ["deed","bits"] (wo K):=by
 have nd:=(uq).nd
 refine D.ok uq (fun vs H Q E h=>?_) (fun X hX H vs Q E h=>?_)
 ·obtain⟨d,b,rfl,_⟩:=h;rfl
 ·obtain⟨f,cdv,A,outer,s,H0,E0,rfl,hr⟩:=hX
  obtain⟨d,b,rfl,hd,hb,q⟩:=h
  refine⟨_,(ak (br (aM bV (pv 0) av (aK _)) (ar (aC (aq xl (pv 1) ae))) aU)
    (ak (br (aM bV (pv 0) av (aK _)) (ar (aC (aq CK (pv 1) ae))) aU)
    (ak (br (aM bV (pv 0) av (aK _)) (ar (aC (aq vk (pv 1) ae))) aU)
    (ar (aC (pv 1)))))),?_⟩
  walk_at "rd"
  refine fk ?_
  refine rd_exb ?_
  rcases hd with rfl | rfl | rfl | rfl
  ·rw[dy]
   rw[me]at q
   refine aB ?_
   walk_at "rd"
   refine rd_I (show sX _ _ from⟨by decide,by decide,?_⟩) ?_
   ·rw[Int.natAbs_natCast]
    by_cases h0:b=0
    ·subst h0;decide
    ·exact Nat.lt_of_lt_of_le ((Nat.log2_lt h0).mpr hb) (by decide)
   ·exact q
  ·rw[lT]
   refine aw ?_
   walk_at "rd"
   refine fk ?_
   rw[dy]
   rw[lC]at q
   refine rd_exb (aB ?_)
   walk_at "rd"
   try refine rd_I (show(0:Int)<=1 by decide) ?_
   exact q
  ·rw[mY]
   refine aw ?_
   walk_at "rd"
   refine fk ?_
   rw[i9]
   refine rd_exb (aw ?_)
   walk_at "rd"
   refine fk ?_
   rw[decide_eq_false (show ¬(Str.ofString "stay")=Str.ofString "zero" by decide +kernel)]
   refine rd_exb (aw ?_)
   rw[nI]at q
   walk_at "rd"
   exact q
  ·rw[m8]
   refine aw ?_
   walk_at "rd"
   refine fk ?_
   rw[jx]
   refine rd_exb (aw ?_)
   walk_at "rd"
   refine fk ?_
   rw[dy]
   refine rd_exb (aB ?_)
   rw[nz]at q
   walk_at "rd"
   rw[show (1:Int)=((1:Nat):Int)from rfl,qu]
   exact q
def dM(ps:List Nat)(L:List Nat)(w:Way):List Nat:=L.set w.other.toNat (L.getD w.other.toNat 0 ||| cP w.deed (ps.getD w.room.toNat 0))
def cb(us:List Way)(ps:List Nat):List Nat:=us.foldl (dM ps) (List.replicate ps.length 0)
theorem wc(ps L:List Nat)(w:Way):(dM ps L w).length=L.length:=by unfold dM;rw[List.length_set]
theorem tQ(ps:List Nat):∀(us:List Way) (L:List Nat),(us.foldl (dM ps) L).length=L.length
 | [],L=>rfl
 | w::us,L=>by rw[List.foldl_cons,tQ ps us,wc]
theorem gK(us:List Way)(ps:List Nat):(cb us ps).length=ps.length:=by unfold cb;rw[tQ,List.length_replicate]
theorem zG{us:List Way}{ps:List Nat}{i:Nat}{w:Way}(h:us[i]?=some w):cb (us.take (i+1)) ps=dM ps (cb (us.take i) ps) w:=by
 unfold cb
 rw[List.take_succ,h,List.foldl_append]
 rfl
theorem lQ{L:List Nat}{k:Nat}(h:∀b∈L,b<2 ^ k)(i:Nat):L.getD i 0<2 ^ k:=by
 rw[List.getD_eq_getElem?_getD]
 cases e:L[i]? with
 | none=>exact Nat.two_pow_pos _
 | some b=>exact h b (List.mem_of_getElem? e)
theorem A2{L:List Nat}{i b x:Nat}(h:x∈L.set i b):x∈L\/x=b:=by
 rcases List.mem_or_eq_of_mem_set h with z | z
 ·exact .inl z
 ·exact .inr z
theorem oH{ps:List Nat}{k:Nat}(hp:∀b∈ps,b<2 ^ k):∀(us:List Way) (L:List Nat),(∀w∈us,bu w.deed)->(∀b∈L,b<2 ^ (k+1))->∀b∈us.foldl (dM ps) L,b<2 ^ (k+1)
 | [],L,_,h=>h
 | w::us,L,hu,h=>by
  rw[List.foldl_cons]
  refine oH hp us _ (fun u hu'=>hu u (EL _ hu')) fun b hb=>?_
  rcases A2 hb with z | z
  ·exact h b z
  ·rw[z]
   exact BM (lQ h _) (AN (hu w EO) (lQ hp _))
theorem mP{us:List Way}{ps:List Nat}{k:Nat}(hu:∀w∈us,bu w.deed)(hp:∀b∈ps,b<2 ^ k):∀b∈cb us ps,b<2 ^ (k+1):=
 oH hp us _ hu fun b hb=>by
  rw[List.eq_of_mem_replicate hb]
  exact Nat.two_pow_pos _
theorem zr{K:EE}{a:Addr}{xs:List V}{g:TG}{tb:TS}{D:Ends}{σ:St}{H:Hp}(Pv:Nat->St->Hp->Prop)(h0:Pv 0 σ H)(hl:(∀i σ H,Pv i σ H->ag K H a xs)\/(∀i σ H,Pv i σ H->aj K H a xs))
  (hs:∀i x σ H,xs[i]?=some x->Pv i σ H->g x σ H fun σ2 H2=>tb ⟨Pv (i+1),D.rt,D.nx,Pv (i+1)⟩ σ2 H2) (hd:∀σ H,Pv xs.length σ H->D.nx σ H) :
  (((∃xs,ag K H a xs)/\eQ (b6 K a) g tb D σ H)\/((∃xs,aj K H a xs)/\eQ (bT K a) g tb D σ H)):=by
 rcases hl with hl | hl
 ·exact .inl ⟨⟨xs,hl 0 σ H h0⟩,forL Pv h0 (fun i σ H _ h=>hl i σ H h) hs hd⟩
 ·exact .inr ⟨⟨xs,hl 0 σ H h0⟩,wU Pv h0 (fun i σ H _ h=>hl i σ H h) hs hd⟩
def jh(K:EE):Sp:=fun vs H Q _=>∃wl pl bs us ps m,vs=[.ref wl,.ref pl]/\(H wl=some (.lst (List.map V.ref bs))\/H wl=some (.tup (List.map V.ref bs)))/\aP H bs us/\(∀w∈us,w.Ok m)/\H pl=some (.lst (bh ps))/\(ps.length:Int)=m/\m<=12/\(∀b∈ps,b<2 ^ 25000)/\us.length<=100 ∧
 ∀l H',Ext H H'->H' l=some (.lst (bh (cb us ps)))->H l=none->Q (.ref l) H'
theorem zl(L:List Nat)(i b:Nat):(bh L).set i (.int (b:Int))=bh (L.set i b):=by
 unfold bh
 rw[List.map_set]
theorem qT{L:List Nat}{r:Int}(h0:0<=r)(h1:r<L.length):bK (bh L) r=some (.int ((L.getD r.toNat 0:Nat):Int)):=by
 refine gC h0 ?_
 rw[EK,EJ (by omega),List.getD_eq_getElem?_getD,EJ (by omega)]
 rfl
abbrev ky:Stmt:=stq 48
theorem rP:FnScope ["ways","places","led","way"] ["ways","places"] (aG ky):=⟨rfl,rfl,rfl,by decide +kernel,rfl,by decide +kernel,by decide +kernel⟩
theorem Bx{P:Program}{w:World}{K:EE}{mg:Str->Option Value}{base:Heap}(D:Dfn K mg "led_on" ky ["ways","places"])(T:Blt mg)(C_led_bits:Cal P w K mg base "led_bits" 1 ["deed","bits"] (wo K)):Cal P w K mg base "led_on" 2 ["ways","places"] (jh K):=by
 have nd:=(rP).nd
 refine D.ok rP (fun vs H Q E h=>?_) (fun X hX H vs Q E h=>?_)
 ·obtain⟨wl,pl,bs,us,ps,m,rfl,_⟩:=h;rfl
 ·obtain⟨f,cdv,A,outer,s,H0,E0,rfl,hr⟩:=hX
  obtain⟨wl,pl,bs,us,ps,m,rfl,hw,al,ok,hp,hm,m2,hlt,h100,q⟩:=h
  refine⟨_,(ak (aA (i:=2) nd rfl (Or.inl rfl) (aq vD (aQ (aa ae af)) (aT (cG K) rfl T.len_ PySem.boot_len (aa (pv 1) af))))
    (ak (bJ PassesOwn.never rfl (xp K (pv 0)) (aR (i:=3) nd rfl (Or.inl rfl)) (ar (mh (aq zw (ao (aJ K) (pv 2) (ao (ay K) (pv 3) ae (fun _ _=>rfl)) (fun _ _=>rfl)) (az C_led_bits hr (aa (ao (ay K) (pv 3) ae (fun _ _=>rfl)) (aa (ao (aJ K) (pv 1) (ao (ay K) (pv 3) ae (fun _ _=>rfl)) (fun _ _=>rfl)) af)))) (zR (pv 2) (ao (ay K) (pv 3) ae (fun _ _=>rfl)) set_list))))
    (ar (aC (pv 2))))),?_⟩
  walk_at "rd"
  refine⟨ai (by simp),ah fun z H1 e1 hz _=>?_⟩
  walk_at "rd"
  refine dN (ag.of (e1 _ _ hp)) ?_
  walk_at "rd"
  rw[EI]
  refine vq hz ⟨by omega,by omega⟩ (bX (by rw[Int.toNat_natCast];simp;omega)) (ah fun l H2 e2 hl hln=>?_)
  rw[Int.toNat_natCast,show (List.replicate ps.length [V.int 0]).flatten=bh (List.replicate ps.length 0) by
   unfold bh
   rw[List.map_replicate]
   induction ps.length with
   | zero=>rfl
   | succ n ih=>rw[List.replicate_succ,List.replicate_succ,List.flatten_cons,ih];rfl]at hl
  have e12:=e1.trans e2
  have hlnH:H l=none:=e1.none hln
  walk_at "rd"
  refine⟨wl,rfl,zr (xs:=List.map V.ref bs) (fun i σ H'=>∃k,σ=[some (.ref wl),some (.ref pl),some (.ref l),k]/\Ext H H'/\H' l=some (.lst (bh (cb (us.take i) ps)))) ⟨none,rfl,e12,hl⟩ ?_ ?_ ?_⟩
  ·rcases hw with hw | hw
   ·exact .inl fun i σ H' h=>by obtain⟨_,_,e,_⟩:=h;exact ag.of (e _ _ hw)
   ·exact .inr fun i σ H' h=>by obtain⟨_,_,e,_⟩:=h;exact aj.of (e _ _ hw)
  ·rintro i u σ H3 hu ⟨k,rfl,e3,hl3⟩
   rw[EK]at hu
   obtain⟨b,hb,rfl⟩:=Option.map_eq_some_iff.mp hu
   have hi:i<us.length:=by
    rw[←al.1]
    exact(List.getElem?_eq_some_iff.mp hb).1
   have hwi:us[i]?=some us[i]:=EJ hi
   have hwt:=e3 _ _ (al.2 i b _ hb hwi)
   have okw:=ok _ (List.getElem_mem hi)
   rw[zG hwi]
   generalize us[i]=w at hwt okw
   have hlen:=gK (us.take i) ps
   have hrange:=gK (us.take i) ps
   generalize cb (us.take i) ps=L at hl3 hlen
   have r0:=okw.r0
   have r1:=okw.r1
   have o0:=okw.o0
   have o1:=okw.o1
   walk_at "rd"
   refine ax (aj.of hwt) (v:=.int w.other) rfl ?_
   walk_at "rd"
   refine aI (ag.of hl3) (qT o0 (by omega)) ?_
   walk_at "rd"
   refine ax (aj.of hwt) (v:=.str w.deed) rfl ?_
   walk_at "rd"
   refine ax (aj.of hwt) (v:=.int w.room) rfl ?_
   walk_at "rd"
   refine aI (ag.of (e3 _ _ hp)) (qT r0 (by omega)) ?_
   walk_at "rd"
   refine⟨w.deed,_,rfl,okw.dd,Nat.lt_of_lt_of_le (lQ hlt _) (Nat.pow_le_pow_right (by decide) (by decide)),?_⟩
   walk_at "rd"
   rw[zI]
   refine ax (aj.of hwt) (v:=.int w.other) rfl ?_
   walk_at "rd"
   refine w9 hl3 (j:=w.other.toNat) ?_ ?_
   ·rw[EI]
    exact yH o0 (by omega)
   rw[zl]
   exact⟨_,rfl,cu e3 hlnH,aY⟩
  ·rintro σ H3 ⟨k,rfl,e3,hl3⟩
   rw[EI,al.1,List.take_length]at hl3
   walk_at "rd"
   exact q l H3 e3 hl3 hlnH
def fj(ps qs:List Nat):Bool:=(List.zipWith (fun a b=>!decide ((a &&& b:Nat)=0)) ps qs).any id
def kn(K:EE):Sp:=fun vs H Q _=>∃a b ps qs,vs=[.ref a,.ref b]/\H a=some (.lst (bh ps))/\H b=some (.lst (bh qs))/\ps.length=qs.length/\ps.length<=12/\∀H',Ext H H'->Q (.bl (fj ps qs)) H'
abbrev i7:Stmt:=stq 49
theorem uA:FnScope ["places","others"] ["places","others"] (aG i7):=⟨rfl,rfl,rfl,by decide +kernel,rfl,by decide +kernel,by decide +kernel⟩
theorem Cf{P:Program}{w:World}{K:EE}{mg:Str->Option Value}{base:Heap}(D:Dfn K mg "share_one" i7 ["places","others"])(T:Blt mg):Cal P w K mg base "share_one" 1 ["places","others"] (kn K):=by
 have nd:=(uA).nd
 refine D.ok uA (fun vs H Q E h=>?_) (fun X hX H vs Q E h=>?_)
 ·obtain⟨a,b,ps,qs,rfl,_⟩:=h;rfl
 ·obtain⟨f,cdv,A,outer,s,H0,E0,rfl,hr⟩:=hX
  obtain⟨a,b,ps,qs,rfl,ha,hb,hl,h12,q⟩:=h
  refine⟨_,(ar (aC (aT (Ey K rfl) rfl T.any_ PyProof.Rows.boot_any (aa (eZ ["bits","beside"] [] (BF K rfl T.zip_ (aa (pv 0) (aa (pv 1) af))) (fun _=>(gf (n:=2) K rfl (cq (aR (i:=0) (show(["bits","beside"]:List Str).Nodup from by decide +kernel) rfl (Or.inl rfl) (Or.inr rfl)) (cq (aR (i:=1) (show(["bits","beside"]:List Str).Nodup from by decide +kernel) rfl (Or.inl rfl) (Or.inr rfl)) fS)))) (fun _=>eY) (fun _=>(hZ cL (aq vk (pv 0) (pv 1)) ae (aK _)))) af)))),?_⟩
  walk_at "rd"
  refine Cy (ag.of ha) (ag.of hb) ?_
  refine Ak (xs:=bh ps) (ys:=bh qs) (fun i zs H'=>Ext H H'/\zs=((List.zipWith (fun a b=>!decide ((a &&& b:Nat)=0)) ps qs).take i).map V.bl) (bX (by rw[EI];omega)) ⟨Ext.rfl' _,rfl⟩ (fun i zs H' h=>⟨ag.of (h.1 _ _ ha),ag.of (h.1 _ _ hb),by rw[h.2,EI,List.length_take];omega⟩) ?_ ?_
  ·rintro i u v zs H1 p H2 hu hv ⟨e1,rfl⟩ e2 hp _
   rw[EK]at hu hv
   obtain⟨x,hx,rfl⟩:=Option.map_eq_some_iff.mp hu
   obtain⟨y,hy,rfl⟩:=Option.map_eq_some_iff.mp hv
   refine gW (aj.of hp) rfl ?_
   walk_at "rd"
   refine aB ?_
   walk_at "rd"
   rw[qu]
   refine⟨e1.trans e2,?_⟩
   rw[List.take_succ,List.getElem?_zipWith,hx,hy,List.map_append]
   congr 1
   show[V.bl _]=[V.bl _]
   congr 2
   by_cases h0:(x &&& y:Nat)=0
   ·rw[decide_eq_true h0,decide_eq_true (show((x &&& y:Nat):Int)=0 by omega)]
   ·rw[decide_eq_false h0,decide_eq_false (show ¬((x &&& y:Nat):Int)=0 by omega)]
  ·rintro zs H1 l ⟨e1,rfl⟩ hl1
   walk_at "rd"
   rw[EI,EI,List.take_of_length_le (by rw[List.length_zipWith];exact Nat.le_refl _)]
   refine⟨l,_,rfl,ag.of aY,?_⟩
   exact q _ (e1.trans (bM hl1))
def cC(ws:List Way)(z:Str):List Way:=ws.filter fun w=>decide (w.sign=z)
theorem BC{ws:List Way}{z:Str}{i:Nat}{w:Way}(h:ws[i]?=some w):cC (ws.take (i+1)) z=cC (ws.take i) z++if w.sign=z then[w]else[]:=by
 unfold cC
 rw[List.take_succ,h,List.filter_append]
 congr 1
 by_cases e:w.sign=z
 ·rw[if_pos e];simp[e]
 ·rw[if_neg e];simp[e]
def mJ(K:EE):Sp:=fun vs H Q _=>∃v m ws z,vs=[v,.str z]/\aW H v m ws/\HOuse m ws/\∀l H' bs,Ext H H'->H' l=some (.lst (List.map V.ref bs))->aP H' bs (cC ws z)->Q (.ref l) H'
abbrev kJ:Stmt:=stq 50
theorem vj:FnScope ["house","sign"] ["house","sign"] (aG kJ):=⟨rfl,rfl,rfl,by decide +kernel,rfl,by decide +kernel,by decide +kernel⟩
theorem AS{P:Program}{w:World}{K:EE}{mg:Str->Option Value}{base:Heap}(D:Dfn K mg "ways_of_sign" kJ ["house","sign"])(T:Blt mg):Cal P w K mg base "ways_of_sign" 1 ["house","sign"] (mJ K):=by
 have nd:=(vj).nd
 refine D.ok vj (fun vs H Q E h=>?_) (fun X hX H vs Q E h=>?_)
 ·obtain⟨v,m,ws,z,rfl,_⟩:=h;rfl
 ·obtain⟨f,cdv,A,outer,s,H0,E0,rfl,hr⟩:=hX
  obtain⟨v,m,ws,z,rfl,⟨hh,t,rfl,g1,g2⟩,ok,q⟩:=h
  obtain⟨bs,g3,al⟩:=cj.al g2
  have hfew:=ok.few
  refine⟨_,(ar (aC (eZ ["way"] [1] (jH K (ao (ay K) (pv 0) ae (fun _ _=>rfl))) (fun _=>(aR (i:=0) (show(["way","sign"]:List Str).Nodup from by decide +kernel) rfl (Or.inl rfl) (Or.inr rfl))) (fun _=>(Ba (aM bV (ao (ay K) (pv 0) ae (fun _ _=>rfl)) (pv 1) (aK _)))) (fun _=>(pv 0))))),?_⟩
  walk_at "rd"
  refine ax (aj.of g1) (v:=.ref t) rfl ?_
  refine ku (aj.of g3) ?_
  refine lh (xs:=bs.map V.ref) (fun i ys H'=>H'=H/\∃cs:List Addr,ys=cs.map V.ref/\aP H cs (cC (ws.take i) z)/\cs.length<=i) (bX (by rw[EI,al.1];omega)) ⟨rfl,[],rfl,aP.nil _,Nat.le_refl _⟩ (fun i ys H' hi h=>⟨by rw[h.1];exact aj.of g3,by obtain⟨_,cs,rfl,_,hc⟩:=h;rw[EI];exact hc⟩) ?_ ?_
  ·rintro i x ys H' hx ⟨rfl,cs,rfl,hc,hcl⟩
   rw[EK]at hx
   obtain⟨b,hb,rfl⟩:=Option.map_eq_some_iff.mp hx
   have hi:i<ws.length:=by
    rw[←al.1]
    exact(List.getElem?_eq_some_iff.mp hb).1
   have hwi:ws[i]?=some ws[i]:=EJ hi
   have hw:=al.2 i b _ hb hwi
   rw[BC hwi]
   walk_at "rd"
   refine ax (aj.of hw) (v:=.str ws[i].sign) rfl ?_
   walk_at "rd"
   refine fk ?_
   by_cases e:ws[i].sign=z
   ·rw[decide_eq_true e,if_pos e]
    refine rd_exb (aB ?_)
    walk_at "rd"
    exact⟨rfl,cs++[b],by rw[List.map_append];rfl,hc.snoc hw,by rw[List.length_append];simp;omega⟩
   ·rw[decide_eq_false e,if_neg e,List.append_nil]
    refine rd_exb (aw ?_)
    exact⟨rfl,cs,rfl,hc,by omega⟩
  ·rintro ys H' l ⟨rfl,cs,rfl,hc,_⟩ hl
   rw[EI,al.1,List.take_length]at hc
   exact q l _ cs (bM hl) aY (hc.ext (bM hl))
def cJ(ws:List Way)(L:List Nat)(cs:List Nat):List Nat:=cs.foldl (fun ps c=>cb (cC ws ⟨#[c]⟩) ps) L
theorem gh(ws:List Way):∀(cs:List Nat) (L:List Nat),(cJ ws L cs).length=L.length
 | [],L=>rfl
 | c::cs,L=>by
  show(cJ ws (cb (cC ws ⟨#[c]⟩) L) cs).length=_
  rw[gh ws cs,gK]
theorem kZ(ws:List Way)(L cs:List Nat)(c:Nat):cJ ws L (cs++[c])=cb (cC ws ⟨#[c]⟩) (cJ ws L cs):=by
 unfold cJ
 rw[List.foldl_append]
 rfl
theorem qc(m r:Int):∀b∈bz m r,b<2 ^ 1:=by
 intro b hb
 obtain⟨i,_,rfl⟩:=List.mem_map.mp hb
 split<;>decide
theorem kr{ws:List Way}{z:Str}{w:Way}(h:w∈cC ws z):w∈ws/\w.sign=z:=by
 unfold cC at h
 rw[List.mem_filter]at h
 exact⟨h.1,by simpa using h.2⟩
def ly(K:EE):Sp:=fun vs H Q E=>∃v p q z,vs=[v,.int p,.int q,.str z]/\z.cps.size<=2000/\(gG K H E v p q\/∃m ws,aW H v m ws/\HOuse m ws/\cv m p q/\((200<z.cps.size/\eU K H E "TooGreat")\/(z.cps.size<=200/\∀b H',Ext H H'->Q (.bl b) H')))
abbrev jO:Stmt:=stq 52
theorem uu:FnScope ["house","p","q","text","places","sign"] ["house","p","q","text"] (aG jO):=⟨rfl,rfl,rfl,by decide +kernel,rfl,by decide +kernel,by decide +kernel⟩
theorem B8{P:Program}{w:World}{K:EE}{mg:Str->Option Value}{base:Heap}(D:Dfn K mg "reads" jO ["house","p","q","text"])(T:Blt mg)(g_LONGEST_TEXT:∃t,mg "LONGEST_TEXT" = some (.int 200 t))(XF:Xf K mg base fI fH)(C_share_one:Cal P w K mg base "share_one" 1 ["places","others"] (kn K))(C_alone_at_zero:Cal P w K mg base "alone_at_zero" 1 ["house","room"] (jB K))(C_led_on:Cal P w K mg base "led_on" 2 ["ways","places"] (jh K))(C_ways_of_sign:Cal P w K mg base "ways_of_sign" 1 ["house","sign"] (mJ K))(CX_refuse_bad_rooms:CalX P w K mg base "refuse_bad_rooms" 7 ["house","p","q"] (fA K)):CalX P w K mg base "reads" 8 ["house","p","q","text"] (ly K):=by
 have nd:=(uu).nd
 refine D.okX uu (fun vs H Q E h=>?_) (fun f cdv A outer s H vs Q E hr h=>?_)
 ·obtain⟨v,p,q,z,rfl,_⟩:=h;rfl
 ·obtain⟨t_LONGEST_TEXT,c_LONGEST_TEXT⟩:=g_LONGEST_TEXT
  obtain⟨v,p,q,z,rfl,hz2,hh⟩:=h
  refine⟨_,(ak (bw (iX CX_refuse_bad_rooms hr (aa (pv 0) (aa (pv 1) (aa (pv 2) af)))))
    (ak (br (aM fg (aT pJ rfl T.len_ PySem.boot_len (aa (pv 3) af)) (bU (v:=.int 200) rfl c_LONGEST_TEXT ⟨_,rfl⟩) (aK _)) (ar (je (XF.own "TooGreat" (by decide +kernel)) PySem.F.excBase_ValueError (aa (wz (bU (v:=.int 200) rfl c_LONGEST_TEXT ⟨_,rfl⟩)) af))) aU)
    (ak (aA (i:=4) nd rfl (Or.inl rfl) (az C_alone_at_zero hr (aa (pv 0) (aa (pv 1) af))))
    (ak (pW (bJ PassesOwn.never rfl (BJ (pv 3)) (aR (i:=5) nd rfl (Or.inl rfl)) (ar (aA (i:=4) nd rfl (Or.inl rfl) (az C_led_on hr (aa (az C_ways_of_sign hr (aa (pv 0) (aa (pv 5) af))) (aa (pv 4) af)))))))
    (ar (aC (az C_share_one hr (aa (pv 4) (aa (az C_alone_at_zero hr (aa (pv 0) (aa (pv 2) af))) af))))))))),?_⟩
  walk_at "rd"
  rcases hh with hb | ⟨m,ws,hv,ok,hr,hh⟩
  ·exact hb.go
  have m1:=ok.m1
  have m2:=ok.m12
  have hfew:=ok.few
  refine nG hv ok hr fun H1 e1=>?_
  walk_at "rd"
  refine⟨z,rfl,bX (show z.cps.size<=2000 from hz2),?_⟩
  walk_at "rd"
  rcases hh with⟨hz,r⟩ | ⟨hz,qq⟩
  ·rw[decide_eq_true (show(200:Int)<((z.length:Nat):Int) by show(200:Int)<((z.cps.size:Nat):Int);omega)]
   refine aB ?_
   walk_at "rd"
   refine⟨by decide +kernel,by decide +kernel,by decide +kernel,fun z'=>?_⟩
   walk_at "rd"
   exact⟨ai (by simp),r H1 e1⟩
  rw[decide_eq_false (show ¬(200:Int)<((z.length:Nat):Int) by show ¬(200:Int)<((z.cps.size:Nat):Int);omega)]
  refine aw ?_
  walk_at "rd"
  refine⟨v,m,ws,p,rfl,hv.ext e1,ok,fun l H2 e2 hl _=>?_⟩
  have e02:=e1.trans e2
  walk_at "rd"
  refine⟨z,rfl,?_⟩
  refine wN (fun i σ H'=>∃k l,σ=[some v,some (.int p),some (.int q),some (.str z),some (.ref l),k]/\Ext H H'/\H' l=some (.lst (bh (cJ ws (bz m p) (z.cps.toList.take i))))/\(∀b∈cJ ws (bz m p) (z.cps.toList.take i),b<2 ^ (i+1))) ⟨none,l,rfl,e02,hl,qc m p⟩ ?_ ?_
  ·rintro i c σ H3 hc ⟨k,l3,rfl,e3,hl3,hlt⟩
   have hi:i<z.cps.size:=(Array.getElem?_eq_some_iff.mp hc).1
   have hct:z.cps.toList[i]?=some c:=by rw[Array.getElem?_toList];exact hc
   have htk:z.cps.toList.take (i+1)=z.cps.toList.take i++[c]:=by rw[List.take_succ,hct];rfl
   have hlen:=gh ws (z.cps.toList.take i) (bz m p)
   rw[dE]at hlen
   rw[htk,kZ]
   generalize cJ ws (bz m p) (z.cps.toList.take i)=ps at hl3 hlt hlen
   walk_at "rd"
   refine⟨v,m,ws,⟨#[c]⟩,rfl,hv.ext e3,ok,fun wl H4 bs e4 hwl al=>?_⟩
   walk_at "rd"
   have hok:∀w∈cC ws ⟨#[c]⟩,w.Ok m:=fun w hw=>ok.ok w (kr hw).1
   refine⟨wl,l3,bs,_,ps,m,rfl,.inl hwl,al,hok,e4 _ _ hl3,by omega,m2,fun b hb=>Nat.lt_of_lt_of_le (hlt b hb) (Nat.pow_le_pow_right (by decide) (by omega)),?_,fun l5 H5 e5 hl5 _=>?_⟩
   ·unfold cC
    exact Nat.le_trans (List.length_filter_le _ _) hfew
   walk_at "rd"
   exact⟨_,l5,rfl,e3.trans (e4.trans e5),hl5,mP (fun w hw=>(hok w hw).dd) hlt⟩
  ·rintro σ H3 ⟨k,l3,rfl,e3,hl3,hlt⟩
   rw[List.take_of_length_le (by rw[EM];exact Nat.le_refl _)]at hl3
   have hlen:=gh ws z.cps.toList (bz m p)
   rw[dE]at hlen
   walk_at "rd"
   refine⟨v,m,ws,q,rfl,hv.ext e3,ok,fun l4 H4 e4 hl4 _=>?_⟩
   walk_at "rd"
   exact⟨l3,l4,_,_,rfl,e4 _ _ hl3,hl4,by rw[hlen,dE],by omega,fun H5 e5=>qq _ _ (e3.trans (e4.trans e5))⟩
def Sg(ws:List Way)(c:Nat)(S:Bfs.Pl->Prop)(y:Bfs.Pl):Prop:=∃x,S x/\∃w∈ws,w.sign=⟨#[c]⟩/\w.room=x.1/\bY w.deed x.2=some y.2/\w.other=y.1
def Rs(ws:List Way)(S:Bfs.Pl->Prop)(cs:List Nat):Bfs.Pl->Prop:=cs.foldl (fun S c=>Sg ws c S) S
theorem ng(ws:List Way)(S:Bfs.Pl->Prop)(cs:List Nat)(c:Nat):Rs ws S (cs++[c])=Sg ws c (Rs ws S cs):=by
 unfold Rs
 rw[List.foldl_append]
 rfl
structure BitsAre(m:Int)(ps:List Nat)(S:Bfs.Pl->Prop):Prop where
 len:ps.length=m.toNat
 bit:∀r n:Nat,(r:Int)<m->((ps.getD r 0).testBit n=true↔S ((r:Int),(n:Int)))
 lo:∀x,S x->0<=x.1/\x.1<m/\0<=x.2
theorem tV{m p:Int}(p0:0<=p)(p1:p<m):BitsAre m (bz m p) fun x=>x=(p,0):=by
 refine⟨dE m p,fun r n hr=>?_,fun x hx=>by rw[hx];exact⟨p0,p1,Int.le_refl 0⟩⟩
 have:(bz m p).getD r 0=if(r:Int)=p then 1 else 0:=by
  unfold bz
  rw[List.getD_eq_getElem?_getD,EK,List.getElem?_range (by omega)]
  rfl
 rw[this]
 constructor
 ·intro h
  split at h
  ·rename_i e
   rw[m7]at h
   have h:=of_decide_eq_true h
   subst h
   rw[e]
   rfl
  ·rw[Nat.zero_testBit]at h
   cases h
 ·intro h
  have h1:(r:Int)=p:=congrArg Prod.fst h
  have h2:(n:Int)=0:=congrArg Prod.snd h
  rw[if_pos h1,m7]
  exact decide_eq_true (by omega)
theorem oi{ps:List Nat}{n:Nat}:∀(us:List Way) (L:List Nat) (o:Nat),o<L.length->(((us.foldl (dM ps) L).getD o 0).testBit n=true↔(L.getD o 0).testBit n=true\/∃w∈us,w.other.toNat=o/\(cP w.deed (ps.getD w.room.toNat 0)).testBit n=true)
 | [],L,o,_=>by
  constructor
  ·exact fun h=>.inl h
  ·rintro(h | ⟨w,hw,_⟩)
   ·exact h
   ·cases hw
 | w::us,L,o,ho=>by
  rw[List.foldl_cons,oi us (dM ps L w) o (by rw[wc];exact ho)]
  have key:((dM ps L w).getD o 0).testBit n=true↔(L.getD o 0).testBit n=true\/(w.other.toNat=o/\(cP w.deed (ps.getD w.room.toNat 0)).testBit n=true):=by
   unfold dM
   rw[List.getD_eq_getElem?_getD,List.getElem?_set]
   by_cases e:w.other.toNat=o
   ·subst e
    rw[if_pos rfl,if_pos ho]
    show(L.getD _ 0 ||| _).testBit n=true↔_
    rw[Nat.testBit_or,Bool.or_eq_true]
    constructor
    ·rintro(h | h)
     ·exact .inl h
     ·exact .inr ⟨rfl,h⟩
    ·rintro(h | ⟨_,h⟩)
     ·exact .inl h
     ·exact .inr h
   ·rw[if_neg e,←List.getD_eq_getElem?_getD]
    constructor
    ·exact fun h=>.inl h
    ·rintro(h | ⟨h,_⟩)
     ·exact h
     ·exact absurd h e
  rw[key]
  constructor
  ·rintro((h | h) | ⟨u,hu,h⟩)
   ·exact .inl h
   ·exact .inr ⟨w,EO,h⟩
   ·exact .inr ⟨u,EL _ hu,h⟩
  ·rintro(h | ⟨u,hu,h⟩)
   ·exact .inl (.inl h)
   ·rcases List.mem_cons.mp hu with rfl | hu
    ·exact .inl (.inr h)
    ·exact .inr ⟨u,hu,h⟩
theorem Ef{m:Int}{ws:List Way}(ok:HOuse m ws){ps:List Nat}{S:Bfs.Pl->Prop}(h:BitsAre m ps S)(c:Nat):BitsAre m (cb (cC ws ⟨#[c]⟩) ps) (Sg ws c S):=by
 refine⟨by rw[gK,h.len],fun o n ho=>?_,?_⟩
 ·unfold cb
  rw[oi _ _ _ (by rw[List.length_replicate,h.len];omega)]
  have hz:(List.replicate ps.length 0).getD o 0=0:=by
   rw[List.getD_eq_getElem?_getD,List.getElem?_replicate]
   split<;>rfl
  rw[hz,Nat.zero_testBit]
  constructor
  ·rintro(h0 | ⟨w,hw,h1,h2⟩)
   ·cases h0
   ·obtain⟨hw,hs⟩:=kr hw
    have okw:=ok.ok w hw
    obtain⟨k,hk,hst⟩:=(j6 okw.dd _ _).mp h2
    have hS:=(h.bit w.room.toNat k (by have:=okw.r0;have:=okw.r1;omega)).mp hk
    rw[show ((w.room.toNat:Nat):Int)=w.room by have:=okw.r0;omega]at hS
    exact⟨_,hS,w,hw,hs,rfl,hst,by show w.other=(o:Int);have:=okw.o0;omega⟩
  ·rintro⟨x,hx,w,hw,hs,hr,hst,hoo⟩
   have okw:=ok.ok w hw
   have lx:=h.lo x hx
   refine .inr ⟨w,?_,by show w.other.toNat=o;have hoo:w.other=(o:Int):=hoo;omega,?_⟩
   ·unfold cC
    rw[List.mem_filter]
    exact⟨hw,by simp[hs]⟩
   ·refine(j6 okw.dd _ _).mpr ⟨x.2.toNat,?_,?_⟩
    ·refine(h.bit w.room.toNat x.2.toNat (by have:=okw.r0;have:=okw.r1;omega)).mpr ?_
     rw[show (((w.room.toNat:Nat):Int),((x.2.toNat:Nat):Int))=x from Prod.ext (by have:=okw.r0;show((w.room.toNat:Nat):Int)=x.1;omega) (by show((x.2.toNat:Nat):Int)=x.2;omega)]
     exact hx
    ·rw[show ((x.2.toNat:Nat):Int)=x.2 by omega]
     exact hst
 ·rintro y ⟨x,hx,w,hw,hs,hr,hst,hoo⟩
  have okw:=ok.ok w hw
  rw[←hoo]
  exact⟨okw.o0,okw.o1,jf okw.dd (h.lo x hx).2.2 hst⟩
theorem lF{m:Int}{ws:List Way}(ok:HOuse m ws){p:Int}(p0:0<=p)(p1:p<m)(cs:List Nat):BitsAre m (cJ ws (bz m p) cs) (Rs ws (fun x=>x=(p,0)) cs):=by
 have:∀(k:Nat),k<=cs.length->BitsAre m (cJ ws (bz m p) (cs.take k)) (Rs ws (fun x=>x=(p,0)) (cs.take k)):=by
  intro k
  induction k with
  | zero=>intro _;exact tV p0 p1
  | succ k ih=>
   intro hk
   have e:cs.take (k+1)=cs.take k++[cs[k]]:=by rw[List.take_succ,EJ (by omega)];rfl
   rw[e,kZ,ng]
   exact Ef ok (ih (by omega)) _
 have:=this cs.length (Nat.le_refl _)
 rwa [List.take_length]at this
def hide(H:Hp)(f:Addr):Hp:=fun a=>if a=f then none else H a
theorem Ek(H:Hp)(f:Addr):Ext (hide H f) H:=fun b o h=>by
 unfold hide at h
 split at h
 ·cases h
 ·exact h
theorem uV{H:Hp}{f a:Addr}{o:HO}(ne:a≠f)(h:H a=some o):hide H f a=some o:=by
 unfold hide
 rw[if_neg ne]
 exact h
theorem nO{z:Str}(h:gp z):∃c:Nat,z=⟨#[c]⟩:=by
 obtain⟨c,_,_,e⟩:=h
 exact⟨c,e⟩
abbrev ch(c:Nat):Str:=⟨#[c]⟩
theorem fD{a b:Nat}(h:ch a=ch b):a=b:=by
 have:(#[a]:Array Nat) = #[b]:=congrArg Str.cps h
 simpa using this
structure SigG(ws:List Way)(G:List Nat):Prop where
 up:G.Pairwise (· < ·)
 mem:∀c,c∈G↔∃w∈ws,w.sign=ch c
theorem SigG.uniq{ws:List Way}{G G':List Nat}(h:SigG ws G)(h':SigG ws G'):G=G':=by
 have p:G.Perm G':=(List.perm_ext_iff_of_nodup (h.up.imp fun h=>Nat.ne_of_lt h) (h'.up.imp fun h=>Nat.ne_of_lt h)).mpr fun c=>(h.mem c).trans (h'.mem c).symm
 exact p.eq_of_pairwise (fun a b _ _ h1 h2=>absurd h1 (by omega)) h.up h'.up
theorem qd:∀{p:Nat} {G:List Nat},PyProof.Rows.risingS (ch p) (G.map ch)=true->(p::G).Pairwise (·<=·)
 | p,[],_=>List.pairwise_singleton _ _
 | p,c::G,h=>by
  have h':(!PySem.Spec.ltCps [c] [p] && PyProof.Rows.risingS (ch c) (G.map ch))=true:=h
  rw[Bool.and_eq_true]at h'
  have ih:=qd h'.2
  have hle:p<=c:=by
   have h1:=h'.1
   have h2:PySem.Spec.ltCps [c] [p]=(decide (c<p) || (c == p && PySem.Spec.ltCps [] [])):=rfl
   rw[h2]at h1
   rcases Nat.lt_or_ge c p with l | l
   ·rw[decide_eq_true l]at h1
    cases h1
   ·exact l
  refine List.pairwise_cons.mpr ⟨fun x hx=>?_,ih⟩
  rcases List.mem_cons.mp hx with rfl | hx
  ·exact hle
  ·exact Nat.le_trans hle ((List.pairwise_cons.mp ih).1 x hx)
theorem zj:∀{G:List Nat},PyProof.Rows.sortedS (G.map ch)=true->G.Pairwise (·<=·)
 | [],_=>List.Pairwise.nil
 | c::G,h=>qd h
theorem lN:∀{ss:List Str},(∀z∈ss,∃c:Nat,z=ch c)->∃G:List Nat,ss=G.map ch
 | [],_=>⟨[],rfl⟩
 | z::ss,h=>by
  obtain⟨c,rfl⟩:=h z EO
  obtain⟨G,rfl⟩:=lN (ss:=ss) fun y hy=>h y (EL _ hy)
  exact⟨c::G,rfl⟩
theorem xR{m:Int}{ws:List Way}(ok:HOuse m ws){ss ds:List Str}(hn:ds.Nodup)(hm:∀z,z∈ds↔z∈ws.map Way.sign)(hp:ss.Perm ds)(hs:PyProof.Rows.sortedS ss=true):∃G,ss=List.map ch G/\SigG ws G:=by
 obtain⟨G,rfl⟩:=lN (ss:=ss) fun z hz=>by
  obtain⟨w,hw,rfl⟩:=List.mem_map.mp ((hm z).mp (hp.mem_iff.mp hz))
  exact nO (ok.ok w hw).sg
 refine⟨G,rfl,?_,fun c=>?_⟩
 ·have h1:=zj hs
  have h2:(List.map ch G).Nodup:=hp.nodup_iff.mpr hn
  have h3:G.Pairwise (·≠·):=by
   unfold List.Nodup at h2
   rw[List.pairwise_map]at h2
   exact h2.imp fun h e=>h (by rw[e])
  exact(h1.and h3).imp fun h=>Nat.lt_of_le_of_ne h.1 h.2
 ·constructor
  ·intro hc
   obtain⟨w,hw,e⟩:=List.mem_map.mp ((hm (ch c)).mp (hp.mem_iff.mp (List.mem_map.mpr ⟨c,hc,rfl⟩)))
   exact⟨w,hw,e⟩
  ·rintro⟨w,hw,e⟩
   have:=hp.mem_iff.mpr ((hm (ch c)).mpr (List.mem_map.mpr ⟨w,hw,e⟩))
   obtain⟨c',hc',e'⟩:=List.mem_map.mp this
   rw[←fD e']
   exact hc'
theorem SigG.few{m:Int}{ws:List Way}{G:List Nat}(ok:HOuse m ws)(h:SigG ws G):G.length<=26:=by
 have hn:(G.map (· - 97)).Nodup:=by
  unfold List.Nodup
  rw[List.pairwise_map]
  refine h.up.imp_of_mem fun{a b} ha hb hab=>?_
  obtain⟨w,hw,e⟩:=(h.mem a).mp ha
  obtain⟨c,c1,c2,e'⟩:=(ok.ok w hw).sg
  have:=fD (e.symm.trans e')
  omega
 have:=hn.length_le_of_subset (l₂:=List.range 26) fun x hx=>by
  obtain⟨c,hc,rfl⟩:=List.mem_map.mp hx
  obtain⟨w,hw,e⟩:=(h.mem c).mp hc
  obtain⟨c',c1,c2,e'⟩:=(ok.ok w hw).sg
  have:=fD (e.symm.trans e')
  exact List.mem_range.mpr (by omega)
 rw[EI,List.length_range]at this
 exact this
def gP(ws:List Way)(H:Hp)(b:Addr)(c:Nat):Prop:=∃wl bs,H b=some (.tup [.str (ch c),.ref wl])/\H wl=some (.lst (List.map V.ref bs))/\aP H bs (cC ws (ch c))
theorem gP.ext{ws:List Way}{H H':Hp}{b:Addr}{c:Nat}(e:Ext H H')(h:gP ws H b c):gP ws H' b c:=by
 obtain⟨wl,bs,h1,h2,h3⟩:=h
 exact⟨wl,bs,e _ _ h1,e _ _ h2,h3.ext e⟩
def qP(K:EE):Sp:=fun vs H Q _=>∃v m ws,vs=[v]/\aW H v m ws/\HOuse m ws/\∀l H' as G,Ext H H'->H' l=some (.lst (List.map V.ref as))->Paired (gP ws H') as G->SigG ws G->Q (.ref l) H'
theorem mV{α β:Type}{F:α->β->Prop}{as:List α}{bs:List β}{a:α}{b:β}(h:Paired F as bs)(hab:F a b):Paired F (as++[a]) (bs++[b]):=by
 induction h with
 | nil=>exact .cons hab .nil
 | cons h _ ih=>exact .cons h ih
abbrev kX:Stmt:=stq 51
theorem ua:FnScope ["house","signs"] ["house"] (aG kX):=⟨rfl,rfl,rfl,by decide +kernel,rfl,by decide +kernel,by decide +kernel⟩
theorem w8{P:Program}{w:World}{K:EE}{mg:Str->Option Value}{base:Heap}(D:Dfn K mg "ways_by_sign" kX ["house"])(T:Blt mg)(C_ways_of_sign:Cal P w K mg base "ways_of_sign" 1 ["house","sign"] (mJ K)):Cal P w K mg base "ways_by_sign" 2 ["house"] (qP K):=by
 have nd:=(ua).nd
 refine D.ok ua (fun vs H Q E h=>?_) (fun X hX H vs Q E h=>?_)
 ·obtain⟨v,m,ws,rfl,_⟩:=h;rfl
 ·obtain⟨f,cdv,A,outer,s,H0,E0,rfl,hr⟩:=hX
  obtain⟨v,m,ws,rfl,hv,ok,q⟩:=h
  obtain⟨hh,t,rfl,g1,g2⟩:=id hv
  obtain⟨bs,g3,al⟩:=cj.al g2
  have hfew:=ok.few
  refine⟨_,(ak (aA (i:=1) nd rfl (Or.inl rfl) (aT (wH hr) rfl T.sorted_ PyProof.Rows.boot_sorted (aa (gm (zN hr) rfl T.set_ PyProof.Rows.boot_set (aa (eZ ["way"] [] (jH K (ao (ay K) (pv 0) ae (fun _ _=>rfl))) (fun _=>(aR (i:=0) (show(["way"]:List Str).Nodup from by decide +kernel) rfl (Or.inl rfl) (Or.inr rfl))) (fun _=>eY) (fun _=>(ao (ay K) (pv 0) ae (fun _ _=>rfl)))) af)) af)))
    (ar (aC (eZ ["sign"] [0] (dH K (pv 1)) (fun _=>(aR (i:=0) (show(["sign","house"]:List Str).Nodup from by decide +kernel) rfl (Or.inl rfl) (Or.inr rfl))) (fun _=>eY) (fun _=>(aF (aa (pv 0) (aa (az C_ways_of_sign hr (aa (pv 1) (aa (pv 0) af))) af)))))))),?_⟩
  walk_at "rd"
  refine ax (aj.of g1) (v:=.ref t) rfl ?_
  refine ku (aj.of g3) ?_
  refine lh (xs:=bs.map V.ref) (fun i ys H'=>H'=H/\ys=((ws.take i).map Way.sign).map V.str) (bX (by rw[EI,al.1];omega)) ⟨rfl,rfl⟩ (fun i ys H' hi h=>⟨by rw[h.1];exact aj.of g3,by rw[h.2,EI,EI,List.length_take];omega⟩) ?_ ?_
  ·rintro i x ys H' hx ⟨rfl,rfl⟩
   rw[EK]at hx
   obtain⟨b,hb,rfl⟩:=Option.map_eq_some_iff.mp hx
   have hi:i<ws.length:=by
    rw[←al.1]
    exact(List.getElem?_eq_some_iff.mp hb).1
   have hwi:ws[i]?=some ws[i]:=EJ hi
   have hw:=al.2 i b _ hb hwi
   walk_at "rd"
   refine aB ?_
   walk_at "rd"
   refine ax (aj.of hw) (v:=.str ws[i].sign) rfl ?_
   refine⟨rfl,?_⟩
   rw[List.take_succ,hwi,List.map_append,List.map_append]
   rfl
  ·rintro ys H' l ⟨rfl,rfl⟩ hl
   rw[EI,al.1,List.take_length]
   have hl1:upd H' l (.lst ((ws.map Way.sign).map V.str)) l=some (.lst (List.map V.str (ws.map Way.sign))):=aY
   have e1:Ext H' (upd H' l (.lst ((ws.map Way.sign).map V.str))):=bM hl
   generalize upd H' l (.lst ((ws.map Way.sign).map V.str))=H1 at hl1 e1 ⊢
   walk_at "rd"
   refine⟨l,_,rfl,hl1,by rw[EI];omega,fun l2 ds hl2 hnd hmem=>?_⟩
   generalize hso:jm _ _ l2 ds=so
   have hl3:upd H1 l2 so l2=some so:=aY
   have e2:Ext H1 (upd H1 l2 so):=bM hl2
   generalize upd H1 l2 so=H2 at hl3 e2 ⊢
   have hdl:ds.length<64:=by
    obtain⟨G,hG,hs⟩:∃G,ds=List.map ch G/\∀c,c∈G->∃w∈ws,w.sign=ch c:=by
     obtain⟨G,rfl⟩:=lN (ss:=ds) fun z hz=>by
      obtain⟨w,hw,rfl⟩:=List.mem_map.mp ((hmem z).mp hz)
      exact nO (ok.ok w hw).sg
     refine⟨G,rfl,fun c hc=>?_⟩
     obtain⟨w,hw,e⟩:=List.mem_map.mp ((hmem (ch c)).mp (List.mem_map.mpr ⟨c,hc,rfl⟩))
     exact⟨w,hw,e⟩
    subst hG
    have hn:(G.map (· - 97)).Nodup:=by
     unfold List.Nodup at hnd ⊢
     rw[List.pairwise_map]at hnd ⊢
     refine hnd.imp_of_mem fun{a b} ha hb hab=>?_
     obtain⟨w,hw,e⟩:=hs a ha
     obtain⟨c,c1,c2,e'⟩:=(ok.ok w hw).sg
     obtain⟨w2,hw2,e2⟩:=hs b hb
     obtain⟨c',c1',c2',e2'⟩:=(ok.ok w2 hw2).sg
     have h1:=fD (e.symm.trans e')
     have h2:=fD (e2.symm.trans e2')
     have h3:a≠b:=fun z=>hab (by rw[z])
     omega
    have:=hn.length_le_of_subset (l₂:=List.range 26) fun x hx=>by
     obtain⟨c,hc,rfl⟩:=List.mem_map.mp hx
     obtain⟨w,hw,e⟩:=hs c hc
     obtain⟨c',c1,c2,e'⟩:=(ok.ok w hw).sg
     have:=fD (e.symm.trans e')
     exact List.mem_range.mpr (by omega)
    rw[EI,List.length_range]at this
    rw[EI]
    omega
   walk_at "rd"
   subst hso
   refine⟨l2,ds,rfl,hl3,hdl,fun l4 ss hl4 hpm hsrt=>?_⟩
   obtain⟨G,rfl,hG⟩:=xR ok hnd hmem hpm hsrt
   have hG26:=hG.few ok
   have hl5:upd H2 l4 (.lst (List.map V.str (List.map ch G))) l4=some (.lst (List.map V.str (List.map ch G))):=aY
   have e4:Ext H2 (upd H2 l4 (.lst (List.map V.str (List.map ch G)))):=bM hl4
   generalize upd H2 l4 (.lst (List.map V.str (List.map ch G)))=H4 at hl5 e4 ⊢
   have e04:=e1.trans (e2.trans e4)
   walk_at "rd"
   refine dU (ag.of hl5) ?_
   refine vC (xs:=List.map V.str (List.map ch G)) (fun i ys H'=>Ext H4 H'/\∃as:List Addr,ys=as.map V.ref/\Paired (gP ws H') as (G.take i)) (bX (by rw[EI,EI];omega)) ⟨Ext.rfl' _,[],rfl,.nil⟩ (fun i ys H' hi h=>⟨ag.of (h.1 _ _ hl5),?_⟩) ?_ ?_
   ·obtain⟨_,as,rfl,hp⟩:=h
    rw[EI,Paired.length hp,List.length_take]
    exact Nat.min_le_left _ _
   ·rintro i x ys H5 hx ⟨e5,as,rfl,hp⟩
    rw[EK,EK]at hx
    obtain⟨z,hz,rfl⟩:=Option.map_eq_some_iff.mp hx
    obtain⟨c,hc,rfl⟩:=Option.map_eq_some_iff.mp hz
    walk_at "rd"
    refine aB ?_
    walk_at "rd"
    refine⟨_,m,ws,ch c,rfl,(hv.ext e04).ext e5,ok,fun wl H6 cs e6 hwl alc=>?_⟩
    walk_at "rd"
    refine⟨ai (by simp),ah fun a H7 e7 ha _=>?_⟩
    refine⟨e5.trans (e6.trans e7),as++[a],by rw[List.map_append];rfl,?_⟩
    rw[List.take_succ,hc]
    exact mV (Paired.mapP hp fun b c' h=>h.ext (e6.trans e7)) ⟨wl,cs,ha,e7 _ _ hwl,alc.ext e7⟩
   ·rintro ys H5 l6 ⟨e5,as,rfl,hp⟩ hl6
    rw[EI,EI,List.take_length]at hp
    exact q l6 _ as G ((e04.trans e5).trans (bM hl6)) aY (Paired.mapP hp fun b c' h=>h.ext (bM hl6)) hG
def bL(ws:List Way)(m q:Int):Nat->List Nat
 | 0=>bz m q
 | k+1=>cb (ws.map Way.turn) (bL ws m q k)
theorem kC(ws:List Way)(m q:Int):∀k,(bL ws m q k).length=m.toNat
 | 0=>dE m q
 | k+1=>by
  show(cb _ _).length=_
  rw[gK,kC ws m q k]
theorem rh{m q:Int}{ws:List Way}(ok:HOuse m ws):∀k,∀b∈bL ws m q k,b<2 ^ (k+1)
 | 0=>by
  intro b hb
  obtain⟨i,_,rfl⟩:=List.mem_map.mp hb
  split<;>decide
 | k+1=>mP (fun w hw=>(ok.turn.ok w hw).dd) (rh ok k)
theorem Cp{b:Bool}{A B:Prop}(h:b=true)(hA:A):if b=true then A else B:=by rw[if_pos h];exact hA
theorem wW{b:Bool}{A B:Prop}(h:¬b=true)(hB:B):if b=true then A else B:=by rw[if_neg h];exact hB
theorem Paired.mapP'{α β:Type}{F G:α->β->Prop}:∀{l₁:List α} {l₂:List β},Paired F l₁ l₂->(∀a b,a∈l₁->F a b->G a b)->Paired G l₁ l₂
 | _,_,.nil,_=>.nil
 | _,_,.cons r t,f=>.cons (f _ _ EO r) (Paired.mapP' t fun a b h=>f a b (EL _ h))
abbrev ma(H:Hp)(a:Addr)(ps:List Nat):Prop:=H a=some (.lst (bh ps))
def mI(K:EE):Sp:=fun vs H Q _=>∃v m ws q n,vs=[v,.int q,.int ((n:Nat):Int)]/\aW H v m ws/\HOuse m ws/\0<=q/\q<m/\n<=24012/\∀l H' as,Ext H H'->H' l=some (.lst (List.map V.ref as))->Paired (ma H') as ((List.range (n+1)).map (bL ws m q))->Q (.ref l) H'
abbrev kE:Stmt:=stq 53
theorem rQ:FnScope ["house","room","length","ways","places","count"] ["house","room","length"] (aG kE):=⟨rfl,rfl,rfl,by decide +kernel,rfl,by decide +kernel,by decide +kernel⟩
theorem yp{P:Program}{w:World}{K:EE}{mg:Str->Option Value}{base:Heap}(D:Dfn K mg "places_to_end" kE ["house","room","length"])(T:Blt mg)(C_led_on:Cal P w K mg base "led_on" 2 ["ways","places"] (jh K))(C_alone_at_zero:Cal P w K mg base "alone_at_zero" 1 ["house","room"] (jB K))(C_turned_about:Cal P w K mg base "turned_about" 7 ["house"] (pT K)):Cal P w K mg base "places_to_end" 8 ["house","room","length"] (mI K):=by
 have nd:=(rQ).nd
 refine D.ok rQ (fun vs H Q E h=>?_) (fun X hX H vs Q E h=>?_)
 ·obtain⟨v,m,ws,q,n,rfl,_⟩:=h;rfl
 ·obtain⟨f,cdv,A,outer,s,H0,E0,rfl,hr⟩:=hX
  obtain⟨v,m,ws,q,n,rfl,hv,ok,q0,q1,hn,qq⟩:=h
  have m1:=ok.m1
  have m2:=ok.m12
  have hfew:=ok.few
  refine⟨_,(ak (aA (i:=3) nd rfl (Or.inl rfl) (ao (ay K) (az C_turned_about hr (aa (pv 0) af)) ae (fun _ _=>rfl)))
    (ak (aA (i:=4) nd rfl (Or.inl rfl) (aQ (aa (az C_alone_at_zero hr (aa (pv 0) (aa (pv 1) af))) af)))
    (ak (bJ PassesOwn.never rfl (dC rfl T.range_ (aa (pv 2) af)) (aR (i:=5) nd rfl (Or.inl rfl)) (ar (bw (bE K ER PySem.F.slot_list_append PySem.F.type_list_append bW (pv 4) (aa (az C_led_on hr (aa (pv 3) (aa (ao (aJ K) (pv 4) (pv 5) (fun _ _=>rfl)) af))) af)))))
    (ar (aC (pv 4)))))),?_⟩
  walk_at "rd"
  refine⟨v,m,ws,rfl,hv,ok,fun u H1 e1 hu=>?_⟩
  obtain⟨hh,t,rfl,g1,g2⟩:=id hu
  obtain⟨bs,g3,al⟩:=cj.al g2
  walk_at "rd"
  refine ax (aj.of g1) (v:=.ref t) rfl ?_
  walk_at "rd"
  refine⟨v,m,ws,q,rfl,hv.ext e1,ok,fun l0 H2 e2 hl0 _=>?_⟩
  walk_at "rd"
  refine⟨ai (by simp),ah fun l H3 e3 hl hln=>?_⟩
  have e13:=e2.trans e3
  have e03:=e1.trans e13
  have hlH:H l=none:=(e1.trans e2).none hln
  have hl1:H1 l=none:=e2.none hln
  walk_at "rd"
  refine dD ⟨by omega,by omega⟩ ?_
  refine forR (fun i σ H'=>∃k as,σ=[some v,some (.int q),some (.int (n:Int)),some (.ref t),some (.ref l),k]/\Ext H H'/\Ext H1 H'/\H' l=some (.lst (List.map V.ref as))/\Paired (ma H') as ((List.range (i+1)).map (bL ws m q))/\∀a∈as,a≠l) ⟨none,[l0],rfl,e03,e13,hl,.cons (e3 _ _ hl0) .nil,fun a ha=>?_⟩ ?_ ?_
  ·rw[List.mem_singleton]at ha
   subst ha
   exact cB hl0 hln
  ·rintro i σ H4 hi ⟨k,as,rfl,e4,e14,hl4,hp,hne⟩
   have hi':i<n:=by simpa using hi
   obtain⟨a,ha,hat⟩:=jk hp (i:=i) (t:=bL ws m q i) (by rw[EK,List.getElem?_range (by omega)];rfl)
   have hlen:=Paired.length hp
   rw[EI,List.length_range]at hlen
   walk_at "rd"
   refine⟨bS (ag.of hl4),?_⟩
   walk_at "rd"
   refine aI (ag.of hl4) (v:=.ref a) ?_ ?_
   ·rw[show (0:Int)+(i:Int)=(i:Int) by omega]
    exact eD (by rw[EK,ha];rfl)
   walk_at "rd"
   refine⟨t,a,bs,_,bL ws m q i,m,rfl,.inr (e14 _ _ g3),al.ext e14,fun w hw=>ok.turn.ok w hw,hat,by rw[kC];omega,m2,fun b hb=>Nat.lt_of_lt_of_le (rh ok i b hb) (Nat.pow_le_pow_right (by decide) (by omega)),by rw[EI];omega,fun l5 H5 e5 hl5 hl5n=>?_⟩
   have hl5':=e5 _ _ hl4
   walk_at "rd"
   refine bQ hl5' (jE (by rw[EI];omega)) ?_
   walk_at "rd"
   have hn5:l5≠l:=fun z=>by rw[z,hl4]at hl5n;cases hl5n
   refine⟨_,as++[l5],rfl,cu (e4.trans e5) hlH,cu (e14.trans e5) hl1,by rw[aY,List.map_append];rfl,?_,fun a' ha'=>?_⟩
   ·rw[List.range_succ,List.map_append]
    refine mV (My.Paired.mapP' hp fun a' ps ha' h=>?_) ?_
    ·show upd _ _ _ a'=_
     rw[aL (hne a' ha')]
     exact e5 _ _ h
    ·show upd _ _ _ l5=_
     rw[aL hn5]
     exact hl5
   ·rcases List.mem_append.mp ha' with z | z
    ·exact hne a' z
    ·rw[List.mem_singleton]at z
     rw[z]
     exact hn5
  ·rintro σ H4 ⟨k,as,rfl,e4,e14,hl4,hp,hne⟩
   rw[Int.toNat_natCast]at hp
   walk_at "rd"
   exact qq l H4 as e4 hl4 hp
abbrev tw(cs:List Nat):Str:=⟨cs.toArray⟩
theorem yU(cs:List Nat)(c:Nat):tw cs++ch c=tw (cs++[c]):=by
 show(⟨cs.toArray ++ #[c]⟩:Str)=⟨(cs++[c]).toArray⟩
 congr 1
 simp
def ee(ws:List Way)(m p:Int)(H:Hp)(a:Addr)(cs:List Nat):Prop:=∃l,H a=some (.tup [.str (tw cs),.ref l])/\H l=some (.lst (bh (cJ ws (bz m p) cs)))
theorem ee.ext{ws:List Way}{m p:Int}{H H':Hp}{a:Addr}{cs:List Nat}(e:Ext H H')(h:ee ws m p H a cs):ee ws m p H' a cs:=by
 obtain⟨l,h1,h2⟩:=h
 exact⟨l,e _ _ h1,e _ _ h2⟩
theorem Bd{m p:Int}{ws:List Way}(ok:HOuse m ws):∀cs:List Nat,∀b∈cJ ws (bz m p) cs,b<2 ^ (cs.length+1):=by
 intro cs
 have:∀k,k<=cs.length->∀b∈cJ ws (bz m p) (cs.take k),b<2 ^ (k+1):=by
  intro k
  induction k with
  | zero=>intro _;exact qc m p
  | succ k ih=>
   intro hk
   have e:cs.take (k+1)=cs.take k++[cs[k]]:=by rw[List.take_succ,EJ (by omega)];rfl
   rw[e,kZ]
   exact mP (fun w hw=>(ok.ok w (kr hw).1).dd) (ih (by omega))
 have:=this cs.length (Nat.le_refl _)
 rwa [List.take_length]at this
def iJ(ws:List Way)(m p:Int)(qs:List Nat)(cs:List Nat):Bool:=fj (cJ ws (bz m p) cs) qs
def cU(ws:List Way)(m p:Int)(G qs:List Nat)(cs:List Nat):List (List Nat):=(G.map fun c=>cs++[c]).filter (iJ ws m p qs)
def cD(ws:List Way)(m p:Int)(G qs:List Nat)(B:List (List Nat)):List (List Nat):=B.flatMap (cU ws m p G qs)
theorem Dc{ws:List Way}{m p:Int}{G qs:List Nat}{cs:List Nat}{j c:Nat}(h:G[j]?=some c):cU ws m p (G.take (j+1)) qs cs=cU ws m p (G.take j) qs cs++(if iJ ws m p qs (cs++[c])=true then[cs++[c]]else[]):=by
 unfold cU
 rw[List.take_succ,h,List.map_append,List.filter_append]
 congr 1
 by_cases e:iJ ws m p qs (cs++[c])=true
 ·rw[if_pos e];simp[e]
 ·rw[if_neg e];simp[e]
theorem sY(ws:List Way)(m p:Int)(G qs:List Nat)(cs:List Nat):(cU ws m p G qs cs).length<=G.length:=by
 unfold cU
 refine Nat.le_trans (List.length_filter_le _ _) ?_
 rw[EI]
 exact Nat.le_refl _
theorem Bj{ws:List Way}{m p:Int}{G qs:List Nat}{B:List (List Nat)}{i:Nat}{cs:List Nat}(h:B[i]?=some cs):cD ws m p G qs (B.take (i+1))=cD ws m p G qs (B.take i)++cU ws m p G qs cs:=by
 unfold cD
 rw[List.take_succ,h,List.flatMap_append]
 simp
theorem sI(ws:List Way)(m p:Int)(G qs:List Nat):∀B:List (List Nat),(cD ws m p G qs B).length<=B.length*G.length
 | []=>Nat.zero_le _
 | b::B=>by
  have e:cD ws m p G qs (b::B)=cU ws m p G qs b++cD ws m p G qs B:=by
   unfold cD
   rw[List.flatMap_cons]
  rw[e,List.length_append,List.length_cons,Nat.add_mul,Nat.one_mul]
  have h1:=sY ws m p G qs b
  have h2:=sI ws m p G qs B
  omega
theorem zk{ws:List Way}{m p:Int}{G qs:List Nat}{B:List (List Nat)}{n:Nat}(h:∀b∈B,b.length=n):∀x∈cD ws m p G qs B,x.length=n+1:=by
 intro x hx
 obtain⟨b,hb,hx⟩:=List.mem_flatMap.mp hx
 obtain⟨c,hc,rfl⟩:=List.mem_map.mp (List.mem_filter.mp hx).1
 rw[List.length_append,h b hb]
 rfl
def sO(K:EE):Sp:=fun vs H Q _=>∃sl bl el ws m p as G bs B qs n,vs=[.ref sl,.ref bl,.ref el]/\HOuse m ws/\H sl=some (.lst (List.map V.ref as))/\Paired (gP ws H) as G/\G.length<=26/\H bl=some (.lst (List.map V.ref bs))/\Paired (ee ws m p H) bs B/\B.length<=300/\(∀b∈B,b.length=n)/\n<=24012/\H el=some (.lst (bh qs))/\qs.length=m.toNat ∧
 ∀l H' cs,Ext H H'->H' l=some (.lst (List.map V.ref cs))->Paired (ee ws m p H') cs (cD ws m p G qs B)->Q (.ref l) H'
theorem Am{n:Nat}(h:n<=100000):n<sizeLine:=Nat.lt_of_le_of_lt h (by decide)
abbrev iZ:Stmt:=stq 54
theorem vw:FnScope ["signs","begun","ends","longer","word","places","sign","ways","led"] ["signs","begun","ends"] (aG iZ):=⟨rfl,rfl,rfl,by decide +kernel,rfl,by decide +kernel,by decide +kernel⟩
theorem xF{P:Program}{w:World}{K:EE}{mg:Str->Option Value}{base:Heap}(D:Dfn K mg "longer_beginnings" iZ ["signs","begun","ends"])(T:Blt mg)(C_share_one:Cal P w K mg base "share_one" 1 ["places","others"] (kn K))(C_led_on:Cal P w K mg base "led_on" 2 ["ways","places"] (jh K)):Cal P w K mg base "longer_beginnings" 3 ["signs","begun","ends"] (sO K):=by
 have nd:=(vw).nd
 refine D.ok vw (fun vs H Q E h=>?_) (fun X hX H vs Q E h=>?_)
 ·obtain⟨sl,bl,el,ws,m,p,as,G,bs,B,qs,n,rfl,_⟩:=h;rfl
 ·obtain⟨f,cdv,A,outer,s,H0,E0,rfl,hr⟩:=hX
  obtain⟨sl,bl,el,ws,m,p,as,G,bs,B,qs,n,rfl,ok,hsl,hG,hG26,hbl,hB,hB3,hBn,hn,hel,hql,q⟩:=h
  have m1:=ok.m1
  have m2:=ok.m12
  have hfew:=ok.few
  have hbsl:=Paired.length hB
  have hasl:=Paired.length hG
  refine⟨_,(ak (aA (i:=3) nd rfl (Or.inl rfl) (aQ af))
    (ak (bJ PassesOwn.never rfl (dH K (pv 1)) (gf (n:=2) K rfl (cq (aR (i:=4) nd rfl (Or.inl rfl)) (cq (aR (i:=5) nd rfl (Or.inl rfl)) fS))) (ar (bJ PassesOwn.never rfl (dH K (pv 0)) (gf (n:=2) K rfl (cq (aR (i:=6) nd rfl (Or.inl rfl)) (cq (aR (i:=7) nd rfl (Or.inl rfl)) fS))) (ak (aA (i:=8) nd rfl (Or.inl rfl) (az C_led_on hr (aa (pv 7) (aa (pv 5) af))))
    (ar (dG (cS (az C_share_one hr (aa (pv 8) (aa (pv 2) af)))) (ar (bw (bE K ER PySem.F.slot_list_append PySem.F.type_list_append bW (pv 3) (aa (aF (aa (aq pQ (pv 4) (pv 6)) (aa (pv 8) af))) af)))) aU))))))
    (ar (aC (pv 3))))),?_⟩
  walk_at "rd"
  refine⟨ai (by simp),ah fun l H1 e1 hl hln=>?_⟩
  walk_at "rd"
  refine dU (ag.of (e1 _ _ hbl)) ?_
  refine forL (xs:=List.map V.ref bs) (fun i σ H'=>∃k1 k2 k3 k4 k5 cs,σ=[some (.ref sl),some (.ref bl),some (.ref el),some (.ref l),k1,k2,k3,k4,k5]/\Ext H H'/\H' l=some (.lst (List.map V.ref cs))/\Paired (ee ws m p (hide H' l)) cs (cD ws m p G qs (B.take i))) ⟨none,none,none,none,none,[],rfl,e1,hl,.nil⟩ (fun i σ H' _ h=>by obtain⟨_,_,_,_,_,_,_,e,_⟩:=h;exact ag.of (e _ _ hbl)) ?_ ?_
  ·rintro i x σ H2 hx ⟨k1,k2,k3,k4,k5,cs,rfl,e2,hl2,hp⟩
   rw[EK]at hx
   obtain⟨b,hb,rfl⟩:=Option.map_eq_some_iff.mp hx
   obtain⟨wd,hwd,pl,hb1,hb2⟩:=iM hB hb
   have hwl:=hBn wd (List.mem_of_getElem? hwd)
   have hi:i<B.length:=(List.getElem?_eq_some_iff.mp hwd).1
   rw[Bj hwd]
   have hle:(cD ws m p G qs (B.take i)).length<=300*26:=by
    refine Nat.le_trans (sI ws m p G qs _) (Nat.mul_le_mul ?_ hG26)
    rw[List.length_take]
    omega
   generalize cD ws m p G qs (B.take i)=L0 at hp hle
   refine gW (aj.of (e2 _ _ hb1)) rfl ?_
   walk_at "rd"
   refine dU (ag.of (e2 _ _ hsl)) ?_
   refine forL (xs:=List.map V.ref as) (fun j σ H'=>∃k3 k4 k5 cs,σ=[some (.ref sl),some (.ref bl),some (.ref el),some (.ref l),some (.str (tw wd)),some (.ref pl),k3,k4,k5]/\Ext H H'/\H' l=some (.lst (List.map V.ref cs))/\Paired (ee ws m p (hide H' l)) cs (L0++cU ws m p (G.take j) qs wd)) ⟨k3,k4,k5,cs,rfl,e2,hl2,by rw[show cU ws m p (List.take 0 G) qs wd=[]from rfl,List.append_nil];exact hp⟩ (fun j σ H' _ h=>by obtain⟨_,_,_,_,_,e,_⟩:=h;exact ag.of (e _ _ hsl)) ?_ ?_
   ·clear hp hl2 e2
    rintro j y σ H3 hy ⟨k3',k4',k5',cs3,rfl,e3,hl3,hp3⟩
    rw[EK]at hy
    obtain⟨a,ha,rfl⟩:=Option.map_eq_some_iff.mp hy
    obtain⟨c,hc,wl,us,ha1,ha2,ha3⟩:=iM hG ha
    have hj:j<G.length:=(List.getElem?_eq_some_iff.mp hc).1
    rw[Dc hc]
    have hlen3:=Paired.length hp3
    have hl1:(cU ws m p (G.take j) qs wd).length<=26:=by
     refine Nat.le_trans (sY ws m p _ qs wd) ?_
     rw[List.length_take]
     omega
    rw[List.length_append]at hlen3
    generalize cU ws m p (G.take j) qs wd=L1 at hp3 hl1 hlen3
    refine gW (aj.of (e3 _ _ ha1)) rfl ?_
    walk_at "rd"
    refine⟨wl,pl,us,_,cJ ws (bz m p) wd,m,rfl,.inl (e3 _ _ ha2),ha3.ext e3,fun w hw=>ok.ok w (kr hw).1,e3 _ _ hb2,by rw[gh,dE];omega,m2,fun b hb=>Nat.lt_of_lt_of_le (Bd ok wd b hb) (Nat.pow_le_pow_right (by decide) (by omega)),Nat.le_trans (List.length_filter_le _ _) hfew,fun ll H4 e4 hll hlln=>?_⟩
    rw[←kZ]at hll
    walk_at "rd"
    refine eV ?_
    walk_at "rd"
    refine⟨ll,el,_,qs,rfl,hll,(e3.trans e4) _ _ hel,by rw[gh,dE,hql],by rw[gh,dE];omega,fun H5 e5=>?_⟩
    have e35:=e4.trans e5
    have e05:=e3.trans e35
    have hl5:=e35 _ _ hl3
    have hp5:Paired (ee ws m p (hide H5 l)) cs3 (L0++L1):=Paired.mapP hp3 fun a' cs' h=>by
     refine h.ext fun a'' o ho=>?_
     unfold hide at ho ⊢
     split at ho
     ·cases ho
     ·rename_i hne
      rw[if_neg hne]
      exact e35 _ _ ho
    rw[←List.append_assoc]
    refine rd_exb ?_
    by_cases hg:iJ ws m p qs (wd++[c])=true
    ·rw[if_pos hg]
     refine Cp hg ?_
     walk_at "rd"
     refine⟨bS (ag.of hl5),?_⟩
     walk_at "rd"
     refine⟨_,_,rfl,rfl,Nat.le_trans (show(tw wd).cps.size+1<=25000 by show wd.toArray.size+1<=25000;rw[EN];omega) (by decide),?_⟩
     rw[yU]
     walk_at "rd"
     refine⟨ai (by simp),ah fun u H6 e6 hu hun=>?_⟩
     have hl6:=e6 _ _ hl5
     walk_at "rd"
     refine bQ hl6 (Am (by rw[EI];omega)) ?_
     walk_at "rd"
     have hul:u≠l:=fun z=>by rw[z,hl5]at hun;cases hun
     have hlll:ll≠l:=fun z=>by rw[z,hl3]at hlln;cases hlln
     refine⟨_,_,_,cs3++[u],rfl,cu (e05.trans e6) hln,by rw[aY,List.map_append];rfl,?_⟩
     have hid:hide (upd H6 l (.lst (List.map V.ref cs3++[.ref u]))) l=hide H6 l:=by
      funext a''
      unfold hide
      split
      ·rfl
      ·rename_i hne
       rw[aL hne]
     rw[hid]
     refine mV (Paired.mapP hp5 fun a' cs' h=>h.ext fun a'' o ho=>?_) ⟨ll,uV hul hu,uV hlll (e6 _ _ (e5 _ _ hll))⟩
     unfold hide at ho ⊢
     split at ho
     ·cases ho
     ·rename_i hne
      rw[if_neg hne]
      exact e6 _ _ ho
    ·rw[if_neg hg,List.append_nil]
     refine wW hg ?_
     walk_at "rd"
     exact⟨_,_,_,cs3,rfl,e05,hl5,hp5⟩
   ·rintro σ H3 ⟨k3',k4',k5',cs3,rfl,e3,hl3,hp3⟩
    rw[EI,hasl,List.take_length]at hp3
    exact⟨_,_,_,_,_,cs3,rfl,e3,hl3,hp3⟩
  ·rintro σ H2 ⟨k1,k2,k3,k4,k5,cs,rfl,e2,hl2,hp⟩
   rw[EI,hbsl,List.take_length]at hp
   walk_at "rd"
   exact q l H2 cs e2 hl2 (Paired.mapP hp fun a b h=>h.ext (Ek _ _))
theorem CZ(xs:List V)(n:Nat):ck xs none (some (n:Int))=xs.take n:=by
 unfold ck
 rw[HT.xi,HT.nS,List.drop_zero,Nat.sub_zero]
 rcases Nat.le_total n xs.length with h | h
 ·rw[Nat.min_eq_left h]
 ·rw[Nat.min_eq_right h,List.take_of_length_le (Nat.le_refl _),List.take_of_length_le h]
theorem AE{α β:Type}{F:α->β->Prop}{as:List α}{bs:List β}(h:Paired F as bs):∀n,Paired F (as.take n) (bs.take n):=by
 induction h with
 | nil=>intro n;rw[List.take_nil,List.take_nil];exact .nil
 | cons h t ih=>
  intro n
  cases n with
  | zero=>exact .nil
  | succ n=>exact .cons h (ih n)
def wB(ws:List Way)(m p q:Int)(G:List Nat)(n k:Nat):Nat->List (List Nat)
 | 0=>[[]]
 | i+1=>(cD ws m p G (bL ws m q (n-1-i)) (wB ws m p q G n k i)).take k
def dm(ws:List Way)(m p q:Int)(G:List Nat)(n k:Nat):List (List Nat):=if fj (bz m p) (bL ws m q n)=true then wB ws m p q G n k n else[]
theorem uM(ws:List Way)(m p q:Int)(G:List Nat)(n k:Nat):∀i,∀b∈wB ws m p q G n k i,b.length=i
 | 0=>by
  intro b hb
  rw[List.mem_singleton.mp hb]
  rfl
 | i+1=>fun b hb=>zk (uM ws m p q G n k i) b (List.mem_of_mem_take hb)
theorem nK(ws:List Way)(m p q:Int)(G:List Nat)(n k:Nat):∀i,(wB ws m p q G n k i).length<=max 1 k
 | 0=>by
  show 1<=max 1 k
  omega
 | i+1=>by
  show(List.take k _).length<=_
  rw[List.length_take]
  omega
theorem qw(ws:List Way)(m p q:Int)(G:List Nat)(n k:Nat):(dm ws m p q G n k).length<=max 1 k:=by
 unfold dm
 split
 ·exact nK ws m p q G n k n
 ·exact Nat.zero_le _
theorem Dy(n:Nat):dQ ((n:Int)-1) (-1) (-1)=n:=by
 unfold dQ
 rw[if_neg (by decide)]
 by_cases h:n=0
 ·subst h;rfl
 ·rw[if_pos (by omega),Int.neg_neg,Int.ediv_one]
  omega
abbrev iW(L:List (List Nat)):List V:=L.map fun cs=>V.str (tw cs)
def mB(K:EE):Sp:=fun vs H Q _=>∃v m ws p q tl ts n k N G,vs=[v,.int p,.ref tl,.int ((n:Nat):Int),.int ((k:Nat):Int)]/\aW H v m ws/\HOuse m ws/\0<=p/\p<m/\0<=q/\q<m/\SigG ws G/\H tl=some (.lst (List.map V.ref ts))/\Paired (ma H) ts ((List.range (N+1)).map (bL ws m q))/\n<=N/\N<=24012/\k<=300 ∧
 ∀l H',Ext H H'->H' l=some (.lst (iW (dm ws m p q G n k)))->Q (.ref l) H'
abbrev kl:Stmt:=stq 55
theorem sH:FnScope ["house","p","to_end","length","many","signs","begun","left"] ["house","p","to_end","length","many"] (aG kl):=⟨rfl,rfl,rfl,by decide +kernel,rfl,by decide +kernel,by decide +kernel⟩
theorem B5{P:Program}{w:World}{K:EE}{mg:Str->Option Value}{base:Heap}(D:Dfn K mg "words_of_length" kl ["house","p","to_end","length","many"])(T:Blt mg)(C_longer_beginnings:Cal P w K mg base "longer_beginnings" 3 ["signs","begun","ends"] (sO K))(C_share_one:Cal P w K mg base "share_one" 1 ["places","others"] (kn K))(C_alone_at_zero:Cal P w K mg base "alone_at_zero" 1 ["house","room"] (jB K))(C_ways_by_sign:Cal P w K mg base "ways_by_sign" 2 ["house"] (qP K)):Cal P w K mg base "words_of_length" 4 ["house","p","to_end","length","many"] (mB K):=by
 have nd:=(sH).nd
 refine D.ok sH (fun vs H Q E h=>?_) (fun X hX H vs Q E h=>?_)
 ·obtain⟨v,m,ws,p,q,tl,ts,n,k,N,G,rfl,_⟩:=h;rfl
 ·obtain⟨f,cdv,A,outer,s,H0,E0,rfl,hr⟩:=hX
  obtain⟨v,m,ws,p,q,tl,ts,n,k,N,G,rfl,hv,ok,p0,p1,q0,q1,hG,htl,hts,hnN,hN,hk,qq⟩:=h
  have m1:=ok.m1
  have m2:=ok.m12
  have hG26:=hG.few ok
  refine⟨_,(ak (aA (i:=5) nd rfl (Or.inl rfl) (az C_ways_by_sign hr (aa (pv 0) af)))
    (ak (aA (i:=6) nd rfl (Or.inl rfl) (aQ (aa (aF (aa av (aa (az C_alone_at_zero hr (aa (pv 0) (aa (pv 1) af))) af))) af)))
    (ak (br (dJ (cS (az C_share_one hr (aa (ao (ay K) (ao (aJ K) (pv 6) ae (fun _ _=>rfl)) ae (fun _ _=>rfl)) (aa (ao (aJ K) (pv 2) (pv 3) (fun _ _=>rfl)) af))))) (ar (aC (aQ af))) aU)
    (ak (bJ PassesOwn.never rfl (xc rfl T.range_ (aa (aq cK (pv 3) ae) (aa (fV ft ae) (aa (fV ft ae) af)))) (aR (i:=7) nd rfl (Or.inl rfl)) (ar (aA (i:=6) nd rfl (Or.inl rfl) (jl (vS K) (az C_longer_beginnings hr (aa (pv 5) (aa (pv 6) (aa (ao (aJ K) (pv 2) (pv 7) (fun _ _=>rfl)) af)))) n9 (gL (pv 4))))))
    (ar (aC (eZ ["word","places"] [] (dH K (pv 6)) (fun _=>(gf (n:=2) K rfl (cq (aR (i:=0) (show(["word","places"]:List Str).Nodup from by decide +kernel) rfl (Or.inl rfl) (Or.inr rfl)) (cq (aR (i:=1) (show(["word","places"]:List Str).Nodup from by decide +kernel) rfl (Or.inl rfl) (Or.inr rfl)) fS)))) (fun _=>eY) (fun _=>(pv 0))))))))),?_⟩
  walk_at "rd"
  refine⟨v,m,ws,rfl,hv,ok,fun sl H1 as G' e1 hsl hsg hG'=>?_⟩
  obtain rfl:=hG.uniq hG'
  walk_at "rd"
  refine⟨v,m,ws,p,rfl,hv.ext e1,ok,fun l0 H2 e2 hl0 _=>?_⟩
  walk_at "rd"
  refine⟨ai (by simp),ah fun b0 H3 e3 hb0 _=>?_⟩
  walk_at "rd"
  refine⟨ai (by simp),ah fun bl H4 e4 hbl _=>?_⟩
  have e14:=e2.trans (e3.trans e4)
  have e04:=e1.trans e14
  have hl04:=(e3.trans e4) _ _ hl0
  have hb04:=e4 _ _ hb0
  obtain⟨tn,htn,htn2⟩:=jk hts (i:=n) (t:=bL ws m q n) (by rw[EK,List.getElem?_range (by omega)];rfl)
  walk_at "rd"
  refine aI (ag.of hbl) (v:=.ref b0) rfl ?_
  walk_at "rd"
  refine ax (aj.of hb04) (v:=.ref l0) rfl ?_
  walk_at "rd"
  refine aI (ag.of (e04 _ _ htl)) (v:=.ref tn) (eD (by rw[EK,htn];rfl)) ?_
  walk_at "rd"
  refine⟨l0,tn,bz m p,bL ws m q n,rfl,hl04,e04 _ _ htn2,by rw[dE,kC],by rw[dE];omega,fun H5 e5=>?_⟩
  refine rd_exb ?_
  have e45:=e4.trans e5
  by_cases hsh:fj (bz m p) (bL ws m q n)=true
  ·rw[hsh]
   refine aw ?_
   walk_at "rd"
   refine CI ⟨⟨by omega,by omega⟩,⟨by decide,by decide⟩,⟨by decide,by decide⟩,by decide⟩ ?_
   rw[Dy]
   refine Eg (fun i σ H'=>∃bl bs x,σ=[some v,some (.int p),some (.ref tl),some (.int (n:Int)),some (.int (k:Int)),some (.ref sl),some (.ref bl),x]/\Ext H H'/\Ext H1 H'/\H' bl=some (.lst (List.map V.ref bs))/\Paired (ee ws m p H') bs (wB ws m p q G n k i)) ⟨bl,[b0],none,rfl,e04.trans e5,e14.trans e5,e5 _ _ hbl,.cons ⟨l0,e5 _ _ hb04,e5 _ _ hl04⟩ .nil⟩ ?_ ?_
   ·rintro i σ H6 hi ⟨bl6,bs,x,rfl,e6,e16,hbl6,hp⟩
    obtain⟨ti,hti,hti2⟩:=jk hts (i:=n-1-i) (t:=bL ws m q (n-1-i)) (by rw[EK,List.getElem?_range (by omega)];rfl)
    have hBl:=nK ws m p q G n k i
    walk_at "rd"
    refine aI (ag.of (e6 _ _ htl)) (v:=.ref ti) ?_ ?_
    ·rw[show (n:Int)-1+(i:Int)*(-1)=((n-1-i:Nat):Int) by omega]
     exact eD (by rw[EK,hti];rfl)
    walk_at "rd"
    refine⟨sl,bl6,ti,ws,m,p,as,G,bs,_,bL ws m q (n-1-i),i,rfl,ok,e16 _ _ hsl,Paired.mapP hsg fun a c h=>h.ext e16,hG26,hbl6,hp,by omega,uM ws m p q G n k i,by omega,e6 _ _ hti2,kC ws m q _,fun l7 H7 cs e7 hl7 hp7=>?_⟩
    walk_at "rd"
    refine oY (ag.of hl7) (ah fun l8 H8 e8 hl8 _=>?_)
    rw[CZ,←List.map_take]at hl8
    have hp8:=AE hp7 k
    exact⟨l8,cs.take k,_,rfl,e6.trans (e7.trans e8),e16.trans (e7.trans e8),hl8,Paired.mapP hp8 fun a c h=>h.ext e8⟩
   ·rintro σ H6 ⟨bl6,bs,x,rfl,e6,e16,hbl6,hp⟩
    have hBl:=nK ws m p q G n k n
    have hlen:=Paired.length hp
    have ew:dm ws m p q G n k=wB ws m p q G n k n:=by
     unfold dm
     rw[if_pos hsh]
    rw[ew]at qq
    generalize wB ws m p q G n k n=B at hp hBl hlen qq
    walk_at "rd"
    refine dU (ag.of hbl6) ?_
    refine vC (xs:=List.map V.ref bs) (fun i ys H'=>H'=H6/\ys=iW (B.take i)) (bX (by rw[EI];omega)) ⟨rfl,rfl⟩ (fun i ys H' hi h=>⟨by rw[h.1];exact ag.of hbl6,by rw[h.2,EI,List.length_take];omega⟩) ?_ ?_
    ·rintro i y ys H7 hy ⟨rfl,rfl⟩
     rw[EK]at hy
     obtain⟨b,hb,rfl⟩:=Option.map_eq_some_iff.mp hy
     obtain⟨wd,hwd,pl,hb1,hb2⟩:=iM hp hb
     refine gW (aj.of hb1) rfl ?_
     walk_at "rd"
     refine aB ?_
     walk_at "rd"
     refine⟨rfl,?_⟩
     rw[List.take_succ,hwd]
     unfold iW
     rw[List.map_append]
     rfl
    ·rintro ys H7 l7 ⟨rfl,rfl⟩ hl7
     rw[EI,hlen,List.take_length]
     exact qq l7 _ (e6.trans (bM hl7)) aY
  ·have ew:dm ws m p q G n k=[]:=by
    unfold dm
    rw[if_neg hsh]
   rw[ew]at qq
   rw[eq_false_of_ne_true hsh]
   refine aB ?_
   walk_at "rd"
   refine⟨ai (by simp),ah fun l6 H6 e6 hl6 _=>?_⟩
   exact qq l6 H6 (e04.trans (e5.trans e6)) hl6
def cm(ws:List Way)(m p q:Int)(G:List Nat)(k:Nat):Nat->List (List Nat)
 | 0=>[]
 | e+1=>if(cm ws m p q G k e).length<k then cm ws m p q G k e++dm ws m p q G e (k-(cm ws m p q G k e).length)else cm ws m p q G k e
theorem pj(ws:List Way)(m p q:Int)(G:List Nat)(k:Nat):∀e,(cm ws m p q G k e).length<=k
 | 0=>Nat.zero_le _
 | e+1=>by
  show(if _ then _ else _:List (List Nat)).length<=k
  have ih:=pj ws m p q G k e
  split
  ·rename_i h
   rw[List.length_append]
   have:=qw ws m p q G e (k-(cm ws m p q G k e).length)
   omega
  ·exact ih
def my(K:EE):Sp:=fun vs H Q E=>∃v p q n k,vs=[v,.int p,.int q,.int n,.int k]/\(gG K H E v p q\/∃m ws,aW H v m ws/\HOuse m ws/\cv m p q/\(((n<0\/40<n\/k<0\/200<k)/\eU K H E "TooGreat")\/(0<=n/\n<=40/\0<=k/\k<=200/\∀l H',Ext H H'->Q (.ref l) H')))
theorem rF(ws:List Way){m:Int}(ok:HOuse m ws):∃G,SigG ws G:=by
 refine⟨(List.range 123).filter fun c=>ws.any fun w=>decide (w.sign=ch c),?_,fun c=>?_⟩
 ·exact List.Pairwise.filter _ (List.pairwise_lt_range)
 ·rw[List.mem_filter,List.mem_range,List.any_eq_true]
  constructor
  ·rintro⟨_,w,hw,h⟩
   exact⟨w,hw,of_decide_eq_true h⟩
  ·rintro⟨w,hw,h⟩
   obtain⟨c',c1,c2,e⟩:=(ok.ok w hw).sg
   have:=fD (h.symm.trans e)
   exact⟨by omega,w,hw,decide_eq_true h⟩
abbrev jD:Stmt:=stq 57
theorem tG:FnScope ["house","p","q","length","many","to_end","words","exact"] ["house","p","q","length","many"] (aG jD):=⟨rfl,rfl,rfl,by decide +kernel,rfl,by decide +kernel,by decide +kernel⟩
theorem Bh{P:Program}{w:World}{K:EE}{mg:Str->Option Value}{base:Heap}(D:Dfn K mg "first_words" jD ["house","p","q","length","many"])(T:Blt mg)(g_MOST_WORDS:∃t,mg "MOST_WORDS" = some (.int 200 t))(g_LONGEST_WORD:∃t,mg "LONGEST_WORD" = some (.int 40 t))(XF:Xf K mg base fI fH)(C_words_of_length:Cal P w K mg base "words_of_length" 4 ["house","p","to_end","length","many"] (mB K))(C_places_to_end:Cal P w K mg base "places_to_end" 8 ["house","room","length"] (mI K))(CX_refuse_bad_rooms:CalX P w K mg base "refuse_bad_rooms" 7 ["house","p","q"] (fA K)):CalX P w K mg base "first_words" 9 ["house","p","q","length","many"] (my K):=by
 have nd:=(tG).nd
 refine D.okX tG (fun vs H Q E h=>?_) (fun f cdv A outer s H vs Q E hr h=>?_)
 ·obtain⟨v,p,q,n,k,rfl,_⟩:=h;rfl
 ·obtain⟨t_MOST_WORDS,c_MOST_WORDS⟩:=g_MOST_WORDS
  obtain⟨t_LONGEST_WORD,c_LONGEST_WORD⟩:=g_LONGEST_WORD
  obtain⟨v,p,q,nn,kk,rfl,hh⟩:=h
  refine⟨_,(ak (bw (iX CX_refuse_bad_rooms hr (aa (pv 0) (aa (pv 1) (aa (pv 2) af)))))
    (ak (br (PW.pt (dn (aM eS (pv 3) ae (aK _)) (dn (aM fg (pv 3) (bU (v:=.int 40) rfl c_LONGEST_WORD ⟨_,rfl⟩) (aK _)) (dn (aM eS (pv 4) ae (aK _)) (dZ (aM fg (pv 4) (bU (v:=.int 200) rfl c_MOST_WORDS ⟨_,rfl⟩) (aK _))))))) (ar (je (XF.own "TooGreat" (by decide +kernel)) PySem.F.excBase_ValueError (aa (xD (bU (v:=.int 40) rfl c_LONGEST_WORD ⟨_,rfl⟩) (bU (v:=.int 200) rfl c_MOST_WORDS ⟨_,rfl⟩)) af))) aU)
    (ak (aA (i:=5) nd rfl (Or.inl rfl) (az C_places_to_end hr (aa (pv 0) (aa (pv 2) (aa (pv 3) af)))))
    (ak (aA (i:=6) nd rfl (Or.inl rfl) (aQ af))
    (ak (pW (bJ PassesOwn.never rfl (dC rfl T.range_ (aa (aq aS (pv 3) ae) af)) (aR (i:=7) nd rfl (Or.inl rfl)) (ar (dG (aM eS (aT (cG K) rfl T.len_ PySem.boot_len (aa (pv 6) af)) (pv 4) (aK _)) (ar (bw (bE K ER PySem.F.slot_list_extend PySem.F.type_list_extend AY (pv 6) (aa (az C_words_of_length hr (aa (pv 0) (aa (pv 1) (aa (pv 5) (aa (pv 7) (aa (aq cK (pv 4) (aT (cG K) rfl T.len_ PySem.boot_len (aa (pv 6) af))) af)))))) af)))) aU))))
    (ar (aC (pv 6)))))))),?_⟩
  walk_at "rd"
  rcases hh with hb | ⟨m,ws,hv,ok,hr,hh⟩
  ·exact hb.go
  refine nG hv ok hr fun H1 e1=>?_
  have p0:=hr.1.1
  have p1:=hr.1.2
  have q0:=hr.2.1
  have q1:=hr.2.2
  rcases hh with⟨hn,r⟩ | ⟨n0,n40,k0,k200,qq⟩
  ·walk_at "rd"
   refine cN (fun h=>?_) (fun h1=>?_)
   rotate_left
   ·walk_at "rd"
    refine cN (fun h=>?_) (fun h2=>?_)
    rotate_left
    ·walk_at "rd"
     refine cN (fun h=>?_) (fun h3=>?_)
     rotate_left
     ·walk_at "rd"
      refine cN (fun h=>?_) (fun h4=>?_)
      rotate_left
      ·simp only[decide_eq_true_eq]at h1 h2 h3 h4
       omega
      all_goals
       walk_at "rd"
       first | refine ⟨by decide +kernel,by decide +kernel,by decide +kernel,?_⟩ | refine ⟨_,rfl,by decide +kernel,by decide +kernel,by decide +kernel,?_⟩
       walk_at "rd"
       first | refine ⟨by decide +kernel,by decide +kernel,by decide +kernel,fun z'=>?_⟩ | refine ⟨_,rfl,by decide +kernel,by decide +kernel,by decide +kernel,fun z'=>?_⟩
       walk_at "rd"
       exact⟨ai (by simp),r H1 e1⟩
     all_goals
      walk_at "rd"
      first | refine ⟨by decide +kernel,by decide +kernel,by decide +kernel,?_⟩ | refine ⟨_,rfl,by decide +kernel,by decide +kernel,by decide +kernel,?_⟩
      walk_at "rd"
      first | refine ⟨by decide +kernel,by decide +kernel,by decide +kernel,fun z'=>?_⟩ | refine ⟨_,rfl,by decide +kernel,by decide +kernel,by decide +kernel,fun z'=>?_⟩
      walk_at "rd"
      exact⟨ai (by simp),r H1 e1⟩
    all_goals
     walk_at "rd"
     first | refine ⟨by decide +kernel,by decide +kernel,by decide +kernel,?_⟩ | refine ⟨_,rfl,by decide +kernel,by decide +kernel,by decide +kernel,?_⟩
     walk_at "rd"
     first | refine ⟨by decide +kernel,by decide +kernel,by decide +kernel,fun z'=>?_⟩ | refine ⟨_,rfl,by decide +kernel,by decide +kernel,by decide +kernel,fun z'=>?_⟩
     walk_at "rd"
     exact⟨ai (by simp),r H1 e1⟩
   all_goals
    walk_at "rd"
    first | refine ⟨by decide +kernel,by decide +kernel,by decide +kernel,?_⟩ | refine ⟨_,rfl,by decide +kernel,by decide +kernel,by decide +kernel,?_⟩
    walk_at "rd"
    first | refine ⟨by decide +kernel,by decide +kernel,by decide +kernel,fun z'=>?_⟩ | refine ⟨_,rfl,by decide +kernel,by decide +kernel,by decide +kernel,fun z'=>?_⟩
    walk_at "rd"
    exact⟨ai (by simp),r H1 e1⟩
  obtain⟨G,hG⟩:=rF ws ok
  obtain⟨n,rfl⟩:∃n:Nat,nn=(n:Int):=⟨nn.toNat,by omega⟩
  obtain⟨k,rfl⟩:∃k:Nat,kk=(k:Int):=⟨kk.toNat,by omega⟩
  have hn:n<=40:=by omega
  have hk:k<=200:=by omega
  walk_at "rd"
  rw[decide_eq_false (show ¬(n:Int)<0 by omega)]
  refine aw ?_
  walk_at "rd"
  rw[decide_eq_false (show ¬(40:Int)<(n:Int) by omega)]
  refine aw ?_
  walk_at "rd"
  rw[decide_eq_false (show ¬(k:Int)<0 by omega)]
  refine aw ?_
  walk_at "rd"
  rw[decide_eq_false (show ¬(200:Int)<(k:Int) by omega)]
  refine aw ?_
  walk_at "rd"
  refine⟨v,m,ws,q,n,rfl,hv.ext e1,ok,q0,q1,by omega,fun tl H2 ts e2 htl hts=>?_⟩
  walk_at "rd"
  refine⟨ai (by simp),ah fun l H3 e3 hl hln=>?_⟩
  have e03:=e1.trans (e2.trans e3)
  have hlH:H l=none:=(e1.trans e2).none hln
  walk_at "rd"
  refine dD ⟨by omega,by omega⟩ ?_
  refine forR (fun i σ H'=>∃x,σ=[some v,some (.int p),some (.int q),some (.int (n:Int)),some (.int (k:Int)),some (.ref tl),some (.ref l),x]/\Ext H H'/\Ext H2 H'/\H' l=some (.lst (iW (cm ws m p q G k i)))) ⟨none,rfl,e03,e3,hl⟩ ?_ ?_
  ·rintro i σ H4 hi ⟨x,rfl,e4,e24,hl4⟩
   have hi':i<=n:=by
    have:i<((n:Int)+1).toNat:=hi
    omega
   have hfl:=pj ws m p q G k i
   walk_at "rd"
   refine eV ?_
   walk_at "rd"
   refine dN (ag.of hl4) ?_
   walk_at "rd"
   rw[EI]
   by_cases hlt:(cm ws m p q G k i).length<k
   ·rw[decide_eq_true (show(((cm ws m p q G k i).length:Nat):Int)<(k:Int) by omega)]
    have ef:cm ws m p q G k (i+1)=cm ws m p q G k i++dm ws m p q G i (k-(cm ws m p q G k i).length):=by
     show(if _ then _ else _)=_
     rw[if_pos hlt]
    have hwl:=qw ws m p q G i (k-(cm ws m p q G k i).length)
    rw[ef]
    generalize hF:cm ws m p q G k i=F at hl4 hfl hlt hwl
    refine aB ?_
    walk_at "rd"
    refine⟨bS (ag.of hl4),?_⟩
    walk_at "rd"
    refine dN (ag.of hl4) ?_
    walk_at "rd"
    rw[EI]
    refine⟨v,m,ws,p,q,tl,ts,i,k-F.length,n,G,?_,hv.ext e4,ok,p0,p1,q0,q1,hG,e24 _ _ htl,Paired.mapP hts fun a c h=>e24 _ _ h,hi',by omega,by omega,fun l5 H5 e5 hl5=>?_⟩
    ·rw[show (0:Int)+(i:Int)=(i:Int) by omega,show (k:Int)-((F.length:Nat):Int)=((k-F.length:Nat):Int) by omega]
     rfl
    have hl5':=e5 _ _ hl4
    walk_at "rd"
    refine⟨l,l5,_,_,rfl,rfl,hl5',hl5,Nat.le_trans (show _<=1000 by rw[EI,EI];omega) (by decide),?_⟩
    walk_at "rd"
    refine⟨_,rfl,cu (e4.trans e5) hlH,cu (e24.trans e5) hln,?_⟩
    rw[aY]
    unfold iW
    rw[List.map_append]
   ·rw[decide_eq_false (show ¬(((cm ws m p q G k i).length:Nat):Int)<(k:Int) by omega)]
    have ef:cm ws m p q G k (i+1)=cm ws m p q G k i:=by
     show(if _ then _ else _)=_
     rw[if_neg hlt]
    rw[ef]
    refine aw ?_
    walk_at "rd"
    exact⟨_,rfl,e4,e24,hl4⟩
  ·rintro σ H4 ⟨x,rfl,e4,e24,hl4⟩
   rw[show ((n:Int)+1).toNat=n+1 by omega]at hl4
   walk_at "rd"
   exact qq l H4 e4
theorem vi{z:Str}{n n':Int}(hz:bu z)(n0:0<=n)(h:bY z n=some n'):bY (cZ z) n'=some n:=by
 rcases hz with rfl | rfl | rfl | rfl
 ·rw[fq]at h
  cases h
  rw[show cZ "up" = "down" by decide +kernel,fC,decide_eq_true (show 0<n+1 by omega),if_pos rfl]
  congr 1;omega
 ·rw[fC]at h
  by_cases hn:0<n
  ·rw[decide_eq_true hn,if_pos rfl]at h
   cases h
   rw[show cZ "down" = "up" by decide +kernel,fq]
   congr 1;omega
  ·rw[decide_eq_false hn]at h
   cases h
 ·rw[fF]at h
  cases h
  rw[show cZ "stay" = "stay" by decide +kernel,fF]
 ·rw[fR]at h
  by_cases hn:n=0
  ·rw[decide_eq_true hn,if_pos rfl]at h
   cases h
   rw[show cZ "zero" = "zero" by decide +kernel,fR,decide_eq_true hn,if_pos rfl]
  ·rw[decide_eq_false hn]at h
   cases h
def vA(us:List Way)(S:Bfs.Pl->Prop)(y:Bfs.Pl):Prop:=∃x,S x/\∃w∈us,w.room=x.1/\bY w.deed x.2=some y.2/\w.other=y.1
theorem BO{m:Int}{us:List Way}(ok:∀w∈us,w.Ok m){ps:List Nat}{S:Bfs.Pl->Prop}(h:BitsAre m ps S):BitsAre m (cb us ps) (vA us S):=by
 refine⟨by rw[gK,h.len],fun o n ho=>?_,?_⟩
 ·unfold cb
  rw[oi _ _ _ (by rw[List.length_replicate,h.len];omega)]
  have hz:(List.replicate ps.length 0).getD o 0=0:=by
   rw[List.getD_eq_getElem?_getD,List.getElem?_replicate]
   split<;>rfl
  rw[hz,Nat.zero_testBit]
  constructor
  ·rintro(h0 | ⟨w,hw,h1,h2⟩)
   ·cases h0
   ·have okw:=ok w hw
    obtain⟨k,hk,hst⟩:=(j6 okw.dd _ _).mp h2
    have hS:=(h.bit w.room.toNat k (by have:=okw.r0;have:=okw.r1;omega)).mp hk
    rw[show ((w.room.toNat:Nat):Int)=w.room by have:=okw.r0;omega]at hS
    exact⟨_,hS,w,hw,rfl,hst,by show w.other=(o:Int);have:=okw.o0;omega⟩
  ·rintro⟨x,hx,w,hw,hr,hst,hoo⟩
   have okw:=ok w hw
   have lx:=h.lo x hx
   refine .inr ⟨w,hw,by show w.other.toNat=o;have hoo:w.other=(o:Int):=hoo;omega,?_⟩
   refine(j6 okw.dd _ _).mpr ⟨x.2.toNat,?_,?_⟩
   ·refine(h.bit w.room.toNat x.2.toNat (by have:=okw.r0;have:=okw.r1;omega)).mpr ?_
    rw[show (((w.room.toNat:Nat):Int),((x.2.toNat:Nat):Int))=x from Prod.ext (by have:=okw.r0;show((w.room.toNat:Nat):Int)=x.1;omega) (by show((x.2.toNat:Nat):Int)=x.2;omega)]
    exact hx
   ·rw[show ((x.2.toNat:Nat):Int)=x.2 by omega]
    exact hst
 ·rintro y ⟨x,hx,w,hw,hr,hst,hoo⟩
  have okw:=ok w hw
  rw[←hoo]
  exact⟨okw.o0,okw.o1,jf okw.dd (h.lo x hx).2.2 hst⟩
theorem rY{a b:Nat}:¬(a &&& b:Nat)=0↔∃n,a.testBit n=true/\b.testBit n=true:=by
 constructor
 ·intro h
  obtain⟨n,hn⟩:=Nat.exists_testBit_of_ne_zero h
  rw[Nat.testBit_and,Bool.and_eq_true]at hn
  exact⟨n,hn⟩
 ·rintro⟨n,h1,h2⟩ h
  have:(a &&& b:Nat).testBit n=true:=by rw[Nat.testBit_and,h1,h2];rfl
  rw[h,Nat.zero_testBit]at this
  cases this
theorem DQ{m:Int}{ps qs:List Nat}{S U:Bfs.Pl->Prop}(h:BitsAre m ps S)(h':BitsAre m qs U):fj ps qs=true↔∃x,S x/\U x:=by
 have key:fj ps qs=true↔∃i:Nat,∃a b,ps[i]?=some a/\qs[i]?=some b/\¬(a &&& b:Nat)=0:=by
  unfold fj
  rw[List.any_eq_true]
  constructor
  ·rintro⟨b,hb,hb1⟩
   obtain⟨i,hi⟩:=List.getElem?_of_mem hb
   rw[List.getElem?_zipWith]at hi
   cases e1:ps[i]? with
   | none=>rw[e1]at hi;cases hi
   | some x=>
    cases e2:qs[i]? with
    | none=>rw[e1,e2]at hi;cases hi
    | some y=>
     rw[e1,e2]at hi
     have hi':(!decide ((x &&& y:Nat)=0))=b:=Option.some.inj hi
     rw[←hi']at hb1
     exact⟨i,x,y,e1,e2,by simpa using hb1⟩
  ·rintro⟨i,x,y,e1,e2,hne⟩
   refine⟨true,List.mem_of_getElem? (i:=i) ?_,rfl⟩
   rw[List.getElem?_zipWith,e1,e2]
   show some (!decide ((x &&& y:Nat)=0))=some true
   rw[decide_eq_false hne]
   rfl
 rw[key]
 have gd:∀{L:List Nat} {i a:Nat},L[i]?=some a->L.getD i 0=a:=fun{L i a} e=>by
  rw[List.getD_eq_getElem?_getD,e]
  rfl
 constructor
 ·rintro⟨i,a,b,e1,e2,hne⟩
  obtain⟨n,n1,n2⟩:=rY.mp hne
  have hi:i<ps.length:=(List.getElem?_eq_some_iff.mp e1).1
  have hl:=h.len
  refine⟨((i:Int),(n:Int)),(h.bit i n (by omega)).mp (by rw[gd e1];exact n1),(h'.bit i n (by omega)).mp (by rw[gd e2];exact n2)⟩
 ·rintro⟨x,hx,hy⟩
  obtain⟨x0,x1,x2⟩:=h.lo x hx
  have ex:(((x.1.toNat:Nat):Int),((x.2.toNat:Nat):Int))=x:=Prod.ext (by show((x.1.toNat:Nat):Int)=x.1;omega) (by show((x.2.toNat:Nat):Int)=x.2;omega)
  have b1:=(h.bit x.1.toNat x.2.toNat (by omega)).mpr (by rw[ex];exact hx)
  have b2:=(h'.bit x.1.toNat x.2.toNat (by omega)).mpr (by rw[ex];exact hy)
  have l1:=h.len
  have l2:=h'.len
  have e1:=EJ (l:=ps) (i:=x.1.toNat) (by omega)
  have e2:=EJ (l:=qs) (i:=x.1.toNat) (by omega)
  rw[gd e1]at b1
  rw[gd e2]at b2
  exact⟨_,_,_,e1,e2,rY.mpr ⟨_,b1,b2⟩⟩
def TE(ws:List Way)(q:Int):Nat->Bfs.Pl->Prop
 | 0=>fun x=>x=(q,0)
 | j+1=>vA (ws.map Way.turn) (TE ws q j)
theorem mF{m:Int}{ws:List Way}(ok:HOuse m ws){q:Int}(q0:0<=q)(q1:q<m):∀j,BitsAre m (bL ws m q j) (TE ws q j)
 | 0=>tV q0 q1
 | j+1=>BO (fun w hw=>ok.turn.ok w hw) (mF ok q0 q1 j)
theorem lA{m:Int}{ws:List Way}(ok:HOuse m ws){q:Int}(q0:0<=q)(q1:q<m){j:Nat}{x:Bfs.Pl}(x0:0<=x.2):TE ws q (j+1) x↔∃y,TE ws q j y/\∃w∈ws,w.room=x.1/\bY w.deed x.2=some y.2/\w.other=y.1:=by
 constructor
 ·rintro⟨y,hy,u,hu,h1,h2,h3⟩
  obtain⟨w,hw,rfl⟩:=List.mem_map.mp hu
  have okw:=ok.ok w hw
  have hy0:=((mF ok q0 q1 j).lo y hy).2.2
  have:=vi okw.turn.dd hy0 h2
  rw[show cZ (Way.turn w).deed=w.deed from uQ okw.dd]at this
  exact⟨y,hy,w,hw,h3,this,h1⟩
 ·rintro⟨y,hy,w,hw,h1,h2,h3⟩
  exact⟨y,hy,w.turn,List.mem_map.mpr ⟨w,hw,rfl⟩,h3,vi (ok.ok w hw).dd x0 h2,h1⟩
abbrev bN(ws:List Way)(m p q:Int)(j:Nat)(cs:List Nat):Bool:=iJ ws m p (bL ws m q j) cs
abbrev RP(ws:List Way)(p:Int)(cs:List Nat):Bfs.Pl->Prop:=Rs ws (fun x=>x=(p,0)) cs
section
variable {m p q:Int} {ws:List Way} (ok:HOuse m ws) (p0:0<=p) (p1:p<m) (q0:0<=q) (q1:q<m)
include ok p0 p1 q0 q1
theorem iN(j:Nat)(cs:List Nat):bN ws m p q j cs=true↔∃x,RP ws p cs x/\TE ws q j x:=DQ (lF ok p0 p1 cs) (mF ok q0 q1 j)
theorem uX{j:Nat}{cs:List Nat}{c:Nat}(h:bN ws m p q j (cs++[c])=true):bN ws m p q (j+1) cs=true:=by
 obtain⟨y,hy,ht⟩:=(iN ok p0 p1 q0 q1 _ _).mp h
 unfold RP at hy
 rw[ng]at hy
 obtain⟨x,hx,w,hw,hs,hr,hst,ho⟩:=hy
 exact(iN ok p0 p1 q0 q1 _ _).mpr ⟨x,hx,(lA ok q0 q1 ((lF ok p0 p1 cs).lo x hx).2.2).mpr ⟨y,ht,w,hw,hr,hst,ho⟩⟩
theorem rJ{G:List Nat}(hG:SigG ws G){j:Nat}{cs:List Nat}(h:bN ws m p q (j+1) cs=true):∃c∈G,bN ws m p q j (cs++[c])=true:=by
 obtain⟨x,hx,ht⟩:=(iN ok p0 p1 q0 q1 _ _).mp h
 obtain⟨y,hy,w,hw,hr,hst,ho⟩:=(lA ok q0 q1 ((lF ok p0 p1 cs).lo x hx).2.2).mp ht
 obtain⟨c,hc⟩:=nO (ok.ok w hw).sg
 refine⟨c,(hG.mem c).mpr ⟨w,hw,hc⟩,(iN ok p0 p1 q0 q1 _ _).mpr ⟨y,?_,hy⟩⟩
 unfold RP
 rw[ng]
 exact⟨x,hx,w,hw,hc,hr,hst,ho⟩
end
def cW(G:List Nat):Nat->List (List Nat)
 | 0=>[[]]
 | n+1=>(cW G n).flatMap fun cs=>G.map fun c=>cs++[c]
theorem oV{α β:Type}{f:α->List β}{P:α->Bool}{R:β->Bool}(h:∀a,∀b∈f a,R b=true->P a=true):∀L:List α,(L.flatMap f).filter R=(L.filter P).flatMap fun a=>(f a).filter R
 | []=>rfl
 | a::L=>by
  rw[List.flatMap_cons,List.filter_append,oV h L]
  cases e:P a with
  | true=>rw[List.filter_cons_of_pos e,List.flatMap_cons]
  | false=>
   rw[List.filter_cons_of_neg (by rw[e];exact Bool.false_ne_true)]
   have:(f a).filter R=[]:=List.filter_eq_nil_iff.mpr fun b hb hr=>by
    rw[h a b hb hr]at e
    cases e
   rw[this,List.nil_append]
theorem wb{α β:Type}{f:α->List β}:∀(k:Nat) (L:List α),(∀a∈L,f a≠[])->((L.take k).flatMap f).take k=(L.flatMap f).take k
 | 0,L,_=>by rw[List.take_zero,List.take_zero]
 | k+1,[],_=>rfl
 | k+1,a::L,h=>by
  rw[List.take_succ_cons,List.flatMap_cons,List.flatMap_cons]
  have ha:f a≠[]:=h a EO
  have hl:1<=(f a).length:=List.length_pos_iff.mpr ha
  rw[List.take_append,List.take_append]
  congr 1
  have h1:=wb k L fun b hb=>h b (EL _ hb)
  have h2:k+1-(f a).length<=k:=by omega
  have:=congrArg (List.take (k+1-(f a).length)) h1
  rw[List.take_take,List.take_take,Nat.min_eq_left h2]at this
  exact this
section
variable {m p q:Int} {ws:List Way} (ok:HOuse m ws) (p0:0<=p) (p1:p<m) (q0:0<=q) (q1:q<m)
include ok p0 p1 q0 q1
theorem B2{G:List Nat}(i j:Nat):(cW G (i+1)).filter (bN ws m p q j)=cD ws m p G (bL ws m q j) ((cW G i).filter (bN ws m p q (j+1))):=by
 show((cW G i).flatMap _).filter _=_
 rw[oV (P:=bN ws m p q (j+1)) (fun a b hb hr=>?_)]
 ·rfl
 ·obtain⟨c,hc,rfl⟩:=List.mem_map.mp hb
  exact uX ok p0 p1 q0 q1 hr
theorem q9{G:List Nat}(hG:SigG ws G){n k:Nat}(hk:1<=k)(hsh:fj (bz m p) (bL ws m q n)=true):∀i,i<=n->wB ws m p q G n k i=((cW G i).filter (bN ws m p q (n-i))).take k
 | 0,_=>by
  have:bN ws m p q n []=true:=hsh
  show[[]]=(([[]]:List (List Nat)).filter (bN ws m p q n)).take k
  rw[List.filter_cons_of_pos this]
  cases k with
  | zero=>exact absurd hk (by decide)
  | succ k=>rw[List.filter_nil,List.take_succ_cons,List.take_nil]
 | i+1,hi=>by
  show(cD ws m p G (bL ws m q (n-1-i)) (wB ws m p q G n k i)).take k=_
  rw[q9 hG hk hsh i (by omega),show n-(i+1)=n-1-i by omega,B2 ok p0 p1 q0 q1 i (n-1-i),show n-i=n-1-i+1 by omega]
  refine wb k _ fun a ha=>?_
  obtain⟨c,hc,hcc⟩:=rJ ok p0 p1 q0 q1 hG (List.mem_filter.mp ha).2
  intro z
  have:a++[c]∈cU ws m p G (bL ws m q (n-1-i)) a:=List.mem_filter.mpr ⟨List.mem_map.mpr ⟨c,hc,rfl⟩,hcc⟩
  rw[z]at this
  cases this
theorem qX{n:Nat}:∀{i:Nat} {cs:List Nat} {j:Nat},cs.length=i->bN ws m p q j cs=true->bN ws m p q (i+j) []=true
 | 0,cs,j,hl,h=>by
  rw[List.length_eq_zero_iff]at hl
  subst hl
  rw[Nat.zero_add]
  exact h
 | i+1,cs,j,hl,h=>by
  have hne:cs≠[]:=by
   rintro rfl
   cases hl
  have e:=List.dropLast_concat_getLast hne
  rw[←e]at h
  have:=qX (n:=n) (i:=i) (by rw[List.length_dropLast,hl];rfl) (uX ok p0 p1 q0 q1 h)
  rwa [show i+1+j=i+(j+1) by omega]
theorem o8{G:List Nat}:∀(n:Nat),∀b∈cW G n,b.length=n
 | 0=>fun b hb=>by rw[List.mem_singleton.mp hb];rfl
 | n+1=>fun b hb=>by
  obtain⟨a,ha,hb⟩:=List.mem_flatMap.mp hb
  obtain⟨c,hc,rfl⟩:=List.mem_map.mp hb
  rw[List.length_append,o8 n a ha]
  rfl
theorem Bi{G:List Nat}(hG:SigG ws G){n k:Nat}(hk:1<=k):dm ws m p q G n k=((cW G n).filter (bN ws m p q 0)).take k:=by
 unfold dm
 split
 ·rename_i h
  rw[q9 ok p0 p1 q0 q1 hG hk h n (Nat.le_refl _),Nat.sub_self]
 ·rename_i h
  have:(cW G n).filter (bN ws m p q 0)=[]:=List.filter_eq_nil_iff.mpr fun b hb hr=>h (by
   have:=qX (n:=n) ok p0 p1 q0 q1 (o8 ok p0 p1 q0 q1 n b hb) hr
   exact this)
  rw[this,List.take_nil]
end
theorem wM{m p q:Int}{ws:List Way}(ok:HOuse m ws)(q0:0<=q)(q1:q<m){T:Int}(p0:0<=p)(p1:p<m):∀(n j:Nat) (x:Bfs.Pl),Bfs.Wk (bZ ws T) (p,0) n x->0<=x.2/\(TE ws q j x->TE ws q (n+j) (p,0)):=by
 intro n
 induction n with
 | zero=>
  intro j x h
  cases h
  exact⟨Int.le_refl 0,fun h=>by rw[Nat.zero_add];exact h⟩
 | succ n ih=>
  intro j y h
  cases h with
  | succ hx hk=>
   rename_i x k
   obtain⟨w,hw,hr,hst,ho,_⟩:=kQ hk
   obtain⟨x0,ih'⟩:=ih (j+1) x hx
   have hwm:=List.mem_of_getElem? hw
   refine⟨jf (ok.ok w hwm).dd x0 hst,fun ht=>?_⟩
   have:=ih' ((lA ok q0 q1 x0).mpr ⟨y,ht,w,hwm,hr,hst,ho.symm⟩)
   rwa [show n+1+j=n+(j+1) by omega]
section
variable {m p q:Int} {ws:List Way} (ok:HOuse m ws) (p0:0<=p) (p1:p<m) (q0:0<=q) (q1:q<m)
include ok p0 p1 q0 q1
theorem qx{G:List Nat}(hG:SigG ws G):∀(j i:Nat) (cs:List Nat),cs∈cW G i->bN ws m p q j cs=true->∃cs',cs'∈cW G (i+j)/\bN ws m p q 0 cs'=true
 | 0,i,cs,h,hc=>⟨cs,h,hc⟩
 | j+1,i,cs,h,hc=>by
  obtain⟨c,hcG,hcc⟩:=rJ ok p0 p1 q0 q1 hG hc
  have:=qx hG j (i+1) (cs++[c]) (List.mem_flatMap.mpr ⟨cs,h,List.mem_map.mpr ⟨c,hcG,rfl⟩⟩) hcc
  rwa [show i+(j+1)=i+1+j by omega]
theorem DK{G:List Nat}(hG:SigG ws G){T:Int}{n:Nat}(h:Bfs.Wk (bZ ws T) (p,0) n (q,0)):∃cs,dm ws m p q G n 1=[cs]/\((cW G n).filter (bN ws m p q 0))[0]?=some cs:=by
 have ht:TE ws q n (p,0):=by
  have:=(wM ok q0 q1 p0 p1 n 0 (q,0) h).2 rfl
  rwa [Nat.add_zero]at this
 have hc:bN ws m p q n []=true:=(iN ok p0 p1 q0 q1 n []).mpr ⟨(p,0),rfl,ht⟩
 obtain⟨cs,h1,h2⟩:=qx ok p0 p1 q0 q1 hG n 0 [] (List.mem_singleton.mpr rfl) hc
 rw[Nat.zero_add]at h1
 have hm:cs∈(cW G n).filter (bN ws m p q 0):=List.mem_filter.mpr ⟨h1,h2⟩
 rw[Bi ok p0 p1 q0 q1 hG (Nat.le_refl 1)]
 cases e:(cW G n).filter (bN ws m p q 0)with
 | nil=>rw[e]at hm;cases hm
 | cons a L=>exact⟨a,rfl,rfl⟩
end
def nY(K:EE):Sp:=fun vs H Q E=>∃v p q,vs=[v,.int p,.int q]/\(gG K H E v p q\/∃m ws,aW H v m ws/\HOuse m ws/\cv m p q/\∀u H',Ext H H'->Q u H')
abbrev kF:Stmt:=stq 56
theorem qh:FnScope ["house","p","q","walk","to_end"] ["house","p","q"] (aG kF):=⟨rfl,rfl,rfl,by decide +kernel,rfl,by decide +kernel,by decide +kernel⟩
theorem xa{P:Program}{w:World}{K:EE}{mg:Str->Option Value}{base:Heap}(D:Dfn K mg "first_word" kF ["house","p","q"])(T:Blt mg)(C_words_of_length:Cal P w K mg base "words_of_length" 4 ["house","p","to_end","length","many"] (mB K))(C_places_to_end:Cal P w K mg base "places_to_end" 8 ["house","room","length"] (mI K))(C_shortest:Cal P w K mg base "shortest" 7 ["house","place","goal"] (tL K))(CX_refuse_bad_rooms:CalX P w K mg base "refuse_bad_rooms" 7 ["house","p","q"] (fA K)):CalX P w K mg base "first_word" 9 ["house","p","q"] (nY K):=by
 have nd:=(qh).nd
 refine D.okX qh (fun vs H Q E h=>?_) (fun f cdv A outer s H vs Q E hr h=>?_)
 ·obtain⟨v,p,q,rfl,_⟩:=h;rfl
 ·obtain⟨v,p,q,rfl,hh⟩:=h
  refine⟨_,(ak (bw (iX CX_refuse_bad_rooms hr (aa (pv 0) (aa (pv 1) (aa (pv 2) af)))))
    (ak (aA (i:=3) nd rfl (Or.inl rfl) (az C_shortest hr (aa (pv 0) (aa (aF (aa (pv 1) (aa ae af))) (aa (aF (aa (pv 2) (aa ae af))) af)))))
    (ak (br (aM Ay (pv 3) fm (aK _)) (ar (aC fm)) aU)
    (ak (aA (i:=4) nd rfl (Or.inl rfl) (az C_places_to_end hr (aa (pv 0) (aa (pv 2) (aa (aT (cG K) rfl T.len_ PySem.boot_len (aa (pv 3) af)) af)))))
    (ar (aC (ao (aJ K) (az C_words_of_length hr (aa (pv 0) (aa (pv 1) (aa (pv 4) (aa (aT (cG K) rfl T.len_ PySem.boot_len (aa (pv 3) af)) (aa ae af)))))) ae (fun _ _=>rfl)))))))),?_⟩
  walk_at "rd"
  rcases hh with hb | ⟨m,ws,hv,ok,hr,qq⟩
  ·exact hb.go
  obtain⟨G,hG⟩:=rF ws ok
  have p0:=hr.1.1
  have p1:=hr.1.2
  have q0:=hr.2.1
  have q1:=hr.2.2
  refine nG hv ok hr fun H1 e1=>?_
  walk_at "rd"
  refine⟨ai (by simp),ah fun pa H2 e2 hpa _=>?_⟩
  walk_at "rd"
  refine⟨ai (by simp),ah fun ga H3 e3 hga _=>?_⟩
  have e03:=e1.trans (e2.trans e3)
  walk_at "rd"
  refine⟨v,m,ws,pa,ga,(p,0),(q,0),rfl,hv.ext e03,ok,e3 _ _ hpa,hga,⟨p0,p1,Int.le_refl 0,show (0:Int)<=1000 by decide⟩,⟨q0,q1,Int.le_refl 0,show (0:Int)<=1000 by decide⟩,fun hno H4 e4=>?_,fun n l H4 ks hd hn e4 _ hl hkl _=>?_⟩
  ·walk_at "rd"
   refine⟨rfl,true,rfl,?_⟩
   refine aB ?_
   walk_at "rd"
   exact qq _ H4 (e03.trans e4)
  ·obtain⟨cs,hw1,hcs⟩:=DK ok p0 p1 q0 q1 hG hd.1
   walk_at "rd"
   refine⟨rfl,false,rfl,?_⟩
   refine aw ?_
   have e04:=e03.trans e4
   walk_at "rd"
   refine dN (ag.of hl) ?_
   walk_at "rd"
   rw[EI,hkl]
   refine⟨v,m,ws,q,n,rfl,hv.ext e04,ok,q0,q1,hn,fun tl H5 ts e5 htl hts=>?_⟩
   walk_at "rd"
   refine dN (ag.of (e5 _ _ hl)) ?_
   walk_at "rd"
   rw[EI,hkl]
   refine⟨v,m,ws,p,q,tl,ts,n,1,n,G,rfl,(hv.ext e04).ext e5,ok,p0,p1,q0,q1,hG,htl,hts,Nat.le_refl _,hn,by decide,fun l6 H6 e6 hl6=>?_⟩
   rw[hw1]at hl6
   walk_at "rd"
   refine aI (ag.of hl6) (v:=.str (tw cs)) rfl ?_
   exact qq _ H6 (e04.trans (e5.trans e6))
local macro_rules | `(tactic| walk_at "ds") => do
 let ts ← ("cons nil tup lst c var un U CB".splitOn " ").toArray.mapM fun n =>
  let i := Lean.mkIdent (.mkSimple ("rd_" ++ n))
  if n == "var" then `(tacticSeq| ((with_reducible apply $i); (exact rfl)))
  else `(tacticSeq| with_reducible refine $i ?_)
 `(tactic| repeat (first $[| $ts]* | dsimp only))
def cY(H:Hp)(xs:List V):Prop:=∀x∈xs,dh H x
theorem cY.nil(H:Hp):cY H []:=fun x hx=>by cases hx
theorem cY.cons{H:Hp}{x:V}{xs:List V}(h:dh H x)(h':cY H xs):cY H (x::xs):=fun y hy=>by
 rcases List.mem_cons.mp hy with rfl | hy
 ·exact h
 ·exact h' y hy
theorem cY.ext{H H':Hp}{xs:List V}(e:Ext H H')(h:cY H xs):cY H' xs:=fun x hx=>(h x hx).ext e
theorem cY.app{H:Hp}{xs ys:List V}(h:cY H xs)(h':cY H ys):cY H (xs++ys):=fun x hx=>(List.mem_append.mp hx).elim (h x) (h' x)
def fi(H:Hp)(p:Addr)(n:Nat):Prop:=∃xs,H p=some (.lst xs)/\xs.length=n/\cY H xs
theorem fi.ext{H H':Hp}{p:Addr}{n:Nat}(e:Ext H H')(h:fi H p n):fi H' p n:=by
 obtain⟨xs,h1,h2,h3⟩:=h
 exact⟨xs,e _ _ h1,h2,h3.ext e⟩
def iE(H:Hp)(m:Int)(v:V):Prop:=bf H 2 v/\bB H m v=false
theorem iE.ext{H H':Hp}{m:Int}{v:V}(e:Ext H H')(h:iE H m v):iE H' m v:=⟨h.1.ext e,(jU e h.1).trans h.2⟩
def cX(H:Hp)(m:Int)(xs:List V):Prop:=∀x∈xs,iE H m x
theorem cX.nil(H:Hp)(m:Int):cX H m []:=fun x hx=>by cases hx
theorem cX.cons{H:Hp}{m:Int}{x:V}{xs:List V}(h:iE H m x)(h':cX H m xs):cX H m (x::xs):=fun y hy=>by
 rcases List.mem_cons.mp hy with rfl | hy
 ·exact h
 ·exact h' y hy
theorem cX.ext{H H':Hp}{m:Int}{xs:List V}(e:Ext H H')(h:cX H m xs):cX H' m xs:=fun x hx=>(h x hx).ext e
theorem cX.app{H:Hp}{m:Int}{xs ys:List V}(h:cX H m xs)(h':cX H m ys):cX H m (xs++ys):=fun x hx=>(List.mem_append.mp hx).elim (h x) (h' x)
def gD(H:Hp)(m:Int)(p:Addr)(n:Nat):Prop:=∃xs,H p=some (.lst xs)/\xs.length=n/\cX H m xs
theorem gD.ext{H H':Hp}{m:Int}{p:Addr}{n:Nat}(e:Ext H H')(h:gD H m p n):gD H' m p n:=by
 obtain⟨xs,h1,h2,h3⟩:=h
 exact⟨xs,e _ _ h1,h2,h3.ext e⟩
theorem xA{H:Hp}{p:Addr}{xs:List V}(h:H p=some (.lst xs)):cz H (.ref p)=false:=by
 unfold cz
 dsimp only
 rw[h]
theorem wJ{H:Hp}{m:Int}{p:Addr}{xs:List V}(h:H p=some (.lst xs)):dA H m (.ref p)=false:=by
 unfold dA
 dsimp only
 rw[h]
theorem CB{H:Hp}{m:Int}{p:Addr}{xs:List V}(h:H p=some (.lst xs)):bB H m (.ref p)=false:=by
 unfold bB
 dsimp only
 rw[h]
theorem fu{H:Hp}{m:Int}{q:V}(h:dA H m q=false):dk H [.int m,q]=false:=by
 unfold dk
 dsimp only
 rw[h,Bool.and_false,Bool.and_false]
theorem wm{H:Hp}{m:Int}{q:V}(h:m<1\/12<m):dk H [.int m,q]=false:=by
 unfold dk
 dsimp only
 rcases h with h | h
 ·rw[decide_eq_false (show ¬1<=m by omega)]
  rfl
 ·rw[decide_eq_false (show ¬m<=12 by omega),Bool.false_and,Bool.and_false]
theorem zM{H:Hp}{m:Int}{x y:V}(h:cw H x=cw H y):eh H m [x,y]=false:=by
 unfold eh
 have:¬([x,y].map (cw H)).Nodup:=by
  rw[List.map_cons,List.map_cons,List.map_nil,List.nodup_cons]
  exact fun z=>z.1 (by rw[h];exact List.mem_singleton.mpr rfl)
 rw[decide_eq_false this,Bool.and_false,Bool.and_false]
def qg(K:EE):Sp:=fun vs H Q _=>∃v m ws k c,vs=[.int k,v,.int c]/\0<=k/\k<26/\0<=c/\aW H v m ws/\HOuse m ws/\∀x H',Ext H H'->dh H' x->Q x H'
abbrev kW:Stmt:=stq 69
theorem rA:FnScope ["_law_way","_law_house_here","_law_cell_here","_law_many","_law_ways","_law_at","_law_some"] ["_law_way","_law_house_here","_law_cell_here"] (aG kW):=⟨rfl,rfl,rfl,by decide +kernel,rfl,by decide +kernel,by decide +kernel⟩
theorem As{P:Program}{w:World}{K:EE}{mg:Str->Option Value}{base:Heap}(D:Dfn K mg "_law_bad" kW ["_law_way","_law_house_here","_law_cell_here"])(T:Blt mg):Cal P w K mg base "_law_bad" 1 ["_law_way","_law_house_here","_law_cell_here"] (qg K):=by
 have nd:=(rA).nd
 refine D.ok rA (fun vs H Q E h=>?_) (fun X hX H vs Q E h=>?_)
 ·obtain⟨v,m,ws,k,c,rfl,_⟩:=h;rfl
 ·obtain⟨f,cdv,A,outer,s,H0,E0,rfl,hr⟩:=hX
  obtain⟨v,m,ws,k,c,rfl,hk0,hk26,hc0,hv,ok,q⟩:=h
  obtain⟨p,r,bs,rfl,h1,h2,hbl,hal,hts⟩:=sd hv ok
  have m1:=ok.m1
  have m2:=ok.m12
  have hfew:=ok.few
  have hxl:(bs.map V.ref).length<=100:=by rw[EI,hbl];exact hfew
  have hbl1:bs.length<=100:=by rw[hbl];exact hfew
  have tr:bf H 2 (.ref r):=aV h2 (Nat.le_trans hxl (by decide)) hts
  refine⟨_,(@ak _ _ _ _ _ (@mh _ _ _ _ _ _ (pv 1) (gf (n:=2) K rfl (cq (aR (i:=3) nd rfl (Or.inl rfl)) (cq (aR (i:=4) nd rfl (Or.inl rfl)) fS))) rfl rfl rfl)
    (@ak _ _ _ _ _ (@br _ _ _ _ _ _ _ _ (aM fg (pv 0) ae (aK _)) (@ak _ _ _ _ _ (@aA _ _ 5 _ _ _ _ nd rfl (Or.inl rfl) (aq bP (pv 2) (aq aS (aT (cG K) rfl T.len_ PySem.boot_len (@aa _ _ _ _ _ (pv 4) af rfl)) ae)) rfl (Or.inl rfl))
    (@ak _ _ _ _ _ (@aA _ _ 6 _ _ _ _ nd rfl (Or.inl rfl) (@aQ _ _ _ _ (@aa _ _ _ _ _ fm (@aa _ _ _ _ _ (@aF _ _ _ _ _ (@aa _ _ _ _ _ ae (@aa _ _ _ _ _ av (@aa _ _ _ _ _ (pv 3) (@aa _ _ _ _ _ av af rfl) rfl) rfl) rfl)) (@aa _ _ _ _ _ (@aF _ _ _ _ _ (@aa _ _ _ _ _ (pv 3) (@aa _ _ _ _ _ av (@aa _ _ _ _ _ ae (@aa _ _ _ _ _ av af rfl) rfl) rfl) rfl)) (@aa _ _ _ _ _ (@aF _ _ _ _ _ (@aa _ _ _ _ _ ae (@aa _ _ _ _ _ av (@aa _ _ _ _ _ ae (@aa _ _ _ _ _ av af rfl) rfl) rfl) rfl)) (@aa _ _ _ _ _ (@aF _ _ _ _ _ (@aa _ _ _ _ _ ae (@aa _ _ _ _ _ av (@aa _ _ _ _ _ ae (@aa _ _ _ _ _ av af rfl) rfl) rfl) rfl)) af rfl) rfl) rfl) rfl) rfl)) rfl (Or.inl rfl))
    (@ak _ _ _ _ _ (@aA _ _ 6 _ _ _ _ nd rfl (Or.inl rfl) (aq gq (pv 6) (@aQ _ _ _ _ (@aa _ _ _ _ _ (@aQ _ _ _ _ (@aa _ _ _ _ _ ae (@aa _ _ _ _ _ av (@aa _ _ _ _ _ ae (@aa _ _ _ _ _ av af rfl) rfl) rfl) rfl)) (@aa _ _ _ _ _ (@aF _ _ _ _ _ (@aa _ _ _ _ _ ae (@aa _ _ _ _ _ av (@aa _ _ _ _ _ ae (@aa _ _ _ _ _ av af rfl) rfl) rfl) rfl)) (@aa _ _ _ _ _ (@aF _ _ _ _ _ (@aa _ _ _ _ _ ae (@aa _ _ _ _ _ av (@aa _ _ _ _ _ cn (@aa _ _ _ _ _ av af rfl) rfl) rfl) rfl)) (@aa _ _ _ _ _ (@aF _ _ _ _ _ (@aa _ _ _ _ _ ae (@aa _ _ _ _ _ av (@aa _ _ _ _ _ ae af rfl) rfl) rfl)) (@aa _ _ _ _ _ (@aF _ _ _ _ _ (@aa _ _ _ _ _ (fV ft ae) (@aa _ _ _ _ _ av (@aa _ _ _ _ _ ae (@aa _ _ _ _ _ av af rfl) rfl) rfl) rfl)) af rfl) rfl) rfl) rfl) rfl))) rfl (Or.inl rfl))
    (@ar _ _ _ (@aC _ _ _ _ (@aF _ _ _ _ _ (@aa _ _ _ _ _ (pv 3) (@aa _ _ _ _ _ (aq lu (aq lu (jl vV (pv 4) n9 (gL (pv 5))) (@aF _ _ _ _ _ (@aa _ _ _ _ _ (@ao _ _ _ _ _ _ _ (aJ K) (pv 6) (aq cK (pv 0) ae) (fun _ _=>rfl)) af rfl))) (jl vV (pv 4) (gL (pv 5)) n9)) af rfl) rfl))))))) aU)
    (@ak _ _ _ _ _ (@aA _ _ 6 _ _ _ _ nd rfl (Or.inl rfl) (@aQ _ _ _ _ (@aa _ _ _ _ _ fm (@aa _ _ _ _ _ ae (@aa _ _ _ _ _ av (@aa _ _ _ _ _ (@aF _ _ _ _ _ af) (@aa _ _ _ _ _ (@aF _ _ _ _ _ (@aa _ _ _ _ _ (pv 3) af rfl)) (@aa _ _ _ _ _ (@aQ _ _ _ _ (@aa _ _ _ _ _ (pv 3) (@aa _ _ _ _ _ (pv 4) af rfl) rfl)) (@aa _ _ _ _ _ (@aF _ _ _ _ _ (@aa _ _ _ _ _ (pv 3) (@aa _ _ _ _ _ (gm (xx K) rfl T.list_ PyProof.Rows.boot_list (@aa _ _ _ _ _ (pv 4) af rfl)) af rfl) rfl)) (@eR _ _ _ _ _ (.tup (.cons .int (.cons (.tup .nil) .nil))) (@eR _ _ _ _ _ (.tup (.cons .int (.cons (.tup .nil) .nil))) (@eR _ _ _ _ _ (.tup (.cons .bl (.cons (.tup .nil) .nil))) (@aa _ _ _ _ _ (aq lu (pv 1) (@aF _ _ _ _ _ (@aa _ _ _ _ _ ae af rfl))) af rfl)))) rfl) rfl) rfl) rfl) rfl) rfl) rfl)) rfl (Or.inl rfl))
    (@ak _ _ _ _ _ (@aA _ _ 6 _ _ _ _ nd rfl (Or.inl rfl) (aq gq (pv 6) (@aQ _ _ _ _ (@eR _ _ _ _ _ (.tup (.cons .int (.cons (.tup (.cons (.tup (.cons .int (.cons .str (.cons .int (.cons .str .nil))))) .nil)) .nil))) (@eR _ _ _ _ _ (.tup (.cons .int (.cons (.tup (.cons (.tup (.cons .int (.cons .str (.cons .int (.cons .str .nil))))) .nil)) .nil))) (@eR _ _ _ _ _ (.tup (.cons .int (.cons (.tup (.cons (.tup (.cons .int (.cons .str (.cons .int (.cons .str .nil))))) .nil)) .nil))) af))))) rfl (Or.inl rfl))
    (@ar _ _ _ (@aC _ _ _ _ (@ao _ _ _ _ _ _ _ (aJ K) (aq gq (pv 6) (@aQ _ _ _ _ (@eR _ _ _ _ _ (.tup (.cons .int (.cons (.tup (.cons (.tup (.cons .int (.cons .str (.cons .int (.cons .str .nil))))) (.cons (.tup (.cons .int (.cons .str (.cons .int (.cons .str .nil))))) .nil))) .nil))) (@eR _ _ _ _ _ (.tup (.cons .int (.cons (.tup (.cons (.tup (.cons .int (.cons .str (.cons .int .nil)))) .nil)) .nil))) af)))) (pv 0) (fun _ _=>rfl)))))))),?_⟩
  walk_at "rd"
  refine gW (aj.of h1) rfl ?_
  walk_at "rd"
  refine cN (fun hk=>?_) (fun hk=>?_)
  ·have hk:15<k:=of_decide_eq_true hk
   walk_at "rd"
   refine ip (aj.of h2) ?_
   walk_at "rd"
   rw[EI]
   try refine rd_I (show(0:Int)<((bs.length:Nat):Int)+1 by omega) ?_
   walk_at "rd"
   have at0:0<=c % (((bs.length:Nat):Int)+1):=Int.emod_nonneg _ (by omega)
   generalize c % (((bs.length:Nat):Int)+1)=at_ at at0 ⊢
   refine⟨ai (by simp),ah fun p1 G1 e1 k1 _=>?_⟩
   walk_at "ds"
   refine⟨ai (by simp),ah fun p2 G2 e2 k2 _=>?_⟩
   walk_at "ds"
   refine⟨ai (by simp),ah fun p3 G3 e3 k3 _=>?_⟩
   walk_at "ds"
   refine⟨ai (by simp),ah fun p4 G4 e4 k4 _=>?_⟩
   walk_at "ds"
   refine⟨ai (by simp),ah fun p5 G5 e5 k5 _=>?_⟩
   walk_at "rd"
   have F1:gD G5 m p5 5:=⟨_,k5,by simp,(.cons ⟨(sR _ _),rfl⟩ (.cons ⟨((aV (n:=1) k1 (by simp) (.cons (aN _ _ _) (.cons (bt _ _ (by decide +kernel)) (.cons (aN _ _ _) (.cons (bt _ _ (by decide +kernel)) (.nil _ _)))))).ext (e2.trans (e3.trans (e4.trans e5)))),((cF ((e2.trans (e3.trans (e4.trans e5))) _ _ k1)).trans (dR (.inr (.inl (nT (Int.le_refl _))))))⟩ (.cons ⟨((aV (n:=1) k2 (by simp) (.cons (aN _ _ _) (.cons (bt _ _ (by decide +kernel)) (.cons (aN _ _ _) (.cons (bt _ _ (by decide +kernel)) (.nil _ _)))))).ext (e3.trans (e4.trans e5))),((cF ((e3.trans (e4.trans e5)) _ _ k2)).trans (dR (.inl (nT (Int.le_refl _)))))⟩ (.cons ⟨((aV (n:=1) k3 (by simp) (.cons (aN _ _ _) (.cons (bt _ _ (by decide +kernel)) (.cons (aN _ _ _) (.cons (bt _ _ (by decide +kernel)) (.nil _ _)))))).ext (e4.trans e5)),((cF ((e4.trans e5) _ _ k3)).trans (dR (.inr (.inr (.inr (by decide +kernel))))))⟩ (.cons ⟨((aV (n:=1) k4 (by simp) (.cons (aN _ _ _) (.cons (bt _ _ (by decide +kernel)) (.cons (aN _ _ _) (.cons (bt _ _ (by decide +kernel)) (.nil _ _)))))).ext e5),((cF (e5 _ _ k4)).trans (dR (.inr (.inr (.inr (by decide +kernel))))))⟩ (.nil _ _))))))⟩
   clear k1 k2 k3 k4 k5
   have b5:Ext H G5:=Ext.trans (Ext.rfl' H) (e1.trans (e2.trans (e3.trans (e4.trans e5))))
   clear e1 e2 e3 e4 e5
   refine⟨ai (by simp),ah fun p6 G6 e6 k6 _=>?_⟩
   walk_at "ds"
   refine⟨ai (by simp),ah fun p7 G7 e7 k7 _=>?_⟩
   walk_at "ds"
   refine⟨ai (by simp),ah fun p8 G8 e8 k8 _=>?_⟩
   walk_at "ds"
   refine⟨ai (by simp),ah fun p9 G9 e9 k9 _=>?_⟩
   walk_at "ds"
   refine⟨ai (by simp),ah fun p10 G10 e10 k10 _=>?_⟩
   walk_at "ds"
   refine⟨ai (by simp),ah fun p11 G11 e11 k11 _=>?_⟩
   walk_at "rd"
   have B0:gD G11 m p11 5:=⟨_,k11,by simp,(.cons ⟨((lZ (n:=1) k6 (by simp) (.cons (aN _ _ _) (.cons (bt _ _ (by decide +kernel)) (.cons (aN _ _ _) (.cons (bt _ _ (by decide +kernel)) (.nil _ _)))))).ext (e7.trans (e8.trans (e9.trans (e10.trans e11))))),(CB ((e7.trans (e8.trans (e9.trans (e10.trans e11)))) _ _ k6))⟩ (.cons ⟨((aV (n:=1) k7 (by simp) (.cons (aN _ _ _) (.cons (bt _ _ (by decide +kernel)) (.cons (aN _ _ _) (.cons (bt _ _ (by decide +kernel)) (.nil _ _)))))).ext (e8.trans (e9.trans (e10.trans e11)))),((cF ((e8.trans (e9.trans (e10.trans e11))) _ _ k7)).trans (dR (.inr (.inr (.inl (by decide +kernel))))))⟩ (.cons ⟨((aV (n:=1) k8 (by simp) (.cons (aN _ _ _) (.cons (bt _ _ (by decide +kernel)) (.cons (qA _ _ _) (.cons (bt _ _ (by decide +kernel)) (.nil _ _)))))).ext (e9.trans (e10.trans e11))),((cF ((e9.trans (e10.trans e11)) _ _ k8)).trans (dR (.inr (.inl rfl))))⟩ (.cons ⟨((aV (n:=1) k9 (by simp) (.cons (aN _ _ _) (.cons (bt _ _ (by decide +kernel)) (.cons (aN _ _ _) (.nil _ _))))).ext (e10.trans e11)),((cF ((e10.trans e11) _ _ k9)).trans (ji (by simp)))⟩ (.cons ⟨((aV (n:=1) k10 (by simp) (.cons (aN _ _ _) (.cons (bt _ _ (by decide +kernel)) (.cons (aN _ _ _) (.cons (bt _ _ (by decide +kernel)) (.nil _ _)))))).ext e11),((cF (e11 _ _ k10)).trans (dR (.inl (Bv (by decide)))))⟩ (.nil _ _))))))⟩
   obtain⟨xs1,x1,y1,z1⟩:=F1.ext (e6.trans (e7.trans (e8.trans (e9.trans (e10.trans e11)))))
   obtain⟨xs2,x2,y2,z2⟩:=B0
   refine dX x1 x2 (bX (by omega)) (ah fun p12 G12 e12 k12 _=>?_)
   have A0:gD G12 m p12 10:=⟨_,k12,by rw[List.length_append];omega,(z1.app z2).ext e12⟩
   clear k6 k7 k8 k9 k10 k11 k12 x1 y1 z1 x2 y2 z2 F1
   have b12:Ext H G12:=Ext.trans b5 (e6.trans (e7.trans (e8.trans (e9.trans (e10.trans (e11.trans e12))))))
   clear e6 e7 e8 e9 e10 e11 e12
   walk_at "rd"
   obtain⟨xs,x1,y1,z1⟩:=A0
   have hkl:(k-16).toNat<xs.length:=by omega
   have hx:=EJ hkl
   generalize xs[(k-16).toNat]=x at hx
   have nx:=z1 x (List.mem_of_getElem? hx)
   have h2g:=b12 _ _ h2
   have htg:bH G12 1 (bs.map V.ref):=hts.ext b12
   refine vz h2g fun u0 J0 j0 v0=>?_
   walk_at "rd"
   refine aI (ag.of (j0 _ _ x1)) (v:=x) (gC (by omega) hx) ?_
   walk_at "rd"
   refine⟨ai (by simp),ah fun u1 J1 j1 v1 _=>?_⟩
   walk_at "rd"
   have cl1:=uZ (lo:=none) (hi:=some at_) hxl
   have cl2:=uZ (lo:=some at_) (hi:=none) hxl
   refine nV (j1 _ _ v0) v1 (bX (by simp only[List.length_cons,List.length_nil];omega)) fun u2 J2 j2 v2=>?_
   walk_at "rd"
   refine vz ((j0.trans (j1.trans j2)) _ _ h2g) fun u3 J3 j3 v3=>?_
   walk_at "rd"
   refine nV (j3 _ _ v2) v3 (bX (by simp only[List.length_append,List.length_cons,List.length_nil];omega)) fun u4 J4 j4 v4=>?_
   walk_at "rd"
   refine⟨ai (by simp),ah fun u5 J5 j5 v5 _=>?_⟩
   have eA:Ext G12 J4:=j0.trans (j1.trans (j2.trans (j3.trans j4)))
   have t3:bf J4 3 (.ref u4):=aV v4 (by simp only[List.length_append,List.length_cons,List.length_nil];omega) (((htg.cut.up.ext eA).app (.cons (nx.ext eA).1 (.nil _ _))).app (htg.cut.up.ext eA))
   have t4:dh J5 (.ref u5):=⟨aV v5 (by simp) (.cons (aN _ _ _) (.cons (t3.ext j5) (.nil _ _))),(cx v5).trans (fu ((fh (j5 _ _ v4)).trans (il (List.mem_append_left _ (List.mem_append_right _ (List.mem_singleton.mpr rfl))) (nx.ext (eA.trans j5)).2)))⟩
   exact q _ J5 (Ext.trans b12 (eA.trans j5)) t4
  ·have hk:k<=15:=by simp only[decide_eq_true_eq]at hk;omega
   walk_at "rd"
   refine⟨ai (by simp),ah fun p1 G1 e1 k1 _=>?_⟩
   walk_at "ds"
   refine⟨ai (by simp),ah fun p2 G2 e2 k2 _=>?_⟩
   walk_at "ds"
   refine⟨ai (by simp),ah fun p3 G3 e3 k3 _=>?_⟩
   walk_at "ds"
   refine Dl (aj.of ((e1.trans (e2.trans e3)) _ _ h2)) (ah fun p4 G4 e4 k4 _=>?_)
   walk_at "ds"
   refine⟨ai (by simp),ah fun p5 G5 e5 k5 _=>?_⟩
   walk_at "ds"
   refine⟨ai (by simp),ah fun p6 G6 e6 k6 _=>?_⟩
   walk_at "ds"
   refine⟨ai (by simp),ah fun p7 G7 e7 k7 _=>?_⟩
   walk_at "ds"
   refine⟨ai (by simp),ah fun p8 G8 e8 k8 _=>?_⟩
   walk_at "ds"
   refine⟨ai (by simp),ah fun p9 G9 e9 k9 _=>?_⟩
   walk_at "ds"
   refine⟨ai (by simp),ah fun p10 G10 e10 k10 _=>?_⟩
   walk_at "ds"
   refine⟨ai (by simp),ah fun p11 G11 e11 k11 _=>?_⟩
   walk_at "ds"
   walk_at "rd"
   refine⟨ai (by simp),ah fun p12 G12 e12 k12 _=>?_⟩
   walk_at "ds"
   refine nV ((e1.trans (e2.trans (e3.trans (e4.trans (e5.trans (e6.trans (e7.trans (e8.trans (e9.trans (e10.trans (e11.trans e12))))))))))) _ _ h1) k12 (ai (by simp)) fun p13 G13 e13 k13=>?_
   have k13:G13 p13=some (.tup [.int m,.ref r,.int 0]):=k13
   walk_at "ds"
   refine⟨ai (by simp),ah fun p14 G14 e14 k14 _=>?_⟩
   walk_at "rd"
   have F1:fi G14 p14 11:=⟨_,k14,by simp,(.cons ⟨(sR _ _),rfl⟩ (.cons ⟨(aN _ _ _),rfl⟩ (.cons ⟨(bt _ _ (by decide +kernel)),rfl⟩ (.cons ⟨((aV (n:=3) k1 (by simp) (.nil _ _)).ext (e2.trans (e3.trans (e4.trans (e5.trans (e6.trans (e7.trans (e8.trans (e9.trans (e10.trans (e11.trans (e12.trans (e13.trans e14))))))))))))),((cx ((e2.trans (e3.trans (e4.trans (e5.trans (e6.trans (e7.trans (e8.trans (e9.trans (e10.trans (e11.trans (e12.trans (e13.trans e14)))))))))))) _ _ k1)).trans (jS (by simp)))⟩ (.cons ⟨((aV (n:=3) k2 (by simp) (.cons (aN _ _ _) (.nil _ _))).ext (e3.trans (e4.trans (e5.trans (e6.trans (e7.trans (e8.trans (e9.trans (e10.trans (e11.trans (e12.trans (e13.trans e14)))))))))))),((cx ((e3.trans (e4.trans (e5.trans (e6.trans (e7.trans (e8.trans (e9.trans (e10.trans (e11.trans (e12.trans (e13.trans e14))))))))))) _ _ k2)).trans (jS (by simp)))⟩ (.cons ⟨((lZ (n:=3) k3 (by simp) (.cons (aN _ _ _) (.cons (tr.up.ext (e1.trans (e2.trans e3))) (.nil _ _)))).ext (e4.trans (e5.trans (e6.trans (e7.trans (e8.trans (e9.trans (e10.trans (e11.trans (e12.trans (e13.trans e14))))))))))),(xA ((e4.trans (e5.trans (e6.trans (e7.trans (e8.trans (e9.trans (e10.trans (e11.trans (e12.trans (e13.trans e14)))))))))) _ _ k3))⟩ (.cons ⟨((aV (n:=3) k5 (by simp) (.cons (aN _ _ _) (.cons ((lZ (n:=2) k4 (Nat.le_trans hxl (by decide)) (hts.up.ext (e1.trans (e2.trans (e3.trans e4))))).ext e5) (.nil _ _)))).ext (e6.trans (e7.trans (e8.trans (e9.trans (e10.trans (e11.trans (e12.trans (e13.trans e14))))))))),((cx ((e6.trans (e7.trans (e8.trans (e9.trans (e10.trans (e11.trans (e12.trans (e13.trans e14)))))))) _ _ k5)).trans (fu (wJ ((e5.trans (e6.trans (e7.trans (e8.trans (e9.trans (e10.trans (e11.trans (e12.trans (e13.trans e14))))))))) _ _ k4))))⟩ (.cons ⟨((aV (n:=3) k7 (by simp) (.cons (aN _ _ _) (.cons ((aV (n:=2) k6 (by simp) (.nil _ _)).ext e7) (.nil _ _)))).ext (e8.trans (e9.trans (e10.trans (e11.trans (e12.trans (e13.trans e14))))))),((cx ((e8.trans (e9.trans (e10.trans (e11.trans (e12.trans (e13.trans e14)))))) _ _ k7)).trans (wm (by decide)))⟩ (.cons ⟨((aV (n:=3) k9 (by simp) (.cons (aN _ _ _) (.cons ((aV (n:=2) k8 (by simp) (.nil _ _)).ext e9) (.nil _ _)))).ext (e10.trans (e11.trans (e12.trans (e13.trans e14))))),((cx ((e10.trans (e11.trans (e12.trans (e13.trans e14)))) _ _ k9)).trans (wm (by decide)))⟩ (.cons ⟨((aV (n:=3) k11 (by simp) (.cons (qA _ _ _) (.cons ((aV (n:=2) k10 (by simp) (.nil _ _)).ext e11) (.nil _ _)))).ext (e12.trans (e13.trans e14))),((cx ((e12.trans (e13.trans e14)) _ _ k11)).trans rfl)⟩ (.cons ⟨((aV (n:=3) k13 (by simp) (.cons (aN _ _ _) (.cons (tr.up.ext (e1.trans (e2.trans (e3.trans (e4.trans (e5.trans (e6.trans (e7.trans (e8.trans (e9.trans (e10.trans (e11.trans (e12.trans e13))))))))))))) (.cons (aN _ _ _) (.nil _ _))))).ext e14),((cx (e14 _ _ k13)).trans (jS (by simp)))⟩ (.nil _))))))))))))⟩
   clear k1 k2 k3 k4 k5 k6 k7 k8 k9 k10 k11 k12 k13 k14
   have b14:Ext H G14:=Ext.trans (Ext.rfl' H) (e1.trans (e2.trans (e3.trans (e4.trans (e5.trans (e6.trans (e7.trans (e8.trans (e9.trans (e10.trans (e11.trans (e12.trans (e13.trans e14)))))))))))))
   clear e1 e2 e3 e4 e5 e6 e7 e8 e9 e10 e11 e12 e13 e14
   refine⟨ai (by simp),ah fun p15 G15 e15 k15 _=>?_⟩
   walk_at "ds"
   refine⟨ai (by simp),ah fun p16 G16 e16 k16 _=>?_⟩
   walk_at "ds"
   refine⟨ai (by simp),ah fun p17 G17 e17 k17 _=>?_⟩
   walk_at "ds"
   refine⟨ai (by simp),ah fun p18 G18 e18 k18 _=>?_⟩
   walk_at "ds"
   refine⟨ai (by simp),ah fun p19 G19 e19 k19 _=>?_⟩
   walk_at "ds"
   refine⟨ai (by simp),ah fun p20 G20 e20 k20 _=>?_⟩
   walk_at "ds"
   refine⟨ai (by simp),ah fun p21 G21 e21 k21 _=>?_⟩
   walk_at "ds"
   refine⟨ai (by simp),ah fun p22 G22 e22 k22 _=>?_⟩
   walk_at "ds"
   refine⟨ai (by simp),ah fun p23 G23 e23 k23 _=>?_⟩
   walk_at "ds"
   refine⟨ai (by simp),ah fun p24 G24 e24 k24 _=>?_⟩
   walk_at "rd"
   have B0:fi G24 p24 3:=⟨_,k24,by simp,(.cons ⟨((aV (n:=3) k17 (by simp) (.cons (aN _ _ _) (.cons ((aV (n:=2) k16 (by simp) (.cons ((aV (n:=1) k15 (by simp) (.cons (aN _ _ _) (.cons (bt _ _ (by decide +kernel)) (.cons (aN _ _ _) (.cons (bt _ _ (by decide +kernel)) (.nil _ _)))))).ext e16) (.nil _ _))).ext e17) (.nil _ _)))).ext (e18.trans (e19.trans (e20.trans (e21.trans (e22.trans (e23.trans e24))))))),((cx ((e18.trans (e19.trans (e20.trans (e21.trans (e22.trans (e23.trans e24)))))) _ _ k17)).trans (fu ((fh ((e17.trans (e18.trans (e19.trans (e20.trans (e21.trans (e22.trans (e23.trans e24))))))) _ _ k16)).trans (il (List.mem_singleton.mpr rfl) ((cF ((e16.trans (e17.trans (e18.trans (e19.trans (e20.trans (e21.trans (e22.trans (e23.trans e24)))))))) _ _ k15)).trans (dR (.inr (.inl (nT (by decide))))))))))⟩ (.cons ⟨((aV (n:=3) k20 (by simp) (.cons (aN _ _ _) (.cons ((aV (n:=2) k19 (by simp) (.cons ((aV (n:=1) k18 (by simp) (.cons (aN _ _ _) (.cons (bt _ _ (by decide +kernel)) (.cons (aN _ _ _) (.cons (bt _ _ (by decide +kernel)) (.nil _ _)))))).ext e19) (.nil _ _))).ext e20) (.nil _ _)))).ext (e21.trans (e22.trans (e23.trans e24)))),((cx ((e21.trans (e22.trans (e23.trans e24))) _ _ k20)).trans (fu ((fh ((e20.trans (e21.trans (e22.trans (e23.trans e24)))) _ _ k19)).trans (il (List.mem_singleton.mpr rfl) ((cF ((e19.trans (e20.trans (e21.trans (e22.trans (e23.trans e24))))) _ _ k18)).trans (dR (.inr (.inr (.inl (by decide +kernel))))))))))⟩ (.cons ⟨((aV (n:=3) k23 (by simp) (.cons (aN _ _ _) (.cons ((aV (n:=2) k22 (by simp) (.cons ((aV (n:=1) k21 (by simp) (.cons (aN _ _ _) (.cons (bt _ _ (by decide +kernel)) (.cons (aN _ _ _) (.cons (bt _ _ (by decide +kernel)) (.nil _ _)))))).ext e22) (.nil _ _))).ext e23) (.nil _ _)))).ext e24),((cx (e24 _ _ k23)).trans (fu ((fh ((e23.trans e24) _ _ k22)).trans (il (List.mem_singleton.mpr rfl) ((cF ((e22.trans (e23.trans e24)) _ _ k21)).trans (dR (.inr (.inr (.inr (by decide +kernel))))))))))⟩ (.nil _))))⟩
   obtain⟨xs1,x1,y1,z1⟩:=F1.ext (e15.trans (e16.trans (e17.trans (e18.trans (e19.trans (e20.trans (e21.trans (e22.trans (e23.trans e24)))))))))
   obtain⟨xs2,x2,y2,z2⟩:=B0
   refine dX x1 x2 (bX (by omega)) (ah fun p25 G25 e25 k25 _=>?_)
   have A0:fi G25 p25 14:=⟨_,k25,by rw[List.length_append];omega,(z1.app z2).ext e25⟩
   clear k15 k16 k17 k18 k19 k20 k21 k22 k23 k24 k25 x1 y1 z1 x2 y2 z2 F1
   have b25:Ext H G25:=Ext.trans b14 (e15.trans (e16.trans (e17.trans (e18.trans (e19.trans (e20.trans (e21.trans (e22.trans (e23.trans (e24.trans e25))))))))))
   clear e15 e16 e17 e18 e19 e20 e21 e22 e23 e24 e25
   walk_at "rd"
   refine⟨ai (by simp),ah fun p26 G26 e26 k26 _=>?_⟩
   walk_at "ds"
   refine⟨ai (by simp),ah fun p27 G27 e27 k27 _=>?_⟩
   walk_at "ds"
   refine⟨ai (by simp),ah fun p28 G28 e28 k28 _=>?_⟩
   walk_at "ds"
   refine⟨ai (by simp),ah fun p29 G29 e29 k29 _=>?_⟩
   walk_at "ds"
   refine⟨ai (by simp),ah fun p30 G30 e30 k30 _=>?_⟩
   walk_at "ds"
   refine⟨ai (by simp),ah fun p31 G31 e31 k31 _=>?_⟩
   walk_at "ds"
   refine⟨ai (by simp),ah fun p32 G32 e32 k32 _=>?_⟩
   walk_at "ds"
   refine⟨ai (by simp),ah fun p33 G33 e33 k33 _=>?_⟩
   walk_at "rd"
   have B1:fi G33 p33 2:=⟨_,k33,by simp,(.cons ⟨((aV (n:=3) k29 (by simp) (.cons (aN _ _ _) (.cons ((aV (n:=2) k28 (by simp) (.cons ((aV (n:=1) k26 (by simp) (.cons (aN _ _ _) (.cons (bt _ _ (by decide +kernel)) (.cons (aN _ _ _) (.cons (bt _ _ (by decide +kernel)) (.nil _ _)))))).ext (e27.trans e28)) (.cons ((aV (n:=1) k27 (by simp) (.cons (aN _ _ _) (.cons (bt _ _ (by decide +kernel)) (.cons (aN _ _ _) (.cons (bt _ _ (by decide +kernel)) (.nil _ _)))))).ext e28) (.nil _ _)))).ext e29) (.nil _ _)))).ext (e30.trans (e31.trans (e32.trans e33)))),((cx ((e30.trans (e31.trans (e32.trans e33))) _ _ k29)).trans (fu ((fh ((e29.trans (e30.trans (e31.trans (e32.trans e33)))) _ _ k28)).trans (zM ((jM ((e27.trans (e28.trans (e29.trans (e30.trans (e31.trans (e32.trans e33)))))) _ _ k26)).trans (jM ((e28.trans (e29.trans (e30.trans (e31.trans (e32.trans e33))))) _ _ k27)).symm)))))⟩ (.cons ⟨((aV (n:=3) k32 (by simp) (.cons (aN _ _ _) (.cons ((aV (n:=2) k31 (by simp) (.cons ((aV (n:=1) k30 (by simp) (.cons (aN _ _ _) (.cons (bt _ _ (by decide +kernel)) (.cons (aN _ _ _) (.nil _ _))))).ext e31) (.nil _ _))).ext e32) (.nil _ _)))).ext e33),((cx (e33 _ _ k32)).trans (fu ((fh ((e32.trans e33) _ _ k31)).trans (il (List.mem_singleton.mpr rfl) ((cF ((e31.trans (e32.trans e33)) _ _ k30)).trans (ji (by simp)))))))⟩ (.nil _)))⟩
   obtain⟨xs1,x1,y1,z1⟩:=A0.ext (e26.trans (e27.trans (e28.trans (e29.trans (e30.trans (e31.trans (e32.trans e33)))))))
   obtain⟨xs2,x2,y2,z2⟩:=B1
   refine dX x1 x2 (bX (by omega)) (ah fun p34 G34 e34 k34 _=>?_)
   have A1:fi G34 p34 16:=⟨_,k34,by rw[List.length_append];omega,(z1.app z2).ext e34⟩
   clear k26 k27 k28 k29 k30 k31 k32 k33 k34 x1 y1 z1 x2 y2 z2 A0
   have b34:Ext H G34:=Ext.trans b25 (e26.trans (e27.trans (e28.trans (e29.trans (e30.trans (e31.trans (e32.trans (e33.trans e34))))))))
   clear e26 e27 e28 e29 e30 e31 e32 e33 e34
   walk_at "rd"
   obtain⟨xs,x1,y1,z1⟩:=A1
   have hkl:k.toNat<xs.length:=by omega
   have hx:=EJ hkl
   generalize xs[k.toNat]=x at hx
   refine aI (ag.of x1) (v:=x) (gC hk0 hx) ?_
   exact q x _ b34 (z1 x (List.mem_of_getElem? hx))
local macro_rules | `(tactic| walk_at "ra") => do
 let ts ← ("seq asg c name".splitOn " ").toArray.mapM fun n =>
  let i := Lean.mkIdent (.mkSimple ("rd_" ++ n))
  `(tacticSeq| with_reducible refine $i ?_)
 `(tactic| repeat (first $[| $ts]* | dsimp only))
theorem pf{z:Str}{n:Int}(hn:0<=n):(Txt.mul z n).cps.size=n.toNat*z.cps.size:=by
 unfold Txt.mul
 split
 ·rw[show n.toNat=0 by omega,Nat.zero_mul]
  rfl
 ·split
  ·rename_i h
   rcases Bool.or_eq_true _ _ ▸ h with h | h
   ·rw[show n=1 by simpa using h]
    simp
   ·have:z.cps.size=0:=by simpa[Str.length]using h
    rw[this,Nat.mul_zero]
  ·have key:∀(k:Nat) (acc:Array Nat),((List.replicate k z.cps).foldl (· ++ ·) acc).size=acc.size+k*z.cps.size:=by
    intro k
    induction k with
    | zero=>intro acc;simp
    | succ k ih=>
     intro acc
     rw[List.replicate_succ,List.foldl_cons,ih,Array.size_append,Nat.succ_mul]
     omega
   show((List.replicate n.toNat z.cps).foldl (· ++ ·) #[]).size=_
   rw[key]
   simp
def cc(way a b c:Int):Prop:=(way=0/\200<a)\/(way=2/\(b<0\/40<b\/c<0\/200<c))
def Ar(H:Hp)(v:V)(way p q a b c:Int)(z:Str):Prop:=
 (dh H v/\z = "house")\/∃m ws,aW H v m ws/\HOuse m ws/\((¬cv m p q/\z = "place")\/(cv m p q/\((cc way a b c/\z = "great")\/(¬cc way a b c/\z = "told"))))
def El(K:EE)(D:Addr)(z:Str):Prop:=(D=cA K "NoHouse"/\z = "house")\/(D=cA K "NoPlace"/\z = "place")\/(D=cA K "TooGreat"/\z = "great")
def gy(K:EE):Sp:=fun vs H Q _=>∃way v r sa p q a b c z,vs=[.int way,v,.ref r,.ref sa]/\0<=way/\way<=2/\H r=some (.tup [.int p,.int q])/\H sa=some (.tup [.int a,.int b,.int c])/\0<=a/\a<=1900/\Ar H v way p q a b c z/\∀H',Ext H H'->Q (.str z) H'
abbrev kY:Stmt:=stq 68
theorem uh:FnScope ["_law_way","_law_house_here","_law_rooms","_law_sizes","_law_word","e","_law_sorts"] ["_law_way","_law_house_here","_law_rooms","_law_sizes"] (aG kY):=⟨rfl,rfl,rfl,by decide +kernel,rfl,by decide +kernel,by decide +kernel⟩
theorem wV{P:Program}{w:World}{K:EE}{mg:Str->Option Value}{base:Heap}(D:Dfn K mg "_law_asked" kY ["_law_way","_law_house_here","_law_rooms","_law_sizes"])(T:Blt mg)(XF:Xf K mg base fI fH)(CX_first_words:CalX P w K mg base "first_words" 9 ["house","p","q","length","many"] (my K))(CX_first_word:CalX P w K mg base "first_word" 9 ["house","p","q"] (nY K))(CX_reads:CalX P w K mg base "reads" 8 ["house","p","q","text"] (ly K)):Cal P w K mg base "_law_asked" 10 ["_law_way","_law_house_here","_law_rooms","_law_sizes"] (gy K):=by
 have nd:=(uh).nd
 refine D.ok uh (fun vs H Q E h=>?_) (fun X hX H vs Q E h=>?_)
 ·obtain⟨way,v,r,sa,p,q,a,b,c,z,rfl,_⟩:=h;rfl
 ·obtain⟨f,cdv,A,outer,s,H0,E0,rfl,hr⟩:=hX
  obtain⟨way,v,r,sa,p,q0,a,b,c,z,rfl,w0,w2,hro,hsi,a0,a1,hask,q⟩:=h
  refine⟨_,(ak (aA (i:=4) nd rfl (Or.inl rfl) av)
    (ak (xJ (i:=5) rfl rfl nd rfl rfl rfl (XF.cl "StairError" (by decide +kernel)) rfl (by decide) (gJ (lE (aM bV (pv 0) ae (aK _)) (gJ (nR CX_reads hr (aa (pv 1) (aa (ao (ay K) (pv 2) ae (fun _ _=>rfl)) (aa (ao (ay K) (pv 2) ae (fun _ _=>rfl)) (aa (aq pQ (aq pO av (aq lI (ao (ay K) (pv 3) ae (fun _ _=>rfl)) ae)) (aq pO av (aq bP (ao (ay K) (pv 3) ae (fun _ _=>rfl)) ae))) af))))) fX) fX) (gJ (lE (aM bV (pv 0) ae (aK _)) (gJ (nR CX_first_word hr (aa (pv 1) (aa (ao (ay K) (pv 2) ae (fun _ _=>rfl)) (aa (ao (ay K) (pv 2) ae (fun _ _=>rfl)) af)))) fX) fX) (gJ (lE (aM bV (pv 0) ae (aK _)) (gJ (nR CX_first_words hr (aa (pv 1) (aa (ao (ay K) (pv 2) ae (fun _ _=>rfl)) (aa (ao (ay K) (pv 2) ae (fun _ _=>rfl)) (aa (ao (ay K) (pv 3) ae (fun _ _=>rfl)) (aa (ao (ay K) (pv 3) ae (fun _ _=>rfl)) af)))))) fX) fX) fX))) (fun x oe Dx hK hc=>(ak (aA (i:=6) nd rfl (Or.inl rfl) (aQ (aa (aT (dw hK hc) rfl T.isinstance_ PyProof.Rows.boot_isinstance (aa (pv 5) (aa (bU (v:=.ref (cA K "NoHouse")) rfl (XF.cl "NoHouse" (by decide +kernel)) rfl) af))) (aa (aT (dw hK hc) rfl T.isinstance_ PyProof.Rows.boot_isinstance (aa (pv 5) (aa (bU (v:=.ref (cA K "NoPlace")) rfl (XF.cl "NoPlace" (by decide +kernel)) rfl) af))) (aa (aT (dw hK hc) rfl T.isinstance_ PyProof.Rows.boot_isinstance (aa (pv 5) (aa (bU (v:=.ref (cA K "TooGreat")) rfl (XF.cl "TooGreat" (by decide +kernel)) rfl) af))) (aa (aT (dw hK hc) rfl T.isinstance_ PyProof.Rows.boot_isinstance (aa (pv 5) (aa (bU (v:=.ref (cA K "NoStair")) rfl (XF.cl "NoStair" (by decide +kernel)) rfl) af))) af))))))
    (ak (aA (i:=6) nd rfl (Or.inl rfl) (aq gq (pv 6) (aQ (aa (aT (dw hK hc) rfl T.isinstance_ PyProof.Rows.boot_isinstance (aa (pv 5) (aa (bU (v:=.ref (cA K "NoDeed")) rfl (XF.cl "NoDeed" (by decide +kernel)) rfl) af))) (aa (aT (dw hK hc) rfl T.isinstance_ PyProof.Rows.boot_isinstance (aa (pv 5) (aa (bU (v:=.ref (cA K "NoLine")) rfl (XF.cl "NoLine" (by decide +kernel)) rfl) af))) (aa (aT (dw hK hc) rfl T.isinstance_ PyProof.Rows.boot_isinstance (aa (pv 5) (aa (bU (v:=.ref (cA K "Endless")) rfl (XF.cl "Endless" (by decide +kernel)) rfl) af))) (aa (aT (dw hK hc) rfl T.isinstance_ PyProof.Rows.boot_isinstance (aa (pv 5) (aa (bU (v:=.ref (cA K "NoText")) rfl (XF.cl "NoText" (by decide +kernel)) rfl) af))) af)))))))
    (ak (aA (i:=6) nd rfl (Or.inl rfl) (aq gq (pv 6) (aQ (aa (aT (dw hK hc) rfl T.isinstance_ PyProof.Rows.boot_isinstance (aa (pv 5) (aa (bU (v:=.ref (cA K "NotBare")) rfl (XF.cl "NotBare" (by decide +kernel)) rfl) af))) (aa (aT (dw hK hc) rfl T.isinstance_ PyProof.Rows.boot_isinstance (aa (pv 5) (aa (bU (v:=.ref (cA K "NoWalk")) rfl (XF.cl "NoWalk" (by decide +kernel)) rfl) af))) (aa (aT (dw hK hc) rfl T.isinstance_ PyProof.Rows.boot_isinstance (aa (pv 5) (aa (bU (v:=.ref (cA K "NoWay")) rfl (XF.cl "NoWay" (by decide +kernel)) rfl) af))) af))))))
    (ak (aA (i:=4) nd rfl (Or.inl rfl) av)
    (ar (dG (PW.pt (iS (aM bV (bE K ER PySem.F.slot_list_count PySem.F.type_list_count (zJ K) (pv 6) (aa cn af)) ae (aK _)) (iS (cS (aT (dw hK hc) rfl T.isinstance_ PyProof.Rows.boot_isinstance (aa (pv 5) (aa (fb (v:=.ty "ValueError") rfl T.ValueError_ PyProof.Rows.Boot.«ValueError» rfl) af)))) (lR (aM eS (bE K ER PySem.F.slot_list_index PySem.F.type_list_index (t9 K) (pv 6) (aa cn af)) ae (aK _)))))) (ar (aA (i:=4) nd rfl (Or.inl rfl) (ao (aJ K) (aQ (aa av (aa av (aa av af)))) (bE K ER PySem.F.slot_list_index PySem.F.type_list_index (t9 K) (pv 6) (aa cn af)) (fun _ _=>rfl)))) aU))))))))
    (ar (aC (pv 4))))),?_⟩
  walk_at "ra"
  refine Ew (fun Dx σ1 H1=>Ext H H1/\El K Dx z/\σ1=[some (.int way),some v,some (.ref r),some (.ref sa),some (.str (Str.ofString "told")),none,none]) (fun E9 hE=>?_) ?_
  ·have bad:∀{H1:Hp},Ext H H1->(∃m ws,aW H1 v m ws/\HOuse m ws/\cv m p q0/\((cc way a b c/\z = "great")\/(¬cc way a b c/\z = "told")))\/gG K H1 (E9 [some (.int way),some v,some (.ref r),some (.ref sa),some (.str (Str.ofString "told")),none,none]) v p q0:=fun{H1} e=>by
    rcases hask with⟨h1,h2⟩ | ⟨m,ws,h1,h2,⟨h3,h4⟩ | ⟨h3,h4⟩⟩
    ·exact .inr (.inl ⟨h1.ext e,fun H' e'=>hE _ _ _ ⟨e.trans e',.inl ⟨rfl,h2⟩,rfl⟩⟩)
    ·exact .inr (.inr ⟨m,ws,h1.ext e,h2,h3,fun H' e'=>hE _ _ _ ⟨e.trans e',.inr (.inl ⟨rfl,h4⟩),rfl⟩⟩)
    ·exact .inl ⟨m,ws,h1.ext e,h2,h3,h4⟩
   have great:z = "great"->∀{H1:Hp},Ext H H1->eU K H1 (E9 [some (.int way),some v,some (.ref r),some (.ref sa),some (.str (Str.ofString "told")),none,none]) "TooGreat":=fun hz {H1} e H' e'=>hE _ _ _ ⟨e.trans e',.inr (.inr ⟨rfl,hz⟩),rfl⟩
   have h3:way=0\/way=1\/way=2:=by omega
   rcases h3 with rfl | rfl | rfl
   ·walk_at "rd"
    refine aB ?_
    walk_at "rd"
    refine ax (aj.of hro) (v:=.int p) rfl ?_
    walk_at "rd"
    refine ax (aj.of hro) (v:=.int q0) rfl ?_
    walk_at "rd"
    refine ax (aj.of hsi) (v:=.int a) rfl ?_
    walk_at "rd"
    refine⟨_,_,rfl,rfl,by omega,by omega,by decide +kernel,?_⟩
    walk_at "rd"
    refine ax (aj.of hsi) (v:=.int a) rfl ?_
    walk_at "rd"
    refine⟨_,_,rfl,rfl,by omega,by omega,by decide +kernel,?_⟩
    walk_at "rd"
    have s1:=pf (z:=Str.ofString "ab") (n:=a / 2) (by omega)
    have s2:=pf (z:=Str.ofString "a") (n:=a % 2) (by omega)
    rw[show (Str.ofString "ab").cps.size=2 by decide +kernel]at s1
    rw[show (Str.ofString "a").cps.size=1 by decide +kernel]at s2
    refine⟨_,_,rfl,rfl,Nat.le_trans (show(Txt.mul (Str.ofString "ab") (a / 2)).cps.size+(Txt.mul (Str.ofString "a") (a % 2)).cps.size<=2000 by omega) (by decide),?_⟩
    walk_at "rd"
    have sz:(Txt.mul (Str.ofString "ab") (a / 2)++Txt.mul (Str.ofString "a") (a % 2)).cps.size=a.toNat:=by
     show((Txt.mul (Str.ofString "ab") (a / 2)).cps++(Txt.mul (Str.ofString "a") (a % 2)).cps).size=_
     rw[Array.size_append]
     omega
    refine⟨v,p,q0,_,rfl,by omega,?_⟩
    rcases bad (Ext.rfl' H)with⟨m,ws,h1,h2,h3,h4⟩ | hb
    ·refine .inr ⟨m,ws,h1,h2,h3,?_⟩
     rcases h4 with⟨g,hz⟩ | ⟨g,hz⟩
     ·have:200<a:=by unfold cc at g;omega
      exact .inl ⟨by omega,great hz (Ext.rfl' H)⟩
     ·have:¬200<a:=by unfold cc at g;omega
      refine .inr ⟨by omega,fun b' H' e'=>?_⟩
      walk_at "rd"
      refine aw ?_
      walk_at "rd"
      refine aw ?_
      walk_at "rd"
      have:=q H' e'
      rw[hz]at this
      exact this
    ·exact .inl hb
   ·walk_at "rd"
    refine aw ?_
    walk_at "rd"
    refine aB ?_
    walk_at "rd"
    refine ax (aj.of hro) (v:=.int p) rfl ?_
    walk_at "rd"
    refine ax (aj.of hro) (v:=.int q0) rfl ?_
    walk_at "rd"
    refine⟨v,p,q0,rfl,?_⟩
    rcases bad (Ext.rfl' H)with⟨m,ws,h1,h2,h3,h4⟩ | hb
    ·refine .inr ⟨m,ws,h1,h2,h3,fun u' H' e'=>?_⟩
     rcases h4 with⟨g,hz⟩ | ⟨g,hz⟩
     ·unfold cc at g
      omega
     ·walk_at "rd"
      refine aw ?_
      walk_at "rd"
      have:=q H' e'
      rw[hz]at this
      exact this
    ·exact .inl hb
   ·walk_at "rd"
    refine aw ?_
    walk_at "rd"
    refine aw ?_
    walk_at "rd"
    refine aB ?_
    walk_at "rd"
    refine ax (aj.of hro) (v:=.int p) rfl ?_
    walk_at "rd"
    refine ax (aj.of hro) (v:=.int q0) rfl ?_
    walk_at "rd"
    refine ax (aj.of hsi) (v:=.int b) rfl ?_
    walk_at "rd"
    refine ax (aj.of hsi) (v:=.int c) rfl ?_
    walk_at "rd"
    refine⟨v,p,q0,b,c,rfl,?_⟩
    rcases bad (Ext.rfl' H)with⟨m,ws,h1,h2,h3,h4⟩ | hb
    ·refine .inr ⟨m,ws,h1,h2,h3,?_⟩
     rcases h4 with⟨g,hz⟩ | ⟨g,hz⟩
     ·exact .inl ⟨by unfold cc at g;omega,great hz (Ext.rfl' H)⟩
     ·refine .inr ⟨by unfold cc at g;omega,by unfold cc at g;omega,by unfold cc at g;omega,by unfold cc at g;omega,fun l' H' e'=>?_⟩
      walk_at "rd"
      have:=q H' e'
      rw[hz]at this
      exact this
    ·exact .inl hb
  ·rintro σ1 Dx H1 ⟨eH1,hd,rfl⟩
   rcases hd with⟨rfl,rfl⟩ | ⟨rfl,rfl⟩ | ⟨rfl,rfl⟩
   ·refine⟨XF.up "NoHouse" (by decide +kernel),XF.exk "NoHouse" (by decide +kernel),fun x hx=>?_⟩
    walk_at "rd"
    refine bg (b:=true) ((XF.kc "NoHouse" (by decide +kernel) "NoHouse" (by decide +kernel)).trans (by decide +kernel)) ?_
    walk_at "rd"
    refine bg (b:=false) ((XF.kc "NoHouse" (by decide +kernel) "NoPlace" (by decide +kernel)).trans (by decide +kernel)) ?_
    walk_at "rd"
    refine bg (b:=false) ((XF.kc "NoHouse" (by decide +kernel) "TooGreat" (by decide +kernel)).trans (by decide +kernel)) ?_
    walk_at "rd"
    refine bg (b:=false) ((XF.kc "NoHouse" (by decide +kernel) "NoStair" (by decide +kernel)).trans (by decide +kernel)) ?_
    walk_at "rd"
    refine⟨ai (by simp),ah fun l2 H2 e2 k2 _=>?_⟩
    walk_at "rd"
    refine bg (b:=false) ((XF.kc "NoHouse" (by decide +kernel) "NoDeed" (by decide +kernel)).trans (by decide +kernel)) ?_
    walk_at "rd"
    refine bg (b:=false) ((XF.kc "NoHouse" (by decide +kernel) "NoLine" (by decide +kernel)).trans (by decide +kernel)) ?_
    walk_at "rd"
    refine bg (b:=false) ((XF.kc "NoHouse" (by decide +kernel) "Endless" (by decide +kernel)).trans (by decide +kernel)) ?_
    walk_at "rd"
    refine bg (b:=false) ((XF.kc "NoHouse" (by decide +kernel) "NoText" (by decide +kernel)).trans (by decide +kernel)) ?_
    walk_at "rd"
    refine⟨ai (by simp),ah fun l3 H3 e3 k3 _=>?_⟩
    walk_at "rd"
    refine dX (e3 _ _ k2) k3 (ai (by simp)) (ah fun l4 H4 e4 k4 _=>?_)
    walk_at "rd"
    refine bg (b:=false) ((XF.kc "NoHouse" (by decide +kernel) "NotBare" (by decide +kernel)).trans (by decide +kernel)) ?_
    walk_at "rd"
    refine bg (b:=false) ((XF.kc "NoHouse" (by decide +kernel) "NoWalk" (by decide +kernel)).trans (by decide +kernel)) ?_
    walk_at "rd"
    refine bg (b:=false) ((XF.kc "NoHouse" (by decide +kernel) "NoWay" (by decide +kernel)).trans (by decide +kernel)) ?_
    walk_at "rd"
    refine⟨ai (by simp),ah fun l5 H5 e5 k5 _=>?_⟩
    walk_at "rd"
    refine dX (e5 _ _ k4) k5 (ai (by simp)) (ah fun l6 H6 e6 k6 _=>?_)
    have k6:H6 l6=some (.lst (List.map V.bl [true,false,false,false,false,false,false,false,false,false,false])):=k6
    have e16:Ext H1 H6:=e2.trans (e3.trans (e4.trans (e5.trans e6)))
    clear e2 e3 e4 e5 e6 k2 k3 k4 k5
    walk_at "rd"
    refine eV ?_
    walk_at "rd"
    refine⟨bS (ag.of k6),?_⟩
    walk_at "rd"
    refine⟨l6,_,true,rfl,rfl,ag.of k6,?_⟩
    rw[show List.countP (· == true) [true,false,false,false,false,false,false,false,false,false,false]=1 from rfl]
    walk_at "rd"
    refine aB ?_
    walk_at "rd"
    refine mn (XF.kv "NoHouse" (by decide +kernel)) ?_
    walk_at "rd"
    refine aB ?_
    walk_at "rd"
    refine⟨bS (ag.of k6),?_⟩
    walk_at "rd"
    have hno:∀m b,m<0->([true,false,false,false,false,false,false,false,false,false,false]:List Bool)[m]?=some b->b≠true:=fun m b hm hb=>by
     omega
    refine⟨l6,_,true,0,rfl,rfl,ag.of k6,rfl,hno,by decide,?_⟩
    walk_at "rd"
    refine aB ?_
    walk_at "rd"
    refine⟨ai (by simp),ah fun l7 H7 e7 k7 _=>?_⟩
    walk_at "rd"
    refine⟨bS (ag.of (e7 _ _ k6)),?_⟩
    walk_at "rd"
    refine⟨l6,_,true,0,rfl,rfl,ag.of (e7 _ _ k6),rfl,hno,by decide,?_⟩
    refine aI (ag.of k7) (v:=.str (Str.ofString "house")) rfl ?_
    walk_at "rd"
    exact q H7 (eH1.trans (e16.trans e7))
   ·refine⟨XF.up "NoPlace" (by decide +kernel),XF.exk "NoPlace" (by decide +kernel),fun x hx=>?_⟩
    walk_at "rd"
    refine bg (b:=false) ((XF.kc "NoPlace" (by decide +kernel) "NoHouse" (by decide +kernel)).trans (by decide +kernel)) ?_
    walk_at "rd"
    refine bg (b:=true) ((XF.kc "NoPlace" (by decide +kernel) "NoPlace" (by decide +kernel)).trans (by decide +kernel)) ?_
    walk_at "rd"
    refine bg (b:=false) ((XF.kc "NoPlace" (by decide +kernel) "TooGreat" (by decide +kernel)).trans (by decide +kernel)) ?_
    walk_at "rd"
    refine bg (b:=false) ((XF.kc "NoPlace" (by decide +kernel) "NoStair" (by decide +kernel)).trans (by decide +kernel)) ?_
    walk_at "rd"
    refine⟨ai (by simp),ah fun l2 H2 e2 k2 _=>?_⟩
    walk_at "rd"
    refine bg (b:=false) ((XF.kc "NoPlace" (by decide +kernel) "NoDeed" (by decide +kernel)).trans (by decide +kernel)) ?_
    walk_at "rd"
    refine bg (b:=false) ((XF.kc "NoPlace" (by decide +kernel) "NoLine" (by decide +kernel)).trans (by decide +kernel)) ?_
    walk_at "rd"
    refine bg (b:=false) ((XF.kc "NoPlace" (by decide +kernel) "Endless" (by decide +kernel)).trans (by decide +kernel)) ?_
    walk_at "rd"
    refine bg (b:=false) ((XF.kc "NoPlace" (by decide +kernel) "NoText" (by decide +kernel)).trans (by decide +kernel)) ?_
    walk_at "rd"
    refine⟨ai (by simp),ah fun l3 H3 e3 k3 _=>?_⟩
    walk_at "rd"
    refine dX (e3 _ _ k2) k3 (ai (by simp)) (ah fun l4 H4 e4 k4 _=>?_)
    walk_at "rd"
    refine bg (b:=false) ((XF.kc "NoPlace" (by decide +kernel) "NotBare" (by decide +kernel)).trans (by decide +kernel)) ?_
    walk_at "rd"
    refine bg (b:=false) ((XF.kc "NoPlace" (by decide +kernel) "NoWalk" (by decide +kernel)).trans (by decide +kernel)) ?_
    walk_at "rd"
    refine bg (b:=false) ((XF.kc "NoPlace" (by decide +kernel) "NoWay" (by decide +kernel)).trans (by decide +kernel)) ?_
    walk_at "rd"
    refine⟨ai (by simp),ah fun l5 H5 e5 k5 _=>?_⟩
    walk_at "rd"
    refine dX (e5 _ _ k4) k5 (ai (by simp)) (ah fun l6 H6 e6 k6 _=>?_)
    have k6:H6 l6=some (.lst (List.map V.bl [false,true,false,false,false,false,false,false,false,false,false])):=k6
    have e16:Ext H1 H6:=e2.trans (e3.trans (e4.trans (e5.trans e6)))
    clear e2 e3 e4 e5 e6 k2 k3 k4 k5
    walk_at "rd"
    refine eV ?_
    walk_at "rd"
    refine⟨bS (ag.of k6),?_⟩
    walk_at "rd"
    refine⟨l6,_,true,rfl,rfl,ag.of k6,?_⟩
    rw[show List.countP (· == true) [false,true,false,false,false,false,false,false,false,false,false]=1 from rfl]
    walk_at "rd"
    refine aB ?_
    walk_at "rd"
    refine mn (XF.kv "NoPlace" (by decide +kernel)) ?_
    walk_at "rd"
    refine aB ?_
    walk_at "rd"
    refine⟨bS (ag.of k6),?_⟩
    walk_at "rd"
    have hno:∀m b,m<1->([false,true,false,false,false,false,false,false,false,false,false]:List Bool)[m]?=some b->b≠true:=fun m b hm hb=>by
     have hm0:m=0:=by omega
     subst hm0
     cases hb
     exact Bool.false_ne_true
    refine⟨l6,_,true,1,rfl,rfl,ag.of k6,rfl,hno,by decide,?_⟩
    walk_at "rd"
    refine aB ?_
    walk_at "rd"
    refine⟨ai (by simp),ah fun l7 H7 e7 k7 _=>?_⟩
    walk_at "rd"
    refine⟨bS (ag.of (e7 _ _ k6)),?_⟩
    walk_at "rd"
    refine⟨l6,_,true,1,rfl,rfl,ag.of (e7 _ _ k6),rfl,hno,by decide,?_⟩
    refine aI (ag.of k7) (v:=.str (Str.ofString "place")) rfl ?_
    walk_at "rd"
    exact q H7 (eH1.trans (e16.trans e7))
   ·refine⟨XF.up "TooGreat" (by decide +kernel),XF.exk "TooGreat" (by decide +kernel),fun x hx=>?_⟩
    walk_at "rd"
    refine bg (b:=false) ((XF.kc "TooGreat" (by decide +kernel) "NoHouse" (by decide +kernel)).trans (by decide +kernel)) ?_
    walk_at "rd"
    refine bg (b:=false) ((XF.kc "TooGreat" (by decide +kernel) "NoPlace" (by decide +kernel)).trans (by decide +kernel)) ?_
    walk_at "rd"
    refine bg (b:=true) ((XF.kc "TooGreat" (by decide +kernel) "TooGreat" (by decide +kernel)).trans (by decide +kernel)) ?_
    walk_at "rd"
    refine bg (b:=false) ((XF.kc "TooGreat" (by decide +kernel) "NoStair" (by decide +kernel)).trans (by decide +kernel)) ?_
    walk_at "rd"
    refine⟨ai (by simp),ah fun l2 H2 e2 k2 _=>?_⟩
    walk_at "rd"
    refine bg (b:=false) ((XF.kc "TooGreat" (by decide +kernel) "NoDeed" (by decide +kernel)).trans (by decide +kernel)) ?_
    walk_at "rd"
    refine bg (b:=false) ((XF.kc "TooGreat" (by decide +kernel) "NoLine" (by decide +kernel)).trans (by decide +kernel)) ?_
    walk_at "rd"
    refine bg (b:=false) ((XF.kc "TooGreat" (by decide +kernel) "Endless" (by decide +kernel)).trans (by decide +kernel)) ?_
    walk_at "rd"
    refine bg (b:=false) ((XF.kc "TooGreat" (by decide +kernel) "NoText" (by decide +kernel)).trans (by decide +kernel)) ?_
    walk_at "rd"
    refine⟨ai (by simp),ah fun l3 H3 e3 k3 _=>?_⟩
    walk_at "rd"
    refine dX (e3 _ _ k2) k3 (ai (by simp)) (ah fun l4 H4 e4 k4 _=>?_)
    walk_at "rd"
    refine bg (b:=false) ((XF.kc "TooGreat" (by decide +kernel) "NotBare" (by decide +kernel)).trans (by decide +kernel)) ?_
    walk_at "rd"
    refine bg (b:=false) ((XF.kc "TooGreat" (by decide +kernel) "NoWalk" (by decide +kernel)).trans (by decide +kernel)) ?_
    walk_at "rd"
    refine bg (b:=false) ((XF.kc "TooGreat" (by decide +kernel) "NoWay" (by decide +kernel)).trans (by decide +kernel)) ?_
    walk_at "rd"
    refine⟨ai (by simp),ah fun l5 H5 e5 k5 _=>?_⟩
    walk_at "rd"
    refine dX (e5 _ _ k4) k5 (ai (by simp)) (ah fun l6 H6 e6 k6 _=>?_)
    have k6:H6 l6=some (.lst (List.map V.bl [false,false,true,false,false,false,false,false,false,false,false])):=k6
    have e16:Ext H1 H6:=e2.trans (e3.trans (e4.trans (e5.trans e6)))
    clear e2 e3 e4 e5 e6 k2 k3 k4 k5
    walk_at "rd"
    refine eV ?_
    walk_at "rd"
    refine⟨bS (ag.of k6),?_⟩
    walk_at "rd"
    refine⟨l6,_,true,rfl,rfl,ag.of k6,?_⟩
    rw[show List.countP (· == true) [false,false,true,false,false,false,false,false,false,false,false]=1 from rfl]
    walk_at "rd"
    refine aB ?_
    walk_at "rd"
    refine mn (XF.kv "TooGreat" (by decide +kernel)) ?_
    walk_at "rd"
    refine aB ?_
    walk_at "rd"
    refine⟨bS (ag.of k6),?_⟩
    walk_at "rd"
    have hno:∀m b,m<2->([false,false,true,false,false,false,false,false,false,false,false]:List Bool)[m]?=some b->b≠true:=fun m b hm hb=>by
     have hm0:m=0\/m=1:=by omega
     rcases hm0 with rfl | rfl<;>(cases hb;exact Bool.false_ne_true)
    refine⟨l6,_,true,2,rfl,rfl,ag.of k6,rfl,hno,by decide,?_⟩
    walk_at "rd"
    refine aB ?_
    walk_at "rd"
    refine⟨ai (by simp),ah fun l7 H7 e7 k7 _=>?_⟩
    walk_at "rd"
    refine⟨bS (ag.of (e7 _ _ k6)),?_⟩
    walk_at "rd"
    refine⟨l6,_,true,2,rfl,rfl,ag.of (e7 _ _ k6),rfl,hno,by decide,?_⟩
    refine aI (ag.of k7) (v:=.str (Str.ofString "great")) rfl ?_
    walk_at "rd"
    exact q H7 (eH1.trans (e16.trans e7))
theorem vF{K:EE}{H:Hp}{a:Addr}{ns:List Int}{k:Int}{Q:VK}{xe:XK}(h1:ag K H a (ns.map V.int))(h2:ns.length<=63)(h3:0<=k)(q:∀z,Q (.int z) H):lH K [.ref a,.int k] H Q xe:=⟨a,ns,k,rfl,h1,h2,h3,q⟩
theorem ne_self{z:Str}{H:Hp}{Q:VK}(h:Q (.bl false) H):iH (.str z) (.str z) H Q:=oj (by rw[decide_eq_true rfl];exact h)
theorem eI{z:Str}{L:List (Option V)}{H:Hp}{Q:VK}(h:Q (.bl false) H):tC (.str z) L H fun y H2=>iH (.str z) y H2 Q:=ne_self h
theorem BU{x:Int}(hx:0<=x){e:Int}(h0:0<=e)(h1:e<3):∃t:Int,bK [V.int 0,.int 1,.int x] e=some (.int t)/\0<=t:=by
 have:e=0\/e=1\/e=2:=by omega
 rcases this with rfl | rfl | rfl
 ·exact⟨0,rfl,by decide⟩
 ·exact⟨1,rfl,by decide⟩
 ·exact⟨x,rfl,hx⟩
def DR(H:Hp)(m:Int)(x:V):Prop:=∃r p q,x=.ref r/\H r=some (.tup [.int p,.int q])/\¬cv m p q
def wZ(H:Hp)(x:V):Prop:=∃r a b c,x=.ref r/\H r=some (.tup [.int a,.int b,.int c])/\0<=a/\a<=1900/\cc 2 a b c
section
variable {K:EE} {H:Hp} {way:Int} {v:V} {r sa:Addr} {p q a b c:Int} {Q:VK} {xe:XK} (w0:0<=way) (w2:way<=2) (hr:H r=some (.tup [.int p,.int q])) (hs:H sa=some (.tup [.int a,.int b,.int c])) (a0:0<=a) (a1:a<=1900)
include w0 w2 hr hs a0 a1
theorem CP(hv:dh H v)(k:∀H',Ext H H'->Q (.str "house") H'):gy K [.int way,v,.ref r,.ref sa] H Q xe:=⟨way,v,r,sa,p,q,a,b,c,_,rfl,w0,w2,hr,hs,a0,a1,.inl ⟨hv,rfl⟩,k⟩
variable {m:Int} {ws:List Way} (hv:aW H v m ws) (ok:HOuse m ws)
include hv ok
theorem qo(h:¬cv m p q)(k:∀H',Ext H H'->Q (.str "place") H'):gy K [.int way,v,.ref r,.ref sa] H Q xe:=⟨way,v,r,sa,p,q,a,b,c,_,rfl,w0,w2,hr,hs,a0,a1,.inr ⟨m,ws,hv,ok,.inl ⟨h,rfl⟩⟩,k⟩
theorem lX(h:cv m p q)(g:cc way a b c)(k:∀H',Ext H H'->Q (.str "great") H'):gy K [.int way,v,.ref r,.ref sa] H Q xe:=⟨way,v,r,sa,p,q,a,b,c,_,rfl,w0,w2,hr,hs,a0,a1,.inr ⟨m,ws,hv,ok,.inr ⟨h,.inl ⟨g,rfl⟩⟩⟩,k⟩
theorem mR(h:cv m p q)(g:¬cc way a b c)(k:∀H',Ext H H'->Q (.str "told") H'):gy K [.int way,v,.ref r,.ref sa] H Q xe:=⟨way,v,r,sa,p,q,a,b,c,_,rfl,w0,w2,hr,hs,a0,a1,.inr ⟨m,ws,hv,ok,.inr ⟨h,.inr ⟨g,rfl⟩⟩⟩,k⟩
end
def km:List Way:=[⟨0,"up",1,"a"⟩,⟨1,"down",0,"b"⟩]
theorem AK:HOuse 2 km where
 m1:=by decide
 m12:=by decide
 few:=by decide
 ok w hw:=by
  have:w=⟨0,"up",1,"a"⟩\/w=⟨1,"down",0,"b"⟩:=by simpa[km]using hw
  rcases this with rfl | rfl
  ·exact⟨show (0:Int)<=0 by decide,show (0:Int)<2 by decide,show (0:Int)<=1 by decide,show (1:Int)<2 by decide,ie,iu⟩
  ·exact⟨show (0:Int)<=1 by decide,show (1:Int)<2 by decide,show (0:Int)<=0 by decide,show (0:Int)<2 by decide,lg,gE⟩
 nd:=by decide +kernel
def i6(K:EE):Sp:=fun vs H Q _=>∃(a:Addr) (ns:List Int),vs=[.ref a]/\ag K H a (ns.map V.int)/\ns.length<=63/\∀H',Q (.bl true) H'
abbrev eM:Stmt:=stq 70
theorem pI:FnScope ["_law_script","_law_house_here","_law_draws_here","_law_edge","_law_good","_law_far","_law_low","_law_great","_law_way","_law_rooms","_law_sizes"] ["_law_script"] (aG eM):=⟨rfl,rfl,rfl,by decide +kernel,rfl,by decide +kernel,by decide +kernel⟩
theorem Bp{P:Program}{w:World}{K:EE}{mg:Str->Option Value}{base:Heap}{f:Addr}{fd:FuncData}(F:Fun K "law" "law" eM f fd)(T:Blt mg)(C__law_asked:Cal P w K mg base "_law_asked" 10 ["_law_way","_law_house_here","_law_rooms","_law_sizes"] (gy K))(C__law_bad:Cal P w K mg base "_law_bad" 1 ["_law_way","_law_house_here","_law_cell_here"] (qg K))(C__law_draws:Cal P w K mg base "_law_draws" 2 ["_law_cell_here","_law_widths","_law_prime"] (fQ K))(C__law_cell:Cal P w K mg base "_law_cell" 1 ["_law_script","_law_k"] (lH K))(C__law_house:Cal P w K mg base "_law_house" 4 ["_law_cell_here","_law_prime"] (qO K)):FnOk P w K mg base eP 11 f fd ["_law_script"] (i6 K):=by
 have nd:=(pI).nd
 refine F.ok pI (fun vs H Q E h=>?_) (fun cdv A outer s H vs Q E hr h=>?_)
 ·obtain⟨a,ns,rfl,_⟩:=h;rfl
 ·obtain⟨a,ns,rfl,ha,hl,q⟩:=h
  refine⟨_,(@ak _ _ _ _ _ (@aA _ _ 1 _ _ _ _ nd rfl (Or.inl rfl) (az C__law_house hr (@aa _ _ _ _ _ (az C__law_cell hr (@aa _ _ _ _ _ (pv 0) (@aa _ _ _ _ _ ae af rfl) rfl)) (@aa _ _ _ _ _ ae af rfl) rfl)) rfl (Or.inl rfl))
    (@ak _ _ _ _ _ (@aA _ _ 2 _ _ _ _ nd rfl (Or.inl rfl) (az C__law_draws hr (@aa _ _ _ _ _ (az C__law_cell hr (@aa _ _ _ _ _ (pv 0) (@aa _ _ _ _ _ ae af rfl) rfl)) (@aa _ _ _ _ _ (@aQ _ _ _ _ (@aa _ _ _ _ _ ae (@aa _ _ _ _ _ ae (@aa _ _ _ _ _ ae (@aa _ _ _ _ _ (aq eC ae ae) (@aa _ _ _ _ _ (aq eC ae ae) (@aa _ _ _ _ _ ae af rfl) rfl) rfl) rfl) rfl) rfl)) (@aa _ _ _ _ _ ae af rfl) rfl) rfl)) rfl (Or.inl rfl))
    (@ak _ _ _ _ _ (@aA _ _ 3 _ _ _ _ nd rfl (Or.inl rfl) (@LitE.pe _ _ _ (.tup (.cons .int (.cons (.tup (.cons (.tup (.cons .int (.cons .str (.cons .int (.cons .str .nil))))) (.cons (.tup (.cons .int (.cons .str (.cons .int (.cons .str .nil))))) .nil))) .nil)))) rfl (Or.inl rfl))
    (@ak _ _ _ _ _ (@aA _ _ 4 _ _ _ _ nd rfl (Or.inl rfl) (@aF _ _ _ _ _ (@aa _ _ _ _ _ (aq bP (@ao _ _ _ _ _ _ _ (aJ K) (pv 2) ae (fun _ _=>rfl)) (@ao _ _ _ _ _ _ _ (ay K) (pv 1) ae (fun _ _=>rfl))) (@aa _ _ _ _ _ (aq bP (@ao _ _ _ _ _ _ _ (aJ K) (pv 2) ae (fun _ _=>rfl)) (@ao _ _ _ _ _ _ _ (ay K) (pv 1) ae (fun _ _=>rfl))) af rfl) rfl)) rfl (Or.inl rfl))
    (@ak _ _ _ _ _ (@aA _ _ 5 _ _ _ _ nd rfl (Or.inl rfl) (aq aS (@ao _ _ _ _ _ _ _ (ay K) (pv 1) ae (fun _ _=>rfl)) (aq cR (@ao _ _ _ _ _ _ _ (aJ K) (pv 2) ae (fun _ _=>rfl)) (@ao _ _ _ _ _ _ _ (aJ K) (@aQ _ _ _ _ (@aa _ _ _ _ _ ae (@aa _ _ _ _ _ ae (@aa _ _ _ _ _ (aq eC ae ae) af rfl) rfl) rfl)) (@ao _ _ _ _ _ _ _ (aJ K) (pv 2) ae (fun _ _=>rfl)) (fun _ _=>rfl)))) rfl (Or.inl rfl))
    (@ak _ _ _ _ _ (@aA _ _ 6 _ _ _ _ nd rfl (Or.inl rfl) (aq cK (fV ft ae) (aq cR (@ao _ _ _ _ _ _ _ (aJ K) (pv 2) ae (fun _ _=>rfl)) (@ao _ _ _ _ _ _ _ (aJ K) (@aQ _ _ _ _ (@aa _ _ _ _ _ ae (@aa _ _ _ _ _ ae (@aa _ _ _ _ _ (aq eC ae ae) af rfl) rfl) rfl)) (@ao _ _ _ _ _ _ _ (aJ K) (pv 2) ae (fun _ _=>rfl)) (fun _ _=>rfl)))) rfl (Or.inl rfl))
    (@ak _ _ _ _ _ (@aA _ _ 7 _ _ _ _ nd rfl (Or.inl rfl) (@aF _ _ _ _ _ (@aa _ _ _ _ _ (aq aS ae (aq bP (@ao _ _ _ _ _ _ _ (aJ K) (pv 2) ae (fun _ _=>rfl)) ae)) (@aa _ _ _ _ _ (aq aS ae (@ao _ _ _ _ _ _ _ (aJ K) (pv 2) ae (fun _ _=>rfl))) (@aa _ _ _ _ _ ae af rfl) rfl) rfl)) rfl (Or.inl rfl))
    (@ak _ _ _ _ _ (bJ PassesOwn.never rfl (dC rfl T.range_ (@aa _ _ _ _ _ ae af rfl)) (aR (i:=8) nd rfl (Or.inl rfl)) (@ak _ _ _ _ _ (@br _ _ _ _ _ _ _ _ (aM cL (az C__law_asked hr (@aa _ _ _ _ _ (pv 8) (@aa _ _ _ _ _ (az C__law_bad hr (@aa _ _ _ _ _ (@ao _ _ _ _ _ _ _ (aJ K) (pv 2) ae (fun _ _=>rfl)) (@aa _ _ _ _ _ (pv 1) (@aa _ _ _ _ _ (@ao _ _ _ _ _ _ _ (aJ K) (pv 2) ae (fun _ _=>rfl)) af rfl) rfl) rfl)) (@aa _ _ _ _ _ (@aF _ _ _ _ _ (@aa _ _ _ _ _ (pv 6) (@aa _ _ _ _ _ (pv 5) af rfl) rfl)) (@aa _ _ _ _ _ (pv 7) af rfl) rfl) rfl) rfl)) av (aK _)) (@ar _ _ _ (@aC _ _ _ _ cn)) aU)
    (@ak _ _ _ _ _ (bJ PassesOwn.never rfl (dH K (@aQ _ _ _ _ (@aa _ _ _ _ _ (@aF _ _ _ _ _ (@aa _ _ _ _ _ (pv 6) (@aa _ _ _ _ _ (@ao _ _ _ _ _ _ _ (ay K) (pv 4) ae (fun _ _=>rfl)) af rfl) rfl)) (@aa _ _ _ _ _ (@aF _ _ _ _ _ (@aa _ _ _ _ _ (@ao _ _ _ _ _ _ _ (ay K) (pv 4) ae (fun _ _=>rfl)) (@aa _ _ _ _ _ (pv 6) af rfl) rfl)) (@aa _ _ _ _ _ (@aF _ _ _ _ _ (@aa _ _ _ _ _ (pv 5) (@aa _ _ _ _ _ (@ao _ _ _ _ _ _ _ (ay K) (pv 4) ae (fun _ _=>rfl)) af rfl) rfl)) (@aa _ _ _ _ _ (@aF _ _ _ _ _ (@aa _ _ _ _ _ (@ao _ _ _ _ _ _ _ (ay K) (pv 4) ae (fun _ _=>rfl)) (@aa _ _ _ _ _ (pv 5) af rfl) rfl)) (@aa _ _ _ _ _ (@aF _ _ _ _ _ (@aa _ _ _ _ _ (pv 5) (@aa _ _ _ _ _ (pv 6) af rfl) rfl)) af rfl) rfl) rfl) rfl) rfl))) (aR (i:=9) nd rfl (Or.inl rfl)) (@ar _ _ _ (@br _ _ _ _ _ _ _ _ (PW.pt (dn (aM cL (az C__law_asked hr (@aa _ _ _ _ _ (pv 8) (@aa _ _ _ _ _ (pv 1) (@aa _ _ _ _ _ (pv 9) (@aa _ _ _ _ _ (pv 7) af rfl) rfl) rfl) rfl)) av (aK _)) (dZ (aM cL (az C__law_asked hr (@aa _ _ _ _ _ (pv 8) (@aa _ _ _ _ _ (pv 1) (@aa _ _ _ _ _ (pv 9) (@aa _ _ _ _ _ (@aF _ _ _ _ _ (@aa _ _ _ _ _ ae (@aa _ _ _ _ _ ae (@aa _ _ _ _ _ ae af rfl) rfl) rfl)) af rfl) rfl) rfl) rfl)) av (aK _))))) (@ar _ _ _ (@aC _ _ _ _ cn)) aU)))
    (@ak _ _ _ _ _ (@br _ _ _ _ _ _ _ _ (PW.pt (dn (aM cL (az C__law_asked hr (@aa _ _ _ _ _ (pv 8) (@aa _ _ _ _ _ (pv 1) (@aa _ _ _ _ _ (pv 4) (@aa _ _ _ _ _ (@aF _ _ _ _ _ (@aa _ _ _ _ _ ae (@aa _ _ _ _ _ ae (@aa _ _ _ _ _ ae af rfl) rfl) rfl)) af rfl) rfl) rfl) rfl)) av (aK _)) (dZ (aM cL (az C__law_asked hr (@aa _ _ _ _ _ (pv 8) (@aa _ _ _ _ _ (pv 1) (@aa _ _ _ _ _ (pv 4) (@aa _ _ _ _ _ (@aF _ _ _ _ _ (@aa _ _ _ _ _ ae (@aa _ _ _ _ _ ae (@aa _ _ _ _ _ ae af rfl) rfl) rfl)) af rfl) rfl) rfl) rfl)) av (aK _))))) (@ar _ _ _ (@aC _ _ _ _ cn)) aU)
    (@ar _ _ _ (@br _ _ _ _ _ _ _ _ (aM cL (az C__law_asked hr (@aa _ _ _ _ _ (pv 8) (@aa _ _ _ _ _ (pv 3) (@aa _ _ _ _ _ (@aF _ _ _ _ _ (@aa _ _ _ _ _ ae (@aa _ _ _ _ _ ae af rfl) rfl)) (@aa _ _ _ _ _ (@aF _ _ _ _ _ (@aa _ _ _ _ _ ae (@aa _ _ _ _ _ ae (@aa _ _ _ _ _ ae af rfl) rfl) rfl)) af rfl) rfl) rfl) rfl)) av (aK _)) (@ar _ _ _ (@aC _ _ _ _ cn)) aU))))))
    (@ak _ _ _ _ _ (@br _ _ _ _ _ _ _ _ (PW.pt (dn (aM cL (az C__law_asked hr (@aa _ _ _ _ _ ae (@aa _ _ _ _ _ (pv 1) (@aa _ _ _ _ _ (pv 4) (@aa _ _ _ _ _ (pv 7) af rfl) rfl) rfl) rfl)) av (aK _)) (dZ (aM cL (az C__law_asked hr (@aa _ _ _ _ _ ae (@aa _ _ _ _ _ (pv 1) (@aa _ _ _ _ _ (pv 4) (@aa _ _ _ _ _ (@aF _ _ _ _ _ (@aa _ _ _ _ _ ae (@aa _ _ _ _ _ ae (@aa _ _ _ _ _ ae af rfl) rfl) rfl)) af rfl) rfl) rfl) rfl)) av (aK _))))) (@ar _ _ _ (@aC _ _ _ _ cn)) aU)
    (@ak _ _ _ _ _ (bJ PassesOwn.never rfl (dH K (@aQ _ _ _ _ (@aa _ _ _ _ _ (pv 7) (@aa _ _ _ _ _ (@aF _ _ _ _ _ (@aa _ _ _ _ _ ae (@aa _ _ _ _ _ ae (@aa _ _ _ _ _ ae af rfl) rfl) rfl)) (@aa _ _ _ _ _ (@aF _ _ _ _ _ (@aa _ _ _ _ _ ae (@aa _ _ _ _ _ (fV ft ae) (@aa _ _ _ _ _ ae af rfl) rfl) rfl)) (@aa _ _ _ _ _ (@aF _ _ _ _ _ (@aa _ _ _ _ _ ae (@aa _ _ _ _ _ ae (@aa _ _ _ _ _ (fV ft ae) af rfl) rfl) rfl)) (@aa _ _ _ _ _ (@aF _ _ _ _ _ (@aa _ _ _ _ _ ae (@aa _ _ _ _ _ ae (@aa _ _ _ _ _ ae af rfl) rfl) rfl)) (@aa _ _ _ _ _ (@aF _ _ _ _ _ (@aa _ _ _ _ _ ae (@aa _ _ _ _ _ (pv 6) (@aa _ _ _ _ _ (pv 5) af rfl) rfl) rfl)) (@aa _ _ _ _ _ (@aF _ _ _ _ _ (@aa _ _ _ _ _ ae (@aa _ _ _ _ _ ae (@aa _ _ _ _ _ (aq aS ae (@ao _ _ _ _ _ _ _ (aJ K) (pv 2) ae (fun _ _=>rfl))) af rfl) rfl) rfl)) af rfl) rfl) rfl) rfl) rfl) rfl) rfl))) (aR (i:=10) nd rfl (Or.inl rfl)) (@ar _ _ _ (@br _ _ _ _ _ _ _ _ (aM cL (az C__law_asked hr (@aa _ _ _ _ _ ae (@aa _ _ _ _ _ (pv 1) (@aa _ _ _ _ _ (pv 4) (@aa _ _ _ _ _ (pv 10) af rfl) rfl) rfl) rfl)) av (aK _)) (@ar _ _ _ (@aC _ _ _ _ cn)) aU)))
    (@ar _ _ _ (@aC _ _ _ _ cn)))))))))))),?_⟩
  walk_at "rd"
  refine vF ha hl (by decide) fun z=>?_
  walk_at "rd"
  refine⟨z,_,rfl,by decide,fun v m ws H1 e1 hv ok=>?_⟩
  have m1:=ok.m1
  have m2:=ok.m12
  walk_at "rd"
  refine vF (ha.ext e1) hl (by decide) fun z2=>?_
  walk_at "rd"
  refine⟨ai (by simp),ah fun w0 G1 f1 hw0 _=>?_⟩
  walk_at "rd"
  refine y9 [26,12,12,100000000,100000000,3] hw0 (by decide) (by decide) (by decide) fun dq ds H2 e2 hd _ hdl hdb=>?_
  have hdl6:ds.length=6:=hdl
  match ds,hdl6 with
  | [d0,d1,d2,d3,d4,d5],_=>
  have b0:=hdb 0 d0 26 rfl rfl
  have b3:=hdb 3 d3 100000000 rfl rfl
  have b4:=hdb 4 d4 100000000 rfl rfl
  have b5:=hdb 5 d5 3 rfl rfl
  have hv2:=hv.ext (f1.trans e2)
  clear hdb hdl hw0 f1 e2 hv e1
  obtain⟨hh,tt,rfl,k1,k2⟩:=id hv2
  walk_at "rd"
  refine⟨ai (by simp),ah fun x1 H3 e3 g3 _=>?_⟩
  walk_at "rd"
  refine⟨ai (by simp),ah fun x2 H4 e4 g4 _=>?_⟩
  walk_at "rd"
  refine⟨ai (by simp),ah fun x3 H5 e5 g5 _=>?_⟩
  walk_at "rd"
  refine⟨ai (by simp),ah fun ed H6 e6 g6 _=>?_⟩
  have al:aP H4 [x1,x2] km:=((aP.nil H4).snoc (w:=⟨0,"up",1,"a"⟩) (e4 _ _ g3)).snoc (w:=⟨1,"down",0,"b"⟩) g4
  have hE:aW H6 (.ref ed) 2 km:=aW.mk g6 (((al.ext e5).ways g5).ext e6)
  have e26:=e3.trans (e4.trans (e5.trans e6))
  have hd6:=e26 _ _ hd
  have hv6:=hv2.ext e26
  have k16:=e26 _ _ k1
  clear al g3 g4 g5 g6 e3 e4 e5 e6 e26 hd hv2 k1 k2
  walk_at "rd"
  refine aI (ag.of hd6) (v:=.int d1) rfl ?_
  walk_at "rd"
  refine ax (aj.of k16) (v:=.int m) rfl ?_
  try refine rd_I (show(0:Int)<m by omega) ?_
  walk_at "rd"
  refine aI (ag.of hd6) (v:=.int d2) rfl ?_
  walk_at "rd"
  refine ax (aj.of k16) (v:=.int m) rfl ?_
  try refine rd_I (show(0:Int)<m by omega) ?_
  walk_at "rd"
  have hR:cv m (d1 % m) (d2 % m):=⟨⟨Int.emod_nonneg _ (by omega),Int.emod_lt_of_pos _ (by omega)⟩,Int.emod_nonneg _ (by omega),Int.emod_lt_of_pos _ (by omega)⟩
  generalize d1 % m=p at hR ⊢
  generalize d2 % m=r at hR ⊢
  refine⟨ai (by simp),ah fun gd H7 e7 hgd _=>?_⟩
  walk_at "rd"
  refine ax (aj.of (e7 _ _ k16)) (v:=.int m) rfl ?_
  walk_at "rd"
  refine aI (ag.of (e7 _ _ hd6)) (v:=.int d3) rfl ?_
  walk_at "rd"
  refine⟨ai (by simp),ah fun l8 H8 e8 hl8 _=>?_⟩
  walk_at "rd"
  refine aI (ag.of ((e7.trans e8) _ _ hd6)) (v:=.int d5) rfl ?_
  obtain⟨t,ht,t0⟩:=BU (x:=10 ^ (50:Int).toNat) (by decide +kernel) b5.1 b5.2
  refine aI (ag.of hl8) ht ?_
  walk_at "rd"
  try refine rd_I (.inl ⟨by omega,by omega⟩) ?_
  walk_at "rd"
  have hf0:0<=d3*t:=Int.mul_nonneg b3.1 t0
  obtain⟨far,hfar⟩:∃far:Int,m+d3*t=far:=⟨_,rfl⟩
  rw[hfar]
  have hfm:m<=far:=by omega
  refine aI (ag.of ((e7.trans e8) _ _ hd6)) (v:=.int d4) rfl ?_
  walk_at "rd"
  refine⟨ai (by simp),ah fun l9 H9 e9 hl9 _=>?_⟩
  walk_at "rd"
  refine aI (ag.of ((e7.trans (e8.trans e9)) _ _ hd6)) (v:=.int d5) rfl ?_
  refine aI (ag.of hl9) ht ?_
  walk_at "rd"
  try refine rd_I (.inl ⟨by omega,by omega⟩) ?_
  walk_at "rd"
  have hl0:0<=d4*t:=Int.mul_nonneg b4.1 t0
  obtain⟨low,hlow⟩:∃low:Int,-1-d4*t=low:=⟨_,rfl⟩
  rw[hlow]
  have hlm:low<0:=by omega
  refine aI (ag.of ((e7.trans (e8.trans e9)) _ _ hd6)) (v:=.int d3) rfl ?_
  walk_at "rd"
  refine aI (ag.of ((e7.trans (e8.trans e9)) _ _ hd6)) (v:=.int d3) rfl ?_
  walk_at "rd"
  refine⟨ai (by simp),ah fun gr H10 e10 hgr _=>?_⟩
  obtain⟨ga,hga⟩:∃ga:Int,201+d3 % 9=ga:=⟨_,rfl⟩
  rw[hga]at hgr
  have ga1:200<ga/\ga<=1900:=by omega
  have e610:=e7.trans (e8.trans (e9.trans e10))
  have hd10:=e610 _ _ hd6
  have hv10:=hv6.ext e610
  have hE10:=hE.ext e610
  have hgd10:=(e8.trans (e9.trans e10)) _ _ hgd
  clear hl8 hl9 ht hf0 hl0 hfar hlow e610 e7 e8 e9 e10 hd6 hv6 hE hgd k16 hga
  walk_at "rd"
  generalize hσ:List.set _ 7 (some (V.ref gr))=σ0
  obtain rfl:σ0=[some (.ref a),some (.ref hh),some (.ref dq),some (.ref ed),some (.ref gd),some (.int far),some (.int low),some (.ref gr),none,none,none]:=hσ.symm
  refine dD ⟨by decide,by decide⟩ ?_
  refine forR (fun i σ H'=>∃k1 k2,σ=[some (.ref a),some (.ref hh),some (.ref dq),some (.ref ed),some (.ref gd),some (.int far),some (.int low),some (.ref gr),k1,k2,none]/\Ext H10 H') ⟨none,none,rfl,Ext.rfl' _⟩ ?_ ?_
  ·rintro i σ H11 hi ⟨k1,k2,rfl,e11⟩
   have hi3:i<3:=hi
   have w0:0<=(0:Int)+(i:Int):=by omega
   have w2:(0:Int)+(i:Int)<=2:=by omega
   have hv11:=hv10.ext e11
   walk_at "rd"
   refine aI (ag.of (e11 _ _ hd10)) (v:=.int d0) rfl ?_
   walk_at "rd"
   refine aI (ag.of (e11 _ _ hd10)) (v:=.int d3) rfl ?_
   walk_at "rd"
   refine⟨_,m,ws,d0,d3,rfl,b0.1,b0.2,b3.1,hv11,ok,fun x H12 e12 hx=>?_⟩
   walk_at "rd"
   refine⟨ai (by simp),ah fun r1 H13 e13 hr1 _=>?_⟩
   walk_at "rd"
   refine CP w0 w2 hr1 ((e11.trans (e12.trans e13)) _ _ hgr) (by omega) ga1.2 (hx.ext e13) fun H14 e14=>?_
   first | refine ne_self ?_ | refine eI ?_
   refine rd_exb (aw ?_)
   have e1114:=e12.trans (e13.trans e14)
   have e1014:=e11.trans e1114
   clear hr1 e12 e13 e14 hx
   walk_at "rd"
   refine ax (aj.of (e1014 _ _ hgd10)) (v:=.int r) rfl ?_
   walk_at "rd"
   refine⟨ai (by simp),ah fun y1 G1 f1 g1 _=>?_⟩
   walk_at "rd"
   refine ax (aj.of ((e1014.trans f1) _ _ hgd10)) (v:=.int p) rfl ?_
   walk_at "rd"
   refine⟨ai (by simp),ah fun y2 G2 f2 g2 _=>?_⟩
   walk_at "rd"
   refine ax (aj.of ((e1014.trans (f1.trans f2)) _ _ hgd10)) (v:=.int r) rfl ?_
   walk_at "rd"
   refine⟨ai (by simp),ah fun y3 G3 f3 g3 _=>?_⟩
   walk_at "rd"
   refine ax (aj.of ((e1014.trans (f1.trans (f2.trans f3))) _ _ hgd10)) (v:=.int p) rfl ?_
   walk_at "rd"
   refine⟨ai (by simp),ah fun y4 G4 f4 g4 _=>?_⟩
   walk_at "rd"
   refine⟨ai (by simp),ah fun y5 G5 f5 g5 _=>?_⟩
   walk_at "rd"
   refine⟨ai (by simp),ah fun yl G6 f6 g6 _=>?_⟩
   have hall:∀x∈[V.ref y1,.ref y2,.ref y3,.ref y4,.ref y5],DR G6 m x:=by
    intro x hx
    simp only[List.mem_cons,List.not_mem_nil,or_false]at hx
    rcases hx with rfl | rfl | rfl | rfl | rfl
    ·exact⟨y1,_,_,rfl,(f2.trans (f3.trans (f4.trans (f5.trans f6)))) _ _ g1,fun z=>by have:=z.1.1;omega⟩
    ·exact⟨y2,_,_,rfl,(f3.trans (f4.trans (f5.trans f6))) _ _ g2,fun z=>by have:=z.2.1;omega⟩
    ·exact⟨y3,_,_,rfl,(f4.trans (f5.trans f6)) _ _ g3,fun z=>by have:=z.1.2;omega⟩
    ·exact⟨y4,_,_,rfl,(f5.trans f6) _ _ g4,fun z=>by have:=z.2.2;omega⟩
    ·exact⟨y5,_,_,rfl,f6 _ _ g5,fun z=>by have:=z.1.2;omega⟩
   have e10g:=e1014.trans (f1.trans (f2.trans (f3.trans (f4.trans (f5.trans f6)))))
   clear g1 g2 g3 g4 g5 f1 f2 f3 f4 f5 f6 e1114 e1014
   generalize [V.ref y1,.ref y2,.ref y3,.ref y4,.ref y5]=xs at g6 hall
   walk_at "rd"
   refine dU (ag.of g6) ?_
   refine forL (xs:=xs) (fun j σ H'=>∃k2,σ=[some (.ref a),some (.ref hh),some (.ref dq),some (.ref ed),some (.ref gd),some (.int far),some (.int low),some (.ref gr),some (.int (0+(i:Int))),k2,none]/\Ext G6 H') ⟨_,rfl,Ext.rfl' _⟩ (fun j σ H' _ h=>by obtain⟨_,_,e⟩:=h;exact ag.of (e _ _ g6)) ?_ ?_
   ·rintro j x σ H15 hx ⟨k3,rfl,e15⟩
    obtain⟨ra,rp,rq,rfl,hra,hno⟩:=hall x (List.mem_of_getElem? hx)
    have e1015:=e10g.trans e15
    walk_at "rd"
    refine qo w0 w2 (e15 _ _ hra) (e1015 _ _ hgr) (by omega) ga1.2 (hv10.ext e1015) ok hno fun H16 e16=>?_
    first | refine ne_self ?_ | refine eI ?_
    refine rd_exb (aw ?_)
    walk_at "rd"
    refine⟨ai (by simp),ah fun z1 H17 e17 hz1 _=>?_⟩
    walk_at "rd"
    refine qo w0 w2 ((e15.trans (e16.trans e17)) _ _ hra) hz1 (by decide) (by decide) (hv10.ext (e1015.trans (e16.trans e17))) ok hno fun H18 e18=>?_
    first | refine ne_self ?_ | refine eI ?_
    refine rd_exb (aw ?_)
    walk_at "rd"
    exact⟨_,rfl,e15.trans (e16.trans (e17.trans e18))⟩
   ·rintro σ H15 ⟨k3,rfl,e15⟩
    have e1015:=e10g.trans e15
    walk_at "rd"
    refine⟨ai (by simp),ah fun z1 H16 e16 hz1 _=>?_⟩
    walk_at "rd"
    refine mR w0 w2 ((e1015.trans e16) _ _ hgd10) hz1 (by decide) (by decide) (hv10.ext (e1015.trans e16)) ok hR (by unfold cc;omega) fun H17 e17=>?_
    first | refine ne_self ?_ | refine eI ?_
    refine rd_exb (aw ?_)
    have e1017:=e1015.trans (e16.trans e17)
    walk_at "rd"
    refine⟨ai (by simp),ah fun z2 H18 e18 hz2 _=>?_⟩
    walk_at "rd"
    refine mR w0 w2 ((e1017.trans e18) _ _ hgd10) hz2 (by decide) (by decide) (hv10.ext (e1017.trans e18)) ok hR (by unfold cc;omega) fun H19 e19=>?_
    first | refine ne_self ?_ | refine eI ?_
    refine rd_exb (aw ?_)
    have e1019:=e1017.trans (e18.trans e19)
    walk_at "rd"
    refine⟨ai (by simp),ah fun z3 H20 e20 hz3 _=>?_⟩
    walk_at "rd"
    refine⟨ai (by simp),ah fun z4 H21 e21 hz4 _=>?_⟩
    walk_at "rd"
    refine mR w0 w2 (e21 _ _ hz3) hz4 (by decide) (by decide) (hE10.ext (e1019.trans (e20.trans e21))) AK ⟨⟨by decide,by decide⟩,by decide,by decide⟩ (by unfold cc;omega) fun H22 e22=>?_
    first | refine ne_self ?_ | refine eI ?_
    refine rd_exb (aw ?_)
    walk_at "rd"
    exact⟨_,_,rfl,e1019.trans (e20.trans (e21.trans e22))⟩
  ·rintro σ H11 ⟨k1,k2,rfl,e11⟩
   walk_at "rd"
   refine lX (way:=0) (by decide) (by decide) (e11 _ _ hgd10) (e11 _ _ hgr) (by omega) ga1.2 (hv10.ext e11) ok hR (.inl ⟨rfl,ga1.1⟩) fun H12 e12=>?_
   first | refine ne_self ?_ | refine eI ?_
   refine rd_exb (aw ?_)
   walk_at "rd"
   refine⟨ai (by simp),ah fun z1 H13 e13 hz1 _=>?_⟩
   have e1013:=e11.trans (e12.trans e13)
   walk_at "rd"
   refine lX (way:=0) (by decide) (by decide) (e1013 _ _ hgd10) hz1 (by decide) (by decide) (hv10.ext e1013) ok hR (.inl ⟨rfl,by decide⟩) fun H14 e14=>?_
   first | refine ne_self ?_ | refine eI ?_
   refine rd_exb (aw ?_)
   have e1014:=e1013.trans e14
   clear e12 e13 e14 e11 hz1 e1013
   walk_at "rd"
   refine⟨ai (by simp),ah fun y1 G1 f1 g1 _=>?_⟩
   walk_at "rd"
   refine⟨ai (by simp),ah fun y2 G2 f2 g2 _=>?_⟩
   walk_at "rd"
   refine⟨ai (by simp),ah fun y3 G3 f3 g3 _=>?_⟩
   walk_at "rd"
   refine⟨ai (by simp),ah fun y4 G4 f4 g4 _=>?_⟩
   walk_at "rd"
   refine⟨ai (by simp),ah fun y5 G5 f5 g5 _=>?_⟩
   walk_at "rd"
   have e105:=e1014.trans (f1.trans (f2.trans (f3.trans (f4.trans f5))))
   refine aI (ag.of (e105 _ _ hd10)) (v:=.int d3) rfl ?_
   walk_at "rd"
   refine⟨ai (by simp),ah fun y6 G6 f6 g6 _=>?_⟩
   walk_at "rd"
   refine⟨ai (by simp),ah fun yl G7 f7 g7 _=>?_⟩
   have f67:=f6.trans f7
   have hall:∀x∈[V.ref gr,.ref y1,.ref y2,.ref y3,.ref y4,.ref y5,.ref y6],wZ G7 x:=by
    intro x hx
    simp only[List.mem_cons,List.not_mem_nil,or_false]at hx
    rcases hx with rfl | rfl | rfl | rfl | rfl | rfl | rfl
    ·exact⟨gr,_,_,_,rfl,(e105.trans f67) _ _ hgr,by omega,ga1.2,.inr ⟨rfl,by omega⟩⟩
    ·exact⟨y1,_,_,_,rfl,(f2.trans (f3.trans (f4.trans (f5.trans f67)))) _ _ g1,by decide,by decide,.inr ⟨rfl,by decide⟩⟩
    ·exact⟨y2,_,_,_,rfl,(f3.trans (f4.trans (f5.trans f67))) _ _ g2,by decide,by decide,.inr ⟨rfl,by decide⟩⟩
    ·exact⟨y3,_,_,_,rfl,(f4.trans (f5.trans f67)) _ _ g3,by decide,by decide,.inr ⟨rfl,by decide⟩⟩
    ·exact⟨y4,_,_,_,rfl,(f5.trans f67) _ _ g4,by decide,by decide,.inr ⟨rfl,by decide⟩⟩
    ·exact⟨y5,_,_,_,rfl,f67 _ _ g5,by decide,by decide,.inr ⟨rfl,by omega⟩⟩
    ·exact⟨y6,_,_,_,rfl,f7 _ _ g6,by decide,by decide,.inr ⟨rfl,by omega⟩⟩
   have e107:=e105.trans f67
   clear g1 g2 g3 g4 g5 g6 f1 f2 f3 f4 f5 f6 f7 f67 e105 e1014
   generalize [V.ref gr,.ref y1,.ref y2,.ref y3,.ref y4,.ref y5,.ref y6]=xs at g7 hall
   walk_at "rd"
   refine dU (ag.of g7) ?_
   refine forL (xs:=xs) (fun j σ H'=>∃k3,σ=[some (.ref a),some (.ref hh),some (.ref dq),some (.ref ed),some (.ref gd),some (.int far),some (.int low),some (.ref gr),k1,k2,k3]/\Ext G7 H') ⟨_,rfl,Ext.rfl' _⟩ (fun j σ H' _ h=>by obtain⟨_,_,e⟩:=h;exact ag.of (e _ _ g7)) ?_ ?_
   ·rintro j x σ H15 hx ⟨k3,rfl,e15⟩
    obtain⟨ra,sa,sb,sc,rfl,hra,a0,a1,hg⟩:=hall x (List.mem_of_getElem? hx)
    have e1015:=e107.trans e15
    walk_at "rd"
    refine lX (way:=2) (by decide) (by decide) (e1015 _ _ hgd10) (e15 _ _ hra) a0 a1 (hv10.ext e1015) ok hR hg fun H16 e16=>?_
    first | refine ne_self ?_ | refine eI ?_
    refine rd_exb (aw ?_)
    walk_at "rd"
    exact⟨_,rfl,e15.trans e16⟩
   ·rintro σ H15 ⟨k3,rfl,e15⟩
    walk_at "rd"
    exact q _
abbrev Dq(K:EE)(mg:Str->Option Value)(x:Str)(st:Stmt):Prop:=∃(f:Addr) (fd:FuncData),mg x=some (.ref f)/\Fun K x x st f fd
theorem dq{K:EE}{h:Heap}{mg:Str->Option Value}(X:K.In h)(G:h.Ns mainGlobals mg){x:Str}{st:Stmt}{f:Addr}{od an:Option Addr}{sl:Array (Option Value)}{oc kV dc pm cd ct:Value}(a:PySem.W.nsIn K mainGlobals x=some (some (.ref f)))(l:K.lookup f=some ⟨oc,od,.func (PySem.W.fnOf x x (fB st) (dS st) (aG st) .none kV dc pm an cd ct),sl⟩)(c:PySem.W.codeIn K cd x=true)(k:PySem.W.keepIn K (.ref f)=true):Dq K mg x st:=⟨f,_,PySem.W.mg_of X G a,sP (st:=st) l c k⟩
theorem all_mk{l:PySem.W.OpenLaw}{w:World}{K:EE}{h:Heap}{mg:Str->Option Value}{fa:Addr}(X:K.In h)(G:h.Ns mainGlobals mg)(hfa:mg "law" = some (.ref fa))
  (d0:Dq K mg "share_one" i7)
  (d1:Dq K mg "led_bits" jn)
  (d2:Dq K mg "led_on" ky)
  (d3:Dq K mg "longer_beginnings" iZ)
  (d4:Dq K mg "alone_at_zero" jN)
  (d5:Dq K mg "ways_of_sign" kJ)
  (d6:Dq K mg "ways_by_sign" kX)
  (d7:Dq K mg "words_of_length" kl)
  (d8:Dq K mg "turned_way" kO)
  (d9:Dq K mg "is_sign" jz)
  (d10:Dq K mg "is_deed" jj)
  (d11:Dq K mg "is_whole" jP)
  (d12:Dq K mg "is_room" jW)
  (d13:Dq K mg "is_way" kL)
  (d14:Dq K mg "are_ways" jG)
  (d15:Dq K mg "is_house" kf)
  (d16:Dq K mg "refuse_no_house" kA)
  (d17:Dq K mg "turned_about" i4)
  (d18:Dq K mg "places_to_end" kE)
  (d19:Dq K mg "refuse_bad_rooms" ko)
  (d20:Dq K mg "first_words" jD)
  (d21:Dq K mg "walk_back" jJ)
  (d22:Dq K mg "is_open" iY)
  (d23:Dq K mg "raised_by" kI)
  (d24:Dq K mg "led_to" jq)
  (d25:Dq K mg "counts_by_room" j8)
  (d26:Dq K mg "greatest_met" kS)
  (d27:Dq K mg "found_from" jY)
  (d28:Dq K mg "sought_walk" jI)
  (d29:Dq K mg "refuse_bad_places" kB)
  (d30:Dq K mg "shortest" j9)
  (d31:Dq K mg "first_word" kF)
  (d32:Dq K mg "reads" jO)
  (d33:Dq K mg "_law_asked" kY)
  (d34:Dq K mg "_law_bad" kW)
  (d35:Dq K mg "_law_mixed" jR)
  (d36:Dq K mg "_law_draws" kN)
  (d37:Dq K mg "_law_cell" jA)
  (d38:Dq K mg "_law_unlike" jF)
  (d39:Dq K mg "_law_drawn_house" lb)
  (d40:Dq K mg "_law_gate_house" ki)
  (d41:Dq K mg "_law_ring_house" jo)
  (d42:Dq K mg "_law_spare" jb)
  (d43:Dq K mg "_law_house" jv)
  {f44:Addr} {od44 an44:Option Addr} {sl44:Array (Option Value)} {oc44 kV44 dc44 pm44 cd44 ct44:Value} (a44:PySem.W.nsIn K mainGlobals "law" = some (some (.ref f44))) (l44:K.lookup f44=some ⟨oc44,od44,.func (PySem.W.fnOf "law" "law" (fB eM) (dS eM) (aG eM) .none kV44 dc44 pm44 an44 cd44 ct44),sl44⟩) (c44:PySem.W.codeIn K cd44 "law" = true) (k44:PySem.W.keepIn K (.ref f44)=true)
  (z0:PySem.W.nsIn K mainGlobals "len" = some none)
  (z1:PySem.W.nsIn K mainGlobals "isinstance" = some none)
  (z2:PySem.W.nsIn K mainGlobals "tuple" = some none)
  (z3:PySem.W.nsIn K mainGlobals "list" = some none)
  (z4:PySem.W.nsIn K mainGlobals "int" = some none)
  (z5:PySem.W.nsIn K mainGlobals "bool" = some none)
  (z6:PySem.W.nsIn K mainGlobals "range" = some none)
  (z7:PySem.W.nsIn K mainGlobals "zip" = some none)
  (z8:PySem.W.nsIn K mainGlobals "max" = some none)
  (z9:PySem.W.nsIn K mainGlobals "min" = some none)
  (z10:PySem.W.nsIn K mainGlobals "abs" = some none)
  (z11:PySem.W.nsIn K mainGlobals "all" = some none)
  (z12:PySem.W.nsIn K mainGlobals "ValueError" = some none)
  (z13:PySem.W.nsIn K mainGlobals "enumerate" = some none)
  (z14:PySem.W.nsIn K mainGlobals "set" = some none)
  (z15:PySem.W.nsIn K mainGlobals "str" = some none)
  (z16:PySem.W.nsIn K mainGlobals "reversed" = some none)
  (z17:PySem.W.nsIn K mainGlobals "any" = some none)
  (z18:PySem.W.nsIn K mainGlobals "sorted" = some none)
  {t0:Tok} (v0:PySem.W.nsIn K mainGlobals "GREATEST_WAYS" = some (some (.int 100 t0)))
  {t1:Tok} (v1:PySem.W.nsIn K mainGlobals "GREATEST_MANY" = some (some (.int 12 t1)))
  {t2:Tok} (v2:PySem.W.nsIn K mainGlobals "MOST_WORDS" = some (some (.int 200 t2)))
  {t3:Tok} (v3:PySem.W.nsIn K mainGlobals "LONGEST_WORD" = some (some (.int 40 t3)))
  {t4:Tok} (v4:PySem.W.nsIn K mainGlobals "GREATEST_NUMBER" = some (some (.int 1000 t4)))
  {t5:Tok} (v5:PySem.W.nsIn K mainGlobals "LONGEST_TEXT" = some (some (.int 200 t5)))
  {e0:Addr} {q0_0 u0_0 q0_1 u0_1 q0_2 u0_2 q0_3 u0_3:Tok} {ep0:Nat} (x0:PySem.W.nsIn K mainGlobals "TURNED" = some (some (.ref e0))) (y0:K.lookup e0=some (gn w [("up",q0_0,.str "down" u0_0),("down",q0_1,.str "up" u0_1),("stay",q0_2,.str "stay" u0_2),("zero",q0_3,.str "zero" u0_3)] ep0)) (w0:(e0 == sysModules)=false)
  {e1:Addr} {q1_0 u1_0 q1_1 u1_1 q1_2 u1_2 q1_3 u1_3:Tok} {ep1:Nat} (x1:PySem.W.nsIn K mainGlobals "RAISED" = some (some (.ref e1))) (y1:K.lookup e1=some (gn w [("up",q1_0,.int (1) u1_0),("down",q1_1,.int (-1) u1_1),("stay",q1_2,.int (0) u1_2),("zero",q1_3,.int (0) u1_3)] ep1)) (w1:(e1 == sysModules)=false)
  (hxf:nk K fI fH=true)
  : ∃fd:FuncData,(∀(s:Shared) (v:Value),BindsTo s fd ⟨[v],[]⟩ [("_law_script",v)])/\∀base:Heap,K.In base->base.Ns mainGlobals mg->FnOk l.prog w K mg base eP 11 fa fd ["_law_script"] (i6 K):=by
 have e:=hfa.symm.trans (PySem.W.mg_of X G a44)
 cases e
 have T:Blt mg:=⟨PySem.W.mg_none_of X G z0,PySem.W.mg_none_of X G z1,PySem.W.mg_none_of X G z2,PySem.W.mg_none_of X G z3,PySem.W.mg_none_of X G z4,PySem.W.mg_none_of X G z5,PySem.W.mg_none_of X G z6,PySem.W.mg_none_of X G z7,PySem.W.mg_none_of X G z8,PySem.W.mg_none_of X G z9,PySem.W.mg_none_of X G z10,PySem.W.mg_none_of X G z11,PySem.W.mg_none_of X G z12,PySem.W.mg_none_of X G z13,PySem.W.mg_none_of X G z14,PySem.W.mg_none_of X G z15,PySem.W.mg_none_of X G z16,PySem.W.mg_none_of X G z17,PySem.W.mg_none_of X G z18⟩
 have D0:Dfn K mg "share_one" i7 ["places","others"]:=let ⟨f,fd,a,F⟩:=d0;⟨f,fd,a,F,F.binds (ps:=["places","others"]) fun _ _ _ _ _ _ us hl=>match us,hl with | [_,_],_=>rfl⟩
 have D1:Dfn K mg "led_bits" jn ["deed","bits"]:=let ⟨f,fd,a,F⟩:=d1;⟨f,fd,a,F,F.binds (ps:=["deed","bits"]) fun _ _ _ _ _ _ us hl=>match us,hl with | [_,_],_=>rfl⟩
 have D2:Dfn K mg "led_on" ky ["ways","places"]:=let ⟨f,fd,a,F⟩:=d2;⟨f,fd,a,F,F.binds (ps:=["ways","places"]) fun _ _ _ _ _ _ us hl=>match us,hl with | [_,_],_=>rfl⟩
 have D3:Dfn K mg "longer_beginnings" iZ ["signs","begun","ends"]:=let ⟨f,fd,a,F⟩:=d3;⟨f,fd,a,F,F.binds (ps:=["signs","begun","ends"]) fun _ _ _ _ _ _ us hl=>match us,hl with | [_,_,_],_=>rfl⟩
 have D4:Dfn K mg "alone_at_zero" jN ["house","room"]:=let ⟨f,fd,a,F⟩:=d4;⟨f,fd,a,F,F.binds (ps:=["house","room"]) fun _ _ _ _ _ _ us hl=>match us,hl with | [_,_],_=>rfl⟩
 have D5:Dfn K mg "ways_of_sign" kJ ["house","sign"]:=let ⟨f,fd,a,F⟩:=d5;⟨f,fd,a,F,F.binds (ps:=["house","sign"]) fun _ _ _ _ _ _ us hl=>match us,hl with | [_,_],_=>rfl⟩
 have D6:Dfn K mg "ways_by_sign" kX ["house"]:=let ⟨f,fd,a,F⟩:=d6;⟨f,fd,a,F,F.binds (ps:=["house"]) fun _ _ _ _ _ _ us hl=>match us,hl with | [_],_=>rfl⟩
 have D7:Dfn K mg "words_of_length" kl ["house","p","to_end","length","many"]:=let ⟨f,fd,a,F⟩:=d7;⟨f,fd,a,F,F.binds (ps:=["house","p","to_end","length","many"]) fun _ _ _ _ _ _ us hl=>match us,hl with | [_,_,_,_,_],_=>rfl⟩
 have D8:Dfn K mg "turned_way" kO ["way"]:=let ⟨f,fd,a,F⟩:=d8;⟨f,fd,a,F,F.binds (ps:=["way"]) fun _ _ _ _ _ _ us hl=>match us,hl with | [_],_=>rfl⟩
 have D9:Dfn K mg "is_sign" jz ["thing"]:=let ⟨f,fd,a,F⟩:=d9;⟨f,fd,a,F,F.binds (ps:=["thing"]) fun _ _ _ _ _ _ us hl=>match us,hl with | [_],_=>rfl⟩
 have D10:Dfn K mg "is_deed" jj ["thing"]:=let ⟨f,fd,a,F⟩:=d10;⟨f,fd,a,F,F.binds (ps:=["thing"]) fun _ _ _ _ _ _ us hl=>match us,hl with | [_],_=>rfl⟩
 have D11:Dfn K mg "is_whole" jP ["thing"]:=let ⟨f,fd,a,F⟩:=d11;⟨f,fd,a,F,F.binds (ps:=["thing"]) fun _ _ _ _ _ _ us hl=>match us,hl with | [_],_=>rfl⟩
 have D12:Dfn K mg "is_room" jW ["thing","many"]:=let ⟨f,fd,a,F⟩:=d12;⟨f,fd,a,F,F.binds (ps:=["thing","many"]) fun _ _ _ _ _ _ us hl=>match us,hl with | [_,_],_=>rfl⟩
 have D13:Dfn K mg "is_way" kL ["thing","many"]:=let ⟨f,fd,a,F⟩:=d13;⟨f,fd,a,F,F.binds (ps:=["thing","many"]) fun _ _ _ _ _ _ us hl=>match us,hl with | [_,_],_=>rfl⟩
 have D14:Dfn K mg "are_ways" jG ["thing","many"]:=let ⟨f,fd,a,F⟩:=d14;⟨f,fd,a,F,F.binds (ps:=["thing","many"]) fun _ _ _ _ _ _ us hl=>match us,hl with | [_,_],_=>rfl⟩
 have D15:Dfn K mg "is_house" kf ["thing"]:=let ⟨f,fd,a,F⟩:=d15;⟨f,fd,a,F,F.binds (ps:=["thing"]) fun _ _ _ _ _ _ us hl=>match us,hl with | [_],_=>rfl⟩
 have D16:Dfn K mg "refuse_no_house" kA ["thing"]:=let ⟨f,fd,a,F⟩:=d16;⟨f,fd,a,F,F.binds (ps:=["thing"]) fun _ _ _ _ _ _ us hl=>match us,hl with | [_],_=>rfl⟩
 have D17:Dfn K mg "turned_about" i4 ["house"]:=let ⟨f,fd,a,F⟩:=d17;⟨f,fd,a,F,F.binds (ps:=["house"]) fun _ _ _ _ _ _ us hl=>match us,hl with | [_],_=>rfl⟩
 have D18:Dfn K mg "places_to_end" kE ["house","room","length"]:=let ⟨f,fd,a,F⟩:=d18;⟨f,fd,a,F,F.binds (ps:=["house","room","length"]) fun _ _ _ _ _ _ us hl=>match us,hl with | [_,_,_],_=>rfl⟩
 have D19:Dfn K mg "refuse_bad_rooms" ko ["house","p","q"]:=let ⟨f,fd,a,F⟩:=d19;⟨f,fd,a,F,F.binds (ps:=["house","p","q"]) fun _ _ _ _ _ _ us hl=>match us,hl with | [_,_,_],_=>rfl⟩
 have D20:Dfn K mg "first_words" jD ["house","p","q","length","many"]:=let ⟨f,fd,a,F⟩:=d20;⟨f,fd,a,F,F.binds (ps:=["house","p","q","length","many"]) fun _ _ _ _ _ _ us hl=>match us,hl with | [_,_,_,_,_],_=>rfl⟩
 have D21:Dfn K mg "walk_back" jJ ["found","goal"]:=let ⟨f,fd,a,F⟩:=d21;⟨f,fd,a,F,F.binds (ps:=["found","goal"]) fun _ _ _ _ _ _ us hl=>match us,hl with | [_,_],_=>rfl⟩
 have D22:Dfn K mg "is_open" iY ["way","place"]:=let ⟨f,fd,a,F⟩:=d22;⟨f,fd,a,F,F.binds (ps:=["way","place"]) fun _ _ _ _ _ _ us hl=>match us,hl with | [_,_],_=>rfl⟩
 have D23:Dfn K mg "raised_by" kI ["way"]:=let ⟨f,fd,a,F⟩:=d23;⟨f,fd,a,F,F.binds (ps:=["way"]) fun _ _ _ _ _ _ us hl=>match us,hl with | [_],_=>rfl⟩
 have D24:Dfn K mg "led_to" jq ["way","place"]:=let ⟨f,fd,a,F⟩:=d24;⟨f,fd,a,F,F.binds (ps:=["way","place"]) fun _ _ _ _ _ _ us hl=>match us,hl with | [_,_],_=>rfl⟩
 have D25:Dfn K mg "counts_by_room" j8 ["house"]:=let ⟨f,fd,a,F⟩:=d25;⟨f,fd,a,F,F.binds (ps:=["house"]) fun _ _ _ _ _ _ us hl=>match us,hl with | [_],_=>rfl⟩
 have D26:Dfn K mg "greatest_met" kS ["house","place","goal"]:=let ⟨f,fd,a,F⟩:=d26;⟨f,fd,a,F,F.binds (ps:=["house","place","goal"]) fun _ _ _ _ _ _ us hl=>match us,hl with | [_,_,_],_=>rfl⟩
 have D27:Dfn K mg "found_from" jY ["house","place","goal"]:=let ⟨f,fd,a,F⟩:=d27;⟨f,fd,a,F,F.binds (ps:=["house","place","goal"]) fun _ _ _ _ _ _ us hl=>match us,hl with | [_,_,_],_=>rfl⟩
 have D28:Dfn K mg "sought_walk" jI ["house","place","goal"]:=let ⟨f,fd,a,F⟩:=d28;⟨f,fd,a,F,F.binds (ps:=["house","place","goal"]) fun _ _ _ _ _ _ us hl=>match us,hl with | [_,_,_],_=>rfl⟩
 have D29:Dfn K mg "refuse_bad_places" kB ["house","places"]:=let ⟨f,fd,a,F⟩:=d29;⟨f,fd,a,F,F.binds (ps:=["house","places"]) fun _ _ _ _ _ _ us hl=>match us,hl with | [_,_],_=>rfl⟩
 have D30:Dfn K mg "shortest" j9 ["house","place","goal"]:=let ⟨f,fd,a,F⟩:=d30;⟨f,fd,a,F,F.binds (ps:=["house","place","goal"]) fun _ _ _ _ _ _ us hl=>match us,hl with | [_,_,_],_=>rfl⟩
 have D31:Dfn K mg "first_word" kF ["house","p","q"]:=let ⟨f,fd,a,F⟩:=d31;⟨f,fd,a,F,F.binds (ps:=["house","p","q"]) fun _ _ _ _ _ _ us hl=>match us,hl with | [_,_,_],_=>rfl⟩
 have D32:Dfn K mg "reads" jO ["house","p","q","text"]:=let ⟨f,fd,a,F⟩:=d32;⟨f,fd,a,F,F.binds (ps:=["house","p","q","text"]) fun _ _ _ _ _ _ us hl=>match us,hl with | [_,_,_,_],_=>rfl⟩
 have D33:Dfn K mg "_law_asked" kY ["_law_way","_law_house_here","_law_rooms","_law_sizes"]:=let ⟨f,fd,a,F⟩:=d33;⟨f,fd,a,F,F.binds (ps:=["_law_way","_law_house_here","_law_rooms","_law_sizes"]) fun _ _ _ _ _ _ us hl=>match us,hl with | [_,_,_,_],_=>rfl⟩
 have D34:Dfn K mg "_law_bad" kW ["_law_way","_law_house_here","_law_cell_here"]:=let ⟨f,fd,a,F⟩:=d34;⟨f,fd,a,F,F.binds (ps:=["_law_way","_law_house_here","_law_cell_here"]) fun _ _ _ _ _ _ us hl=>match us,hl with | [_,_,_],_=>rfl⟩
 have D35:Dfn K mg "_law_mixed" jR ["_law_cell_here","_law_k","_law_prime"]:=let ⟨f,fd,a,F⟩:=d35;⟨f,fd,a,F,F.binds (ps:=["_law_cell_here","_law_k","_law_prime"]) fun _ _ _ _ _ _ us hl=>match us,hl with | [_,_,_],_=>rfl⟩
 have D36:Dfn K mg "_law_draws" kN ["_law_cell_here","_law_widths","_law_prime"]:=let ⟨f,fd,a,F⟩:=d36;⟨f,fd,a,F,F.binds (ps:=["_law_cell_here","_law_widths","_law_prime"]) fun _ _ _ _ _ _ us hl=>match us,hl with | [_,_,_],_=>rfl⟩
 have D37:Dfn K mg "_law_cell" jA ["_law_script","_law_k"]:=let ⟨f,fd,a,F⟩:=d37;⟨f,fd,a,F,F.binds (ps:=["_law_script","_law_k"]) fun _ _ _ _ _ _ us hl=>match us,hl with | [_,_],_=>rfl⟩
 have D38:Dfn K mg "_law_unlike" jF ["_law_ways"]:=let ⟨f,fd,a,F⟩:=d38;⟨f,fd,a,F,F.binds (ps:=["_law_ways"]) fun _ _ _ _ _ _ us hl=>match us,hl with | [_],_=>rfl⟩
 have D39:Dfn K mg "_law_drawn_house" lb ["_law_cell_here","_law_prime"]:=let ⟨f,fd,a,F⟩:=d39;⟨f,fd,a,F,F.binds (ps:=["_law_cell_here","_law_prime"]) fun _ _ _ _ _ _ us hl=>match us,hl with | [_,_],_=>rfl⟩
 have D40:Dfn K mg "_law_gate_house" ki ["_law_cell_here","_law_prime"]:=let ⟨f,fd,a,F⟩:=d40;⟨f,fd,a,F,F.binds (ps:=["_law_cell_here","_law_prime"]) fun _ _ _ _ _ _ us hl=>match us,hl with | [_,_],_=>rfl⟩
 have D41:Dfn K mg "_law_ring_house" jo ["_law_cell_here","_law_prime"]:=let ⟨f,fd,a,F⟩:=d41;⟨f,fd,a,F,F.binds (ps:=["_law_cell_here","_law_prime"]) fun _ _ _ _ _ _ us hl=>match us,hl with | [_,_],_=>rfl⟩
 have D42:Dfn K mg "_law_spare" jb ["_law_cell_here","_law_width"]:=let ⟨f,fd,a,F⟩:=d42;⟨f,fd,a,F,F.binds (ps:=["_law_cell_here","_law_width"]) fun _ _ _ _ _ _ us hl=>match us,hl with | [_,_],_=>rfl⟩
 have D43:Dfn K mg "_law_house" jv ["_law_cell_here","_law_prime"]:=let ⟨f,fd,a,F⟩:=d43;⟨f,fd,a,F,F.binds (ps:=["_law_cell_here","_law_prime"]) fun _ _ _ _ _ _ us hl=>match us,hl with | [_,_],_=>rfl⟩
 refine⟨PySem.W.fnOf "law" "law" (fB eM) (dS eM) (aG eM) .none kV44 dc44 pm44 an44 cd44 ct44,fun s v=>.of_eq rfl,fun base KB GB=>?_⟩
 have XF:Xf K mg base fI fH:=zy KB GB hxf
 have C0:=@Cf l.prog w K mg base D0 T
 have C1:=@zK l.prog w K mg base D1 T
 have C2:=@Bx l.prog w K mg base D2 T C1
 have C3:=@xF l.prog w K mg base D3 T C0 C2
 have C4:=@DJ l.prog w K mg base D4 T
 have C5:=@AS l.prog w K mg base D5 T
 have C6:=@w8 l.prog w K mg base D6 T C5
 have C7:=@B5 l.prog w K mg base D7 T C3 C0 C4 C6
 have C8:=@DF l.prog w K mg base D8 T ⟨_,PySem.W.mg_of X G x0,oK y0 w0⟩
 have C9:=@zE l.prog w K mg base D9 T
 have C10:=@Cz l.prog w K mg base D10 T ⟨_,PySem.W.mg_of X G x0,oK y0 w0⟩
 have C11:=@zc l.prog w K mg base D11 T
 have C12:=@Ao l.prog w K mg base D12 T C11
 have C13:=@xX l.prog w K mg base D13 T C9 C10 C12
 have C14:=@Bw l.prog w K mg base D14 T ⟨_,PySem.W.mg_of X G v0⟩ C13
 have C15:=@yD l.prog w K mg base D15 T ⟨_,PySem.W.mg_of X G v1⟩ C14 C11
 have C16:CalX l.prog w K mg base "refuse_no_house" 6 ["thing"] (fJ K):=BW D16 T XF C15
 have C17:=@xY l.prog w K mg base D17 T C8 C16.cal
 have C18:=@yp l.prog w K mg base D18 T C2 C4 C17
 have C19:CalX l.prog w K mg base "refuse_bad_rooms" 7 ["house","p","q"] (fA K):=Aw D19 T XF C12 C16
 have C20:CalX l.prog w K mg base "first_words" 9 ["house","p","q","length","many"] (my K):=Bh D20 T ⟨_,PySem.W.mg_of X G v2⟩ ⟨_,PySem.W.mg_of X G v3⟩ XF C7 C18 C19
 have C21:=@yF l.prog w K mg base D21 T
 have C22:=@yf l.prog w K mg base D22 T
 have C23:=@xH l.prog w K mg base D23 T ⟨_,PySem.W.mg_of X G x1,CW y1 w1⟩
 have C24:=@Bn l.prog w K mg base D24 T C23
 have C25:=@Ds l.prog w K mg base D25 T
 have C26:=@A7 l.prog w K mg base D26 T
 have C27:=@BE l.prog w K mg base D27 T C22 C24 C25 C26
 have C28:=@DX l.prog w K mg base D28 T C21 C27
 have C29:=@yb l.prog w K mg base D29 T ⟨_,PySem.W.mg_of X G v4⟩ C12
 have C30:=@BK l.prog w K mg base D30 T C28 C29 C16.cal
 have C31:CalX l.prog w K mg base "first_word" 9 ["house","p","q"] (nY K):=xa D31 T C7 C18 C30 C19
 have C32:CalX l.prog w K mg base "reads" 8 ["house","p","q","text"] (ly K):=B8 D32 T ⟨_,PySem.W.mg_of X G v5⟩ XF C0 C4 C2 C5 C19
 have C33:=@wV l.prog w K mg base D33 T XF C20 C31 C32
 have C34:=@As l.prog w K mg base D34 T
 have C35:=@Ac l.prog w K mg base D35 T
 have C36:=@Dp l.prog w K mg base D36 T C35
 have C37:=@yM l.prog w K mg base D37 T
 have C38:=@zd l.prog w K mg base D38 T
 have C39:=@xh l.prog w K mg base D39 T C38 C36
 have C40:=@Au l.prog w K mg base D40 T C38 C36
 have C41:=@CO l.prog w K mg base D41 T C36
 have C42:=@Ep l.prog w K mg base D42 T
 have C43:=@DL l.prog w K mg base D43 T C39 C40 C41 C42 C36
 exact Bp (sP (st:=eM) l44 c44 k44) T C33 C34 C36 C37 C43
theorem walk{l:PySem.W.OpenLaw}{q:Program}{loose:List Str}{XP:(Str->Option Value)->Heap->Prop}{YP:World->Heap->Prop}{d:DefRec}{K:Params->EE}(hn:l.most=some 63)(hdf:d.params.defaults=[])
  (hY:∀(w:World) (h:Heap),YP w h->(K w.params).In h)
  (F:∀(w:World) (mg:Str->Option Value) (fa:Addr) (h:Heap),(K w.params).In h->h.Ns mainGlobals mg->mg d.name=some (.ref fa) →
   ∃fd:FuncData,(∀(s:Shared) (u:Value),BindsTo s fd ⟨[u],[]⟩ [("_law_script",u)])/\∀base:Heap,(K w.params).In base->base.Ns mainGlobals mg->FnOk l.prog w (K w.params) mg base eP 11 fa fd ["_law_script"] (i6 (K w.params))) :
  PySem.W.WalkO q loose XP YP l.row.toRowW d [] (fun f vs=>PySem.call f vs):=
 L2.AJ (n:=63) (k:=11) (x:="_law_script") (CX:=fun _=>eP) (sp:=fun w=>i6 (K w.params)) hn (by decide) hdf ⟨rfl,by decide,by decide⟩ hY F (fun _ _ a ns hl _ hS=>⟨a,ns,rfl,hS,hl,fun _=>rfl⟩) fun _ _ _ _ _ z=>z
end My
end
open PySem PySem.W PyProof.Rows
set_option maxRecDepth 100000 in
set_option maxHeartbeats 0 in
theorem PySem.Challenge.cw_stairrooms_k60_words_refused_holds : PySem.Challenge.rw_stairrooms_k60_words_refused.Holds := by
 refine My.top ?_
 k_fill
 refine My.walk (l := PySem.Challenge.rw_stairrooms_k60_words_refused) rfl rfl (fun w h Y => by first | exact PySem.W.kIn_of Y | exact PySem.W.km_in_of Y) ?F
 case F =>
  intro w mg fa h KX G hmg
  refine' My.all_mk KX G hmg (My.dq KX G ?a0 ?l0 ?c0 ?k0) (My.dq KX G ?a1 ?l1 ?c1 ?k1) (My.dq KX G ?a2 ?l2 ?c2 ?k2) (My.dq KX G ?a3 ?l3 ?c3 ?k3) (My.dq KX G ?a4 ?l4 ?c4 ?k4) (My.dq KX G ?a5 ?l5 ?c5 ?k5) (My.dq KX G ?a6 ?l6 ?c6 ?k6) (My.dq KX G ?a7 ?l7 ?c7 ?k7) (My.dq KX G ?a8 ?l8 ?c8 ?k8) (My.dq KX G ?a9 ?l9 ?c9 ?k9) (My.dq KX G ?a10 ?l10 ?c10 ?k10) (My.dq KX G ?a11 ?l11 ?c11 ?k11) (My.dq KX G ?a12 ?l12 ?c12 ?k12) (My.dq KX G ?a13 ?l13 ?c13 ?k13) (My.dq KX G ?a14 ?l14 ?c14 ?k14) (My.dq KX G ?a15 ?l15 ?c15 ?k15) (My.dq KX G ?a16 ?l16 ?c16 ?k16) (My.dq KX G ?a17 ?l17 ?c17 ?k17) (My.dq KX G ?a18 ?l18 ?c18 ?k18) (My.dq KX G ?a19 ?l19 ?c19 ?k19) (My.dq KX G ?a20 ?l20 ?c20 ?k20) (My.dq KX G ?a21 ?l21 ?c21 ?k21) (My.dq KX G ?a22 ?l22 ?c22 ?k22) (My.dq KX G ?a23 ?l23 ?c23 ?k23) (My.dq KX G ?a24 ?l24 ?c24 ?k24) (My.dq KX G ?a25 ?l25 ?c25 ?k25) (My.dq KX G ?a26 ?l26 ?c26 ?k26) (My.dq KX G ?a27 ?l27 ?c27 ?k27) (My.dq KX G ?a28 ?l28 ?c28 ?k28) (My.dq KX G ?a29 ?l29 ?c29 ?k29) (My.dq KX G ?a30 ?l30 ?c30 ?k30) (My.dq KX G ?a31 ?l31 ?c31 ?k31) (My.dq KX G ?a32 ?l32 ?c32 ?k32) (My.dq KX G ?a33 ?l33 ?c33 ?k33) (My.dq KX G ?a34 ?l34 ?c34 ?k34) (My.dq KX G ?a35 ?l35 ?c35 ?k35) (My.dq KX G ?a36 ?l36 ?c36 ?k36) (My.dq KX G ?a37 ?l37 ?c37 ?k37) (My.dq KX G ?a38 ?l38 ?c38 ?k38) (My.dq KX G ?a39 ?l39 ?c39 ?k39) (My.dq KX G ?a40 ?l40 ?c40 ?k40) (My.dq KX G ?a41 ?l41 ?c41 ?k41) (My.dq KX G ?a42 ?l42 ?c42 ?k42) (My.dq KX G ?a43 ?l43 ?c43 ?k43) ?a44 ?l44 ?c44 ?k44 ?z0 ?z1 ?z2 ?z3 ?z4 ?z5 ?z6 ?z7 ?z8 ?z9 ?z10 ?z11 ?z12 ?z13 ?z14 ?z15 ?z16 ?z17 ?z18 ?v0 ?v1 ?v2 ?v3 ?v4 ?v5 ?x0 ?y0 ?w0 ?x1 ?y1 ?w1 ?hxf
  (case a0 => k_is); (case l0 => k_is); (case c0 => k_is); (case k0 => k_is)
  (case a1 => k_is); (case l1 => k_is); (case c1 => k_is); (case k1 => k_is)
  (case a2 => k_is); (case l2 => k_is); (case c2 => k_is); (case k2 => k_is)
  (case a3 => k_is); (case l3 => k_is); (case c3 => k_is); (case k3 => k_is)
  (case a4 => k_is); (case l4 => k_is); (case c4 => k_is); (case k4 => k_is)
  (case a5 => k_is); (case l5 => k_is); (case c5 => k_is); (case k5 => k_is)
  (case a6 => k_is); (case l6 => k_is); (case c6 => k_is); (case k6 => k_is)
  (case a7 => k_is); (case l7 => k_is); (case c7 => k_is); (case k7 => k_is)
  (case a8 => k_is); (case l8 => k_is); (case c8 => k_is); (case k8 => k_is)
  (case a9 => k_is); (case l9 => k_is); (case c9 => k_is); (case k9 => k_is)
  (case a10 => k_is); (case l10 => k_is); (case c10 => k_is); (case k10 => k_is)
  (case a11 => k_is); (case l11 => k_is); (case c11 => k_is); (case k11 => k_is)
  (case a12 => k_is); (case l12 => k_is); (case c12 => k_is); (case k12 => k_is)
  (case a13 => k_is); (case l13 => k_is); (case c13 => k_is); (case k13 => k_is)
  (case a14 => k_is); (case l14 => k_is); (case c14 => k_is); (case k14 => k_is)
  (case a15 => k_is); (case l15 => k_is); (case c15 => k_is); (case k15 => k_is)
  (case a16 => k_is); (case l16 => k_is); (case c16 => k_is); (case k16 => k_is)
  (case a17 => k_is); (case l17 => k_is); (case c17 => k_is); (case k17 => k_is)
  (case a18 => k_is); (case l18 => k_is); (case c18 => k_is); (case k18 => k_is)
  (case a19 => k_is); (case l19 => k_is); (case c19 => k_is); (case k19 => k_is)
  (case a20 => k_is); (case l20 => k_is); (case c20 => k_is); (case k20 => k_is)
  (case a21 => k_is); (case l21 => k_is); (case c21 => k_is); (case k21 => k_is)
  (case a22 => k_is); (case l22 => k_is); (case c22 => k_is); (case k22 => k_is)
  (case a23 => k_is); (case l23 => k_is); (case c23 => k_is); (case k23 => k_is)
  (case a24 => k_is); (case l24 => k_is); (case c24 => k_is); (case k24 => k_is)
  (case a25 => k_is); (case l25 => k_is); (case c25 => k_is); (case k25 => k_is)
  (case a26 => k_is); (case l26 => k_is); (case c26 => k_is); (case k26 => k_is)
  (case a27 => k_is); (case l27 => k_is); (case c27 => k_is); (case k27 => k_is)
  (case a28 => k_is); (case l28 => k_is); (case c28 => k_is); (case k28 => k_is)
  (case a29 => k_is); (case l29 => k_is); (case c29 => k_is); (case k29 => k_is)
  (case a30 => k_is); (case l30 => k_is); (case c30 => k_is); (case k30 => k_is)
  (case a31 => k_is); (case l31 => k_is); (case c31 => k_is); (case k31 => k_is)
  (case a32 => k_is); (case l32 => k_is); (case c32 => k_is); (case k32 => k_is)
  (case a33 => k_is); (case l33 => k_is); (case c33 => k_is); (case k33 => k_is)
  (case a34 => k_is); (case l34 => k_is); (case c34 => k_is); (case k34 => k_is)
  (case a35 => k_is); (case l35 => k_is); (case c35 => k_is); (case k35 => k_is)
  (case a36 => k_is); (case l36 => k_is); (case c36 => k_is); (case k36 => k_is)
  (case a37 => k_is); (case l37 => k_is); (case c37 => k_is); (case k37 => k_is)
  (case a38 => k_is); (case l38 => k_is); (case c38 => k_is); (case k38 => k_is)
  (case a39 => k_is); (case l39 => k_is); (case c39 => k_is); (case k39 => k_is)
  (case a40 => k_is); (case l40 => k_is); (case c40 => k_is); (case k40 => k_is)
  (case a41 => k_is); (case l41 => k_is); (case c41 => k_is); (case k41 => k_is)
  (case a42 => k_is); (case l42 => k_is); (case c42 => k_is); (case k42 => k_is)
  (case a43 => k_is); (case l43 => k_is); (case c43 => k_is); (case k43 => k_is)
  (case a44 => k_is); (case l44 => k_is); (case c44 => k_is); (case k44 => k_is)
  (case z0 => k_is)
  (case z1 => k_is)
  (case z2 => k_is)
  (case z3 => k_is)
  (case z4 => k_is)
  (case z5 => k_is)
  (case z6 => k_is)
  (case z7 => k_is)
  (case z8 => k_is)
  (case z9 => k_is)
  (case z10 => k_is)
  (case z11 => k_is)
  (case z12 => k_is)
  (case z13 => k_is)
  (case z14 => k_is)
  (case z15 => k_is)
  (case z16 => k_is)
  (case z17 => k_is)
  (case z18 => k_is)
  (case v0 => k_is)
  (case v1 => k_is)
  (case v2 => k_is)
  (case v3 => k_is)
  (case v4 => k_is)
  (case v5 => k_is)
  (case x0 => k_is); (case y0 => k_is); (case w0 => first | rfl | k_is)
  (case x1 => k_is); (case y1 => k_is); (case w1 => first | rfl | k_is)
  (case hxf => first | kernel_rfl | k_is)
