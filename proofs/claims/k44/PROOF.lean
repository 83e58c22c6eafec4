import PyProof.Rows.All
import Wide.All
import OpenK.AllK
import Wide.FinOn
import Lean
import PyProof.EqAt
import PyProof.EqKinds
import PyProof.TupleCall
import KE.KLam
import PySem.Challenge.RW_stairrooms_k44_whole_greatest_and_forwar
set_option Elab.async false
namespace PySem.W.Fast
def tw16891251560757986998:=0
def tw1370746267790690210:=0
def tw11326544302765176184:=0
def tw4018841064365785154:=0
def tw12489671996159091778:=0
def tw9478813727029378433:=0
def tw4530343354960361806:=0
def tw11258306804293243132:=0
def tw3042810517636258726:=0
def tw15125771261956903258:=0
def tw17389396115470475288:=0
def tw3544651915260091173:=0
def tw2904033067149887106:=0
def tw15641575440650329080:=0
def tw6211967426479221364:=0
def tw14774234679712429206:=0
def tw13430686117713852634:=0
def tw2686718004561559855:=0
def tw6146029037097477828:=0
def tw8933491026518846121:=0
def tw8604979696160575008:=0
def tw10166892954511498249:=0
def tw12683310795314169836:=0
def tw4918694162171632466:=0
def tw16408023001231065620:=0
def tw15834326765199268030:=0
def tw5766181095882713430:=0
def tw3501889831259424984:=0
def tw13921919005729749812:=0
def tw12390782021942118942:=0
def tw15641155157065175805:=0
def tw17915051066750267265:=0
def tw13580389790971816817:=0
def tw10760031201136348398:=0
def tw1735571389945239771:=0
def tw12661369023874259431:=0
def tw8047032804361144261:=0
def tw15945904282836308387:=0
def tw12124443520851957044:=0
def tw902582806634263858:=0
def tw1465564398378206461:=0
def tw4672492687276399408:=0
def tw11655376856063916228:=0
def tw11030641428109492703:=0
def tw1004593339420490729:=0
def tw9248597171148506525:=0
def tw55107133691585252:=0
def tw447717403241242290:=0
def tw17258839070269863901:=0
def tw12664327836493813462:=0
def tw7904445426397662059:=0
def tw684117499851941213:=0
def tw4355615645706949100:=0
def tw17259577006381911698:=0
def tw16843462989757039891:=0
def tw15963830579283735448:=0
def tw1057306937073154610:=0
def tw9878173891806150429:=0
def tw9642658117253805749:=0
def tw9281662355237421915:=0
def tw7875707854763748492:=0
def tw2904058922640873309:=0
def tw2648121624305032702:=0
def tw14832175709080873599:=0
def tw8612541938085228305:=0
def tw8229460734390689525:=0
def tw7387496920539170626:=0
def tw6658185936689682968:=0
def tw6181847661251503008:=0
def tw3830783680494933951:=0
def tw14876317631354250296:=0
def tw13809386149585982481:=0
def tw119775208399524090:=0
def tw8576866337993464856:=0
def tw705330452703051597:=0
def tw2187499721780371684:=0
def tw1921160878016633958:=0
def tw18038851775406917655:=0
def tw17939888687896264705:=0
def tw16840622159041910090:=0
def tw14292392306617517729:=0
def tw11971130579796114034:=0
def tw11198388801270196117:=0
def tw8770029601138628478:=0
def tw7539763571100840771:=0
def tw7240639191980452486:=0
def tw4817981600543833687:=0
def tw4307926830116509514:=0
def tw16826725409987885975:=0
def tw15829181571673270705:=0
def tw14109453767193502313:=0
def tw13298203722689827917:=0
def tw7980446502605500991:=0
def tw5581349078452510653:=0
def tw404968458719316295:=0
def tw3855638733940352994:=0
def tw1897875410602398997:=0
def tw17357414001117552268:=0
def tw16980547499210933930:=0
def tw1304240117979556626:=0
def tw13021086612755893400:=0
def tw12632963454795662708:=0
def tw12249993202121903794:=0
def tw10154314827766144001:=0
def tw8340926499216404060:=0
def tw7750769465160294860:=0
def tw6714801024506940561:=0
def tw512557566824241540:=0
def tw4202673366249849491:=0
def tw17843169823834903998:=0
def tw1703860651114587486:=0
def tw16029895960380650870:=0
def tw15104015179872336855:=0
def tw14397947794671477899:=0
def tw14318957944991924802:=0
def tw11858878876565515630:=0
def tw11846370373574997029:=0
def tw11701492411309977178:=0
def tw8708482821940700748:=0
def tw6178244272827954729:=0
def tw5442971307982108685:=0
def tw3797301031838899788:=0
def tw18101583386606535240:=0
def tw15968237232650601322:=0
def tw15860708213811878519:=0
def tw15729792075999087868:=0
def tw14800109303040266240:=0
def tw13501672401922333513:=0
def tw10602856759635532317:=0
def tw8487562230406468105:=0
def tw8089249423132065445:=0
def tw7341270039093922885:=0
def tw7258929849126983957:=0
def tw7134983793405793177:=0
def tw7115244209674446852:=0
def tw6093179522131556990:=0
def tw6056548384089880543:=0
def tw5819105399919881484:=0
def tw5140171473248983199:=0
def tw5010354932100547165:=0
def tw4997450903056089975:=0
def tw3866599564448483793:=0
def tw3104486758596841148:=0
def tw2567624805475646970:=0
def tw18032779900021213040:=0
def tw18027755133952139252:=0
def tw17949153669898374660:=0
def tw17571631200592639834:=0
def tw17065142239566038489:=0
def tw16988158499489311127:=0
def tw16964212798373946863:=0
def tw16743919102785911483:=0
def tw16283258727396688951:=0
def tw16245695487900975421:=0
def tw14775263502782431712:=0
def tw14670137783204244808:=0
def tw14585778381282314952:=0
def tw14221475358252599964:=0
def tw13135487405686255751:=0
def tw12996499756298277263:=0
def tw12357872333080808881:=0
def tw11787554532782738252:=0
def tw11339562753883754242:=0
def tw1069010634818593453:=0
def tw10035081181641441020:=0
def tw8035931760809384120:=0
def tw7848866751621661257:=0
def tw762384175361060421:=0
def tw6744984778823417519:=0
def tw5425565988235752197:=0
def tw3427924564325372817:=0
def tw2696157109874119690:=0
def tw18127141830633905074:=0
def tw17843839365795533554:=0
def tw17423125552162021742:=0
def tw1612923964453859806:=0
def tw1488503510874697304:=0
def tw1460478622569836974:=0
def tw13786455662358949411:=0
def tw11166862733661299840:=0
def tw10548826715568245312:=0
def tw10095913671755900038:=0
def tw7897135418779063302:=0
def tw5956051100702781606:=0
def tw5824247625822886979:=0
def tw5295854211047901153:=0
def tw4769826392853288355:=0
def tw439055297870408345:=0
def tw4074507585887532813:=0
def tw3566807236516140644:=0
def tw3015604971527890583:=0
def tw2800321189394573348:=0
def tw17375602352810135561:=0
def tw16761591470956491853:=0
def tw16306601271817509428:=0
def tw16180315334032665911:=0
def tw15170883547044141151:=0
def tw15142431143280010732:=0
def tw14977234088687162302:=0
def tw1492062709326496596:=0
def tw14560837491469231475:=0
def tw13587954947775276195:=0
def tw12678953225602555564:=0
def tw12296552071639831032:=0
def tw11560677996495128784:=0
def tw9936902662144560194:=0
def tw8039774922555296384:=0
def tw7175792842613744815:=0
def tw6350474685870504171:=0
def tw3121732170634265723:=0
def tw2520694231678862498:=0
def tw2342838551658309370:=0
def tw193794278739742225:=0
def tw179189376934874584:=0
def tw17716863462265859512:=0
def tw15699315692412800413:=0
def tw12650994420537281789:=0
def tw12261729195969336472:=0
def tw9834661911540460081:=0
def tw9749810874003056045:=0
def tw931510637493425866:=0
def tw9085195453500331236:=0
def tw8863156965792605256:=0
def tw8783073200307453229:=0
def tw8184033042858750843:=0
def tw7863108119856694670:=0
def tw7693350481814642131:=0
def tw7627118995241731642:=0
def tw720755081136891062:=0
def tw6743822951217308217:=0
def tw6704578965310311189:=0
def tw6393150591798677637:=0
def tw6252878086273825581:=0
def tw6008010531490865865:=0
def tw5581984692328104656:=0
def tw5533809914848052129:=0
def tw5190860397250508396:=0
def tw5051596291613938045:=0
def tw4933930183700603765:=0
def tw4566636315000093172:=0
def tw4169430970946328830:=0
def tw3975676623463710300:=0
def tw397431815971221653:=0
def tw3941131271490555836:=0
def tw3773624442522805073:=0
def tw3725507860900426652:=0
def tw3711776433476670718:=0
def tw3624387153200950280:=0
def tw3465091326942903629:=0
def tw3436359320994789115:=0
def tw3258786278723069861:=0
def tw3220723017206680370:=0
def tw3161077796674850459:=0
def tw3096949930750721708:=0
def tw3093781508513788219:=0
def tw2651210568008831048:=0
def tw2265299691495554755:=0
def tw1980078614172103820:=0
def tw18334927389422029420:=0
def tw17994301212061070119:=0
def tw17990003072128590093:=0
def tw17925923492730016652:=0
def tw17831088686795452451:=0
def tw17628590533929976792:=0
def tw17405045028177135956:=0
def tw16868688195037900307:=0
def tw16835956152608702361:=0
def tw16821967185522334815:=0
def tw1682181479755940848:=0
def tw16801269517542960672:=0
def tw16702496124019576060:=0
def tw16661212229125270991:=0
def tw16622475990643145580:=0
def tw16575673167688372683:=0
def tw16503717402094505217:=0
def tw16469943266984779137:=0
def tw16221219022901355867:=0
def tw16164986634524919498:=0
def tw15924826414491783191:=0
def tw15856698116174445793:=0
def tw15786528573266890262:=0
def tw15565656631415577005:=0
def tw15291515778787918541:=0
def tw14882510809304047780:=0
def tw14849095896601040367:=0
def tw14650229311272632197:=0
def tw14324394720252608761:=0
def tw14322595565739780087:=0
def tw14321144422957734134:=0
def tw13817142068744991791:=0
def tw13769731409856085057:=0
def tw13752025206567590305:=0
def tw13732165248360646341:=0
def tw13385619842731796546:=0
def tw12878273097781070547:=0
def tw12845051616509399931:=0
def tw12441502783428931068:=0
def tw12340981958623863397:=0
def tw12150866365501820893:=0
def tw11892039915525360660:=0
def tw11860059332995364445:=0
def tw11788803944947964044:=0
def tw11612187849094769778:=0
def tw11137535781475439334:=0
def tw11040902395418374828:=0
def tw10846541316933110243:=0
def tw10785498421680218836:=0
def tw10500720501580190231:=0
def tw10150324261921262226:=0
def tw10121643642846045468:=0
def tw10053539800044614232:=0
def tw9816307224394526710:=0
def tw9602979466950630956:=0
def tw912290570786946579:=0
def tw8777541643666118068:=0
def tw8722415481117505015:=0
def tw8572175281459272771:=0
def tw8568187914498332850:=0
def tw8444893750286939596:=0
def tw8125407811402774585:=0
def tw7552210041123771490:=0
def tw684210181549580303:=0
def tw6340304130596135008:=0
def tw6169767553621521813:=0
def tw6158425238486604569:=0
def tw5920227957080817638:=0
def tw5708804837514111757:=0
def tw5096499008420852698:=0
def tw3612554134655720397:=0
def tw2093290091728733057:=0
def tw17795394019121955329:=0
def tw16219145617115034907:=0
def tw15414259988211055499:=0
def tw15186367229040268510:=0
def tw1488474676173749703:=0
def tw14415884991196681418:=0
def tw1428814744893504695:=0
def tw13746588304753895505:=0
def tw13185835248587936794:=0
def tw11551815002882820457:=0
def tw10424792985553544811:=0
def tw10017577030591726147:=0
def tw9930359092145622687:=0
def tw976709547398631384:=0
def tw974001917477778970:=0
def tw9591621326534694922:=0
def tw9590536906216307355:=0
def tw9578026534446552097:=0
def tw9456409991113330330:=0
def tw9254883793231693245:=0
def tw9119751986894142981:=0
def tw9002392303285804385:=0
def tw8938549127931359579:=0
def tw8562296191053873827:=0
def tw8521597775319928436:=0
def tw847593159352496057:=0
def tw8377945894465552080:=0
def tw8338600121835276020:=0
def tw8186763794367992775:=0
def tw8037652997034423971:=0
def tw7956301941440062040:=0
def tw7574902415414485744:=0
def tw7393957277229836691:=0
def tw7259079589770855615:=0
def tw6942357351460751399:=0
def tw6692137819554114951:=0
def tw6429728187070590260:=0
def tw6329672369177362234:=0
def tw621812022307901172:=0
def tw5994711959094706394:=0
def tw5950158449063615346:=0
def tw590611807225418770:=0
def tw5821001088122574322:=0
def tw5717963241065829162:=0
def tw5430882940802126740:=0
def tw5350998768358884751:=0
def tw5019332986140449700:=0
def tw4992925186480290751:=0
def tw4869967250276580588:=0
def tw4855646995411632120:=0
def tw477595423994022719:=0
def tw450187942056410602:=0
def tw4337561567144917162:=0
def tw4256779784062091372:=0
def tw4138905410403352593:=0
def tw3855077825024126993:=0
def tw3823650005643028596:=0
def tw3760063030202703356:=0
def tw3415376743198261602:=0
def tw3299272117925849540:=0
def tw3268437569422444630:=0
def tw3182821167057557991:=0
def tw3017139974649574989:=0
def tw2780415966309772251:=0
def tw2773274263299585572:=0
def tw2448602276733661166:=0
def tw2308842233520690658:=0
def tw2248526150547823735:=0
def tw2217001567337907910:=0
def tw2064118905727727203:=0
def tw2045930578084102194:=0
def tw2020109458520273824:=0
def tw1923656493189036919:=0
def tw1901317781093569649:=0
def tw1856151083423349262:=0
def tw18406689318668271181:=0
def tw18324572440802094995:=0
def tw1818218476948158209:=0
def tw18159918767601648018:=0
def tw18133197322224867361:=0
def tw18066811921283522515:=0
def tw17928405464846012575:=0
def tw17908656721387608039:=0
def tw176977295656723065:=0
def tw17694846207451314135:=0
def tw17690871460500525271:=0
def tw17645572048654386869:=0
def tw17644514534155135092:=0
def tw17581992280946622230:=0
def tw1751447207448873119:=0
def tw17438179399263098937:=0
def tw17415715754555401154:=0
def tw17405974757215459542:=0
def tw17238752558760652402:=0
def tw17218974888202052536:=0
def tw17076493798685594974:=0
def tw17002439396945247550:=0
def tw16924412733494049589:=0
def tw1691102865124860179:=0
def tw16618134895088991800:=0
def tw16477329177891185698:=0
def tw1637453852661378490:=0
def tw16291882091215157828:=0
def tw1599608497217551579:=0
def tw15853727897521883275:=0
def tw15831574140416324556:=0
def tw15732654264858244716:=0
def tw15319796435752655959:=0
def tw15269425654929456476:=0
def tw15266785391687444539:=0
def tw15159215201983465910:=0
def tw15003257448840769609:=0
def tw14931363111589739018:=0
def tw14867130098325134529:=0
def tw14836224472968703893:=0
def tw14793259975867257014:=0
def tw14635225500592789833:=0
def tw14550693921475344484:=0
def tw14429984225472846677:=0
def tw13956058649364723422:=0
def tw13841191037290658594:=0
def tw1382559312744143635:=0
def tw13820470126673855253:=0
def tw13788262537284159298:=0
def tw13679643304169797691:=0
def tw13647187277582396961:=0
def tw13140385074510843379:=0
def tw12993445975515111361:=0
def tw12679859039530741841:=0
def tw12585790354688115527:=0
def tw12170451868844119946:=0
def tw11985937269989024962:=0
def tw11801650391622900179:=0
def tw11687504721054253588:=0
def tw11665305186481523908:=0
def tw11644868132232139897:=0
def tw11605670760853518920:=0
def tw11383850339681254435:=0
def tw11365700717142005424:=0
def tw11364142691922409913:=0
def tw11362101791794971524:=0
def tw11296645311156999791:=0
def tw11282886037220131173:=0
def tw11029396596865941829:=0
def tw10769681086646498438:=0
def tw10698238366409207256:=0
def tw10275949009854564666:=0
def tw10263077061500514125:=0
end PySem.W.Fast
section
open PySem PySem.W PyProof.Rows
set_option maxRecDepth 100000 in
set_option maxHeartbeats 0 in
open_top My.top for PySem.Challenge.rw_stairrooms_k44_whole_greatest_and_forwar
end
set_option linter.all false
set_option maxRecDepth 100000
set_option maxHeartbeats 4000000
open PySem renaming wpAny_bind→E8,wpAny_pure→E9,wpAny_setState_of→F6,wpAny_callSpecial?_slot→F7
open PySem.W renaming Frag→Fb
open PySem.Heap renaming get?_push_of_some→Fc,get?_push_size→Fd,lt_size→Fe
open List renaming length_map→Ff,getElem?_eq_getElem→Fg,getElem?_map→Fh,mem_cons_of_mem→Fi,size_toArray→Fl,mem_cons_self→Fm,getElem?_eq_some_iff→Fo,mem_of_getElem?→Fp,mem_singleton→Fq,mem_cons→Fv,map_append→Fx,length_append→Fy,mem_append→FE,getElem?_append_right→FG,getElem?_append_left→FH,getElem_mem→FI,length_cons→FJ,take_length→FK,not_mem_nil→FQ,all_eq_true→FR,any_eq_true→FT,mem_append_right→FY,mem_append_left→FZ,replicate→F0,getElem?_of_mem→F3,lookup_cons→F4,length_take→F5,range→F8
open Array renaming length_toList→Fj
open PySem.F renaming plainAttrs_list→Fn,slot_list_append→FC,type_list_append→FD
open Option renaming map_eq_some_iff→Fs,bind_some→FN
open Int renaming toNat_natCast→Ft,toNat_of_nonneg→Fu,mul_nonneg→FL
open Bool renaming false_ne_true→Fw,eq_iff_iff→FU,and_eq_true→FV,false_eq_true→F1
open Nat renaming ne_of_lt→Fz,le_refl→FA,lt_of_lt_of_le→FO,le_trans→FP,lt_or_ge→F2
open PySem.Str renaming ofString→FW
open Option.some renaming inj→FX
abbrev F9:=@decide_eq_false
abbrev Ga:=@decide_eq_true
abbrev Gb:=@if_neg
abbrev Ge:=@if_pos
noncomputable section
namespace L2
open PySem PySem.Spec PyProof.Rows
abbrev Key:=Sum Int Str
def ij:Key->Value->Bool
 | .inl k,v=>Value.isInt k v
 | .inr x,v=>Value.isStrOf x v
def EB(w:World):Key->Int
 | .inl k=>hashInt k
 | .inr x=>hashStr w x
def fJ:∀{k:Key} {v:Value},ij k v=true->(∃i t,k=Sum.inl i/\v=Value.int i t)\/(∃x t,k=Sum.inr x/\v=Value.str x t)
 | .inl i,v,h=>by obtain⟨t,e⟩:=Value.isInt_shape (k:=i) (v:=v) h;exact .inl ⟨i,t,rfl,e⟩
 | .inr x,v,h=>by obtain⟨t,e⟩:=Value.isStrOf_shape (x:=x) (v:=v) h;exact .inr ⟨x,t,rfl,e⟩
def Ey(i:Int)(t:Tok):ij (.inl i) (.int i t)=true:=by simp[ij,Value.isInt]
def B0(x:Str)(t:Tok):ij (.inr x) (.str x t)=true:=by simp[ij,Value.isStrOf]
def Bt(a b:Int):decide ((Sum.inl a:Key)=Sum.inl b)=(a == b):=by
 by_cases e:a=b
 ·subst e;simp
 ·have h:¬(Sum.inl a:Key)=Sum.inl b:=λq=>e (Sum.inl.inj q);rw[F9 h];exact(beq_eq_false_iff_ne.mpr e).symm
def zp(a b:Str):decide ((Sum.inr a:Key)=Sum.inr b)=decide (a=b):=by
 by_cases e:a=b
 ·subst e;simp
 ·have h:¬(Sum.inr a:Key)=Sum.inr b:=λq=>e (Sum.inr.inj q);rw[F9 h,F9 e]
def yP(a:Int)(b:Str):decide ((Sum.inl a:Key)=Sum.inr b)=false:=F9 (λq=>nomatch q)
def EL(a:Str)(b:Int):decide ((Sum.inr a:Key)=Sum.inl b)=false:=F9 (λq=>nomatch q)
def cG(prog:Program)(w:World):PySem.KeyKind prog w Key where
 is:=ij
 hash:=EB w
 inj:=λv a b ha hb=>by
  rcases fJ ha with⟨i,t,rfl,rfl⟩|⟨x,t,rfl,rfl⟩
  ·rcases fJ hb with⟨j,u,rfl,e⟩|⟨y,u,rfl,e⟩
   ·injection e with e1 _;rw[e1]
   ·exact nomatch e
  ·rcases fJ hb with⟨j,u,rfl,e⟩|⟨y,u,rfl,e⟩
   ·exact nomatch e
   ·injection e with e1 _;rw[e1]
 byValue:=λk v h=>by rcases fJ h with⟨i,t,rfl,rfl⟩|⟨x,t,rfl,rfl⟩<;>rfl
 pyHash:=λhv h=>by
  rcases fJ hv with⟨i,t,rfl,rfl⟩|⟨x,t,rfl,rfl⟩
  ·exact wpAny_pyHash_int h
  ·exact wpAny_pyHash_str h
 eqBool:=λhu hv h=>by
  rcases fJ hu with⟨i,t,rfl,rfl⟩|⟨x,t,rfl,rfl⟩
  ·rcases fJ hv with⟨j,u,rfl,rfl⟩|⟨y,u,rfl,rfl⟩
   ·rw[Bt]at h;exact wpAny_eqBool_int h
   ·rw[yP]at h;exact SeqAt.EqAt.int_str i t y u _ _ _ _ h
  ·rcases fJ hv with⟨j,u,rfl,rfl⟩|⟨y,u,rfl,rfl⟩
   ·rw[EL]at h;exact SeqAt.EqAt.str_int x t j u _ _ _ _ h
   ·rw[zp]at h;exact wpAny_eqBool_str h
 «strs»:=λk x t v h=>by
  rcases fJ h with⟨i,u,rfl,e⟩|⟨y,u,rfl,e⟩
  ·exact nomatch e
  ·injection e with e1 _
   subst e1;cases v<;>rfl
def zD(prog:Program)(w:World)(i:Int)(t:Tok):(cG prog w).is (.inl i) (.int i t)=true:=Ey i t
def nv(prog:Program)(w:World)(x:Str)(t:Tok):(cG prog w).is (.inr x) (.str x t)=true:=B0 x t
inductive V where
 | non|bl (b:Bool)|int (i:Int)|str (x:Str)|byt (b:Array UInt8)|flt (b:UInt64)|ref (a:Addr)|ty (n:String)
 deriving DecidableEq
def RelV:V->Value->Prop
 | .non,u=>u=Value.none
 | .bl b,u=>u=Value.bool b
 | .int i,u=>∃t,u=Value.int i t
 | .str x,u=>∃t,u=Value.str x t
 | .byt b,u=>∃t,u=Value.bytes b t
 | .flt b,u=>∃t,u=Value.float b t
 | .ref a,u=>u=Value.ref a
 | .ty n,u=>u=Value.type n
abbrev Vals:List V->List Value->Prop:=Paired RelV
def Vals.length{xs:List V}{us:List Value}(r:Vals xs us):xs.length=us.length:=Paired.length r
def Vals.get:∀{xs:List V} {us:List Value} {i:Nat} {x:V},Vals xs us->xs[i]?=some x->∃u,us[i]?=some u/\RelV x u
 | _,_,_,_,.nil,e=>by simp at e
 | _,_,0,_,.cons r _,e=>by simp at e;subst e;exact⟨_,rfl,r⟩
 | _,_,i+1,x,.cons _ t,e=>by obtain⟨u,h1,h2⟩:=Vals.get (i:=i) (x:=x) t (by simpa using e);exact⟨u,by simpa using h1,h2⟩
def Vals.set{x:V}{u:Value}(r:RelV x u):∀{xs:List V} {us:List Value} (i:Nat),Vals xs us->Vals (xs.set i x) (us.set i u)
 | _,_,_,.nil=>.nil
 | _,_,0,.cons _ t=>.cons r t
 | _,_,i+1,.cons q t=>.cons q (Vals.set r i t)
def Vals.append:∀{xs ys:List V} {us ws:List Value},Vals xs us->Vals ys ws->Vals (xs++ys) (us++ws)
 | _,_,_,_,.nil,s=>s
 | _,_,_,_,.cons r t,s=>.cons r (Vals.append t s)
def Vals.take:∀{xs:List V} {us:List Value} (n:Nat),Vals xs us->Vals (xs.take n) (us.take n)
 | _,_,0,_=>.nil
 | _,_,_+1,.nil=>.nil
 | _,_,n+1,.cons r t=>.cons r (Vals.take n t)
def Vals.drop:∀{xs:List V} {us:List Value} (n:Nat),Vals xs us->Vals (xs.drop n) (us.drop n)
 | _,_,0,r=>r
 | _,_,_+1,.nil=>.nil
 | _,_,n+1,.cons _ t=>Vals.drop n t
def eC:Option V->Option Value->Prop
 | some v,some u=>RelV v u
 | none,none=>True
 | _,_=>False
def KV{κ:Type}:List (κ×V)->List (κ×Value)->Prop:=Paired λ(p:κ×V) (q:κ×Value)=>p.1=q.1/\RelV p.2 q.2
def kV:Key->V
 | .inl i=>.int i
 | .inr x=>.str x
inductive HO where
 | lst (xs:List V)
 | tup (xs:List V)
 | dK (kvs:List (Key×V))|dT (kvs:List (List Key×V))
 | set (S:Int->Bool) (n:Nat)
 | ins (C dx:Addr) (fs:List (Str×V))
 | own (x:Addr)
 | xd (fs:List (Str×V))
 | met (f x:Addr)
 | rng (lo hi:Int)
 | frz (o:Obj) (u:HO)
 | tbl (ps:Array Value)
 | ext (φ:Heap->Prop)
abbrev Hp:=Addr->Option HO
def upd(H:Hp)(a:Addr)(o:HO):Hp:=λb=>if b=a then some o else H b
def aL{H:Hp}{a:Addr}{o:HO}:upd H a o a=some o:=by unfold upd;rw[Ge rfl]
def aC{H:Hp}{a b:Addr}{o:HO}(h:b≠a):upd H a o b=H b:=by unfold upd;rw[Gb h]
def cF{H:Hp}{a b:Addr}{o u:HO}(h:H a=some o)(h':H b=some u)(d:o≠u):a≠b:=by intro e;subst e;rw[h]at h';exact d (FX h')
def cq{H:Hp}{a b:Addr}{o:HO}(h:H a=some o)(h':H b=none):a≠b:=by intro e;subst e;rw[h]at h';cases h'
section
variable (P:Program) (w:World)
def bC(H:Hp)(h:Heap)(a:Addr):HO->Prop
 | .lst xs=>xs.length<=sizeLine/\∃(its:List Value) (n:Nat),Vals xs its/\h.get? a=some { cls:=.type "list",data:=.seq its.toArray n }
 | .tup xs=>xs.length<=sizeLine/\∃its:List Value,Vals xs its/\IsTup h a its.toArray
 | .dK kvs=>kvs.length<=sizeLine/\(a == sysModules)=false/\∃vs,KV kvs vs/\h.DictOf (cG P w) a vs
 | .dT kvs=>kvs.length<=sizeLine/\(a == sysModules)=false/\∃xs:List (List Key×Addr×Value),
   Paired (λ(p:List Key×V) (q:List Key×Addr×Value)=>p.1=q.1/\H q.2.1=some (.tup (p.1.map kV))/\RelV p.2 q.2.2) kvs xs ∧
   ∃o es ep,h.get? a=some o/\o.ExactDict/\o.data=.dict es ep/\es.toList=xs.map (entryOfKey (tupleKind (cG P w)))/\(xs.map (·.1)).Nodup
 | .set S n=>h.SetOf (intKind P w) a S n
 | .ins C dx fs=>H dx=some (.own a)/\fs.length<=1000/\dx≠a/\h.get? a=some (PySem.W.instObj C dx) ∧
   ∃mA,h.Ns1 dx mA/\(∀f,eC (fs.lookup f) (mA f))/\PySem.Within mA (fs.map (·.1))
 | .own _=>∃o,h.get? a=some o
 | .xd fs=>∃mA,h.Ns1 a mA/\∀f,eC (fs.lookup f) (mA f)
 | .rng lo hi=>∃t u v,h.get? a=some { cls:=.type "range",data:=.fields #[.int lo t,.int hi u,.int 1 v] }
 | .frz o u=>h.get? a=some o/\bC H h a u
 | .tbl ps=>h.get? a=some { cls:=.none,data:=.fields ps }
 | .met f x=>h.get? a=some (PySem.W.methodObj (.ref f) (.ref x))
 | .ext φ=>φ h/\(∃o,h.get? a=some o)/\∀h1 h2:Heap,φ h1->(∀o,h1.get? a=some o->h2.get? a=some o)->φ h2
def bt(H:Hp)(h:Heap):Prop:=∀a o,H a=some o->bC P w H h a o
end
section
variable {P:Program} {w:World} {H H':Hp} {h h':Heap} {a:Addr} {o:HO}
def bC.lt(x:bC P w H h a o):a<h.objs.size:=by
 cases o with
 | lst xs=>obtain⟨_,_,_,_,e⟩:=x;exact Fe e
 | tup xs=>obtain⟨_,_,_,p⟩:=x;exact p.lt
 | dK kvs=>obtain⟨_,_,_,_,o,_,_,e,_⟩:=x;exact Fe e
 | dT kvs=>obtain⟨_,_,_,_,o,_,_,e,_⟩:=x;exact Fe e
 | set S n=>obtain⟨o,_,_,_,e,_⟩:=x;exact Fe e
 | ins C dx fs=>obtain⟨_,_,_,e,_⟩:=x;exact Fe e
 | own y=>obtain⟨_,e⟩:=x;exact Fe e
 | xd fs=>obtain⟨_,⟨_,_,_,e,_⟩,_⟩:=x;exact Fe e
 | rng lo hi=>obtain⟨_,_,_,e⟩:=x;exact Fe e
 | frz ob u=>obtain⟨e,_⟩:=x;exact Fe e
 | tbl ps=>exact Fe (show h.get? a=some _ from x)
 | met f y=>exact Fe (show h.get? a=some _ from x)
 | ext φ=>obtain⟨_,⟨_,e⟩,_⟩:=x;exact Fe e
def Paired.mapP{α β:Type}{F G:α->β->Prop}:∀{l₁:List α} {l₂:List β},Paired F l₁ l₂->(∀a b,F a b->G a b)->Paired G l₁ l₂
 | _,_,.nil,_=>.nil
 | _,_,.cons r t,f=>.cons (f _ _ r) (Paired.mapP t f)
def bC.stay(x:bC P w H h a o)(k:∀b u,(b=a\/H b=some (.own a))->h.get? b=some u->h'.get? b=some u)
  (ho:∀b,H b=some (.own a)->H' b=some (.own a)) (ht:∀b xs,H b=some (.tup xs)->H' b=some (.tup xs)):bC P w H' h' a o:=by
 induction o with
 | lst xs=>obtain⟨z,its,n,r,e⟩:=x;exact⟨z,its,n,r,k _ _ (.inl rfl) e⟩
 | tup xs=>obtain⟨z,its,r,ob,e,c⟩:=x;exact⟨z,its,r,ob,k _ _ (.inl rfl) e,c⟩
 | dK kvs=>obtain⟨z,y,vs,r,ob,es,ep,e,c⟩:=x;exact⟨z,y,vs,r,ob,es,ep,k _ _ (.inl rfl) e,c⟩
 | dT kvs=>
  obtain⟨z,y,xs,r,ob,es,ep,e,c⟩:=x;exact⟨z,y,xs,Paired.mapP r λp q z=>⟨z.1,ht _ _ z.2.1,z.2.2⟩,ob,es,ep,k _ _ (.inl rfl) e,c⟩
 | set S n=>obtain⟨ob,es,ep,t,e,c⟩:=x;exact⟨ob,es,ep,t,k _ _ (.inl rfl) e,c⟩
 | ins C dx fs=>
  obtain⟨d,z,ne,e,mA,⟨od,es,ep,e2,c⟩,r⟩:=x;exact⟨ho _ d,z,ne,k _ _ (.inl rfl) e,mA,⟨od,es,ep,k _ _ (.inr d) e2,c⟩,r⟩
 | own y=>obtain⟨ob,e⟩:=x;exact⟨ob,k _ _ (.inl rfl) e⟩
 | xd fs=>obtain⟨mA,⟨od,es,ep,e,c⟩,r⟩:=x;exact⟨mA,⟨od,es,ep,k _ _ (.inl rfl) e,c⟩,r⟩
 | rng lo hi=>obtain⟨t,u,v,e⟩:=x;exact⟨t,u,v,k _ _ (.inl rfl) e⟩
 | frz ob u ih=>obtain⟨e,q⟩:=x;exact⟨k _ _ (.inl rfl) e,ih q⟩
 | tbl ps=>
  have e:h.get? a=some { cls:=.none,data:=.fields ps }:=x;show h'.get? a=some { cls:=.none,data:=.fields ps };exact k a _ (.inl rfl) e
 | met f y=>
  have e:h.get? a=some (PySem.W.methodObj (.ref f) (.ref y)):=x;show h'.get? a=some (PySem.W.methodObj (.ref f) (.ref y));exact k a _ (.inl rfl) e
 | ext φ=>obtain⟨p,⟨o,e⟩,st⟩:=x;exact⟨st _ _ p λo q=>k _ _ (.inl rfl) q,⟨o,k _ _ (.inl rfl) e⟩,st⟩
def bt.lt(x:bt P w H h)(e:H a=some o):a<h.objs.size:=(x a o e).lt
def bt.fresh(x:bt P w H h)(e:h.objs.size<=a):H a=none:=by
 cases q:H a with
 | none=>rfl
 | some u=>exact absurd (FO (x.lt q) e) (Nat.lt_irrefl _)
def bt.kept(x:bt P w H h)(k:∀b u,h.get? b=some u->h'.get? b=some u):bt P w H h':=λa o e=>
 (x a o e).stay (λb u _ q=>k b u q) (λ_ q=>q) λ_ _ q=>q
def bt.laid(x:bt P w H h)(k:∀b u,h.get? b=some u->h'.get? b=some u)(hp:h.objs.size<=a)(new:bC P w (upd H a o) h' a o):bt P w (upd H a o) h':=λb u e=>by
 have hn:=x.fresh hp;by_cases hb:b=a
 ·subst hb;rw[aL]at e;cases e;exact new
 ·rw[aC hb]at e;exact(x b u e).stay (λc v _ q=>k c v q) (λc q=>by rw[aC (cq q hn)];exact q) λc xs q=>by rw[aC (cq q hn)];exact q
end
def Rd(H:Hp)(a:Addr)(u:HO):Prop:=H a=some u\/∃o,H a=some (.frz o u)
def Rd.ok{P:Program}{w:World}{H:Hp}{h:Heap}{a:Addr}{u:HO}(r:Rd H a u)(x:bt P w H h):bC P w H h a u:=by
 rcases r with r|⟨o,r⟩
 ·exact x a u r
 ·obtain⟨_,q⟩:=x a _ r;exact q
def ju:Option HO->Prop
 | some (.lst _)=>True
 | some (.dK _)=>True
 | some (.dT _)=>True
 | some (.set _ _)=>True
 | some (.ins _ _ _)=>True
 | some (.ext _)=>True
 | _=>False
section
variable {P:Program} {w:World} {H:Hp} {h h':Heap} {x e:Addr} {o':HO}
def bt.write(ok:bt P w H h)(mu:ju (H x))(he:e=x\/H e=some (.own x))(k:∀b u,b≠e->h.get? b=some u->h'.get? b=some u)(heo:∃u,h'.get? e=some u)
  (new:bC P w (upd H x o') h' x o'):bt P w (upd H x o') h':=λb u q=>by
 have nown:∀c y,H c=some (.own y)->c≠x:=λc y r z=>by subst z;rw[r]at mu;exact mu
 have ntup:∀c xs,H c=some (.tup xs)->c≠x:=λc xs r z=>by subst z;rw[r]at mu;exact mu
 by_cases hb:b=x
 ·subst hb;rw[aL]at q;cases q;exact new
 ·rw[aC hb]at q;by_cases hbe:b=e
  ·have q':H b=some (.own x):=by
    rcases he with z|z
    ·exact absurd (hbe.trans z) hb
    ·rw[hbe];exact z
   rw[q]at q';cases q';obtain⟨v,hv⟩:=heo;exact⟨v,by rw[hbe];exact hv⟩
  ·refine(ok b u q).stay (λc v hc r=>k c v ?_ r) (λc r=>by rw[aC (nown c b r)];exact r) λc xs r=>by rw[aC (ntup c xs r)];exact r
   rcases hc with rfl|hc
   ·exact hbe
   ·rintro rfl;rcases he with z|z
    ·exact nown c b hc z
    ·rw[hc]at z;cases z;exact hb rfl
end
structure Un(fs ex:List Addr)(H H':Hp)(h h':Heap):Prop where
 keep:∀b o,h.get? b=some o->H b=none->b∉fs->b∉ex->h'.get? b=some o
 slot:∀b o,h.get? b=some o->H b=none->b∈fs->b∉ex->∃sl,h'.get? b=some { o with slots:=sl }
 free:∀b o,h.get? b=some o->H b=none->b∉ex->H' b=none
 there:∀b o,h.get? b=some o->b∉ex->∃o',h'.get? b=some o'
 tups:∀b xs,H b=some (.tup xs)->H' b=some (.tup xs)
 frzs:∀b o u,H b=some (.frz o u)->H' b=some (.frz o u)
 tbls:∀b ps,H b=some (.tbl ps)->∃more,H' b=some (.tbl (ps++more))
section
variable {fs fs' ex ex':List Addr} {H H1 H2:Hp} {h h1 h2 h':Heap} {a x e:Addr} {o:HO}
def Un.any(u:Un fs ex H H1 h h1){b:Addr}{ob:Obj}(q:h.get? b=some ob)(n:H b=none)(hx:b∉ex):∃sl,h1.get? b=some { ob with slots:=sl }:=by
 by_cases hb:b∈fs
 ·exact u.slot b ob q n hb hx
 ·exact⟨ob.slots,u.keep b ob q n hb hx⟩
def Un.kept(k:∀b u,h.get? b=some u->h'.get? b=some u):Un fs ex H H h h':=
 ⟨λb ob q _ _ _=>k b ob q,λb ob q _ _ _=>⟨ob.slots,k b ob q⟩,λ_ _ _ n _=>n,λb ob q _=>⟨ob,k b ob q⟩,λ_ _ q=>q,λ_ _ _ q=>q,λ_ ps q=>⟨#[],by rw[q];simp⟩⟩
def Un.refl:Un fs ex H H h h:=Un.kept λ_ _ q=>q
def Un.laid(k:∀b u,h.get? b=some u->h'.get? b=some u)(hp:h.objs.size<=a)(hn:H a=none):Un fs ex H (upd H a o) h h' where
 keep:=λb u q _ _ _=>k b u q
 slot:=λb u q _ _ _=>⟨u.slots,k b u q⟩
 free:=λb u q n _=>by rw[aC (Fz (FO (Fe q) hp))];exact n
 there:=λb u q _=>⟨u,k b u q⟩
 tups:=λb xs q=>by rw[aC (cq q hn)];exact q
 frzs:=λb u xs q=>by rw[aC (cq q hn)];exact q
 tbls:=λb ps q=>⟨#[],by rw[aC (cq q hn),q];simp⟩
def Un.write(mu:ju (H x))(he:e=x\/H e=some (.own x))(k:∀b u,b≠e->h.get? b=some u->h'.get? b=some u)(heo:∃u,h'.get? e=some u):Un fs ex H (upd H x o) h h':=by
 have hx:∀b,H b=none->b≠x:=λb n z=>by subst z;rw[n]at mu;exact mu
 have hb:∀b,H b=none->b≠e:=λb n z=>by
  subst z;rcases he with r|r
  ·exact hx b n r
  ·rw[n]at r;cases r
 have hm:∀b u,H b=some u->¬ju (some u)->b≠x:=λb u q nm z=>by subst z;rw[q]at mu;exact nm mu
 refine⟨λb u q n _ _=>k b u (hb b n) q,λb u q n _ _=>⟨u.slots,k b u (hb b n) q⟩,λb u q n _=>by rw[aC (hx b n)];exact n,λb u q _=>?_,
  λb xs q=>by rw[aC (hm b _ q λz=>z)];exact q,λb u xs q=>by rw[aC (hm b _ q λz=>z)];exact q,λb ps q=>⟨#[],by rw[aC (hm b _ q λz=>z),q];simp⟩⟩
 by_cases hbe:b=e
 ·subst hbe;exact heo
 ·exact⟨u,k b u hbe q⟩
end
def kA(h:Heap)(H:Hp):List Addr:=(F8 h.objs.size).filter λa=>(H a).isSome
def fg(h:Heap)(H:Hp):Heap:=PySem.W.hideAll h (kA h H)
def Eb(h:Heap)(H:Hp):(fg h H).objs.size=h.objs.size:=PySem.W.hideAll_size _ _
def kM{h:Heap}{H:Hp}{b:Addr}{o:Obj}(e:h.get? b=some o)(n:H b=none):(fg h H).get? b=some o:=
 PySem.W.hideAll_get _ e λhm=>by have q:(H b).isSome=true:=(List.mem_filter.mp hm).2;rw[n]at q;simp at q
def Bv{h:Heap}{H:Hp}{b:Addr}{o:Obj}(e:(fg h H).get? b=some o):h.get? b=some o/\H b=none:=by
 have e':h.get? b=some o:=PySem.W.of_hideAll (kA h H) e;refine⟨e',?_⟩;cases q:H b with
 | none=>rfl
 | some x=>
  have hm:b∈kA h H:=List.mem_filter.mpr ⟨List.mem_range.mpr (Fe e'),by simp[q]⟩;have z:(fg h H).get? b=none:=PySem.W.hideAll_none (kA h H) hm;rw[z]at e;cases e
structure Mod(K:Fb)(mg:Str->Option Value)(base:Heap):Prop where
 kin:K.In base
 glob:base.Ns mainGlobals mg
 blt:∃mb,base.Ns builtinsNs mb/\∀x:Str,x≠"__name__"->mb x=bootBuiltins x
 nolimit:base.NoLimit
structure Cx where
 prog:Program
 w:World
 K:Fb
 mg:Str->Option Value
 base:Heap
 A:Around
 N:List Str
 s₀:Shared
 H₀:Hp
 env:Env
 outer:List Env
 stack:List Env
 ex:List Addr
 fn:Str->Bool
 calm:Bool
 pn:List (Addr×Obj)
 xe:Value->Shared->Prop
def du(l:List Env):List Addr:=l.filterMap (·.frame)
abbrev Cx.fs(X:Cx):List Addr:=du X.outer
def j2(sc:Scope)(x:Str):Prop:=sc.names.lookup x=some .local\/sc.names.lookup x=some .cell\/sc.names.lookup x=some .free
def Loc(sc:Scope)(x:Str):Prop:=sc.names.lookup x=some .local\/sc.names.lookup x=some .cell
def Look(env:Env)(h:Heap)(m:Str->Option Value)(x:Str)(u:Value):Prop:=
 (env.kindOf x=some .local/\m x=some u)\/((env.kindOf x=some .cell\/env.kindOf x=some .free)/\∃c,env.cells.lookup x=some c/\h.IsCell c (some u))
structure Cx.Ok(X:Cx):Prop where
 mod:Mod X.K X.mg X.base
 kind:X.env.scope.kind=.function
 glob:X.env.globals=mainGlobals
 blt:X.env.builtins=builtinsNs
 above:X.s₀.heap.objs.size<=X.env.locals
 inj:∀x y c,X.env.cells.lookup x=some c->X.env.cells.lookup y=some c->x=y
 has:∀x,(X.env.kindOf x=some .cell\/X.env.kindOf x=some .free)->∃c,X.env.cells.lookup x=some c
 cab:∀x c,X.fn x=true->X.env.cells.lookup x=some c->X.s₀.heap.objs.size<=c
 hd:X.calm=true->X.A.handled=none
 frames:X.A.frames=some X.stack
 stk:X.stack=X.outer\/(X.stack=X.env::X.outer/\X.env.frame=some X.env.locals)
 exf:∀b∈X.ex,b≠X.env.locals/\∀x c,X.env.cells.lookup x=some c->c≠b
 bs:∀b o,X.base.get? b=some o->X.s₀.heap.get? b=some o/\X.H₀ b=none
 bsz:X.base.objs.size<=X.s₀.heap.objs.size
 noex:∀b o,X.base.get? b=some o->b∉X.ex
 exfs:∀b∈X.ex,b∉X.fs
 funs:X.s₀.heap.FunFrames X.base X.outer
 frf:∀b∈X.fs,X.H₀ b=none
structure Inv(X:Cx)(pins:List (Addr×Obj))(σ:List (Option V))(H:Hp)(s:Shared):Prop where
 ok:X.Ok
 os:s.os=X.s₀.os
 bare:AllBare s.gens
 base:Un X.fs X.ex X.H₀ H X.s₀.heap s.heap
 loc:∃m,s.heap.Ns X.env.locals m/\∀(i:Nat) (x:Str) (v:V),X.N[i]?=some x->σ[i]?=some (some v)->j2 X.env.scope x->∃u,RelV v u/\Look X.env s.heap m x u
 cell:∀x c,X.env.cells.lookup x=some c->∃v,s.heap.IsCell c v
 free:H X.env.locals=none
 freeC:∀x c,X.env.cells.lookup x=some c->H c=none
 pin:∀p∈X.pn++pins,s.heap.get? p.1=some p.2/\H p.1=none/\p.1≠X.env.locals/\p.1∉X.fs/\∀v,p.2.data≠.cell v
 hok:bt X.prog X.w H s.heap
 len:σ.length=X.N.length
section
variable {X:Cx} {pins:List (Addr×Obj)} {σ:List (Option V)} {H H':Hp} {s:Shared} {h':Heap}
def Cx.Ok.nofr(ok:X.Ok){b:Addr}{o:Obj}(e:X.base.get? b=some o):b∉X.fs:=λhb=>by have:=(ok.funs.mem hb).1;rw[e]at this;cases this
def Inv.bs(I:Inv X pins σ H s):∀b o,X.base.get? b=some o->s.heap.get? b=some o/\H b=none:=λb o e=>
 ⟨I.base.keep b o (I.ok.bs b o e).1 (I.ok.bs b o e).2 (I.ok.nofr e) (I.ok.noex b o e),I.base.free b o (I.ok.bs b o e).1 (I.ok.bs b o e).2 (I.ok.noex b o e)⟩
def Inv.bk(I:Inv X pins σ H s):∀b o,X.base.get? b=some o->s.heap.get? b=some o:=λb o e=>(I.bs b o e).1
def Inv.mod(I:Inv X pins σ H s):Mod X.K X.mg X.base:=I.ok.mod
def Inv.kIn(I:Inv X pins σ H s):X.K.In s.heap:=I.ok.mod.kin.keeps I.bk
def Inv.lt(I:Inv X pins σ H s):X.env.locals<s.heap.objs.size:=let ⟨_,hn,_⟩:=I.loc;hn.lt
def Inv.sz(I:Inv X pins σ H s):X.s₀.heap.objs.size<=s.heap.objs.size:=FP I.ok.above (Nat.le_of_lt I.lt)
def Inv.nofs(I:Inv X pins σ H s){a:Addr}(h:s.heap.objs.size<=a):a∉X.fs:=λhb=>by obtain⟨_,o,ho,_⟩:=I.ok.funs.mem hb;exact absurd (FO (Fe ho) (FP I.sz h)) (Nat.lt_irrefl _)
def Inv.cne(I:Inv X pins σ H s):∀x c,X.env.cells.lookup x=some c->c≠X.env.locals:=λx c e z=>by obtain⟨v,o,ho,hd⟩:=I.cell x c e;obtain⟨m,⟨o',es,ep,ho',hd',_⟩,_⟩:=I.loc;rw[z,ho']at ho;cases ho;rw[hd']at hd;cases hd
def Inv.funs(I:Inv X pins σ H s):s.heap.FunFrames X.base X.outer:=by
 have all:∀(l:List Env),(∀b∈du l,b∈X.fs)->X.s₀.heap.FunFrames X.base l->s.heap.FunFrames X.base l:=by
  intro l;induction l with
  | nil=>intro _ _;trivial
  | cons env r ih=>
   intro hs hl;obtain⟨hk,⟨L,o,hf,hn,ho,hd⟩,hr⟩:=hl;have hL:L∈X.fs:=hs L (by unfold du;rw[List.filterMap_cons,hf];exact Fm);obtain⟨sl,e⟩:=I.base.slot L o ho (I.ok.frf L hL) hL λz=>I.ok.exfs L z hL;exact⟨hk,⟨L,_,hf,hn,e,hd⟩,ih (λb hb=>hs b (by unfold du;rw[List.filterMap_cons,hf];exact Fi _ hb)) hr⟩
 exact all X.outer (λ_ hb=>hb) I.ok.funs
def Inv.stack(I:Inv X pins σ H s):s.heap.FunFrames X.base X.stack:=by
 rcases I.ok.stk with e|⟨e,hf⟩
 ·rw[e];exact I.funs
 ·rw[e];obtain⟨m,hn,_⟩:=I.loc;refine .cons (by rw[I.ok.kind];decide) hf hn ?_ I.funs;exact Heap.get?_none_of_le (FP I.ok.bsz I.ok.above)
def Inv.stkSub(I:Inv X pins σ H s):∀b∈du X.stack,b∈X.env.locals::X.fs:=λb hb=>by
 rcases I.ok.stk with e|⟨e,hf⟩
 ·rw[e]at hb;exact Fi _ hb
 ·rw[e]at hb;unfold du at hb;rw[List.filterMap_cons,hf]at hb;exact hb
def Inv.stkFree(I:Inv X pins σ H s):∀b∈du X.stack,H b=none:=λb hb=>by
 rcases Fv.mp (I.stkSub b hb)with e|hb
 ·rw[e];exact I.free
 ·obtain⟨_,o,ho,_⟩:=I.ok.funs.mem hb;exact I.base.free b o ho (I.ok.frf b hb) λz=>I.ok.exfs b z hb
def Inv.step{g':Array GenState}{t':Nat}{d':Drawn}{ch:List Addr}(I:Inv X pins σ H s)
  (hch:∀b∈ch,(b∈X.ex\/X.s₀.heap.objs.size<=b)/\b≠X.env.locals/\(∀x c,X.env.cells.lookup x=some c->c≠b)/\∀p∈X.pn++pins,p.1≠b)
  (keep:∀b o,b≠X.env.locals->b∉X.fs->b∉ch->s.heap.get? b=some o->H b=none->h'.get? b=some o)
  (slot:∀b o,b≠X.env.locals->b∈X.fs->b∉ch->s.heap.get? b=some o->H b=none->∃sl,h'.get? b=some { o with slots:=sl }) (free:∀b o,b∉ch->s.heap.get? b=some o->H b=none->H' b=none)
  (there:∀b o,b∉ch->s.heap.get? b=some o->∃o',h'.get? b=some o')
  (tups:∀b xs,H b=some (.tup xs)->H' b=some (.tup xs)) (frzs:∀b o u,H b=some (.frz o u)->H' b=some (.frz o u)) (tbls:∀b ps,H b=some (.tbl ps)->∃more,H' b=some (.tbl (ps++more)))
  (ns:∀m,s.heap.Ns X.env.locals m->h'.Ns X.env.locals m) (hok:bt X.prog X.w H' h') (hg:AllBare g') :
  Inv X pins σ H' { s with heap:=h',gens:=g',drawn:=d',toks:=t' }:=by
 have neL:∀b o,X.s₀.heap.get? b=some o->b≠X.env.locals:=λb o e=>Fz (FO (Fe e) I.ok.above);have neC:∀b o,X.s₀.heap.get? b=some o->b∉X.ex->b∉ch:=λb o e hx hb=>by
  rcases(hch b hb).1 with z|z
  ·exact hx z
  ·exact absurd (FO (Fe e) z) (Nat.lt_irrefl _)
 have cellK:∀x c,X.env.cells.lookup x=some c->∀v,s.heap.IsCell c v->h'.IsCell c v:=λx c e v ⟨o,ho,hd⟩=>by
  have nch:c∉ch:=λz=>(hch c z).2.2.1 x c e rfl;by_cases hc:c∈X.fs
  ·obtain⟨sl,q⟩:=slot c o (I.cne x c e) hc nch ho (I.freeC x c e);exact⟨_,q,hd⟩
  ·exact⟨o,keep c o (I.cne x c e) hc nch ho (I.freeC x c e),hd⟩
 refine⟨I.ok,I.os,hg,⟨λb o e n hb hx=>?_,λb o e n hb hx=>?_,λb o e n hx=>?_,λb o e hx=>?_,λb xs e=>tups b xs (I.base.tups b xs e),λb o xs e=>frzs b o xs (I.base.frzs b o xs e),λb ps e=>?_⟩,?_,λx c e=>?_,?_,λx c e=>?_,λp hp=>?_,hok,I.len⟩
 ·exact keep b o (neL b o e) hb (neC b o e hx) (I.base.keep b o e n hb hx) (I.base.free b o e n hx)
 ·obtain⟨sl,e1⟩:=I.base.slot b o e n hb hx;obtain⟨sl',e2⟩:=slot b _ (neL b o e) hb (neC b o e hx) e1 (I.base.free b o e n hx);exact⟨sl',e2⟩
 ·obtain⟨o',e1⟩:=I.base.there b o e hx;exact free b o' (neC b o e hx) e1 (I.base.free b o e n hx)
 ·obtain⟨o',e1⟩:=I.base.there b o e hx;exact there b o' (neC b o e hx) e1
 ·obtain⟨m1,e1⟩:=I.base.tbls b ps e;obtain⟨m2,e2⟩:=tbls b _ e1;exact⟨m1++m2,by rw[e2,Array.append_assoc]⟩
 ·obtain⟨m,hn,hl⟩:=I.loc;refine⟨m,ns m hn,λi x v e1 e2 e3=>?_⟩;obtain⟨u,r,l⟩:=hl i x v e1 e2 e3;refine⟨u,r,?_⟩;rcases l with l|⟨k,c,e,z⟩
  ·exact .inl l
  ·exact .inr ⟨k,c,e,cellK x c e _ z⟩
 ·obtain⟨v,z⟩:=I.cell x c e;exact⟨v,cellK x c e v z⟩
 ·obtain⟨m,⟨o,_,_,ho,_⟩,_⟩:=I.loc;exact free _ o (λz=>(hch _ z).2.1 rfl) ho I.free
 ·obtain⟨v,o,ho,hd⟩:=I.cell x c e;exact free c o (λz=>(hch c z).2.2.1 x c e rfl) ho (I.freeC x c e)
 ·obtain⟨e,n,ne,nf,d⟩:=I.pin p hp;have nch:p.1∉ch:=λz=>(hch p.1 z).2.2.2 p hp rfl;exact⟨keep p.1 p.2 ne nf nch e n,free p.1 p.2 nch e n,ne,nf,d⟩
def Inv.un{t':Nat}(I:Inv X pins σ H s)(u:Un X.fs [] H H' s.heap h')(hok:bt X.prog X.w H' h'):Inv X pins σ H' { s with heap:=h',toks:=t' }:=by
 obtain⟨m,⟨o,es,ep,ho,r⟩,_⟩:=id I.loc;obtain⟨sl,hL⟩:=u.any ho I.free (by simp);exact I.step (g':=s.gens) (d':=s.drawn) (ch:=[]) (λ_ z=>nomatch z) (λb o _ hb _ e n=>u.keep b o e n hb (by simp)) (λb o _ hb _ e n=>u.slot b o e n hb (by simp)) (λb o _ e n=>u.free b o e n (by simp)) (λb o _ e=>u.there b o e (by simp)) u.tups u.frzs u.tbls (λm' hm=>by obtain⟨o',es',ep',ho',r'⟩:=hm;rw[ho]at ho';cases ho';exact⟨_,es',ep',hL,r'⟩) hok I.bare
def Inv.call{g':Array GenState}{t':Nat}{d':Drawn}{ch:List Addr}(I:Inv X pins σ H s)(u:Un (du X.stack) ch H H' s.heap h')(hok:bt X.prog X.w H' h')(hg:AllBare g')
  (hch:∀b∈ch,(b∈X.ex\/X.s₀.heap.objs.size<=b)/\b≠X.env.locals/\(∀x c,X.env.cells.lookup x=some c->c≠b)/\∀p∈X.pn++pins,p.1≠b) :
  Inv X pins σ H' { s with heap:=h',gens:=g',drawn:=d',toks:=t' }:=by
 obtain⟨m,⟨o,es,ep,ho,r⟩,_⟩:=id I.loc;obtain⟨sl,hL⟩:=u.any ho I.free λz=>(hch _ z).2.1 rfl;exact I.step (ch:=ch) hch (λb o hL hb hc e n=>u.keep b o e n (λz=>(Fv.mp (I.stkSub b z)).elim hL hb) hc) (λb o _ _ hc e n=>u.any e n hc) (λb o hc e n=>u.free b o e n hc) (λb o hc e=>u.there b o e hc) u.tups u.frzs u.tbls (λm' hm=>by obtain⟨o',es',ep',ho',r'⟩:=hm;rw[ho]at ho';cases ho';exact⟨_,es',ep',hL,r'⟩) hok hg
def Inv.turned{t':Nat}{it:Addr}(I:Inv X pins σ H s)(k:∀b o,b≠it->s.heap.get? b=some o->h'.get? b=some o)(hn:H it=none)(hL:it≠X.env.locals)
  (h1:it∈X.ex\/X.s₀.heap.objs.size<=it) (h2:∀x c,X.env.cells.lookup x=some c->c≠it) (h3:∀p∈X.pn++pins,p.1≠it):Inv X pins σ H { s with heap:=h',toks:=t' }:=by
 have nit:∀b u,H b=some u->b≠it:=λb u e z=>by rw[z,hn]at e;cases e
 refine I.step (g':=s.gens) (d':=s.drawn) (ch:=[it]) (λb hb=>?_) (λb o _ _ hc e _=>k b o (λz=>hc (by simp[z])) e) (λb o _ _ hc e _=>⟨o.slots,k b o (λz=>hc (by simp[z])) e⟩) (λ_ _ _ _ n=>n)
  (λb o hc e=>⟨o,k b o (λz=>hc (by simp[z])) e⟩) (λ_ _ e=>e) (λ_ _ _ e=>e) (λb ps e=>⟨#[],by rw[e];simp⟩) (λm hm=>?_) (λb u e=>?_) I.bare
 ·have e:b=it:=by simpa using hb
  subst e;exact⟨h1,hL,h2,h3⟩
 ·obtain⟨o,es,ep,ho,r⟩:=hm;exact⟨o,es,ep,k _ o (Ne.symm hL) ho,r⟩
 ·refine(I.hok b u e).stay (λc v hc q=>k c v ?_ q) (λ_ q=>q) λ_ _ q=>q;rcases hc with z|z
  ·rw[z];exact nit b u e
  ·exact nit c _ z
def Inv.tok(I:Inv X pins σ H s)(t:Nat):Inv X pins σ H { s with toks:=t }:=I.un (h':=s.heap) (t':=t) Un.refl I.hok
def Inv.kept{t':Nat}(I:Inv X pins σ H s)(k:∀b u,s.heap.get? b=some u->h'.get? b=some u):Inv X pins σ H { s with heap:=h',toks:=t' }:=I.un (Un.kept k) (I.hok.kept k)
def Inv.laid{a:Addr}{o:HO}{t':Nat}(I:Inv X pins σ H s)(k:∀b u,s.heap.get? b=some u->h'.get? b=some u)(hp:s.heap.objs.size<=a)(new:bC X.prog X.w (upd H a o) h' a o):
  Inv X pins σ (upd H a o) { s with heap:=h',toks:=t' }:=I.un (Un.laid k hp (I.hok.fresh hp)) (I.hok.laid k hp new)
def Inv.write{x e:Addr}{o:HO}{t':Nat}(I:Inv X pins σ H s)(mu:ju (H x))(he:e=x\/H e=some (.own x))(k:∀b u,b≠e->s.heap.get? b=some u->h'.get? b=some u)(heo:∃u,h'.get? e=some u)
  (new:bC X.prog X.w (upd H x o) h' x o):Inv X pins σ (upd H x o) { s with heap:=h',toks:=t' }:=I.un (Un.write mu he k heo) (I.hok.write mu he k heo new)
def Inv.pins_of{pins':List (Addr×Obj)}(I:Inv X pins σ H s)(h:∀p∈pins',s.heap.get? p.1=some p.2/\H p.1=none/\p.1≠X.env.locals/\p.1∉X.fs/\∀v,p.2.data≠.cell v):Inv X pins' σ H s:=
 ⟨I.ok,I.os,I.bare,I.base,I.loc,I.cell,I.free,I.freeC,λp hp=>(FE.mp hp).elim (λz=>I.pin p (FZ _ z)) (h p),I.hok,I.len⟩
def sq{N:List Str}(hN:N.Nodup){i j:Nat}{x:Str}(a:N[i]?=some x)(b:N[j]?=some x):i=j:=by obtain⟨h1,e1⟩:=Fo.mp a;obtain⟨h2,e2⟩:=Fo.mp b;exact(List.getElem_inj hN).mp (e1.trans e2.symm)
def rN{M:Model}{A:Around}{E:Value->Shared->Prop}{i:Nat}{x:Str}{v:V}{u:Value}{Q:Unit->Shared->Prop}(I:Inv X pins σ H s)(hN:X.N.Nodup)(hi:X.N[i]?=some x)(hx:Loc X.env.scope x)(r:RelV v u)
  (h:∀s',Inv X pins (σ.set i (some v)) H s'->(∃a,Heap.SameBut a s.heap s'.heap/\(a=X.env.locals\/X.env.cells.lookup x=some a))->Q () s') (hf:X.fn x=true\/X.env.scope.names.lookup x=some .local:=by first|exact .inl rfl|exact .inr rfl|assumption):wpAny M A (storeName X.env x u) Q E s:=by
 obtain⟨m,hn,hl⟩:=id I.loc;have hcls:(X.env.scope.kind == .class || (X.env.scope.kind == .module && X.env.locals != X.env.globals))=false:=by rw[I.ok.kind];rfl
 have hiσ:i<σ.length:=by rw[I.len];exact(Fo.mp hi).1
 have cne:=I.cne;have tracked:∀{a:Addr} {h':Heap},(∃o,s.heap.get? a=some o/\H a=none)->Heap.SameBut a s.heap h'->bt X.prog X.w H h':=λ{a h'} ha hs b ob e=>by
  obtain⟨_,_,hfree⟩:=ha;refine(I.hok b ob e).stay (λc w' hc q=>(hs.2 c ?_).trans q) (λ_ q=>q) λ_ _ q=>q;rintro rfl;rcases hc with rfl|hc
  ·rw[hfree]at e;cases e
  ·rw[hfree]at hc;cases hc
 rcases hx with hk|hk
 ·refine wpAny_storeName_local hk hn (λh' hn' hs=>?_) hcls;obtain⟨oL,_,_,hoL,_⟩:=id hn;refine h _ ⟨I.ok,I.os,I.bare,⟨λb o e n hb hx=>?_,λb o e n hb hx=>?_,I.base.free,λb o e hx=>?_,I.base.tups,I.base.frzs,I.base.tbls⟩,⟨_,hn',λj y v' e1 e2 e3=>?_⟩,λy c e=>?_,I.free,I.freeC,λp hp=>?_,tracked ⟨oL,hoL,I.free⟩ hs,by simpa using I.len⟩ ⟨_,hs,.inl rfl⟩
  ·exact(hs.2 b (Fz (FO (Fe e) I.ok.above))).trans (I.base.keep b o e n hb hx)
  ·obtain⟨sl,e1⟩:=I.base.slot b o e n hb hx;exact⟨sl,(hs.2 b (Fz (FO (Fe e) I.ok.above))).trans e1⟩
  ·obtain⟨o',e1⟩:=I.base.there b o e hx;exact⟨o',(hs.2 b (Fz (FO (Fe e) I.ok.above))).trans e1⟩
  ·by_cases hj:j=i
   ·subst hj;rw[hi]at e1;cases e1;rw[List.getElem?_set_self hiσ]at e2;cases e2;exact⟨u,r,.inl ⟨hk,by simp⟩⟩
   ·rw[List.getElem?_set_ne (Ne.symm hj)]at e2;obtain⟨u',r',q⟩:=hl j y v' e1 e2 e3;refine⟨u',r',?_⟩;rcases q with⟨k,e⟩|⟨k,c,e,z⟩
    ·refine .inl ⟨k,?_⟩;have:y≠x:=λe=>hj (sq hN e1 (e ▸ hi));simp[this,e]
    ·exact .inr ⟨k,c,e,z.sameBut hs (cne y c e)⟩
  ·obtain⟨w',z⟩:=I.cell y c e;exact⟨w',z.sameBut hs (cne y c e)⟩
  ·obtain⟨e,n,ne,nf,d⟩:=I.pin p hp;exact⟨(hs.2 p.1 ne).trans e,n,ne,nf,d⟩
 ·have hfn:X.fn x=true:=by
   rcases hf with z|z
   ·exact z
   ·rw[z]at hk;cases hk
  obtain⟨c,hc⟩:=I.ok.has x (.inl hk);obtain⟨w',z⟩:=I.cell x c hc;refine wpAny_storeName_cell I.ok.kind hk hc z (λh' hc' hs=>?_);obtain⟨oc,hoc,hocd⟩:=id z;refine h { s with heap:=h' } ⟨I.ok,I.os,I.bare,⟨λb o e n hb hx=>?_,λb o e n hb hx=>?_,I.base.free,λb o e hx=>?_,I.base.tups,I.base.frzs,I.base.tbls⟩,⟨m,hn.sameBut hs (Ne.symm (cne x c hc)),λj y v' e1 e2 e3=>?_⟩,λy c' e=>?_,I.free,I.freeC,λp hp=>?_,tracked ⟨oc,hoc,I.freeC x c hc⟩ hs,by simpa using I.len⟩ ⟨c,hs,.inr hc⟩
  ·exact(hs.2 b (Fz (FO (Fe e) (I.ok.cab x c hfn hc)))).trans (I.base.keep b o e n hb hx)
  ·obtain⟨sl,e1⟩:=I.base.slot b o e n hb hx;exact⟨sl,(hs.2 b (Fz (FO (Fe e) (I.ok.cab x c hfn hc)))).trans e1⟩
  ·obtain⟨o',e1⟩:=I.base.there b o e hx;exact⟨o',(hs.2 b (Fz (FO (Fe e) (I.ok.cab x c hfn hc)))).trans e1⟩
  ·by_cases hj:j=i
   ·subst hj;rw[hi]at e1;cases e1;rw[List.getElem?_set_self hiσ]at e2;cases e2;exact⟨u,r,.inr ⟨.inl hk,c,hc,hc'⟩⟩
   ·rw[List.getElem?_set_ne (Ne.symm hj)]at e2;obtain⟨u',r',q⟩:=hl j y v' e1 e2 e3;refine⟨u',r',?_⟩;rcases q with q|⟨k,c',e,z'⟩
    ·exact .inl q
    ·refine .inr ⟨k,c',e,z'.sameBut hs ?_⟩;rintro rfl;exact hj (sq hN e1 (I.ok.inj _ _ _ e hc ▸ hi))
  ·by_cases hcc:c'=c
   ·subst hcc;exact⟨_,hc'⟩
   ·obtain⟨w2,z2⟩:=I.cell y c' e;exact⟨w2,z2.sameBut hs hcc⟩
  ·obtain⟨e,n,ne,nf,d⟩:=I.pin p hp;refine⟨(hs.2 p.1 ?_).trans e,n,ne,nf,d⟩;intro q;rw[q,hoc]at e;have q':oc=p.2:=FX e;exact d w' (by rw[←q'];exact hocd)
def jk{M:Model}{A:Around}{E:Value->Shared->Prop}{i:Nat}{x:Str}{v:V}{u:Value}{Q:Unit->Shared->Prop}(I:Inv X pins σ H s)(hN:X.N.Nodup)(hi:X.N[i]?=some x)(hx:Loc X.env.scope x)(r:RelV v u)
  (h:∀s',Inv X pins (σ.set i (some v)) H s'->Q () s') (hf:X.fn x=true\/X.env.scope.names.lookup x=some .local:=by first|exact .inl rfl|exact .inr rfl|assumption):wpAny M A (storeName X.env x u) Q E s:=
 rN I hN hi hx r (λs' I' _=>h s' I') hf
def Inv.call'{s':Shared}{ch:List Addr}(I:Inv X pins σ H s)(ho:s'.os=s.os)(u:Un (du X.stack) ch H H' s.heap s'.heap)(hok:bt X.prog X.w H' s'.heap)(hg:AllBare s'.gens)
  (hch:∀b∈ch,(b∈X.ex\/X.s₀.heap.objs.size<=b)/\b≠X.env.locals/\(∀x c,X.env.cells.lookup x=some c->c≠b)/\∀p∈X.pn++pins,p.1≠b):Inv X pins σ H' s':=by
 obtain⟨h',g',d',t',o'⟩:=s';have e:o'=s.os:=ho;subst e;exact I.call (g':=g') (t':=t') (d':=d') u hok hg hch
end
abbrev XK:=Value->Option Addr->Hp->Prop
abbrev St:=List (Option V)
abbrev VK:=V->Hp->Prop
abbrev TE:=St->Hp->VK->Prop
abbrev TT:=St->Hp->(Bool->Hp->Prop)->Prop
abbrev TA:=St->Hp->(List V->Hp->Prop)->Prop
structure Ends where
 nx:St->Hp->Prop
 rt:VK
 bk:St->Hp->Prop:=λ_ _=>False
 ct:St->Hp->Prop:=λ_ _=>False
abbrev TS:=Ends->St->Hp->Prop
def EP(X:Cx)(pins:List (Addr×Obj))(σ:St)(Q:VK)(u:Value)(s':Shared):Prop:=∃v H',Inv X pins σ H' s'/\RelV v u/\Q v H'
def TP(X:Cx)(pins:List (Addr×Obj))(σ:St)(Q:Bool->Hp->Prop)(b:Bool)(s':Shared):Prop:=∃H',Inv X pins σ H' s'/\Q b H'
def AP(X:Cx)(pins:List (Addr×Obj))(σ:St)(Q:List V->Hp->Prop)(us:List Value)(s':Shared):Prop:=∃vs H',Inv X pins σ H' s'/\Vals vs us/\Q vs H'
def SP(X:Cx)(pins:List (Addr×Obj))(D:Ends)(f:Flow)(s':Shared):Prop:=
 match f with
 | .next=>∃σ' H',Inv X pins σ' H' s'/\D.nx σ' H'
 | .brk=>∃σ' H',Inv X pins σ' H' s'/\D.bk σ' H'
 | .cont=>∃σ' H',Inv X pins σ' H' s'/\D.ct σ' H'
 | .ret u=>∃v σ' H',Inv X pins σ' H' s'/\RelV v u/\D.rt v H'
def PE(X:Cx)(e:Expr)(t:TE):Prop:=
 ∀(pins:List (Addr×Obj)) (s:Shared) (σ:St) (H:Hp) (Q:VK),Inv X pins σ H s->t σ H Q->wpAny (model X.prog X.w) X.A (eval e X.env) (EP X pins σ Q) X.xe s
def PT(X:Cx)(e:Expr)(t:TT):Prop:=
 ∀(pins:List (Addr×Obj)) (s:Shared) (σ:St) (H:Hp) (Q:Bool->Hp->Prop),Inv X pins σ H s->t σ H Q->wpAny (model X.prog X.w) X.A (isTrue e X.env (eval e X.env)) (TP X pins σ Q) X.xe s
def PW(X:Cx)(e:Expr)(t:TT):Prop:=
 ∀(whole:Sem Value) (pins:List (Addr×Obj)) (s:Shared) (σ:St) (H:Hp) (Q:Bool->Hp->Prop),Inv X pins σ H s->t σ H Q->wpAny (model X.prog X.w) X.A (isTrue e X.env whole) (TP X pins σ Q) X.xe s
def PW.pt{X:Cx}{e:Expr}{t:TT}(h:PW X e t):PT X e t:=h _
def PA(X:Cx)(es:List Expr)(t:TA):Prop:=
 ∀(pos:Pos) (pins:List (Addr×Obj)) (s:Shared) (σ:St) (H:Hp) (Q:List V->Hp->Prop),Inv X pins σ H s->t σ H Q->wpAny (model X.prog X.w) X.A (spliced (backTo pos (starEach es X.env))) (AP X pins σ Q) X.xe s
def PS(X:Cx)(st:Stmt)(t:TS):Prop:=
 ∀(pins:List (Addr×Obj)) (s:Shared) (σ:St) (H:Hp) (D:Ends),Inv X pins σ H s->t D σ H->wpAny (model X.prog X.w) X.A (exec st X.env) (SP X pins D) X.xe s
def cS(X:Cx)(st:List Stmt)(t:TS):Prop:=
 ∀(pins:List (Addr×Obj)) (s:Shared) (σ:St) (H:Hp) (D:Ends),Inv X pins σ H s->t D σ H->wpAny (model X.prog X.w) X.A (execs st X.env) (SP X pins D) X.xe s
def aD{α:Type}{t:Sem α}{Q Q':α->Shared->Prop}{M:Model}{A:Around}{E:Value->Shared->Prop}{s:Shared}(h:wpAny M A t Q E s)(hQ:∀a s,Q a s->Q' a s):wpAny M A t Q' E s:=wpAny_mono h hQ λ_ _ x=>x
section
variable {X:Cx}
def bin{a b:Expr}{ta tb:TE}(ha:PE X a ta)(hb:PE X b tb){pins:List (Addr×Obj)}{s:Shared}{σ:St}{H:Hp}{R:V->V->Hp->Prop}(I:Inv X pins σ H s)(h:ta σ H λx H1=>tb σ H1 λy H2=>R x y H2)
  {α:Type} {Q:α->Shared->Prop} {f:Value->Value->Sem α}
  (hf:∀v u s2 x y H2,Inv X pins σ H2 s2->RelV x v->RelV y u->R x y H2->wpAny (model X.prog X.w) X.A (f v u) Q X.xe s2) :
  wpAny (model X.prog X.w) X.A (eval a X.env) (λv s₁=>wpAny (model X.prog X.w) X.A (eval b X.env) (λu s₂=>wpAny (model X.prog X.w) X.A (f v u) Q X.xe s₂) X.xe s₁) X.xe s:=by
 refine aD (ha pins s σ H _ I h) λv s1 ⟨x,H1,I1,r1,q1⟩=>?_;refine aD (hb pins s1 σ H1 _ I1 q1) λu s2 ⟨y,H2,I2,r2,q2⟩=>?_;exact hf v u s2 x y H2 I2 r1 r2 q2
def nO(i:Nat):TE:=λσ H Q=>∃v,σ[i]?=some (some v)/\Q v H
def tC(v:V):TE:=λ_ H Q=>Q v H
def AD{i:Nat}{x:Str}{pos:Pos}(hN:X.N[i]?=some x)(hv:j2 X.env.scope x)(hd:(x == ("__debug__":Str))=false:=by decide)(hcd:(x == ("__classdict__":Str))=false:=by decide):PE X (.Name x pos) (nO i):=by
 intro pins s σ H Q I h;obtain⟨v,e,h⟩:=h;obtain⟨m,hn,hl⟩:=I.loc;obtain⟨u,r,l⟩:=hl i x v hN e hv;have fin:EP X pins σ Q u s:=⟨v,H,I,r,h⟩;rcases l with⟨hk,hm⟩|⟨hk,c,hc,hcell⟩
 ·exact wpAny_Name (wpAny_loadName_local I.ok.kind hk hn hm fin) hd
 ·rcases hk with hk|hk
  ·exact wpAny_Name (wpAny_loadName_cell I.ok.kind hk hc hcell fin) hd
  ·exact wpAny_Name (wpAny_loadName_free I.ok.kind hk hc hcell fin hcd) hd
def ae{i j pos}:PE X (.Constant (.int i) j pos) (tC (.int i)):=λ_ _ _ H _ I h=>wpAny_Constant_int ⟨.int i,H,I.tok _,⟨_,rfl⟩,h⟩
def bO{b j pos}:PE X (.Constant (.bool b) j pos) (tC (.bl b)):=λ_ _ _ H _ I h=>Constant_bool ⟨.bl b,H,I,rfl,h⟩
def iN{j pos}:PE X (.Constant .none j pos) (tC .non):=λ_ _ _ H _ I h=>Constant_none ⟨.non,H,I,rfl,h⟩
def aW{x j pos}:PE X (.Constant (.str x) j pos) (tC (.str x)):=λ_ _ _ H _ I h=>Calls.Constant_str ⟨.str x,H,I.tok _,⟨_,rfl⟩,h⟩
def Gl(X:Cx)(x:Str):Prop:=X.env.kindOf x=some .globalImplicit
def jA{E:Value->Shared->Prop}{pins:List (Addr×Obj)}{s:Shared}{σ:St}{H:Hp}{x:Str}{u:Value}{pos:Pos}{Q:Value->Shared->Prop}(I:Inv X pins σ H s)(hg:Gl X x)(hm:X.mg x=some u)(h:Q u s)
  (hd:(x == ("__debug__":Str))=false:=by decide):wpAny (model X.prog X.w) X.A (eval (.Name x pos) X.env) Q E s:=
 Calls.Name_function_global I.ok.kind hg (Calls.loadGlobal_global (by rw[I.ok.glob];exact I.mod.glob.keeps I.bk) hm h) hd
def fh{E:Value->Shared->Prop}{pins:List (Addr×Obj)}{s:Shared}{σ:St}{H:Hp}{x:Str}{u:Value}{pos:Pos}{Q:Value->Shared->Prop}(I:Inv X pins σ H s)(hg:Gl X x)(hm:X.mg x=none)(hv:bootBuiltins x=some u)(h:Q u s)
  (hn:x≠"__name__":=by decide) (hd:(x == ("__debug__":Str))=false:=by decide):wpAny (model X.prog X.w) X.A (eval (.Name x pos) X.env) Q E s:=by
 obtain⟨mb,h1,h2⟩:=I.mod.blt;exact Calls.Name_function_global I.ok.kind hg (Calls.loadGlobal_builtin (by rw[I.ok.glob];exact I.mod.glob.keeps I.bk) hm (by rw[I.ok.blt];exact h1.keeps I.bk) ((h2 x hn).trans hv) h) hd
def jb{x:Str}{v:V}{u:Value}{pos:Pos}(hg:Gl X x)(hm:X.mg x=some u)(r:RelV v u)(hd:(x == ("__debug__":Str))=false:=by decide):PE X (.Name x pos) (tC v):=
 λ_ _ _ H _ I h=>jA I hg hm ⟨v,H,I,r,h⟩ hd
def dO{x:Str}{v:V}{u:Value}{pos:Pos}(hg:Gl X x)(hm:X.mg x=none)(hv:bootBuiltins x=some u)(r:RelV v u)(hn:x≠"__name__":=by decide)(hd:(x == ("__debug__":Str))=false:=by decide):PE X (.Name x pos) (tC v):=
 λ_ _ _ H _ I h=>fh I hg hm hv ⟨v,H,I,r,h⟩ hn hd
variable {a b:Expr} {ta tb:TE} {pos:Pos}
def PC(X:Cx)(op:CmpOp)(a b:Expr)(t:TE):Prop:=
 ∀(pins:List (Addr×Obj)) (s:Shared) (σ:St) (H:Hp) (Q:VK),Inv X pins σ H s->t σ H Q →
  wpAny (model X.prog X.w) X.A (eval a X.env) (λv s₁=>wpAny (model X.prog X.w) X.A (eval b X.env) (λu s₂=>wpAny (model X.prog X.w) X.A (compareOp op v u) (EP X pins σ Q) X.xe s₂) X.xe s₁) X.xe s
def tB(t:TE):TT:=λσ H Q=>t σ H λx H1=>∃c,x=.bl c/\Q c H1
def Ep{op:CmpOp}{t:TE}(h:PC X op a b t)(h1:behindInMarks op b=false:=by first|exact nobehind _ (by decide) (by decide)|rfl):PE X (.Compare a [op] [b] pos) t:=λpins s σ H Q I hw=>wpAny_Compare1 (h pins s σ H Q I hw) h1
def jh{op:CmpOp}{t:TE}(h:PC X op a b t)(h1:behindInMarks op b=false:=by first|exact nobehind _ (by decide) (by decide)|rfl):PT X (.Compare a [op] [b] pos) (tB t):=by intro pins s σ H Q I hw;refine wpAny_isTrue_Compare1 (aD (h pins s σ H _ I hw) λv s1 h1=>aD h1 λu s2 h2=>aD h2 λc s3 ⟨x,H1,I1,r1,q1⟩=>?_) h1;obtain⟨d,rfl,q⟩:=q1;cases r1;exact wpAny_truthy_bool ⟨H1,I1,q⟩
def bB{e:Expr}{t:TE}(h:PE X e t)(he:∀whole,isTrue e X.env whole=(do let v ←whole;standAt e.pos;holding [v] (truthy v)):=by intro _;rfl):PT X e (tB t):=by intro pins s σ H Q I hw;refine isTrue_plain (aD (h pins s σ H _ I hw) λv s1 ⟨x,H1,I1,r1,q1⟩=>?_) (he _);obtain⟨d,rfl,q⟩:=q1;cases r1;exact wpAny_truthy_bool ⟨H1,I1,q⟩
variable {tA tB':TT} {rest:List Expr}
def qI(t u:TT):TT:=λσ H Q=>t σ H λc H1=>if c=true then u σ H1 Q else Q false H1
def tX(t u:TT):TT:=λσ H Q=>t σ H λc H1=>if c=true then Q true H1 else u σ H1 Q
def wD(t:TT):TT:=λσ H Q=>t σ H λc H1=>Q (!c) H1
def gJ(ha:PT X a tA):PW X (.BoolOp .And [a] pos) tA:=by
 intro wh pins s σ H Q I h;refine isTrue_and (aD (ha pins s σ H Q I h) λc s1 e=>?_);cases c with
 | true=>exact isTrue_and_nil e
 | false=>exact e
def dj(ha:PT X a tA):PW X (.BoolOp .Or [a] pos) tA:=by
 intro wh pins s σ H Q I h;refine isTrue_or (aD (ha pins s σ H Q I h) λc s1 e=>?_);cases c with
 | false=>exact isTrue_or_nil e
 | true=>exact e
def fX(ha:PT X a tA)(hb:PW X (.BoolOp .And (b::rest) pos) tB'):PW X (.BoolOp .And (a::b::rest) pos) (qI tA tB'):=by
 intro wh pins s σ H Q I h;refine isTrue_and (aD (ha pins s σ H _ I h) λc s1 ⟨H1,I1,q1⟩=>?_);cases c with
 | true=>exact hb wh pins s1 σ H1 Q I1 q1
 | false=>exact⟨H1,I1,q1⟩
def cE(ha:PT X a tA)(hb:PW X (.BoolOp .Or (b::rest) pos) tB'):PW X (.BoolOp .Or (a::b::rest) pos) (tX tA tB'):=by
 intro wh pins s σ H Q I h;refine isTrue_or (aD (ha pins s σ H _ I h) λc s1 ⟨H1,I1,q1⟩=>?_);cases c with
 | true=>exact⟨H1,I1,q1⟩
 | false=>exact hb wh pins s1 σ H1 Q I1 q1
def bY(ha:PT X a tA):PT X (.UnaryOp .Not a pos) (wD tA):=by intro pins s σ H Q I h;exact isTrue_not (ha pins s σ H (λc H1=>Q (!c) H1) I h)
def xx(ta tb:TE):TE:=λσ H Q=>ta σ H λx H1=>∃c,x=.bl c/\if c=true then tb σ H1 Q else Q (.bl false) H1
def qp(ta tb:TE):TE:=λσ H Q=>ta σ H λx H1=>∃c,x=.bl c/\if c=true then Q (.bl true) H1 else tb σ H1 Q
def vi(ta:TE):TE:=λσ H Q=>ta σ H λx H1=>∃c,x=.bl c/\Q (.bl (!c)) H1
def dN{op}{t:TE}(h:PE X a t):PE X (.BoolOp op [a] pos) t:=λpins s σ H Q I hw=>BoolOp_one (h pins s σ H Q I hw)
def di(ha:PE X a ta)(hb:PE X (.BoolOp .And (b::rest) pos) tb):PE X (.BoolOp .And (a::b::rest) pos) (xx ta tb):=by
 intro pins s σ H Q I h;refine BoolOp_and (aD (ha pins s σ H _ I h) λv s1 ⟨x,H1,I1,r1,q1⟩=>?_);obtain⟨c,rfl,q1⟩:=q1;cases r1;refine wpAny_truthy_bool ?_;cases c with
 | true=>exact hb pins s1 σ H1 Q I1 q1
 | false=>exact⟨.bl false,H1,I1,rfl,q1⟩
def qA(ha:PE X a ta)(hb:PE X (.BoolOp .Or (b::rest) pos) tb):PE X (.BoolOp .Or (a::b::rest) pos) (qp ta tb):=by
 intro pins s σ H Q I h;refine BoolOp_or (aD (ha pins s σ H _ I h) λv s1 ⟨x,H1,I1,r1,q1⟩=>?_);obtain⟨c,rfl,q1⟩:=q1;cases r1;refine wpAny_truthy_bool ?_;cases c with
 | false=>exact hb pins s1 σ H1 Q I1 q1
 | true=>exact⟨.bl true,H1,I1,rfl,q1⟩
def uW(ha:PE X a ta):PE X (.UnaryOp .Not a pos) (vi ta):=by intro pins s σ H Q I h;refine UnaryOp_ (aD (ha pins s σ H _ I h) λv s1 ⟨x,H1,I1,r1,q1⟩=>?_);obtain⟨c,rfl,q1⟩:=q1;cases r1;exact not_of (wpAny_truthy_bool ⟨.bl (!c),H1,I1,rfl,q1⟩)
end
def ag(K:Fb)(H:Hp)(a:Addr)(xs:List V):Prop:=
 Rd H a (.lst xs) ∨
  ∃(o:Obj) (its:Array Value) (n:Nat),K.lookup a=some o/\o.cls=.type "list"/\o.dict=none/\o.data=.seq its n/\its.size<=sizeLine/\Vals xs its.toList
def ah(K:Fb)(H:Hp)(a:Addr)(xs:List V):Prop:=
 Rd H a (.tup xs) ∨
  ∃(o:Obj) (its:Array Value) (n:Nat),K.lookup a=some o/\o.cls=.type "tuple"/\o.data=.seq its n/\its.size<=sizeLine/\Vals xs its.toList
def zh:Value->Option V
 | .none=>some .non
 | .bool b=>some (.bl b)
 | .int i _=>some (.int i)
 | .str x _=>some (.str x)
 | .bytes b _=>some (.byt b)
 | .float b _=>some (.flt b)
 | .ref a=>some (.ref a)
 | .type n=>some (.ty n)
 | _=>none
def RelV.abs{x:V}{u:Value}(r:RelV x u):zh u=some x:=by
 cases x with
 | non=>cases r;rfl
 | bl _=>cases r;rfl
 | int _=>obtain⟨t,rfl⟩:=r;rfl
 | str _=>obtain⟨t,rfl⟩:=r;rfl
 | byt _=>obtain⟨t,rfl⟩:=r;rfl
 | flt _=>obtain⟨t,rfl⟩:=r;rfl
 | ref _=>cases r;rfl
 | ty _=>cases r;rfl
def RelV.inj{x y:V}{u:Value}(r:RelV x u)(q:RelV y u):x=y:=FX (r.abs.symm.trans q.abs)
def Vals.inj:∀{xs ys:List V} {us:List Value},Vals xs us->Vals ys us->xs=ys
 | _,_,_,.nil,.nil=>rfl
 | _,_,_,.cons r t,.cons r' t'=>by rw[r.inj r',Vals.inj t t']
section
variable {X:Cx} {pins:List (Addr×Obj)} {σ:St} {H:Hp} {s:Shared} {a:Addr} {xs ys:List V}
def ag.of{K:Fb}(h:H a=some (.lst xs)):ag K H a xs:=.inl (.inl h)
def ah.of{K:Fb}(h:H a=some (.tup xs)):ah K H a xs:=.inl (.inl h)
def Inv.list(I:Inv X pins σ H s)(h:ag X.K H a xs):∃its:List Value,Vals xs its/\PlainL s.heap a its.toArray/\xs.length<=sizeLine:=by
 rcases h with h|⟨o,its,n,hk,hc,hd,hs,hz,r⟩
 ·obtain⟨z,its,n,r,e⟩:=h.ok I.hok;exact⟨its,r,⟨_,n,e,rfl,rfl,rfl⟩,z⟩
 ·refine⟨its.toList,r,⟨o,n,I.kIn a o hk,hc,hd,by simpa using hs⟩,?_⟩;have e:=r.length;simp only[Fj]at e;omega
def Inv.tuple(I:Inv X pins σ H s)(h:ah X.K H a xs):∃its:List Value,Vals xs its/\IsTup s.heap a its.toArray/\xs.length<=sizeLine:=by
 rcases h with h|⟨o,its,n,hk,hc,hs,hz,r⟩
 ·obtain⟨z,its,r,p⟩:=h.ok I.hok;exact⟨its,r,p,z⟩
 ·refine⟨its.toList,r,⟨o,I.kIn a o hk,hc,n,by simpa using hs⟩,?_⟩;have e:=r.length;simp only[Fj]at e;omega
def Inv.list_inj(I:Inv X pins σ H s)(h:ag X.K H a xs)(h':ag X.K H a ys):xs=ys:=by
 obtain⟨its,r,⟨o,n,e,_,_,d⟩,_⟩:=I.list h;obtain⟨its',r',⟨o',n',e',_,_,d'⟩,_⟩:=I.list h';rw[e]at e';cases e';rw[d]at d';injection d' with d1 _;have:its=its':=by simpa using congrArg Array.toList d1
 subst this;exact r.inj r'
def Inv.tuple_inj(I:Inv X pins σ H s)(h:ah X.K H a xs)(h':ah X.K H a ys):xs=ys:=by
 obtain⟨its,r,⟨o,e,_,n,d⟩,_⟩:=I.tuple h;obtain⟨its',r',⟨o',e',_,n',d'⟩,_⟩:=I.tuple h';rw[e]at e';cases e';rw[d]at d';injection d' with d1 _;have:its=its':=by simpa using congrArg Array.toList d1
 subst this;exact r.inj r'
end
abbrev Cx.wish(X:Cx)(E:Value->Shared->Prop):Cx:={ X with xe:=E }
abbrev Cx.nox(X:Cx):Cx:=X.wish λ_ _=>False
def Cx.Ok.wish{X:Cx}(ok:X.Ok)(E:Value->Shared->Prop):(X.wish E).Ok:=
 ⟨ok.mod,ok.kind,ok.glob,ok.blt,ok.above,ok.inj,ok.has,ok.cab,ok.hd,ok.frames,ok.stk,ok.exf,ok.bs,ok.bsz,ok.noex,ok.exfs,ok.funs,ok.frf⟩
def Cx.Ok.unwish{X:Cx}{E:Value->Shared->Prop}(ok:(X.wish E).Ok):X.Ok:=
 ⟨ok.mod,ok.kind,ok.glob,ok.blt,ok.above,ok.inj,ok.has,ok.cab,ok.hd,ok.frames,ok.stk,ok.exf,ok.bs,ok.bsz,ok.noex,ok.exfs,ok.funs,ok.frf⟩
section
variable {X:Cx} {pins:List (Addr×Obj)} {σ:St} {H:Hp} {s:Shared} {E:Value->Shared->Prop}
def Inv.wish(I:Inv X pins σ H s)(E:Value->Shared->Prop):Inv (X.wish E) pins σ H s:=⟨I.ok.wish E,I.os,I.bare,I.base,I.loc,I.cell,I.free,I.freeC,I.pin,I.hok,I.len⟩
def Inv.unwish(I:Inv (X.wish E) pins σ H s):Inv X pins σ H s:=⟨I.ok.unwish,I.os,I.bare,I.base,I.loc,I.cell,I.free,I.freeC,I.pin,I.hok,I.len⟩
def SP.unwish{D:Ends}{f:Flow}{s':Shared}(h:SP (X.wish E) pins D f s'):SP X pins D f s':=by
 cases f with
 | next=>obtain⟨σ',H',I,q⟩:=h;exact⟨σ',H',I.unwish,q⟩
 | brk=>obtain⟨σ',H',I,q⟩:=h;exact⟨σ',H',I.unwish,q⟩
 | cont=>obtain⟨σ',H',I,q⟩:=h;exact⟨σ',H',I.unwish,q⟩
 | ret u=>obtain⟨v,σ',H',I,r,q⟩:=h;exact⟨v,σ',H',I.unwish,r,q⟩
def cS.nox{st:List Stmt}{t:TS}(h:cS X.nox st t):cS X st t:=λpins s σ H D I hw=>
 wpAny_mono (h pins s σ H D (I.wish _) hw) (λ_ _ q=>q.unwish) λ_ _ z=>False.elim z
end
section
variable {X:Cx} {st:Stmt} {rest:List Stmt} {t u:TS} {e:Expr} {te:TE} {pos:Pos}
def rC:TS:=λD σ H=>D.nx σ H
def xZ(t u:TS):TS:=λD σ H=>t { D with nx:=u D } σ H
def aV:cS X [] rC:=λ_ _ σ H _ I h=>wpAny_execs_nil ⟨σ,H,I,h⟩
def aq(h1:PS X st t)(h2:cS X rest u):cS X (st::rest) (xZ t u):=by
 intro pins s σ H D I h;refine wpAny_execs_cons (aD (h1 pins s σ H { D with nx:=u D } I h) λf s1 q=>?_);cases f with
 | next=>
  obtain⟨σ',H',I',q⟩:=q;exact h2 pins s1 σ' H' D I' q
 | ret v=>exact q
 | brk=>exact q
 | cont=>exact q
def av(h1:PS X st t):cS X [st] t:=by
 intro pins s σ H D I h;refine wpAny_execs_cons (aD (h1 pins s σ H D I h) λf s1 q=>?_);cases f with
 | next=>exact wpAny_execs_nil q
 | ret v=>exact q
 | brk=>exact q
 | cont=>exact q
def Inv.quiet{pins:List (Addr×Obj)}{σ:St}{H:Hp}{s:Shared}(I:Inv X pins σ H s):interactive X.env=false:=by simp[interactive,I.ok.kind]
def xo(te:TE):TS:=λD σ H=>te σ H λ_ H1=>D.nx σ H1
def bp(he:PE X e te)(hs:swapsWith e none pos.line X.env=pure false:=by rfl):PS X (.Expr e pos) (xo te):=by intro pins s σ H D I h;exact wpAny_Expr_any (aD (he pins s σ H _ I h) λv s1 ⟨x,H1,I1,r1,q1⟩=>⟨σ,H1,I1,q1⟩) I.quiet hs
def vD(te:TE):TS:=λD σ H=>te σ H D.rt
def aF(he:PE X e te):PS X (.Return (some e) pos) (vD te):=by intro pins s σ H D I h;exact wpAny_Return_some (aD (he pins s σ H _ I h) λv s1 ⟨x,H1,I1,r1,q1⟩=>⟨x,σ,H1,I1,r1,q1⟩)
def wo(c:TT)(t u:TS):TS:=λD σ H=>c σ H λb H1=>if b=true then t D σ H1 else u D σ H1
def bo{c:Expr}{a b:List Stmt}{tc:TT}(hc:PT X c tc)(ha:cS X a t)(hb:cS X b u):PS X (.If c a b pos) (wo tc t u):=by
 intro pins s σ H D I h;refine wpAny_If (aD (hc pins s σ H _ I h) λd s1 ⟨H1,I1,q1⟩=>?_);cases d with
 | true=>exact ha pins s1 σ H1 D I1 q1
 | false=>exact hb pins s1 σ H1 D I1 q1
def Eo:TS:=λ_ _ _=>False
def iB:PS X st Eo:=λ_ _ _ _ _ _ h=>h.elim
end
abbrev TG:=V->St->Hp->(St->Hp->Prop)->Prop
abbrev dW:=List V->St->Hp->(St->Hp->Prop)->Prop
def PG(X:Cx)(target:Expr)(t:TG):Prop:=
 ∀(pins:List (Addr×Obj)) (s:Shared) (σ:St) (H:Hp) (v:V) (u:Value) (Q:St->Hp->Prop),Inv X pins σ H s->RelV v u->t v σ H Q →
  wpAny (model X.prog X.w) X.A (assign target X.env u) (λ_ s'=>∃σ' H',Inv X pins σ' H' s'/\Q σ' H') X.xe s
def iw(X:Cx)(ts:List Expr)(t:dW):Prop:=
 ∀(pins:List (Addr×Obj)) (s:Shared) (σ:St) (H:Hp) (vs:List V) (us:List Value) (Q:St->Hp->Prop),Inv X pins σ H s->Vals vs us->t vs σ H Q →
  wpAny (model X.prog X.w) X.A (assignInOrder ((assignEach ts X.env).map (·.2)) us) (λ_ s'=>∃σ' H',Inv X pins σ' H' s'/\Q σ' H') X.xe s
abbrev jY:=V->V->V->Hp->(Hp->Prop)->Prop
def ym(X:Cx)(t:jY):Prop:=
 ∀(pins:List (Addr×Obj)) (s:Shared) (σ:St) (H:Hp) (o i v:V) (ov iv u:Value) (Q:Hp->Prop),Inv X pins σ H s->RelV o ov->RelV i iv->RelV v u->t o i v H Q →
  wpAny (model X.prog X.w) X.A (setItem ov iv u) (λ_ s'=>∃H',Inv X pins σ H' s'/\Q H') X.xe s
abbrev i9:=V->V->Hp->VK->Prop
def lN(X:Cx)(op:Operator)(t:i9):Prop:=
 ∀(pins:List (Addr×Obj)) (s:Shared) (σ:St) (H:Hp) (x y:V) (v u:Value) (Q:VK),Inv X pins σ H s->RelV x v->RelV y u->t x y H Q →
  wpAny (model X.prog X.w) X.A (inplaceOp op v u) (EP X pins σ Q) X.xe s
section
variable {X:Cx} {pos:Pos}
def iV(i:Nat):TG:=λv σ H Q=>Q (σ.set i (some v)) H
def aM{i:Nat}{x:Str}(hN:X.N.Nodup)(hi:X.N[i]?=some x)(hx:Loc X.env.scope x)(hf:X.fn x=true\/X.env.scope.names.lookup x=some .local:=by first|exact .inl rfl|exact .inr rfl|assumption):PG X (.Name x pos) (iV i):=by intro pins s σ H v u Q I r h;exact wpAny_assign_Name (jk I hN hi hx r (λs' I'=>⟨_,H,I',h⟩) hf)
def qR:dW:=λvs σ H Q=>vs=[]/\Q σ H
def xj(t:TG)(u:dW):dW:=λvs σ H Q=>∃v r,vs=v::r/\t v σ H λσ' H'=>u r σ' H' Q
def dI:iw X [] qR:=by intro pins s σ H vs us Q I r h;obtain⟨e,h⟩:=h;subst e;cases r;exact assignInOrder_nil ⟨σ,H,I,h⟩
def bE{e:Expr}{es:List Expr}{t:TG}{u:dW}(h1:PG X e t)(h2:iw X es u)
  (hs:(assignEach (e::es) X.env).map (·.2)=assign e X.env::(assignEach es X.env).map (·.2):=by rfl):iw X (e::es) (xj t u):=by
 intro pins s σ H vs us Q I r h;obtain⟨v,vr,e1,h⟩:=h;subst e1;cases r with
 | cons r rr=>
  rw[hs];refine assignInOrder_cons (aD (h1 pins s σ H _ _ _ I r h) λ_ s1 ⟨σ1,H1,I1,q1⟩=>?_);exact h2 pins s1 σ1 H1 _ _ Q I1 rr q1
def nQ(K:Fb)(n:Nat)(t:dW):TG:=λv σ H Q=>∃a xs,v=.ref a/\ah K H a xs/\xs.length=n/\t xs σ H Q
def Eg{es:List Expr}{k:Nat}{t:dW}{n:Nat}(hc:X.calm=true)(h:iw X es t)
  (hn:(assignEach es X.env).length=n:=by rfl) (hst:(assignEach es X.env).findIdx? (·.1)=none:=by rfl):PG X (.Tuple es k pos) (nQ X.K n t):=by
 intro pins s σ H v u Q I r hw;obtain⟨a,xs,e1,hq,hl,hw⟩:=hw;subst e1;cases r;obtain⟨its,rv,ht,hz⟩:=I.tuple hq;refine assign_Tuple_tuple (I.ok.hd hc) ht (by simp[hn,←hl,rv.length]) hst λh' hx=>?_;have I1:Inv X pins σ H { s with heap:=h' }:=I.kept (t':=s.toks) λb o e=>hx b o (Fz (Fe e)) e;exact h pins _ σ H xs _ Q I1 (by simpa using rv) hw
def uk(to ti:TE)(t:jY):TG:=λv σ H Q=>to σ H λo H1=>ti σ H1 λi H2=>t o i v H2 λH3=>Q σ H3
def iP{o i:Expr}{to ti:TE}{t:jY}(ho:PE X o to)(hi:PE X i ti)(hs:ym X t)
  (ha:∀v,assign (.Subscript o i pos) X.env v=(do
   let ov ←holding [v] (eval o X.env);let iv ←holding [v,ov] (eval i X.env)
   standAt pos
   holding [v,ov,iv] (setItem ov iv v)
   release [v,ov,iv] []):=by intro _;rfl):PG X (.Subscript o i pos) (uk to ti t):=by
 intro pins s σ H v u Q I r h;rw[ha];refine E8 (wpAny_holding (aD (ho pins s σ H _ I h) λov s1 ⟨x,H1,I1,r1,q1⟩=>?_));refine E8 (wpAny_holding (aD (hi pins s1 σ H1 _ I1 q1) λiv s2 ⟨y,H2,I2,r2,q2⟩=>?_));refine E8 (wpAny_standAt (E8 (wpAny_holding (aD (hs pins s2 σ H2 x y v ov iv u _ I2 r1 r2 r q2) λ_ s3 ⟨H3,I3,q3⟩=>?_))));exact wpAny_release ⟨σ,H3,I3,q3⟩
def jI(te:TE)(g:TG):TS:=λD σ H=>te σ H λx H1=>g x σ H1 D.nx
def gU{tg e:Expr}{te:TE}{g:TG}(he:PE X e te)(hg:PG X tg g)(hs:swapsWithSole [tg] e pos.line X.env=pure false:=by rfl)(hw:swappedStores [tg] e X.env=pure none:=by rfl)
  (h1:(assignEach [tg] X.env).map (·.2)=[assign tg X.env]:=by rfl):PS X (.Assign [tg] e pos) (jI te g):=by
 intro pins s σ H D I h;refine wpAny_Assign_stores (aD (he pins s σ H _ I h) λv s1 ⟨x,H1,I1,r1,q1⟩=>?_) hs hw;rw[h1];exact aD (hg pins s1 σ H1 x v _ I1 r1 q1) λ_ s2 q=>q
def aE{i:Nat}{x:Str}{e:Expr}{te:TE}{pos':Pos}(hN:X.N.Nodup)(hi:X.N[i]?=some x)(hx:Loc X.env.scope x)(he:PE X e te)(hs:swapsWith e (some (.Name x pos')) pos.line X.env=pure false:=by rfl)(hf:X.fn x=true\/X.env.scope.names.lookup x=some .local:=by first|exact .inl rfl|exact .inr rfl|assumption):
  PS X (.Assign [.Name x pos'] e pos) (jI te (iV i)):=by
 intro pins s σ H D I h;refine wpAny_Assign_Name (aD (he pins s σ H _ I h) λv s1 ⟨y,H1,I1,r1,q1⟩=>?_) hs;exact jk I1 hN hi hx r1 (λs2 I2=>⟨_,H1,I2,q1⟩) hf
def sj(i j:Nat)(ta:TA):TS:=λD σ H=>ta σ H λvs H1=>∃v w,vs=[v,w]/\D.nx ((σ.set i (some v)).set j (some w)) H1
def yk{i j:Nat}{x y:Str}{a b:Expr}{ta:TA}{px py pt:Pos}{kt k2 pt2}(hc:X.calm=true)(hN:X.N.Nodup)(hi:X.N[i]?=some x)(hj:X.N[j]?=some y)(hij:i≠j)
  (hx:X.env.scope.names.lookup x=some .local) (hy:X.env.scope.names.lookup y=some .local) (ha:PA X [a,b] ta)
  (hw:swappedStores [.Tuple [.Name x px,.Name y py] kt pt] (.Tuple [a,b] k2 pt2) X.env=pure (some [x,y]))
  (hs:swapsWithSole [.Tuple [.Name x px,.Name y py] kt pt] (.Tuple [a,b] k2 pt2) pos.line X.env=pure false:=by rfl) :
  PS X (.Assign [.Tuple [.Name x px,.Name y py] kt pt] (.Tuple [a,b] k2 pt2) pos) (sj i j ta):=by
 intro pins s σ H D I h;rw[exec_Assign_arm];refine E8 (wpAny_standAt ?_);rw[hs];refine E8 (E9 ?_);rw[Gb (by decide)];refine E8 (Tuple_ (aD (ha _ pins s σ H _ I h) λus s1 ⟨vs,H1,I1,r1,q1⟩=>?_));obtain⟨v,w,e1,q1⟩:=q1;subst e1;obtain⟨u1,u2,rfl,rv,rw'⟩:∃u1 u2,us=[u1,u2]/\RelV v u1/\RelV w u2:=by
  cases r1 with
  | cons p q=>
   cases q with
   | cons p' q'=>
    cases q';exact⟨_,_,rfl,p,p'⟩
 refine wpAny_newObj_type ?_ (by show 2<=sizeLine;decide);have I2:Inv X pins σ H1 { s1 with heap:=s1.heap.push { cls:=.type "tuple",data:=.seq [u1,u2].toArray } }:=I1.kept (t':=s1.toks) λb o e=>Fc _ e;rw[hw];refine E8 (E9 ?_);show wpAny (model X.prog X.w) X.A (do rule "assign.swapped-stores";let items ←unpackItems (.ref s1.heap.objs.size) 2 none;assignInOrder [λv=>bindName X.env y v,λv=>bindName X.env x v] items.reverse;pure Flow.next) _ _ _;refine E8 (wpAny_rule (E8 (unpackItems_tuple (items:=#[u1,u2]) (I.ok.hd hc) (IsTup.new s1.heap _) λh' hx'=>?_)));have I3:=I2.kept (h':=h') (t':=s1.toks) λb o e=>hx' b o (Fz (Fe e)) e;show wpAny _ _ (assignInOrder [λv=>bindName X.env y v,λv=>bindName X.env x v] [u2,u1] >>= λ_=>pure Flow.next) _ _ _;refine E8 (assignInOrder_cons (wpAny_bindName (jk I3 hN hj (.inl hy) rw' (λs2 I4=>?_) (.inr hy))));refine assignInOrder_cons (wpAny_bindName (jk I4 hN hi (.inl hx) rv (λs3 I5=>assignInOrder_nil (E9 ?_)) (.inr hx)));rw[List.set_comm _ _ (Ne.symm hij)]at I5;exact⟨_,H1,I5,q1⟩
def vO(i:Nat)(te:TE)(ti:i9):TS:=λD σ H=>∃x,σ[i]?=some (some x)/\te σ H λy H1=>ti x y H1 λz H2=>D.nx (σ.set i (some z)) H2
def jt{i:Nat}{x:Str}{e:Expr}{te:TE}{op:Operator}{ti:i9}{pos':Pos}(hN:X.N.Nodup)(hi:X.N[i]?=some x)(hx:Loc X.env.scope x)(he:PE X e te)(ho:lN X op ti)(hf:X.fn x=true\/X.env.scope.names.lookup x=some .local:=by first|exact .inl rfl|exact .inr rfl|assumption):
  PS X (.AugAssign (.Name x pos') op e pos) (vO i te ti):=by
 intro pins s σ H D I h;obtain⟨v,e1,h⟩:=h;obtain⟨m,hn,hl⟩:=I.loc;have vis:j2 X.env.scope x:=by rcases hx with k|k;exact .inl k;exact .inr (.inl k)
 obtain⟨u,r,l⟩:=hl i x v hi e1 vis;refine wpAny_AugAssign_Name ?_;have go:wpAny (model X.prog X.w) X.A (eval e X.env) (λw s₂=>wpAny (model X.prog X.w) X.A (inplaceOp op u w) (λr s₃=>wpAny (model X.prog X.w) X.A (storeName X.env x r) (λ_=>SP X pins D .next) X.xe s₃) X.xe s₂) X.xe s:=by refine aD (he pins s σ H _ I h) λw s1 ⟨y,H1,I1,r1,q1⟩=>?_;refine aD (ho pins s1 σ H1 v y u w _ I1 r r1 q1) λz s2 ⟨zv,H2,I2,r2,q2⟩=>?_;exact jk I2 hN hi hx r2 (λs3 I3=>⟨_,H2,I3,q2⟩) hf
 rcases l with⟨hk,hm⟩|⟨hk,c,hc,hcell⟩
 ·exact wpAny_loadName_local I.ok.kind hk hn hm go
 ·rcases hk with hk|hk
  ·exact wpAny_loadName_cell I.ok.kind hk hc hcell go
  ·rcases hx with k|k
   ·have:X.env.scope.names.lookup x=some .free:=hk;rw[k]at this;cases this
   ·have:X.env.scope.names.lookup x=some .free:=hk;rw[k]at this;cases this
def kW(f:Int->Int->Int):i9:=λx y H Q=>∃i j,x=.int i/\y=.int j/\Q (.int (f i j)) H
def jL:lN X .Add (kW λi j=>i+j):=by intro pins s σ H x y v u Q I r1 r2 h;obtain⟨i,j,e1,e2,q⟩:=h;subst e1;subst e2;obtain⟨t,rfl⟩:=r1;obtain⟨t',rfl⟩:=r2;exact iadd_int ⟨.int _,H,I.tok _,⟨_,rfl⟩,q⟩
def CV:lN X .Sub (kW λi j=>i-j):=by intro pins s σ H x y v u Q I r1 r2 h;obtain⟨i,j,e1,e2,q⟩:=h;subst e1;subst e2;obtain⟨t,rfl⟩:=r1;obtain⟨t',rfl⟩:=r2;exact isub_int ⟨.int _,H,I.tok _,⟨_,rfl⟩,q⟩
def yB(c:TT)(tb:TS):TS:=λD σ H=>∃W:Nat->St->Hp->Prop,(∃m,W m σ H)/\∀m σ H,W m σ H →
 c σ H λb H1=>if b=true then ∃N:St->Hp->Prop,(∀σ' H',N σ' H'->∃m',m'<m/\W m' σ' H')/\tb { D with nx:=N,ct:=N,bk:=D.nx } σ H1 else D.nx σ H1
def zk{c:Expr}{body:List Stmt}{tc:TT}{tb:TS}(hp:PassesOwn (model X.prog X.w) X.A X.env X.xe)(hc:PT X c tc)(hb:cS X body tb):PS X (.While c body [] pos) (yB tc tb):=by
 intro pins s σ H D I h;obtain⟨W,⟨m0,w0⟩,turn⟩:=h;refine wpAny_While (codeAny_whileLoop (λn s'=>∃σ' H',Inv X pins σ' H' s'/\W n σ' H') ?_ m0 ⟨σ,H,I,w0⟩);rintro n s1 ⟨σ1,H1,I1,w1⟩;refine wpAny_passesOwn hp (aD (hc pins s1 σ1 H1 _ I1 (turn n σ1 H1 w1)) λb s2 ⟨H2,I2,q2⟩=>?_);cases b with
 | true=>
  obtain⟨N,hN,q2⟩:=q2;rw[Ge rfl];refine wpAny_passesOwn hp (aD (hb pins s2 σ1 H2 _ I2 q2) λf s3 q3=>?_);cases f with
  | next=>
   obtain⟨σ3,H3,I3,n3⟩:=q3;obtain⟨m',hm,w3⟩:=hN σ3 H3 n3;exact⟨m',hm,σ3,H3,I3,w3⟩
  | cont=>
   obtain⟨σ3,H3,I3,n3⟩:=q3;obtain⟨m',hm,w3⟩:=hN σ3 H3 n3;exact⟨m',hm,σ3,H3,I3,w3⟩
  | brk=>exact q3
  | ret v=>exact q3
 | false=>
  rw[Gb Fw];exact wpAny_execs_nil ⟨σ1,H2,I2,q2⟩
end
structure It where
 go:Nat->Hp->Prop
 yld:Nat->Hp->V->Hp->Prop
 stop:Nat->Hp->Prop
def b6(X:Cx)(pins:List (Addr×Obj))(H:Hp)(b:Addr):Prop:=
 H b=none/\b≠X.env.locals/\b∉X.fs/\(b∈X.ex\/X.s₀.heap.objs.size<=b)/\(∀x c,X.env.cells.lookup x=some c->c≠b)/\∀p∈X.pn++pins,p.1≠b
def Inv.fpOk{X:Cx}{pins:List (Addr×Obj)}{σ:St}{H H':Hp}{s:Shared}{b:Addr}(I:Inv X pins σ H s)(hb:s.heap.objs.size<=b)(hn:H' b=none):b6 X pins H' b:=by
 refine⟨hn,Nat.ne_of_gt (FO I.lt hb),I.nofs hb,.inr (FP I.sz hb),λx c e z=>?_,λp hp z=>?_⟩
 ·obtain⟨v,q⟩:=I.cell x c e;exact absurd (FO q.lt (by rw[z];exact hb)) (Nat.lt_irrefl _)
 ·exact absurd (FO (Fe (I.pin p hp).1) (by rw[z];exact hb)) (Nat.lt_irrefl _)
structure Turn(P:Program)(w:World)(K:Fb)(tg:Expr)(J:It)(fp:List Addr)(it:Addr)(tn:Nat->Heap->Prop):Prop where
 mem:it∈fp
 obj:∀i h,tn i h->∀b∈fp,∃o,h.get? b=some o/\∀v,o.data≠.cell v
 keep:∀i h h',tn i h->(∀b∈fp,∀o,h.get? b=some o->h'.get? b=some o)->tn i h'
 item:∀(X:Cx),X.prog=P->X.w=w->X.K=K->X.calm=true->∀(i:Nat) (pins:List (Addr×Obj)) (s:Shared) (σ:St) (H:Hp) (E:Value->Shared->Prop),Inv X pins σ H s->(∀b∈fp,b6 X pins H b)->tn i s.heap->J.go i H →
  wpAny (model P w) X.A (pyNext (.ref it)) (λr s1=>∃u,r=some u ∧
   wpAny (model P w) X.A (letOwnedTupleGo tg (.ref it) u) (λ_ s2=>∃x H',Inv X pins σ H' s2/\RelV x u/\J.yld i H x H'/\tn (i+1) s2.heap/\∀b∈fp,H' b=none) E s1) E s
 done:∀(X:Cx),X.prog=P->X.w=w->X.K=K->X.calm=true->∀(i:Nat) (pins:List (Addr×Obj)) (s:Shared) (σ:St) (H:Hp) (E:Value->Shared->Prop),Inv X pins σ H s->(∀b∈fp,b6 X pins H b)->tn i s.heap->J.stop i H →
  wpAny (model P w) X.A (pyNext (.ref it)) (λr s1=>r=none/\Inv X pins σ H s1) E s
 self:∀(A:Around) (i:Nat) (s:Shared) (Q:Value->Shared->Prop) (E:Value->Shared->Prop),tn i s.heap->Q (.ref it) s->wpAny (model P w) A (pyIter (.ref it)) Q E s
abbrev TI:=St->Hp->(It->Hp->Prop)->Prop
def o8(X:Cx)(pins:List (Addr×Obj))(σ:St)(tg:Expr)(R:It->Hp->Prop)(itv:Value)(s2:Shared):Prop:=
 ∃(it:Addr) (fp:List Addr) (tn:Nat->Heap->Prop) (J:It) (H':Hp),itv=.ref it/\Inv X pins σ H' s2/\Turn X.prog X.w X.K tg J fp it tn/\tn 0 s2.heap/\(∀b∈fp,b6 X pins H' b)/\R J H'
def PI(X:Cx)(tg iter:Expr)(wi:TI):Prop:=
 ∀(pins:List (Addr×Obj)) (s:Shared) (σ:St) (H:Hp) (R:It->Hp->Prop),Inv X pins σ H s->wi σ H R →
  wpAny (model X.prog X.w) X.A (eval iter X.env) (λv s1=>wpAny (model X.prog X.w) X.A (pyIter v) (o8 X pins σ tg R) X.xe s1) X.xe s
def nk {M : Model} {A : Around} {E : Value → Shared → Prop} {s : Shared} {tg : Expr} {it : Addr} {u : Value} {o : Obj} {n : String} {vs : Array Value} {Q : Unit → Shared → Prop} (ho : s.heap.get? it = some o) (hc : o.cls = .type n) (hd : o.data = .fields vs)
    (hn : ["enumerate", "zip", "dict_itemiterator", "dict_reverseitemiterator", "odict_iterator", "itertools.zip_longest", "itertools.pairwise"].contains n = false) (hQ : Q () s) : wpAny M A (letOwnedTupleGo tg (.ref it) u) Q E s := by
  unfold letOwnedTupleGo;cases tg <;> first
    | exact E9 hQ
    | (cases u <;> first
        | exact E9 hQ
        | (refine E8 (wpAny_load ho ?_)
           rw [hc, hd];show wpAny M A (if (["enumerate", "zip", "dict_itemiterator", "dict_reverseitemiterator", "odict_iterator", "itertools.zip_longest", "itertools.pairwise"].contains n && vs[0]? == some (rawInt _)) = true then _ else _) Q E s;rw [Gb (by intro h; rw [hn, Bool.false_and] at h; cases h)];exact E9 hQ))
def dA(K:Fb)(a:Addr):It:=
 ⟨λi H=>∃xs x,ag K H a xs/\xs[i]?=some x,λi H x H'=>H'=H/\∀xs,ag K H a xs->xs[i]?=some x,λi H=>∃xs,ag K H a xs/\xs.length<=i⟩
def cK(K:Fb)(a:Addr):It:=
 ⟨λi H=>∃xs x,ah K H a xs/\xs[i]?=some x,λi H x H'=>H'=H/\∀xs,ah K H a xs->xs[i]?=some x,λi H=>∃xs,ah K H a xs/\xs.length<=i⟩
def dS(lo:Int)(n:Nat):It:=⟨λi _=>i<n,λi H x H'=>H'=H/\x=.int (lo+i),λi _=>n<=i⟩
def Cf{P:Program}{w:World}{K:Fb}{tg:Expr}(a it:Addr):Turn P w K tg (dA K a) [it] it (λi h=>h.IsListIter it a i) where
 mem:=by simp
 obj:=λi h st b hb=>by
  have e:b=it:=by simpa using hb
  subst e;obtain⟨o,e,c,d⟩:=st;exact⟨o,e,λv z=>by rw[d]at z;cases z⟩
 keep:=λi h h' st k=>st.at λo e=>k it (by simp) o e
 item:=by intro X hP hw hK hc i pins s σ H E I hf st hg;subst hP hw hK;obtain⟨xs,x,hq,hx⟩:=hg;obtain⟨its,rv,p,hz⟩:=I.list hq;obtain⟨u,hu,ru⟩:=rv.get hx;obtain⟨f0,f1,f2,f3,f4,f5⟩:=hf it (by simp);refine wpAny_pyNext_list_item st p.isList (x:=u) (by simpa using hu) λh' st' sb=>?_;have I1:Inv X pins σ H { s with heap:=h' }:=I.turned (t':=s.toks) (λb o hb e=>(sb.2 b hb).trans e) f0 f1 f3 f4 f5;obtain⟨o,e,c,d⟩:=id st';exact⟨u,rfl,nk (s:={ s with heap:=h' }) e c d (by decide) ⟨x,H,I1,ru,⟨rfl,λys hy=>by rw[I.list_inj hy hq];exact hx⟩,st',λb hb=>(hf b hb).1⟩⟩
 done:=by intro X hP hw hK hc i pins s σ H E I hf st hg;subst hP hw hK;obtain⟨xs,hq,hx⟩:=hg;obtain⟨its,rv,p,hz⟩:=I.list hq;obtain⟨f0,f1,f2,f3,f4,f5⟩:=hf it (by simp);have hl:=rv.length;exact wpAny_pyNext_list_end (I.ok.hd hc) st p.isList (by simp;omega) λh' eb=>⟨rfl,I.turned (t':=s.toks) (λb o hb e=>eb b o hb e) f0 f1 f3 f4 f5⟩
 self:=λ_ _ _ _ _ st h=>wpAny_pyIter_listiter st h
def Aj{P:Program}{w:World}{K:Fb}{tg:Expr}(a it:Addr):Turn P w K tg (cK K a) [it] it (λi h=>h.IsTupleIter it a i) where
 mem:=by simp
 obj:=λi h st b hb=>by
  have e:b=it:=by simpa using hb
  subst e;obtain⟨o,e,c,d⟩:=st;exact⟨o,e,λv z=>by rw[d]at z;cases z⟩
 keep:=λi h h' st k=>st.at λo e=>k it (by simp) o e
 item:=by intro X hP hw hK hc i pins s σ H E I hf st hg;subst hP hw hK;obtain⟨xs,x,hq,hx⟩:=hg;obtain⟨its,rv,p,hz⟩:=I.tuple hq;obtain⟨u,hu,ru⟩:=rv.get hx;obtain⟨f0,f1,f2,f3,f4,f5⟩:=hf it (by simp);refine wpAny_pyNext_tuple_item st (show s.heap.IsTuple a its.toArray from p) (x:=u) (by simpa using hu) λh' st' sb=>?_;have I1:Inv X pins σ H { s with heap:=h' }:=I.turned (t':=s.toks) (λb o hb e=>(sb.2 b hb).trans e) f0 f1 f3 f4 f5;obtain⟨o,e,c,d⟩:=id st';exact⟨u,rfl,nk (s:={ s with heap:=h' }) e c d (by decide) ⟨x,H,I1,ru,⟨rfl,λys hy=>by rw[I.tuple_inj hy hq];exact hx⟩,st',λb hb=>(hf b hb).1⟩⟩
 done:=by intro X hP hw hK hc i pins s σ H E I hf st hg;subst hP hw hK;obtain⟨xs,hq,hx⟩:=hg;obtain⟨its,rv,p,hz⟩:=I.tuple hq;obtain⟨f0,f1,f2,f3,f4,f5⟩:=hf it (by simp);have hl:=rv.length;exact wpAny_pyNext_tuple_end (I.ok.hd hc) st (show s.heap.IsTuple a its.toArray from p) (by simp;omega) λh' eb=>⟨rfl,I.turned (t':=s.toks) (λb o hb e=>eb b o hb e) f0 f1 f3 f4 f5⟩
 self:=λ_ _ _ _ _ st h=>wpAny_pyIter_tupleiter st h
def BF{P:Program}{w:World}{K:Fb}{tg:Expr}(it:Addr)(lo:Int)(n:Nat):Turn P w K tg (dS lo n) [it] it (λi h=>IsRangeIter h it (lo+(i:Nat)*1) ((n:Int)-(i:Nat)) 1) where
 mem:=by simp
 obj:=λi h st b hb=>by
  have e:b=it:=by simpa using hb
  subst e;exact⟨_,st,λv z=>by have z':Data.fields _=Data.cell v:=z;cases z'⟩
 keep:=λi h h' st k=>k it (by simp) _ st
 item:=by intro X hP hw hK hc i pins s σ H E I hf st hg;subst hP hw hK;obtain⟨f0,f1,f2,f3,f4,f5⟩:=hf it (by simp);have W:=Walks.range (prog:=X.prog) (w:=X.w) (I.ok.hd hc) it lo 1 n;refine W.item i s _ _ hg st λv h' tk hv st' kk=>?_;obtain⟨t,rfl⟩:=hv;have I1:Inv X pins σ H { s with heap:=h',toks:=tk }:=I.turned (λb o hb e=>kk b o (by simpa using hb) e) f0 f1 f3 f4 f5;refine⟨_,rfl,nk (s:={ s with heap:=h',toks:=tk }) (n:="range_iterator") st' rfl rfl (by decide) ⟨.int (lo+i),H,I1,⟨t,?_⟩,⟨rfl,rfl⟩,st',λb hb=>(hf b hb).1⟩⟩;rw[Int.mul_one]
 done:=by intro X hP hw hK hc i pins s σ H E I hf st hg;subst hP hw hK;obtain⟨f0,f1,f2,f3,f4,f5⟩:=hf it (by simp);exact wpAny_pyNext_range_end (I.ok.hd hc) st (by have:n<=i:=hg;omega) λh' eb=>⟨rfl,I.turned (t':=s.toks) (λb o hb e=>eb b o hb e) f0 f1 f3 f4 f5⟩
 self:=λ_ _ _ _ _ st h=>wpAny_pyIter_rangeiter st h
section
variable {X:Cx} {tg:Expr}
def o6(K:Fb)(tl:TE):TI:=λσ H R=>tl σ H λx H1=>∃a,x=.ref a/\(∃xs,ag K H1 a xs)/\R (dA K a) H1
def nV(K:Fb)(tl:TE):TI:=λσ H R=>tl σ H λx H1=>∃a,x=.ref a/\(∃xs,ah K H1 a xs)/\R (cK K a) H1
def A4{l:Expr}{tl:TE}(hl:PE X l tl):PI X tg l (o6 X.K tl):=by
 intro pins s σ H R I h;refine aD (hl pins s σ H _ I h) λv s1 ⟨x,H1,I1,r1,q1⟩=>?_;obtain⟨a,e,⟨xs,hq⟩,q⟩:=q1;subst e;cases r1;obtain⟨its,rv,p,hz⟩:=I1.list hq;refine wpAny_pyIter_list p.isList ?_;refine⟨s1.heap.objs.size,[s1.heap.objs.size],_,_,H1,rfl,I1.kept (t':=s1.toks) λb o e=>Fc _ e,Cf a _,⟨_,Fd _ rfl,rfl,rfl⟩,λb hb=>?_,q⟩;have e:b=s1.heap.objs.size:=by simpa using hb
 subst e;exact I1.fpOk (FA _) (I1.hok.fresh (FA _))
def zG{l:Expr}{tl:TE}(hl:PE X l tl):PI X tg l (nV X.K tl):=by
 intro pins s σ H R I h;refine aD (hl pins s σ H _ I h) λv s1 ⟨x,H1,I1,r1,q1⟩=>?_;obtain⟨a,e,⟨xs,hq⟩,q⟩:=q1;subst e;cases r1;obtain⟨its,rv,p,hz⟩:=I1.tuple hq;refine wpAny_pyIter_tuple (show s1.heap.IsTuple a its.toArray from p) ?_;refine⟨s1.heap.objs.size,[s1.heap.objs.size],_,_,H1,rfl,I1.kept (t':=s1.toks) λb o e=>Fc _ e,Aj a _,⟨_,Fd _ rfl,rfl,rfl⟩,λb hb=>?_,q⟩;have e:b=s1.heap.objs.size:=by simpa using hb
 subst e;exact I1.fpOk (FA _) (I1.hok.fresh (FA _))
def qO{pins:List (Addr×Obj)}{σ:St}{H:Hp}{s:Shared}{R:It->Hp->Prop}{E:Value->Shared->Prop}{lo hi:Int}{t u v:Tok}{tk:Nat}(I:Inv X pins σ H s)(h1:-(2 ^ 62)<=lo)(h2:lo<2 ^ 62)(h3:-(2 ^ 62)<=hi)(h4:hi<2 ^ 62)
  (q:R (dS lo (hi-lo).toNat) H):wpAny (model X.prog X.w) X.A (pyIter (.ref s.heap.objs.size)) (o8 X pins σ tg R) E { s with heap:=s.heap.push { cls:=.type "range",data:=.fields #[.int lo t,.int hi u,.int 1 v] },toks:=tk }:=by
 refine wpAny_pyIter_range (IsRange.new ..) (small_one h1 h2 h3 h4) ?_;have I1:Inv X pins σ H { s with heap:=s.heap.push { cls:=.type "range",data:=.fields #[.int lo t,.int hi u,.int 1 v] },toks:=tk }:=I.kept λb o e=>Fc _ e;refine⟨(s.heap.push { cls:=.type "range",data:=.fields #[.int lo t,.int hi u,.int 1 v] }).objs.size,[(s.heap.push { cls:=.type "range",data:=.fields #[.int lo t,.int hi u,.int 1 v] }).objs.size],_,_,H,rfl,
  I1.kept (t':=tk) λb o e=>Fc _ e,BF _ lo (hi-lo).toNat,?_,λb hb=>?_,q⟩
 ·have e1:lo+((0:Nat):Int)*1=lo:=by simp
  have e2:(((hi-lo).toNat:Nat):Int)-((0:Nat):Int)=Builtin.Range.rangeSize lo hi 1:=by rw[rangeSize_one];split<;>omega
  show IsRangeIter _ _ (lo+((0:Nat):Int)*1) ((((hi-lo).toNat:Nat):Int)-((0:Nat):Int)) 1;rw[e1,e2];exact Fd _ rfl
 ·have e:b=(s.heap.push { cls:=.type "range",data:=.fields #[.int lo t,.int hi u,.int 1 v] }).objs.size:=by simpa using hb
  subst e;exact I1.fpOk (FA _) (I1.hok.fresh (FA _))
def qw(ta:TA):TI:=λσ H R=>ta σ H λvs H1=>∃j:Int,vs=[.int j]/\-(2 ^ 62)<=j/\j<2 ^ 62/\R (dS 0 j.toNat) H1
def uG(ta:TA):TI:=λσ H R=>ta σ H λvs H1=>∃i j:Int,vs=[.int i,.int j]/\(-(2 ^ 62)<=i/\i<2 ^ 62/\-(2 ^ 62)<=j/\j<2 ^ 62)/\R (dS i (j-i).toNat) H1
def cW{a:Expr}{ta:TA}{p pos:Pos}(hg:Gl X "range")(hm:X.mg "range" = none)(ha:PA X [a] ta)(hs:starEach [a] X.env=[(false,eval a X.env)]:=by rfl):PI X tg (.Call (.Name "range" p) [a] [] pos) (qw ta):=by
 intro pins s σ H R I h;refine Call_ (fh I hg hm boot_range (PyProof.Rows.callWith_type1 (aD (ha pos pins s σ H _ I h) λus s1 ⟨vs,H1,I1,r1,q1⟩=>?_) hs rfl));obtain⟨j,e,q1,q2,q⟩:=q1;subst e;cases r1 with
 | cons r rr=>
  cases rr;obtain⟨t,rfl⟩:=r;exact call_range_1 (qO I1 (by omega) (by omega) q1 q2 (by simpa using q))
def zl{a b:Expr}{ta:TA}{p pos:Pos}(hg:Gl X "range")(hm:X.mg "range" = none)(ha:PA X [a,b] ta)(hs:starEach [a,b] X.env=[(false,eval a X.env),(false,eval b X.env)]:=by rfl)(hs2:starEach [b] X.env=[(false,eval b X.env)]:=by rfl):
  PI X tg (.Call (.Name "range" p) [a,b] [] pos) (uG ta):=by
 intro pins s σ H R I h;refine Call_ (fh I hg hm boot_range (PyProof.Rows.callWith_type1 (aD (ha pos pins s σ H _ I h) λus s1 ⟨vs,H1,I1,r1,q1⟩=>?_) (by rw[hs,hs2]) (by rw[hs2];rfl)));obtain⟨i,j,e,⟨q1,q2,q3,q4⟩,q⟩:=q1;subst e;cases r1 with
 | cons r rr=>
  cases rr with
  | cons r' rr=>
   cases rr;obtain⟨t,rfl⟩:=r;obtain⟨t',rfl⟩:=r';exact call_range_2 (qO I1 q1 q2 q3 q4 q)
def tF(wi:TI)(g:TG)(tb:TS):TS:=λD σ H=>wi σ H λJ H1=>∃W:Nat->Nat->St->Hp->Prop,(∃m,W 0 m σ H1)/\∀i m σ H,W i m σ H →
 (J.stop i H/\D.nx σ H)\/(J.go i H/\∃N:St->Hp->Prop,(∀σ' H',N σ' H'->∃m',m'<m/\W (i+1) m' σ' H')/\∀x H',J.yld i H x H'->g x σ H' λσ2 H2=>tb { D with nx:=N,ct:=N,bk:=D.nx } σ2 H2)
def gy(fp:List Addr)(h:Heap):List (Addr×Obj):=fp.filterMap λb=>(h.get? b).map λo=>(b,o)
def lC{fp:List Addr}{h:Heap}{b:Addr}{o:Obj}(hb:b∈fp)(e:h.get? b=some o):(b,o)∈gy fp h:=List.mem_filterMap.mpr ⟨b,hb,by rw[e];rfl⟩
def sx{fp:List Addr}{h:Heap}{p:Addr×Obj}(hp:p∈gy fp h):p.1∈fp/\h.get? p.1=some p.2:=by
 obtain⟨b,hb,e⟩:=List.mem_filterMap.mp hp;cases q:h.get? b with
 | none=>rw[q]at e;cases e
 | some o=>
  rw[q]at e;have e':(b,o)=p:=FX e;subst e';exact⟨hb,q⟩
def Inv.pinned{pins:List (Addr×Obj)}{σ:St}{H:Hp}{s:Shared}{fp:List Addr}(I:Inv X pins σ H s)(hf:∀b∈fp,b6 X pins H b)(ho:∀b∈fp,∃o,s.heap.get? b=some o/\∀v,o.data≠.cell v):Inv X (pins++gy fp s.heap) σ H s:=
 I.pins_of λp hp=>(FE.mp hp).elim (λz=>I.pin p (FY _ z)) λz=>by obtain⟨hb,e⟩:=sx z;obtain⟨f0,f1,f2,_⟩:=hf p.1 hb;obtain⟨o,e',d⟩:=ho p.1 hb;rw[e]at e';cases e';exact⟨e,f0,f1,f2,d⟩
def Inv.unpinned{pins pl:List (Addr×Obj)}{σ:St}{H:Hp}{s:Shared}(I:Inv X (pins++pl) σ H s):Inv X pins σ H s:=I.pins_of λp hp=>I.pin p (FY _ (FZ _ hp))
def bM{iter:Expr}{body:List Stmt}{wi:TI}{g:TG}{tb:TS}{pos:Pos}(hp:PassesOwn (model X.prog X.w) X.A X.env X.xe)(hc:X.calm=true)(hi:PI X tg iter wi)(hg:PG X tg g)(hb:cS X body tb)
  (hs:∀x,foldedSetIterable iter X.env x=pure x:=by intro _;rfl):PS X (.For tg iter body [] pos) (tF wi g tb):=by
 intro pins s σ H D I h;refine wpAny_For (aD (hi pins s σ H _ I h) λv s1 h1=>aD h1 λitv s2 h2=>?_) hs;obtain⟨it,fp,tn,J,H2,e,I2,T,st2,f2,W,⟨m0,w0⟩,turn⟩:=h2;subst e;have stat:∀{H':Hp},(∀b∈fp,H' b=none)->∀b∈fp,b6 X pins H' b:=λhn b hb=>⟨hn b hb,(f2 b hb).2⟩;refine codeAny_forLoop_any (λn s'=>∃i σ' H',Inv X pins σ' H' s'/\tn i s'.heap/\(∀b∈fp,H' b=none)/\W i n σ' H') ?_ m0 ⟨0,σ,H2,I2,st2,λb hb=>(f2 b hb).1,w0⟩;rintro n s3 ⟨i,σ3,H3,I3,st3,fr3,w3⟩;rcases turn i n σ3 H3 w3 with⟨stop,qn⟩|⟨go,N,hN,step⟩
 ·refine wpAny_passesOwn hp (aD (T.done X rfl rfl rfl hc i pins s3 σ3 H3 X.xe I3 (stat fr3) st3 stop) λr s4 ⟨hr,I4⟩=>?_);subst hr;exact wpAny_execs_nil ⟨σ3,H3,I4,qn⟩
 ·refine wpAny_passesOwn hp (aD (T.item X rfl rfl rfl hc i pins s3 σ3 H3 X.xe I3 (stat fr3) st3 go) λr s4 ⟨u,hr,h4⟩=>?_);subst hr;refine wpAny_passesOwn hp (aD h4 λ_ s5 ⟨x,H5,I5,r5,y5,st5,fr5⟩=>?_);have I5':=I5.pinned (stat fr5) (T.obj _ _ st5);refine wpAny_passesOwn hp (aD (hg _ s5 σ3 H5 x u _ I5' r5 (step x H5 y5)) λ_ s6 ⟨σ6,H6,I6,q6⟩=>?_);refine wpAny_passesOwn hp (aD (hb _ s6 σ6 H6 _ I6 q6) λf s7 q7=>?_);have again:∀{σ7:St} {H7:Hp},Inv X (pins++gy fp s5.heap) σ7 H7 s7->N σ7 H7->∃m,m<n/\∃i σ' H',Inv X pins σ' H' s7/\tn i s7.heap/\(∀b∈fp,H' b=none)/\W i m σ' H':=λ{σ7 H7} I7 n7=>by obtain⟨m',hm,w7⟩:=hN σ7 H7 n7;refine⟨m',hm,i+1,σ7,H7,I7.unpinned,T.keep _ _ _ st5 λb hb o e=>(I7.pin (b,o) (FY _ (FY _ (lC hb e)))).1,λb hb=>?_,w7⟩;obtain⟨o,e,d⟩:=T.obj _ _ st5 b hb;exact(I7.pin (b,o) (FY _ (FY _ (lC hb e)))).2.1
  cases f with
  | next=>obtain⟨σ7,H7,I7,n7⟩:=q7;exact again I7 n7
  | cont=>obtain⟨σ7,H7,I7,n7⟩:=q7;exact again I7 n7
  | brk=>obtain⟨σ7,H7,I7,q7⟩:=q7;exact⟨σ7,H7,I7.unpinned,q7⟩
  | ret v=>obtain⟨x7,σ7,H7,I7,r7,q7⟩:=q7;exact⟨x7,σ7,H7,I7.unpinned,r7,q7⟩
end
def DL{K:Fb}{a:Addr}{xs:List V}{g:TG}{tb:TS}{D:Ends}{σ:St}{H:Hp}(Pv:Nat->St->Hp->Prop)(h0:Pv 0 σ H)(hl:∀i σ H,i<=xs.length->Pv i σ H->ag K H a xs)
  (hs:∀i x σ H,xs[i]?=some x->Pv i σ H->g x σ H λσ2 H2=>tb { D with nx:=Pv (i+1),ct:=Pv (i+1),bk:=D.nx } σ2 H2) (hd:∀σ H,Pv xs.length σ H->D.nx σ H) :
  ∃W:Nat->Nat->St->Hp->Prop,(∃m,W 0 m σ H)/\∀i m σ H,W i m σ H →
   ((dA K a).stop i H/\D.nx σ H)\/((dA K a).go i H/\∃N:St->Hp->Prop,(∀σ' H',N σ' H'->∃m',m'<m/\W (i+1) m' σ' H')/\∀x H',(dA K a).yld i H x H'->g x σ H' λσ2 H2=>tb { D with nx:=N,ct:=N,bk:=D.nx } σ2 H2):=by
 refine⟨λi m σ H=>m=xs.length-i/\i<=xs.length/\Pv i σ H,⟨xs.length,by simp,Nat.zero_le _,h0⟩,?_⟩;rintro i m σ H ⟨rfl,hi,p⟩;have q:=hl i σ H hi p;by_cases hlt:i<xs.length
 ·refine .inr ⟨⟨xs,xs[i],q,by simp[hlt]⟩,Pv (i+1),λσ' H' p'=>⟨xs.length-(i+1),by omega,rfl,hlt,p'⟩,λx H' y=>?_⟩;obtain⟨e,y⟩:=y;subst e;exact hs i x σ _ (y xs q) p
 ·have e:i=xs.length:=by omega
  subst e;exact .inl ⟨⟨xs,q,FA _⟩,hd σ H p⟩
def zC{K:Fb}{a:Addr}{xs:List V}{g:TG}{tb:TS}{D:Ends}{σ:St}{H:Hp}(Pv:Nat->St->Hp->Prop)(h0:Pv 0 σ H)(hl:∀i σ H,i<=xs.length->Pv i σ H->ah K H a xs)
  (hs:∀i x σ H,xs[i]?=some x->Pv i σ H->g x σ H λσ2 H2=>tb { D with nx:=Pv (i+1),ct:=Pv (i+1),bk:=D.nx } σ2 H2) (hd:∀σ H,Pv xs.length σ H->D.nx σ H) :
  ∃W:Nat->Nat->St->Hp->Prop,(∃m,W 0 m σ H)/\∀i m σ H,W i m σ H →
   ((cK K a).stop i H/\D.nx σ H)\/((cK K a).go i H/\∃N:St->Hp->Prop,(∀σ' H',N σ' H'->∃m',m'<m/\W (i+1) m' σ' H')/\∀x H',(cK K a).yld i H x H'->g x σ H' λσ2 H2=>tb { D with nx:=N,ct:=N,bk:=D.nx } σ2 H2):=by
 refine⟨λi m σ H=>m=xs.length-i/\i<=xs.length/\Pv i σ H,⟨xs.length,by simp,Nat.zero_le _,h0⟩,?_⟩;rintro i m σ H ⟨rfl,hi,p⟩;have q:=hl i σ H hi p;by_cases hlt:i<xs.length
 ·refine .inr ⟨⟨xs,xs[i],q,by simp[hlt]⟩,Pv (i+1),λσ' H' p'=>⟨xs.length-(i+1),by omega,rfl,hlt,p'⟩,λx H' y=>?_⟩;obtain⟨e,y⟩:=y;subst e;exact hs i x σ _ (y xs q) p
 ·have e:i=xs.length:=by omega
  subst e;exact .inl ⟨⟨xs,q,FA _⟩,hd σ H p⟩
def Ea{lo:Int}{n:Nat}{g:TG}{tb:TS}{D:Ends}{σ:St}{H:Hp}(Pv:Nat->St->Hp->Prop)(h0:Pv 0 σ H)
  (hs:∀i σ H,i<n->Pv i σ H->g (.int (lo+i)) σ H λσ2 H2=>tb { D with nx:=Pv (i+1),ct:=Pv (i+1),bk:=D.nx } σ2 H2) (hd:∀σ H,Pv n σ H->D.nx σ H) :
  ∃W:Nat->Nat->St->Hp->Prop,(∃m,W 0 m σ H)/\∀i m σ H,W i m σ H →
   ((dS lo n).stop i H/\D.nx σ H)\/((dS lo n).go i H/\∃N:St->Hp->Prop,(∀σ' H',N σ' H'->∃m',m'<m/\W (i+1) m' σ' H')/\∀x H',(dS lo n).yld i H x H'->g x σ H' λσ2 H2=>tb { D with nx:=N,ct:=N,bk:=D.nx } σ2 H2):=by
 refine⟨λi m σ H=>m=n-i/\i<=n/\Pv i σ H,⟨n,by simp,Nat.zero_le _,h0⟩,?_⟩;rintro i m σ H ⟨rfl,hi,p⟩;by_cases hlt:i<n
 ·refine .inr ⟨hlt,Pv (i+1),λσ' H' p'=>⟨n-(i+1),by omega,rfl,hlt,p'⟩,λx H' y=>?_⟩;obtain⟨e,y⟩:=y;subst e y;exact hs i σ _ hlt p
 ·have e:i=n:=by omega
  subst e;exact .inl ⟨FA _,hd σ H p⟩
abbrev R2:=V->V->Hp->VK->Prop
def bI(X:Cx)(f:Value->Value->Sem Value)(r:R2):Prop:=
 ∀(pins:List (Addr×Obj)) (s:Shared) (σ:St) (H:Hp) (x y:V) (v u:Value) (Q:VK),Inv X pins σ H s->RelV x v->RelV y u->r x y H Q →
  wpAny (model X.prog X.w) X.A (f v u) (EP X pins σ Q) X.xe s
def md(X:Cx)(f:Value->Sem Value)(r:V->Hp->VK->Prop):Prop:=
 ∀(pins:List (Addr×Obj)) (s:Shared) (σ:St) (H:Hp) (x:V) (v:Value) (Q:VK),Inv X pins σ H s->RelV x v->r x H Q →
  wpAny (model X.prog X.w) X.A (f v) (EP X pins σ Q) X.xe s
def ck(X:Cx)(f:Value)(r:List V->Hp->VK->Prop):Prop:=
 ∀(pins:List (Addr×Obj)) (s:Shared) (σ:St) (H:Hp) (xs:List V) (us:List Value) (Q:VK),Inv X pins σ H s->Vals xs us->r xs H Q →
  wpAny (model X.prog X.w) X.A (call f us) (EP X pins σ Q) X.xe s
def ET(X:Cx)(r:V->Hp->(Bool->Hp->Prop)->Prop):Prop:=
 ∀(pins:List (Addr×Obj)) (s:Shared) (σ:St) (H:Hp) (x:V) (v:Value) (Q:Bool->Hp->Prop),Inv X pins σ H s->RelV x v->r x H Q →
  wpAny (model X.prog X.w) X.A (truthy v) (TP X pins σ Q) X.xe s
def ie(r:R2)(ta tb:TE):TE:=λσ H Q=>ta σ H λx H1=>tb σ H1 λy H2=>r x y H2 Q
def vG(r:V->Hp->VK->Prop)(ta:TE):TE:=λσ H Q=>ta σ H λx H1=>r x H1 Q
def rI(C:Int->Int->Prop)(g:Int->Int->V):R2:=λx y H Q=>∃i j,x=.int i/\y=.int j/\C i j/\Q (g i j) H
def fu(g:Int->Int->V):R2:=λx y H Q=>∃i j,x=.int i/\y=.int j/\Q (g i j) H
def rU(g:Int->V):V->Hp->VK->Prop:=λx H Q=>∃i,x=.int i/\Q (g i) H
section
variable {X:Cx} {a b c:Expr} {ta tb tc:TE} {pos:Pos}
def ow(ha:PE X a ta)(hb:PE X b tb){pins:List (Addr×Obj)}{s:Shared}{σ:St}{H:Hp}{R:V->V->Hp->Prop}(I:Inv X pins σ H s)
  (h:ta σ H λx H1=>tb σ H1 λy H2=>R x y H2) {Q:Value->Shared->Prop} {f:Value->Value->Sem Value}
  (hf:∀v u s2 x y H2,Inv X pins σ H2 s2->RelV x v->RelV y u->R x y H2->wpAny (model X.prog X.w) X.A (f v u) Q X.xe s2) :
  wpAny (model X.prog X.w) X.A (eval a X.env) (λv s₁=>wpAny (model X.prog X.w) X.A (eval b X.env) (λu s₂=>wpAny (model X.prog X.w) X.A (f v u) Q X.xe s₂) X.xe s₁) X.xe s:=by
 refine aD (ha pins s σ H _ I h) λv s1 ⟨x,H1,I1,r1,q1⟩=>?_;refine aD (hb pins s1 σ H1 _ I1 q1) λu s2 ⟨y,H2,I2,r2,q2⟩=>?_;exact hf v u s2 x y H2 I2 r1 r2 q2
def aA{op:Operator}{r:R2}(ho:bI X (binaryOp op) r)(ha:PE X a ta)(hb:PE X b tb):PE X (.BinOp a op b pos) (ie r ta tb):=by intro pins s σ H Q I h;exact wpAny_BinOp (ow ha hb I h λv u s2 x y H2 I2 rx ry q=>ho pins s2 σ H2 x y v u Q I2 rx ry q)
def fU{op:UnaryOp}{r:V->Hp->VK->Prop}(ho:md X (unaryOp op) r)(ha:PE X a ta):PE X (.UnaryOp op a pos) (vG r ta):=by intro pins s σ H Q I h;exact UnaryOp_ (aD (ha pins s σ H _ I h) λv s1 ⟨x,H1,I1,r1,q1⟩=>ho pins s1 σ H1 x v Q I1 r1 q1)
def kI{f:Value->Value->Sem Value}{C:Int->Int->Prop}{g:Int->Int->Int}
  (rule:∀(i j:Int) (t u:Tok) (s:Shared) (Q:Value->Shared->Prop) (E:Value->Shared->Prop),C i j->Q (.int (g i j) s.toks) { s with toks:=s.toks+1 }->wpAny (model X.prog X.w) X.A (f (.int i t) (.int j u)) Q E s) :
  bI X f (rI C λi j=>.int (g i j)):=by
 intro pins s σ H x y v u Q I rx ry h;obtain⟨i,j,rfl,rfl,hc,q⟩:=h;obtain⟨t,rfl⟩:=rx;obtain⟨t',rfl⟩:=ry;exact rule i j t t' s _ _ hc ⟨.int (g i j),H,I.tok _,⟨_,rfl⟩,q⟩
def vK{f:Value->Value->Sem Value}{g:Int->Int->Int}
  (rule:∀(i j:Int) (t u:Tok) (s:Shared) (Q:Value->Shared->Prop) (E:Value->Shared->Prop),Q (.int (g i j) s.toks) { s with toks:=s.toks+1 }->wpAny (model X.prog X.w) X.A (f (.int i t) (.int j u)) Q E s) :
  bI X f (fu λi j=>.int (g i j)):=by
 intro pins s σ H x y v u Q I rx ry h;obtain⟨i,j,rfl,rfl,q⟩:=h;obtain⟨t,rfl⟩:=rx;obtain⟨t',rfl⟩:=ry;exact rule i j t t' s _ _ ⟨.int (g i j),H,I.tok _,⟨_,rfl⟩,q⟩
def kq{f:Value->Value->Sem Value}{g:Int->Int->Bool}
  (rule:∀(i j:Int) (t u:Tok) (s:Shared) (Q:Value->Shared->Prop) (E:Value->Shared->Prop),Q (.bool (g i j)) s->wpAny (model X.prog X.w) X.A (f (.int i t) (.int j u)) Q E s) :
  bI X f (fu λi j=>.bl (g i j)):=by
 intro pins s σ H x y v u Q I rx ry h;obtain⟨i,j,rfl,rfl,q⟩:=h;obtain⟨t,rfl⟩:=rx;obtain⟨t',rfl⟩:=ry;exact rule i j t t' s _ _ ⟨.bl (g i j),H,I,rfl,q⟩
def ui(i j:Int):Prop:=0<=j/\j<=1000000/\i.natAbs<2 ^ 64
def kH(i j:Int):Prop:=(-(2 ^ 64)<i/\i<2 ^ 64)\/(-(2 ^ 64)<j/\j<2 ^ 64)
def kH.ok{i j:Int}(h:kH i j):IntMulOk i j:=by
 rcases h with⟨h1,h2⟩|⟨h1,h2⟩
 ·exact .of_left (intBits_le_64 h1 h2)
 ·exact .of_right (intBits_le_64 h1 h2)
def aY:bI X (binaryOp .Add) (fu λi j=>.int (i+j)):=vK λ_ _ _ _ _ _ _ q=>add_int q
def dD:bI X (binaryOp .Sub) (fu λi j=>.int (i-j)):=vK λ_ _ _ _ _ _ _ q=>sub_int q
def eP:bI X (binaryOp .Mult) (rI kH λi j=>.int (i*j)):=kI λ_ _ _ _ _ _ _ hc q=>mul_int q hc.ok
def cJ:bI X (binaryOp .Mod) (rI (λ_ j=>0<j) λi j=>.int (i % j)):=kI λi j _ _ _ _ _ hc q=>by have h1:(0:Int)<j:=hc;exact mod_int' (by omega) (by rw[Int.fmod_eq_emod_of_nonneg i (by omega)];exact q)
def jq:bI X (binaryOp .Pow) (rI ui λi j=>.int (i ^ j.toNat)):=kI λ_ _ _ _ _ _ _ hc q=>pow_int_small hc.1 hc.2.1 hc.2.2 q
def yI{f:Value->Sem Value}{g:Int->Int}
  (rule:∀(i:Int) (t:Tok) (s:Shared) (Q:Value->Shared->Prop) (E:Value->Shared->Prop),Q (.int (g i) s.toks) { s with toks:=s.toks+1 }->wpAny (model X.prog X.w) X.A (f (.int i t)) Q E s) :
  md X f (rU λi=>.int (g i)):=by
 intro pins s σ H x v Q I rx h;obtain⟨i,rfl,q⟩:=h;obtain⟨t,rfl⟩:=rx;exact rule i t s _ _ ⟨.int (g i),H,I.tok _,⟨_,rfl⟩,q⟩
def fS:md X (unaryOp .USub) (rU λi=>.int (-i)):=yI λ_ _ _ _ _ q=>neg_int q
end
def wu:V->V->Bool
 | .non,.non=>true|.non,.int _=>true|.int _,.non=>true|.non,.bl _=>true|.bl _,.non=>true|.non,.str _=>true|.str _,.non=>true
 | .int _,.int _=>true|.bl _,.bl _=>true|.str _,.str _=>true|.byt _,.byt _=>true
 | .int _,.str _=>true|.str _,.int _=>true|.bl _,.str _=>true|.str _,.bl _=>true
 | _,_=>false
def kf:R2:=λx y H Q=>wu x y=true/\Q (.bl (decide (x=y))) H
def mr:R2:=λx y H Q=>wu x y=true/\Q (.bl (!decide (x=y))) H
def wW{i j:Int}:decide (V.int i=V.int j)=(i == j):=by rw[FU];simp
def n8{i j:Bool}:decide (V.bl i=V.bl j)=(i == j):=by rw[FU];simp
def iQ{i j:Str}:decide (V.str i=V.str j)=(i == j):=by rw[FU];simp
def qD{i j:Array UInt8}:decide (V.byt i=V.byt j)=(i.toList == j.toList):=by rw[FU];cases i;cases j;simp
section
variable {X:Cx} {a b c:Expr} {ta tb tc:TE} {pos:Pos}
def bH{pins:List (Addr×Obj)}{σ:St}{H:Hp}{s:Shared}{Q:VK}{k k':Bool}(I:Inv X pins σ H s)(q:Q (.bl k) H)(e:k=k'):EP X pins σ Q (.bool k') s:=by subst e;exact⟨.bl k,H,I,rfl,q⟩
def bJ:bI X (compareOp .Eq) kf:=by
 intro pins s σ H x y v u Q I rx ry h;obtain⟨hs,q⟩:=h;cases x with
 | non=>
  cases rx;cases y with
  | non=>cases ry;exact PySem.EqNone.eq_none_none (bH I q (by simp))
  | bl j=>cases ry;exact PySem.EqNone.eq_none_bool (bH I q (by simp))
  | int j=>obtain⟨t',rfl⟩:=ry;exact PySem.EqNone.eq_none_int (bH I q (by simp))
  | str j=>obtain⟨t',rfl⟩:=ry;exact PySem.EqNone.eq_none_str (bH I q (by simp))
  | _=>exact absurd (show false=true from hs) Fw
 | bl i=>
  cases rx;cases y with
  | non=>cases ry;exact PySem.EqNone.eq_bool_none (bH I q (by simp))
  | bl j=>cases ry;exact eq_bool (bH I q n8)
  | str j=>obtain⟨t',rfl⟩:=ry;exact PySem.EqMixed.eq_bool_str (bH I q (by simp))
  | _=>exact absurd (show false=true from hs) Fw
 | int i=>
  obtain⟨t,rfl⟩:=rx;cases y with
  | non=>cases ry;exact PySem.EqNone.eq_int_none (bH I q (by simp))
  | int j=>obtain⟨t',rfl⟩:=ry;exact eq_int (bH I q wW)
  | str j=>obtain⟨t',rfl⟩:=ry;exact PySem.EqMixed.eq_int_str (bH I q (by simp))
  | _=>exact absurd (show false=true from hs) Fw
 | str i=>
  obtain⟨t,rfl⟩:=rx;cases y with
  | non=>cases ry;exact PySem.EqNone.eq_str_none (bH I q (by simp))
  | bl j=>cases ry;exact PySem.EqMixed.eq_str_bool (bH I q (by simp))
  | int j=>obtain⟨t',rfl⟩:=ry;exact PySem.EqMixed.eq_str_int (bH I q (by simp))
  | str j=>obtain⟨t',rfl⟩:=ry;exact eq_str (bH I q iQ)
  | _=>exact absurd (show false=true from hs) Fw
 | byt i=>
  obtain⟨t,rfl⟩:=rx;cases y with
  | byt j=>obtain⟨t',rfl⟩:=ry;exact PySem.W.eq_bytes (bH I q qD)
  | _=>exact absurd (show false=true from hs) Fw
 | _=>cases y<;>exact absurd (show false=true from hs) Fw
def eM:bI X (compareOp .NotEq) mr:=by
 intro pins s σ H x y v u Q I rx ry h;obtain⟨hs,q⟩:=h;cases x with
 | non=>
  cases rx;cases y with
  | non=>cases ry;exact PySem.EqNone.ne_none_none (bH I q (by simp))
  | bl j=>cases ry;exact PySem.EqNone.ne_none_bool (bH I q (by simp))
  | int j=>obtain⟨t',rfl⟩:=ry;exact PySem.EqNone.ne_none_int (bH I q (by simp))
  | str j=>obtain⟨t',rfl⟩:=ry;exact PySem.EqNone.ne_none_str (bH I q (by simp))
  | _=>exact absurd (show false=true from hs) Fw
 | bl i=>
  cases rx;cases y with
  | non=>cases ry;exact PySem.EqNone.ne_bool_none (bH I q (by simp))
  | bl j=>cases ry;exact ne_bool (bH I q (congrArg not n8))
  | str j=>obtain⟨t',rfl⟩:=ry;exact PySem.EqMixed.ne_bool_str (bH I q (by simp))
  | _=>exact absurd (show false=true from hs) Fw
 | int i=>
  obtain⟨t,rfl⟩:=rx;cases y with
  | non=>cases ry;exact PySem.EqNone.ne_int_none (bH I q (by simp))
  | int j=>obtain⟨t',rfl⟩:=ry;exact ne_int (bH I q (congrArg not wW))
  | str j=>obtain⟨t',rfl⟩:=ry;exact PySem.EqMixed.ne_int_str (bH I q (by simp))
  | _=>exact absurd (show false=true from hs) Fw
 | str i=>
  obtain⟨t,rfl⟩:=rx;cases y with
  | non=>cases ry;exact PySem.EqNone.ne_str_none (bH I q (by simp))
  | bl j=>cases ry;exact PySem.EqMixed.ne_str_bool (bH I q (by simp))
  | int j=>obtain⟨t',rfl⟩:=ry;exact PySem.EqMixed.ne_str_int (bH I q (by simp))
  | str j=>obtain⟨t',rfl⟩:=ry;exact ne_str (bH I q (congrArg not iQ))
  | _=>exact absurd (show false=true from hs) Fw
 | byt i=>
  obtain⟨t,rfl⟩:=rx;cases y with
  | byt j=>obtain⟨t',rfl⟩:=ry;exact PySem.W.ne_bytes (bH I q (congrArg not qD))
  | _=>exact absurd (show false=true from hs) Fw
 | _=>cases y<;>exact absurd (show false=true from hs) Fw
def cZ:bI X (compareOp .Lt) (fu λi j=>.bl (decide (i<j))):=kq λ_ _ _ _ _ _ _ q=>lt_int q
def f7:bI X (compareOp .LtE) (fu λi j=>.bl (decide (i<=j))):=kq λ_ _ _ _ _ _ _ q=>le_int q
def fB:bI X (compareOp .Gt) (fu λi j=>.bl (decide (j<i))):=kq λ_ _ _ _ _ _ _ q=>gt_int q
def mO:bI X (compareOp .GtE) (fu λi j=>.bl (decide (j<=i))):=kq λ_ _ _ _ _ _ _ q=>ge_int q
def tU:bI X (compareOp .IsNot) (λx y H Q=>y=.non/\Q (.bl (!decide (x=.non))) H):=by
 intro pins s σ H x y v u Q I rx ry h;obtain⟨rfl,q⟩:=h;cases ry;refine isnot_none_gen (bH I q ?_);cases x<;>first
  | (cases rx;rfl)
  | (obtain⟨t,rfl⟩:=rx;rfl)
def aN(b:Expr){op:CmpOp}(h:op≠.In:=by decide)(h2:op≠.NotIn:=by decide):behindInMarks op b=false:=by
 have e1:(op == CmpOp.In)=false:=by cases op<;>first|rfl|exact absurd rfl h
 have e2:(op == CmpOp.NotIn)=false:=by cases op<;>first|rfl|exact absurd rfl h2
 cases b<;>simp[behindInMarks,e1,e2]
def dC{op:CmpOp}{r:R2}(ho:bI X (compareOp op) r)(ha:PE X a ta)(hb:PE X b tb)(hm:behindInMarks op b=false):PE X (.Compare a [op] [b] pos) (ie r ta tb):=by intro pins s σ H Q I h;exact wpAny_Compare1 (ow ha hb I h λv u s2 x y H2 I2 rx ry q=>ho pins s2 σ H2 x y v u Q I2 rx ry q) hm
def rL(t:TE):TT:=λσ H Q=>t σ H λx H'=>∃k,x=.bl k/\Q k H'
def aQ{op:CmpOp}{r:R2}(ho:bI X (compareOp op) r)(ha:PE X a ta)(hb:PE X b tb)(hm:behindInMarks op b=false):PT X (.Compare a [op] [b] pos) (rL (ie r ta tb)):=by
 intro pins s σ H Q I h;refine wpAny_isTrue_Compare1 (aD (ha pins s σ H _ I h) λv s1 ⟨x,H1,I1,r1,q1⟩=>aD (hb pins s1 σ H1 _ I1 q1) λu s2 ⟨y,H2,I2,r2,q2⟩=>
  aD (ho pins s2 σ H2 x y v u _ I2 r1 r2 q2) λc s3 ⟨z,H3,I3,r3,k,e,q3⟩=>?_) hm
 subst e;cases r3;exact wpAny_truthy_bool ⟨H3,I3,q3⟩
def qC(r r':R2)(ta tb tc:TE):TE:=λσ H Q=>ta σ H λx H1=>tb σ H1 λy H2=>r x y H2 λz H3=>∃k,z=.bl k ∧
 (if k=true then tc σ H3 λw' H4=>r' y w' H4 Q else Q (.bl false) H3)
def i8{op op':CmpOp}{r r':R2}(ho:bI X (compareOp op) r)(ho':bI X (compareOp op') r')(ha:PE X a ta)(hb:PE X b tb)(hc:PE X c tc)
  (hm:lastMarks [op,op'] [b,c]=false:=by with_unfolding_all rfl):PE X (.Compare a [op,op'] [b,c] pos) (qC r r' ta tb tc):=by
 intro pins s σ H Q I h;refine Compare_chain (aD (ha pins s σ H _ I h) λv s1 ⟨x,H1,I1,r1,q1⟩=>chain_link (aD (hb pins s1 σ H1 _ I1 q1) λu s2 ⟨y,H2,I2,r2,q2⟩=>
  aD (ho pins s2 σ H2 x y v u _ I2 r1 r2 q2) λd s3 ⟨z,H3,I3,r3,k,e,q3⟩=>?_)) hm
 subst e;cases r3;refine wpAny_truthy_bool ?_;cases k with
 | false=>exact ite_ff ⟨.bl false,H3,I3,rfl,q3⟩
 | true=>exact ite_tt (chain_last (aD (hc pins s3 σ H3 _ I3 q3) λw' s4 ⟨z',H4,I4,r4,q4⟩=>ho' pins s4 σ H4 y z' u w' Q I4 r2 r4 q4))
def kC(K:Fb)(x:V)(H:Hp)(k:Bool):Prop:=
 match x with
 | .non=>k=false
 | .bl b=>k=b
 | .int i=>k=(i != 0)
 | .str y=>y.length<=sizeLine/\k=((y.length:Int) != 0)
 | .byt y=>y.size<=sizeLine/\k=((y.size:Int) != 0)
 | .ref p=>(∃xs,ag K H p xs/\k = !xs.isEmpty)\/(∃xs,ah K H p xs/\k = !xs.isEmpty)\/∃kvs,H p=some (.dK kvs)/\k = !kvs.isEmpty
 | _=>False
def BA{κ:Type}{kvs:List (κ×V)}{vs:List (κ×Value)}(r:KV kvs vs):(!vs.isEmpty) = !kvs.isEmpty:=by cases r<;>rfl
def qz{xs:List V}{its:List Value}(r:Vals xs its):(!its.toArray.isEmpty) = !xs.isEmpty:=by cases r<;>simp
def gR:(sizeLine:Nat)<2 ^ 63:=by rw[sizeLine_eq];decide
def Dw:ET X (λx H Q=>∃k,kC X.K x H k/\Q k H):=by
 intro pins s σ H x v Q I rx h;obtain⟨k,e,q⟩:=h;have hl:=gR;have hs:sizeLine=16777216:=sizeLine_eq;cases x with
 | non=>
  cases rx;have e':k=false:=e;subst e';exact truthy_none ⟨H,I,q⟩
 | bl b=>
  cases rx;have e':k=b:=e;subst e';exact wpAny_truthy_bool ⟨H,I,q⟩
 | int i=>
  obtain⟨t,rfl⟩:=rx;have e':k=(i != 0):=e;subst e';exact PySem.P.truthy_int ⟨H,I,q⟩
 | str y=>
  obtain⟨t,rfl⟩:=rx;obtain⟨hy,e'⟩:y.length<=sizeLine/\k=((y.length:Int) != 0):=e;subst e';exact PySem.P.truthy_str (by omega) ⟨H,I.tok _,q⟩
 | byt y=>
  obtain⟨t,rfl⟩:=rx;obtain⟨hy,e'⟩:y.size<=sizeLine/\k=((y.size:Int) != 0):=e;subst e';exact PySem.W.truthy_bytes (by omega) ⟨H,I.tok _,q⟩
 | ref p=>
  cases rx;have e':(∃xs,ag X.K H p xs/\k = !xs.isEmpty)\/(∃xs,ah X.K H p xs/\k = !xs.isEmpty)\/∃kvs,H p=some (.dK kvs)/\k = !kvs.isEmpty:=e;rcases e' with⟨xs,hx,e'⟩|⟨xs,hx,e'⟩|⟨kvs,hx,e'⟩
  ·subst e';obtain⟨its,r,pl,hz⟩:=I.list hx;have hlen:=r.length;exact wpAny_truthy_list pl.isList (by simp only[Fl];omega) ⟨H,I.tok _,by rw[qz r];exact q⟩
  ·subst e';obtain⟨its,r,pl,hz⟩:=I.tuple hx;have hlen:=r.length;exact truthy_tuple pl (by simp only[Fl];omega) ⟨H,I.tok _,by rw[qz r];exact q⟩
  ·subst e';obtain⟨hz,hS,vs,r,m⟩:kvs.length<=sizeLine/\(p == sysModules)=false/\∃vs,KV kvs vs/\s.heap.DictOf (cG X.prog X.w) p vs:=I.hok p _ hx;have hlen:kvs.length=vs.length:=Paired.length r;exact wpAny_truthy_dict hS m (by omega) ⟨H,I.tok _,by rw[BA r];exact q⟩
 | _=>exact(show False from e).elim
def B5(ha:PE X a ta)(he:∀whole,isTrue a X.env whole=(do let v ←whole;standAt a.pos;holding [v] (truthy v))):
  PT X a (λσ H Q=>ta σ H λx H'=>∃k,kC X.K x H' k/\Q k H'):=by
 intro pins s σ H Q I h;exact isTrue_plain (aD (ha pins s σ H _ I h) λv s1 ⟨x,H1,I1,r1,q1⟩=>Dw pins s1 σ H1 x v Q I1 r1 q1) (he _)
def vals1{x:V}{us:List Value}(r:Vals [x] us):∃u,us=[u]/\RelV x u:=by
 cases r with
 | cons r1 r2=>cases r2;exact⟨_,rfl,r1⟩
def vals2{x y:V}{us:List Value}(r:Vals [x,y] us):∃u w',us=[u,w']/\RelV x u/\RelV y w':=by
 cases r with
 | cons r1 r2=>
  cases r2 with
  | cons r3 r4=>cases r4;exact⟨_,_,rfl,r1,r3⟩
def A6(hc:X.calm=true):ck X (.builtin "max") (λxs H Q=>∃i j,xs=[.int i,.int j]/\Q (.int (if j>i then j else i)) H):=by
 intro pins s σ H xs us Q I r h;obtain⟨i,j,rfl,q⟩:=h;obtain⟨u,w',rfl,⟨t,rfl⟩,⟨t',rfl⟩⟩:=vals2 r;refine max_two_ints (I.ok.hd hc) λh' tk k=>⟨_,H,I.kept k,?_,q⟩;by_cases hj:j>i
 ·rw[Ge hj,Ge hj];exact⟨_,rfl⟩
 ·rw[Gb hj,Gb hj];exact⟨_,rfl⟩
end
structure ObjM(h:Heap)(x dx C:Addr)(mA:Str->Option Value):Prop where
 obj:h.get? x=some (PySem.W.instObj C dx)
 ns:h.Ns1 dx mA
 ne:dx≠x
def Bn{h:Heap}{dx:Addr}{mA:Str->Option Value}(n:h.Ns1 dx mA):∃od,h.get? dx=some od/\∀name,PySem.W.lookIn name od=some (mA name):=by
 obtain⟨o,es,ep,ho,hd,hk,_,hm⟩:=n;refine⟨o,ho,λname=>?_⟩;have e:=hm name;unfold nsFind findBy at e;rw[←Array.find?_toList]at e;unfold PySem.W.lookIn;rw[hd];dsimp only;split
 ·rename_i y q;rw[q]at e;exact congrArg some e
 ·rename_i q;rw[q]at e;have a:es.toList.any (·.refKey)=false:=by rw[List.any_eq_false];intro y hy;obtain⟨z,t,hkey⟩:=hk y (Array.mem_toList_iff.mp hy);simp[DictEntry.refKey,hkey]
  have a':¬es.toList.any (·.refKey)=true:=by rw[a];exact Fw
  rw[Gb a'];exact congrArg some e
def ObjM.look{h:Heap}{x dx C:Addr}{mA:Str->Option Value}(I:ObjM h x dx C mA):∃od,PySem.W.InstAt h x (PySem.W.instObj C dx) C (some od)/\∀name,PySem.W.lookIn name od=some (mA name):=
 let ⟨od,ho,hl⟩:=Bn I.ns
 ⟨od,⟨I.obj,rfl,rfl,ho⟩,hl⟩
section
variable {prog:Program} {w:World} {A:Around} {E:Value->Shared->Prop} {s:Shared} {K:Fb} {x dx C f:Addr} {mA:Str->Option Value} {name:Str} {v:Value}
end
def eC.some_of{v:V}{o:Option Value}(r:eC (some v) o):∃u,o=some u/\RelV v u:=by
 cases o with
 | none=>exact(show False from r).elim
 | some u=>exact⟨u,rfl,r⟩
section
variable {P:Program} {w:World} {H H':Hp} {h h':Heap} {a C dx:Addr} {fs fs':List (Str×V)}
def Au(hok:bt P w H h)(e:H a=some (.ins C dx fs)):∃mA,ObjM h a dx C mA/\(∀f,eC (fs.lookup f) (mA f))/\PySem.Within mA (fs.map (·.1))/\fs.length<=1000/\H dx=some (.own a):=by obtain⟨d,z,ne,ob,mA,n,r,q⟩:=(show bC P w H h a (.ins C dx fs)from hok a _ e);exact⟨mA,⟨ob,n,ne⟩,r,q,z,d⟩
end
structure Cls(K:Fb)(C:Addr):Prop where
 pg:PySem.W.plainGet K C Str.empty=true
 hd:PySem.W.hasDictIn K C=true
 po:PySem.W.plainOver K C=true
 sa:PySem.W.findIn K (.ref C) "__setattr__" = some (some (.builtin "object.__setattr__"))
def Cls.get{K:Fb}{C:Addr}(c:Cls K C)(f:Str):PySem.W.plainGet K C f=true:=c.pg
section
variable {X:Cx} {pins:List (Addr×Obj)} {σ:St} {H:Hp} {s:Shared} {a C dx:Addr} {fs:List (Str×V)} {f:Str} {v:V} {A:Around} {E:Value->Shared->Prop}
end
section
variable {X:Cx} {o e value:Expr} {f:Str} {pos pos' tpos:Pos} {ta tv:TE}
end
section
variable {X:Cx} {pins:List (Addr×Obj)} {σ:St} {H:Hp} {s:Shared} {A:Around} {E:Value->Shared->Prop} {Q:Value->Shared->Prop} {c:Value} {b:Bool}
inductive TyOf(K:Fb)(H:Hp):V->Value->Prop where
 | non:TyOf K H .non (.type "NoneType")
 | bl (x:Bool):TyOf K H (.bl x) (.type "bool")
 | int (i:Int):TyOf K H (.int i) (.type "int")
 | str (x:Str):TyOf K H (.str x) (.type "str")
 | flt (x:UInt64):TyOf K H (.flt x) (.type "float")
 | lst {a:Addr} {xs:List V} (e:H a=some (.lst xs)):TyOf K H (.ref a) (.type "list")
 | frz {a:Addr} {o:Obj} {xs:List V} (e:H a=some (.frz o (.lst xs))):TyOf K H (.ref a) (.type "list")
 | tup {a:Addr} {xs:List V} (e:H a=some (.tup xs)):TyOf K H (.ref a) (.type "tuple")
 | dK {a:Addr} {kvs:List (Key×V)} (e:H a=some (.dK kvs)):TyOf K H (.ref a) (.type "dict")
 | dT {a:Addr} {kvs:List (List Key×V)} (e:H a=some (.dT kvs)):TyOf K H (.ref a) (.type "dict")
 | ins {a C dx:Addr} {fs:List (Str×V)} (e:H a=some (.ins C dx fs)) (cl:Cls K C) (ha:PySem.W.findIn K (.ref C) "__class__" = some (some (.builtin "object.__class__")))
   (hn:PySem.W.specialIn K (.builtin "object.__class__") "__get__" = some (some (.builtin "getset_descriptor.__get__"))) (htk:PySem.W.takesIn K (.builtin "object.__class__")=some true)
   (hm:PySem.W.mroIn K C (.type "object")=some true):TyOf K H (.ref a) (.ref C)
def DD{x:V}{u t:Value}(I:Inv X pins σ H s)(rx:RelV x u)(ty:TyOf X.K H x t)(e:PySem.W.kitOne X.K t c=some b)(h:∀tk,Q (.bool b) { s with toks:=tk }):
  wpAny (model X.prog X.w) A (call (.builtin "isinstance") [u,c]) Q E s:=by
 cases ty with
 | non=>cases(show u=Value.none from rx);exact PySem.W.kia_one PySem.W.kitx_none I.kIn True.intro e (λz=>nomatch z) h
 | bl y=>cases(show u=Value.bool y from rx);exact PySem.W.kia_one PySem.W.kitx_bool I.kIn True.intro e (λz=>nomatch z) h
 | int i=>obtain⟨t,q⟩:=(show ∃t,u=Value.int i t from rx);cases q;exact PySem.W.kia_one PySem.W.kitx_int I.kIn True.intro e (λz=>nomatch z) h
 | str y=>obtain⟨t,q⟩:=(show ∃t,u=Value.str y t from rx);cases q;exact PySem.W.kia_one PySem.W.kitx_str I.kIn True.intro e (λz=>nomatch z) h
 | flt y=>obtain⟨t,q⟩:=(show ∃t,u=Value.float y t from rx);cases q;exact PySem.W.kia_one PySem.W.kitx_float I.kIn True.intro e (λz=>nomatch z) h
 | @lst a xs ea=>
  cases(show u=Value.ref a from rx);obtain⟨_,_,n,_,h1⟩:=(show bC X.prog X.w H s.heap a (.lst xs)from I.hok a _ ea);exact PySem.W.kia_one PySem.W.kitx_list I.kIn ⟨_,h1,rfl⟩ e (λz=>nomatch z) h
 | @frz a ob xs ea=>
  cases(show u=Value.ref a from rx);obtain⟨_,_,_,n,_,h1⟩:=(show bC X.prog X.w H s.heap a (.frz ob (.lst xs))from I.hok a _ ea);exact PySem.W.kia_one PySem.W.kitx_list I.kIn ⟨_,h1,rfl⟩ e (λz=>nomatch z) h
 | @tup a xs ea=>
  cases(show u=Value.ref a from rx);obtain⟨_,_,_,p⟩:=(show bC X.prog X.w H s.heap a (.tup xs)from I.hok a _ ea);obtain⟨o,h1,h2,_⟩:=p;exact PySem.W.kia_one PySem.W.kitx_tuple I.kIn ⟨o,h1,h2⟩ e (λz=>nomatch z) h
 | @dK a kvs ea=>
  cases(show u=Value.ref a from rx);obtain⟨_,_,vs,_,p⟩:=(show bC X.prog X.w H s.heap a (.dK kvs)from I.hok a _ ea);obtain⟨o,es,ep,h1,h2,_⟩:=p;exact PySem.W.kia_one PySem.W.kitx_dict I.kIn ⟨o,h1,h2.1⟩ e (λz=>nomatch z) h
 | @dT a kvs ea=>
  cases(show u=Value.ref a from rx);obtain⟨_,_,xs,_,o,es,ep,h1,h2,_⟩:=(show bC X.prog X.w H s.heap a (.dT kvs)from I.hok a _ ea);exact PySem.W.kia_one PySem.W.kitx_dict I.kIn ⟨o,h1,h2.1⟩ e (λz=>nomatch z) h
 | @ins a C dx fs ea cl ha hn htk hm=>
  cases(show u=Value.ref a from rx);obtain⟨mA,O,_⟩:=Au I.hok ea;obtain⟨od,J,_⟩:=O.look;exact PySem.W.kia_one (PySem.W.kitx_own (cl.get _) cl.hd ha hn htk hm) I.kIn J e (λz=>nomatch z) h
end
structure Room(k:Nat)(A:Around):Prop where
 hd:A.handled=none
 dp:A.depth+3*k+5<recursionLimit
 un:A.units+16*k+200<cLine
def Room.mono{j k:Nat}{A:Around}(r:Room k A)(h:j<=k):Room j A:=⟨r.hd,by have:=r.dp;omega,by have:=r.un;omega⟩
def Room.deeper{k:Nat}{A:Around}(r:Room (k+1) A)(env:Env):Room k (A.deeper env):=
 ⟨r.hd,by have:=r.dp;show A.depth+1+3*k+5<_;omega,by have:=r.un;show A.units+3+16*k+200<_;omega⟩
def Room.depth{k:Nat}{A:Around}(r:Room k A):A.depth<recursionLimit:=by have:=r.dp;omega
def Room.units{k:Nat}{A:Around}(r:Room k A):A.units+64<cLine:=by have:=r.un;omega
def nM:TA:=λ_ H Q=>Q [] H
def oN(ta:TE)(tr:TA):TA:=λσ H Q=>ta σ H λx H1=>tr σ H1 λxs H2=>Q (x::xs) H2
section
variable {X:Cx} {e:Expr} {es:List Expr} {te:TE} {t:TA} {pos:Pos}
def af:PA X [] nM:=λ_ _ _ _ H Q I h=>Calls.spliced_nil ⟨[],H,I,.nil,h⟩
def aa(ha:PE X e te)(hr:PA X es t)(hs:starEach (e::es) X.env=(false,eval e X.env)::starEach es X.env:=by rfl):PA X (e::es) (oN te t):=by intro pos pins s σ H Q I h;rw[hs];show wpAny _ _ (spliced ((false,eval e X.env)::backTo pos (starEach es X.env))) _ _ s;refine Calls.spliced_cons (aD (ha pins s σ H _ I h) λu s1 ⟨x,H1,I1,r1,q1⟩=>?_);exact aD (hr pos pins s1 σ H1 _ I1 q1) λus s2 ⟨xs,H2,I2,r2,q2⟩=>⟨x::xs,H2,I2,.cons r1 r2,q2⟩
def mJ(t:TA):TE:=λσ H Q=>t σ H λxs H1=>xs.length<=sizeLine/\∀p,H1 p=none->Q (.ref p) (upd H1 p (.tup xs))
def qU(t:TA):TE:=λσ H Q=>t σ H λxs H1=>xs.length<=sizeLine/\∀p,H1 p=none->Q (.ref p) (upd H1 p (.lst xs))
def bz{x1}(h:PA X es t):PE X (.Tuple es x1 pos) (mJ t):=by intro pins s σ H Q I hq;refine wpAny_Tuple_spliced (aD (h pos pins s σ H _ I hq) λus s1 ⟨xs,H1,I1,r,z,q⟩=>⟨by rw[←r.length];exact z,?_⟩);have hf:H1 s1.heap.objs.size=none:=I1.hok.fresh (FA _);refine⟨.ref s1.heap.objs.size,upd H1 s1.heap.objs.size (.tup xs),I1.laid (t':=s1.toks) (λb u e=>Fc _ e) (FA _) ?_,rfl,q _ hf⟩;exact⟨z,us,r,⟨_,Fd _ rfl,rfl,_,rfl⟩⟩
def bx(h:PA X es t):PE X (.List es pos) (qU t):=by intro pins s σ H Q I hq;refine wpAny_List_spliced (aD (h pos pins s σ H _ I hq) λus s1 ⟨xs,H1,I1,r,z,q⟩=>⟨by rw[←r.length];exact z,?_⟩);have hf:H1 s1.heap.objs.size=none:=I1.hok.fresh (FA _);refine⟨.ref s1.heap.objs.size,upd H1 s1.heap.objs.size (.lst xs),I1.laid (t':=s1.toks) (λb u e=>Fc _ e) (FA _) ?_,rfl,q _ hf⟩;exact⟨z,us,0,r,Fd _ rfl⟩
end
abbrev Sp:=List V->Hp->VK->XK->Prop
abbrev fA:=List Env->Hp->Shared->XK->Value->Shared->Prop
structure Env0(P:Program)(w:World)(K:Fb)(mg:Str->Option Value)(base:Heap)(A:Around)(outer:List Env)(s:Shared)(H:Hp):Prop where
 frames:A.frames=some outer
 mod:Mod K mg base
 bs:∀b o,base.get? b=some o->s.heap.get? b=some o/\H b=none
 bsz:base.objs.size<=s.heap.objs.size
 funs:s.heap.FunFrames base outer
 frf:∀b∈du outer,H b=none
 hok:bt P w H s.heap
 bare:AllBare s.gens
def CE(outer:List Env)(P:Program)(w:World)(H:Hp)(s:Shared)(Q:VK)(u:Value)(s':Shared):Prop:=
 ∃v H',s'.os=s.os/\AllBare s'.gens/\Un (du outer) [] H H' s.heap s'.heap/\bt P w H' s'.heap/\RelV v u/\Q v H'
def CR(CX:fA)(outer:List Env)(P:Program)(w:World)(H:Hp)(s:Shared)(Q:VK)(E:XK)(r:Result)(s':Shared):Prop:=
 match r with
 | .ok (.ret u)=>CE outer P w H s Q u s'
 | .ok _=>False
 | .error e=>CX outer H s E e s'
structure FnOk(P:Program)(w:World)(K:Fb)(mg:Str->Option Value)(base:Heap)(CX:fA)(k:Nat)(f:Addr)(fd:FuncData)(ps:List Str)(sp:Sp):Prop where
 len:∀vs H Q E,sp vs H Q E->vs.length=ps.length
 run:∀(A:Around) (outer:List Env) (s:Shared) (H:Hp) (args:Args) (us:List Value) (vs:List V) (Q:VK) (E:XK),Room k A->Env0 P w K mg base A outer s H->BindsTo s fd args (ps.zip us)->Vals vs us->sp vs H Q E →
  codeAny (model P w) A (.call (.ref f) args) (CR CX outer P w H s Q E) s
section
variable {X:Cx} {pins:List (Addr×Obj)} {σ:St} {H:Hp} {s s':Shared}
def Inv.env0(I:Inv X pins σ H s):Env0 X.prog X.w X.K X.mg X.base X.A X.stack s H:=
 ⟨I.ok.frames,I.ok.mod,I.bs,FP I.ok.bsz I.sz,I.stack,I.stkFree,I.hok,I.bare⟩
def Inv.after{Q:VK}{u:Value}(I:Inv X pins σ H s)(h:CE X.stack X.prog X.w H s Q u s'):EP X pins σ Q u s':=by obtain⟨v,H',os,bare,un,hok,r,q⟩:=h;obtain⟨hh,g,d,t,os'⟩:=s';obtain rfl:os'=s.os:=os;exact⟨v,H',I.call (h':=hh) (g':=g) (d':=d) (t':=t) (ch:=[]) un hok bare (λb z=>absurd z (by simp)),r,q⟩
end
def ko(sp:Sp)(dvs:List V)(E:XK)(t:TA):TE:=λσ H Q=>t σ H λvs H1=>sp (vs++dvs) H1 Q E
def Binds(K:Fb)(fd:FuncData)(ps:List Str)(ds:List Value):Prop:=
 ∀(s:Shared) (us:List Value),K.In s.heap->(us++ds).length=ps.length->BindsTo s fd ⟨us,[]⟩ (ps.zip (us++ds))
def Binds.all{K:Fb}{fd:FuncData}{ps:List Str}(h:∀us:List Value,us.length=ps.length->bindArgs fd ⟨us,[]⟩=pure (ps.zip us)):Binds K fd ps []:=λs us _ hl=>by rw[List.append_nil]at hl ⊢;exact .of_eq (h us hl)
def Passes(CX:fA)(X:Cx)(E:XK):Prop:=∀(pins:List (Addr×Obj)) (σ:St) (H:Hp) (s:Shared) (e:Value) (s':Shared),Inv X pins σ H s->CX X.stack H s E e s'->X.xe e s'
section
variable {X:Cx} {CX:fA} {k:Nat} {f C:Addr} {fd:FuncData} {ps:List Str} {sp:Sp} {dvs:List V} {ds:List Value} {E:XK} {x m:Str} {p pos apos:Pos} {e o:Expr} {es:List Expr} {ta:TE} {t:TA}
def Dl{pins:List (Addr×Obj)}{σ:St}{H:Hp}{s:Shared}{Q:VK}{us:List Value}{vs:List V}(F:FnOk X.prog X.w X.K X.mg X.base CX k f fd ps sp)(hr:Room k X.A)(hb:Binds X.K fd ps ds)(hd:Vals dvs ds)(hx:Passes CX X E)
  (I:Inv X pins σ H s) (r:Vals vs us) (h:sp (vs++dvs) H Q E):wpAny (model X.prog X.w) X.A (call (.ref f) us) (EP X pins σ Q) X.xe s:=by
 have r2:Vals (vs++dvs) (us++ds):=r.append hd;have hl:(us++ds).length=ps.length:=by rw[←r2.length];exact F.len _ _ _ _ h
 refine wpAny_call (codeAny_mono (F.run X.A X.stack s H ⟨us,[]⟩ (us++ds) (vs++dvs) Q E hr I.env0 (hb s us I.kIn hl) r2 h) λr s' hq=>?_);cases r with
 | error e=>exact hx pins σ H s e s' I hq
 | ok fl=>
  cases fl with
  | ret u=>exact I.after hq
  | next=>exact False.elim hq
  | brk=>exact False.elim hq
  | cont=>exact False.elim hq
def yY(F:FnOk X.prog X.w X.K X.mg X.base CX k f fd ps sp)(hr:Room k X.A)(hg:Gl X x)(hm:X.mg x=some (.ref f))(hk:PySem.W.keepIn X.K (.ref f)=true)(hb:Binds X.K fd ps ds)(hd:Vals dvs ds)(hx:Passes CX X E)
  (ha:PA X (e::es) t) (hdb:(x == ("__debug__":Str))=false:=by decide) (he:starEach (e::es) X.env=(false,eval e X.env)::starEach es X.env:=by rfl) (hpl:(backTo pos (starEach es X.env)).any (·.1)=false:=by rfl) :
  PE X (.Call (.Name x p) (e::es) [] pos) (ko sp dvs E t):=by
 intro pins s σ H Q I h;refine wpAny_Call_Name_kw (jA I hg hm ?_ hdb);refine PySem.W.callWith_K (h₀:=X.base) I.ok.mod.kin hk (aD (ha pos pins s σ H _ I h) λus s1 ⟨vs,H1,I1,r,q⟩=>⟨I1.kIn,?_⟩) he hpl;exact Dl F hr hb hd hx I1 r q
end
section
variable {X:Cx} {CX:fA} {k:Nat} {f C:Addr} {fd:FuncData} {ps ks:List Str} {sp:Sp} {E:XK} {x m:Str} {p pos apos kpos:Pos} {e o:Expr} {es:List Expr} {kws:List Keyword} {te ta:TE} {t tk:TA} {nm:Option Str}
variable {g:List Value->List Value->List Value} {gV:List V->List V->List V}
end
structure FnScope(N P:List Str)(sc:Scope):Prop where
 kind:sc.kind=.function
 co:sc.isCoroutine=false
 gen:sc.isGenerator=false
 nd:N.Nodup
 pre:N.take P.length=P
 par:∀x∈P,sc.names.lookup x=some .local\/sc.names.lookup x=some .cell
 nofree:∀y∈sc.names,y.2≠.free
def tu{kindOf:Str->Option NameKind}{x:Str}:∀{binds:List (Str×Value)} {m:Str->Option Value},(∀v,(x,v)∉binds)->bindL kindOf binds m x=m x
 | [],_,_=>rfl
 | (n,v)::r,m,h=>by
  unfold bindL;rw[tu λw hw=>h w (Fi _ hw)];split
  ·have:x≠n:=by rintro rfl;exact h v Fm
   simp[this]
  ·rfl
def uf{kindOf:Str->Option NameKind}{x:Str}:∀{binds:List (Str×Value)} {m:Str->Option Value},(∀v,(x,v)∉binds)->bindC kindOf binds m x=m x
 | [],_,_=>rfl
 | (n,v)::r,m,h=>by
  unfold bindC;rw[uf λw hw=>h w (Fi _ hw)];split
  ·rfl
  ·have:x≠n:=by rintro rfl;exact h v Fm
   simp[this]
def mB{kindOf:Str->Option NameKind}{x:Str}{v:Value}:∀{P:List Str} {vs:List Value} {i:Nat} {m:Str->Option Value},P.Nodup->P[i]?=some x->vs[i]?=some v->kindOf x=some .local →
  bindL kindOf (P.zip vs) m x=some v
 | [],_,_,_,_,h,_,_=>by simp at h
 | _::_,[],_,_,_,_,h,_=>by simp at h
 | p::P,w::vs,0,m,nd,h1,h2,hk=>by simp at h1 h2;subst h1;subst h2;show bindL kindOf ((p,w)::P.zip vs) m p=_;unfold bindL;rw[tu λv hv=>(List.nodup_cons.mp nd).1 (List.of_mem_zip hv).1,Ge hk];simp
 | p::P,w::vs,i+1,m,nd,h1,h2,hk=>by show bindL kindOf ((p,w)::P.zip vs) m x=_;unfold bindL;exact mB (i:=i) (List.nodup_cons.mp nd).2 (by simpa using h1) (by simpa using h2) hk
def lU{kindOf:Str->Option NameKind}{x:Str}{v:Value}:∀{P:List Str} {vs:List Value} {i:Nat} {m:Str->Option Value},P.Nodup->P[i]?=some x->vs[i]?=some v->kindOf x≠some .local →
  bindC kindOf (P.zip vs) m x=some v
 | [],_,_,_,_,h,_,_=>by simp at h
 | _::_,[],_,_,_,_,h,_=>by simp at h
 | p::P,w::vs,0,m,nd,h1,h2,hk=>by simp at h1 h2;subst h1;subst h2;show bindC kindOf ((p,w)::P.zip vs) m p=_;unfold bindC;rw[uf λv hv=>(List.nodup_cons.mp nd).1 (List.of_mem_zip hv).1,Gb hk];simp
 | p::P,w::vs,i+1,m,nd,h1,h2,hk=>by show bindC kindOf ((p,w)::P.zip vs) m x=_;unfold bindC;exact lU (i:=i) (List.nodup_cons.mp nd).2 (by simpa using h1) (by simpa using h2) hk
def start(N:List Str)(vs:List V):St:=vs.map some++F0 (N.length-vs.length) none
def f9(CX:fA)(P:Program)(w:World)(K:Fb)(mg:Str->Option Value)(base:Heap)(N:List Str)(qual:Str)(scope:Scope)(f:Addr)(cd:Value)(A:Around)(outer:List Env)(s:Shared)(H:Hp)(E:XK):Cx where
 prog:=P
 w:=w
 K:=K
 mg:=mg
 base:=base
 A:=A.deeper (envOfC qual scope s.heap.objs.size f cd)
 N:=N
 s₀:=s
 H₀:=H
 env:=envOfC qual scope s.heap.objs.size f cd
 outer:=outer
 stack:=envOfC qual scope s.heap.objs.size f cd::outer
 ex:=[]
 calm:=true
 fn:=λ_=>true
 pn:=[]
 xe:=λe s'=>wpAny (model P w) (A.deeper (envOfC qual scope s.heap.objs.size f cd)) (leaving (envOfC qual scope s.heap.objs.size f cd) e) (λ_ s''=>CX outer H s E e s'') (λe' s''=>CX outer H s E e' s'') s'
def uX{sc:Scope}{n:Nat}{x:Str}(h:sc.names.lookup x=some .cell):∃c,(cellsFrom n sc.names []).lookup x=some c:=by have q:=PySem.W.cellsFrom_some sc.names n [] (.inl h);exact Option.isSome_iff_exists.mp q
def Bk{CX:fA}{P:Program}{w:World}{K:Fb}{mg:Str->Option Value}{base:Heap}{N ps:List Str}{qual:Str}{scope:Scope}{f:Addr}{cd:Value}{A:Around}{outer:List Env}{s s1:Shared}{H:Hp}{E:XK}{us:List Value}{vs:List V}
  (S:FnScope N ps scope) (hd:A.handled=none) (e0:Env0 P w K mg base A outer s H) (hl:vs.length=ps.length) (r:Vals vs us)
  (x:InCallC s s.heap.objs.size (bindL (envOfC qual scope s.heap.objs.size f cd).kindOf (ps.zip us) λ_=>none) (cellsFrom (s.heap.objs.size+1) scope.names []) (bindC (envOfC qual scope s.heap.objs.size f cd).kindOf (ps.zip us) λ_=>none) s1) :
  Inv (f9 CX P w K mg base N qual scope f cd A outer s H E) [] (start N vs) H s1:=by
 have hpl:ps.length<=N.length:=by have:=congrArg List.length S.pre;rw[F5]at this;omega
 obtain⟨h1,tk,rfl,hk⟩:=x.done;have noA:∀b:Addr,b∉(f9 CX P w K mg base N qual scope f cd A outer s H E).ex:=λb z=>absurd (show b∈([]:List Addr)from z) (by simp);refine⟨⟨e0.mod,S.kind,rfl,rfl,FA _,λy z c h1 h2=>?_,λy hy=>?_,λy c _ h=>?_,λ_=>hd,Around.frames_deeper e0.frames,.inr ⟨rfl,rfl⟩,λb z=>absurd z (noA b),e0.bs,e0.bsz,λb _ _=>noA b,λb z=>absurd z (noA b),e0.funs,e0.frf⟩,
  rfl,e0.bare,Un.kept hk,⟨_,x.toInCall.ns,λi y v h1 h2 h3=>?_⟩,λy c h=>⟨_,x.cell y c h⟩,e0.hok.fresh (FA _),λy c h=>?_,λp hp=>absurd (show p∈([]:List (Addr×Obj))from hp) (by simp),e0.hok.kept hk,?_⟩
 ·exact name_of_addr x.apart (PySem.mem_of_lookup h1) (PySem.mem_of_lookup h2)
 ·have hy:scope.names.lookup y=some .cell\/scope.names.lookup y=some .free:=hy;rcases hy with hy|hy
  ·exact uX hy
  ·exact absurd rfl (S.nofree _ (PySem.mem_of_lookup hy))
 ·exact Nat.le_of_lt (x.above y c (PySem.mem_of_lookup h))
 ·have hi:i<vs.length:=by
   unfold start at h2;by_cases hi:i<vs.length
   ·exact hi
   ·rw[FG (by simpa using hi)]at h2;rw[List.getElem?_replicate]at h2;split at h2<;>cases h2
  have ha:vs[i]?=some v:=by
   unfold start at h2;rw[FH (by simpa using hi),Fh]at h2;cases e:vs[i]? with
   | none=>rw[e]at h2;cases h2
   | some a=>rw[e]at h2;cases h2;rfl
  obtain⟨u,hu,rv⟩:=r.get ha;have hp:ps[i]?=some y:=by rw[←S.pre,List.getElem?_take_of_lt (by omega)];exact h1
  have ndP:ps.Nodup:=by rw[←S.pre];exact S.nd.sublist (List.take_sublist _ _)
  refine⟨u,rv,?_⟩;rcases S.par y (Fp hp)with k|k
  ·exact .inl ⟨k,mB ndP hp hu k⟩
  ·obtain⟨c,e⟩:=uX (n:=s.heap.objs.size+1) k;refine .inr ⟨.inl k,c,e,?_⟩;have q:=x.cell y c e;rw[lU ndP hp hu (by show scope.names.lookup y≠_;rw[k];decide)]at q;exact q
 ·exact e0.hok.fresh (Nat.le_of_lt (x.above y c (PySem.mem_of_lookup h)))
 ·unfold start;show _=N.length;rw[Fy,Ff,List.length_replicate];omega
def uM{CX:fA}{P:Program}{w:World}{K:Fb}{mg:Str->Option Value}{base:Heap}{k:Nat}{f:Addr}{name qual:Str}{params:Arguments}{body:List Stmt}{scope:Scope}{dV kV doc pm cdv ct oc:Value}{an od:Option Addr}
  {osl:Array (Option Value)} {N ps:List Str} {sp:Sp} (lk:K.lookup f=some ⟨oc,od,.func (PySem.W.fnOf name qual params body scope dV kV doc pm an cdv ct),osl⟩) (hcd:PySem.W.codeIn K cdv qual=true) (S:FnScope N ps scope)
  (len:∀vs H Q E,sp vs H Q E->vs.length=ps.length)
  (hbody:∀(A:Around) (outer:List Env) (s:Shared) (H:Hp) (vs:List V) (Q:VK) (E:XK),Room k (A.deeper (envOfC qual scope s.heap.objs.size f cdv))->sp vs H Q E →
   ∃t,cS (f9 CX P w K mg base N qual scope f cdv A outer s H E) body t/\t { nx:=λ_ H'=>Q .non H',rt:=Q } (start N vs) H) :
  FnOk P w K mg base CX (k+1) f (PySem.W.fnOf name qual params body scope dV kV doc pm an cdv ct) ps sp:=by
 refine⟨len,λA outer s H args us vs Q E hr e0 hb r hsp=>?_⟩;have hl:=len _ _ _ _ hsp;have KX:K.In s.heap:=e0.mod.kin.keeps λb o e=>(e0.bs b o e).1;have lim:s.heap.NoLimit:=e0.mod.nolimit.keeps λb o e=>(e0.bs b o e).1;have hkind:∀y∈ps.zip us,scope.names.lookup y.1=some .local\/(scope.names.lookup y.1=some .cell/\((cellsFrom (s.heap.objs.size+1) scope.names []).lookup y.1).isSome=true):=λ⟨n,v⟩ hy=>by
  rcases S.par n (List.of_mem_zip hy).1 with q|q
  ·exact .inl q
  ·exact .inr ⟨q,PySem.W.cellsFrom_some _ _ _ (.inl q)⟩
 refine codeAny_call_function hr.depth (KX _ _ lk) rfl S.co S.gen rfl (PySem.W.codeRec_of KX hcd) (hb _ _ _ _ ?_);refine wpAny_newFunctionEnv_cells S.kind hkind λenv he s1 x=>?_;subst he;refine⟨lim.keeps x.toInCall.keep,codeAny_func ?_⟩;obtain⟨t,ht,hq⟩:=hbody A outer s H vs Q E (hr.deeper _) hsp;have I:Inv (f9 CX P w K mg base N qual scope f cdv A outer s H E) [] (start N vs) H s1:=Bk S hr.hd e0 hl r x;refine wpAny_mono (ht [] s1 (start N vs) H _ I hq) (λfl s' hs=>?_) λe s' hs=>hs;have fin:∀{σ':St} {H':Hp} {v:V} {u:Value},Inv (f9 CX P w K mg base N qual scope f cdv A outer s H E) [] σ' H' s'->RelV v u->Q v H'->CE outer P w H s Q u s':=
  λ{σ' H' v u} J rv q=>⟨v,H',J.os,J.bare,J.base,J.hok,rv,q⟩
 cases fl with
 | ret u=>
  obtain⟨v,σ',H',J,rv,q⟩:=hs;exact fin J rv q
 | next=>
  obtain⟨σ',H',J,q⟩:=hs;exact fin (v:=V.non) (u:=Value.none) J rfl q
 | brk=>
  obtain⟨_,_,_,q⟩:=hs;exact False.elim q
 | cont=>
  obtain⟨_,_,_,q⟩:=hs;exact False.elim q
section
variable {X:Cx} {x:Str} {p pos:Pos} {e:Expr} {es:List Expr} {t:TA} {id T:String} {r:List V->Hp->VK->Prop}
def ka(r:List V->Hp->VK->Prop)(t:TA):TE:=λσ H Q=>t σ H λvs H1=>r vs H1 Q
def aX(hc:ck X (.builtin id) r)(hg:Gl X x)(hm:X.mg x=none)(hv:bootBuiltins x=some (.builtin id))(ha:PA X (e::es) t)(hn:x≠"__name__":=by decide)(hdb:(x == ("__debug__":Str))=false:=by decide)
  (he:starEach (e::es) X.env=(false,eval e X.env)::starEach es X.env:=by rfl) (hpl:(backTo pos (starEach es X.env)).any (·.1)=false:=by rfl):PE X (.Call (.Name x p) (e::es) [] pos) (ka r t):=by
 intro pins s σ H Q I h;refine wpAny_Call_Name_kw (fh I hg hm hv ?_ hn hdb);exact PyProof.Rows.callWith_builtin1 (aD (ha pos pins s σ H _ I h) λus s1 ⟨vs,H1,I1,r1,q1⟩=>hc pins s1 σ H1 vs us Q I1 r1 q1) he hpl
def iC(hc:ck X (.type T) r)(hg:Gl X x)(hm:X.mg x=none)(hv:bootBuiltins x=some (.type T))(ha:PA X (e::es) t)(hn:x≠"__name__":=by decide)(hdb:(x == ("__debug__":Str))=false:=by decide)
  (he:starEach (e::es) X.env=(false,eval e X.env)::starEach es X.env:=by rfl) (hpl:(backTo pos (starEach es X.env)).any (·.1)=false:=by rfl):PE X (.Call (.Name x p) (e::es) [] pos) (ka r t):=by
 intro pins s σ H Q I h;refine wpAny_Call_Name_kw (fh I hg hm hv ?_ hn hdb);exact PyProof.Rows.callWith_type1 (aD (ha pos pins s σ H _ I h) λus s1 ⟨vs,H1,I1,r1,q1⟩=>hc pins s1 σ H1 vs us Q I1 r1 q1) he hpl
end
end L2
namespace HT
open PySem PyProof.Rows
section
open PySem.SeqAt
open PySem.AutoSeq1 (wpAny_loadPart')
open PySem.MeetsSeq PySem.MeetsSeq2 PySem.MeetsSeq3
end
section
variable {prog:Program} {w:World} {A:Around} {E:Value->Shared->Prop} {s:Shared}
def aP(n d:Nat):Option Int->Nat
 | none=>d
 | some v=>if v<0 then(v+(n:Int)).toNat else min v.toNat n
def jU(n d:Nat):aP n d none=d:=rfl
def wd(n d k:Nat):aP n d (some (k:Int))=min k n:=by show(if(k:Int)<0 then((k:Int)+(n:Int)).toNat else min (k:Int).toNat n)=min k n;rw[Gb (by omega),Ft]
def CF(n d:Nat)(hd:d<=n)(o:Option Int):aP n d o<=n:=by
 cases o with
 | none=>exact hd
 | some v=>
  show(if v<0 then(v+(n:Int)).toNat else min v.toNat n)<=n;by_cases hv:v<0
  ·rw[Ge hv];omega
  ·rw[Gb hv];exact Nat.min_le_right _ _
def ue(v:Int)(n d:Nat):(if v<0 then max (v+(n:Int)) 0 else min v (n:Int))=((aP n d (some v):Nat):Int):=by
 show(if v<0 then max (v+(n:Int)) 0 else min v (n:Int))=(((if v<0 then(v+(n:Int)).toNat else min v.toNat n):Nat):Int);by_cases hv:v<0
 ·simp only[Ge hv];omega
 ·simp only[Gb hv];omega
def zB(lo hi:Option Int)(n:Nat):Builtin.Slice.sliceAdjust lo hi 1 (n:Int)=(((aP n 0 lo:Nat):Int),((aP n n hi:Nat):Int)):=by
 have h1:¬((1:Int)<0):=by omega
 unfold Builtin.Slice.sliceAdjust;simp only[h1,if_false];refine Prod.ext ?_ ?_
 ·cases lo with
  | none=>rfl
  | some v=>exact ue v n 0
 ·cases hi with
  | none=>rfl
  | some v=>exact ue v n n
def ES(i j:Nat):Builtin.Slice.slicePlaces (i:Int) (j:Int) 1=j-i:=by
 unfold Builtin.Slice.slicePlaces;have h1:(1:Int)>0:=by omega
 simp only[h1,if_true,Int.ediv_one];split<;>omega
def sG{v:Value}{o:Option Int}{Q:Option Int->Shared->Prop}(p:IsPart v o)(h:Q o s):wpAny (model prog w) A (Builtin.Slice.slicePartIndex v) Q E s:=by
 cases p with
 | none=>exact slicePart_none h
 | int i t=>exact slicePart_int h
def tV{sl:Addr}{vl vu:Value}{lo hi:Option Int}{n:Nat}{Q:Int×Int×Nat->Shared->Prop}(hs:s.heap.IsSliceOf sl vl vu .none)(pl:IsPart vl lo)(pu:IsPart vu hi)
  (h:Q (((aP n 0 lo:Nat):Int),1,aP n n hi-aP n 0 lo) s):wpAny (model prog w) A (Builtin.Slice.sliceApplied (.ref sl) (pure (n:Int))) Q E s:=by
 obtain⟨os,hos,hcs,hds⟩:=id hs;unfold Builtin.Slice.sliceApplied Builtin.Slice.sliceFields;refine E8 (E8 (wpAny_field hos hds (x:=vl) rfl (E8 (wpAny_field hos hds (x:=vu) rfl (E8 (wpAny_field hos hds (x:=.none) rfl (E9 ?_)))))));refine E8 (slicePart_none ?_);show wpAny _ _ (if((1:Int) == 0)=true then _ else _) _ _ s;rw[Gb (by decide)];refine E8 (sG pl (E8 (sG pu (E8 (E9 ?_)))));show wpAny _ _ (match Builtin.Slice.sliceAdjust lo hi 1 (n:Int)with|(lo,hi)=>pure (lo,(1:Int),Builtin.Slice.slicePlaces lo hi 1)) _ _ s;rw[zB lo hi n];show wpAny _ _ (pure (((aP n 0 lo:Nat):Int),(1:Int),Builtin.Slice.slicePlaces ((aP n 0 lo:Nat):Int) ((aP n n hi:Nat):Int) 1)) _ _ s;rw[ES];exact E9 h
def Ce(xs:Array Value)(i k:Nat):((F8 k).filterMap λ(m:Nat)=>xs[((i:Int)+(m:Int)*1).toNat]?).toArray=((xs.toList.drop i).take k).toArray:=by
 have e:(λ(m:Nat)=>xs[((i:Int)+(m:Int)*1).toNat]?)=λm=>xs[i+m]?:=by
  funext m;have:((i:Int)+(m:Int)*1).toNat=i+m:=by omega
  rw[this]
 rw[e];have:=pick_run xs i k;rw[List.filterMap_map]at this;have e2:((λx=>xs[x]?)∘λx=>i+x)=λm=>xs[i+m]?:=rfl;rw[e2]at this;rw[this]
def CJ{t sl:Addr}{items:Array Value}{vl vu:Value}{lo hi:Option Int}{Q:Value->Shared->Prop}(ht:IsTup s.heap t items)(hs:s.heap.IsSliceOf sl vl vu .none)(pl:IsPart vl lo)(pu:IsPart vu hi)
  (hw:¬(aP items.size 0 lo=0/\aP items.size items.size hi=items.size))
  (h:Q (.ref s.heap.objs.size) { s with heap:=s.heap.push { cls:=.type "tuple",data:=.seq ((items.toList.drop (aP items.size 0 lo)).take (aP items.size items.size hi-aP items.size 0 lo)).toArray } })
  (hsz:items.size<=sizeLine):wpAny (model prog w) A (getItem (.ref t) (.ref sl)) Q E s:=by
 have htake:sizeOk (.seq ((items.toList.drop (aP items.size 0 lo)).take (aP items.size items.size hi-aP items.size 0 lo)).toArray):=by show((items.toList.drop (aP items.size 0 lo)).take (aP items.size items.size hi-aP items.size 0 lo)).toArray.size<=sizeLine;rw[Fl,F5,List.length_drop,Fj];omega
 have hj:aP items.size items.size hi<=items.size:=CF _ _ (FA _) hi;obtain⟨os,hos,hcs,hds⟩:=id hs;have hTs:s.TypeIs (.ref sl) "slice":=⟨os,hos,hcs⟩;unfold getItem
 try with_reducible refine wpAny_holding ?_
 first|refine E8 (E9 ?_)|skip
 refine E8 (wpAny_sequenceKey ht.typeIs (by decide) ?_);refine E8 (F7 (name:=FW "__getitem__") ht.typeIs PyProof.Rows.slot_tuple_getitem
  (wpAny_call_entry PyProof.Rows.slot_tuple_getitem ht.typeIs entry_tuple_getitem ?_ (args_tuple_getitem _ _)))
 show wpAny _ _ (Builtin.Tuple.tupleItemsOf (.ref t) >>= _) _ _ s;refine E8 (tupleItemsOf_ ht ?_);refine E8 (wpAny_typeOf hTs ?_);rw[Ge (by decide)];refine E8 (tV hs pl pu ?_);have hno:¬((((aP items.size 0 lo:Nat):Int) == 0 && (1:Int) == 1 && (aP items.size items.size hi-aP items.size 0 lo) == items.size)=true):=by intro q;rw[FV,FV]at q;have q1:((aP items.size 0 lo:Nat):Int)=0:=eq_of_beq q.1.1;have q2:aP items.size items.size hi-aP items.size 0 lo=items.size:=eq_of_beq q.2;exact hw ⟨by omega,by omega⟩
 show wpAny _ _ (if(((aP items.size 0 lo:Nat):Int) == 0 && (1:Int) == 1 && (aP items.size items.size hi-aP items.size 0 lo) == items.size)=true then _ else _) _ _ s;rw[Gb hno,Ce]
 first
  | exact E8 (m:=Builtin.Tuple.tupleExact _) (wpAny_newObj_type (E9 ⟨_,rfl,E9 h⟩) htake)
  | exact E8 (m:=Builtin.Tuple.tupleExact _) (wpAny_newObj_type (E8 (E9 (E9 ⟨_,rfl,E9 h⟩))) htake)
  | exact E8 (E8 (m:=Builtin.Tuple.tupleExact _) (wpAny_newObj_type (E9 (E9 ⟨_,rfl,E9 h⟩)) htake))
  | exact E8 (E8 (m:=Builtin.Tuple.tupleExact _) (wpAny_newObj_type (E9 ⟨_,rfl,E9 h⟩) htake))
end
end HT
namespace L2
open PySem PySem.Spec PyProof.Rows
abbrev TO:=St->Hp->(Option Int->Hp->Prop)->Prop
def PO(X:Cx)(e:Option Expr)(t:TO):Prop:=
 ∀(pins:List (Addr×Obj)) (s:Shared) (σ:St) (H:Hp) (Q:Option Int->Hp->Prop),Inv X pins σ H s->t σ H Q →
  wpAny (model X.prog X.w) X.A (evalPart e X.env) (λu s'=>∃o H',Inv X pins σ H' s'/\IsPart u o/\Q o H') X.xe s
def xt:TO:=λ_ H Q=>Q none H
def xc(t:TE):TO:=λσ H Q=>t σ H λx H1=>∃i,x=.int i/\Q (some i) H1
def intsAre_of{ns:List Int}:∀{us:List Value},Vals (ns.map V.int) us->IntsAre us ns:=by
 induction ns with
 | nil=>intro us r;rw[List.map_nil]at r;cases r;exact .nil
 | cons n ns ih=>
  intro us r;rw[List.map_cons]at r;cases r with
  | cons r1 r2=>
   obtain⟨t,e⟩:=r1;subst e;exact .cons n t (ih r2)
section
variable {X:Cx} {e:Expr} {te:TE} {lo hi:Option Expr} {tl th:TO} {pos p2:Pos}
def gY:PO X none xt:=by intro pins s σ H Q I h;rw[evalPart_none];exact E9 ⟨none,H,I,.none,h⟩
def eX(h:PE X e te):PO X (some e) (xc te):=by intro pins s σ H Q I hw;rw[evalPart_some];refine aD (h pins s σ H _ I hw) λu s1 ⟨x,H1,I1,r1,q1⟩=>?_;obtain⟨i,rfl,q⟩:=q1;obtain⟨t,rfl⟩:=r1;exact⟨some i,H1,I1,.int i t,q⟩
def jw(X:Cx)(r:V->Option Int->Option Int->Hp->VK->Prop):Prop:=
 ∀(pins:List (Addr×Obj)) (s:Shared) (σ:St) (H:Hp) (x:V) (v vl vu:Value) (lo hi:Option Int) (sl:Addr) (Q:VK),Inv X pins σ H s->RelV x v->s.heap.IsSliceOf sl vl vu .none->IsPart vl lo->IsPart vu hi->r x lo hi H Q →
  ∃T id,typeLookup (.type T) "__getitem__" = pure (some (.builtin id))/\s.TypeIs v T/\wpAny (model X.prog X.w) X.A (getItem v (.ref sl)) (EP X pins σ Q) X.xe s
def vC(r:V->Option Int->Option Int->Hp->VK->Prop)(te:TE)(tl th:TO):TE:=λσ H Q=>te σ H λx H1=>tl σ H1 λl H2=>th σ H2 λu H3=>r x l u H3 Q
def fY{r:V->Option Int->Option Int->Hp->VK->Prop}(hr:jw X r)(he:PE X e te)(hl:PO X lo tl)(hu:PO X hi th):PE X (.Subscript e (.Slice lo hi none p2) pos) (vC r te tl th):=by intro pins s σ H Q I h;refine Subscript_ (aD (he pins s σ H _ I h) λv s1 ⟨x,H1,I1,r1,q1⟩=>?_);refine wpAny_Slice (aD (hl pins s1 σ H1 _ I1 q1) λvl s2 ⟨l,H2,I2,pl,q2⟩=>aD (hu pins s2 σ H2 _ I2 q2) λvu s3 ⟨u,H3,I3,pu,q3⟩=>?_);rw[evalPart_none];refine E9 ?_;have I4:Inv X pins σ H3 { s3 with heap:=s3.heap.push { cls:=.type "slice",data:=.fields #[vl,vu,.none] } }:=I3.kept (t':=s3.toks) λb ob q=>Fc _ q;obtain⟨T,id,hT,ht,hg⟩:=hr pins { s3 with heap:=s3.heap.push { cls:=.type "slice",data:=.fields #[vl,vu,.none] } } σ H3 x v vl vu l u s3.heap.objs.size Q I4 r1 (Heap.IsSliceOf.new ..) pl pu q3;show wpAny (model X.prog X.w) X.A (subscriptTail e (.Slice lo hi none p2) v (.ref s3.heap.objs.size)) (EP X pins σ Q) X.xe { s3 with heap:=s3.heap.push { cls:=.type "slice",data:=.fields #[vl,vu,.none] } };exact tail_any (ops:=[.ref s3.heap.objs.size,v]) ht hT hg (by with_unfolding_all rfl)
def bV(xs:List V)(lo hi:Option Int):List V:=(xs.drop (HT.aP xs.length 0 lo)).take (HT.aP xs.length xs.length hi-HT.aP xs.length 0 lo)
def vV(xs:List V)(lo hi:Option Int):(bV xs lo hi).length<=xs.length:=by unfold bV;rw[F5,List.length_drop];omega
def AZ(K:Fb):V->Option Int->Option Int->Hp->VK->Prop:=λx lo hi H Q=>∃a xs,x=.ref a/\ah K H a xs ∧
 ¬(HT.aP xs.length 0 lo=0/\HT.aP xs.length xs.length hi=xs.length)/\∀p,H p=none->Q (.ref p) (upd H p (.tup (bV xs lo hi)))
def yZ:jw X (AZ X.K):=by
 intro pins s σ H x v vl vu lo hi sl Q I rx hs pl pu h;obtain⟨a,xs,rfl,hx,hw,q⟩:=h;cases rx;obtain⟨its,r,ht,hz⟩:=I.tuple hx;have hlen:its.toArray.size=xs.length:=by rw[Fl];exact r.length.symm
 refine⟨"tuple",_,PyProof.Rows.slot_tuple_getitem.lookup,ht.typeIs,?_⟩;refine HT.CJ ht hs pl pu (by rw[hlen];exact hw) ?_ (by rw[hlen];exact hz);rw[hlen];refine⟨.ref s.heap.objs.size,_,I.laid (t':=s.toks) (o:=.tup (bV xs lo hi)) (λb ob q=>Fc _ q) (FA _) ?_,rfl,q _ (I.hok.fresh (FA _))⟩;exact⟨FP (vV xs lo hi) hz,_,(r.drop (HT.aP xs.length 0 lo)).take (HT.aP xs.length xs.length hi-HT.aP xs.length 0 lo),IsTup.new _ _⟩
end
def dZ(n:Nat)(i:Int):Option Nat:=if 0<=i then(if i<n then some i.toNat else none)else if -(n:Int)<=i then some (i+n).toNat else none
def bG{α:Type}(xs:List α)(i:Int):Option α:=(dZ xs.length i).bind λj=>xs[j]?
def uA{n:Nat}{i:Int}{j:Nat}(h:dZ n i=some j):seqIndex? i n=some j/\j<n/\-(n:Int)<=i/\i<n:=by
 unfold dZ at h;by_cases h0:0<=i
 ·rw[Ge h0]at h;by_cases h1:i<n
  ·rw[Ge h1]at h;have e:i.toNat=j:=FX h;exact⟨by rw[seqIndex_of h0 h1,e],by omega,by omega,h1⟩
  ·rw[Gb h1]at h;cases h
 ·rw[Gb h0]at h;by_cases h1:-(n:Int)<=i
  ·rw[Ge h1]at h;have e:(i+n).toNat=j:=FX h;exact⟨by rw[seqIndex_neg (by omega) h1,e],by omega,h1,by omega⟩
  ·rw[Gb h1]at h;cases h
def oB{α:Type}{xs:List α}{i:Int}{v:α}(h:bG xs i=some v):∃j,seqIndex? i xs.length=some j/\xs[j]?=some v/\j<xs.length/\-(xs.length:Int)<=i/\i<xs.length:=by
 unfold bG at h;cases e:dZ xs.length i with
 | none=>rw[e]at h;cases h
 | some j=>
  rw[e]at h;obtain⟨h1,h2,h3,h4⟩:=uA e;exact⟨j,h1,h,h2,h3,h4⟩
def cP{α:Type}{xs:List α}{j:Nat}{v:α}(h:xs[j]?=some v):bG xs (j:Int)=some v:=by
 have hj:j<xs.length:=(Fo.mp h).1;have e:dZ xs.length (j:Int)=some j:=by unfold dZ;rw[Ge (by omega),Ge (by omega)];simp
 unfold bG;rw[e];exact h
def jE{α:Type}(xs:List α)(v:α):bG (xs++[v]) (-1)=some v:=by
 have hl:(xs++[v]).length=xs.length+1:=by simp
 have e:dZ (xs++[v]).length (-1)=some xs.length:=by unfold dZ;rw[hl,Gb (by decide),Ge (by omega)];congr 1;omega
 unfold bG;rw[e];show(xs++[v])[xs.length]?=some v;simp
def zM(b:Expr):Prop:=∀o i,subscripted b false o i=operate [o,i] (getItem o i)
def iF(X:Cx)(r:R2):Prop:=
 ∀(value slice:Expr) (pins:List (Addr×Obj)) (s:Shared) (σ:St) (H:Hp) (x y:V) (v u:Value) (Q:VK),Inv X pins σ H s->RelV x v->RelV y u->r x y H Q →
  subscripted slice false v u=operate [v,u] (getItem v u)->wpAny (model X.prog X.w) X.A (subscriptTail value slice v u) (EP X pins σ Q) X.xe s
def m7(X:Cx)(id:String)(r:V->List V->Hp->VK->Prop):Prop:=
 ∀(pins:List (Addr×Obj)) (s:Shared) (σ:St) (H:Hp) (x:V) (xs:List V) (v:Value) (us:List Value) (Q:VK),Inv X pins σ H s->RelV x v->Vals xs us->r x xs H Q →
  wpAny (model X.prog X.w) X.A (call (.builtin id) (v::us)) (EP X pins σ Q) X.xe s
section
variable {X:Cx} {a b:Expr} {ta tb:TE} {pos:Pos}
def ao{r:R2}(hr:iF X r)(ha:PE X a ta)(hb:PE X b tb)(hs:zM b):PE X (.Subscript a b pos) (ie r ta tb):=by intro pins s σ H Q I h;exact Subscript_ (ow ha hb I h λv u s2 x y H2 I2 rx ry q=>hr a b pins s2 σ H2 x y v u Q I2 rx ry q (hs _ _))
def pH(K:Fb):R2:=λx y H Q=>∃p xs i v,x=.ref p/\y=.int i/\ag K H p xs/\bG xs i=some v/\Q v H
def lB(K:Fb):R2:=λx y H Q=>∃p xs i v,x=.ref p/\y=.int i/\ah K H p xs/\bG xs i=some v/\Q v H
def EX:R2:=λx y H Q=>∃z i c,x=.str z/\y=.int i/\z.length<=sizeLine/\bG z.cps.toList i=some c/\Q (.str ⟨#[c]⟩) H
def Bm:iF X (pH X.K):=by
 intro value slice pins s σ H x y v u Q I rx ry h hs;obtain⟨p,xs,i,z,rfl,rfl,hq,he,q⟩:=h;cases rx;obtain⟨t,rfl⟩:=ry;obtain⟨its,r,pl,hz⟩:=I.list hq;obtain⟨j,h1,h2,h3,h4,h5⟩:=oB he;obtain⟨w,ew,rw'⟩:=r.get h2;have hl:=r.length;have hn:=gR;have fin:EP X pins σ Q w s:=⟨z,H,I,rw',q⟩;by_cases h0:0<=i
 ·have hj:i.toNat=j:=by rw[seqIndex_of h0 h5]at h1;exact FX h1
  exact item_listR pl.isList h0 (by omega) (by rw[hj];simpa using ew) fin hs
 ·have hj:(i+(its.toArray.size:Int)).toNat=j:=by rw[seqIndex_neg (by omega) h4]at h1;rw[Fl,←hl];exact FX h1
  exact subscriptTail_builtinR (x:=w) pl.isList.typeIs slot_list_getitem.lookup
   (wpAny_getItem_list_neg (Q:=λr s'=>r=w/\EP X pins σ Q r s') pl.isList (by omega) (by rw[Fl]<;>omega) (by omega) (by rw[hj];simpa using ew) ⟨rfl,fin⟩) hs
def yG:iF X (lB X.K):=by
 intro value slice pins s σ H x y v u Q I rx ry h hs;obtain⟨p,xs,i,z,rfl,rfl,hq,he,q⟩:=h;cases rx;obtain⟨t,rfl⟩:=ry;obtain⟨its,r,pl,hz⟩:=I.tuple hq;obtain⟨j,h1,h2,h3,h4,h5⟩:=oB he;obtain⟨w,ew,rw'⟩:=r.get h2;have hl:=r.length;have hn:=gR;have fin:EP X pins σ Q w s:=⟨z,H,I,rw',q⟩;exact subscriptTail_builtinR (x:=w) pl.typeIs slot_tuple_getitem.lookup
  (getItem_tuple (j:=j) (Q:=λr s'=>r=w/\EP X pins σ Q r s') pl (by omega) (by omega) (by rw[Fl,←hl];exact h1) (by simpa using ew) ⟨rfl,fin⟩) hs
def vJ:iF X EX:=by
 intro value slice pins s σ H x y v u Q I rx ry h hs;obtain⟨z,i,c,rfl,rfl,hz,he,q⟩:=h;obtain⟨t,rfl⟩:=rx;obtain⟨t',rfl⟩:=ry;obtain⟨j,h1,h2,h3,h4,h5⟩:=oB he;have hl:z.cps.toList.length=z.length:=by simp[Str.length]
 rw[hl]at h1 h4 h5;have hn:=gR;exact tail_any (typeIs_str s z t) slot_str_getitem.lookup (getItem_str (c:=c) (by have e1:decide (i < -(2 ^ 63:Int))=false:=F9 (by omega);have e2:decide (i ≥ 2 ^ 63)=false:=F9 (by omega);rw[e1,e2,Bool.or_false]) (by rw[h1];simpa using h2) ⟨.str ⟨#[c]⟩,H,I.tok _,⟨_,rfl⟩,q⟩) hs
def CO(its:List Value)(n j:Nat)(u:Value):Obj.mapSeq (·.setIfInBounds j u) { cls:=.type "list",data:=.seq its.toArray n }={ cls:=.type "list",data:=.seq (its.set j u).toArray n }:=by simp[Obj.mapSeq]
def Inv.lst{pins:List (Addr×Obj)}{σ:St}{H:Hp}{s:Shared}{p:Addr}{xs:List V}(I:Inv X pins σ H s)(h:H p=some (.lst xs)):
  ∃(its:List Value) (n:Nat),Vals xs its/\s.heap.get? p=some { cls:=.type "list",data:=.seq its.toArray n }/\xs.length<=sizeLine:=by
 obtain⟨z,its,n,r,e⟩:=I.hok p _ h;exact⟨its,n,r,e,z⟩
def Inv.lstUpd{pins:List (Addr×Obj)}{σ:St}{H:Hp}{s:Shared}{p:Addr}{xs ys:List V}{its its':List Value}{n n':Nat}{f:Obj->Obj}(I:Inv X pins σ H s)(h:H p=some (.lst xs))
  (ho:s.heap.get? p=some { cls:=.type "list",data:=.seq its.toArray n }) (hf:f { cls:=.type "list",data:=.seq its.toArray n }={ cls:=.type "list",data:=.seq its'.toArray n' }) (r:Vals ys its') (hz:ys.length<=sizeLine) (t:Nat) :
  Inv X pins σ (upd H p (.lst ys)) { s with heap:=s.heap.update p f,toks:=t }:=by
 have e:(s.heap.update p f).get? p=some { cls:=.type "list",data:=.seq its'.toArray n' }:=by rw[Heap.get?_update_self f ho (by rw[hf]<;>rfl),hf]
 refine I.write (x:=p) (e:=p) (by rw[h];trivial) (.inl rfl) (λb u hb q=>(Heap.get?_update_other _ _ (Ne.symm hb)).trans q) ⟨_,e⟩ ?_;exact⟨hz,its',n',r,e⟩
def xu:V->V->V->Hp->(Hp->Prop)->Prop:=λo i v H Q=>∃p xs k j,o=.ref p/\i=.int k/\H p=some (.lst xs)/\dZ xs.length k=some j/\Q (upd H p (.lst (xs.set j v)))
def set_list:ym X xu:=by
 intro pins s σ H o i v ov iv u Q I ro ri rv h;obtain⟨p,xs,k,j,rfl,rfl,hp,hj,q⟩:=h;cases ro;obtain⟨t,rfl⟩:=ri;obtain⟨its,n,r,ho,hz⟩:=I.lst hp;obtain⟨h1,h2,h3,h4⟩:=uA hj;have hl:=r.length;have hn:=gR;have I':Inv X pins σ (upd H p (.lst (xs.set j v))) { s with heap:=s.heap.update p (Obj.mapSeq (·.setIfInBounds j u)) }:=
  I.lstUpd hp ho (CO its n j u) (r.set rv j) (by rw[List.length_set];exact hz) s.toks
 by_cases h0:0<=k
 ·have hk:k.toNat=j:=by rw[seqIndex_of h0 h4]at h1;exact FX h1
  exact PySem.W.ki_setAt ho h0 (by omega) (by rw[Fl,←hl];exact h4) (by rw[hk];exact⟨_,I',q⟩)
 ·have hk:(k+(its.toArray.size:Int)).toNat=j:=by rw[seqIndex_neg (by omega) h3]at h1;rw[Fl,←hl];exact FX h1
  exact PySem.W.ki_setBack ho (by omega) (by rw[Fl,←hl];exact h3) (by omega) (by rw[hk];exact⟨_,I',q⟩)
def zx(lo hi:Option Int)(n:Nat):(sliceBounds lo hi none n).1=((HT.aP n 0 lo:Nat):Int)/\(sliceBounds lo hi none n).2.1=((HT.aP n n hi:Nat):Int)/\(sliceBounds lo hi none n).2.2=1:=by
 refine⟨?_,?_,rfl⟩
 ·cases lo with
  | none=>simp[sliceBounds,HT.aP]
  | some i=>
   simp only[sliceBounds,HT.aP,Option.getD_none,show (1:Int)>0 by decide,if_true];by_cases h:i<0
   ·simp only[h,if_true]<;>omega
   ·simp only[h,if_false]<;>omega
 ·cases hi with
  | none=>simp[sliceBounds,HT.aP]
  | some i=>
   simp only[sliceBounds,HT.aP,Option.getD_none,show (1:Int)>0 by decide,if_true];by_cases h:i<0
   ·simp only[h,if_true]<;>omega
   ·simp only[h,if_false]<;>omega
def CL(its:List Value)(lo hi:Option Int):slicePick its.toArray lo hi none=((its.drop (HT.aP its.length 0 lo)).take (HT.aP its.length its.length hi-HT.aP its.length 0 lo)).toArray:=by obtain⟨h1,h2,h3⟩:=zx lo hi its.toArray.size;unfold slicePick;rw[h1,h2,h3];simp only[sliceRange_one,pick_run,Fl]<;>rfl
def nU(K:Fb):V->Option Int->Option Int->Hp->VK->Prop:=λx lo hi H Q=>∃a xs,x=.ref a/\ag K H a xs/\∀p,H p=none->Q (.ref p) (upd H p (.lst (bV xs lo hi)))
def BZ:jw X (nU X.K):=by intro pins s σ H x v vl vu lo hi sl Q I rx hs pl pu h;obtain⟨a,xs,rfl,hx,q⟩:=h;cases rx;obtain⟨its,r,ht,hz⟩:=I.list hx;have hlen:=r.length;refine⟨"list",_,slot_list_getitem.lookup,ht.isList.typeIs,?_⟩;refine wpAny_getItem_list_slice ht.isList hs pl pu .none (by simp) ?_ (by rw[Fl]<;>omega);rw[CL,←hlen];refine⟨.ref s.heap.objs.size,_,I.laid (t':=s.toks) (o:=.lst (bV xs lo hi)) (λb ob q=>Fc _ q) (FA _) ?_,rfl,q _ (I.hok.fresh (FA _))⟩;exact⟨FP (vV xs lo hi) hz,_,0,(r.drop (HT.aP xs.length 0 lo)).take (HT.aP xs.length xs.length hi-HT.aP xs.length 0 lo),Fd _ rfl⟩
def eT:V->Bool
 | .non=>true
 | .bl _=>true
 | .int _=>true
 | .str _=>true
 | _=>false
def f6:V->V->Bool
 | .non,.non=>true
 | .bl a,.bl b=>a == b
 | .bl a,.int b=>(if a then 1 else 0) == b
 | .int a,.bl b=>a == (if b then 1 else 0)
 | .int a,.int b=>a == b
 | .str a,.str b=>a == b
 | _,_=>false
def zO{A:Around}{s:Shared}{y x:V}{u v:Value}(ry:RelV y u)(rx:RelV x v)(fy:eT y=true)(fx:eT x=true):SeqAt.EqAt A s u v (f6 y x):=by
 cases y with
 | non=>
  cases ry;cases x with
  | non=>cases rx;exact SeqAt.EqAt.same _
  | bl b=>cases rx;exact SeqAt.EqAt.none_bool b
  | int b=>obtain⟨t,rfl⟩:=rx;exact SeqAt.EqAt.none_int b t
  | str b=>obtain⟨t,rfl⟩:=rx;exact SeqAt.EqAt.none_str b t
  | _=>exact absurd (show false=true from fx) Fw
 | bl a=>
  cases ry;cases x with
  | non=>cases rx;exact SeqAt.EqAt.bool_none a
  | bl b=>cases rx;exact SeqAt.EqAt.bool_bool a b
  | int b=>obtain⟨t,rfl⟩:=rx;exact SeqAt.EqAt.bool_int a b t
  | str b=>obtain⟨t,rfl⟩:=rx;exact SeqAt.EqAt.bool_str a b t
  | _=>exact absurd (show false=true from fx) Fw
 | int a=>
  obtain⟨t',rfl⟩:=ry;cases x with
  | non=>cases rx;exact SeqAt.EqAt.int_none a t'
  | bl b=>cases rx;exact SeqAt.EqAt.int_bool a t' b
  | int b=>obtain⟨t,rfl⟩:=rx;exact SeqAt.EqAt.int_int a t' b t
  | str b=>obtain⟨t,rfl⟩:=rx;exact SeqAt.EqAt.int_str a t' b t
  | _=>exact absurd (show false=true from fx) Fw
 | str a=>
  obtain⟨t',rfl⟩:=ry;cases x with
  | non=>cases rx;exact SeqAt.EqAt.str_none a t'
  | bl b=>cases rx;exact SeqAt.EqAt.str_bool a t' b
  | int b=>obtain⟨t,rfl⟩:=rx;exact SeqAt.EqAt.str_int a t' b t
  | str b=>obtain⟨t,rfl⟩:=rx;exact SeqAt.EqAt.str_str a t' b t
  | _=>exact absurd (show false=true from fx) Fw
 | _=>exact absurd (show false=true from fy) Fw
def fK(x:V)(u:Value):Bool:=match u with
 | .none=>f6 .non x
 | .bool b=>f6 (.bl b) x
 | .int i _=>f6 (.int i) x
 | .str z _=>f6 (.str z) x
 | _=>false
def vL{x y:V}{u:Value}(r:RelV y u)(f:eT y=true):fK x u=f6 y x:=by
 cases y with
 | non=>cases r;rfl
 | bl b=>cases r;rfl
 | int i=>obtain⟨t,rfl⟩:=r;rfl
 | str z=>obtain⟨t,rfl⟩:=r;rfl
 | _=>exact absurd (show false=true from f) Fw
def lZ{x:V}:∀{xs:List V} {us:List Value},Vals xs us->xs.all eT=true->us.any (fK x)=xs.any λy=>f6 y x
 | _,_,.nil,_=>rfl
 | y::xs,u::us,.cons r t,f=>by rw[List.all_cons,FV]at f;rw[List.any_cons,List.any_cons,vL r f.1,lZ t f.2]
def my{A:Around}{s:Shared}{x:V}{v:Value}(rx:RelV x v)(fx:eT x=true):∀{xs:List V} {us:List Value},Vals xs us->xs.all eT=true->∀u∈us,SeqAt.EqAt A s u v (fK x u)
 | _,_,.nil,_=>λu hu=>by cases hu
 | y::xs,u::us,.cons r t,f=>λu' hu=>by
  rw[List.all_cons,FV]at f;rcases Fv.mp hu with rfl|hu
  ·rw[vL r f.1];exact zO r rx f.1 fx
  ·exact my rx fx t f.2 u' hu
def iG(x:V)(xs:List V):Bool:=xs.any λy=>f6 y x
def m3(K:Fb)(neg:Bool):R2:=λx y H Q=>∃p xs,y=.ref p/\(ag K H p xs\/ah K H p xs)/\eT x=true/\xs.all eT=true/\Q (.bl (if neg then !iG x xs else iG x xs)) H
def Ag:bI X (compareOp .In) (m3 X.K false):=by
 intro pins s σ H x y v u Q I rx ry h;obtain⟨p,xs,rfl,hq,fx,fs,q⟩:=h;cases ry;rcases hq with hq|hq
 ·obtain⟨its,r,pl,hz⟩:=I.list hq;refine SeqAt.in_listAt (fK x) pl.isList (λw hw=>my rx fx r fs w (by simpa using hw)) ⟨.bl _,H,I,rfl,?_⟩;rw[show its.toArray.any (fK x)=its.any (fK x) by simp,lZ r fs];exact q
 ·obtain⟨its,r,pl,hz⟩:=I.tuple hq;refine SeqAt.in_tupleAt (fK x) pl (λw hw=>my rx fx r fs w (by simpa using hw)) ⟨.bl _,H,I,rfl,?_⟩;rw[show its.toArray.any (fK x)=its.any (fK x) by simp,lZ r fs];exact q
def Cq:ck X (.builtin "len") (λxs H Q=>∃p ys,xs=[.ref p]/\(ag X.K H p ys\/ah X.K H p ys)/\Q (.int ys.length) H):=by
 intro pins s σ H xs us Q I r h;obtain⟨p,ys,rfl,hq,q⟩:=h;obtain⟨u,rfl,rx⟩:=vals1 r;cases rx;have hn:=gR;rcases hq with hq|hq
 ·obtain⟨its,r',pl,hz⟩:=I.list hq;have hlen:=r'.length;exact Calls.call_len_list pl.isList (by simp only[Fl]<;>omega) ⟨.int ys.length,H,I.tok _,⟨s.toks+1,by rw[Fl,hlen]⟩,q⟩
 ·obtain⟨its,r',pl,hz⟩:=I.tuple hq;have hlen:=r'.length;exact len_tuple pl (by simp only[Fl]<;>omega) ⟨.int ys.length,H,I.tok _,⟨s.toks+1,by rw[Fl,hlen]⟩,q⟩
def yr:ck X (.builtin "len") (λxs H Q=>∃z,xs=[.str z]/\z.length<=sizeLine/\Q (.int z.length) H):=by intro pins s σ H xs us Q I r h;obtain⟨z,rfl,hz,q⟩:=h;obtain⟨u,rfl,t,rfl⟩:=vals1 r;have hn:=gR;exact len_str (by omega) ⟨.int z.length,H,I.tok _,⟨_,rfl⟩,q⟩
def Cc:ck X (.type "list") (λxs H Q=>∃p ys,xs=[.ref p]/\(ag X.K H p ys\/ah X.K H p ys)/\∀l,H l=none->Q (.ref l) (upd H l (.lst ys))):=by
 intro pins s σ H xs us Q I r h;obtain⟨p,ys,rfl,hq,q⟩:=h;obtain⟨u,rfl,rx⟩:=vals1 r;cases rx;have fin:∀(its:List Value),Vals ys its->ys.length<=sizeLine->∀(h':Heap) (c':Nat),(∀b o',s.heap.get? b=some o'->h'.get? b=some o') →
   h'.get? s.heap.objs.size=some { cls:=.type "list",dict:=none,data:=.seq its.toArray c',slots:=#[] }->EP X pins σ Q (.ref s.heap.objs.size) { s with heap:=h' }:=λits r' hz h' c' kp e=>
  ⟨.ref s.heap.objs.size,_,I.laid (t':=s.toks) kp (FA _) (show bC X.prog X.w _ h' _ (.lst ys)from⟨hz,its,c',r',e⟩),rfl,q _ (I.hok.fresh (FA _))⟩
 rcases hq with hq|hq
 ·obtain⟨its,r',pl,hz⟩:=I.list hq;have hlen:=r'.length;obtain⟨o,ho,hc,n,hd⟩:=pl.isList;exact call_list_seq p (.inl rfl) ho hc hd (λh' c' kp e=>fin its r' hz h' c' kp e) (by simp only[Fl]<;>omega)
 ·obtain⟨its,r',pl,hz⟩:=I.tuple hq;have hlen:=r'.length;obtain⟨o,ho,hc,n,hd⟩:=pl;exact call_list_seq p (.inr rfl) ho hc hd (λh' c' kp e=>fin its r' hz h' c' kp e) (by simp only[Fl]<;>omega)
def Aq:ck X (.type "tuple") (λxs H Q=>∃p ys,xs=[.ref p]/\((ag X.K H p ys/\∀l,H l=none->Q (.ref l) (upd H l (.tup ys)))\/(ah X.K H p ys/\Q (.ref p) H))):=by
 intro pins s σ H xs us Q I r h;obtain⟨p,ys,rfl,h⟩:=h;obtain⟨u,rfl,rx⟩:=vals1 r;cases rx;rcases h with⟨hq,q⟩|⟨hq,q⟩
 ·obtain⟨its,r',pl,hz⟩:=I.list hq;have hlen:=r'.length;refine call_tuple_list pl.isList (λh' kp=>?_) (by simp only[Fl]<;>omega);have I1:Inv X pins σ H { s with heap:=h' }:=I.kept (t':=s.toks) kp;have I2:Inv X pins σ (upd H h'.objs.size (.tup ys)) { s with heap:=h'.push { cls:=.type "tuple",data:=.seq its.toArray } }:=
   I1.laid (t':=s.toks) (λb o e=>Fc _ e) (FA _) (show bC X.prog X.w _ _ _ (.tup ys)from⟨hz,its,r',IsTup.new _ _⟩)
  exact⟨.ref h'.objs.size,_,I2,rfl,q _ (I1.hok.fresh (FA _))⟩
 ·obtain⟨its,r',pl,hz⟩:=I.tuple hq;exact call_tuple_same pl ⟨.ref p,H,I,rfl,q⟩
def ip(K:Fb)(T:String)(x:V)(H:Hp):Prop:=match x with
 | .str _=>T = "str"
 | .int _=>T = "int"
 | .ref p=>(T = "list"/\∃xs,ag K H p xs)\/(T = "tuple"/\∃o,K.lookup p=some o/\o.cls=.type "tuple"/\o.dict=none) ∨
   (T = "dict"/\((∃kvs,H p=some (.dK kvs))\/∃kvs,H p=some (.dT kvs)))\/(T = "set"/\∃S n,H p=some (.set S n))
 | _=>False
def AN{pins:List (Addr×Obj)}{σ:St}{H:Hp}{s:Shared}{T:String}{x:V}{v:Value}(I:Inv X pins σ H s)(r:RelV x v)(ty:ip X.K T x H):
  s.TypeIs v T/\∀a,v=.ref a->∃ob,s.heap.get? a=some ob/\ob.dict=none:=by
 cases x with
 | str z=>
  obtain⟨t,rfl⟩:=r;cases(show T = "str" from ty);exact⟨typeIs_str s z t,λ_ e=>nomatch e⟩
 | int i=>
  obtain⟨t,rfl⟩:=r;cases(show T = "int" from ty);exact⟨typeIs_int s i t,λ_ e=>nomatch e⟩
 | ref p=>
  cases r;rcases ty with⟨rfl,xs,hq⟩|⟨rfl,o,hk,hc,hd⟩|⟨rfl,hk⟩|⟨rfl,S,n,hk⟩
  ·obtain⟨its,_,pl,_⟩:=I.list hq;refine⟨pl.isList.typeIs,λa e=>?_⟩;cases e;obtain⟨o,n,e,c,hd,_⟩:=pl;exact⟨o,e,hd⟩
  ·refine⟨⟨o,I.kIn p o hk,hc⟩,λa e=>?_⟩;cases e;exact⟨o,I.kIn _ o hk,hd⟩
  ·have z:∃o,s.heap.get? p=some o/\o.ExactDict:=by
    rcases hk with⟨kvs,hk⟩|⟨kvs,hk⟩
    ·obtain⟨_,_,_,_,o,_,_,e,ex,_⟩:=I.hok p _ hk;exact⟨o,e,ex⟩
    ·obtain⟨_,_,_,_,o,_,_,e,ex,_⟩:=I.hok p _ hk;exact⟨o,e,ex⟩
   obtain⟨o,e,ex⟩:=z;refine⟨⟨o,e,ex.1⟩,λa e2=>?_⟩;cases e2;exact⟨o,e,ex.2.1⟩
  ·obtain⟨o,_,_,_,e,ex,_⟩:=I.hok p _ hk;refine⟨⟨o,e,ex.1⟩,λa e2=>?_⟩;cases e2;exact⟨o,e,ex.2.1⟩
 | _=>exact False.elim ty
def lS(K:Fb)(T:String)(r:V->List V->Hp->VK->Prop)(to:TE)(t:TA):TE:=λσ H Q=>to σ H λx H1=>ip K T x H1/\t σ H1 λxs H2=>r x xs H2 Q
variable {o e:Expr} {es:List Expr} {to:TE} {t:TA} {name:Str} {apos cpos:Pos} {T id:String} {r:V->List V->Hp->VK->Prop}
def Ay(pa:PlainAttrs T)(slot:Slot T name id)(hty:typeOf (.builtin id)=pure (.type "method_descriptor"))(hm:m7 X id r)(ho:PE X o to)(ha:PA X (e::es) t)
  (hbase:attributeBase o name X.env (eval o X.env)=eval o X.env:=by rfl)
  (hfew:((backTo cpos (starEach (e::es) X.env)).all (λx=>!x.1) && (backToKw cpos (keywordEach [] X.env)).all (λx=>x.1.isSome)
   && decide ((e::es).length+([]:List Keyword).length+(if([]:List Keyword).isEmpty then 0 else 1)<30))=true:=by rfl)
  (hline:(apos.endLine == cpos.line)=true:=by rfl) (hs:starEach (e::es) X.env=(false,eval e X.env)::starEach es X.env:=by rfl) (hplain:(backTo cpos (starEach es X.env)).any (·.1)=false:=by rfl) :
  PE X (.Call (.Attribute o name apos) (e::es) [] cpos) (lS X.K T r to t):=by
 intro pins s σ H Q I h;refine wpAny_Call_method_late hbase hfew hline rfl (aD (ho pins s σ H _ I h) λv s1 ⟨x,H1,I1,r1,ty,q1⟩=>?_);obtain⟨h1,h2⟩:=AN I1 r1 ty;refine⟨T,id,pa,slot,hty,h1,h2,?_⟩;have hA:=ha cpos pins s1 σ H1 _ I1 q1;rw[hs]at hA ⊢;refine Calls.callWith_builtin (by show(false || (backTo cpos (starEach es X.env)).any (·.1))=false;rw[hplain]<;>rfl) (Calls.evalArgs_plain ?_);exact aD hA λus s2 ⟨vs,H2,I2,r2,q2⟩=>hm pins s2 σ H2 x vs v us Q I2 r1 r2 q2
end
def p6(X:Cx)(id:String)(r:V->List V->Hp->VK->Prop):Prop:=
 ∀(pins:List (Addr×Obj)) (s:Shared) (σ:St) (H:Hp) (x:V) (xs:List V) (v:Value) (us:List Value) (Q:VK),Inv X pins σ H s->RelV x v->Vals xs us->r x xs H Q →
  wpAny (model X.prog X.w) X.A (call (.builtin id) (v::us)) (EP X pins σ Q) X.xe s
def Vals.one:∀{x:V} {us:List Value},Vals [x] us->∃u,us=[u]/\RelV x u:=vals1
def Vals.rep{xs:List V}{us:List Value}(h:Vals xs us):∀k:Nat,Vals (F0 k xs).flatten (F0 k us).flatten
 | 0=>.nil
 | k+1=>by rw[List.replicate_succ,List.replicate_succ,List.flatten_cons,List.flatten_cons];exact Vals.append h (Vals.rep h k)
def foldl_rep(its:List Value):∀(k:Nat) (acc:List Value),
  List.foldl (λx1 x2=>x1++x2) acc.toArray (F0 k its.toArray)=(acc++(F0 k its).flatten).toArray
 | 0,acc=>by simp
 | k+1,acc=>by
  have e:acc.toArray++its.toArray=(acc++its).toArray:=by simp
  have e2:(acc++its)++(F0 k its).flatten=acc++(F0 (k+1) its).flatten:=by rw[List.replicate_succ,List.flatten_cons,List.append_assoc]
  rw[←e2,←foldl_rep its k (acc++its),←e,List.replicate_succ,List.foldl_cons]
section
variable {X:Cx} {pins:List (Addr×Obj)} {σ:St} {H:Hp} {s:Shared} {l b:Addr} {xs ys zs:List V}
def Inv.lset{its its':List Value}{n:Nat}{f:Array Value->Array Value}{t':Nat}(I:Inv X pins σ H s)(hH:H l=some (.lst xs))
  (e:s.heap.get? l=some { cls:=.type "list",data:=.seq its.toArray n }) (hf:f its.toArray=its'.toArray) (hv:Vals ys its') (hz:ys.length<=sizeLine) :
  Inv X pins σ (upd H l (.lst ys)) { s with heap:=s.heap.update l (Obj.mapSeq f),toks:=t' }:=by
 have q:=PySem.IsL.update e f;rw[hf]at q;refine I.write (x:=l) (e:=l) (by rw[hH];exact trivial) (.inl rfl) (λb' u hb hu=>(Heap.get?_update_other s.heap (Obj.mapSeq f) (Ne.symm hb)).trans hu) ⟨_,q⟩ ?_;exact⟨hz,its',_,hv,q⟩
def Inv.lnew{its:List Value}{t':Nat}(I:Inv X pins σ H s)(hv:Vals ys its)(hz:ys.length<=sizeLine):
  Inv X pins σ (upd H s.heap.objs.size (.lst ys)) { s with heap:=s.heap.push { cls:=.type "list",data:=.seq its.toArray },toks:=t' }:=
 I.laid (λ_ _ q=>Fc _ q) (FA _) ⟨hz,its,0,hv,Fd _ rfl⟩
def Inv.fresh(I:Inv X pins σ H s):H s.heap.objs.size=none:=I.hok.fresh (FA _)
def Inv.lstM(I:Inv X pins σ H s)(hH:H l=some (.lst xs)):xs.length<=sizeLine/\∃(its:List Value) (n:Nat),Vals xs its/\xs.length=its.length/\s.heap.get? l=some { cls:=.type "list",data:=.seq its.toArray n }:=by obtain⟨z,its,n,r,e⟩:=I.hok l _ hH;exact⟨z,its,n,r,r.length,e⟩
def uo{n:Nat}(h:n<=sizeLine):Builtin.List.listTooLong n=false:=by unfold Builtin.List.listTooLong;exact F9 (by omega)
end
section
variable {X:Cx}
def wU:V->List V->Hp->VK->Prop:=λx vs H Q=>∃l xs y,x=.ref l/\vs=[y]/\H l=some (.lst xs)/\xs.length<sizeLine/\Q .non (upd H l (.lst (xs++[y])))
def bN:p6 X "list.append" wU:=by intro pins s σ H x vs v us Q I rx rv h;obtain⟨l,xs,y,rfl,rfl,hH,hz,q⟩:=h;cases rx;obtain⟨u,rfl,ru⟩:=rv.one;obtain⟨z,its,n,r,hl,e⟩:=I.lstM hH;refine call_meets F.slot_list_append ⟨_,e,rfl⟩ F.entry_list_append (F.args_list_append_2 _ _) (PySem.list_append l its.toArray n u (by rw[Fl];omega)) ⟨e,?_⟩;refine⟨.non,_,I.lset (its':=its++[u]) hH e (by simp) (r.append (.cons ru .nil)) ?_,rfl,q⟩;rw[Fy,List.length_singleton];omega
def EA:V->List V->Hp->VK->Prop:=λx vs H Q=>∃l b xs zs,x=.ref l/\vs=[.ref b]/\H l=some (.lst xs)/\H b=some (.lst zs)/\xs.length+zs.length<=sizeLine/\Q .non (upd H l (.lst (xs++zs)))
def Cg:p6 X "list.extend" EA:=by
 intro pins s σ H x vs v us Q I rx rv h;obtain⟨l,b,xs,zs,rfl,rfl,hH,hB,hz,q⟩:=h;cases rx;obtain⟨u,rfl,ru⟩:=rv.one;cases ru;obtain⟨z,its,n,r,hl,e⟩:=I.lstM hH;obtain⟨z2,its2,n2,r2,hl2,e2⟩:=I.lstM hB;have hsz:its.toArray.size+its2.toArray.size<=sizeLine:=by rw[Fl,Fl];omega
 have hlong:¬(!its.toArray.isEmpty && Builtin.List.listTooLong (its.toArray.size+its2.toArray.size))=true:=by rw[uo hsz,Bool.and_false];exact Fw
 refine call_meets F.slot_list_extend ⟨_,e,rfl⟩ F.entry_list_extend (F.args_list_extend_2 _ _)
  (AutoSeq1.list_extend_list_list_0 l its.toArray n b its2.toArray n2 hlong (by rw[Fl];omega) (by omega)) ⟨e,e2,?_⟩
 refine⟨.non,_,I.lset (its':=its++its2) hH e (by simp) (r.append r2) ?_,rfl,q⟩;rw[Fy];omega
def qW:R2:=λx y H Q=>∃l b xs zs,x=.ref l/\y=.ref b/\H l=some (.lst xs)/\H b=some (.lst zs)/\xs.length+zs.length<=sizeLine/\∀p,H p=none->Q (.ref p) (upd H p (.lst (xs++zs)))
def kE:bI X (binaryOp .Add) qW:=by
 intro pins s σ H x y v u Q I rx ry h;obtain⟨l,b,xs,zs,rfl,rfl,hH,hB,hz,q⟩:=h;cases rx;cases ry;obtain⟨z,its,n,r,hl,e⟩:=I.lstM hH;obtain⟨z2,its2,n2,r2,hl2,e2⟩:=I.lstM hB;refine PySem.P.add_list e e2 ?_ (by rw[Fl,Fl];omega);have ea:its.toArray++its2.toArray=(its++its2).toArray:=by simp
 rw[ea];exact⟨.ref _,_,I.lnew (t':=s.toks) (r.append r2) (by rw[Fy];omega),rfl,q _ I.fresh⟩
def vP:R2:=λx y H Q=>∃l k xs,x=.ref l/\y=.int k/\H l=some (.lst xs)/\-(2 ^ 63)<=k/\k<2 ^ 63/\xs.length*k.toNat<=sizeLine ∧
 ∀p,H p=none->Q (.ref p) (upd H p (.lst (F0 k.toNat xs).flatten))
def len_rep{α:Type}(xs:List α)(k:Nat):(F0 k xs).flatten.length=k*xs.length:=by
 induction k with
 | zero=>simp
 | succ k ih=>rw[List.replicate_succ,List.flatten_cons,Fy,ih,Nat.succ_mul,Nat.add_comm]
def pf:bI X (binaryOp .Mult) vP:=by
 intro pins s σ H x y v u Q I rx ry h;obtain⟨l,k,xs,rfl,rfl,hH,h1,h2,hz,q⟩:=h;cases rx;obtain⟨t,rfl⟩:=ry;obtain⟨z,its,n,r,hl,e⟩:=I.lstM hH;have hlen:its.toArray.size*k.toNat<=sizeLine:=by rw[Fl,←hl];exact hz
 have hcap:¬its.toArray.size*k.toNat>(2 ^ 63-1) / 8:=by
  have:(sizeLine:Nat)<=(2 ^ 63-1) / 8:=by decide
  omega
 have hfit:¬(!Builtin.List.listFitsIndex k)=true:=by rw[fitsIndex_both h1 h2];exact Fw
 have hlong:¬Builtin.List.listTooLong (its.toArray.size*k.toNat)=true:=by rw[uo hlen];exact Fw
 have hnew:List.foldl (λx1 x2=>x1++x2) #[] (F0 (if its.toArray.isEmpty=true then 0 else k.toNat) its.toArray)=(F0 k.toNat its).flatten.toArray:=by
  have f0:∀m:Nat,List.foldl (λx1 x2=>x1++x2) #[] (F0 m its.toArray)=(F0 m its).flatten.toArray:=λm=>by have:=foldl_rep its m [];rw[List.nil_append]at this;exact this
  rw[f0];cases its with
  | nil=>simp
  | cons a r'=>rw[Gb (by simp)]
 refine wpAny_binaryOp_repeat_ref (T:="list") (U:="int") (by decide) ⟨_,e,rfl⟩ (λs'=>typeIs_int s' k t) noFill_list_mul F.fills_int_mul F.slot_int_rmul repeat_list F.slot_int_index.lookup
  (call_meets F.slot_int_rmul (typeIs_int s k t) F.entry_int_rmul (F.args_int_rmul_2 _ _) (int___rmul___int_list k t l its.toArray n)
   ⟨e,rfl,⟨_,e,rfl⟩,call_meets F.slot_list_mul ⟨_,e,rfl⟩ F.entry_list_mul (F.args_list_mul_2 _ _) (AutoListH.list___mul___list_int_3 l its.toArray n k t hfit hcap hlong) ⟨e,?_⟩⟩)
 rw[hnew];exact⟨.ref _,_,I.lnew (t':=s.toks) (r.rep k.toNat) (by rw[len_rep,Nat.mul_comm];exact hz),rfl,q _ I.fresh⟩
end
section
variable {prog:Program} {w:World} {A:Around} {E:Value->Shared->Prop} {s:Shared}
end
section
variable {X:Cx}
end
end L2
namespace Att
open PySem PySem.W PySem.Calls PyProof.Rows
def Eh{P:Params}{h:Heap}:∀(ns:List Int) (vs:List Value),WellAll P h vs (ns.map WData.int)->IntsAre vs ns:=by
 intro ns;induction ns with
 | nil=>
  intro vs w;rw[List.map_nil]at w;cases w;exact .nil
 | cons n ns ih=>
  intro vs w;rw[List.map_cons]at w;cases w with
  | cons a b=>
   cases a;exact .cons _ _ (ih _ b)
def E2{l:OpenLaw}{n:Nat}(hn:l.most=some n){P:Params}{h:Heap}{args:List WData}{vals:List Value}
  (hpre:l.row.toRowW.claim.pre args=true) (hwl:WellAll P h vals args) :
  ∃a vs ns,vals=[Value.ref a]/\args=[WData.list (ns.map WData.int)]/\h.get? a=some { cls:=.type "list",data:=.seq vs.toArray }/\IntsAre vs ns/\ns.length<=n:=by
 have hsh:WShape.hasAll [] args [.list .int]=true:=(pre_splitW hpre).1;have hc:l.pre.holds [] { args:=args }=true:=(pre_splitW hpre).2;obtain⟨d,r,rfl,h1,h2⟩:=hasAllW_cons hsh;obtain rfl:=hasAllW_nil h2;obtain⟨xs,rfl,h3⟩:=hasW_list h1;obtain⟨ns,rfl⟩:=items_int h3;have hlen:ns.length<=n:=by
  unfold OpenLaw.pre at hc;have h4:(WTm.not (.lt (.lit (.int (n:Int))) (.len (.arg 0)))).holds [] { args:=[.list (ns.map .int)] }=true:=by have h4:=(holds_andW hc).1;rw[hn]at h4;exact h4
  have h5:=condW_of h4 (w_not (w_lt w_lit (w_len_list (w_arg rfl))));rw[Ff]at h5;refine Nat.le_of_not_lt λq=>?_;have q':(n:Int)<((ns.length:Nat):Int):=by omega
  first
   | (rw[Ga q']at h5;exact absurd h5 (by decide))
   | (simp at h5;omega)
 cases hwl with
 | cons w1 w2=>
  cases w2;cases w1 with
  | list ho hall=>exact⟨_,_,ns,rfl,rfl,ho,Eh ns _ hall,hlen⟩
def zV(l:OpenLaw)(args:List WData):l.row.toRowW.claim.post args (.bool true) args=true:=
 postW_of (r:=l.row.toRowW) (X:=(true == true))
  (show WShape.has [] (.bool true) .bool=true by first|rfl|decide|simp [WShape.has,WShape.arms,WShape.armsAll])
  (show(WTm.eq .res (.lit (.bool true))).value [] { args:=args,res:=some (.bool true),after:=args }=some (.bool (true == true))from w_eq_bool (w_res rfl) w_lit) rfl
def BO{l:OpenLaw}{n:Nat}{q:Program}{loose:List Str}{XP:(Str->Option Value)->Heap->Prop}{YP:World->Heap->Prop}{d:DefRec}
  (hn:l.most=some n) (hdf:d.params.defaults=[])
  (call:∀(w:World) (s₀ s₁:Shared) (mg mb:Str->Option Value) (fa:Addr) (o:Obj) (pm cd doc:Value) (a:Addr) (vs:List Value) (ns:List Int),
   Ground q loose [] XP w s₀ mg mb s₁.heap->YP w s₁.heap →
   s₁.heap.get? fa=some o->o.data=.func (docDef d.name d.params d.body d.scope pm cd doc)->s₁.heap.CodeRec cd d.name->mg d.name=some (.ref fa) →
   s₁.heap.get? a=some { cls:=.type "list",data:=.seq vs.toArray }->IntsAre vs ns->ns.length<=n->s₁.gens = #[] →
   codeAny (model l.prog w) callerA (.call (.ref fa) ⟨[.ref a],[]⟩) (λr s'=>r=.ok (.ret (.bool true))/\OldK s₁.heap s'.heap/\s'.os=s₁.os/\AllBare s'.gens) s₁) :
  WalkO q loose XP YP l.row.toRowW d [] (λf vs=>PySem.call f vs):=by
 intro w s₀ s₁ mg mb G Y fa o pm cd doc dV kV ho hd hcd hD hmg hg args vals as hpre hlay hrd hwl hlo;obtain rfl:dV=.none:=Dflts.none hD hdf;obtain rfl:kV=.none:=Dflts.noKw hD;obtain⟨a,vs,ns,rfl,rfl,hobj,hints,hlen⟩:=E2 hn hpre hwl;refine enter_call (codeAny_mono (call w s₀ s₁ mg mb fa o pm cd doc a vs ns G Y ho (fd_plain hd) hcd hmg hobj hints hlen hg) λr s' hq=>?_);obtain⟨rfl,h2,h3,h4⟩:=hq;exact⟨.inl ⟨.bool true,.bool true,[],rfl,λ_=>rfl,.bool true,zV l _,λ_=>⟨List.Pairwise.nil,λ_ hm=>(nomatch hm)⟩⟩,h2,h3,h4⟩
section
variable {prog:Program} {w:World} {A:Around} {E:Value->Shared->Prop} {s:Shared} {K:Frag}
end
end Att
namespace L2
open PySem PySem.Spec PyProof.Rows
def vQ:∀{vs:List Value} {ns:List Int},IntsAre vs ns->Vals (ns.map V.int) vs
 | _,_,.nil=>.nil
 | _,_,.cons n t h=>.cons ⟨t,rfl⟩ (vQ h)
def gm(s:Stmt):Arguments:=match s with
 | .FunctionDef _ a _ _ _ _ _ _ _ _=>a
 | _=>{ posonlyargs:=[],args:=[],vararg:=none,kwonlyargs:=[],kw_defaults:=[],kwarg:=none,defaults:=[] }
def eL(s:Stmt):List Stmt:=match s with
 | .FunctionDef _ _ b _ _ _ _ _ _ _=>b
 | _=>[]
def aH(s:Stmt):Scope:=match s with
 | .FunctionDef _ _ _ _ _ _ sc _ _ _=>sc
 | _=>{ kind:=.function,names:=[],isGenerator:=false,isCoroutine:=false }
abbrev dX:fA:=λ_ _ _ _ _ _=>False
abbrev E0:XK:=λ_ _ _=>False
def DN{X:Cx}:Passes dX X E0:=λ_ _ _ _ _ _ _ h=>h.elim
structure Fun(K:Fb)(x qual:Str)(st:Stmt)(f:Addr)(fd:FuncData):Prop where
 ex:∃(oc:Value) (od:Option Addr) (kV doc pm:Value) (an:Option Addr) (cdv ct:Value) (osl:Array (Option Value)),
  fd=PySem.W.fnOf x qual (gm st) (eL st) (aH st) .none kV doc pm an cdv ct/\K.lookup f=some ⟨oc,od,.func fd,osl⟩/\PySem.W.codeIn K cdv qual=true
 kp:PySem.W.keepIn K (.ref f)=true
section
variable {P:Program} {w:World} {K:Fb} {mg:Str->Option Value} {base:Heap}
def Fun.ok{x qual:Str}{st:Stmt}{f:Addr}{fd:FuncData}{N ps:List Str}{k:Nat}{sp:Sp}(F:Fun K x qual st f fd)(S:FnScope N ps (aH st))(len:∀vs H Q E,sp vs H Q E->vs.length=ps.length)
  (hbody:∀(cdv:Value) (A:Around) (outer:List Env) (s:Shared) (H:Hp) (vs:List V) (Q:VK) (E:XK),Room k (A.deeper (envOfC qual (aH st) s.heap.objs.size f cdv))->sp vs H Q E →
   ∃t,cS (f9 dX P w K mg base N qual (aH st) f cdv A outer s H E).nox (eL st) t/\t { nx:=λ_ H'=>Q .non H',rt:=Q } (start N vs) H):FnOk P w K mg base dX (k+1) f fd ps sp:=by
 obtain⟨oc,od,kV,doc,pm,an,cdv,ct,osl,rfl,lk,hcd⟩:=F.ex;refine uM lk hcd S len λA outer s H vs Q E hr hsp=>?_;obtain⟨t,h,q⟩:=hbody cdv A outer s H vs Q E hr hsp;exact⟨t,h.nox,q⟩
def Fun.binds{x qual:Str}{st:Stmt}{f:Addr}{fd:FuncData}{ps:List Str}(F:Fun K x qual st f fd)
  (h:∀(kV doc pm:Value) (an:Option Addr) (cdv ct:Value) (us:List Value),us.length=ps.length->bindArgs (PySem.W.fnOf x qual (gm st) (eL st) (aH st) .none kV doc pm an cdv ct) ⟨us,[]⟩=pure (ps.zip us)):Binds K fd ps []:=by
 obtain⟨oc,od,kV,doc,pm,an,cdv,ct,osl,rfl,lk,hcd⟩:=F.ex;exact .all (h kV doc pm an cdv ct)
def qN{x qual:Str}{st:Stmt}{f:Addr}{oc:Value}{od an:Option Addr}{osl:Array (Option Value)}{kV doc pm cdv ct:Value}(l:K.lookup f=some ⟨oc,od,.func (PySem.W.fnOf x qual (gm st) (eL st) (aH st) .none kV doc pm an cdv ct),osl⟩)
  (c:PySem.W.codeIn K cdv qual=true) (k:PySem.W.keepIn K (.ref f)=true):Fun K x qual st f (PySem.W.fnOf x qual (gm st) (eL st) (aH st) .none kV doc pm an cdv ct):=⟨⟨oc,od,kV,doc,pm,an,cdv,ct,osl,rfl,l,c⟩,k⟩
end
def dw{A:Around}{k:Nat}(hr:Room k A):A.units+1<cLine:=Nat.lt_of_le_of_lt (Nat.add_le_add_left (by decide:1<=64) _) hr.units
section
variable {X:Cx}
def pv(i:Nat){x:Str}{pos:Pos}(hN:X.N[i]?=some x:=by rfl)(hv:j2 X.env.scope x:=by first|exact Or.inl rfl|exact Or.inr (Or.inl rfl)|exact Or.inr (Or.inr rfl))(hd:(x == ("__debug__":Str))=false:=by decide)
  (hcd:(x == ("__classdict__":Str))=false:=by decide):PE X (.Name x pos) (nO i):=AD hN hv hd hcd
end
def az{A B:Prop}(h:B):if false=true then A else B:=by rw[Gb Fw];exact h
def aG{A B:Prop}(h:A):if true=true then A else B:=by rw[Ge rfl];exact h
def fE{c A B:Prop}[Decidable c](h1:c->A)(h2:¬c->B):if c then A else B:=by
 by_cases h:c
 ·rw[Ge h];exact h1 h
 ·rw[Gb h];exact h2 h
structure Blk where
 s:Shared
 H:Hp
 fp:List Addr
 C:Addr
def dy(names:List (Str×NameKind))(cells:List (Str×Addr)):List (Str×Addr):=
 names.foldl (λacc p=>if p.2 == .free then(p.1,(cells.lookup p.1).getD 0)::acc else acc) []
def Ef(sc out:Scope):Bool:=sc.names.all λp=>p.2 != .cell && (p.2 != .local || sc.names.lookup p.1 == some .local) && (p.2 != .free || out.names.lookup p.1 == some .cell || out.names.lookup p.1 == some .free)
def jS(sc:Scope)(N:List Str)(js:List Nat):Bool:=js.all λj=>decide (j<N.length) && (sc.names.lookup (N.getD j "") == some .free)
def dv(n:Nat)(js:List Nat)(σ:St):St:=F0 n none++js.map λj=>(σ[j]?).join
def j4(cells:List (Str×Addr)):∀(names:List (Str×NameKind)) (acc:List (Str×Addr)) (x:Str) (c:Addr),
  (names.foldl (λacc p=>if p.2 == .free then(p.1,(cells.lookup p.1).getD 0)::acc else acc) acc).lookup x=some c →
  ((x,NameKind.free)∈names/\c=(cells.lookup x).getD 0)\/acc.lookup x=some c
 | [],acc,x,c,h=>.inr h
 | (n,k)::r,acc,x,c,h=>by
  rw[List.foldl_cons]at h;rcases j4 cells r _ x c h with⟨h1,h2⟩|h1
  ·exact .inl ⟨Fi _ h1,h2⟩
  ·cases hk:(k == NameKind.free)with
   | false=>
    simp only[hk]at h1;exact .inr h1
   | true=>
    simp only[hk,if_true]at h1;rw[F4]at h1;cases hx:(x == n)with
    | false=>rw[hx]at h1;exact .inr h1
    | true=>
     rw[hx]at h1;have e1:x=n:=by simpa using hx
     have e2:k=.free:=by simpa using hk
     subst e1 e2;exact .inl ⟨Fm,(FX h1).symm⟩
def qZ(cells:List (Str×Addr)):∀(names:List (Str×NameKind)) (acc:List (Str×Addr)) (x:Str),
  ((x,NameKind.free)∈names\/(acc.lookup x).isSome=true)->((names.foldl (λacc p=>if p.2 == .free then(p.1,(cells.lookup p.1).getD 0)::acc else acc) acc).lookup x).isSome=true
 | [],acc,x,h=>by
  rcases h with h|h
  ·simp at h
  ·exact h
 | (n,k)::r,acc,x,h=>by
  rw[List.foldl_cons];apply qZ cells r;rcases h with h|h
  ·rcases Fv.mp h with e|h
   ·right;cases e;simp[F4]
   ·exact .inl h
  ·right;cases hk:(k == NameKind.free)with
   | false=>simpa[hk]using h
   | true=>
    simp only[hk,if_true,F4];cases hx:(x == n)with
    | true=>rfl
    | false=>exact h
def oq{env:Env}{sc:Scope}(h:∀p∈sc.names,p.2=.free->∃c,env.cells.lookup p.1=some c):closureFor sc env=pure (dy sc.names env.cells):=by
 have go:∀(names:List (Str×NameKind)) (acc:List (Str×Addr)),(∀p∈names,p.2=NameKind.free->∃c,env.cells.lookup p.1=some c) →
   (forIn names acc λ(p:Str×NameKind) (r:List (Str×Addr))=>(match p with|(name,kind)=>if(kind == NameKind.free)=true then do let c ←cellOf env name;pure (ForInStep.yield ((name,c)::r))else pure (ForInStep.yield r):Sem _)) =
   pure (names.foldl (λacc p=>if p.2 == .free then(p.1,(env.cells.lookup p.1).getD 0)::acc else acc) acc):=by
  intro names;induction names with
  | nil=>intro acc _;rfl
  | cons p r ih=>
   intro acc hp;obtain⟨n,k⟩:=p;rw[List.forIn_cons,List.foldl_cons];cases hk:(k == NameKind.free)with
   | false=>
    simp only[hk,F1,if_false];exact ih acc λq hq=>hp q (Fi _ hq)
   | true=>
    obtain⟨c,hc⟩:=hp (n,k) Fm (by simpa using hk);have e:cellOf env n=pure c:=by unfold cellOf;rw[show env.cells.lookup n=some c from hc]
    simp only[hk,if_true,e];have hc':env.cells.lookup n=some c:=hc;rw[hc'];exact ih _ λq hq=>hp q (Fi _ hq)
 unfold closureFor dy;have:=go sc.names [] h;simp only[this];rfl
def jy(X:Cx)(ifs:List Expr)(t:TT):Prop:=
 ∀(pins:List (Addr×Obj)) (s:Shared) (σ:St) (H:Hp) (Q:Bool->Hp->Prop),Inv X pins σ H s->t σ H Q →
  wpAny (model X.prog X.w) X.A (forIn ifs true λc r=>if r=true then do let ok ←isTrue c X.env (eval c X.env);pure (ForInStep.yield ok)else pure (ForInStep.yield r)) (TP X pins σ Q) X.xe s
def rZ:TT:=λ_ H Q=>Q true H
def dR{X:Cx}:jy X [] rZ:=λ_ _ _ H _ I h=>wpAny_tests_nil ⟨H,I,h⟩
def eF{X:Cx}{c:Expr}{t:TT}(h:PT X c t):jy X [c] t:=λpins s σ H Q I hq=>wpAny_tests_one (h pins s σ H Q I hq)
def zJ{prog:Program}{w:World}{A:Around}{R:Result->Shared->Prop}{t0:Shared}{elt tgt iter:Expr}{ifs:List Expr}{sc:Scope}{ps:Pos}{itv acc:Value}{ce:Env}(Wd:Nat->Shared->Prop)
  (step:∀k t,Wd k t->wpAny (model prog w) A (pyNext itv) (λgot t1=>
   match got with
   | none=>R (.ok .next) t1
   | some u=>wpAny (model prog w) A (letOwnedTupleGo tgt itv u) (λ_ t2=>wpAny (model prog w) A (assign tgt ce u) (λ_ t3=>
     wpAny (model prog w) A (forIn ifs true λc r=>if r=true then do let ok ←isTrue c ce (eval c ce);pure (ForInStep.yield ok)else pure (ForInStep.yield r)) (λyes t4=>
      if yes=true then wpAny (model prog w) A (eval elt ce) (λval t5=>wpAny (model prog w) A (call (.builtin "list.append") [acc,val]) (λ_ t6=>∃m,m<k/\Wd m t6) (λ_ _=>False) t5) (λ_ _=>False) t4
      else ∃m,m<k/\Wd m t4) (λ_ _=>False) t3) (λ_ _=>False) t2) (λ_ _=>False) t1) (λ_ _=>False) t)
  (k0:Nat) (start:Wd k0 t0):codeAny (model prog w) A (.compLoop (.ListComp elt [⟨tgt,iter,ifs,0⟩] sc ps) 0 itv acc ce) R t0:=by
 refine codeAny_loop rfl Wd (λk t hW=>?turn) k0 start
 case turn=>
  have nox:∀{α:Type} {m:Sem α} {Q:α->Shared->Prop} {E:Value->Shared->Prop} {z:Shared},wpAny (model prog w) A m Q (λ_ _=>False) z->wpAny (model prog w) A m Q E z:=λh=>wpAny_mono h (λ_ _ q=>q) λ_ _ f=>f.elim;show wpAny _ A ((compTurn (.ListComp elt [⟨tgt,iter,ifs,0⟩] sc ps) 0 itv acc ce).onRaise (λx=>do noteFrame x ce;theTreesLotGoes x)) _ _ t;apply wpAny_noted;rw[compTurn_list];refine E8 (wpAny_standAt (E8 (nox (wpAny_mono (step k t hW) (λgot t1 h1=>?_) λ_ _ f=>f))));cases got with
  | none=>exact E9 h1
  | some u=>
   refine E8 (nox (wpAny_mono h1 (λ_ t2 h2=>?_) λ_ _ f=>f));refine E8 (nox (wpAny_mono h2 (λ_ t3 h3=>?_) λ_ _ f=>f));refine E8 (nox (wpAny_mono h3 (λyes t4 h4=>?_) λ_ _ f=>f));cases yes with
   | false=>
    rw[Gb Fw]at h4;exact E9 ⟨rfl,h4⟩
   | true=>
    rw[Ge rfl]at h4;refine E8 (E8 (nox (wpAny_mono h4 (λval t5 h5=>?_) λ_ _ f=>f)));exact E8 (nox (wpAny_mono h5 (λ_ t6 h6=>E9 (E9 ⟨rfl,h6⟩)) λ_ _ f=>f))
section
variable {X:Cx} {pins:List (Addr×Obj)} {σ:St} {H:Hp} {s:Shared}
def eB(its:List Value)(n:Nat):Obj:={ cls:=.type "list",data:=.seq its.toArray n }
def E7{sc out:Scope}(h:Ef sc out=true){p:Str×NameKind}(hp:p∈sc.names)(hf:p.2=.free):out.names.lookup p.1=some .cell\/out.names.lookup p.1=some .free:=by have:=FR.mp h p hp;simp only[hf,FV,Bool.or_eq_true,beq_iff_eq,bne_iff_ne,ne_eq,not_true,false_or]at this;exact this.2
def jN{sc:Scope}{env:Env}{x:Str}:∀{names:List (Str×NameKind)} {k:NameKind},(names.map λ(p:Str×NameKind)=>match p with|(n,k)=>if(k == NameKind.free && env.scope.kind == .function && env.kindOf n == some .cell)then(n,NameKind.cell)else(n,k)).lookup x=some k →
  ∃k',names.lookup x=some k'/\(k'=k\/(k'=.free/\k=.cell))
 | [],_,h=>by simp at h
 | (n,q)::r,k,h=>by
  rw[List.map_cons]at h;rw[F4];cases hx:(x == n)with
  | true=>
   refine⟨q,rfl,?_⟩;by_cases hc:(q == NameKind.free && env.scope.kind == .function && env.kindOf n == some .cell)=true
   ·simp only[hc,if_true,F4,hx]at h;right;simp only[FV,beq_iff_eq]at hc;exact⟨hc.1.1,(FX h).symm⟩
   ·left;have h2:List.lookup x ((n,q)::(r.map λ(p:Str×NameKind)=>match p with|(n,k)=>if(k == NameKind.free && env.scope.kind == .function && env.kindOf n == some .cell)then(n,NameKind.cell)else(n,k)))=some k:=by have h3:=h;dsimp only at h3;rw[Gb hc]at h3;exact h3
    rw[F4,hx]at h2;exact FX h2
  | false=>
   have:List.lookup x (r.map λ(p:Str×NameKind)=>match p with|(n,k)=>if(k == NameKind.free && env.scope.kind == .function && env.kindOf n == some .cell)then(n,NameKind.cell)else(n,k))=some k:=by
    by_cases hc:(q == NameKind.free && env.scope.kind == .function && env.kindOf n == some .cell)=true
    ·simpa only[hc,if_true,F4,hx]using h
    ·dsimp only at h;rw[Gb hc,F4,hx]at h;exact h
   exact jN (sc:=sc) this
def iz{names:List (Str×NameKind)}{x:Str}{k:NameKind}(h:names.lookup x=some k):(x,k)∈names:=PySem.mem_of_lookup h
def uQ{sc:Scope}{x:Str}{cells:List (Str×Addr)}(h:(x,NameKind.free)∈sc.names):∃c,(dy sc.names cells).lookup x=some c:=
 Option.isSome_iff_exists.mp (qZ cells sc.names [] x (.inl h))
def Inv.stk_lt(I:Inv X pins σ H s){b:Addr}(hb:b∈du X.stack):b<s.heap.objs.size:=by
 rcases Fv.mp (I.stkSub b hb)with e|h
 ·rw[e];exact I.lt
 ·obtain⟨_,o,ho,_⟩:=I.ok.funs.mem h;exact FO (Fe ho) I.sz
def Inv.cell_lt(I:Inv X pins σ H s){x:Str}{c:Addr}(h:X.env.cells.lookup x=some c):c<s.heap.objs.size:=by obtain⟨v,q⟩:=I.cell x c h;exact q.lt
def Inv.pin_lt(I:Inv X pins σ H s){p:Addr×Obj}(h:p∈X.pn++pins):p.1<s.heap.objs.size:=Fe (I.pin p h).1
def tY{n:Nat}{js:List Nat}{i:Nat}{v:V}(h:(dv n js σ)[i]?=some (some v)):∃k j,i=n+k/\js[k]?=some j/\σ[j]?=some (some v):=by
 unfold dv at h;by_cases hi:i<n
 ·rw[FH (by simpa using hi),List.getElem?_replicate]at h;split at h<;>cases h
 ·rw[FG (by simpa using Nat.le_of_not_lt hi),List.length_replicate,Fh]at h;cases e:js[i-n]? with
  | none=>rw[e]at h;cases h
  | some j=>
   rw[e]at h;refine⟨i-n,j,by omega,e,?_⟩;have h':(σ[j]?).join=some v:=by simpa using h
   cases q:σ[j]? with
   | none=>rw[q]at h';cases h'
   | some o=>
    rw[q]at h';have:o=some v:=h';rw[this]
def gD(J:It)(n:Nat)(js:List Nat)(g:TG)(tc:TT)(te:TE)(σ:St)(H:Hp)(Q:VK):Prop:=
 ∃W:Nat->Nat->List V->Hp->Prop,(∃m,W 0 m [] H)/\∀i m ys H',W i m ys H' →
  (J.stop i H'/\∀p,H' p=none->Q (.ref p) (upd H' p (.lst ys))) ∨
  (J.go i H'/\ys.length<sizeLine/\∃N:List V->Hp->Prop,(∀ys' H2,N ys' H2->∃m',m'<m/\W (i+1) m' ys' H2)/\∀x H2,J.yld i H' x H2->g x (dv n js σ) H2 λσ2 H3=>tc σ2 H3 λb H4=>
   if b=true then te σ2 H4 λv H5=>N (ys++[v]) H5 else N ys H4)
def nA(n:Nat)(js:List Nat)(wi:TI)(g:TG)(tc:TT)(te:TE):TE:=λσ H Q=>wi σ H λJ H1=>gD J n js g tc te σ H1 Q
structure TurnAt(X:Cx)(tg:Expr)(J:It)(fp:List Addr)(it:Addr)(tn:Nat->Heap->Prop):Prop where
 obj:∀i h,tn i h->∀b∈fp,∃o,h.get? b=some o/\∀v,o.data≠.cell v
 keep:∀i h h',tn i h->(∀b∈fp,∀o,h.get? b=some o->h'.get? b=some o)->tn i h'
 item:∀(i:Nat) (pins:List (Addr×Obj)) (s:Shared) (σ:St) (H:Hp) (E:Value->Shared->Prop),Inv X pins σ H s->(∀b∈fp,b6 X pins H b)->tn i s.heap->J.go i H →
  wpAny (model X.prog X.w) X.A (pyNext (.ref it)) (λr s1=>∃u,r=some u ∧
   wpAny (model X.prog X.w) X.A (letOwnedTupleGo tg (.ref it) u) (λ_ s2=>∃x H',Inv X pins σ H' s2/\RelV x u/\J.yld i H x H'/\tn (i+1) s2.heap/\∀b∈fp,H' b=none) E s1) E s
 done:∀(i:Nat) (pins:List (Addr×Obj)) (s:Shared) (σ:St) (H:Hp) (E:Value->Shared->Prop),Inv X pins σ H s->(∀b∈fp,b6 X pins H b)->tn i s.heap->J.stop i H →
  wpAny (model X.prog X.w) X.A (pyNext (.ref it)) (λr s1=>r=none/\Inv X pins σ H s1) E s
 self:∀(A:Around) (i:Nat) (s:Shared) (Q:Value->Shared->Prop) (E:Value->Shared->Prop),tn i s.heap->Q (.ref it) s->wpAny (model X.prog X.w) A (pyIter (.ref it)) Q E s
def Turn.at_{Y:Cx}{tg:Expr}{J:It}{fp:List Addr}{it:Addr}{tn:Nat->Heap->Prop}(T:Turn Y.prog Y.w Y.K tg J fp it tn)(hc:Y.calm=true):TurnAt Y tg J fp it tn:=⟨T.obj,T.keep,T.item Y rfl rfl rfl hc,T.done Y rfl rfl rfl hc,T.self⟩
end
def fD{K:Fb}{a:Addr}{xs:List V}{n:Nat}{js:List Nat}{g:TG}{tc:TT}{te:TE}{Q:VK}{σ:St}{H:Hp}(Pv:Nat->List V->Hp->Prop)(hz:xs.length<=sizeLine)(h0:Pv 0 [] H)(hl:∀i ys H,i<=xs.length->Pv i ys H->ag K H a xs/\ys.length<=i)
  (hs:∀i x ys H,xs[i]?=some x->Pv i ys H->g x (dv n js σ) H λσ2 H3=>tc σ2 H3 λb H4=>if b=true then te σ2 H4 λv H5=>Pv (i+1) (ys++[v]) H5 else Pv (i+1) ys H4)
  (hd:∀ys H p,Pv xs.length ys H->H p=none->Q (.ref p) (upd H p (.lst ys))):gD (dA K a) n js g tc te σ H Q:=by
 refine⟨λi m ys H=>m=xs.length-i/\i<=xs.length/\Pv i ys H,⟨xs.length,by simp,Nat.zero_le _,h0⟩,?_⟩;rintro i m ys H ⟨rfl,hi,p⟩;have q:=hl i ys H hi p;by_cases hlt:i<xs.length
 ·refine .inr ⟨⟨xs,xs[i],q.1,by simp[hlt]⟩,by have:=q.2;omega,Pv (i+1),λys' H' p'=>⟨xs.length-(i+1),by omega,rfl,hlt,p'⟩,λx H' y=>?_⟩;obtain⟨e,y⟩:=y;subst e;exact hs i x ys _ (y xs q.1) p
 ·have e:i=xs.length:=by omega
  subst e;exact .inl ⟨⟨xs,q.1,FA _⟩,λp' hp=>hd ys H p' p hp⟩
def jG{K:Fb}{a:Addr}{xs:List V}{n:Nat}{js:List Nat}{g:TG}{tc:TT}{te:TE}{Q:VK}{σ:St}{H:Hp}(Pv:Nat->List V->Hp->Prop)(hz:xs.length<=sizeLine)(h0:Pv 0 [] H)(hl:∀i ys H,i<=xs.length->Pv i ys H->ah K H a xs/\ys.length<=i)
  (hs:∀i x ys H,xs[i]?=some x->Pv i ys H->g x (dv n js σ) H λσ2 H3=>tc σ2 H3 λb H4=>if b=true then te σ2 H4 λv H5=>Pv (i+1) (ys++[v]) H5 else Pv (i+1) ys H4)
  (hd:∀ys H p,Pv xs.length ys H->H p=none->Q (.ref p) (upd H p (.lst ys))):gD (cK K a) n js g tc te σ H Q:=by
 refine⟨λi m ys H=>m=xs.length-i/\i<=xs.length/\Pv i ys H,⟨xs.length,by simp,Nat.zero_le _,h0⟩,?_⟩;rintro i m ys H ⟨rfl,hi,p⟩;have q:=hl i ys H hi p;by_cases hlt:i<xs.length
 ·refine .inr ⟨⟨xs,xs[i],q.1,by simp[hlt]⟩,by have:=q.2;omega,Pv (i+1),λys' H' p'=>⟨xs.length-(i+1),by omega,rfl,hlt,p'⟩,λx H' y=>?_⟩;obtain⟨e,y⟩:=y;subst e;exact hs i x ys _ (y xs q.1) p
 ·have e:i=xs.length:=by omega
  subst e;exact .inl ⟨⟨xs,q.1,FA _⟩,λp' hp=>hd ys H p' p hp⟩
def fP{lo:Int}{N n:Nat}{js:List Nat}{g:TG}{tc:TT}{te:TE}{Q:VK}{σ:St}{H:Hp}(Pv:Nat->List V->Hp->Prop)(hz:N<=sizeLine)(h0:Pv 0 [] H)(hl:∀i ys H,i<=N->Pv i ys H->ys.length<=i)
  (hs:∀i ys H,i<N->Pv i ys H->g (.int (lo+i)) (dv n js σ) H λσ2 H3=>tc σ2 H3 λb H4=>if b=true then te σ2 H4 λv H5=>Pv (i+1) (ys++[v]) H5 else Pv (i+1) ys H4)
  (hd:∀ys H p,Pv N ys H->H p=none->Q (.ref p) (upd H p (.lst ys))):gD (dS lo N) n js g tc te σ H Q:=by
 refine⟨λi m ys H=>m=N-i/\i<=N/\Pv i ys H,⟨N,by simp,Nat.zero_le _,h0⟩,?_⟩;rintro i m ys H ⟨rfl,hi,p⟩;have q:=hl i ys H hi p;by_cases hlt:i<N
 ·refine .inr ⟨hlt,by omega,Pv (i+1),λys' H' p'=>⟨N-(i+1),by omega,rfl,hlt,p'⟩,λx H' y=>?_⟩;obtain⟨e,y⟩:=y;subst e y;exact hs i ys _ hlt p
 ·have e:i=N:=by omega
  subst e;exact .inl ⟨FA _,λp' hp=>hd ys H p' p hp⟩
structure Cal(P:Program)(w:World)(K:Fb)(mg:Str->Option Value)(base:Heap)(x:Str)(k:Nat)(ps:List Str)(sp:Sp):Prop where
 ex:∃(f:Addr) (fd:FuncData),mg x=some (.ref f)/\PySem.W.keepIn K (.ref f)=true/\Binds K fd ps []/\FnOk P w K mg base dX k f fd ps sp
structure Dfn(K:Fb)(mg:Str->Option Value)(x:Str)(st:Stmt)(ps:List Str):Prop where
 ex:∃(f:Addr) (fd:FuncData),mg x=some (.ref f)/\Fun K x x st f fd/\Binds K fd ps []
section
variable {P:Program} {w:World} {K:Fb} {mg:Str->Option Value} {base:Heap}
def Dfn.ok{x:Str}{st:Stmt}{N ps:List Str}{k:Nat}{sp:Sp}(D:Dfn K mg x st ps)(S:FnScope N ps (aH st))(len:∀vs H Q E,sp vs H Q E->vs.length=ps.length)
  (hbody:∀(X:Cx) (hX:∃f cdv A outer s H E,X=(f9 dX P w K mg base N x (aH st) f cdv A outer s H E).nox/\Room k X.A) (H:Hp) (vs:List V) (Q:VK) (E:XK),sp vs H Q E →
   ∃t,cS X (eL st) t/\t { nx:=λ_ H'=>Q .non H',rt:=Q } (start N vs) H):Cal P w K mg base x (k+1) ps sp:=by
 obtain⟨f,fd,hm,F,hb⟩:=D.ex;exact⟨f,fd,hm,F.kp,hb,F.ok S len λcdv A outer s H vs Q E hr h=>hbody _ ⟨f,cdv,A,outer,s,H,E,rfl,hr⟩ H vs Q E h⟩
end
section
variable {X:Cx}
def aB{x:Str}{k j:Nat}{ps:List Str}{sp:Sp}{e:Expr}{es:List Expr}{t:TA}{p pos:Pos}(C:Cal X.prog X.w X.K X.mg X.base x j ps sp)(hr:Room k X.A)(ha:PA X (e::es) t)(hjk:j<=k:=by decide)(hg:Gl X x:=by rfl)(hdb:(x == ("__debug__":Str))=false:=by decide)
  (he:starEach (e::es) X.env=(false,eval e X.env)::starEach es X.env:=by rfl) (hpl:(backTo pos (starEach es X.env)).any (·.1)=false:=by rfl) :
  PE X (.Call (.Name x p) (e::es) [] pos) (ko sp [] E0 t):=by
 obtain⟨f,fd,hm,hk,hb,F⟩:=C.ex;exact yY F (hr.mono hjk) hg hm hk hb .nil DN ha hdb he hpl
def uS:bI X (binaryOp .FloorDiv) (rI (λ_ j=>0<j/\j<2 ^ 64) λi j=>.int (i / j)):=kI λi j _ _ _ _ _ hc q=>by
 have h1:(0:Int)<j:=hc.1;have h2:j<2 ^ 64:=hc.2;refine floordiv_int (by omega) (by rw[Int.fdiv_eq_ediv_of_nonneg i (by omega)];exact q) (.inl (PyProof.noPylong_of_log2 ?_));have h0:j.natAbs≠0:=by omega
 have h64:j.natAbs<2 ^ 64:=by omega
 have:=(Nat.log2_lt h0).mpr h64;omega
def fi(H:Hp):V->String->Prop
 | .non,n=>n = "NoneType"
 | .bl _,n=>n = "bool"
 | .int _,n=>n = "int"
 | .str _,n=>n = "str"
 | .ref a,n=>(n = "list"/\∃xs,H a=some (.lst xs))\/(n = "tuple"/\∃xs,H a=some (.tup xs))
 | _,_=>False
def fi.ty{K:Fb}{H:Hp}{x:V}{n:String}(h:fi H x n):TyOf K H x (.type n):=by
 cases x with
 | non=>cases(show n = "NoneType" from h);exact .non
 | bl b=>cases(show n = "bool" from h);exact .bl b
 | int i=>cases(show n = "int" from h);exact .int i
 | str z=>cases(show n = "str" from h);exact .str z
 | ref a=>
  rcases h with⟨rfl,xs,e⟩|⟨rfl,xs,e⟩
  ·exact .lst e
  ·exact .tup e
 | _=>exact False.elim h
def gW(a b c d e:Bool):String->Option Bool
 | "tuple"=>some a|"int"=>some b|"bool"=>some c|"list"=>some d|"str"=>some e|_=>none
def ia:String->String->Option Bool
 | "NoneType"=>gW false false false false false
 | "bool"=>gW false true true false false
 | "int"=>gW false true false false false
 | "str"=>gW false false false false true
 | "list"=>gW false false false true false
 | "tuple"=>gW true false false false false
 | _=>λ_=>none
def zW{K:Fb}{n T:String}{b:Bool}(h:ia n T=some b):PySem.W.kitOne K (.type n) (.type T)=some b:=by
 unfold ia at h;split at h<;>first
  | (unfold gW at h;split at h<;>first|(cases h;kernel_rfl)|cases h)
  | cases h
def rP:List V->Hp->VK->Prop:=λxs H Q=>∃x n T b,xs=[x,.ty T]/\fi H x n/\ia n T=some b/\Q (.bl b) H
def dJ:ck X (.builtin "isinstance") rP:=by intro pins s σ H xs us Q I r h;obtain⟨x,n,T,b,rfl,hk,hb,q⟩:=h;obtain⟨u,w',rfl,r1,r2⟩:=vals2 r;cases(show w'=Value.type T from r2);exact DD I r1 hk.ty (zW hb) λtk=>⟨.bl b,H,I.tok tk,rfl,q⟩
def xn(K:Fb):List V->Hp->VK->Prop:=λxs H Q=>∃(p:Addr) (ns:List Int),xs=[.ref p]/\ag K H p (ns.map V.int)/\0<ns.length/\∀M,M∈ns->(∀a,a∈ns->a<=M)->Q (.int M) H
def CC(hc:X.calm=true):ck X (.builtin "max") (xn X.K):=by
 intro pins s σ H xs us Q I r h;obtain⟨p,ns,rfl,hq,hl,q⟩:=h;obtain⟨u,rfl,rx⟩:=vals1 r;cases rx;obtain⟨its,r',pl,hz⟩:=I.list hq;have i1:IntsAre its ns:=intsAre_of r';obtain⟨its0,e0⟩:=i1.allInts.items;have en:ns=its0.toList.map (·.1):=(i1.numsOf.symm.trans (by rw[←e0])).trans (nums_intItems its0);have el:its0.toList.length=its0.size:=Fj;have ln:ns.length=its0.size:=by rw[en,Ff,el]
 have hL:s.heap.IsList p (intItems its0):=e0 ▸ pl.isList;refine max_intList (I.ok.hd hc) hL (by omega) λbest h' tk hbest kept=>?_;obtain⟨tok,hv⟩:=intItems_at hbest;subst hv;have am:=argBest_gt (numAt its0) (its0.size-1);refine⟨.int _,H,I.kept kept,⟨tok,rfl⟩,q _ ?_ λz hz=>?_⟩
 ·rw[en];have:=am.1;rw[numAt_eq];exact getD_mem (by rw[Ff,el];omega)
 ·rw[en]at hz;obtain⟨k,hk,ez⟩:=mem_getD hz;subst ez;have hk2:k<its0.size:=by rw[Ff,el]at hk;exact hk
  have:=am.2 k (by omega);rw[numAt_eq]at this;exact this
def j5(K:Fb):List V->Hp->VK->Prop:=λxs H Q=>∃p ys,xs=[.ref p]/\(ag K H p ys\/ah K H p ys)/\Q (.int ys.length) H
def Dr:ck X (.builtin "len") (j5 X.K):=Cq
def mL(K:Fb):List V->Hp->VK->Prop:=λxs H Q=>∃p ys,xs=[.ref p]/\((ag K H p ys/\∀l,H l=none->Q (.ref l) (upd H l (.tup ys)))\/(ah K H p ys/\Q (.ref p) H))
def Bd:ck X (.type "tuple") (mL X.K):=Aq
def kR(K:Fb):List V->Hp->VK->Prop:=λxs H Q=>∃p ys,xs=[.ref p]/\(ag K H p ys\/ah K H p ys)/\∀l,H l=none->Q (.ref l) (upd H l (.lst ys))
def yW:ck X (.type "list") (kR X.K):=Cc
def rO:List V->Hp->VK->Prop:=λxs H Q=>∃i j,xs=[.int i,.int j]/\Q (.int (if j>i then j else i)) H
def zr(hc:X.calm=true):ck X (.builtin "max") rO:=A6 hc
end
def Ext(H H':Hp):Prop:=∀b o,H b=some o->H' b=some o
def Ext.rfl'(H:Hp):Ext H H:=λ_ _ h=>h
def Ext.trans{H H1 H2:Hp}(a:Ext H H1)(b:Ext H1 H2):Ext H H2:=λx o h=>b x o (a x o h)
def Ext.none{H H':Hp}(e:Ext H H'){l:Addr}(h:H' l=Option.none):H l=Option.none:=by
 cases q:H l with
 | none=>rfl
 | some o=>rw[e l o q]at h;cases h
section
variable {X:Cx} (K:Fb)
def aJ(h:X.K=K:=by rfl):iF X (pH K):=by subst h;exact Bm
def ay(h:X.K=K:=by rfl):iF X (lB K):=by subst h;exact yG
def gC(h:X.K=K:=by rfl):jw X (nU K):=by subst h;exact BZ
def pF(h:X.K=K:=by rfl):bI X (compareOp .In) (m3 K false):=by subst h;exact Ag
def cQ(h:X.K=K:=by rfl):ck X (.builtin "len") (j5 K):=by subst h;exact Dr
def kF(h:X.K=K:=by rfl):ck X (.type "tuple") (mL K):=by subst h;exact Bd
def Be(h:X.K=K:=by rfl):ck X (.type "list") (kR K):=by subst h;exact yW
def ly(hc:X.calm=true)(h:X.K=K:=by rfl):ck X (.builtin "max") (xn K):=by subst h;exact CC hc
def bW{tg l:Expr}{tl:TE}(hl:PE X l tl)(h:X.K=K:=by rfl):PI X tg l (o6 K tl):=by subst h;exact A4 hl
def iE{tg l:Expr}{tl:TE}(hl:PE X l tl)(h:X.K=K:=by rfl):PI X tg l (nV K tl):=by subst h;exact zG hl
def dY{es:List Expr}{k:Nat}{t:dW}{n:Nat}{pos:Pos}(hc:X.calm=true)(hg:iw X es t)(h:X.K=K:=by rfl)
  (hn:(assignEach es X.env).length=n:=by rfl) (hst:(assignEach es X.env).findIdx? (·.1)=none:=by rfl):PG X (.Tuple es k pos) (nQ K n t):=by subst h;exact Eg hc hg hn hst
def bF{o e:Expr}{es:List Expr}{to:TE}{t:TA}{name:Str}{apos cpos:Pos}{T id:String}{r:V->List V->Hp->VK->Prop}(pa:PlainAttrs T)(slot:Slot T name id)(hty:typeOf (.builtin id)=pure (.type "method_descriptor"))(hm:m7 X id r)(ho:PE X o to)(ha:PA X (e::es) t)(h:X.K=K:=by rfl)
  (hbase:attributeBase o name X.env (eval o X.env)=eval o X.env:=by rfl)
  (hfew:((backTo cpos (starEach (e::es) X.env)).all (λx=>!x.1) && (backToKw cpos (keywordEach [] X.env)).all (λx=>x.1.isSome)
   && decide ((e::es).length+([]:List Keyword).length+(if([]:List Keyword).isEmpty then 0 else 1)<30))=true:=by rfl)
  (hline:(apos.endLine == cpos.line)=true:=by rfl) (hs:starEach (e::es) X.env=(false,eval e X.env)::starEach es X.env:=by rfl) (hplain:(backTo cpos (starEach es X.env)).any (·.1)=false:=by rfl) :
  PE X (.Call (.Attribute o name apos) (e::es) [] cpos) (lS K T r to t):=by subst h;exact Ay pa slot hty hm ho ha hbase hfew hline hs hplain
def vY(K:Fb)(ta:TE):TT:=λσ H Q=>ta σ H λx H'=>∃k,kC K x H' k/\Q k H'
def rg{a:Expr}{ta:TE}(ha:PE X a ta)(he:∀whole,isTrue a X.env whole=(do let v ←whole;standAt a.pos;holding [v] (truthy v)))(h:X.K=K:=by rfl):PT X a (vY K ta):=by subst h;exact B5 ha he
end
def tm(ns:List Int):TA:=λ_ H Q=>Q (ns.map V.int) H
inductive IntsE:List Expr->List Int->Prop
 | n:IntsE [] []
 | c {i j pos es ns}:IntsE es ns->IntsE (.Constant (.int i) j pos::es) (i::ns)
def iq{X:Cx}{es:List Expr}{ns:List Int}(h:IntsE es ns):PA X es (tm ns):=by
 induction h with
 | n=>exact af
 | @c i j pos es ns _ ih=>
  intro p pins s σ H Q I hq;exact aa (e:=.Constant (.int i) j pos) ae ih rfl p pins s σ H Q I hq
def rd_ints{σ:St}{H:Hp}{ns:List Int}{R:List V->Hp->Prop}(h:R (ns.map V.int) H):tm ns σ H R:=h
def nZ(c:TT)(t u:TS):TS:=λD σ H=>∃R:St->Hp->Prop,(c σ H λb H1=>if b=true then t { D with nx:=R } σ H1 else u { D with nx:=R } σ H1)/\∀σ' H',R σ' H'->D.nx σ' H'
def cU{X:Cx}{c:Expr}{a b:List Stmt}{tc:TT}{t u:TS}{pos:Pos}(hc:PT X c tc)(ha:cS X a t)(hb:cS X b u):PS X (.If c a b pos) (nZ tc t u):=by
 intro pins s σ H D I h;obtain⟨R,h,hR⟩:=h;refine aD (bo hc ha hb pins s σ H { D with nx:=R } I h) λf s1 q=>?_;cases f with
 | next=>
  obtain⟨σ',H',I',q⟩:=q;exact⟨σ',H',I',hR σ' H' q⟩
 | ret v=>exact q
 | brk=>exact q
 | cont=>exact q
def qV(K:Fb):V->Hp->(It->Hp->Prop)->Prop:=λx H R=>∃a,x=.ref a/\(∃xs,ag K H a xs)/\R (dA K a) H
def rV(K:Fb):V->Hp->(It->Hp->Prop)->Prop:=λx H R=>∃a,x=.ref a/\(∃xs,ah K H a xs)/\R (cK K a) H
def vx:List V->Hp->(It->Hp->Prop)->Prop:=λvs H R=>∃j:Int,vs=[.int j]/\-(2 ^ 62)<=j/\j<2 ^ 62/\R (dS 0 j.toNat) H
def w5:List V->Hp->(It->Hp->Prop)->Prop:=λvs H R=>∃i j:Int,vs=[.int i,.int j]/\(-(2 ^ 62)<=i/\i<2 ^ 62/\-(2 ^ 62)<=j/\j<2 ^ 62)/\R (dS i (j-i).toNat) H
def hV(J:It)(g:TG)(tb:TS)(D:Ends)(σ:St)(H:Hp):Prop:=∃W:Nat->Nat->St->Hp->Prop,(∃m,W 0 m σ H)/\∀i m σ H,W i m σ H →
 (J.stop i H/\D.nx σ H)\/(J.go i H/\∃N:St->Hp->Prop,(∀σ' H',N σ' H'->∃m',m'<m/\W (i+1) m' σ' H')/\∀x H',J.yld i H x H'->g x σ H' λσ2 H2=>tb { D with nx:=N,ct:=N,bk:=D.nx } σ2 H2)
def forL{K:Fb}{a:Addr}{xs:List V}{g:TG}{tb:TS}{D:Ends}{σ:St}{H:Hp}(Pv:Nat->St->Hp->Prop)(h0:Pv 0 σ H)(hl:∀i σ H,i<=xs.length->Pv i σ H->ag K H a xs)
  (hs:∀i x σ H,xs[i]?=some x->Pv i σ H->g x σ H λσ2 H2=>tb ⟨Pv (i+1),D.rt,D.nx,Pv (i+1)⟩ σ2 H2) (hd:∀σ H,Pv xs.length σ H->D.nx σ H):hV (dA K a) g tb D σ H:=DL Pv h0 hl hs hd
def yn{K:Fb}{a:Addr}{xs:List V}{g:TG}{tb:TS}{D:Ends}{σ:St}{H:Hp}(Pv:Nat->St->Hp->Prop)(h0:Pv 0 σ H)(hl:∀i σ H,i<=xs.length->Pv i σ H->ah K H a xs)
  (hs:∀i x σ H,xs[i]?=some x->Pv i σ H->g x σ H λσ2 H2=>tb ⟨Pv (i+1),D.rt,D.nx,Pv (i+1)⟩ σ2 H2) (hd:∀σ H,Pv xs.length σ H->D.nx σ H):hV (cK K a) g tb D σ H:=zC Pv h0 hl hs hd
def forR{lo:Int}{n:Nat}{g:TG}{tb:TS}{D:Ends}{σ:St}{H:Hp}(Pv:Nat->St->Hp->Prop)(h0:Pv 0 σ H)
  (hs:∀i σ H,i<n->Pv i σ H->g (.int (lo+i)) σ H λσ2 H2=>tb ⟨Pv (i+1),D.rt,D.nx,Pv (i+1)⟩ σ2 H2) (hd:∀σ H,Pv n σ H->D.nx σ H):hV (dS lo n) g tb D σ H:=Ea Pv h0 hs hd
def eI(H:Hp)(o:HO)(R:VK):Prop:=∀p,H p=none->R (.ref p) (upd H p o)
section
variable {K:Fb} {D:Ends} {σ:St} {H:Hp} {Q:VK} {ta tb tc te:TE} {t u:TS} {c c':TT}
def rd_seq(h:t ⟨u D,D.rt,D.bk,D.ct⟩ σ H):xZ t u D σ H:=h
def rd_next(h:D.nx σ H):rC D σ H:=h
def rd_ret(h:te σ H D.rt):vD te D σ H:=h
def rd_asg{g:TG}(h:te σ H λx H1=>g x σ H1 D.nx):jI te g D σ H:=h
def rd_drop(h:te σ H λ_ H1=>D.nx σ H1):xo te D σ H:=h
def rd_ifS(h:c σ H λb H1=>if b=true then t D σ H1 else u D σ H1):wo c t u D σ H:=h
def gE(R:St->Hp->Prop)(h:c σ H λb H1=>if b=true then t ⟨R,D.rt,D.bk,D.ct⟩ σ H1 else u ⟨R,D.rt,D.bk,D.ct⟩ σ H1)(k:∀σ' H',R σ' H'->D.nx σ' H'):nZ c t u D σ H:=⟨R,h,k⟩
def cC(h:c σ H λb H1=>if b=true then t D σ H1 else u D σ H1):nZ c t u D σ H:=⟨D.nx,h,λ_ _ h=>h⟩
def rd_name{i:Nat}{v:V}{R:St->Hp->Prop}(h:R (σ.set i (some v)) H):iV i v σ H R:=h
def rd_var{i:Nat}{v:V}(e:σ[i]?=some (some v))(h:Q v H):nO i σ H Q:=⟨v,e,h⟩
def rd_c{v:V}(h:Q v H):tC v σ H Q:=h
def rd_op{r:R2}(h:ta σ H λx H1=>tb σ H1 λy H2=>r x y H2 Q):ie r ta tb σ H Q:=h
def rd_un{r:V->Hp->VK->Prop}(h:ta σ H λx H1=>r x H1 Q):vG r ta σ H Q:=h
def rd_CB{r:List V->Hp->VK->Prop}{a:TA}(h:a σ H λvs H1=>r vs H1 Q):ka r a σ H Q:=h
def rd_cons{a:TA}{R:List V->Hp->Prop}(h:ta σ H λx H1=>a σ H1 λxs H2=>R (x::xs) H2):oN ta a σ H R:=h
def rd_nil{R:List V->Hp->Prop}(h:R [] H):nM σ H R:=h
def rd_test{R:Bool->Hp->Prop}(h:te σ H λx H'=>∃k,x=.bl k/\R k H'):rL te σ H R:=h
def rd_B{R:Bool->Hp->Prop}(h:te σ H λx H'=>∃k,x=.bl k/\R k H'):tB te σ H R:=h
def rd_exb{b:Bool}{R:Bool->Prop}(h:R b):∃k,V.bl b=V.bl k/\R k:=⟨b,rfl,h⟩
def rd_not{R:Bool->Hp->Prop}(h:c σ H λb H1=>R (!b) H1):wD c σ H R:=h
def rd_and{R:Bool->Hp->Prop}(h:c σ H λb H1=>if b=true then c' σ H1 R else R false H1):qI c c' σ H R:=h
def rd_or{R:Bool->Hp->Prop}(h:c σ H λb H1=>if b=true then R true H1 else c' σ H1 R):tX c c' σ H R:=h
def rd_andV(h:ta σ H λx H1=>∃k,x=.bl k/\if k=true then tb σ H1 Q else Q (.bl false) H1):xx ta tb σ H Q:=h
def rd_orV(h:ta σ H λx H1=>∃k,x=.bl k/\if k=true then Q (.bl true) H1 else tb σ H1 Q):qp ta tb σ H Q:=h
def rd_notV(h:ta σ H λx H1=>∃k,x=.bl k/\Q (.bl (!k)) H1):vi ta σ H Q:=h
def rd_yes{R:Bool->Hp->Prop}(h:R true H):rZ σ H R:=h
def rd_I0{g:Int->Int->V}{i j:Int}(h:Q (g i j) H):fu g (.int i) (.int j) H Q:=⟨i,j,rfl,rfl,h⟩
def rd_I{C:Int->Int->Prop}{g:Int->Int->V}{i j:Int}(hc:C i j)(h:Q (g i j) H):rI C g (.int i) (.int j) H Q:=⟨i,j,rfl,rfl,hc,h⟩
def rd_U{g:Int->V}{i:Int}(h:Q (g i) H):rU g (.int i) H Q:=⟨i,rfl,h⟩
def rd_EqI{i j:Int}(h:Q (.bl (decide (i=j))) H):kf (.int i) (.int j) H Q:=⟨rfl,by
 have e:decide (V.int i=V.int j)=decide (i=j):=by rw[FU];simp
 rw[e];exact h⟩
def rd_NeI{i j:Int}(h:Q (.bl (!decide (i=j))) H):mr (.int i) (.int j) H Q:=⟨rfl,by
 have e:decide (V.int i=V.int j)=decide (i=j):=by rw[FU];simp
 rw[e];exact h⟩
def rd_EqB{i j:Bool}(h:Q (.bl (i == j)) H):kf (.bl i) (.bl j) H Q:=⟨rfl,by rw[n8];exact h⟩
def aK{p:Addr}{xs:List V}{i:Int}{v:V}(e:ag K H p xs)(a:bG xs i=some v)(h:Q v H):pH K (.ref p) (.int i) H Q:=⟨p,xs,i,v,rfl,rfl,e,a,h⟩
def ax{p:Addr}{xs:List V}{i:Int}{v:V}(e:ah K H p xs)(a:bG xs i=some v)(h:Q v H):lB K (.ref p) (.int i) H Q:=⟨p,xs,i,v,rfl,rfl,e,a,h⟩
def eZ{p:Addr}{xs:List V}(e:ag K H p xs)(h:Q (.int xs.length) H):j5 K [.ref p] H Q:=⟨p,xs,rfl,.inl e,h⟩
def gh{p:Addr}{xs:List V}(e:ah K H p xs)(h:Q (.int xs.length) H):j5 K [.ref p] H Q:=⟨p,xs,rfl,.inr e,h⟩
def kc{p:Addr}{xs:List V}(e:ag K H p xs)(h:eI H (.tup xs) Q):mL K [.ref p] H Q:=⟨p,xs,rfl,.inl ⟨e,h⟩⟩
def dG{x:V}{n T:String}{b:Bool}(hk:fi H x n)(hb:ia n T=some b)(h:Q (.bl b) H):rP [x,.ty T] H Q:=⟨x,n,T,b,rfl,hk,hb,h⟩
def rd_max2{i j:Int}(h:Q (.int (if j>i then j else i)) H):rO [.int i,.int j] H Q:=⟨i,j,rfl,h⟩
def rd_call{sp:Sp}{a:TA}{E:XK}(h:a σ H λvs H1=>sp (vs++[]) H1 Q E):ko sp [] E a σ H Q:=h
def rd_BM{T:String}{r:V->List V->Hp->VK->Prop}{a:TA}(h:te σ H λx H1=>ip K T x H1/\a σ H1 λxs H2=>r x xs H2 Q):lS K T r te a σ H Q:=h
def rd_tup{a:TA}(h:a σ H λxs H1=>xs.length<=sizeLine/\eI H1 (.tup xs) Q):mJ a σ H Q:=h
def rd_lst{a:TA}(h:a σ H λxs H1=>xs.length<=sizeLine/\eI H1 (.lst xs) Q):qU a σ H Q:=h
def rd_sl{r:V->Option Int->Option Int->Hp->VK->Prop}{tl th:TO}(h:te σ H λx H1=>tl σ H1 λl H2=>th σ H2 λv H3=>r x l v H3 Q):vC r te tl th σ H Q:=h
def rd_noPart{R:Option Int->Hp->Prop}(h:R none H):xt σ H R:=h
def rd_part{R:Option Int->Hp->Prop}(h:te σ H λx H1=>∃i,x=.int i/\R (some i) H1):xc te σ H R:=h
def rd_exi{i:Int}{R:Int->Prop}(h:R i):∃k,V.int i=V.int k/\R k:=⟨i,rfl,h⟩
def rd_chain{r r':R2}(h:ta σ H λx H1=>tb σ H1 λy H2=>r x y H2 λz H3=>∃k,z=.bl k/\(if k=true then tc σ H3 λw' H4=>r' y w' H4 Q else Q (.bl false) H3)):qC r r' ta tb tc σ H Q:=h
def rd_comp{n:Nat}{js:List Nat}{wi:TI}{g:TG}(h:wi σ H λJ H1=>gD J n js g c te σ H1 Q):nA n js wi g c te σ H Q:=h
def rd_iL{R:It->Hp->Prop}(h:te σ H λx H1=>qV K x H1 R):o6 K te σ H R:=h
def rd_iT{R:It->Hp->Prop}(h:te σ H λx H1=>rV K x H1 R):nV K te σ H R:=h
def bZ{p:Addr}{xs:List V}{R:It->Hp->Prop}(e:ag K H p xs)(h:R (dA K p) H):qV K (.ref p) H R:=⟨p,rfl,⟨xs,e⟩,h⟩
def iu{p:Addr}{xs:List V}{R:It->Hp->Prop}(e:ah K H p xs)(h:R (cK K p) H):rV K (.ref p) H R:=⟨p,rfl,⟨xs,e⟩,h⟩
def rd_i1{a:TA}{R:It->Hp->Prop}(h:a σ H λvs H1=>vx vs H1 R):qw a σ H R:=h
def cR{j:Int}{R:It->Hp->Prop}(h1:-(2 ^ 62)<=j/\j<2 ^ 62)(h:R (dS 0 j.toNat) H):vx [.int j] H R:=⟨j,rfl,h1.1,h1.2,h⟩
def rd_i2{a:TA}{R:It->Hp->Prop}(h:a σ H λvs H1=>w5 vs H1 R):uG a σ H R:=h
def AE{i j:Int}{R:It->Hp->Prop}(h1:-(2 ^ 62)<=i/\i<2 ^ 62/\-(2 ^ 62)<=j/\j<2 ^ 62)(h:R (dS i (j-i).toNat) H):w5 [.int i,.int j] H R:=⟨i,j,rfl,h1,h⟩
def rd_for{wi:TI}{g:TG}(h:wi σ H λJ H1=>hV J g t D σ H1):tF wi g t D σ H:=h
def bK{l:Addr}{xs:List V}{y:V}(e:H l=some (.lst xs))(hz:xs.length<sizeLine)(h:Q .non (upd H l (.lst (xs++[y])))):wU (.ref l) [y] H Q:=⟨l,xs,y,rfl,rfl,e,hz,h⟩
def cN{p:Addr}{xs:List V}(e:ag K H p xs):ip K "list" (.ref p) H:=.inl ⟨rfl,xs,e⟩
def rd_sub{to ti:TE}{w:jY}{v:V}{R:St->Hp->Prop}(h:to σ H λo H1=>ti σ H1 λi H2=>w o i v H2 λH3=>R σ H3):uk to ti w v σ H R:=h
def ji{p:Addr}{xs:List V}{k:Int}{j:Nat}{v:V}{R:Hp->Prop}(e:H p=some (.lst xs))(a:dZ xs.length k=some j)(h:R (upd H p (.lst (xs.set j v)))):xu (.ref p) (.int k) v H R:=⟨p,xs,k,j,rfl,rfl,e,a,h⟩
def dU{n:Nat}{g:dW}{a:Addr}{xs:List V}{R:St->Hp->Prop}(e:ah K H a xs)(hl:xs.length=n)(h:g xs σ H R):nQ K n g (.ref a) σ H R:=⟨a,xs,rfl,e,hl,h⟩
def rd_gcons{g:TG}{gs:dW}{v:V}{r:List V}{R:St->Hp->Prop}(h:g v σ H λσ' H'=>gs r σ' H' R):xj g gs (v::r) σ H R:=⟨v,r,rfl,h⟩
def rd_gnil{R:St->Hp->Prop}(h:R σ H):qR [] σ H R:=⟨rfl,h⟩
def jT{l b:Addr}{xs zs:List V}(e1:H l=some (.lst xs))(e2:H b=some (.lst zs))(hz:xs.length+zs.length<=sizeLine)(h:eI H (.lst (xs++zs)) Q):qW (.ref l) (.ref b) H Q:=⟨l,b,xs,zs,rfl,rfl,e1,e2,hz,h⟩
def lY{l:Addr}{k:Int}{xs:List V}(e:H l=some (.lst xs))(hk:0<=k/\k<10 ^ 6)(hz:xs.length*k.toNat<=sizeLine)(h:eI H (.lst (F0 k.toNat xs).flatten) Q):vP (.ref l) (.int k) H Q:=
 ⟨l,k,xs,rfl,rfl,e,by omega,by omega,hz,h⟩
def gL{a:Addr}{xs:List V}{lo hi:Option Int}(e:ag K H a xs)(h:eI H (.lst (bV xs lo hi)) Q):nU K (.ref a) lo hi H Q:=⟨a,xs,rfl,e,h⟩
def m9{neg:Bool}{x:V}{p:Addr}{xs:List V}(e:ag K H p xs\/ah K H p xs)(f:eT x=true)(fs:xs.all eT=true)(h:Q (.bl (if neg then !iG x xs else iG x xs)) H):m3 K neg x (.ref p) H Q:=⟨p,xs,rfl,e,f,fs,h⟩
def rd_tTru{R:Bool->Hp->Prop}(h:te σ H λx H'=>∃k,kC K x H' k/\R k H'):vY K te σ H R:=h
def cn{o:HO}{R:VK}(h:∀p H',Ext H H'->H' p=some o->H p=none->R (.ref p) H'):eI H o R:=λp hp=>
 h p _ (λb u e=>by rw[aC (cq e hp)];exact e) aL hp
def bq{p:Addr}{o:HO}(hp:H p=none):Ext H (upd H p o):=λb u e=>by rw[aC (cq e hp)];exact e
def ag.ext{H':Hp}{p:Addr}{xs:List V}(e:Ext H H')(h:ag K H p xs):ag K H' p xs:=by
 rcases h with(h|⟨o,h⟩)|h
 ·exact .inl (.inl (e _ _ h))
 ·exact .inl (.inr ⟨o,e _ _ h⟩)
 ·exact .inr h
end
def eR{α:Type}{xs:List α}{i:Int}{v:α}(h0:0<=i)(h:xs[i.toNat]?=some v):bG xs i=some v:=by
 have:=cP h
 rwa [Fu h0]at this
def i4{n:Nat}{i:Int}(h0:0<=i)(h:i<n):dZ n i=some i.toNat:=by unfold dZ;rw[Ge h0,Ge h]
def eE:V->PyData->Prop
 | .non,.none=>True
 | .bl b,.bool c=>b=c
 | .int i,.int j=>i=j
 | .str x,.str y=>x=y/\(PyData.str y).canLay0=true
 | _,_=>False
def bf(H:Hp):Nat->V->PyData->Prop
 | 0,x,d=>eE x d
 | n+1,x,d=>eE x d\/∃a xs ds,x=.ref a/\((H a=some (.tup xs)/\d=.tuple ds)\/(H a=some (.lst xs)/\d=.list ds))/\Paired (bf H n) xs ds
section
variable {X:Cx} {pins:List (Addr×Obj)} {σ:St} {H:Hp} {s:Shared}
def eE.reads{x:V}{d:PyData}{u:Value}(h:eE x d)(r:RelV x u):∃as,Reads s.heap u d as:=by
 cases x with
 | non=>cases d<;>first|exact False.elim h|(cases r;exact⟨_,.none⟩)
 | bl b=>cases d<;>first|exact False.elim h|(cases(show b=_ from h);cases r;exact⟨_,.bool _⟩)
 | int i=>cases d<;>first|exact False.elim h|(cases(show i=_ from h);obtain⟨t,rfl⟩:=r;exact⟨_,.int _ t⟩)
 | str z=>cases d<;>first|exact False.elim h|(cases(show z=_/\_ from h).1;obtain⟨t,rfl⟩:=r;exact⟨_,.str _ t⟩)
 | _=>cases d<;>exact False.elim h
def eE.lay{x:V}{d:PyData}(h:eE x d):d.canLay0=true/\d.depth=0:=by cases x<;>cases d<;>first|exact False.elim h|exact ⟨rfl,rfl⟩|exact ⟨h.2,rfl⟩
def lI{R:V->PyData->Prop}(ih:∀{x:V} {d:PyData} {u:Value},R x d->RelV x u->∃as,Reads s.heap u d as):∀{xs:List V} {ds:List PyData} {us:List Value},Paired R xs ds->Vals xs us->∃as,ReadsAll s.heap us ds as
 | _,_,_,.nil,.nil=>⟨_,.nil⟩
 | _,_,_,.cons h t,.cons r rt=>by obtain⟨as,ha⟩:=ih h r;obtain⟨bs,hb⟩:=lI ih t rt;exact⟨_,.cons ha hb⟩
def bf.reads(I:Inv X pins σ H s):∀(n:Nat) {x:V} {d:PyData} {u:Value},bf H n x d->RelV x u->∃as,Reads s.heap u d as
 | 0,_,_,_,h,r=>eE.reads h r
 | n+1,x,d,u,h,r=>by
  rcases h with h|⟨a,xs,ds,rfl,hh,hp⟩
  ·exact eE.reads h r
  ·cases r;rcases hh with⟨e,rfl⟩|⟨e,rfl⟩
   ·obtain⟨its,rv,⟨o,ho,hc,k,hd⟩,_⟩:=I.tuple (ah.of e);obtain⟨as,ha⟩:=lI (λ{x d u}=>bf.reads I n) hp rv;exact⟨_,.tuple ho hc hd (by simpa using ha)⟩
   ·obtain⟨its,k,rv,ho,_⟩:=I.lst e;obtain⟨as,ha⟩:=lI (λ{x d u}=>bf.reads I n) hp rv;exact⟨_,.list ho rfl rfl (by simpa using ha)⟩
def jr{R:V->PyData->Prop}{m:Nat}(ih:∀{x:V} {d:PyData},R x d->d.canLay0=true/\d.depth<=m):∀{xs:List V} {ds:List PyData},Paired R xs ds->PyData.canLayAll0 ds=true/\PyData.depthAll ds<=m
 | _,_,.nil=>⟨rfl,Nat.zero_le _⟩
 | _,_,.cons h t=>by
  obtain⟨h1,h2⟩:=ih h;obtain⟨h3,h4⟩:=jr ih t;refine⟨?_,?_⟩
  ·simp only[PyData.canLayAll0,h1,h3,Bool.and_self]
  ·simp only[PyData.depthAll];exact Nat.max_le.mpr ⟨h2,h4⟩
def bf.lay:∀(n:Nat) {x:V} {d:PyData},bf H n x d->d.canLay0=true/\d.depth<=n
 | 0,_,_,h=>⟨(eE.lay h).1,Nat.le_of_eq (eE.lay h).2⟩
 | n+1,x,d,h=>by
  rcases h with h|⟨a,xs,ds,rfl,hh,hp⟩
  ·exact⟨(eE.lay h).1,by rw[(eE.lay h).2];exact Nat.zero_le _⟩
  ·obtain⟨h1,h2⟩:=jr (λ{x d}=>bf.lay n) hp;rcases hh with⟨e,rfl⟩|⟨e,rfl⟩
   ·exact⟨h1,Nat.succ_le_succ h2⟩
   ·exact⟨h1,Nat.succ_le_succ h2⟩
def vS(neg:Bool):R2:=λx y H Q=>∃n m d e,bf H n x d/\bf H m y e/\n<=50/\Q (.bl (if neg then !PyData.eqv d e else PyData.eqv d e)) H
def E5{k:Nat}(hr:Room k X.A):bI X (compareOp .Eq) (vS false):=by intro pins s σ H x y v u Q I rx ry h;obtain⟨n,m,d,e,h1,h2,hn,q⟩:=h;obtain⟨as,ra⟩:=bf.reads I n h1 rx;obtain⟨bs,rb⟩:=bf.reads I m h2 ry;have l1:=bf.lay n h1;have l2:=bf.lay m h2;have hu:=hr.units;have hm:min d.depth e.depth<=50:=FP (Nat.min_le_left _ _) (FP l1.2 hn);exact SeqAt.compareEq_reads ra rb l1.1 l2.1 (by omega) ⟨.bl _,H,I,rfl,q⟩
def DP{k:Nat}(hr:Room k X.A):bI X (compareOp .NotEq) (vS true):=by intro pins s σ H x y v u Q I rx ry h;obtain⟨n,m,d,e,h1,h2,hn,q⟩:=h;obtain⟨as,ra⟩:=bf.reads I n h1 rx;obtain⟨bs,rb⟩:=bf.reads I m h2 ry;have l1:=bf.lay n h1;have l2:=bf.lay m h2;have hu:=hr.units;have hm:min d.depth e.depth<=50:=FP (Nat.min_le_left _ _) (FP l1.2 hn);exact SeqAt.compareNe_reads ra rb l1.1 l2.1 (by omega) ⟨.bl _,H,I,rfl,q⟩
end
def yw(K:Fb):List V->Hp->VK->Prop:=λxs H Q=>∃(p:Addr) (bs:List Bool),xs=[.ref p]/\ag K H p (bs.map V.bl)/\Q (.bl (bs.all id)) H
def nW:∀{bs:List Bool} {us:List Value},Vals (bs.map V.bl) us->us=bs.map Value.bool
 | [],_,r=>by cases r;rfl
 | b::bs,_,r=>by
  cases r with
  | cons r t=>cases r;rw[nW t];rfl
def all_range(bs:List Bool):((F8 bs.length).all λi=>bs.getD i false)=bs.all id:=by
 rw[FU,FR,FR];constructor
 ·intro h b hb;obtain⟨i,hi,e⟩:=List.mem_iff_getElem.mp hb;have:=h i (List.mem_range.mpr hi);rw[List.getD_eq_getElem?_getD,Fg hi]at this;rw[←e];exact this
 ·intro h i hi;have hi':=List.mem_range.mp hi;rw[List.getD_eq_getElem?_getD,Fg hi'];exact h _ (FI hi')
def jj{X:Cx}(K:Fb)(hc:X.calm=true)(hK:X.K=K:=by rfl):ck X (.builtin "all") (yw K):=by
 subst hK;intro pins s σ H xs us Q I r h;obtain⟨p,bs,rfl,hq,q⟩:=h;obtain⟨u,rfl,rx⟩:=vals1 r;cases rx;obtain⟨its,rv,pl,hz⟩:=I.list hq;have eb:=nW rv;have hne:p≠s.heap.objs.size:=Fz (by obtain⟨o,n,e,_⟩:=pl;exact Fe e);refine call_all_walk (wpAny_pyIter_list pl.isList ?_);have I1:Inv X pins σ H { s with heap:=s.heap.push { cls:=.type "list_iterator",data:=.fields #[.ref p,.int 0 0] } }:=I.kept (t':=s.toks) λb o e=>Fc _ e;have hf:=I.fpOk (H':=H) (FA s.heap.objs.size) I.fresh;refine⟨s.heap.objs.size,_,_,_,_,_,(λi=>bs.getD i false),rfl,Walks.list (A:=X.A.in1) (I.ok.hd hc) _ p hne its.toArray,⟨⟨_,Fd _ rfl,rfl,rfl⟩,?_⟩,?_,λh' tk hk=>?_⟩
 ·exact pl.isList.push _
 ·intro i v s' Q' E' hv hQ;rw[eb]at hv;have hv':(bs.map Value.bool)[i]?=some v:=by simpa using hv
  rw[Fh]at hv';cases eg:bs[i]? with
  | none=>rw[eg]at hv';cases hv'
  | some b=>
   rw[eg]at hv';cases hv';have eb':bs.getD i false=b:=by rw[List.getD_eq_getElem?_getD,eg];rfl
   have hQ':Q' (bs.getD i false) s':=hQ;rw[eb']at hQ';exact wpAny_truthy_bool hQ'
 ·obtain⟨f0,f1,f2,f3,f4,f5⟩:=hf;have hl:=rv.length;rw[Ff]at hl;refine⟨.bl (bs.all id),H,I1.turned (it:=s.heap.objs.size) (λb o hb e=>hk b o (by simpa using hb) e) f0 f1 f3 f4 f5,?_,q⟩;show Value.bool _=Value.bool _;rw[Fl,←hl,all_range]
def qS(c:TT)(tb:TS):TS:=λD σ H=>∃(W:Nat->St->Hp->Prop) (R:St->Hp->Prop),(∃m,W m σ H)/\(∀m σ H,W m σ H →
 c σ H λb H1=>if b=true then ∃N:St->Hp->Prop,(∀σ' H',N σ' H'->∃m',m'<m/\W m' σ' H')/\tb ⟨N,D.rt,R,N⟩ σ H1 else R σ H1)/\∀σ H,R σ H->D.nx σ H
def gq{X:Cx}{pos:Pos}{c:Expr}{body:List Stmt}{tc:TT}{tb:TS}(hp:PassesOwn (model X.prog X.w) X.A X.env X.xe)(hc:PT X c tc)(hb:cS X body tb):PS X (.While c body [] pos) (qS tc tb):=by
 intro pins s σ H D I h;obtain⟨W,R,w0,hs,hR⟩:=h;refine aD (zk hp hc hb pins s σ H { D with nx:=R } I ⟨W,w0,hs⟩) λf s1 q=>?_;cases f with
 | next=>
  obtain⟨σ',H',I',q⟩:=q;exact⟨σ',H',I',hR σ' H' q⟩
 | ret v=>exact q
 | brk=>exact q
 | cont=>exact q
section
variable {D:Ends} {σ:St} {H:Hp} {Q:VK} {te:TE} {t:TS} {c:TT}
def fW(W:Nat->St->Hp->Prop)(R:St->Hp->Prop)(m:Nat)(h0:W m σ H)(hs:∀m σ H,W m σ H->c σ H λb H1=>if b=true then ∃N:St->Hp->Prop,(∀σ' H',N σ' H'->∃m',m'<m/\W m' σ' H')/\t ⟨N,D.rt,R,N⟩ σ H1 else R σ H1)(k:∀σ H,R σ H->D.nx σ H):qS c t D σ H:=⟨W,R,⟨m,h0⟩,hs,k⟩
def rd_aug{i:Nat}{ti:i9}{x:V}(e:σ[i]?=some (some x))(h:te σ H λy H1=>ti x y H1 λz H2=>D.nx (σ.set i (some z)) H2):vO i te ti D σ H:=⟨x,e,h⟩
def rd_ipI{f:Int->Int->Int}{i j:Int}(h:Q (.int (f i j)) H):kW f (.int i) (.int j) H Q:=⟨i,j,rfl,rfl,h⟩
end
section
variable {prog:Program} {w:World} {A:Around} {E:Value->Shared->Prop} {s:Shared}
def uY{it t:Addr}{i:Nat}{ys:Array Value}{x:Value}{Q:Value->Shared->Prop}(gi:s.heap.IsTupleIter it t i)(gt:s.heap.IsTuple t ys)(gx:ys[i]?=some x)
  (q:∀h',h'.IsTupleIter it t (i+1)->Heap.SameBut it s.heap h'->Q x { s with heap:=h' }):wpAny (model prog w) A (Builtin.SmallTypes.nextOf (.ref it)) Q E s:=by
 obtain⟨u,gu,gc,gd⟩:=id gi;obtain⟨v,gv,_,k,gk⟩:=gt;unfold Builtin.SmallTypes.nextOf;refine E8 (F7 (name:=FW "__next__") gi.typeIs F.slot_tuple_iterator_next (wpAny_call_entry F.slot_tuple_iterator_next gi.typeIs F.entry_tuple_iterator_next ?_ (F.args_tuple_iterator_next_1 _)));show wpAny _ _ (field (Value.ref it) 0 >>= _) _ _ s;refine E8 (wpAny_field gu gd (x:=Value.ref t) rfl ?_);show wpAny _ _ (if(Value.ref t == Value.none)=true then _ else _) _ _ s;rw[Gb (show ¬(Value.ref t == Value.none)=true from Fw)];show wpAny _ _ (field (Value.ref it) 1 >>= _) _ _ s;refine E8 (wpAny_field gu gd (x:=Value.int i 0) rfl ?_);show wpAny _ _ (seqItems? (Value.ref t) >>= _) _ _ s;refine E8 (wpAny_seqItems gv gk ?_);simp only[Ft,gx];refine E8 (wpAny_setField gu gd (by simp) (E9 ⟨x,rfl,E9 (q _ ?_ (Heap.SameBut.update ..))⟩));exact⟨_,Heap.get?_update_self _ gu (Obj.isFreed_of_fields (Obj.data_mapFields gd _)),(Obj.cls_mapFields ..).trans gc,by rw[Obj.data_mapFields gd];simp[rawInt]⟩
def og{it t:Addr}{i:Nat}{ys:Array Value}{Q:Value->Shared->Prop}(hA:A.handled=none)(gi:s.heap.IsTupleIter it t i)(gt:s.heap.IsTuple t ys)(gx:ys[i]?=none)
  (q:∀h' e,Heap.ExtBut it s.heap h'->(∃o,h'.get? e=some o/\o.cls=.type "StopIteration")->E (.ref e) { s with heap:=h' }):wpAny (model prog w) A (Builtin.SmallTypes.nextOf (.ref it)) Q E s:=by
 obtain⟨u,gu,gc,gd⟩:=id gi;obtain⟨v,gv,_,k,gk⟩:=gt;unfold Builtin.SmallTypes.nextOf;refine E8 (F7 (name:=FW "__next__") gi.typeIs F.slot_tuple_iterator_next (wpAny_call_entry F.slot_tuple_iterator_next gi.typeIs F.entry_tuple_iterator_next ?_ (F.args_tuple_iterator_next_1 _)));show wpAny _ _ (field (Value.ref it) 0 >>= _) _ _ s;refine E8 (wpAny_field gu gd (x:=Value.ref t) rfl ?_);show wpAny _ _ (if(Value.ref t == Value.none)=true then _ else _) _ _ s;rw[Gb (show ¬(Value.ref t == Value.none)=true from Fw)];show wpAny _ _ (field (Value.ref it) 1 >>= _) _ _ s;refine E8 (wpAny_field gu gd (x:=Value.int i 0) rfl ?_);show wpAny _ _ (seqItems? (Value.ref t) >>= _) _ _ s;refine E8 (wpAny_seqItems gv gk ?_);simp only[Ft,gx];refine E8 (wpAny_rule (E8 (wpAny_setField gu gd (by simp) ?_)));show wpAny _ _ (newExc (Value.type "StopIteration") [] >>= _) _ _ _;refine E8 ?_;simp only[newExc,newTuple];refine E8 (wpAny_newObj_type (hd:=by size_fits) ?_);refine E8 (m:=firstArgMember _ _) (wpAny_of_eq (a:=Value.none) (by first|rfl|(unfold firstArgMember;rfl)) ?_);refine wpAny_newObj_type (hd:=by size_fits) ?_;simp only[raiseNew];refine E8 (wpAny_handled ?_)
 first|rw [show Around.handled A.in1=none from hA]|rw [hA]
 refine E8 (E9 (wpAny_throw ?_));exact q _ _ (((Heap.SameBut.update ..).extBut.push _).push _) ⟨_,Fd _ rfl,rfl⟩
end
structure Sub(P:Program)(w:World)(K:Fb)(J:It)(it:Addr)(tn:Nat->Heap->Prop):Prop where
 obj:∀i h,tn i h->∃o,h.get? it=some o/\∀v,o.data≠.cell v
 keep:∀i h h',tn i h->(∀o,h.get? it=some o->h'.get? it=some o)->tn i h'
 item:∀(X:Cx),X.prog=P->X.w=w->X.K=K->∀(A:Around) (i:Nat) (pins:List (Addr×Obj)) (s:Shared) (σ:St) (H:Hp) (Q:Value->Shared->Prop) (E:Value->Shared->Prop),Inv X pins σ H s->b6 X pins H it->tn i s.heap->J.go i H →
  (∀x u h',Inv X pins σ H { s with heap:=h' }->RelV x u->J.yld i H x H->tn (i+1) h'->Heap.SameBut it s.heap h'->Q u { s with heap:=h' })->wpAny (model P w) A (Builtin.SmallTypes.nextOf (.ref it)) Q E s
 done:∀(X:Cx),X.prog=P->X.w=w->X.K=K->∀(A:Around),A.handled=none->∀(i:Nat) (pins:List (Addr×Obj)) (s:Shared) (σ:St) (H:Hp) (Q:Value->Shared->Prop) (E:Value->Shared->Prop),Inv X pins σ H s->b6 X pins H it->tn i s.heap->J.stop i H →
  (∀h' e,Heap.ExtBut it s.heap h'->(∃o,h'.get? e=some o/\o.cls=.type "StopIteration")->E (.ref e) { s with heap:=h' })->wpAny (model P w) A (Builtin.SmallTypes.nextOf (.ref it)) Q E s
def sL{P:Program}{w:World}{K:Fb}(a it:Addr):Sub P w K (dA K a) it (λi h=>h.IsListIter it a i) where
 obj:=λi h st=>by obtain⟨o,e,c,d⟩:=st;exact⟨o,e,λv z=>by rw[d]at z;cases z⟩
 keep:=λi h h' st k=>st.at k
 item:=by intro X hP hw hK A i pins s σ H Q E I hf st hg hQ;subst hP hw hK;obtain⟨xs,x,hq,hx⟩:=hg;obtain⟨its,rv,p,hz⟩:=I.list hq;obtain⟨u,hu,ru⟩:=rv.get hx;obtain⟨f0,f1,f2,f3,f4,f5⟩:=hf;exact wpAny_nextOf_list_item st p.isList (x:=u) (by simpa using hu) λh' st' sb=>hQ x u h' (I.turned (t':=s.toks) (it:=it) (λb o hb e=>(sb.2 b hb).trans e) f0 f1 f3 f4 f5) ru ⟨rfl,λys hy=>by rw[I.list_inj hy hq];exact hx⟩ st' sb
 done:=by intro X hP hw hK A hA i pins s σ H Q E I hf st hg hE;subst hP hw hK;obtain⟨xs,hq,hx⟩:=hg;obtain⟨its,rv,p,hz⟩:=I.list hq;have hl:=rv.length;exact wpAny_nextOf_list_end hA st p.isList (by simp;omega) hE
def rJ{P:Program}{w:World}{K:Fb}(a it:Addr):Sub P w K (cK K a) it (λi h=>h.IsTupleIter it a i) where
 obj:=λi h st=>by obtain⟨o,e,c,d⟩:=st;exact⟨o,e,λv z=>by rw[d]at z;cases z⟩
 keep:=λi h h' st k=>st.at k
 item:=by intro X hP hw hK A i pins s σ H Q E I hf st hg hQ;subst hP hw hK;obtain⟨xs,x,hq,hx⟩:=hg;obtain⟨its,rv,p,hz⟩:=I.tuple hq;obtain⟨u,hu,ru⟩:=rv.get hx;obtain⟨f0,f1,f2,f3,f4,f5⟩:=hf;exact uY st (show s.heap.IsTuple a its.toArray from p) (x:=u) (by simpa using hu) λh' st' sb=>hQ x u h' (I.turned (t':=s.toks) (it:=it) (λb o hb e=>(sb.2 b hb).trans e) f0 f1 f3 f4 f5) ru ⟨rfl,λys hy=>by rw[I.tuple_inj hy hq];exact hx⟩ st' sb
 done:=by intro X hP hw hK A hA i pins s σ H Q E I hf st hg hE;subst hP hw hK;obtain⟨xs,hq,hx⟩:=hg;obtain⟨its,rv,p,hz⟩:=I.tuple hq;have hl:=rv.length;exact og hA st (show s.heap.IsTuple a its.toArray from p) (by simp;omega) hE
def iH(J1 J2:It):It:=⟨λi H=>J1.go i H/\J2.go i H,λi H x H'=>∃p u v,x=.ref p/\H p=none/\H'=upd H p (.tup [u,v])/\J1.yld i H u H/\J2.yld i H v H,λi H=>J1.stop i H\/(J1.go i H/\J2.stop i H)⟩
structure Apart(z TI TO i1 i2:Addr):Prop where
 a:TI≠z
 b:TO≠z
 c:i1≠z
 d:i2≠z
 e:TI≠TO
 f:TI≠i1
 g:TI≠i2
 h:TO≠i1
 i:TO≠i2
 j:i1≠i2
section
variable {X:Cx} {pins:List (Addr×Obj)} {σ:St} {H:Hp} {s:Shared}
def Inv.same{it:Addr}{k h':Heap}(I:Inv X pins σ H { s with heap:=k })(f:b6 X pins H it)(b:Heap.ExtBut it k h'):Inv X pins σ H { s with heap:=h' }:=by obtain⟨f0,f1,f2,f3,f4,f5⟩:=f;exact Inv.turned (s:={ s with heap:=k }) (t':=s.toks) (it:=it) I (λc o hb e=>b c o hb e) f0 f1 f3 f4 f5
def zP{J1 J2:It}{z TI TO i1 i2:Addr}{t1 t2:Nat->Heap->Prop}{A:Around}{E:Value->Shared->Prop}{a b:Value}{i:Nat}{Q:Value->Shared->Prop}(S1:Sub X.prog X.w X.K J1 i1 t1)(S2:Sub X.prog X.w X.K J2 i2 t2)(N:Apart z TI TO i1 i2)
  (I:Inv X pins σ H s) (hf:∀b∈[z,TI,TO,i1,i2],b6 X pins H b) (gz:IsZip s.heap z TI TO .none) (gI:IsPair s.heap TI (.ref i1) (.ref i2)) (gO:IsPair s.heap TO a b) (g1:t1 i s.heap) (g2:t2 i s.heap) (go1:J1.go i H) (go2:J2.go i H)
  (q:∀x y h',Inv X pins σ (upd H s.heap.objs.size (.tup [x,y])) { s with heap:=h' }->J1.yld i H x H->J2.yld i H y H->IsZip h' z TI TO (rawInt s.heap.objs.size)->IsPair h' TI (.ref i1) (.ref i2)->(∃a b,IsPair h' TO a b)->t1 (i+1) h'->t2 (i+1) h'->Q (.ref s.heap.objs.size) { s with heap:=h' }) :
  wpAny (model X.prog X.w) A (Builtin.«zip.__next__» ⟨[.ref z],[]⟩) (λfin s'=>∃v,fin=.done (.ret v)/\Q v s') E s:=by
 have fz:=hf z (by simp);have fO:=hf TO (by simp);have f1:=hf i1 (by simp);have f2:=hf i2 (by simp);show wpAny _ _ (field (Value.ref z) 2 >>= _) _ _ _;refine E8 (wpAny_field gz rfl (x:=Value.bool false) rfl ?_);show wpAny _ _ (field (Value.ref z) 3 >>= _) _ _ _;refine E8 (wpAny_field gz rfl (x:=Value.ref TI) rfl ?_);refine E8 (wpAny_seqItems gI rfl ?_);show wpAny _ _ (Builtin.SmallTypes.ownedTupleIsFree (Value.ref z) >>= _) _ _ _;refine E8 ?_;unfold Builtin.SmallTypes.ownedTupleIsFree;refine E8 (wpAny_field gz rfl (x:=Value.none) rfl (E9 ?_));simp only[if_true];refine E8 (wpAny_rule ?_);refine E8 (wpAny_field gz rfl (x:=Value.ref TO) rfl ?_);refine E8 (wpAny_setField_rec gz (by simp) λk1 gz1 b1=>?_)
 replace gz1:IsZip k1 z TI TO .ellipsis:=gz1
 have s1:=b1.1
 replace b1:=b1.extBut
 have I1:Inv X pins σ H { s with heap:=k1 }:=Inv.same (show Inv X pins σ H { s with heap:=s.heap }from I) fz b1;refine E8 ?_;simp only[List.zipIdx_cons,List.zipIdx_nil,List.forIn_cons,List.forIn_nil];refine E8 (E8 (wpAny_onRaise ?_));show wpAny _ _ (Builtin.SmallTypes.nextOf (Value.ref i1) >>= _) _ _ _;refine E8 (S1.item X rfl rfl rfl _ i pins _ σ H _ _ I1 f1 (S1.keep i _ _ g1 λo e=>b1 _ _ N.c e) go1 λx ux k2 I2 rx yx t12 b2=>E9 ?_)
 replace I2:Inv X pins σ H { s with heap:=k2 }:=I2
 have s2:=b2.1
 replace b2:=b2.extBut
 have gO2:IsPair k2 TO a b:=b2 _ _ N.h (b1 _ _ N.b gO);refine E8 (wpAny_seqItems gO2 rfl ?_);refine E8 (wpAny_updateSeq_pair gO2 λk3 gO3 b3=>?_)
 replace gO3:IsPair k3 TO ux b:=gO3
 have s3:=b3.1
 replace b3:=b3.extBut
 have I3:Inv X pins σ H { s with heap:=k3 }:=Inv.same I2 fO b3;refine E8 (wpAny_letGo (E9 ?_));refine E8 (E8 (wpAny_onRaise ?_));show wpAny _ _ (Builtin.SmallTypes.nextOf (Value.ref i2) >>= _) _ _ _;refine E8 (S2.item X rfl rfl rfl _ i pins _ σ H _ _ I3 f2 (S2.keep i _ _ g2 λo e=>b3 _ _ (Ne.symm N.i) (b2 _ _ (Ne.symm N.j) (b1 _ _ N.d e))) go2 λy uy k4 I4 ry yy t24 b4=>E9 ?_)
 replace I4:Inv X pins σ H { s with heap:=k4 }:=I4
 have s4:=b4.1
 replace b4:=b4.extBut
 have gO4:IsPair k4 TO ux b:=b4 _ _ N.i gO3;refine E8 (wpAny_seqItems gO4 rfl ?_);refine E8 (wpAny_updateSeq_pair gO4 λk5 gO5 b5=>?_)
 replace gO5:IsPair k5 TO ux uy:=gO5
 have s5:=b5.1
 replace b5:=b5.extBut
 have I5:Inv X pins σ H { s with heap:=k5 }:=Inv.same I4 fO b5;refine E8 (wpAny_letGo (E9 (E9 ?_)));refine E8 (wpAny_seqItems gO5 rfl ?_);refine E8 (wpAny_newTuple ?_);have sz:k5.objs.size=s.heap.objs.size:=by rw[s5,s4,s3,s2,s1]
 have gz5:IsZip k5 z TI TO .ellipsis:=b5 _ _ (Ne.symm N.b) (b4 _ _ (Ne.symm N.d) (b3 _ _ (Ne.symm N.b) (b2 _ _ (Ne.symm N.c) gz1)));have gI5:IsPair k5 TI (.ref i1) (.ref i2):=b5 _ _ N.e (b4 _ _ N.g (b3 _ _ N.e (b2 _ _ N.f (b1 _ _ N.a gI))));have t15:t1 (i+1) k5:=S1.keep _ _ _ (S1.keep _ _ _ (S1.keep _ _ _ t12 λo e=>b3 _ _ (Ne.symm N.h) e) λo e=>b4 _ _ N.j e) λo e=>b5 _ _ (Ne.symm N.h) e;have t25:t2 (i+1) k5:=S2.keep _ _ _ t24 λo e=>b5 _ _ (Ne.symm N.i) e;have lz:z<k5.objs.size:=Fe gz5;have I6:Inv X pins σ (upd H k5.objs.size (.tup [x,y])) { s with heap:=k5.push { cls:=.type "tuple",data:=.seq #[ux,uy] } }:=
  I5.laid (t':=s.toks) (o:=.tup [x,y]) (λb ob e=>Fc _ e) (FA _) ⟨by show 2<=sizeLine;decide,[ux,uy],.cons rx (.cons ry .nil),IsTup.new _ _⟩
 have fz6:b6 X pins (upd H k5.objs.size (.tup [x,y])) z:=by obtain⟨c0,c1,c2,c3,c4,c5⟩:=fz;exact⟨by rw[aC (Fz lz)];exact c0,c1,c2,c3,c4,c5⟩
 show wpAny _ _ (Builtin.SmallTypes.ownedTupleHandOut (Value.ref z) (Value.ref k5.objs.size) >>= _) _ _ _;refine E8 ?_;unfold Builtin.SmallTypes.ownedTupleHandOut;have gz6:IsZip (k5.push { cls:=.type "tuple",data:=.seq #[ux,uy] }) z TI TO .ellipsis:=Fc _ gz5;refine E8 (wpAny_setField_rec gz6 (by simp) λk7 gz7 b7=>?_)
 replace gz7:IsZip k7 z TI TO (rawInt k5.objs.size):=gz7
 replace b7:=b7.extBut
 have I7:Inv X pins σ (upd H k5.objs.size (.tup [x,y])) { s with heap:=k7 }:=Inv.same I6 fz6 b7;refine wpAny_setField_rec gz7 (by simp) λk8 gz8 b8=>?_
 replace gz8:IsZip k8 z TI TO (rawInt k5.objs.size):=gz8
 replace b8:=b8.extBut
 have I8:Inv X pins σ (upd H k5.objs.size (.tup [x,y])) { s with heap:=k8 }:=Inv.same I7 fz6 b8;have up:∀b o,b≠z->k5.get? b=some o->k8.get? b=some o:=λb o ne e=>b8 _ _ ne (b7 _ _ ne (Fc _ e));rw[sz]at I8 gz8;refine E9 ⟨_,rfl,?_⟩;show Q (.ref k5.objs.size) _;rw[sz];exact q x y k8 I8 yx yy gz8 (up _ _ N.a gI5) ⟨_,_,up _ _ N.b gO5⟩ (S1.keep _ _ _ t15 λo e=>up _ o N.c e) (S2.keep _ _ _ t25 λo e=>up _ o N.d e)
def CN{J1 J2:It}{z TI TO i1 i2:Addr}{t1 t2:Nat->Heap->Prop}{A:Around}{E:Value->Shared->Prop}{a b:Value}{i:Nat}{Q:Fin->Shared->Prop}(hA:A.handled=none)(S1:Sub X.prog X.w X.K J1 i1 t1)(S2:Sub X.prog X.w X.K J2 i2 t2)(N:Apart z TI TO i1 i2)
  (I:Inv X pins σ H s) (hf:∀b∈[z,TI,TO,i1,i2],b6 X pins H b) (gz:IsZip s.heap z TI TO .none) (gI:IsPair s.heap TI (.ref i1) (.ref i2)) (gO:IsPair s.heap TO a b) (g1:t1 i s.heap) (g2:t2 i s.heap) (st:J1.stop i H\/(J1.go i H/\J2.stop i H))
  (q:∀h' e,Inv X pins σ H { s with heap:=h' }->(∃o,h'.get? e=some o/\o.cls=.type "StopIteration")->E (.ref e) { s with heap:=h' }) :
  wpAny (model X.prog X.w) A (Builtin.«zip.__next__» ⟨[.ref z],[]⟩) Q E s:=by
 have fz:=hf z (by simp);have fO:=hf TO (by simp);have f1:=hf i1 (by simp);have f2:=hf i2 (by simp);show wpAny _ _ (field (Value.ref z) 2 >>= _) _ _ _;refine E8 (wpAny_field gz rfl (x:=Value.bool false) rfl ?_);show wpAny _ _ (field (Value.ref z) 3 >>= _) _ _ _;refine E8 (wpAny_field gz rfl (x:=Value.ref TI) rfl ?_);refine E8 (wpAny_seqItems gI rfl ?_);show wpAny _ _ (Builtin.SmallTypes.ownedTupleIsFree (Value.ref z) >>= _) _ _ _;refine E8 ?_;unfold Builtin.SmallTypes.ownedTupleIsFree;refine E8 (wpAny_field gz rfl (x:=Value.none) rfl (E9 ?_));simp only[if_true];refine E8 (wpAny_rule ?_);refine E8 (wpAny_field gz rfl (x:=Value.ref TO) rfl ?_);refine E8 (wpAny_setField_rec gz (by simp) λk1 gz1 b1=>?_)
 replace gz1:IsZip k1 z TI TO .ellipsis:=gz1
 replace b1:=b1.extBut
 have I1:Inv X pins σ H { s with heap:=k1 }:=Inv.same (show Inv X pins σ H { s with heap:=s.heap }from I) fz b1;refine E8 ?_;simp only[List.zipIdx_cons,List.zipIdx_nil,List.forIn_cons,List.forIn_nil];refine E8 (E8 (wpAny_onRaise ?_));show wpAny _ _ (Builtin.SmallTypes.nextOf (Value.ref i1) >>= _) _ _ _;have t11:t1 i k1:=S1.keep i _ _ g1 λo e=>b1 _ _ N.c e;rcases st with st|⟨go,st⟩
 ·refine E8 (S1.done X rfl rfl rfl _ hA i pins _ σ H _ _ I1 f1 t11 st λk2 e b2 he=>?_);obtain⟨oe,hoe,hce⟩:=he;have gz2:IsZip k2 z TI TO .ellipsis:=b2 _ _ (Ne.symm N.c) gz1;have I2:Inv X pins σ H { s with heap:=k2 }:=Inv.same I1 f1 b2;have ne:e≠z:=λx=>by subst x;rw[gz2]at hoe;cases hoe;simp at hce
  exact wpAny_setField_rec gz2 (by simp) λk3 _ b3=>q k3 e (Inv.same I2 fz b3.extBut) ⟨oe,b3.extBut _ _ ne hoe,hce⟩
 ·refine E8 (S1.item X rfl rfl rfl _ i pins _ σ H _ _ I1 f1 t11 go λx ux k2 I2 rx yx t12 b2=>E9 ?_)
  replace I2:Inv X pins σ H { s with heap:=k2 }:=I2
  replace b2:=b2.extBut
  have gO2:IsPair k2 TO a b:=b2 _ _ N.h (b1 _ _ N.b gO);refine E8 (wpAny_seqItems gO2 rfl ?_);refine E8 (wpAny_updateSeq_pair gO2 λk3 gO3 b3=>?_)
  replace b3:=b3.extBut
  have I3:Inv X pins σ H { s with heap:=k3 }:=Inv.same I2 fO b3;refine E8 (wpAny_letGo (E9 ?_));refine E8 (E8 (wpAny_onRaise ?_));show wpAny _ _ (Builtin.SmallTypes.nextOf (Value.ref i2) >>= _) _ _ _;refine E8 (S2.done X rfl rfl rfl _ hA i pins _ σ H _ _ I3 f2 (S2.keep i _ _ g2 λo e=>b3 _ _ (Ne.symm N.i) (b2 _ _ (Ne.symm N.j) (b1 _ _ N.d e))) st λk4 e b4 he=>?_);obtain⟨oe,hoe,hce⟩:=he;have gz4:IsZip k4 z TI TO .ellipsis:=b4 _ _ (Ne.symm N.d) (b3 _ _ (Ne.symm N.b) (b2 _ _ (Ne.symm N.c) gz1));have I4:Inv X pins σ H { s with heap:=k4 }:=Inv.same I3 f2 b4;have ne:e≠z:=λx=>by subst x;rw[gz4]at hoe;cases hoe;simp at hce
  exact wpAny_setField_rec gz4 (by simp) λk5 _ b5=>q k5 e (Inv.same I4 fz b5.extBut) ⟨oe,b5.extBut _ _ ne hoe,hce⟩
end
def AU{P:Program}{w:World}{K:Fb}{elts:List Expr}{kk:Nat}{ps:Pos}{J1 J2:It}{z TI TO i1 i2:Addr}{t1 t2:Nat->Heap->Prop}(S1:Sub P w K J1 i1 t1)(S2:Sub P w K J2 i2 t2)(N:Apart z TI TO i1 i2):
  Turn P w K (.Tuple elts kk ps) (iH J1 J2) [z,TI,TO,i1,i2] z (λi h=>IsZip h z TI TO .none/\IsPair h TI (.ref i1) (.ref i2)/\(∃a b,IsPair h TO a b)/\t1 i h/\t2 i h) where
 mem:=by simp
 obj:=λi h st b hb=>by
  obtain⟨gz,gI,⟨a,c,gO⟩,g1,g2⟩:=st;simp only[Fv,FQ,or_false]at hb;rcases hb with rfl|rfl|rfl|rfl|rfl
  ·exact⟨_,gz,λv e=>by cases(show Data.fields _=Data.cell v from e)⟩
  ·exact⟨_,gI,λv e=>by cases(show Data.seq _ _=Data.cell v from e)⟩
  ·exact⟨_,gO,λv e=>by cases(show Data.seq _ _=Data.cell v from e)⟩
  ·exact S1.obj _ _ g1
  ·exact S2.obj _ _ g2
 keep:=λi h h' st k=>by obtain⟨gz,gI,⟨a,c,gO⟩,g1,g2⟩:=st;exact⟨k z (by simp) _ gz,k TI (by simp) _ gI,⟨a,c,k TO (by simp) _ gO⟩,S1.keep _ _ _ g1 λo e=>k i1 (by simp) o e,S2.keep _ _ _ g2 λo e=>k i2 (by simp) o e⟩
 item:=by
  intro X hP hw hK hc i pins s σ H E I hf st hg;subst hP hw hK;obtain⟨gz,gI,⟨a,c,gO⟩,g1,g2⟩:=st;have gT:s.TypeIs (.ref z) "zip":=⟨_,gz,rfl⟩;unfold pyNext;refine E8 (wpAny_attempt (F7 (name:=FW "__next__") gT F.slot_zip_next (wpAny_call_entry F.slot_zip_next gT F.entry_zip_next
   (zP S1 S2 N I hf gz gI gO g1 g2 hg.1 hg.2 λx y h' I' yx yy gz' gI' gO' g1' g2'=>E9 ⟨_,rfl,?_⟩) (F.args_zip_next_1 _))))
  have lt:∀b∈[z,TI,TO,i1,i2],b≠s.heap.objs.size:=λb hb=>by
   obtain⟨f0,f1,f2,f3,f4,f5⟩:=hf b hb;simp only[Fv,FQ,or_false]at hb;rcases hb with rfl|rfl|rfl|rfl|rfl
   ·exact Fz (Fe gz)
   ·exact Fz (Fe gI)
   ·exact Fz (Fe gO)
   ·obtain⟨o,e,_⟩:=S1.obj _ _ g1;exact Fz (Fe e)
   ·obtain⟨o,e,_⟩:=S2.obj _ _ g2;exact Fz (Fe e)
  have fz:b6 X pins (upd H s.heap.objs.size (.tup [x,y])) z:=by obtain⟨c0,c1,c2,c3,c4,c5⟩:=hf z (by simp);exact⟨by rw[aC (lt z (by simp))];exact c0,c1,c2,c3,c4,c5⟩
  obtain⟨a',c',gO'⟩:=gO';refine wpAny_letOwnedTupleGo_zip (s:={ s with heap:=h' }) gz' λk gk bk=>?_;refine⟨.ref s.heap.objs.size,upd H s.heap.objs.size (.tup [x,y]),Inv.same I' fz bk.extBut,rfl,⟨_,x,y,rfl,I.hok.fresh (FA _),rfl,yx,yy⟩,
   ⟨gk,bk.extBut _ _ N.a gI',⟨_,_,bk.extBut _ _ N.b gO'⟩,S1.keep _ _ _ g1' λo e=>bk.extBut _ _ N.c e,S2.keep _ _ _ g2' λo e=>bk.extBut _ _ N.d e⟩,λb hb=>?_⟩
  rw[aC (lt b hb)];exact(hf b hb).1
 done:=by
  intro X hP hw hK hc i pins s σ H E I hf st hg;subst hP hw hK;obtain⟨gz,gI,⟨a,c,gO⟩,g1,g2⟩:=st;have gT:s.TypeIs (.ref z) "zip":=⟨_,gz,rfl⟩;unfold pyNext;refine E8 (wpAny_attempt (F7 (name:=FW "__next__") gT F.slot_zip_next (wpAny_call_entry F.slot_zip_next gT F.entry_zip_next
   (CN (I.ok.hd hc) S1 S2 N I hf gz gI gO g1 g2 hg λh' e I' he=>?_) (F.args_zip_next_1 _))))
  obtain⟨o,ho,hc'⟩:=he;refine E8 (wpAny_isInstance (s:={ s with heap:=h' }) (T:="StopIteration") (b:=true) ⟨o,ho,hc'⟩ isSubtype_stop ?_);exact E9 ⟨rfl,I'⟩
 self:=λ_ _ _ _ _ st h=>wpAny_pyIter_zip st.1 h
abbrev kL(h:Heap)(a:Addr):Heap:=h.push { cls:=.type "tuple_iterator",data:=.fields #[.ref a,.int 0 0] }
abbrev jD(h:Heap)(a b:Addr):Heap:=(kL h a).push { cls:=.type "tuple_iterator",data:=.fields #[.ref b,.int 0 0] }
abbrev jR(h:Heap)(a b:Addr):Heap:=(jD h a b).push { cls:=.type "tuple",data:=.seq #[.ref h.objs.size,.ref (kL h a).objs.size] }
abbrev jF(h:Heap)(a b:Addr):Heap:=(jR h a b).push { cls:=.type "tuple",data:=.seq #[.none,.none] }
abbrev iD(h:Heap)(a b:Addr):Heap:=(jF h a b).push { cls:=.type "zip",data:=.fields #[.none,.bool false,.bool false,.ref (jD h a b).objs.size,.ref (jR h a b).objs.size] }
def Cu(a b:Addr)(xs ys:Array Value):Meets (Builtin.«zip.__new__» ⟨[.type "zip",.ref a,.ref b],[]⟩) (λ_ R s=>s.heap.IsTuple a xs/\s.heap.IsTuple b ys/\R (.ok (.ret (.ref (jF s.heap a b).objs.size))) { s with heap:=iD s.heap a b }):=
 .of_wp λprog w A R s q=>by
  obtain⟨hp,g,d,tk,os⟩:=s;obtain⟨ga,gb,q⟩:=q;have hsub:=sub_zip;have gA:Heap.IsTuple (Shared.heap ⟨hp,g,d,tk,os⟩) a xs:=ga;have gB:Heap.IsTuple (Shared.heap ⟨hp.push { cls:=.type "tuple_iterator",data:=.fields #[.ref a,.int 0 0] },g,d,tk,os⟩) b ys:=Heap.IsTuple.push gb _
  wp_walk using wpAny_pyIter_tuple gA,wpAny_pyIter_tuple gB
  exact⟨_,rfl,q⟩
def Bc{prog:Program}{w:World}{A:Around}{E:Value->Shared->Prop}{s:Shared}{a b:Addr}{xs ys:Array Value}{Q:Value->Shared->Prop}(ga:s.heap.IsTuple a xs)(gb:s.heap.IsTuple b ys)
  (q:∀h',IsZip h' (s.heap.objs.size+4) (s.heap.objs.size+2) (s.heap.objs.size+3) .none->IsPair h' (s.heap.objs.size+2) (.ref s.heap.objs.size) (.ref (s.heap.objs.size+1))->IsPair h' (s.heap.objs.size+3) .none .none →
   h'.IsTupleIter s.heap.objs.size a 0->h'.IsTupleIter (s.heap.objs.size+1) b 0->(∀c o,s.heap.get? c=some o->h'.get? c=some o)->Q (.ref (s.heap.objs.size+4)) { s with heap:=h' }) :
  wpAny (model prog w) A (call (.type "zip") [.ref a,.ref b]) Q E s:=by
 refine callType_new F.called_zip (by decide) (F.typeCall_zip_2 _ _) (F.newCall_zip_2 _ _) (λob=>F.args_object_init_3 ob _ _) F.entry_zip_new (Cu a b xs ys) ⟨ga,gb,?_⟩;have n1:(kL s.heap a).objs.size=s.heap.objs.size+1:=Heap.size_push ..;have n2:(jD s.heap a b).objs.size=s.heap.objs.size+2:=by rw[Heap.size_push,n1]
 have n3:(jR s.heap a b).objs.size=s.heap.objs.size+3:=by rw[Heap.size_push,n2]
 have n4:(jF s.heap a b).objs.size=s.heap.objs.size+4:=by rw[Heap.size_push,n3]
 have k5:(iD s.heap a b).get? (jF s.heap a b).objs.size=some _:=Fd _ rfl;have k4:(iD s.heap a b).get? (jR s.heap a b).objs.size=some _:=Fc _ (Fd _ rfl);have k3:(iD s.heap a b).get? (jD s.heap a b).objs.size=some _:=Fc _ (Fc _ (Fd _ rfl));have k2:(iD s.heap a b).get? (kL s.heap a).objs.size=some _:=Fc _ (Fc _ (Fc _ (Fd _ rfl)));have k1:(iD s.heap a b).get? s.heap.objs.size=some _:=Fc _ (Fc _ (Fc _ (Fc _ (Fd _ rfl))));show _/\_;rw[n2,n3,n4]at k5;rw[n1,n2]at k3;rw[n3]at k4;rw[n1]at k2;rw[n4];exact⟨⟨_,k5,rfl⟩,q _ k5 k3 k4 ⟨_,k1,rfl,rfl⟩ ⟨_,k2,rfl,rfl⟩ λc o x=>Fc _ (Fc _ (Fc _ (Fc _ (Fc _ x))))⟩
section
variable {K:Fb} {σ:St} {H:Hp} {Q:VK}
def mh(K:Fb):List V->Hp->(It->Hp->Prop)->Prop:=λvs H R=>∃a b xs ys,vs=[.ref a,.ref b]/\((ah K H a xs/\ah K H b ys/\R (iH (cK K a) (cK K b)) H)\/(ag K H a xs/\ag K H b ys/\R (iH (dA K a) (dA K b)) H))
def uB(K:Fb)(ta:TA):TI:=λσ H R=>ta σ H λvs H1=>mh K vs H1 R
def yz{X:Cx}{elts:List Expr}{kk:Nat}{ps:Pos}(K:Fb){a b:Expr}{ta:TA}{p pos:Pos}(hg:Gl X "zip")(hm:X.mg "zip" = none)(ha:PA X [a,b] ta)(hK:X.K=K:=by rfl)(hs:starEach [a,b] X.env=[(false,eval a X.env),(false,eval b X.env)]:=by rfl)(hs2:starEach [b] X.env=[(false,eval b X.env)]:=by rfl):
  PI X (.Tuple elts kk ps) (.Call (.Name "zip" p) [a,b] [] pos) (uB K ta):=by
 subst hK;intro pins s σ H R I h;refine Call_ (fh I hg hm PyProof.Rows.boot_zip (PyProof.Rows.callWith_type1 (aD (ha pos pins s σ H _ I h) λus s1 ⟨vs,H1,I1,r1,q1⟩=>?_) (by rw[hs,hs2]) (by rw[hs2];rfl)));obtain⟨l,m,xs,ys,e,q1⟩:=q1;subst e;cases r1 with
 | cons r rr=>
  cases rr with
  | cons r' rr=>
   cases rr;cases r;cases r';have mk:∀{J1 J2:It} {t1 t2:Nat->Heap->Prop},Sub X.prog X.w X.K J1 s1.heap.objs.size t1->Sub X.prog X.w X.K J2 (s1.heap.objs.size+1) t2->∀h',IsZip h' (s1.heap.objs.size+4) (s1.heap.objs.size+2) (s1.heap.objs.size+3) .none->IsPair h' (s1.heap.objs.size+2) (.ref s1.heap.objs.size) (.ref (s1.heap.objs.size+1)) →
     IsPair h' (s1.heap.objs.size+3) .none .none->t1 0 h'->t2 0 h'->(∀c o,s1.heap.get? c=some o->h'.get? c=some o)->R (iH J1 J2) H1->wpAny (model X.prog X.w) X.A (pyIter (.ref (s1.heap.objs.size+4))) (o8 X pins σ (.Tuple elts kk ps) R) X.xe { s1 with heap:=h' }:=by
    intro J1 J2 t1 t2 S1 S2 h' gz gI gO g1 g2 k q;refine wpAny_pyIter_zip (s:={ s1 with heap:=h' }) gz ?_;have N:Apart (s1.heap.objs.size+4) (s1.heap.objs.size+2) (s1.heap.objs.size+3) s1.heap.objs.size (s1.heap.objs.size+1):=by constructor<;>(intro h;have h':@Eq Nat _ _:=h;omega)
    refine⟨s1.heap.objs.size+4,[s1.heap.objs.size+4,s1.heap.objs.size+2,s1.heap.objs.size+3,s1.heap.objs.size,s1.heap.objs.size+1],_,_,H1,rfl,I1.kept (t':=s1.toks) k,AU S1 S2 N,⟨gz,gI,⟨_,_,gO⟩,g1,g2⟩,λb hb=>?_,q⟩;have le:@LE.le Nat _ s1.heap.objs.size b:=by
     simp only[Fv,FQ,or_false]at hb;rcases hb with rfl|rfl|rfl|rfl|rfl
     ·exact Nat.le_add_right _ _
     ·exact Nat.le_add_right _ _
     ·exact Nat.le_add_right _ _
     ·exact FA _
     ·exact Nat.le_add_right _ _
    exact I1.fpOk le (I1.hok.fresh le)
   rcases q1 with⟨ga,gb,q⟩|⟨ga,gb,q⟩
   ·obtain⟨its,_,p1,_⟩:=I1.tuple ga;obtain⟨its2,_,p2,_⟩:=I1.tuple gb;exact Bc (show s1.heap.IsTuple l its.toArray from p1) (show s1.heap.IsTuple m its2.toArray from p2) λh' gz gI gO g1 g2 k=>mk (rJ l _) (rJ m _) h' gz gI gO g1 g2 k q
   ·obtain⟨its,_,p1,_⟩:=I1.list ga;obtain⟨its2,_,p2,_⟩:=I1.list gb;exact call_zip_2 p1.isList p2.isList λh' gz gI gO g1 g2 _ k=>mk (sL l _) (sL m _) h' gz gI gO g1 g2 k q
def rd_zip{a:TA}{R:It->Hp->Prop}(h:a σ H λvs H1=>mh K vs H1 R):uB K a σ H R:=h
def EK{a b:Addr}{xs ys:List V}{R:It->Hp->Prop}(ha:ah K H a xs)(hb:ah K H b ys)(h:R (iH (cK K a) (cK K b)) H):mh K [.ref a,.ref b] H R:=⟨a,b,xs,ys,rfl,.inl ⟨ha,hb,h⟩⟩
def zf{a b:Addr}{xs ys:List V}{n:Nat}{js:List Nat}{g:TG}{tc:TT}{te:TE}(Pv:Nat->List V->Hp->Prop)(hz:xs.length<=sizeLine)(h0:Pv 0 [] H)(hl:∀i zs H,Pv i zs H->ah K H a xs/\ah K H b ys/\zs.length<=i)
  (hs:∀i u v zs H p H',xs[i]?=some u->ys[i]?=some v->Pv i zs H->Ext H H'->H' p=some (.tup [u,v])->H p=none->g (.ref p) (dv n js σ) H' λσ2 H3=>tc σ2 H3 λb H4=>if b=true then te σ2 H4 λv H5=>Pv (i+1) (zs++[v]) H5 else Pv (i+1) zs H4)
  (hd:∀zs H p,Pv (min xs.length ys.length) zs H->H p=none->Q (.ref p) (upd H p (.lst zs))):gD (iH (cK K a) (cK K b)) n js g tc te σ H Q:=by
 refine⟨λi m zs H=>m=min xs.length ys.length-i/\i<=min xs.length ys.length/\Pv i zs H,⟨min xs.length ys.length,by simp,Nat.zero_le _,h0⟩,?_⟩;rintro i m zs H ⟨rfl,hi,p⟩;obtain⟨qa,qb,ql⟩:=hl i zs H p;by_cases hlt:i<min xs.length ys.length
 ·have hx:i<xs.length:=by omega
  have hy:i<ys.length:=by omega
  refine .inr ⟨⟨⟨xs,xs[i],qa,by simp[hx]⟩,⟨ys,ys[i],qb,by simp[hy]⟩⟩,by omega,Pv (i+1),λzs' H' p'=>⟨min xs.length ys.length-(i+1),by omega,rfl,hlt,p'⟩,λx H' y=>?_⟩;obtain⟨pp,u,v,rfl,hn,rfl,yu,yv⟩:=y;exact hs i u v zs H pp _ (yu.2 xs qa) (yv.2 ys qb) p (bq hn) aL hn
 ·have e:i=min xs.length ys.length:=by omega
  refine .inl ⟨?_,λp' hp=>hd zs H p' (e ▸ p) hp⟩;by_cases h:xs.length<=i
  ·exact .inl ⟨xs,qa,h⟩
  ·exact .inr ⟨⟨xs,xs[i]'(by omega),qa,Fg (by omega)⟩,⟨ys,qb,by omega⟩⟩
end
def CQ{prog:Program}{w:World}{A:Around}{E:Value->Shared->Prop}{s:Shared}{t sl:Addr}{ys:Array Value}{vl vu:Value}{lo hi:Option Int}{Q:Value->Shared->Prop}(gt:IsTup s.heap t ys)(gs:s.heap.IsSliceOf sl vl vu .none)(pl:IsPart vl lo)(pu:IsPart vu hi)
  (gw:HT.aP ys.size 0 lo=0/\HT.aP ys.size ys.size hi=ys.size) (q:Q (.ref t) s):wpAny (model prog w) A (getItem (.ref t) (.ref sl)) Q E s:=by
 obtain⟨u,gu,gc,gd⟩:=id gs;have gT:s.TypeIs (.ref sl) "slice":=⟨u,gu,gc⟩;unfold getItem
 try with_reducible refine wpAny_holding ?_
 first|refine E8 (E9 ?_)|skip
 refine E8 (wpAny_sequenceKey gt.typeIs (by decide) ?_);refine E8 (F7 (name:=FW "__getitem__") gt.typeIs PyProof.Rows.slot_tuple_getitem (wpAny_call_entry PyProof.Rows.slot_tuple_getitem gt.typeIs entry_tuple_getitem ?_ (args_tuple_getitem _ _)));show wpAny _ _ (Builtin.Tuple.tupleItemsOf (Value.ref t) >>= _) _ _ s;refine E8 (tupleItemsOf_ gt ?_);refine E8 (wpAny_typeOf gT ?_);rw[Ge (by decide)];refine E8 (HT.tV gs pl pu ?_);show wpAny _ _ (if(((HT.aP ys.size 0 lo:Nat):Int) == 0 && (1:Int) == 1 && (HT.aP ys.size ys.size hi-HT.aP ys.size 0 lo) == ys.size)=true then _ else _) _ _ s;rw[Ge (by rw[gw.1,gw.2];simp)];show wpAny _ _ (Builtin.Tuple.tupleIsExact (Value.ref t) >>= _) _ _ s;unfold Builtin.Tuple.tupleIsExact;refine E8 (E8 (wpAny_typeOf gt.typeIs (E9 ?_)));rw[Ge (by decide)];refine E8 (wpAny_rule ?_);exact E9 ⟨_,rfl,E9 q⟩
def wI:V->Option Int->Option Int->Hp->VK->Prop:=λx lo hi H Q=>∃a xs,x=.ref a/\H a=some (.tup xs)/\∀p H',Ext H H'->H' p=some (.tup (bV xs lo hi))->Q (.ref p) H'
def Ei{X:Cx}:jw X wI:=by
 intro pins s σ H x v vl vu lo hi sl Q I rx hs pl pu h;obtain⟨a,xs,rfl,hx,q⟩:=h;by_cases gw:HT.aP xs.length 0 lo=0/\HT.aP xs.length xs.length hi=xs.length
 ·cases rx;obtain⟨its,r,ht,hz⟩:=I.tuple (ah.of hx);have hlen:its.toArray.size=xs.length:=by rw[Fl];exact r.length.symm
  refine⟨"tuple",_,PyProof.Rows.slot_tuple_getitem.lookup,ht.typeIs,?_⟩;refine CQ ht hs pl pu (by rw[hlen];exact gw) ⟨.ref a,H,I,rfl,q a H (Ext.rfl' H) ?_⟩;have:bV xs lo hi=xs:=by unfold bV;rw[gw.1,gw.2,List.drop_zero,Nat.sub_zero,FK]
  rw[this];exact hx
 ·exact yZ pins s σ H (.ref a) v vl vu lo hi sl Q I rx hs pl pu ⟨a,xs,rfl,ah.of hx,gw,λp hp=>q p _ (bq hp) aL⟩
def BC{H:Hp}{Q:VK}{a:Addr}{xs:List V}{lo hi:Option Int}(e:H a=some (.tup xs))(h:∀p H',Ext H H'->H' p=some (.tup (bV xs lo hi))->Q (.ref p) H'):wI (.ref a) lo hi H Q:=⟨a,xs,rfl,e,h⟩
def EV{K:Fb}{H:Hp}{Q:VK}{p:Addr}{ys:List V}(e:ah K H p ys)(h:eI H (.lst ys) Q):kR K [.ref p] H Q:=⟨p,ys,rfl,.inr e,h⟩
mutual
inductive LitE:Expr->TE->Prop
 | non {j pos}:LitE (.Constant .none j pos) (tC .non)
 | bl {b j pos}:LitE (.Constant (.bool b) j pos) (tC (.bl b))
 | int {i j pos}:LitE (.Constant (.int i) j pos) (tC (.int i))
 | str {x j pos}:LitE (.Constant (.str x) j pos) (tC (.str x))
 | tup {es ta k pos}:LitsE es ta->LitE (.Tuple es k pos) (mJ ta)
inductive LitsE:List Expr->TA->Prop
 | nil:LitsE [] nM
 | cons {e te es ta}:LitE e te->LitsE es ta->LitsE (e::es) (oN te ta)
end
def fR(c:Addr)(q:Str):HO:=.ext λh=>h.CodeRec (.ref c) q
def EJ{P:Program}{w:World}{H:Hp}{h:Heap}{c:Addr}{q:Str}(r:h.CodeRec (.ref c) q):bC P w H h c (fR c q):=by
 refine⟨r,?_,λh1 h2 r1 k=>?_⟩
 ·obtain⟨c',o,vs,t,e,g,_⟩:=r;cases e;exact⟨o,g⟩
 ·obtain⟨c',o,vs,t,e,g,d⟩:=r1;cases e;exact⟨c,o,vs,t,rfl,k o g,d⟩
section
variable {X:Cx} {pins:List (Addr×Obj)} {σ:St} {H:Hp} {s:Shared}
end
structure Tab(K:Fb)(mg:Str->Option Value)(base:Heap)(x:Str)(c T:Addr):Prop where
 tin:PySem.W.tabIn K x=some (c,T)
 hd:PySem.W.CodeHd base c T
 blt:base.BuiltinsAt mg T
 gl:mainGlobals≠T
 kin:K.In base
 ns:base.Ns mainGlobals mg
section
variable {P:Program} {w:World} {K:Fb} {mg:Str->Option Value} {base:Heap}
def EW{x:Str}{c T f:Addr}{o:Obj}{fd:FuncData}(ht:PySem.W.tabIn K x=some (c,T))(KX:K.In base)(G:base.Ns mainGlobals mg)(hm:mg x=some (.ref f))(lk:K.lookup f=some o)(hd:o.data=.func fd):fd.code=.ref c:=by
 unfold PySem.W.tabIn at ht;split at ht
 ·rename_i f' hf;have e1:=PySem.W.mg_of KX G hf;rw[hm]at e1;cases e1;split at ht
  ·rename_i hfo;rw[lk]at hfo;cases hfo;cases hd;split at ht
   ·rename_i c2 hc;split at ht
    ·split at ht
     ·cases ht;exact hc
     ·cases ht
    ·cases ht
   ·cases ht
  ·cases ht
 ·cases ht
def Dfn.okL{x:Str}{st:Stmt}{N ps:List Str}{k:Nat}{sp:Sp}{c T:Addr}(D:Dfn K mg x st ps)(B:Tab K mg base x c T)(S:FnScope N ps (aH st))(len:∀vs H Q E,sp vs H Q E->vs.length=ps.length)
  (hbody:∀(X:Cx) (hX:∃f A outer s H E,X=(f9 dX P w K mg base N x (aH st) f (.ref c) A outer s H E).nox/\Room k X.A) (H:Hp) (vs:List V) (Q:VK) (E:XK),sp vs H Q E →
   ∃t,cS X (eL st) t/\t { nx:=λ_ H'=>Q .non H',rt:=Q } (start N vs) H):Cal P w K mg base x (k+1) ps sp:=by
 obtain⟨f,fd,hm,F,hb⟩:=D.ex;refine⟨f,fd,hm,F.kp,hb,?_⟩;obtain⟨oc,od,kV,doc,pm,an,cdv,ct,osl,rfl,lk,hcd⟩:=F.ex;have e:cdv=.ref c:=EW B.tin B.kin B.ns hm lk rfl;subst e;refine uM lk hcd S len λA outer s H vs Q E hr hsp=>?_;obtain⟨t,h,q⟩:=hbody _ ⟨f,A,outer,s,H,E,rfl,hr⟩ H vs Q E hsp;exact⟨t,h.nox,q⟩
end
def vo(tabs:List (Addr×Addr))(H:Hp):Prop:=∀q∈tabs,H q.2=some (.tbl #[])
def Du{P:Program}{w:World}{K:Fb}{mg mb:Str->Option Value}{k:Nat}{fa a:Addr}{fd:FuncData}{x:Str}{sp:Sp}{s₁:Shared}{vs:List Value}{ns:List Int}{tabs:List (Addr×Addr)}
  (KX:K.In s₁.heap) (hK:PySem.W.noTabs K=true) (hT:PySem.W.TabsAt tabs s₁.heap) (hns:s₁.heap.Ns mainGlobals mg) (hb:s₁.heap.Ns builtinsNs mb) (hbb:∀x:Str,x≠"__name__"->mb x=bootBuiltins x) (hlim:s₁.heap.NoLimit)
  (hbm:∃bm ob,mg "__builtins__" = some (.ref bm)/\bm≠builtinsNs/\s₁.heap.get? bm=some ob/\ob.cls=.type "module"/\ob.dict=some builtinsNs/\ob.data=.plain) (hg:s₁.gens = #[])
  (ha:s₁.heap.get? a=some { cls:=.type "list",data:=.seq vs.toArray }) (hi:IntsAre vs ns) (hl:ns.length<=sizeLine) (hr:Room k callerA)
  (F:∀base:Heap,K.In base->base.Ns mainGlobals mg->(∀q∈tabs,PySem.W.CodeHd base q.1 q.2/\base.BuiltinsAt mg q.2/\mainGlobals≠q.2)->FnOk P w K mg base dX k fa fd [x] sp) (hbind:∀(s:Shared) (u:Value),BindsTo s fd ⟨[u],[]⟩ [(x,u)])
  (hsp:∀H:Hp,vo tabs H->ag K H a (ns.map V.int)->sp [.ref a] H (λv _=>v=.bl true) λ_ _ _=>False) :
  codeAny (model P w) callerA (.call (.ref fa) ⟨[.ref a],[]⟩) (λr s'=>r=.ok (.ret (.bool true))/\OldK s₁.heap s'.heap/\s'.os=s₁.os/\AllBare s'.gens) s₁:=by
 have rv:=vQ hi;have lenV:=hi.length;have na:∀q∈tabs,a≠q.2:=λq hq z=>by have:=(hT q hq).2;rw[←z,ha]at this;cases this
 have noT:∀{b:Addr} {o:Obj},s₁.heap.get? b=some o->o≠PySem.W.tabObj #[]->b∉tabs.map (·.2):=λ{b o} e n hm=>by obtain⟨q,hq,rfl⟩:=List.mem_map.mp hm;have:=(hT q hq).2;rw[e]at this;exact n (FX this)
 have core:∀H:Hp,vo tabs H->ag K H a (ns.map V.int)->bt P w H s₁.heap->(∀b,H b≠none->b=a\/b∈tabs.map (·.2))->(H a≠none->K.lookup a=none/\∃o xs,H a=some (.frz o (.lst xs))) →
   codeAny (model P w) callerA (.call (.ref fa) ⟨[.ref a],[]⟩) (λr s'=>r=.ok (.ret (.bool true))/\OldK s₁.heap s'.heap/\s'.os=s₁.os/\AllBare s'.gens) s₁:=by
  intro H hO hS hok hA hKa;have free:∀{b:Addr} {o:Obj},s₁.heap.get? b=some o->o≠PySem.W.tabObj #[]->b≠a->H b=none:=λ{b o} e n nb=>by
   cases q:H b with
   | none=>rfl
   | some u=>
    rcases hA b (by rw[q];simp)with z|z
    ·exact absurd z nb
    ·exact absurd z (noT e n)
  have nsK:∀{b:Addr} {m:Str->Option Value},s₁.heap.Ns b m->(fg s₁.heap H).Ns b m:=λ{b m} ⟨o,es,ep,e,d,r⟩=>⟨o,es,ep,kM e (free e (λz=>by rw[z]at d;cases d) λz=>by rw[z,ha]at e;cases e;cases(show Data.seq vs.toArray _=Data.dict es ep from d)),d,r⟩;have hKb:K.In (fg s₁.heap H):=λb o e=>kM (KX b o e) (by
   by_cases z:b=a
   ·subst z;cases q:H b with
    | none=>rfl
    | some u=>
     have:=(hKa (by rw[q];simp)).1;rw[this]at e;cases e
   ·refine free (KX b o e) (λz2=>?_) z;have h2:=FR.mp hK (b,o) (PySem.W.mem_of_lookupK e);subst z2;exact absurd (show false=true from h2) Fw)
  have hM:Mod K mg (fg s₁.heap H):=⟨hKb,nsK hns,⟨mb,nsK hb,hbb⟩,let ⟨mc,h1,h2⟩:=hlim;⟨mc,nsK h1,h2⟩⟩;have e0:Env0 P w K mg (fg s₁.heap H) callerA [] s₁ H:=⟨rfl,hM,λb o e=>Bv e,Nat.le_of_eq (Eb _ _),trivial,λb hb=>absurd (show b∈([]:List Addr)from hb) (by simp),hok,.of_eq hg⟩;have tabsB:∀q∈tabs,PySem.W.CodeHd (fg s₁.heap H) q.1 q.2/\(fg s₁.heap H).BuiltinsAt mg q.2/\mainGlobals≠q.2:=λq hq=>by
   refine⟨?_,?_,?_⟩
   ·obtain⟨o,us,file,tf,flags,tg,inF,text,tt,e,hc,r⟩:=(hT q hq).1;exact⟨o,us,file,tf,flags,tg,inF,text,tt,kM e (free e (λz=>by rw[z]at hc;cases hc) λz=>by rw[z,ha]at e;cases e;simp at hc),hc,r⟩
   ·obtain⟨bm,ob,a1,a2,a3,a4,a5⟩:=hbm;refine⟨bm,ob,a1,a2,λz=>?_,λz=>?_,kM a3 (free a3 (λz=>by rw[z]at a4;cases a4) λz=>by rw[z,ha]at a3;cases a3;simp at a4),a4,a5⟩
    ·obtain⟨o,es,ep,e,d,_⟩:=hns;rw[←z,a3]at e;cases e;rw[a5.2]at d;cases d
    ·have:=(hT q hq).2;rw[←z,a3]at this;cases this;cases a4
   ·intro z;obtain⟨o,es,ep,e,d,_⟩:=hns;have:=(hT q hq).2;rw[←z,e]at this;cases this;cases d
  refine codeAny_mono ((F _ hKb (nsK hns) tabsB).run callerA [] s₁ H ⟨[.ref a],[]⟩ [.ref a] [.ref a] _ _ hr e0 (hbind s₁ (.ref a)) (.cons rfl .nil) (hsp H hO hS)) λr s' h=>?_;cases r with
  | error e=>exact False.elim h
  | ok fl=>
   cases fl with
   | next=>exact False.elim h
   | brk=>exact False.elim h
   | cont=>exact False.elim h
   | ret u=>
    obtain⟨v,H',os,bare,un,hok',r',q⟩:=h;have q':v=.bl true:=q;subst q';obtain rfl:u=Value.bool true:=r';have keep:∀b o,s₁.heap.get? b=some o->b∉tabs.map (·.2)->s'.heap.get? b=some o:=λb o e nt=>by
     cases q:H b with
     | none=>exact un.keep b o e q (by intro z;exact absurd (show b∈([]:List Addr)from z) (by simp)) (by simp)
     | some u=>
      rcases hA b (by rw[q];simp)with z|z
      ·subst z;obtain⟨_,ob,xs,z⟩:=hKa (by rw[q];simp);have z2:=un.frzs b ob _ z;obtain⟨e1,_⟩:=hok b _ z;obtain⟨e2,_⟩:=hok' b _ z2;rw[e]at e1;cases e1;exact e2
      ·exact absurd z nt
    have grown:∀q∈tabs,∃more,s'.heap.get? q.2=some (PySem.W.tabObj (#[]++more)):=λq hq=>by obtain⟨more,e⟩:=un.tbls q.2 _ (hO q hq);exact⟨more,hok' q.2 _ e⟩
    refine⟨rfl,⟨λb o e=>?_,λb o e=>?_⟩,os,bare⟩
    ·by_cases hm:b∈tabs.map (·.2)
     ·obtain⟨q,hq,rfl⟩:=List.mem_map.mp hm;obtain⟨more,g⟩:=grown q hq;have e2:=(hT q hq).2;rw[e]at e2;cases e2;exact .inr (.inl ⟨((hT q hq).1.tab (hT q hq).2).isCodeTable,rfl,#[],more,rfl,g⟩)
     ·exact .inl (keep b o e hm)
    ·by_cases hm:b∈tabs.map (·.2)
     ·obtain⟨q,hq,rfl⟩:=List.mem_map.mp hm;obtain⟨more,g⟩:=grown q hq;exact⟨_,g⟩
     ·exact⟨o,keep b o e hm⟩
 have hTok:∀(H:Hp) b,b∈tabs.map (·.2)->bC P w H s₁.heap b (.tbl #[]):=λH b hm=>by obtain⟨q,hq,rfl⟩:=List.mem_map.mp hm;exact(hT q hq).2
 cases hk:K.lookup a with
 | some o=>
  have e:=KX a o hk;rw[ha]at e;cases e;have at_:∀b,(if b∈tabs.map (·.2)then some (HO.tbl #[])else none)=(none:Option HO)\/b∈tabs.map (·.2):=λb=>by
   by_cases hb:b∈tabs.map (·.2)
   ·exact .inr hb
   ·exact .inl (Gb hb)
  have nota:a∉tabs.map (·.2):=λhm=>by obtain⟨q,hq,e⟩:=List.mem_map.mp hm;exact na q hq e.symm
  refine core (λb=>if b∈tabs.map (·.2)then some (.tbl #[])else none) (λq hq=>Ge (List.mem_map.mpr ⟨q,hq,rfl⟩)) (.inr ⟨_,vs.toArray,_,hk,rfl,rfl,rfl,by rw[Fl,lenV];exact hl,by simpa using rv⟩) (λb u z=>?_) (λb z=>?_) λz=>absurd (Gb nota) z
  ·by_cases hb:b∈tabs.map (·.2)
   ·have z':=(Ge hb).symm.trans z;cases z';exact hTok _ b hb
   ·have z':=(Gb hb).symm.trans z;cases z'
  ·rcases at_ b with h|h
   ·exact absurd h z
   ·exact .inr h
 | none=>
  have nota:a∉tabs.map (·.2):=λhm=>by obtain⟨q,hq,e⟩:=List.mem_map.mp hm;exact na q hq e.symm
  refine core (λb=>if b=a then some (.frz { cls:=.type "list",data:=.seq vs.toArray } (.lst (ns.map V.int)))else if b∈tabs.map (·.2)then some (.tbl #[])else none) (λq hq=>?_) (.inl (.inr ⟨{ cls:=.type "list",data:=.seq vs.toArray },Ge rfl⟩)) (λb u z=>?_) (λb z=>?_) λ_=>⟨hk,_,_,Ge rfl⟩
  ·show(if q.2=a then _ else _)=_;rw[Gb (Ne.symm (na q hq)),Ge (List.mem_map.mpr ⟨q,hq,rfl⟩)]
  ·by_cases hb:b=a
   ·have z':=(Ge hb).symm.trans z;cases z';subst hb;exact⟨ha,by rw[Ff];exact hl,vs,_,rv,ha⟩
   ·have z':=(Gb hb).symm.trans z;by_cases hb2:b∈tabs.map (·.2)
    ·have z2:=(Ge hb2).symm.trans z';cases z2;exact hTok _ b hb2
    ·have z2:=(Gb hb2).symm.trans z';cases z2
  ·by_cases hb:b=a
   ·exact .inl hb
   ·by_cases hb2:b∈tabs.map (·.2)
    ·exact .inr hb2
    ·exact absurd ((Gb hb).trans (Gb hb2)) z
def CY{l:PySem.W.OpenLaw}{n k:Nat}{q:Program}{loose:List Str}{XP:(Str->Option Value)->Heap->Prop}{YP:World->Heap->Prop}{d:DefRec}{K:Params->Fb}{sp:World->Sp}{x:Str}(xs:List Str)
  (hn:l.most=some n) (hn2:n<=sizeLine) (hdf:d.params.defaults=[]) (hr:Room k callerA)
  (hY:∀(w:World) (h:Heap),YP w h->(K w.params).In h) (hK:∀w:World,PySem.W.noTabs (K w.params)=true) (hrec:∀y∈xs,((recsOf q).find? (λe=>e.name == y)).isSome=true) (htab:∀(w:World),∀y∈xs,(PySem.W.tabIn (K w.params) y).isSome=true)
  (F:∀(w:World) (mg:Str->Option Value) (fa:Addr) (h:Heap),(K w.params).In h->h.Ns mainGlobals mg->mg d.name=some (.ref fa) →
   ∃fd:FuncData,(∀(s:Shared) (u:Value),BindsTo s fd ⟨[u],[]⟩ [(x,u)]) ∧
    ∀base:Heap,(K w.params).In base->base.Ns mainGlobals mg->(∀y∈xs,∃c T,Tab (K w.params) mg base y c T)->FnOk l.prog w (K w.params) mg base dX k fa fd [x] (sp w))
  (hsp:∀(w:World) (H:Hp) (a:Addr) (ns:List Int),ns.length<=n->(∀y∈xs,∀c T,PySem.W.tabIn (K w.params) y=some (c,T)->H T=some (.tbl #[]))->ag (K w.params) H a (ns.map V.int)->sp w [.ref a] H (λv _=>v=.bl true) λ_ _ _=>False) :
  PySem.W.WalkO q loose XP YP l.row.toRowW d [] (λf vs=>PySem.call f vs):=by
 refine Att.BO hn hdf λw s₀ s₁ mg mb fa o pm cd doc a vs ns G Y ho hd hcd hmg hobj hints hlen hg=>?_;have KX:=hY w _ Y;obtain⟨fd,hb,hF⟩:=F w mg fa _ KX G.T.g hmg;have hT:PySem.W.TabsAt (xs.filterMap (PySem.W.tabIn (K w.params))) s₁.heap:=λp hp=>by obtain⟨y,hy,e⟩:=List.mem_filterMap.mp hp;obtain⟨dr,er⟩:=Option.isSome_iff_exists.mp (hrec y hy);exact PySem.W.tab_of G.T KX er e
 refine Du KX (hK w) hT G.T.g G.T.b G.T.builtins G.T.nolimit G.T.bmain hg hobj hints (FP hlen hn2) hr (λbase kb nb tb=>hF base kb nb λy hy=>?_) hb λH hO hS=>hsp w H a ns hlen (λy hy c T e=>hO (c,T) (List.mem_filterMap.mpr ⟨y,hy,e⟩)) hS;obtain⟨⟨c,T⟩,e⟩:=Option.isSome_iff_exists.mp (htab w y hy);obtain⟨h1,h2,h3⟩:=tb (c,T) (List.mem_filterMap.mpr ⟨y,hy,e⟩);exact⟨c,T,e,h1,h2,h3,kb,nb⟩
section
variable {prog:Program} {w:World} {A:Around} {E:Value->Shared->Prop}
def sV{it l:Addr}{ys:Array Value}(ne:l≠it):∀(n i:Nat) (s:Shared) (Q:List Value->Shared->Prop),s.heap.IsListIter it l i->s.heap.IsList l ys->i+n<=ys.size →
  (∀h',h'.IsListIter it l (i+n)->Heap.SameBut it s.heap h'->Q ((ys.toList.drop i).take n) { s with heap:=h' })->wpAny (model prog w) A (draw (.ref it) n) Q E s
 | 0,i,s,Q,gi,_,_,q=>by show wpAny _ _ (pure []) Q E s;exact E9 (by simpa using q s.heap gi (Heap.SameBut.refl ..))
 | n+1,i,s,Q,gi,gl,le,q=>by
  have lt:i<ys.size:=by omega
  show wpAny _ _ (pyNext (Value.ref it) >>= _) Q E s;refine E8 (wpAny_pyNext_list_item gi gl (x:=ys[i]) (by simp[lt]) λk1 g1 b1=>?_);refine E8 (wpAny_holding (sV ne n (i+1) _ _ g1 (gl.extBut b1.extBut ne) (by omega) λk2 g2 b2=>E9 ?_));have e:ys.toList.drop i=ys[i]::ys.toList.drop (i+1):=by simp[List.drop_eq_getElem_cons,lt]
  have:=q k2 (by rw[show i+(n+1)=i+1+n by omega];exact g2) (b1.trans b2);rw[e,List.take_succ_cons]at this;exact this
def Ec{s:Shared}{l:Addr}{ys:Array Value}{Q:List Value->Shared->Prop}(hA:A.handled=none)(gl:s.heap.IsList l ys)
  (q:∀h',Heap.ExtBut s.heap.objs.size s.heap h'->Q ys.toList { s with heap:=h' }):wpAny (model prog w) A (unpackItems (.ref l) ys.size none) Q E s:=by
 have lt:l≠s.heap.objs.size:=by obtain⟨o,e,_⟩:=gl;exact Fz (Fe e)
 unfold unpackItems;refine E8 ?_;unfold notIterableAtAll;refine E8 (wpAny_specialOf gl.typeIs slot_list_iter.lookup ?_);refine E9 ?_;simp only[F1,if_false];refine E8 (wpAny_holding (wpAny_pyIter_list gl ?_));refine E8 (wpAny_holding (sV lt ys.size 0 _ _ ⟨_,Fd _ rfl,rfl,rfl⟩ (gl.push _) (by omega) λk1 g1 b1=>?_));rw[show List.take ys.size (List.drop 0 ys.toList)=ys.toList by rw[List.drop_zero];exact List.take_of_length_le (by simp),Gb (by simp)];refine E8 (wpAny_holding (wpAny_pyNext_list_end hA g1 ((gl.push _).extBut b1.extBut lt) (by simp) λk2 b2=>?_));simp only[Option.isSome_none,F1,if_false];exact E9 (q k2 λb o nb e=>b2 b o nb (b1.extBut b o nb (Fc _ e)))
def DO{s:Shared}{env:Env}{es:List Expr}{k:Nat}{pos:Pos}{l:Addr}{ys:Array Value}{Q:Unit->Shared->Prop}(hA:A.handled=none)(gl:s.heap.IsList l ys)(hn:(assignEach es env).length=ys.size)(hst:(assignEach es env).findIdx? (·.1)=none)
  (h:∀h',Heap.ExtBut s.heap.objs.size s.heap h'->wpAny (model prog w) A (assignInOrder ((assignEach es env).map (·.2)) ys.toList) Q E { s with heap:=h' }):wpAny (model prog w) A (assign (.Tuple es k pos) env (.ref l)) Q E s:=by
 rw[arm_assign_Tuple];refine E8 (wpAny_standAt ?_);unfold unpack;rw[hn,hst];exact E8 (wpAny_holding (Ec hA gl h))
end
section
variable {X:Cx} {pos:Pos}
def uP(K:Fb)(n:Nat)(t:dW):TG:=λv σ H Q=>∃a xs,v=.ref a/\ag K H a xs/\xs.length=n/\t xs σ H Q
def AB{es:List Expr}{k:Nat}{t:dW}{n:Nat}(K:Fb)(hc:X.calm=true)(h:iw X es t)(hK:X.K=K:=by rfl)
  (hn:(assignEach es X.env).length=n:=by rfl) (hst:(assignEach es X.env).findIdx? (·.1)=none:=by rfl):PG X (.Tuple es k pos) (uP K n t):=by
 subst hK;intro pins s σ H v u Q I r hw;obtain⟨a,xs,e1,hq,hl,hw⟩:=hw;subst e1;cases r;obtain⟨its,rv,ht,hz⟩:=I.list hq;refine DO (I.ok.hd hc) ht.isList (by simp[hn,←hl,rv.length]) hst λh' hx=>?_;have I1:Inv X pins σ H { s with heap:=h' }:=I.kept (t':=s.toks) λb o e=>hx b o (Fz (Fe e)) e;exact h pins _ σ H xs _ Q I1 (by simpa using rv) hw
end
def E4{K:Fb}{σ:St}{H:Hp}{n:Nat}{g:dW}{a:Addr}{xs:List V}{R:St->Hp->Prop}(e:ag K H a xs)(hl:xs.length=n)(h:g xs σ H R):uP K n g (.ref a) σ H R:=⟨a,xs,rfl,e,hl,h⟩
def rd_par{i j:Nat}{ta:TA}{D:Ends}{σ:St}{H:Hp}(h:ta σ H λvs H1=>∃v w,vs=[v,w]/\D.nx ((σ.set i (some v)).set j (some w)) H1):sj i j ta D σ H:=h
def rd_par2{v w:V}{R:V->V->Prop}(h:R v w):∃a b,[v,w]=[a,b]/\R a b:=⟨v,w,rfl,h⟩
def Et(H H':Hp):Prop:=∀b o,H b=some o->(∀ps,o≠.tbl ps)->H' b=some o
def Ext.et{H H':Hp}(e:Ext H H'):Et H H':=λb o h _=>e b o h
def Et.trans{H H1 H2:Hp}(a:Et H H1)(b:Et H1 H2):Et H H2:=λx o h n=>b x o (a x o h n) n
def cM(K:Fb)(x q:Str)(line col:Nat)(H:Hp):Prop:=∀c T,PySem.W.tabIn K x=some (c,T) →
 H T=some (.tbl #[])\/∃c',H T=some (.tbl #[rawInt line,rawInt col,.ref c'])/\H c'=some (fR c' q)
def cM.ext{K:Fb}{x q:Str}{line col:Nat}{H H':Hp}(e:Ext H H')(h:cM K x q line col H):cM K x q line col H':=λc T ht=>by
 rcases h c T ht with h|⟨c',h1,h2⟩
 ·exact .inl (e _ _ h)
 ·exact .inr ⟨c',e _ _ h1,e _ _ h2⟩
section
variable {κ:Type} [DecidableEq κ]
def aZ(kvs:List (κ×V))(k:κ):Option V:=(kvs.find? λkv=>decide (kv.1=k)).map (·.2)
def putK(kvs:List (κ×V))(k:κ)(v:V):List (κ×V):=
 if(kvs.any λkv=>decide (kv.1=k))=true then kvs.map (λkv=>if kv.1=k then(kv.1,v)else kv)else kvs++[(k,v)]
def ef{p:κ×V}{r:List (κ×V)}{k:κ}(e:p.1=k):aZ (p::r) k=some p.2:=by simp[aZ,List.find?_cons,e]
def dP{p:κ×V}{r:List (κ×V)}{k:κ}(e:¬p.1=k):aZ (p::r) k=aZ r k:=by simp[aZ,List.find?_cons,e]
def jf(k:κ):∀kvs:List (κ×V),(kvs.any λkv=>decide (kv.1=k))=(aZ kvs k).isSome
 | []=>rfl
 | p::r=>by
  rw[List.any_cons];by_cases e:p.1=k
  ·simp only[ef e,Ga e,Bool.true_or,Option.isSome_some]
  ·rw[dP e,F9 e,Bool.false_or];exact jf k r
def uq(k j:κ)(y:V):∀kvs:List (κ×V),aZ (kvs.map λkv=>if kv.1=k then(kv.1,y)else kv) j=(aZ kvs j).map λx=>if j=k then y else x
 | []=>rfl
 | p::r=>by
  have ih:=uq k j y r;rw[List.map_cons];by_cases h:p.1=k
  ·rw[Ge h];by_cases e:p.1=j
   ·rw[ef (p:=(p.1,y)) e,ef e,Option.map_some,Ge (e.symm.trans h)]
   ·rw[dP (p:=(p.1,y)) e,dP e,ih]
  ·rw[Gb h];by_cases e:p.1=j
   ·rw[ef (p:=p) e,ef e,Option.map_some,Gb (λz=>h (e.trans z))]
   ·rw[dP (p:=p) e,dP e,ih]
def qB(k j:κ)(y:V):∀kvs:List (κ×V),aZ kvs k=none->aZ (kvs++[(k,y)]) j=if j=k then some y else aZ kvs j
 | [],_=>by
  by_cases e:k=j
  ·rw[Ge e.symm];exact ef (p:=(k,y)) e
  ·rw[Gb (λz=>e z.symm)];exact dP (p:=(k,y)) e
 | p::r,hn=>by
  rw[List.cons_append];have hk:¬p.1=k:=λz=>by rw[ef z]at hn;cases hn
  rw[dP hk]at hn;have ih:=qB k j y r hn;by_cases e:p.1=j
  ·rw[ef e,ef e,Gb (λz=>hk (e.trans z))]
  ·rw[dP e,dP e,ih]
def jQ(kvs:List (κ×V))(k j:κ)(y:V):aZ (putK kvs k y) j=if j=k then some y else aZ kvs j:=by
 unfold putK;by_cases a:(kvs.any λkv=>decide (kv.1=k))=true
 ·rw[Ge a,uq];rw[jf]at a;by_cases e:j=k
  ·obtain⟨x,hx⟩:=Option.isSome_iff_exists.mp a;rw[Ge e,e,hx,Option.map_some,Ge rfl]
  ·rw[Gb e];cases aZ kvs j with
   | none=>rfl
   | some x=>rw[Option.map_some,Gb e]
 ·rw[Gb a];refine qB k j y kvs ?_;rw[jf]at a;cases q:aZ kvs k with
  | none=>rfl
  | some x=>rw[q]at a;exact(a rfl).elim
def oo(kvs:List (κ×V))(k:κ)(v:V):(putK kvs k v).length<=kvs.length+1:=by
 unfold putK;split
 ·rw[Ff];omega
 ·rw[Fy,FJ,List.length_nil];omega
def oR{kvs:List (κ×V)}{k:κ}(v:V)(h:aZ kvs k=none):putK kvs k v=kvs++[(k,v)]:=by unfold putK;rw[jf,h];exact Gb (by decide)
def eC.isSome_eq{o:Option V}{u:Option Value}(r:eC o u):o.isSome=u.isSome:=by
 cases o with
 | none=>cases u with
  | none=>rfl
  | some _=>exact(show False from r).elim
 | some _=>cases u with
  | none=>exact(show False from r).elim
  | some _=>rfl
def KV.val{kvs:List (κ×V)}{vs:List (κ×Value)}(r:KV kvs vs)(k:κ):eC (aZ kvs k) (valueAt vs k):=by
 unfold KV at r;induction r with
 | nil=>exact True.intro
 | @cons p q ps qs h t ih=>
  obtain⟨h1,h2⟩:=h;by_cases e:p.1=k
  ·have e':q.1=k:=h1.symm.trans e;have b:valueAt (q::qs) k=some q.2:=by simp[valueAt,List.find?_cons,e']
   rw[ef e,b];exact h2
  ·have e':¬q.1=k:=λz=>e (h1.trans z);have b:valueAt (q::qs) k=valueAt qs k:=by simp[valueAt,List.find?_cons,e']
   rw[dP e,b];exact ih
def KV.any{kvs:List (κ×V)}{vs:List (κ×Value)}(r:KV kvs vs)(k:κ):(kvs.any λkv=>decide (kv.1=k))=vs.any λkv=>decide (kv.1=k):=by
 unfold KV at r;induction r with
 | nil=>rfl
 | cons h t ih=>rw[List.any_cons,List.any_cons,ih,h.1]
def KV.repl{kvs:List (κ×V)}{vs:List (κ×Value)}(r:KV kvs vs)(k:κ){y:V}{u:Value}(ry:RelV y u):
  KV (kvs.map λkv=>if kv.1=k then(kv.1,y)else kv) (vs.map λkv=>if kv.1=k then(kv.1,u)else kv):=by
 unfold KV at r ⊢;induction r with
 | nil=>exact .nil
 | @cons p q ps qs h t ih=>
  rw[List.map_cons,List.map_cons];refine .cons ?_ ih;obtain⟨h1,h2⟩:=h;by_cases e:p.1=k
  ·rw[Ge e,Ge (h1.symm.trans e)];exact⟨h1,ry⟩
  ·rw[Gb e,Gb (λz=>e (h1.trans z))];exact⟨h1,h2⟩
def KV.put{kvs:List (κ×V)}{vs:List (κ×Value)}(r:KV kvs vs)(k:κ){y:V}{u:Value}(ry:RelV y u):KV (putK kvs k y) (stored vs k u):=by
 unfold putK stored;rw[r.any k];by_cases e:(vs.any λkv=>decide (kv.1=k))=true
 ·rw[Ge e,Ge e];exact r.repl k ry
 ·rw[Gb e,Gb e];exact Paired.snoc r ⟨rfl,ry⟩
def KV.keys{kvs:List (κ×V)}{vs:List (κ×Value)}(r:KV kvs vs):kvs.map (·.1)=vs.map (·.1):=by
 unfold KV at r;induction r with
 | nil=>rfl
 | cons h t ih=>rw[List.map_cons,List.map_cons,ih,h.1]
def KV.length{kvs:List (κ×V)}{vs:List (κ×Value)}(r:KV kvs vs):kvs.length=vs.length:=Paired.length r
end
def iK{P:Program}{w:World}{k:Key}{u:Value}(r:RelV (kV k) u):(cG P w).is k u=true:=by
 cases k with
 | inl i=>obtain⟨t,e⟩:=(show ∃t,u=Value.int i t from r);subst e;exact zD P w i t
 | inr x=>obtain⟨t,e⟩:=(show ∃t,u=Value.str x t from r);subst e;exact nv P w x t
def pO{P:Program}{w:World}:∀{ks:List Key} {us:List Value},Vals (ks.map kV) us->ItemsAre (cG P w) ks us
 | [],_,r=>by rw[List.map_nil]at r;cases r;exact .nil
 | k::ks,_,r=>by
  rw[List.map_cons]at r;cases r with
  | cons h t=>exact .cons (iK h) (pO t)
abbrev KT(H:Hp):List (List Key×V)->List (List Key×Addr×Value)->Prop:=Paired λp q=>p.1=q.1/\H q.2.1=some (.tup (p.1.map kV))/\RelV p.2 q.2.2
def KT.val{H:Hp}{kvs:List (List Key×V)}{xs:List (List Key×Addr×Value)}(r:KT H kvs xs)(k:List Key):eC (aZ kvs k) ((atKey xs k).map (·.2)):=by
 induction r with
 | nil=>exact True.intro
 | @cons p q ps qs h t ih=>
  obtain⟨h1,_,h2⟩:=h;by_cases e:p.1=k
  ·have e':q.1=k:=h1.symm.trans e;have b:atKey (q::qs) k=some q.2:=by simp[atKey,List.find?_cons,e']
   rw[ef e,b];exact h2
  ·have e':¬q.1=k:=λz=>e (h1.trans z);have b:atKey (q::qs) k=atKey qs k:=by simp[atKey,List.find?_cons,e']
   rw[dP e,b];exact ih
def KT.repl{H:Hp}{kvs:List (List Key×V)}{xs:List (List Key×Addr×Value)}(r:KT H kvs xs)(k:List Key){y:V}{u:Value}(ry:RelV y u):
  KT H (kvs.map λkv=>if kv.1=k then(kv.1,y)else kv) (xs.map (putAt k u)):=by
 induction r with
 | nil=>exact .nil
 | @cons p q ps qs h t ih=>
  rw[List.map_cons,List.map_cons];refine .cons ?_ ih;obtain⟨h1,h2,h3⟩:=h;unfold putAt;by_cases e:p.1=k
  ·rw[Ge e,Ge (h1.symm.trans e)];exact⟨h1,h2,ry⟩
  ·rw[Gb e,Gb (λz=>e (h1.trans z))];exact⟨h1,h2,h3⟩
def KT.put{H:Hp}{kvs:List (List Key×V)}{xs:List (List Key×Addr×Value)}(r:KT H kvs xs)(k:List Key){b:Addr}{y:V}{u:Value}(hb:H b=some (.tup (k.map kV)))(ry:RelV y u):
  KT H (putK kvs k y) (storedH xs k b u):=by
 have e:(kvs.any λkv=>decide (kv.1=k))=(atKey xs k).isSome:=by rw[jf,(r.val k).isSome_eq,Option.isSome_map]
 unfold putK storedH;rw[e];by_cases q:(atKey xs k).isSome=true
 ·rw[Ge q,Ge q];exact r.repl k ry
 ·rw[Gb q,Gb q];exact Paired.snoc r ⟨rfl,hb,ry⟩
def KT.keeps{H H':Hp}{kvs:List (List Key×V)}{xs:List (List Key×Addr×Value)}(r:KT H kvs xs)(ht:∀b ys,H b=some (.tup ys)->H' b=some (.tup ys)):KT H' kvs xs:=
 Paired.mapP r λ_ _ z=>⟨z.1,ht _ _ z.2.1,z.2.2⟩
section
variable {P:Program} {w:World} {H:Hp} {h:Heap} {a:Addr}
def vX{u:HO}(ok:bt P w H h)(e:Rd H a u):bC P w H h a u:=e.ok ok
def jX{kvs:List (Key×V)}(ok:bt P w H h)(e:Rd H a (.dK kvs)):kvs.length<=sizeLine/\(a == sysModules)=false/\∃vs,KV kvs vs/\h.DictOf (cG P w) a vs:=
 show bC P w H h a (.dK kvs)from vX ok e
def Ez{kvs:List (Key×V)}(ok:bt P w H h)(e:H a=some (.dK kvs)):kvs.length<=sizeLine/\(a == sysModules)=false/\∃vs,KV kvs vs/\h.DictOf (cG P w) a vs:=jX ok (.inl e)
def jB{ks:List Key}(ok:bt P w H h)(e:H a=some (.tup (ks.map kV))):(tupleKind (cG P w)).is h ks a:=by obtain⟨_,its,r,o,h1,h2,n,h3⟩:=(show bC P w H h a (.tup (ks.map kV))from ok a _ e);exact⟨o,its.toArray,n,h1,h2,h3,by simpa using pO r⟩
def kK{kvs:List (List Key×V)}(ok:bt P w H h)(e:Rd H a (.dT kvs)):kvs.length<=sizeLine/\(a == sysModules)=false ∧
  ∃xs,KT H kvs xs/\h.DictOfH (tupleKind (cG P w)) a xs:=by
 obtain⟨z,y,xs,r,o,es,ep,h1,h2,h3,h4,h5⟩:=(show bC P w H h a (.dT kvs)from vX ok e);refine⟨z,y,xs,r,o,es,ep,h1,h2,h3,h4,λx hx=>?_,h5⟩;have all:∀{l:List (List Key×V)} {m:List (List Key×Addr×Value)},KT H l m->∀x∈m,(tupleKind (cG P w)).is h x.1 x.2.1:=by
  intro l m q;induction q with
  | nil=>intro x hx;exact nomatch hx
  | @cons p q ps qs hq t ih=>
   intro x hx;rcases Fv.mp hx with e|hx
   ·subst e;exact jB ok (by rw[←hq.1];exact hq.2.1)
   ·exact ih x hx
 exact all r x hx
def uL{kvs:List (List Key×V)}(ok:bt P w H h)(e:H a=some (.dT kvs)):kvs.length<=sizeLine/\(a == sysModules)=false ∧
  ∃xs,KT H kvs xs/\h.DictOfH (tupleKind (cG P w)) a xs:=kK ok (.inl e)
end
def cx(H:Hp)(a:Addr)(y:V)(r:Option V):Prop:=
 (∃kvs k,Rd H a (.dK kvs)/\y=kV k/\r=aZ kvs k)\/∃kvs k b,Rd H a (.dT kvs)/\y=.ref b/\H b=some (.tup (k.map kV))/\r=aZ kvs k
def eJ(H:Hp)(a:Addr)(y v:V)(H':Hp):Prop:=
 (∃kvs k,H a=some (.dK kvs)/\y=kV k/\kvs.length<sizeLine/\H'=upd H a (.dK (putK kvs k v))) ∨
 ∃kvs k b,H a=some (.dT kvs)/\y=.ref b/\H b=some (.tup (k.map kV))/\kvs.length<sizeLine/\H'=upd H a (.dT (putK kvs k v))
def cx.k{H:Hp}{a:Addr}{kvs:List (Key×V)}{k:Key}(e:H a=some (.dK kvs)):cx H a (kV k) (aZ kvs k):=.inl ⟨kvs,k,.inl e,rfl,rfl⟩
def cx.t{H:Hp}{a b:Addr}{kvs:List (List Key×V)}{k:List Key}(e:H a=some (.dT kvs))(eb:H b=some (.tup (k.map kV))):cx H a (.ref b) (aZ kvs k):=.inr ⟨kvs,k,b,.inl e,rfl,eb,rfl⟩
def eJ.k{H:Hp}{a:Addr}{kvs:List (Key×V)}{k:Key}{v:V}(e:H a=some (.dK kvs))(hl:kvs.length<sizeLine):eJ H a (kV k) v (upd H a (.dK (putK kvs k v))):=.inl ⟨kvs,k,e,rfl,hl,rfl⟩
def eJ.t{H:Hp}{a b:Addr}{kvs:List (List Key×V)}{k:List Key}{v:V}(e:H a=some (.dT kvs))(eb:H b=some (.tup (k.map kV)))(hl:kvs.length<sizeLine):
  eJ H a (.ref b) v (upd H a (.dT (putK kvs k v))):=.inr ⟨kvs,k,b,e,rfl,eb,hl,rfl⟩
section
variable {X:Cx} {pins:List (Addr×Obj)} {σ:St} {H:Hp} {s:Shared} {a:Addr} {y v:V} {u r:Value} {o:Option V} {A:Around} {E:Value->Shared->Prop}
def Inv.big(I:Inv X pins σ H s):sysModules<s.heap.objs.size:=by have h:mainGlobals<s.heap.objs.size:=(I.mod.glob.keeps I.bk).lt;exact Nat.lt_trans (by decide) h
def Ac{Q:Value->Shared->Prop}(hu:A.units+1<cLine)(I:Inv X pins σ H s)(g:cx H a y (some v))(ry:RelV y u)(h:∀w' s',Inv X pins σ H s'->RelV v w'->Q w' s'):
  wpAny (model X.prog X.w) A (getItem (.ref a) u) Q E s:=by
 rcases g with⟨kvs,k,e,ey,l⟩|⟨kvs,k,b,e,ey,eb,l⟩
 ·subst ey;obtain⟨z,hd,vs,rel,dd⟩:=jX I.hok e;obtain⟨w',hw,rw'⟩:=eC.some_of (v:=v) (o:=valueAt vs k) (by rw[l];exact rel.val k);exact wpAny_getItem_of (iK ry) dd.mapOf hw (h w' _ (I.tok _) rw')
 ·subst ey;cases(show u=Value.ref b from ry);obtain⟨z,hd,xs,rel,dd⟩:=kK I.hok e;obtain⟨w',hw,rw'⟩:=eC.some_of (v:=v) (o:=(atKey xs k).map (·.2)) (by rw[l];exact rel.val k);obtain⟨p,hp,hp2⟩:=Fs.mp hw;refine wpAny_getItem_heap (tupleKind_room_in1 hu) (jB I.hok eb) dd hp ?_;rw[hp2];exact h w' _ (I.tok _) rw'
def AM{Q:Value->Shared->Prop}(hu:A.units+1<cLine)(I:Inv X pins σ H s)(g:cx H a y o)(ry:RelV y u)(h:∀s',Inv X pins σ H s'->Q (.bool (!o.isSome)) s'):
  wpAny (model X.prog X.w) A (compareOp .NotIn u (.ref a)) Q E s:=by
 rcases g with⟨kvs,k,e,ey,l⟩|⟨kvs,k,b,e,ey,eb,l⟩
 ·subst ey;obtain⟨z,hd,vs,rel,dd⟩:=jX I.hok e;refine wpAny_notIn_of (iK ry) hd dd.mapOf ?_;rw[←(rel.val k).isSome_eq,←l];exact h _ (I.tok _)
 ·subst ey;cases(show u=Value.ref b from ry);obtain⟨z,hd,xs,rel,dd⟩:=kK I.hok e;refine wpAny_notIn_heap (tupleKind_room_in1 hu) (jB I.hok eb) hd dd ?_;have q:=(rel.val k).isSome_eq;rw[Option.isSome_map]at q;rw[←q,←l];exact h _ (I.tok _)
def nh{h':Heap}{t':Nat}{ob:HO}(I:Inv X pins σ H s)(mu:ju (H a))(hs:Heap.SameBut a s.heap h')(he:∃q,h'.get? a=some q)(new:bC X.prog X.w (upd H a ob) h' a ob):
  Inv X pins σ (upd H a ob) { s with heap:=h',toks:=t' }:=
 I.write (x:=a) (e:=a) mu (.inl rfl) (λb q hb z=>(hs.2 b hb).trans z) he new
def yS{P:Program}{w:World}{H':Hp}{h':Heap}{kvs:List (Key×V)}{vs:List (Key×Value)}(z:kvs.length<=sizeLine)(hd:(a == sysModules)=false)(rel:KV kvs vs)(dd:h'.DictOf (cG P w) a vs):
  bC P w H' h' a (.dK kvs):=⟨z,hd,vs,rel,dd⟩
def CS{H':Hp}{Q:Unit->Shared->Prop}(hu:A.units+1<cLine)(I:Inv X pins σ H s)(g:eJ H a y v H')(ry:RelV y u)(rv:RelV v r)(h:∀s',Inv X pins σ H' s'->Q () s'):
  wpAny (model X.prog X.w) A (setItem (.ref a) u r) Q E s:=by
 rcases g with⟨kvs,k,e,ey,l,eH⟩|⟨kvs,k,b,e,ey,eb,l,eH⟩
 ·subst ey eH;obtain⟨z,hd,vs,rel,dd⟩:=Ez I.hok e;have hz:vs.length<=sizeLine:=by rw[←rel.length];exact z
  have hl:(putK kvs k v).length<=sizeLine:=by have:=oo kvs k v;omega
  refine wpAny_setItem_pairs (hsz:=hz) (iK ry) dd λh' dd' hs=>h _ ?_;have he:∃q,h'.get? a=some q:=let ⟨q,_,_,hq,_⟩:=dd';⟨q,hq⟩;exact nh I (by rw[e];exact True.intro) hs he (yS hl hd (rel.put k rv) dd')
 ·subst ey eH;cases(show u=Value.ref b from ry);obtain⟨z,hd,xs,rel,dd⟩:=uL I.hok e;have hz:xs.length<=sizeLine:=by rw[←Paired.length rel];exact z
  have hl:(putK kvs k v).length<=sizeLine:=by have:=oo kvs k v;omega
  refine wpAny_setItem_heap (hsz:=hz) (tupleKind_room_in1 hu) (jB I.hok eb) dd λh' dd' hs=>h _ ?_;obtain⟨q,es,ep,hq,h2,h3,h4,_,h5⟩:=dd';refine nh I (by rw[e];exact True.intro) hs ⟨q,hq⟩ ⟨hl,hd,_,(rel.put k eb rv).keeps λc ys ec=>?_,q,es,ep,hq,h2,h3,h4,h5⟩;rw[aC (cF ec e (λz=>nomatch z))];exact ec
end
section
variable {X:Cx} {pins:List (Addr×Obj)} {σ:St} {H:Hp} {s:Shared} {a:Addr} {kvs:List (Key×V)} {k:Key} {u:Value} {A:Around} {E:Value->Shared->Prop}
end
def lJ(i:Expr):Prop:=∀ov iv,subscripted i false ov iv=operate [ov,iv] (getItem ov iv)
def rM{prog:Program}{w:World}{A:Around}{E:Value->Shared->Prop}{s:Shared}{env:Env}{value slice:Expr}{pos:Pos}{T id:String}{Q:Value->Shared->Prop}
  (hl:typeLookup (.type T) "__getitem__" = pure (some (.builtin id))) (hs:lJ slice)
  (h:wpAny (model prog w) A (eval value env) (λo s₁=>wpAny (model prog w) A (eval slice env) (λi s₂=>s₂.TypeIs o T/\wpAny (model prog w) A (getItem o i) Q E s₂) E s₁) E s) :
  wpAny (model prog w) A (eval (.Subscript value slice pos) env) Q E s:=by
 refine Subscript_ (wpAny_mono h (λo s₁ h₁=>wpAny_mono h₁ (λi s₂ h₂=>?_) λ_ _ x=>x) λ_ _ x=>x);obtain⟨hT,h₂⟩:=h₂;unfold subscriptTail;refine E8 ?_;rw[getitemInPython_of_ne hT.not_modules];refine E8 (wpAny_specialOf hT hl ?_);have fin:wpAny (model prog w) A (subscripted slice false o i) (λr s₃=>wpAny (model prog w) A (letTemporaryGo value o r >>= λ_=>pure r) Q E s₃) E s₂:=by rw[hs o i];exact wpAny_operating (wpAny_mono h₂ (λr s₃ h₃=>E8 (wpAny_letTemporaryGo (E9 h₃))) λ_ _ x=>x)
 first
  | exact E9 (E8 fin)
  | exact E8 (E9 (E8 fin))
  | exact E8 fin
def yC{X:Cx}{pins:List (Addr×Obj)}{σ:St}{H:Hp}{s:Shared}{a:Addr}{y:V}{o:Option V}(I:Inv X pins σ H s)(g:cx H a y o):s.TypeIs (.ref a) "dict":=by
 rcases g with⟨kvs,k,e,_,_⟩|⟨kvs,k,b,e,_,_,_⟩
 ·obtain⟨_,_,vs,_,dd⟩:=jX I.hok e;exact dd.typeIs
 ·obtain⟨_,_,xs,_,dd⟩:=kK I.hok e;exact dd.typeIs
def wH(td ty:TE):TE:=λσ H Q=>td σ H λx H1=>ty σ H1 λy H2=>∃a v,x=.ref a/\cx H2 a y (some v)/\Q v H2
def tN(ty td:TE):TE:=λσ H Q=>ty σ H λy H1=>td σ H1 λx H2=>∃a o,x=.ref a/\cx H2 a y o/\Q (.bl (!o.isSome)) H2
def vU(td ty tv:TE):TS:=λD σ H=>tv σ H λv H1=>td σ H1 λx H2=>ty σ H2 λy H3=>∃a H4,x=.ref a/\eJ H3 a y v H4/\D.nx σ H4
section
variable {X:Cx} {o i e value:Expr} {pos pos' tpos:Pos} {td ty tv:TE}
def iT(hu:X.A.units+1<cLine)(ho:PE X o td)(hi:PE X i ty)(hs:lJ i):PE X (.Subscript o i pos) (wH td ty):=by intro pins s σ H Q I h;refine rM PySem.F.slot_dict_getitem.lookup hs (aD (ho pins s σ H _ I h) λu s1 ⟨x,H1,I1,rx,q1⟩=>aD (hi pins s1 σ H1 _ I1 q1) λiv s2 ⟨y,H2,I2,ry,a,v,ex,g,q2⟩=>?_);subst ex;obtain rfl:u=Value.ref a:=rx;exact⟨yC I2 g,Ac hu I2 g ry λw' s3 I3 rw'=>⟨v,H2,I3,rw',q2⟩⟩
def iO(hu:X.A.units+1<cLine)(hi:PE X i ty)(ho:PE X o td):PC X .NotIn i o (tN ty td):=by intro pins s σ H Q I h;refine aD (hi pins s σ H _ I h) λiv s1 ⟨y,H1,I1,ry,q1⟩=>aD (ho pins s1 σ H1 _ I1 q1) λu s2 ⟨x,H2,I2,rx,a,ov,ex,g,q2⟩=>?_;subst ex;obtain rfl:u=Value.ref a:=rx;exact AM hu I2 g ry λs3 I3=>⟨.bl (!ov.isSome),H2,I3,rfl,q2⟩
def kr(hu:X.A.units+1<cLine)(ho:PE X o td)(hi:PE X i ty)(hv:PE X value tv)(hs:swapsWith value (some (.Subscript o i pos')) pos.line X.env=pure false):
  PS X (.Assign [.Subscript o i pos'] value pos) (vU td ty tv):=by
 intro pins s σ H D I h;refine wpAny_Assign_Subscript (aD (hv pins s σ H _ I h) λr s1 ⟨v,H1,I1,rv,q1⟩=>aD (ho pins s1 σ H1 _ I1 q1) λu s2 ⟨x,H2,I2,rx,q2⟩=>aD (hi pins s2 σ H2 _ I2 q2) λiv s3 ⟨y,H3,I3,ry,a,H4,ex,g,q3⟩=>?_) hs;subst ex;obtain rfl:u=Value.ref a:=rx;exact CS hu I3 g ry rv λs4 I4=>⟨σ,H4,I4,q3⟩
end
def BQ{P:Program}{w:World}{H:Hp}(h:Heap)(hb:sysModules<h.objs.size):bC P w H (h.push { cls:=.type "dict",data:=.dict #[] }) h.objs.size (.dK []):=
 ⟨Nat.zero_le _,beq_eq_false_iff_ne.mpr (Ne.symm (Fz hb)),[],.nil,Heap.DictOf.new h⟩
def Am{P:Program}{w:World}{H:Hp}(h:Heap)(hb:sysModules<h.objs.size):bC P w H (h.push { cls:=.type "dict",data:=.dict #[] }) h.objs.size (.dT []):=
 ⟨Nat.zero_le _,beq_eq_false_iff_ne.mpr (Ne.symm (Fz hb)),[],.nil,_,#[],0,Fd _ rfl,⟨rfl,rfl,rfl⟩,rfl,rfl,List.nodup_nil⟩
def Ax:TE:=λ_ H Q=>∀p,H p=none->Q (.ref p) (upd H p (.dK []))
section
variable {X:Cx} {pos:Pos}
def tW:PE X (.Dict [] [] pos) Ax:=λpins s σ H Q I h=>
 wpAny_Dict_empty ⟨.ref s.heap.objs.size,_,I.laid (a:=s.heap.objs.size) (o:=.dK []) (t':=s.toks) (λ_ _ q=>Fc _ q) (FA _) (BQ s.heap I.big),rfl,h _ (I.hok.fresh (FA _))⟩
end
section
variable {X:Cx} {pins:List (Addr×Obj)} {σ:St} {H:Hp} {s:Shared} {a:Addr} {y d:V} {u r:Value} {o:Option V} {A:Around} {E:Value->Shared->Prop}
end
section
variable {X:Cx} {o e f:Expr} {apos cpos:Pos} {td ty tx:TE}
end
section
variable {X:Cx} {pins:List (Addr×Obj)} {σ:St} {H:Hp} {s:Shared} {a:Addr} {kvs:List (Key×V)} {A:Around} {E:Value->Shared->Prop}
end
section
variable {X:Cx} {pins:List (Addr×Obj)} {σ:St} {H:Hp} {s:Shared} {a:Addr} {y:V} {u:Value} {A:Around} {E:Value->Shared->Prop}
end
section
variable {X:Cx}
end
section
variable {κ:Type} [DecidableEq κ]
end
section
variable {prog:Program} {w:World} {A:Around} {E:Value->Shared->Prop} {s:Shared} {dd:Option Addr}
end
section
variable {M:Model} {A:Around} {E:Value->Shared->Prop} {s:Shared} {dd:Option Addr}
end
section
variable {P:Program} {w:World} {K:Fb} {mg:Str->Option Value} {base:Heap} {N:List Str} {qual:Str} {scope:Scope} {f:Addr} {cd:Value} {A:Around} {outer:List Env} {s₀:Shared} {H₀:Hp} {E:XK}
end
section
variable {prog:Program} {w:World} {A:Around} {E:Value->Shared->Prop} {K:Fb} {x D:Addr} {ox:Obj} {s:Shared}
end
section
variable {X:Cx} {pins:List (Addr×Obj)} {σ:St} {H:Hp} {s:Shared} {x:Addr} {oe:Obj}
end
section
variable {P:Program} {w:World} {K:Fb} {mg:Str->Option Value} {base:Heap} {N:List Str} {qual:Str} {scope:Scope} {f:Addr} {cd:Value} {A:Around} {outer:List Env} {s₀:Shared} {H₀:Hp} {E:XK}
end
section
end
section
variable {P:Program} {w:World} {K:Fb} {mg:Str->Option Value} {base:Heap} {N:List Str} {qual:Str} {scope:Scope} {f:Addr} {cd:Value} {A:Around} {outer:List Env} {s₀:Shared} {H₀:Hp} {E:XK}
end
section
variable {K:Fb} {D:Ends} {σ:St} {H:Hp} {Q:VK} {E:XK} {C x:Addr}
end
section
variable {K:Fb} {D:Ends} {σ:St} {H:Hp} {E:St->XK} {C:Addr} {i:Nat} {t u tb:Ends->(St->XK)->St->Hp->Prop} {ts:Addr->Addr->Option Addr->TS} {c:TT}
end
end L2
namespace Tb
open PySem
end Tb
namespace Tb
open PySem
end Tb
namespace L2
open PySem PySem.Spec PyProof.Rows
section
variable {P:Program} {w:World} {A:Around} {E:Value->Shared->Prop} {s:Shared} {K:Type} [DecidableEq K] {knd:KeyKind P w K}
end
section
variable {P:Program} {w:World} {A:Around} {E:Value->Shared->Prop} {s:Shared}
end
section
variable {P:Program} {w:World} {A:Around} {I:Addr} {fp wr:List Addr} {G:Array GenState->Array GenState->Prop} {n:Nat} {Pz:Nat->Value->Prop} {St:Nat->Shared->Prop}
end
section
variable {P:Program} {w:World} {A:Around} {E:Value->Shared->Prop} {s:Shared}
end
namespace SF
end SF
section
variable {P:Program} {w:World} {A:Around} {E:Value->Shared->Prop} {s:Shared}
end
end L2
namespace PyProof.Rows
open PySem
section
variable {prog:Program} {w:World} {A:Around} {E:Value->Shared->Prop} {s:Shared} {κ:SortKind} {X:Keyed->Prop}
open Classical in
end
end PyProof.Rows
namespace L2
open PySem PySem.Spec PyProof.Rows
section
variable {P:Program} {w:World} {A:Around} {E:Value->Shared->Prop} {s:Shared}
open Classical in
end
section
variable {P:Program} {w:World}
end
section
variable {X:Cx} {pins:List (Addr×Obj)} {σ:St} {H:Hp} {s:Shared}
end
section
variable {X:Cx}
end
section
variable {X:Cx} {pins:List (Addr×Obj)} {σ:St} {H:Hp} {s:Shared}
def Inv.turnedNew{h':Heap}{L:List Addr}{o:HO}{t':Nat}(I:Inv X pins σ H s)(k:∀b u,b∉L->s.heap.get? b=some u->h'.get? b=some u)(f:∀b∈L,b6 X pins H b)
  (new:bC X.prog X.w (upd H s.heap.objs.size o) h' s.heap.objs.size o):Inv X pins σ (upd H s.heap.objs.size o) { s with heap:=h',toks:=t' }:=by
 have hn:H s.heap.objs.size=none:=I.hok.fresh (FA _);have nin:∀b u,H b=some u->b∉L:=λb u e z=>by rw[(f b z).1]at e;cases e
 have up:∀b u,H b=some u->upd H s.heap.objs.size o b=some u:=λb u e=>by rw[aC (cq e hn)];exact e
 refine I.step (g':=s.gens) (d':=s.drawn) (ch:=L) (λb hb=>?_) (λb u _ _ hc e _=>k b u hc e) (λb u _ _ hc e _=>⟨u.slots,k b u hc e⟩) (λb u _ e n=>?_) (λb u hc e=>⟨u,k b u hc e⟩) (λb xs e=>up b _ e) (λb u v e=>up b _ e) (λb ps e=>⟨#[],by rw[up b _ e];simp⟩) (λm hm=>?_) (λb u e=>?_) I.bare
 ·obtain⟨f0,f1,f2,f3,f4,f5⟩:=f b hb;exact⟨f3,f1,f4,f5⟩
 ·rw[aC (Fz (Fe e))];exact n
 ·obtain⟨u,es,ep,hu,r⟩:=hm;exact⟨u,es,ep,k _ u (λz=>(f _ z).2.1 rfl) hu,r⟩
 ·by_cases hb:b=s.heap.objs.size
  ·subst hb;rw[aL]at e;cases e;exact new
  ·rw[aC hb]at e;refine(I.hok b u e).stay (λc v hc q=>k c v ?_ q) (λc q=>up c _ q) λc xs q=>up c _ q;rcases hc with z|z
   ·rw[z];exact nin b u e
   ·exact nin c _ z
end
def zb{P:Program}{w:World}{A:Around}(hA:A.handled=none)(it t:Addr)(ne:t≠it)(ys:Array Value):Draws P w A it [it,t] ys.size (λi v=>ys[i]?=some v) (λi h=>h.IsTupleIter it t i/\h.IsTuple t ys) where
 live:=λi h st=>by obtain⟨⟨o,ho,_⟩,_⟩:=st;exact⟨o,ho⟩
 frame:=λi h h' st k=>by obtain⟨⟨o,ho,r⟩,⟨u,hu,q⟩⟩:=st;exact⟨⟨o,k it (by simp) o ho,r⟩,⟨u,k t (by simp) u hu,q⟩⟩
 item:=λi s Q E hi st hQ=>uY st.1 st.2 (x:=ys[i]) (by simp[hi]) λh' gi sb=>hQ _ h' s.toks (by simp[hi]) ⟨gi,by obtain⟨u,hu,q⟩:=st.2;exact⟨u,(sb.2 t ne).trans hu,q⟩⟩ sb
 done:=λs Q E st hE=>og hA st.1 st.2 (by simp) hE
abbrev kx(h:Heap)(a:Addr):Heap:=h.push { cls:=.type "tuple_iterator",data:=.fields #[.ref a,.int 0 0] }
abbrev oU(h:Heap)(a:Addr):Heap:=(kx h a).push { cls:=.type "enumerate",data:=.fields #[.none,.bool false,.ref h.objs.size,rawInt 0,.none,.none] }
open AutoSeq1 (wpAny_loadPart')in
def Dn(a:Addr)(ys:Array Value)(ob:Obj):Meets (Builtin.«enumerate.__new__» ⟨[.type "enumerate",.ref a],[]⟩) (λ_ R s=>s.heap.get? a=some ob/\s.heap.IsTuple a ys/\R (.ok (.ret (.ref (kx s.heap a).objs.size))) { s with heap:=oU s.heap a }):=
 .of_wp λprog w A R s q=>by
  obtain⟨hp,g,d,tk,os⟩:=s;obtain⟨ga,gt,q⟩:=q;have hsub:=sub_enumerate;obtain⟨o,go,gc,n,gd⟩:=id gt;obtain⟨c0,d0,dt,sl⟩:=o;simp only at gc gd;subst gc gd;have gT:Heap.IsTuple (Shared.heap ⟨hp,g,d,tk,os⟩) a ys:=gt
  wp_walk using wpAny_loadPart' go
  refine wpAny_stack_any λst=>E9 ?_;split
  ·rename_i c _ _ _ _ _;cases(c == Value.type "enumerate")<;>(wp_walk using wpAny_loadPart' go,wpAny_pyIter_tuple gT;exact⟨_,rfl,q⟩)
  ·wp_walk using wpAny_loadPart' go,wpAny_pyIter_tuple gT
   exact⟨_,rfl,q⟩
def Er{prog:Program}{w:World}{A:Around}{E:Value->Shared->Prop}{s:Shared}{a:Addr}{ys:Array Value}{Q:Value->Shared->Prop}(gt:s.heap.IsTuple a ys)
  (q:∀h',IsEnum h' (s.heap.objs.size+1) s.heap.objs.size 0 .none->h'.IsTupleIter s.heap.objs.size a 0->(∀c o,s.heap.get? c=some o->h'.get? c=some o)->Q (.ref (s.heap.objs.size+1)) { s with heap:=h' }) :
  wpAny (model prog w) A (call (.type "enumerate") [.ref a]) Q E s:=by
 obtain⟨o,go,r⟩:=id gt;refine callType_new F.called_enumerate (by decide) (F.typeCall_enumerate_1 _) (F.newCall_enumerate_1 _) (λob=>F.args_object_init_2 ob _) F.entry_enumerate_new (Dn a ys o) ⟨go,gt,?_⟩;have n1:(kx s.heap a).objs.size=s.heap.objs.size+1:=Heap.size_push ..;have k2:(oU s.heap a).get? (kx s.heap a).objs.size=some _:=Fd _ rfl;have k1:(oU s.heap a).get? s.heap.objs.size=some _:=Fc _ (Fd _ rfl);show _/\_;rw[n1]at k2 ⊢;exact⟨⟨_,k2,rfl⟩,q _ k2 ⟨_,k1,rfl,rfl⟩ λc o x=>Fc _ (Fc _ x)⟩
def gX(K:Fb)(a:Addr):It:=⟨(cK K a).go,λi H x H'=>∃p v,x=.ref p/\H p=none/\H'=upd H p (.tup [.int i,v])/\(cK K a).yld i H v H,(cK K a).stop⟩
def Ak{P:Program}{w:World}{K:Fb}{elts:List Expr}{kk:Nat}{ps:Pos}(a e it:Addr)(ne:e≠it):Turn P w K (.Tuple elts kk ps) (gX K a) [e,it] e (λi h=>(∃old,IsEnum h e it i old)/\h.IsTupleIter it a i) where
 mem:=by simp
 obj:=λi h st b hb=>by
  obtain⟨⟨old,ge⟩,o,go,gc,gd⟩:=st;rcases Fv.mp hb with rfl|hb
  ·exact⟨_,ge,λv z=>by cases(show Data.fields _=Data.cell v from z)⟩
  ·cases Fq.mp hb;exact⟨o,go,λv z=>by rw[gd]at z;cases z⟩
 keep:=λi h h' st k=>by obtain⟨⟨old,ge⟩,gi⟩:=st;exact⟨⟨old,k e (by simp) _ ge⟩,gi.at λo z=>k it (by simp) o z⟩
 item:=by
  intro X hP hw hK hc i pins s σ H E I hf st hg;subst hP hw hK;obtain⟨⟨old,ge⟩,gi⟩:=st;obtain⟨xs,x,hq,hx⟩:=hg;obtain⟨its,rv,p,hz⟩:=I.tuple hq;obtain⟨u,hu,ru⟩:=rv.get hx;have hi:i<its.toArray.size:=by have:=(Fo.mp hu).1;simpa using this
  have hA:X.A.in1.handled=none:=I.ok.hd hc;have hta:a≠it:=λz=>by obtain⟨o,ho,hcl,_⟩:=p;obtain⟨o',ho',hcl',_⟩:=gi;rw[z,ho']at ho;cases ho;rw[hcl]at hcl';exact absurd (Value.type.inj hcl') (by decide)
  have hea:e∉[it,a]:=λz=>by
   rcases Fv.mp z with z|z
   ·exact ne z
   ·cases Fq.mp z;obtain⟨o,ho,hcl,_⟩:=p;rw[ge]at ho;cases ho;exact absurd (Value.type.inj hcl) (by decide)
  refine wpAny_pyNext_enum_itemD (zb hA it a hta its.toArray) ge ⟨gi,show s.heap.IsTuple a its.toArray from p⟩ hi ne hea λy h' tk hy geo gs gT gz gk=>⟨_,rfl,?_⟩;have ey:y=u:=by
   have:its[i]?=some y:=by simpa using hy
   rw[hu]at this;exact(FX this).symm
  subst ey;have lt:∀b∈[e,it],b≠s.heap.objs.size:=λb hb=>by
   rcases Fv.mp hb with rfl|hb
   ·exact Fz (Fe ge)
   ·cases Fq.mp hb;obtain⟨o,ho,_⟩:=gi;exact Fz (Fe ho)
  have I1:Inv X pins σ (upd H s.heap.objs.size (.tup [.int i,x])) { s with heap:=h',toks:=tk+1 }:=
   Inv.turnedNew (L:=[e,it]) I (λb o hb z=>gk b o (λq=>hb (by simp[q])) (λq=>hb (by simp[q])) z) hf ⟨by show 2<=sizeLine;decide,[.int i tk,y],.cons ⟨tk,rfl⟩ (.cons ru .nil),⟨_,gT,rfl,_,rfl⟩⟩
  have fe:b6 X pins (upd H s.heap.objs.size (.tup [.int i,x])) e:=by obtain⟨c0,c1,c2,c3,c4,c5⟩:=hf e (by simp);exact⟨by rw[aC (lt e (by simp))];exact c0,c1,c2,c3,c4,c5⟩
  refine wpAny_letOwnedTupleGo_enum (s:={ s with heap:=h',toks:=tk+1 }) geo λk gk' bk=>?_;refine⟨.ref s.heap.objs.size,upd H s.heap.objs.size (.tup [.int i,x]),Inv.same (s:={ s with heap:=h',toks:=tk+1 }) (k:=h') I1 fe bk.extBut,rfl,⟨_,x,rfl,I.hok.fresh (FA _),rfl,rfl,λzs hzs=>by rw[I.tuple_inj hzs hq];exact hx⟩,⟨⟨y,by simpa using gk'⟩,gs.1.at λo z=>bk.extBut it o (Ne.symm ne) z⟩,λb hb=>?_⟩;rw[aC (lt b hb)];exact(hf b hb).1
 done:=by intro X hP hw hK hc i pins s σ H E I hf st hg;subst hP hw hK;obtain⟨⟨old,ge⟩,gi⟩:=st;obtain⟨xs,hq,hx⟩:=hg;obtain⟨its,rv,p,hz⟩:=I.tuple hq;have hA:X.A.in1.handled=none:=I.ok.hd hc;have gT:s.TypeIs (.ref e) "enumerate":=⟨_,ge,rfl⟩;have hl:=rv.length;unfold pyNext;refine E8 (wpAny_attempt (F7 (name:=FW "__next__") gT F.slot_enumerate_next (wpAny_call_entry F.slot_enumerate_next gT F.entry_enumerate_next ?_ (F.args_enumerate_next_1 _))));show wpAny _ _ (field (Value.ref e) 2 >>= _) _ _ _;refine E8 (wpAny_field ge rfl (x:=Value.ref it) rfl ?_);refine E8 (og hA gi (show s.heap.IsTuple a its.toArray from p) (by simp;omega) λh' x he hx'=>?_);obtain⟨o,ho,hc'⟩:=hx';refine E8 (wpAny_isInstance (s:={ s with heap:=h' }) (T:="StopIteration") (b:=true) ⟨o,ho,hc'⟩ isSubtype_stop ?_);exact E9 ⟨rfl,Inv.same (k:=s.heap) I (hf it (by simp)) he⟩
 self:=λ_ _ _ _ _ st h=>by obtain⟨⟨old,ge⟩,_⟩:=st;exact wpAny_pyIter_enum ge h
section
variable {K:Fb} {σ:St} {H:Hp} {Q:VK}
def oi(K:Fb):List V->Hp->(It->Hp->Prop)->Prop:=λvs H R=>∃a xs,vs=[.ref a]/\ah K H a xs/\R (gX K a) H
def xl(K:Fb)(ta:TA):TI:=λσ H R=>ta σ H λvs H1=>oi K vs H1 R
def xE{X:Cx}{elts:List Expr}{kk:Nat}{ps:Pos}(K:Fb){a:Expr}{ta:TA}{p pos:Pos}(hg:Gl X "enumerate")(hm:X.mg "enumerate" = none)(ha:PA X [a] ta)(hK:X.K=K:=by rfl)(hs:starEach [a] X.env=[(false,eval a X.env)]:=by rfl):
  PI X (.Tuple elts kk ps) (.Call (.Name "enumerate" p) [a] [] pos) (xl K ta):=by
 subst hK;intro pins s σ H R I h;refine Call_ (fh I hg hm PyProof.Rows.boot_enumerate (PyProof.Rows.callWith_type1 (aD (ha pos pins s σ H _ I h) λus s1 ⟨vs,H1,I1,r1,q1⟩=>?_) (by rw[hs];rfl) rfl));obtain⟨l,xs,e,hq,q⟩:=q1;subst e;obtain⟨u,rfl,rx⟩:=vals1 r1;cases rx;obtain⟨its,_,p1,_⟩:=I1.tuple hq;refine Er (show s1.heap.IsTuple l its.toArray from p1) λh' ge gi k=>?_;refine wpAny_pyIter_enum (s:={ s1 with heap:=h' }) ge ?_;refine⟨s1.heap.objs.size+1,[s1.heap.objs.size+1,s1.heap.objs.size],_,_,H1,rfl,I1.kept (t':=s1.toks) k,Ak l (s1.heap.objs.size+1) s1.heap.objs.size (λz=>by have z':@Eq Nat _ _:=z;omega),⟨⟨_,ge⟩,gi⟩,λb hb=>?_,q⟩;have le:@LE.le Nat _ s1.heap.objs.size b:=by
  rcases Fv.mp hb with rfl|hb
  ·exact Nat.le_add_right _ _
  ·cases Fq.mp hb;exact FA _
 exact I1.fpOk le (I1.hok.fresh le)
def rd_enum{a:TA}{R:It->Hp->Prop}(h:a σ H λvs H1=>oi K vs H1 R):xl K a σ H R:=h
def uj{a:Addr}{xs:List V}{R:It->Hp->Prop}(ha:ah K H a xs)(h:R (gX K a) H):oi K [.ref a] H R:=⟨a,xs,rfl,ha,h⟩
def CG{a:Addr}{xs:List V}{g:TG}{tb:TS}{D:Ends}(Pv:Nat->St->Hp->Prop)(h0:Pv 0 σ H)(hl:∀i σ H,i<=xs.length->Pv i σ H->ah K H a xs)
  (hs:∀i u σ H p H',xs[i]?=some u->Pv i σ H->Ext H H'->H' p=some (.tup [.int i,u])->H p=none->g (.ref p) σ H' λσ2 H2=>tb { D with nx:=Pv (i+1),ct:=Pv (i+1),bk:=D.nx } σ2 H2) (hd:∀σ H,Pv xs.length σ H->D.nx σ H) :
  ∃W:Nat->Nat->St->Hp->Prop,(∃m,W 0 m σ H)/\∀i m σ H,W i m σ H →
   ((gX K a).stop i H/\D.nx σ H)\/((gX K a).go i H/\∃N:St->Hp->Prop,(∀σ' H',N σ' H'->∃m',m'<m/\W (i+1) m' σ' H')/\∀x H',(gX K a).yld i H x H'->g x σ H' λσ2 H2=>tb { D with nx:=N,ct:=N,bk:=D.nx } σ2 H2):=by
 refine⟨λi m σ H=>m=xs.length-i/\i<=xs.length/\Pv i σ H,⟨xs.length,by simp,Nat.zero_le _,h0⟩,?_⟩;rintro i m σ H ⟨rfl,hi,p⟩;have qa:=hl i σ H hi p;by_cases hlt:i<xs.length
 ·refine .inr ⟨⟨xs,xs[i],qa,by simp[hlt]⟩,Pv (i+1),λσ' H' p'=>⟨xs.length-(i+1),by omega,rfl,hlt,p'⟩,λx H' y=>?_⟩;obtain⟨pp,u,rfl,hn,rfl,yu⟩:=y;exact hs i u σ H pp _ (yu.2 xs qa) p (bq hn) aL hn
 ·have e:i=xs.length:=by omega
  subst e;exact .inl ⟨⟨xs,qa,FA _⟩,hd σ H p⟩
end
section
variable {X:Cx}
def oy(neg:Bool):R2:=λx y H Q=>∃n p xs d ds,bf H n x d/\y=.ref p/\H p=some (.lst xs)/\Paired (bf H n) xs ds/\n<=50/\Q (.bl (if neg then !(ds.any λe=>PyData.eqv e d)else ds.any λe=>PyData.eqv e d)) H
def E6{k:Nat}(hr:Room k X.A):bI X (compareOp .In) (oy false):=by intro pins s σ H x y v u Q I rx ry h;obtain⟨n,p,xs,d,ds,h1,rfl,h2,h3,hn,q⟩:=h;have h4:bf H (n+1) (.ref p) (.list ds):=.inr ⟨p,xs,ds,rfl,.inr ⟨h2,rfl⟩,h3⟩;obtain⟨as,ra⟩:=bf.reads I n h1 rx;obtain⟨bs,rb⟩:=bf.reads I (n+1) h4 ry;have l1:=bf.lay n h1;have l2:=jr (λ{x d}=>bf.lay (H:=H) n) h3;have hu:=hr.units;have hm:min (PyData.depthAll ds) d.depth<=50:=FP (Nat.min_le_right _ _) (FP l1.2 hn);exact SeqAt.in_list_reads rb ra l2.1 l1.1 (by omega) ⟨.bl _,H,I,rfl,q⟩
def vg{k:Nat}(hr:Room k X.A):bI X (compareOp .NotIn) (oy true):=by intro pins s σ H x y v u Q I rx ry h;obtain⟨n,p,xs,d,ds,h1,rfl,h2,h3,hn,q⟩:=h;have h4:bf H (n+1) (.ref p) (.list ds):=.inr ⟨p,xs,ds,rfl,.inr ⟨h2,rfl⟩,h3⟩;obtain⟨as,ra⟩:=bf.reads I n h1 rx;obtain⟨bs,rb⟩:=bf.reads I (n+1) h4 ry;have l1:=bf.lay n h1;have l2:=jr (λ{x d}=>bf.lay (H:=H) n) h3;have hu:=hr.units;have hm:min (PyData.depthAll ds) d.depth<=50:=FP (Nat.min_le_right _ _) (FP l1.2 hn);exact SeqAt.notIn_list_reads rb ra l2.1 l1.1 (by omega) ⟨.bl _,H,I,rfl,q⟩
def qr{neg:Bool}{n:Nat}{x:V}{p:Addr}{xs:List V}{d:PyData}{ds:List PyData}{H:Hp}{Q:VK}(h1:bf H n x d)(h2:H p=some (.lst xs))(h3:Paired (bf H n) xs ds)(hn:n<=50)(q:Q (.bl (if neg then !(ds.any λe=>PyData.eqv e d)else ds.any λe=>PyData.eqv e d)) H):oy neg x (.ref p) H Q:=
 ⟨n,p,xs,d,ds,h1,rfl,h2,h3,hn,q⟩
end
abbrev Row3:=Str×Tok×Value
def ki(w:World)(e:Row3):DictEntry:=⟨PyData.keyHash w.params e.1,.str e.1 e.2.1,e.2.2⟩
def iI(w:World)(l:List Row3)(ep:Nat):Obj:={ cls:=.type "dict",dict:=none,data:=.dict (l.map (ki w)).toArray ep,slots:=#[] }
structure GDict(w:World)(K:Fb)(a:Addr)(kvs:List (Key×V)):Prop where
 has:∃l ep,K.lookup a=some (iI w l ep)/\KV kvs (l.map λe=>((Sum.inr e.1:Key),e.2.2))
 nd:(kvs.map (·.1)).Nodup
 sm:(a == sysModules)=false
def se{P:Program}{w:World}:∀l:List Row3,Pairs (cG P w) (l.map (ki w)) (l.map λe=>((Sum.inr e.1:Key),e.2.2))
 | []=>.nil
 | e::l=>.cons (nv P w e.1 e.2.1) rfl (se l)
def CM{P:Program}{w:World}(l:List Row3):KeysOf (cG P w) (l.map (ki w)).toArray:=λe he=>by
 have he':e∈l.map (ki w):=by simpa using he
 obtain⟨x,_,rfl⟩:=List.mem_map.mp he';exact⟨.inr x.1,nv P w x.1 x.2.1,rfl⟩
def GDict.at{X:Cx}{pins:List (Addr×Obj)}{σ:St}{H:Hp}{s:Shared}{a:Addr}{kvs:List (Key×V)}(D:GDict X.w X.K a kvs)(I:Inv X pins σ H s):∃vs,KV kvs vs/\s.heap.DictOf (cG X.prog X.w) a vs:=by obtain⟨l,ep,hl,r⟩:=D.has;refine⟨_,r,iI X.w l ep,_,ep,I.kIn _ _ hl,⟨rfl,rfl,rfl⟩,rfl,CM l,se l,?_⟩;rw[←r.keys];exact D.nd
section
variable {X:Cx} {x:Str} {a:Addr} {kvs:List (Key×V)} {i:Expr} {ty:TE} {p pos:Pos}
def uH(kvs:List (Key×V))(ty:TE):TE:=λσ H Q=>ty σ H λy H1=>∃k v,y=kV k/\aZ kvs k=some v/\Q v H1
def vF(neg:Bool)(kvs:List (Key×V))(ty:TE):TE:=λσ H Q=>ty σ H λy H1=>∃k,y=kV k/\Q (.bl (if neg then !(aZ kvs k).isSome else(aZ kvs k).isSome)) H1
def Bw(hg:Gl X x)(hm:X.mg x=some (.ref a))(D:GDict X.w X.K a kvs)(hi:PE X i ty)(hs:lJ i)(hd:(x == ("__debug__":Str))=false:=by decide):PE X (.Subscript (.Name x p) i pos) (uH kvs ty):=by intro pins s σ H Q I h;refine rM PySem.F.slot_dict_getitem.lookup hs (jA I hg hm (aD (hi pins s σ H _ I h) λiv s2 ⟨y,H2,I2,ry,k,v,ey,hv,q⟩=>?_) hd);subst ey;obtain⟨vs,rel,dd⟩:=D.at I2;obtain⟨w',hw,rw'⟩:=eC.some_of (v:=v) (o:=valueAt vs k) (by rw[←hv];exact rel.val k);exact⟨dd.typeIs,wpAny_getItem_of (iK ry) dd.mapOf hw ⟨v,H2,I2.tok _,rw',q⟩⟩
def zS(hg:Gl X x)(hm:X.mg x=some (.ref a))(D:GDict X.w X.K a kvs)(hi:PE X i ty)(hd:(x == ("__debug__":Str))=false:=by decide):PC X .In i (.Name x p) (vF false kvs ty):=by intro pins s σ H Q I h;refine aD (hi pins s σ H _ I h) λiv s1 ⟨y,H1,I1,ry,k,ey,q⟩=>jA I1 hg hm ?_ hd;subst ey;obtain⟨vs,rel,dd⟩:=D.at I1;refine wpAny_in_of (iK ry) D.sm dd.mapOf ?_;rw[←(rel.val k).isSome_eq];exact⟨.bl (aZ kvs k).isSome,H1,I1.tok _,rfl,q⟩
def rd_gget{σ:St}{H:Hp}{Q:VK}(h:ty σ H λy H1=>∃k v,y=kV k/\aZ kvs k=some v/\Q v H1):uH kvs ty σ H Q:=h
def rd_gin{neg:Bool}{σ:St}{H:Hp}{Q:VK}(h:ty σ H λy H1=>∃k,y=kV k/\Q (.bl (if neg then !(aZ kvs k).isSome else(aZ kvs k).isSome)) H1):vF neg kvs ty σ H Q:=h
def CB{R:V->Prop}{z:Str}{v:V}(hv:aZ kvs (.inr z)=some v)(h:R v):∃k v,V.str z=kV k/\aZ kvs k=some v/\R v:=⟨.inr z,v,rfl,hv,h⟩
def ur:R2:=λx y H Q=>∃a b,x=.str a/\y=.str b/\Q (.bl (!decide (b.cps.toList<a.cps.toList))) H
def rd:bI X (compareOp .LtE) ur:=by intro pins s σ H x y v u Q I rx ry h;obtain⟨a,b,rfl,rfl,q⟩:=h;obtain⟨t,rfl⟩:=rx;obtain⟨t',rfl⟩:=ry;exact PySem.P.le_str ⟨.bl _,H,I,rfl,q⟩
def rd_leS{a b:Str}{H:Hp}{Q:VK}(h:Q (.bl (!decide (b.cps.toList<a.cps.toList))) H):ur (.str a) (.str b) H Q:=⟨a,b,rfl,rfl,h⟩
def mV{α β:Type}{f g:α->Option β}:∀{l:List α},(∀x∈l,f x=g x)->l.filterMap f=l.filterMap g
 | [],_=>rfl
 | x::l,h=>by rw[List.filterMap_cons,List.filterMap_cons,h x Fm,mV λy hy=>h y (Fi _ hy)]
def A8(n:Nat)(xs:List Value)(h:xs.length=n):(F8 n).filterMap (λi:Nat=>xs[((n:Int)-1+(i:Int)*(-1)).toNat]?)=xs.reverse:=by
 refine List.ext_getElem? λi=>?_;have e:(F8 n).filterMap (λi:Nat=>xs[((n:Int)-1+(i:Int)*(-1)).toNat]?)=(F8 n).map (λi:Nat=>xs.reverse.getD i .none):=by
  rw[←List.filterMap_eq_map];refine mV λi hi=>?_;have hi:=List.mem_range.mp hi;have:((n:Int)-1+(i:Int)*(-1)).toNat=n-1-i:=by omega
  rw[this,Function.comp_apply,List.getD_eq_getElem?_getD,List.getElem?_reverse (by omega),h,Fg (show n-1-i<xs.length by omega)];rfl
 rw[e,Fh];by_cases hi:i<n
 ·rw[Fg (by simpa using hi),Fg (by simpa[h]using hi)];simp[List.getD_eq_getElem?_getD,h,hi]
 ·rw[List.getElem?_eq_none (by simpa using hi),List.getElem?_eq_none (by simpa[h]using hi)];rfl
def CI(its:List Value):slicePick its.toArray none none (some (-1))=its.reverse.toArray:=by
 unfold slicePick;have e:sliceBounds none none (some (-1)) its.toArray.size=((its.length:Int)-1,-1,-1):=by unfold sliceBounds;simp
 rw[e];refine congrArg List.toArray ?_;rw[←A8 its.length its rfl];unfold sliceRange;simp only;rw[Gb (by decide),List.filterMap_map];have el:(if(its.length:Int)-1 > -1 then((its.length:Int)-1 - -1 - -1-1) / - -1 else 0).toNat=its.length:=by rw[show (- -1:Int)=1 by decide,Int.ediv_one];split<;>omega
 rw[el];refine mV λi hi=>?_;rw[Function.comp_apply,show (its.length:Int)-1 + -1*(i:Int)=(its.length:Int)-1+(i:Int) * -1 by omega];simp
def Vals.rev{xs:List V}{us:List Value}(r:Vals xs us):Vals xs.reverse us.reverse:=by
 induction r with
 | nil=>exact .nil
 | cons h t ih=>
  rw[List.reverse_cons,List.reverse_cons];exact Vals.append ih (.cons h .nil)
def iU(K:Fb):V->Hp->VK->Prop:=λx H Q=>∃a xs,x=.ref a/\ag K H a xs/\eI H (.lst xs.reverse) Q
def xU(K:Fb)(te:TE)(ts:TO):TE:=λσ H Q=>te σ H λx H1=>ts σ H1 λk H2=>k=some (-1)/\iU K x H2 Q
def DJ{e st:Expr}{te:TE}{ts:TO}{p2:Pos}(K:Fb)(he:PE X e te)(hs:PO X (some st) ts)(hK:X.K=K:=by rfl):PE X (.Subscript e (.Slice none none (some st) p2) pos) (xU K te ts):=by
 subst hK;intro pins s σ H Q I h;refine Subscript_ (aD (he pins s σ H _ I h) λv s1 ⟨x,H1,I1,r1,q1⟩=>?_);refine wpAny_Slice ?_;rw[evalPart_none];refine E9 (E9 ?_);refine aD (hs pins s1 σ H1 _ I1 q1) λvs s2 ⟨k,H2,I2,pk,q2⟩=>?_;obtain⟨rfl,a,xs,rfl,hx,q⟩:=q2;cases pk with
 | int i tk=>
 cases r1;have I3:Inv X pins σ H2 { s2 with heap:=s2.heap.push { cls:=.type "slice",data:=.fields #[.none,.none,.int (-1) tk] } }:=I2.kept (t':=s2.toks) λb ob q=>Fc _ q;obtain⟨its,r,ht,hz⟩:=I3.list hx;have hlen:=r.length;show wpAny (model X.prog X.w) X.A (subscriptTail e (.Slice none none (some st) p2) (.ref a) (.ref s2.heap.objs.size)) (EP X pins σ Q) X.xe { s2 with heap:=s2.heap.push { cls:=.type "slice",data:=.fields #[.none,.none,.int (-1) tk] } };refine tail_any (ops:=[.ref a,.ref s2.heap.objs.size]) ht.isList.typeIs slot_list_getitem.lookup (wpAny_getItem_list_slice ht.isList (Heap.IsSliceOf.new ..) .none .none (.int (-1) tk) (by decide) ?_ (by rw[Fl];omega)) (by with_unfolding_all rfl);rw[CI];exact⟨.ref _,_,I3.laid (t':=s2.toks) (o:=.lst xs.reverse) (λb ob e=>Fc _ e) (FA _) ⟨by rw[List.length_reverse];exact hz,_,0,r.rev,Fd _ rfl⟩,rfl,q _ (I3.hok.fresh (FA _))⟩
def rd_revL{K:Fb}{te:TE}{ts:TO}{σ:St}{H:Hp}{Q:VK}(h:te σ H λx H1=>ts σ H1 λk H2=>k=some (-1)/\iU K x H2 Q):xU K te ts σ H Q:=h
def qk{K:Fb}{H:Hp}{Q:VK}{a:Addr}{xs:List V}(e:ag K H a xs)(h:eI H (.lst xs.reverse) Q):iU K (.ref a) H Q:=⟨a,xs,rfl,e,h⟩
def rd_dget{td:TE}{σ:St}{H:Hp}{Q:VK}(h:td σ H λx H1=>ty σ H1 λy H2=>∃a v,x=.ref a/\cx H2 a y (some v)/\Q v H2):wH td ty σ H Q:=h
end
def zg:typeLookup (.type "list_reverseiterator") "__len__" = pure none:=by rw[typeLookup_type,builtinLookup_eq_fast];kernel_rfl
def AH:typeLookup (.type "list_reverseiterator") "__length_hint__" = pure (some (.builtin "list_reverseiterator.__length_hint__")):=by rw[typeLookup_type,builtinLookup_eq_fast];kernel_rfl
section
variable {prog:Program} {w:World} {A:Around} {E:Value->Shared->Prop} {s:Shared} {r d:Addr}
def yQ{Q:Bool->Shared->Prop}(hT:s.TypeIs (.ref r) "list_reverseiterator")(h:Q false s):wpAny (model prog w) A (Builtin.List.listLengthHint (.ref r)) Q E s:=by
 unfold Builtin.List.listLengthHint;refine E8 (wpAny_specialOf hT zg ?_);show wpAny _ _ (specialOf (Value.ref r) (FW "__length_hint__") >>= _) _ _ _;refine E8 (wpAny_specialOf hT AH ?_);generalize hid:("list_reverseiterator.__length_hint__":String)=id0
 wp_delta
 rw[show splitId id0=some ("list_reverseiterator","__length_hint__")from by subst hid;decide +kernel];subst hid;refine E8 (wpAny_isInstance (T:="list_reverseiterator") (b:=true) hT (by rw[isSubtype_type];kernel_rfl) ?_);refine wpAny_ite_split (λhab=>absurd hab (by decide)) (λ_=>?_);refine wpAny_ite_split (λ_=>?_) (λhab=>absurd (by decide +kernel) hab);refine wpAny_ite_split (λhab=>absurd hab (by decide +kernel)) (λ_=>?_);exact E9 h
def BW{R:Result->Shared->Prop}{items:Array Value}(hh:A.handled=none)(hne:d≠r)(hit:s.heap.IsRevIter r d ((items.size:Int)-1))(hl:s.heap.IsList d items)(S:Addr)(hSr:S≠r)(hSd:S≠d)(res:Value)(c₀:Nat)(hS:s.heap.get? S=some { cls:=.type "list",data:=.seq #[] c₀ })
  (hR:∀h' tk acc' c',(∀b o,b≠S->b≠r->s.heap.get? b=some o->h'.get? b=some o)->h'.get? S=some { cls:=.type "list",dict:=none,data:=.seq acc' c',slots:=#[] }->ItemsOf (λi v=>items[items.size-1-i]?=some v) acc' items.size->R (.ok (.ret res)) { s with heap:=h',toks:=tk }) (hn:items.size<=sizeLine) :
  wpAny (model prog w) A.in1 (Builtin.List.listExtendWith (.ref S) (.ref r) res)
   (λfin s'=>match fin with|.done f=>R (.ok f) s'|.again c'=>c'.quiet=true/\codeAny (model prog w) A c' R s') (λe s'=>R (.error e) s') s:=by
 have hSf:S∉[r,d]:=by simp only[Fv,FQ,or_false,not_or];exact⟨hSr,hSd⟩
 have W:=Walks.listRev (prog:=prog) (w:=w) (A:=A.in1) hh r d hne items;have st:0<=items.size/\s.heap.IsRevIter r d ((items.size:Int)-1-((0:Nat):Int))/\s.heap.IsList d items:=⟨Nat.zero_le _,by rw[show (items.size:Int)-1-((0:Nat):Int)=(items.size:Int)-1 by omega];exact hit,hl⟩;unfold Builtin.List.listExtendWith;refine E8 (wpAny_typeOf (T:="list_reverseiterator") hit.typeIs ?_);have h1:Builtin.List.listSameRef (.ref S) (.ref r)=false:=by simp[Builtin.List.listSameRef,hSr]
 have h2:(Value.type "list_reverseiterator" == Value.type "list")=false:=by decide
 have h3:(Value.type "list_reverseiterator" == Value.type "tuple")=false:=by decide
 simp only[h1,h2,h3,Bool.or_false,F1,if_false];refine E8 (W.self 0 _ _ _ st ?_);refine E8 (wpAny_holding (yQ hit.typeIs ?_));refine wpAny_ite_split (λhab=>absurd hab (by decide +kernel)) (λ_=>?_);refine E9 ⟨plainId_quiet PySem.F.plain_extend_loop _,?_⟩;refine codeAny_extend_loopS W.toS hn S hSf res items.size 0 s #[] c₀ rfl (Nat.zero_le _) st hS (ItemsOf.nil _) λs' acc' c' hm hS' hacc=>?_;rw[Moved.eq_with hm];refine hR s'.heap s'.toks acc' c' (λb o hb hb2 e=>hm.heap b o (λhmem=>?_) e) hS' hacc;rcases Fv.mp hmem with e'|hmem
 ·exact hb e'
 ·exact hb2 (Fq.mp hmem)
def AV{R:Result->Shared->Prop}{items:Array Value}(hh:A.handled=none)(hne:d≠r)(hit:s.heap.IsRevIter r d ((items.size:Int)-1))(hl:s.heap.IsList d items)(S:Addr)(hSr:S≠r)(hSd:S≠d)(hS:s.heap.get? S=some { cls:=.type "list",data:=.seq #[] })
  (hR:∀h' tk acc' c',(∀b o,b≠S->b≠r->s.heap.get? b=some o->h'.get? b=some o)->h'.get? S=some { cls:=.type "list",dict:=none,data:=.seq acc' c',slots:=#[] }->ItemsOf (λi v=>items[items.size-1-i]?=some v) acc' items.size->R (.ok (.ret .none)) { s with heap:=h',toks:=tk }) (hn:items.size<=sizeLine) :
  wpAny (model prog w) A.in1 (Builtin.«list.__init__» ⟨[.ref S,.ref r],[]⟩)
   (λfin s'=>match fin with|.done f=>R (.ok f) s'|.again c'=>c'.quiet=true/\codeAny (model prog w) A c' R s') (λe s'=>R (.error e) s') s:=by
 show wpAny _ _ (do let old ←Builtin.List.listItems (.ref S);Builtin.List.listUpdate (.ref S) (λ_=>#[]);letGo old.toList.reverse;Builtin.List.listExtendWith (.ref S) (.ref r) .none) _ _ s;refine E8 ?_;unfold Builtin.List.listItems;refine E8 (wpAny_seqItems hS rfl (E9 ?_));show wpAny _ _ (updateSeq S (λ_=>#[]) >>= λ_=>letGo (#[]:Array Value).toList.reverse >>= λ_=>Builtin.List.listExtendWith (.ref S) (.ref r) .none) _ _ s;refine E8 (wpAny_updateSeq hS rfl ?_);have hS₂:=Heap.get?_update_self (Obj.mapSeq (λ_=>(#[]:Array Value))) hS rfl;have oth:∀b o,b≠S->s.heap.get? b=some o->(s.heap.update S (Obj.mapSeq (λ_=>(#[]:Array Value)))).get? b=some o:=
  λb o hb e=>(Heap.get?_update_other _ _ (Ne.symm hb)).trans e
 refine E8 (wpAny_letGo ?_);refine BW hh hne (hit.at λo e=>oth _ _ hSr.symm e) (hl.at λo e=>oth _ _ hSd.symm e) S hSr hSd .none _ hS₂ (λh' tk acc' c' hk hS' hacc=>?_) hn;exact hR h' tk acc' c' (λb o hb hb2 e=>hk b o hb hb2 (oth b o hb e)) hS' hacc
def y7{Q:Value->Shared->Prop}{items:Array Value}(hh:A.handled=none)(hne:d≠r)(hit:s.heap.IsRevIter r d ((items.size:Int)-1))(hl:s.heap.IsList d items)(hn:items.size<=sizeLine)
  (hQ:∀h' tk acc' c',(∀b o,b≠r->s.heap.get? b=some o->h'.get? b=some o)->h'.get? s.heap.objs.size=some { cls:=.type "list",dict:=none,data:=.seq acc' c',slots:=#[] }->ItemsOf (λi v=>items[items.size-1-i]?=some v) acc' items.size->Q (.ref s.heap.objs.size) { s with heap:=h',toks:=tk }) :
  wpAny (model prog w) A (call (.type "list") [.ref r]) Q E s:=by
 refine callType_codes (Q₁:=λobj s₁=>obj=.ref s.heap.objs.size/\s₁={ s with heap:=s.heap.push { cls:=.type "list",data:=.seq #[] } }) PySem.F.called_list (PySem.F.typeCall_list_1 _) PySem.F.entry_list_init
  (code_list_new _ ⟨rfl,rfl⟩) λobj s₁ h₁=>?_
 obtain⟨rfl,rfl⟩:=h₁;have hS:(s.heap.push { cls:=.type "list",data:=.seq #[] }).get? s.heap.objs.size=some { cls:=.type "list",data:=.seq #[] }:=Fd _ rfl;have l1:r<s.heap.objs.size:=let ⟨o,ho,_⟩:=hit;Fe ho;have l2:d<s.heap.objs.size:=let ⟨o,ho,_⟩:=hl;Fe ho;refine⟨⟨_,hS,rfl⟩,PySem.F.args_list_init_2 _ _,AV (A:=A.in1) hh hne (hit.at λo e=>Fc _ e) (hl.at λo e=>Fc _ e) _ (Nat.ne_of_gt l1) (Nat.ne_of_gt l2) hS (λh' tk acc' c' hk hS' hacc=>?_) hn⟩;exact⟨rfl,hQ h' tk acc' c' (λb o hb e=>hk b o (Fz (Fe e)) hb (Fc _ e)) hS' hacc⟩
end
def yE{its:List Value}{acc:Array Value}(h:ItemsOf (λi v=>its.toArray[its.toArray.size-1-i]?=some v) acc its.toArray.size):acc=its.reverse.toArray:=by
 have h1:acc.size=its.length:=h.1.trans Fl;have h2:=h.2;refine Array.ext_getElem? λi=>?_;by_cases hi:i<acc.size
 ·have h3:=h2 i acc[i] (Array.getElem?_eq_getElem hi);rw[Array.getElem?_eq_getElem hi,←h3,List.getElem?_toArray,List.getElem?_toArray,Fl,List.getElem?_reverse (by omega)]
 ·rw[Array.getElem?_eq_none (by omega),List.getElem?_toArray,List.getElem?_eq_none (by rw[List.length_reverse];omega)]
section
variable {X:Cx}
def yj(K:Fb)(te:TE):TE:=λσ H Q=>te σ H λx H1=>iU K x H1 Q
def Av{e:Expr}{te:TE}{p p2 pos pos2:Pos}(K:Fb)(hc:X.calm=true)(hg:Gl X "list")(hm:X.mg "list" = none)(hg2:Gl X "reversed")(hm2:X.mg "reversed" = none)(he:PE X e te)(hK:X.K=K:=by rfl)
  (h1:starEach [e] X.env=(false,eval e X.env)::starEach [] X.env:=by rfl)
  (h2:starEach [.Call (.Name "reversed" p2) [e] [] pos2] X.env=(false,eval (.Call (.Name "reversed" p2) [e] [] pos2) X.env)::starEach [] X.env:=by rfl) :
  PE X (.Call (.Name "list" p) [.Call (.Name "reversed" p2) [e] [] pos2] [] pos) (yj K te):=by
 subst hK;intro pins s σ H Q I h;refine wpAny_Call_Name_kw (fh I hg hm PyProof.Rows.boot_list ?_ (by decide) (by decide));refine PyProof.Rows.callWith_type1 ?_ h2 rfl;rw[h2];show wpAny _ _ (spliced ((false,eval (.Call (.Name "reversed" p2) [e] [] pos2) X.env)::backTo pos (starEach [] X.env))) _ _ s;refine Calls.spliced_cons ?_;refine wpAny_Call_Name_kw (fh I hg2 hm2 PyProof.Rows.boot_reversed ?_ (by decide) (by decide));refine PyProof.Rows.callWith_type1 ?_ h1 rfl;rw[h1];show wpAny _ _ (spliced ((false,eval e X.env)::backTo pos2 (starEach [] X.env))) _ _ s;refine Calls.spliced_cons (aD (he pins s σ H _ I h) λu s1 ⟨x,H1,I1,r1,q1⟩=>?_);refine Calls.spliced_nil ?_;obtain⟨a,xs,rfl,hx,q⟩:=q1;cases r1;obtain⟨its,r,pl,hz⟩:=I1.list hx;have hlen:=r.length;refine call_reversed_list pl.isList ?_;refine Calls.spliced_nil ?_;have la:a<s1.heap.objs.size:=let ⟨o,ho,_⟩:=pl.isList;Fe ho;have hsz:(s1.heap.push (revObj a ((its.toArray.size:Int)-1))).objs.size=s1.heap.objs.size+1:=Heap.size_push ..;refine y7 (items:=its.toArray) (d:=a) (r:=s1.heap.objs.size) (I1.ok.hd hc) (Fz la) ⟨_,Fd _ rfl,rfl,rfl⟩ (pl.isList.at λo e=>Fc _ e) (by rw[Fl];omega) λh' tk acc' c' hk hS' hacc=>?_;have hk':∀b o,s1.heap.get? b=some o->h'.get? b=some o:=λb o e=>hk b o (Fz (Fe e)) (Fc _ e);have hle:s1.heap.objs.size<=(s1.heap.push (revObj a ((its.toArray.size:Int)-1))).objs.size:=by rw[hsz];exact Nat.le_succ _
 rw[yE hacc]at hS';exact⟨.ref _,_,I1.laid (t':=tk) (o:=.lst xs.reverse) hk' hle ⟨by rw[List.length_reverse];exact hz,_,c',r.rev,hS'⟩,rfl,q _ (I1.hok.fresh hle)⟩
def rR(tk tv:TE):TE:=λσ H Q=>∀p,H p=none->tk σ (upd H p (.dT [])) λx H1=>tv σ H1 λv H2=>∃b k,x=.ref b/\H2 b=some (.tup (List.map kV k))/\H2 p=some (.dT [])/\Q (.ref p) (upd H2 p (.dT [(k,v)]))
def rh{ek ev:Expr}{tk tv:TE}{pos:Pos}(hu:X.A.units+1<cLine)(hk:PE X ek tk)(hv:PE X ev tv):PE X (.Dict [some ek] [ev] pos) (rR tk tv):=by
 intro pins s σ H Q I q;have hn:=I.hok.fresh (FA s.heap.objs.size);have I1:=I.laid (a:=s.heap.objs.size) (o:=.dT []) (h':=s.heap.push { cls:=.type "dict",data:=.dict #[] }) (t':=s.toks) (λ_ _ q=>Fc _ q) (FA _) (Am s.heap I.big);refine wpAny_Dict_any rfl rfl (by simp) (by simp) ?_;refine pairTrees_cons_walk (aD (hk pins _ σ _ _ I1 (q _ hn)) λu s1 ⟨x,H1,I1,rx,q1⟩=>aD (hv pins s1 σ H1 _ I1 q1) λw2 s2 ⟨v,H2,I2,ry,q2⟩=>pairTrees_nil_walk ?_);obtain⟨b,k,rfl,hb,e,q3⟩:=q2;cases(show u=Value.ref b from rx);obtain⟨z,hd,xs,rel,dd⟩:=uL I2.hok e;have hz:xs.length<=sizeLine:=by rw[←Paired.length rel];exact Nat.zero_le _
 unfold storeAll;rw[List.forIn_cons];refine E8 (E8 (wpAny_dictSet_heap (hsz:=hz) (show(tupleKind (cG X.prog X.w)).room X.A from Nat.lt_of_succ_lt hu) (jB I2.hok hb) dd λh' dd' hs=>E9 ?_));dsimp only;rw[List.forIn_nil];refine E9 ⟨.ref s.heap.objs.size,_,?_,rfl,q3⟩;obtain⟨q,es,ep,hq,h2,h3,h4,_,h5⟩:=dd';refine nh I2 (by rw[e];exact True.intro) hs ⟨q,hq⟩ ⟨by rw[sizeLine_eq];simp,hd,_,(rel.put k hb ry).keeps λc ys ec=>?_,q,es,ep,hq,h2,h3,h4,h5⟩;rw[aC (cF ec e (λz=>nomatch z))];exact ec
def rd_lrev{K:Fb}{te:TE}{σ:St}{H:Hp}{Q:VK}(h:te σ H λx H1=>iU K x H1 Q):yj K te σ H Q:=h
def rd_disp1{tk tv:TE}{σ:St}{H:Hp}{Q:VK}(h:∀p,H p=none->tk σ (upd H p (.dT [])) λx H1=>tv σ H1 λv H2=>∃b k,x=.ref b/\H2 b=some (.tup (List.map kV k))/\H2 p=some (.dT [])/\Q (.ref p) (upd H2 p (.dT [(k,v)]))):rR tk tv σ H Q:=h
def rd_dnin{ty td:TE}{σ:St}{H:Hp}{Q:VK}(h:ty σ H λy H1=>td σ H1 λx H2=>∃a o,x=.ref a/\cx H2 a y o/\Q (.bl (!o.isSome)) H2):tN ty td σ H Q:=h
def rd_dput{td ty tv:TE}{D:Ends}{σ:St}{H:Hp}(h:tv σ H λv H1=>td σ H1 λx H2=>ty σ H2 λy H3=>∃a H4,x=.ref a/\eJ H3 a y v H4/\D.nx σ H4):vU td ty tv D σ H:=h
end
section
variable {X:Cx} {tg:Expr}
end
section
variable {prog:Program} {w:World} {A:Around} {E:Value->Shared->Prop} {s:Shared}
end
section
variable {X:Cx} {tg:Expr}
end
section
variable {X:Cx}
end
def DH(K:Fb):List V->Hp->VK->Prop:=λxs H Q=>∃(p:Addr) (bs:List Bool),xs=[.ref p]/\ag K H p (bs.map V.bl)/\Q (.bl (bs.any id)) H
def any_range(bs:List Bool):((F8 bs.length).any λi=>bs.getD i false)=bs.any id:=by
 rw[FU,FT,FT];constructor
 ·rintro⟨i,hi,h⟩;have hi':=List.mem_range.mp hi;rw[List.getD_eq_getElem?_getD,Fg hi']at h;exact⟨_,FI hi',h⟩
 ·rintro⟨b,hb,h⟩;obtain⟨i,hi,e⟩:=List.mem_iff_getElem.mp hb;refine⟨i,List.mem_range.mpr hi,?_⟩;rw[List.getD_eq_getElem?_getD,Fg hi,e];exact h
def qH{X:Cx}(K:Fb)(hc:X.calm=true)(hK:X.K=K:=by rfl):ck X (.builtin "any") (DH K):=by
 subst hK;intro pins s σ H xs us Q I r h;obtain⟨p,bs,rfl,hq,q⟩:=h;obtain⟨u,rfl,rx⟩:=vals1 r;cases rx;obtain⟨its,rv,pl,hz⟩:=I.list hq;have eb:=nW rv;have hne:p≠s.heap.objs.size:=Fz (by obtain⟨o,n,e,_⟩:=pl;exact Fe e);refine call_any_walk (wpAny_pyIter_list pl.isList ?_);have I1:Inv X pins σ H { s with heap:=s.heap.push { cls:=.type "list_iterator",data:=.fields #[.ref p,.int 0 0] } }:=I.kept (t':=s.toks) λb o e=>Fc _ e;have hf:=I.fpOk (H':=H) (FA s.heap.objs.size) I.fresh;refine⟨s.heap.objs.size,_,_,_,_,_,(λi=>bs.getD i false),rfl,Walks.list (A:=X.A.in1) (I.ok.hd hc) _ p hne its.toArray,⟨⟨_,Fd _ rfl,rfl,rfl⟩,?_⟩,?_,λh' tk hk=>?_⟩
 ·exact pl.isList.push _
 ·intro i v s' Q' E' hv hQ;rw[eb]at hv;have hv':(bs.map Value.bool)[i]?=some v:=by simpa using hv
  rw[Fh]at hv';cases eg:bs[i]? with
  | none=>rw[eg]at hv';cases hv'
  | some b=>
   rw[eg]at hv';cases hv';have eb':bs.getD i false=b:=by rw[List.getD_eq_getElem?_getD,eg];rfl
   have hQ':Q' (bs.getD i false) s':=hQ;rw[eb']at hQ';exact wpAny_truthy_bool hQ'
 ·obtain⟨f0,f1,f2,f3,f4,f5⟩:=hf;have hl:=rv.length;rw[Ff]at hl;refine⟨.bl (bs.any id),H,I1.turned (it:=s.heap.objs.size) (λb o hb e=>hk b o (by simpa using hb) e) f0 f1 f3 f4 f5,?_,q⟩;show Value.bool _=Value.bool _;rw[Fl,←hl,any_range]
section
variable {X:Cx}
end
section
variable {P:Program} {w:World} {K:Fb} {mg:Str->Option Value} {base:Heap}
end
section
variable {X:Cx}
end
section
variable {P:Program} {w:World} {A:Around} {E:Value->Shared->Prop} {s:Shared}
end
section
variable {X:Cx} {pins:List (Addr×Obj)} {σ:St} {H:Hp} {s:Shared}
end
section
variable {X:Cx}
end
section
variable {P:Program} {w:World} {A:Around} {E:Value->Shared->Prop} {s:Shared}
end
section
variable {X:Cx}
end
section
variable {X:Cx} {pins:List (Addr×Obj)} {σ:St} {H:Hp} {s:Shared}
end
section
variable {X:Cx}
end
section
variable {X:Cx} {x:Addr} {oe:Obj}
end
section
variable {prog:Program} {w:World} {A:Around} {E:Value->Shared->Prop} {s:Shared} {dd:Option Addr}
end
section
variable {X:Cx} {x:Addr} {oe:Obj}
end
section
variable {X:Cx}
end
section
variable {prog:Program} {w:World} {A:Around} {E:Value->Shared->Prop} {K:Fb} {x D:Addr} {ox:Obj} {h:Heap} {g:Array GenState} {dr:Drawn} {t:Nat} {os:OsState}
variable {nm q:Str} {N:Addr} {bs bm bmB:List Value} {sn:List Str} {sub:List Value} {ab:Bool} {col:Option Bool} {dd:Option Addr} {k0 k1 k2 k3 k5:Option Value} {newId:String} {name:Str} {v:Value}
end
section
variable {prog:Program} {w:World} {A:Around} {E:Value->Shared->Prop} {h:Heap} {g:Array GenState} {d:Drawn} {t:Nat} {os:OsState}
variable {nm q:Str} {C N:Addr} {bs bm bmB:List Value} {hdct:Bool} {sn:List Str} {sub:List Value} {ab:Bool} {col:Option Bool} {dd:Option Addr} {k0 k1 k2 k3 k5:Option Value} {B newId initId:String} {K:Fb}
end
section
variable {P:Program} {w:World} {A:Around} {E:Value->Shared->Prop} {K:Fb} {s:Shared} {e C:Addr} {oe:Obj} {v:Value}
end
section
variable {M:Model} {A:Around} {E:Value->Shared->Prop} {env:Env} {nm q:Str} {C N:Addr} {bs bm bmB:List Value} {hdct:Bool} {sn:List Str} {sub:List Value} {ab:Bool} {col:Option Bool} {dd:Option Addr} {k0 k1 k2 k3 k5:Option Value} {newId:String}
end
section
variable {prog:Program} {w:World} {A:Around} {E:Value->Shared->Prop} {s:Shared} {env:Env} {K:Fb} {nm q:Str} {C N:Addr} {bs bm bmB:List Value} {hdct:Bool} {sn:List Str} {sub:List Value} {ab:Bool} {col:Option Bool} {dd:Option Addr} {k0 k1 k2 k3 k5:Option Value} {B newId initId:String}
end
section
variable {P:Program} {w:World} {K:Fb} {mg:Str->Option Value} {base:Heap} {N:List Str} {qual:Str} {scope:Scope} {f:Addr} {cd:Value} {A:Around} {outer:List Env} {s₀:Shared} {H₀:Hp} {E:XK}
end
section
variable {P:Program} {w:World} {K:Fb} {mg:Str->Option Value} {base:Heap}
end
section
variable {Y:Cx} {x:Addr} {oe:Obj}
end
section
variable {prog:Program} {w:World} {A:Around} {E:Value->Shared->Prop} {K:Fb} {x D:Addr} {ox:Obj} {od:Option Obj} {name:Str} {v:Value}
end
section
variable {X:Cx} {x D:Addr} {oe:Obj} {da:Option Addr}
end
section
variable {P:Program} {w:World} {A:Around} {E:Value->Shared->Prop} {s:Shared}
end
section
variable {X:Cx}
end
section
variable {prog:Program} {w:World} {A:Around} {E:Value->Shared->Prop} {s:Shared}
end
section
variable {X:Cx}
end
def gK{x:Str}{c:Addr}:∀(names:List (Str×NameKind)) (n:Nat) (acc:List (Str×Addr)),(cellsFrom n names acc).lookup x=some c->acc.lookup x=some c\/(n<=c/\(x,NameKind.cell)∈names)
 | [],_,_,h=>.inl h
 | (y,k)::r,n,acc,h=>by
  unfold cellsFrom at h;by_cases hk:(k == NameKind.cell)=true
  ·rw[Ge hk]at h;have hk':k=.cell:=by simpa using hk
   subst hk';rcases gK r (n+1) ((y,n)::acc) h with h|⟨h1,h2⟩
   ·rw[F4]at h;cases hb:x == y with
    | true=>
     rw[hb]at h;cases h;rw[beq_iff_eq.mp hb];exact .inr ⟨FA _,Fm⟩
    | false=>rw[hb]at h;exact .inl h
   ·exact .inr ⟨Nat.le_of_succ_le h1,Fi _ h2⟩
  ·rw[Gb hk]at h;rcases gK r n acc h with h|⟨h1,h2⟩
   ·exact .inl h
   ·exact .inr ⟨h1,Fi _ h2⟩
def j6{x y:Str}{c:Addr}:∀(names:List (Str×NameKind)) (n:Nat) (acc:List (Str×Addr)),(∀x c,acc.lookup x=some c->@LT.lt Nat _ c n)->(∀x y c,acc.lookup x=some c->acc.lookup y=some c->x=y)->(cellsFrom n names acc).lookup x=some c->(cellsFrom n names acc).lookup y=some c->x=y
 | [],_,_,_,hi,h1,h2=>hi _ _ _ h1 h2
 | (z,k)::r,n,acc,hb,hi,h1,h2=>by
  unfold cellsFrom at h1 h2;by_cases hk:(k == NameKind.cell)=true
  ·rw[Ge hk]at h1 h2;refine j6 r (n+1) ((z,n)::acc) (λx c h=>?_) (λx y c h1 h2=>?_) h1 h2
   ·rw[F4]at h;cases e:x == z with
    | true=>rw[e]at h;cases h;exact Nat.lt_succ_self _
    | false=>rw[e]at h;exact Nat.lt_succ_of_lt (hb x c h)
   ·rw[F4]at h1 h2;cases e1:x == z with
    | true=>
     rw[e1]at h1;cases h1;cases e2:y == z with
     | true=>rw[beq_iff_eq.mp e1,beq_iff_eq.mp e2]
     | false=>rw[e2]at h2;exact absurd (hb _ _ h2) (Nat.lt_irrefl _)
    | false=>
     rw[e1]at h1;cases e2:y == z with
     | true=>rw[e2]at h2;cases h2;exact absurd (hb _ _ h1) (Nat.lt_irrefl _)
     | false=>rw[e2]at h2;exact hi _ _ _ h1 h2
  ·rw[Gb hk]at h1 h2;exact j6 r n acc hb hi h1 h2
def pj{x:Str}{c:Addr}:∀(names:List (Str×NameKind)) (h:Heap) (acc:List (Str×Addr)),(cellsFrom h.objs.size names acc).lookup x=some c->acc.lookup x=some c\/(pushCells h names).IsCell c none
 | [],_,_,e=>.inl e
 | (y,k)::r,h,acc,e=>by
  unfold cellsFrom at e;unfold pushCells;by_cases hk:(k == NameKind.cell)=true
  ·rw[Ge hk]at e ⊢;rw[←Heap.size_push h { cls:=.type "cell",data:=.cell none }]at e;rcases pj r (h.push { cls:=.type "cell",data:=.cell none }) ((y,h.objs.size)::acc) e with e|e
   ·rw[F4]at e;cases hb:x == y with
    | true=>
     rw[hb]at e;cases e;exact .inr ⟨_,pushCells_keeps _ _ _ _ (Fd _ rfl),rfl⟩
    | false=>rw[hb]at e;exact .inl e
   ·exact .inr e
  ·rw[Gb hk]at e ⊢;exact pj r h acc e
section
variable {M:Model} {A:Around} {E:Value->Shared->Prop} {s:Shared}
def BJ{scope:Scope}{globals:Addr}{closure:List (Str×Addr)}{qual:Str}{func:Option Addr}{code:Value}{outer:Env}{builtins:Addr}{Q:Env->Shared->Prop}
  (hQ:Q (newEnv scope s.heap.objs.size globals (cellsFrom (s.heap.objs.size+1) scope.names closure) qual func code (some outer) builtins) { s with heap:=pushCells (s.heap.push { cls:=.type "dict",data:=.dict #[] }) scope.names }) :
  wpAny M A (newFunctionEnv scope globals closure [] qual func code (some outer) builtins) Q E s:=by
 simp only[newFunctionEnv,Option.isSome_some,if_true];refine E8 (wpAny_alloc ?_);refine E8 (wpAny_layCells _ (λname kind cells=>by cases hkc:kind == NameKind.cell<;>simp[hkc]) _ _ _ _ ?_);rw[show ({ s with heap:=s.heap.push { cls:=.type "dict",data:=.dict #[] } }:Shared).heap.objs.size=s.heap.objs.size+1 from Heap.size_push ..];refine E8 ?_;rw[List.forIn_nil];exact E9 (E9 hQ)
end
def gN(X:Cx)(sc:Scope)(C:Addr):List (Str×Addr):=cellsFrom (Nat.succ C) sc.names (dy sc.names X.env.cells)
def cI(X:Cx)(sc:Scope)(own:List Str)(js:List Nat)(z:Blk):Cx where
 prog:=X.prog
 w:=X.w
 K:=X.K
 mg:=X.mg
 base:=X.base
 A:=X.A
 N:=own++js.map λj=>X.N.getD j ""
 s₀:=z.s
 H₀:=z.H
 env:=compEnvC sc (gN X sc z.C) z.C X.env
 outer:=X.stack
 stack:=X.stack
 ex:=z.fp
 fn:=λx=>sc.names.lookup x == some .cell
 calm:=X.calm
 pn:=[]
 xe:=λ_ _=>False
def eh(sc out:Scope):Bool:=sc.names.all λp=>(p.2 != .cell || sc.names.lookup p.1 == some .cell) && (p.2 != .local || sc.names.lookup p.1 == some .local) && (p.2 != .free || out.names.lookup p.1 == some .cell || out.names.lookup p.1 == some .free) && (p.2 != .free || sc.names.lookup p.1 == some .free)
def kD{sc out:Scope}(h:eh sc out=true){p:Str×NameKind}(hp:p∈sc.names)(hf:p.2=.free):out.names.lookup p.1=some .cell\/out.names.lookup p.1=some .free:=by have:=FR.mp h p hp;simp[hf]at this;exact this.1
def DM{sc out:Scope}(h:eh sc out=true){x:Str}(hp:(x,NameKind.free)∈sc.names)(h2:sc.names.lookup x=some .cell):False:=by have:=FR.mp h _ hp;simp[h2]at this
def AS{sc out:Scope}(h:eh sc out=true){p:Str×NameKind}(hp:p∈sc.names)(hf:p.2=.cell):sc.names.lookup p.1=some .cell:=by have:=FR.mp h p hp;simp[hf]at this;exact this
def xD{sc out:Scope}(h:eh sc out=true){p:Str×NameKind}(hp:p∈sc.names)(hf:p.2=.local):sc.names.lookup p.1=some .local:=by have:=FR.mp h p hp;simp[hf]at this;exact this
section
variable {X:Cx} {pins:List (Addr×Obj)} {σ:St} {H:Hp} {s:Shared}
def jo(ok:X.Ok){sc:Scope}(hb:eh sc X.env.scope=true){x:Str}{c:Addr}(h:(dy sc.names X.env.cells).lookup x=some c):X.env.cells.lookup x=some c:=by
 rcases j4 X.env.cells sc.names [] x c h with⟨h1,h2⟩|h1
 ·obtain⟨d,hd⟩:=ok.has x (kD hb h1 rfl);rw[hd]at h2 ⊢;rw[h2];rfl
 ·simp at h1
def iA(ok:X.Ok){sc:Scope}(hb:eh sc X.env.scope=true){C:Addr}{x:Str}{c:Addr}(h:(gN X sc C).lookup x=some c):X.env.cells.lookup x=some c\/(@LT.lt Nat _ C c/\sc.names.lookup x=some .cell):=by
 rcases gK _ _ _ h with h|⟨h1,h2⟩
 ·exact .inl (jo ok hb h)
 ·exact .inr ⟨h1,AS hb h2 rfl⟩
def ny{sc:Scope}{x:Str}{C:Addr}(h:(x,NameKind.free)∈sc.names):∃c,(gN X sc C).lookup x=some c:=by obtain⟨c,hc⟩:=uQ (cells:=X.env.cells) h;exact Option.isSome_iff_exists.mp (PySem.W.cellsFrom_some sc.names _ _ (.inr (by rw[hc];rfl)))
def zH(I:Inv X pins σ H s){sc:Scope}(hb:eh sc X.env.scope=true){x:Str}{c:Addr}(h:(dy sc.names X.env.cells).lookup x=some c):@LT.lt Nat _ c s.heap.objs.size:=I.cell_lt (jo I.ok hb h)
def Ee(I:Inv X pins σ H s){sc:Scope}{own:List Str}{js:List Nat}{fp:List Addr}{C:Nat}(hk:sc.kind=.function)(hb:eh sc X.env.scope=true)
  (hfp:∀b∈fp,b6 X pins H b) (hC:s.heap.objs.size<=C) (hlt:∀b∈fp,b<s.heap.objs.size):(cI X sc own js ⟨s,H,fp,C⟩).Ok where
 mod:=I.ok.mod
 kind:=hk
 glob:=I.ok.glob
 blt:=I.ok.blt
 above:=hC
 inj:=λx y c h1 h2=>j6 sc.names _ _ (λx c e=>Nat.lt_succ_of_le (FP (Nat.le_of_lt (zH I hb e)) hC)) (λx y c e1 e2=>I.ok.inj x y c (jo I.ok hb e1) (jo I.ok hb e2)) h1 h2
 has:=λx hx=>by
  have hx':(relabel sc X.env).names.lookup x=some .cell\/(relabel sc X.env).names.lookup x=some .free:=hx;have go:∀k,(relabel sc X.env).names.lookup x=some k->(k=.cell\/k=.free)->∃c,(gN X sc C).lookup x=some c:=λk h hkk=>by
   obtain⟨k',h1,h2⟩:=jN (sc:=sc) (env:=X.env) h;have m:=iz h1;rcases h2 with h2|⟨h2,_⟩
   ·subst h2;rcases hkk with e|e
    ·rw[e]at h1;exact Option.isSome_iff_exists.mp (PySem.W.cellsFrom_some sc.names _ _ (.inl h1))
    ·rw[e]at m;exact ny m
   ·rw[h2]at m;exact ny m
  rcases hx' with h|h
  ·exact go _ h (.inl rfl)
  ·exact go _ h (.inr rfl)
 cab:=λx c h e=>by
  have hx:sc.names.lookup x=some .cell:=by simpa[cI]using h
  have e':(gN X sc C).lookup x=some c:=e;rcases gK _ _ _ e' with e1|⟨e1,_⟩
  ·rcases j4 X.env.cells sc.names [] x c e1 with⟨h1,_⟩|h1
   ·exact(DM hb h1 hx).elim
   ·simp at h1
  ·exact FP hC (Nat.le_of_succ_le e1)
 hd:=I.ok.hd
 frames:=I.ok.frames
 stk:=.inl rfl
 exf:=λb hb'=>⟨Fz (FO (hlt b hb') hC),λx c e=>by
  rcases iA I.ok hb (C:=C) e with e|⟨e,_⟩
  ·exact(hfp b hb').2.2.2.2.1 x c e
  ·exact Nat.ne_of_gt (Nat.lt_trans (FO (hlt b hb') hC) e)⟩
 bs:=I.bs
 bsz:=FP I.ok.bsz I.sz
 noex:=λb o e hb'=>by
  rcases(hfp b hb').2.2.2.1 with z|z
  ·exact I.ok.noex b o e z
  ·exact absurd (FO (Fe e) (FP I.ok.bsz z)) (Nat.lt_irrefl _)
 exfs:=λb hb' hm=>by
  rcases Fv.mp (I.stkSub b hm)with e|h
  ·exact(hfp b hb').2.1 e
  ·exact(hfp b hb').2.2.1 h
 funs:=I.stack
 frf:=I.stkFree
def EY(I:Inv X pins σ H s){sc:Scope}{own:List Str}{js:List Nat}{fp:List Addr}{C D:Nat}{h1:Heap}{tk:Nat}{o:Obj}{m:Str->Option Value}(hk:sc.kind=.function)(hb:eh sc X.env.scope=true)(hj:jS sc X.N js=true)
  (hfp:∀b∈fp,b6 X pins H b) (hlt:∀b∈fp,b<s.heap.objs.size) (hD:D=s.heap.objs.size) (hC:C=s.heap.objs.size+1) (old:∀b o,s.heap.get? b=some o->h1.get? b=some o)
  (hDo:h1.get? D=some o) (hod:∀v,o.data≠.cell v) (hm:h1.Ns C m) (hcl:∀x c,(gN X sc C).lookup x=some c->(dy sc.names X.env.cells).lookup x=some c\/h1.IsCell c none) :
  Inv (cI X sc own js ⟨s,H,fp,C⟩) [(D,o)] (dv own.length js σ) H { s with heap:=h1,toks:=tk } where
 ok:=Ee I hk hb hfp (show @LE.le Nat _ s.heap.objs.size C by omega) hlt
 os:=rfl
 bare:=I.bare
 base:=Un.kept old
 loc:=by
  refine⟨m,hm,λi x v e1 e2 e3=>?_⟩;obtain⟨k,j,rfl,ej,es⟩:=tY e2;have e1':(own++js.map λj=>X.N.getD j "")[own.length+k]?=some x:=e1;rw[FG (by omega),Nat.add_sub_cancel_left,Fh,ej]at e1';have ex:X.N.getD j "" = x:=by simpa using e1'
  have hjj:=FR.mp hj j (Fp ej);simp only[FV,decide_eq_true_eq,beq_iff_eq]at hjj;have exN:X.N[j]?=some x:=by rw[←ex,List.getD_eq_getElem?_getD,Fg hjj.1];rfl
  have hfree:sc.names.lookup x=some .free:=by rw[←ex];exact hjj.2
  have hmem:=iz hfree;have hout:=kD hb hmem rfl;obtain⟨m0,hn0,hl0⟩:=I.loc;obtain⟨u,r,l⟩:=hl0 j x v exN es (by rcases hout with z|z;exact .inr (.inl z);exact .inr (.inr z));refine⟨u,r,?_⟩;obtain⟨c,hc⟩:=ny (X:=X) (C:=C) hmem;have hc':X.env.cells.lookup x=some c:=by
   rcases iA I.ok hb hc with e|⟨_,e⟩
   ·exact e
   ·rw[hfree]at e;cases e
  have hcell:s.heap.IsCell c (some u):=by
   rcases l with⟨z,_⟩|⟨_,c',e',q⟩
   ·have z':X.env.scope.names.lookup x=some .local:=z;rcases hout with w|w<;>(rw[z']at w;cases w)
   ·rw[hc']at e';cases e';exact q
  have hcell1:h1.IsCell c (some u):=by obtain⟨oc,ho,hd⟩:=hcell;exact⟨oc,old c oc ho,hd⟩
  right;refine⟨?_,c,hc,hcell1⟩;have e3':(relabel sc X.env).names.lookup x=some .local\/(relabel sc X.env).names.lookup x=some .cell\/(relabel sc X.env).names.lookup x=some .free:=e3;rcases e3' with z|z
  ·obtain⟨k',z1,z2⟩:=jN (sc:=sc) (env:=X.env) z;rw[hfree]at z1;rcases z2 with z2|⟨_,z2⟩
   ·rw[z2]at z1;cases z1
   ·cases z2
  ·exact z
 cell:=λx c e=>by
  rcases hcl x c e with e|e
  ·obtain⟨v,oc,ho,hd⟩:=I.cell x c (jo I.ok hb e);exact⟨v,oc,old c oc ho,hd⟩
  ·exact⟨none,e⟩
 free:=I.hok.fresh (show @LE.le Nat _ s.heap.objs.size C by omega)
 freeC:=λx c e=>by
  rcases iA I.ok hb (C:=C) e with e|⟨e,_⟩
  ·exact I.freeC x c e
  ·exact I.hok.fresh (show @LE.le Nat _ s.heap.objs.size c by omega)
 pin:=λp hp=>by
  have e:p=(D,o):=by simpa[cI]using hp
  subst e;refine⟨hDo,I.hok.fresh (show @LE.le Nat _ s.heap.objs.size D by omega),?_,λz=>?_,hod⟩
  ·exact Fz (show @LT.lt Nat _ D C by omega)
  ·have h9:@LT.lt Nat _ D s.heap.objs.size:=I.stk_lt (b:=D) z;omega
 hok:=I.hok.kept old
 len:=by show(dv own.length js σ).length=(own++js.map λj=>X.N.getD j "").length;simp[dv]
def qY{elt tg iter:Expr}{ifs:List Expr}{sc:Scope}{pos:Pos}{own:List Str}{js:List Nat}{g:TG}{tc:TT}{te:TE}{J:It}{it:Addr}{fp:List Addr}{tn:Nat->Heap->Prop}{RR:Value->Addr->Result->Shared->Prop}{E:Value->Shared->Prop}
  {Q:VK} {W:Nat->Nat->List V->Hp->Prop} (hk:sc.kind=.function) (hb:eh sc X.env.scope=true) (hj:jS sc X.N js=true)
  (hg:∀C,PG (cI X sc own js ⟨s,H,fp,C⟩) tg g) (ht:∀C,jy (cI X sc own js ⟨s,H,fp,C⟩) ifs tc) (he:∀C,PE (cI X sc own js ⟨s,H,fp,C⟩) elt te)
  (I:Inv X pins σ H s) (T:∀C,TurnAt (cI X sc own js ⟨s,H,fp,C⟩) tg J fp it tn) (st:tn 0 s.heap) (hfp:∀b∈fp,b6 X pins H b) (w0:∃m,W 0 m [] H)
  (turn:∀i m ys H',W i m ys H'->(J.stop i H'/\∀p,H' p=none->Q (.ref p) (upd H' p (.lst ys))) ∨
   (J.go i H'/\ys.length<sizeLine/\∃N:List V->Hp->Prop,(∀ys' H2,N ys' H2->∃m',m'<m/\W (i+1) m' ys' H2)/\∀x H2,J.yld i H' x H2->g x (dv own.length js σ) H2 λσ2 H3=>tc σ2 H3 λb H4=>
    if b=true then te σ2 H4 λv H5=>N (ys++[v]) H5 else N ys H4))
  (fin:∀D C s' ys H',H' D=none->Inv X pins σ (upd H' D (.lst ys)) s'->b6 X pins (upd H' D (.lst ys)) C->(∃m,s'.heap.Ns C m)->s.heap.objs.size<=C->Q (.ref D) (upd H' D (.lst ys))->RR (.ref D) C (.ok .next) s') :
  wpAny (model X.prog X.w) X.A (newList []) (λacc s₃=>wpAny (model X.prog X.w) X.A (newFunctionEnv sc X.env.globals (dy sc.names X.env.cells) [] X.env.qual none .none (some X.env)) (λcenv s₄=>
   codeAny (model X.prog X.w) X.A (.compStart (.ListComp elt [⟨tg,iter,ifs,0⟩] sc pos) 0 (.ref it) acc { cenv with scope:=relabel sc X.env }) (RR acc cenv.locals) s₄) E s₃) E s:=by
 have hlt:∀b∈fp,b<s.heap.objs.size:=λb hb'=>by obtain⟨o,e,_⟩:=(T 0).obj 0 s.heap st b hb';exact Fe e
 refine wpAny_newObj_type (BJ ?_);dsimp only;generalize hH2:s.heap.push { cls:=.type "list",dict:=none,data:=.seq ([]:List Value).toArray }=H2 at *;have hCs:H2.objs.size=s.heap.objs.size+1:=by rw[←hH2,Heap.size_push]
 have hns₁:(pushCells (H2.push { cls:=.type "dict",data:=.dict #[] }) sc.names).Ns H2.objs.size (λ_=>none):=(Heap.Ns.new H2 (.type "dict")).keeps (pushCells_keeps _ _);have hcl₁:∀x c,(gN X sc H2.objs.size).lookup x=some c->(dy sc.names X.env.cells).lookup x=some c\/(pushCells (H2.push { cls:=.type "dict",data:=.dict #[] }) sc.names).IsCell c none:=λx c e=>by have e':(cellsFrom (H2.objs.size+1) sc.names (dy sc.names X.env.cells)).lookup x=some c:=e;rw[←Heap.size_push H2 { cls:=.type "dict",data:=.dict #[] }]at e';exact pj _ _ _ e'
 have old:∀b o,s.heap.get? b=some o->(pushCells (H2.push { cls:=.type "dict",data:=.dict #[] }) sc.names).get? b=some o:=λb o e=>pushCells_keeps _ _ b o (Fc _ (hH2 ▸ Fc _ e));have hDo:(pushCells (H2.push { cls:=.type "dict",data:=.dict #[] }) sc.names).get? s.heap.objs.size=some (eB [] 0):=pushCells_keeps _ _ _ _ (Fc _ (hH2 ▸ Fd _ rfl));generalize pushCells (H2.push { cls:=.type "dict",data:=.dict #[] }) sc.names=h₁ at *;generalize hCe:H2.objs.size=C at *;have below:∀b:Nat,b<s.heap.objs.size->b≠C:=λb hb'=>by omega
 generalize hDe:s.heap.objs.size=D at *;let Y:Cx:=cI X sc own js ⟨s,H,fp,C⟩;have J0:Inv Y [(D,eB [] 0)] (dv own.length js σ) H { s with heap:=h₁ }:=
  EY I hk hb hj hfp (by rw[hDe];exact hlt) hDe.symm (by rw[hDe];exact hCs) old hDo (λv z=>by cases z) hns₁ hcl₁
 have ndC:@Ne Nat D C:=by omega
 have statF:∀{P':List (Addr×Obj)} {H':Hp},(∀b∈fp,H' b=none)->(∀p∈P',p.1∉fp)->∀b∈fp,b6 Y P' H' b:=λ{P' H'} hn hp b hb'=>by
  obtain⟨f0,f1,f2,f3,f4,f5⟩:=hfp b hb';refine⟨hn b hb',λz=>below b (hlt b hb') z,λz=>?_,.inl hb',λx c e=>?_,λp hp' z=>?_⟩
  ·rcases Fv.mp (I.stkSub b z)with e|h
   ·exact f1 e
   ·exact f2 h
  ·rcases iA I.ok hb (C:=C) e with e|⟨e,_⟩
   ·exact f4 x c e
   ·have h9:@LT.lt Nat _ b s.heap.objs.size:=by rw[hDe];exact hlt b hb'
    exact Nat.ne_of_gt (show @LT.lt Nat _ b c by omega)
  ·have:p∈P':=by simpa[Y,cI]using hp'
   exact hp p this (by rw[z];exact hb')
 have Dfp:D∉fp:=λz=>by have h9:@LT.lt Nat _ D D:=hlt D z;omega
 have st1:tn 0 h₁:=(T 0).keep 0 s.heap h₁ st λb _ o e=>old b o e;have loop:∀s₃:Shared,s₃={ s with heap:=h₁ } →
   codeAny (model X.prog X.w) X.A (.compLoop (.ListComp elt [⟨tg,iter,ifs,0⟩] sc pos) 0 (.ref it) (.ref D) Y.env) (RR (.ref D) C) s₃:=by
  rintro s₃ rfl;obtain⟨m0,w0⟩:=w0;refine zJ (λn s'=>∃i ys its q H',Inv Y [(D,eB its q)] (dv own.length js σ) H' s'/\Vals ys its/\ys.length<=sizeLine/\tn i s'.heap/\(∀b∈fp,H' b=none)/\W i n ys H') ?_ m0
   ⟨0,[],[],0,H,J0,.nil,Nat.zero_le _,st1,λb hb'=>(hfp b hb').1,w0⟩
  rintro n s3 ⟨i,ys,its,q,H3,I3,rv,hz,st3,fr3,w3⟩;have pD:∀p∈[(D,eB its q)],p.1∉fp:=λp hp=>by
   have e:p=(D,eB its q):=by simpa using hp
   rw[e];exact Dfp
  rcases turn i n ys H3 w3 with⟨stop,qn⟩|⟨go,hlen,N,hN,step⟩
  ·refine aD ((T C).done i _ s3 _ H3 _ I3 (statF fr3 pD) st3 stop) λr s4 ⟨hr,I4⟩=>?_;subst hr;show RR (.ref D) C (.ok .next) s4;have hDp:=I4.pin (D,eB its q) (FY _ (Fq.mpr rfl));have hD4:s4.heap.get? D=some (eB its q):=hDp.1;have nD:H3 D=none:=hDp.2.1;have U:Un (du X.stack) fp H H3 s.heap s4.heap:=I4.base;have neD:∀b o,s.heap.get? b=some o->b≠D:=λb o e=>Fz (by have h9:@LT.lt Nat _ b s.heap.objs.size:=Fe e;omega);have neDH:∀b o,H b=some o->b≠D:=λb o e=>Fz (by have h9:@LT.lt Nat _ b s.heap.objs.size:=I.hok.lt e;omega);have U2:Un (du X.stack) fp H (upd H3 D (.lst ys)) s.heap s4.heap:=
    ⟨U.keep,U.slot,λb o e n hx=>by rw[aC (neD b o e)];exact U.free b o e n hx,U.there,λb xs e=>by rw[aC (neDH b _ e)];exact U.tups b xs e,
     λb o u e=>by rw[aC (neDH b _ e)];exact U.frzs b o u e,λb ps e=>by rw[aC (neDH b _ e)];exact U.tbls b ps e⟩
   have hok2:bt X.prog X.w (upd H3 D (.lst ys)) s4.heap:=λb o e=>by
    by_cases hb':b=D
    ·subst hb';rw[aL]at e;cases e;exact⟨hz,its,q,rv,hD4⟩
    ·rw[aC hb']at e;exact(I4.hok b o e).stay (λc u _ z=>z) (λc z=>by rw[aC (cq z nD)];exact z) λc xs z=>by rw[aC (cq z nD)];exact z
   have IX:Inv X pins σ (upd H3 D (.lst ys)) s4:=I.call' (ch:=fp) I4.os U2 hok2 I4.bare λb hb'=>by obtain⟨f0,f1,f2,f3,f4,f5⟩:=hfp b hb';exact⟨f3,f1,f4,f5⟩
   obtain⟨m4,hn4,_⟩:=I4.loc;have nC:H3 C=none:=I4.free;refine fin D C s4 ys H3 nD IX ?_ ⟨m4,hn4⟩ (show @LE.le Nat _ D C by omega) (qn D nD);refine⟨by rw[aC (Ne.symm ndC)];exact nC,?_,?_,?_,?_,?_⟩
   ·have h9:@LT.lt Nat _ X.env.locals s.heap.objs.size:=I.lt;exact Nat.ne_of_gt (show @LT.lt Nat _ X.env.locals C by omega)
   ·exact I.nofs (show @LE.le Nat _ s.heap.objs.size C by omega)
   ·right;have h9:@LE.le Nat _ X.s₀.heap.objs.size s.heap.objs.size:=I.sz;exact(show @LE.le Nat _ X.s₀.heap.objs.size C by omega)
   ·intro x c e;have h9:@LT.lt Nat _ c s.heap.objs.size:=I.cell_lt e;exact Fz (show @LT.lt Nat _ c C by omega)
   ·intro p hp;have h9:@LT.lt Nat _ p.1 s.heap.objs.size:=I.pin_lt hp;exact Fz (show @LT.lt Nat _ p.1 C by omega)
  ·refine aD ((T C).item i _ s3 _ H3 _ I3 (statF fr3 pD) st3 go) λr s4 ⟨u,hr,h4⟩=>?_;subst hr;refine aD h4 λ_ s5 ⟨x,H5,I5,r5,y5,st5,fr5⟩=>?_;have I5':=I5.pinned (statF fr5 pD) ((T 0).obj _ _ st5);refine aD (hg _ _ s5 _ H5 x u _ I5' r5 (step x H5 y5)) λ_ s6 ⟨σ6,H6,I6,q6⟩=>?_;refine aD (ht _ _ s6 σ6 H6 _ I6 q6) λok s7 ⟨H7,I7,q7⟩=>?_;have back:∀{s':Shared} {σ':St} {H':Hp} {ys':List V} {its':List Value} {q':Nat},Inv Y ([(D,eB its' q')]++gy fp s5.heap) σ' H' s'->Vals ys' its'->ys'.length<=sizeLine->N ys' H' →
     ∃m,m<n/\∃i ys its q H',Inv Y [(D,eB its q)] (dv own.length js σ) H' s'/\Vals ys its/\ys.length<=sizeLine/\tn i s'.heap/\(∀b∈fp,H' b=none)/\W i m ys H':=by
    intro s' σ' H' ys' its' q' I' rv' hz' nn;obtain⟨m',hm,w'⟩:=hN ys' H' nn;have hpin:∀b∈fp,∀o,s5.heap.get? b=some o->s'.heap.get? b=some o/\H' b=none:=λb hb' o e=>by have:=I'.pin (b,o) (FY _ (FY _ (lC hb' e)));exact⟨this.1,this.2.1⟩
    refine⟨m',hm,i+1,ys',its',q',H',?_,rv',hz',(T 0).keep _ _ _ st5 λb hb' o e=>(hpin b hb' o e).1,λb hb'=>?_,w'⟩
    ·have I'':=I'.unpinned;obtain⟨mm,hmm,_⟩:=id I''.loc;refine⟨I''.ok,I''.os,I''.bare,I''.base,⟨mm,hmm,λk x v e1 e2 e3=>?_⟩,I''.cell,I''.free,I''.freeC,I''.pin,I''.hok,?_⟩
     ·obtain⟨m1,hn1,hl1⟩:=J0.loc;obtain⟨u1,r1,l1⟩:=hl1 k x v e1 e2 e3;refine⟨u1,r1,?_⟩;obtain⟨k',j,rfl,ej,es⟩:=tY e2;have e1':(own++js.map λj=>X.N.getD j "")[own.length+k']?=some x:=e1;rw[FG (by omega),Nat.add_sub_cancel_left,Fh,ej]at e1';have ex:X.N.getD j "" = x:=by simpa using e1'
      have hjj:=FR.mp hj j (Fp ej);simp only[FV,decide_eq_true_eq,beq_iff_eq]at hjj;have hfree:sc.names.lookup x=some .free:=by rw[←ex];exact hjj.2
      rcases l1 with⟨z,zz⟩|⟨z,c,e,zz⟩
      ·exfalso;obtain⟨k2,z1,z2⟩:=jN (sc:=sc) (env:=X.env) (show(relabel sc X.env).names.lookup x=some .local from z);rw[hfree]at z1;rcases z2 with z2|⟨_,z2⟩
       ·rw[z2]at z1;cases z1
       ·cases z2
      ·refine .inr ⟨z,c,e,?_⟩;have hcs:X.env.cells.lookup x=some c:=by
        rcases iA I.ok hb (C:=C) e with e|⟨_,e⟩
        ·exact e
        ·rw[hfree]at e;cases e
       obtain⟨ov,oc,hoc,hdc⟩:=I.cell x c hcs;have hoc1:=old c oc hoc;obtain⟨oz,hoz,hdz⟩:=zz;have hoz':h₁.get? c=some oz:=hoz;rw[hoc1]at hoz';cases hoz';have cnf:c∉fp:=λz'=>(hfp c z').2.2.2.2.1 x c hcs rfl;obtain⟨sl,hh⟩:=I''.base.any hoc (I.freeC x c hcs) cnf;exact⟨_,hh,hdz⟩
     ·show(dv own.length js σ).length=_;exact J0.len
    ·obtain⟨o,e,d⟩:=(T 0).obj _ _ st5 b hb';exact(hpin b hb' o e).2
   cases ok with
   | false=>
    rw[Gb Fw]at q7 ⊢;exact back I7 rv hz q7
   | true=>
    rw[Ge rfl]at q7 ⊢;refine aD (he _ _ s7 σ6 H7 _ I7 q7) λxv s8 ⟨v,H8,I8,r8,q8⟩=>?_;have hDp:=I8.pin (D,eB its q) (FY _ (FZ _ (Fq.mpr rfl)));have hD8:s8.heap.get? D=some { cls:=.type "list",data:=.seq its.toArray q }:=hDp.1;have hl:=rv.length;refine call_meets F.slot_list_append ⟨_,hD8,rfl⟩ F.entry_list_append (F.args_list_append_2 _ _) (PySem.list_append D its.toArray q xv (by rw[Fl];omega)) ⟨hD8,?_⟩;have qq:=PySem.IsL.update hD8 (λa=>a.push xv);have eqs:its.toArray.push xv=(its++[xv]).toArray:=by simp
    rw[eqs]at qq;obtain⟨q2,hq2⟩:∃q2,(s8.heap.update D (Obj.mapSeq λa=>a.push xv)).get? D=some (eB (its++[xv]) q2):=⟨_,qq⟩;have I8a:Inv Y (gy fp s5.heap) σ6 H8 s8:=I8.pins_of λp hp=>I8.pin p (FY _ (FY _ hp));have nD8:H8 D=none:=hDp.2.1;have I9:Inv Y (gy fp s5.heap) σ6 H8 { s8 with heap:=s8.heap.update D (Obj.mapSeq λa=>a.push xv),toks:=s8.toks }:=by
     refine I8a.turned (it:=D) (λb o hb' e=>(Heap.get?_update_other s8.heap (Obj.mapSeq λa=>a.push xv) (Ne.symm hb')).trans e) nD8 ndC (.inr (show @LE.le Nat _ s.heap.objs.size D by omega)) (λx c e=>?_) λp hp=>?_
     ·rcases iA I.ok hb (C:=C) e with e|⟨e,_⟩
      ·have h9:@LT.lt Nat _ c s.heap.objs.size:=I.cell_lt e;exact Fz (show @LT.lt Nat _ c D by omega)
      ·exact Nat.ne_of_gt (show @LT.lt Nat _ D c by omega)
     ·have hp':p∈gy fp s5.heap:=by simpa[Y,cI]using hp
      obtain⟨h1,_⟩:=sx hp';exact λz=>Dfp (z ▸ h1)
    refine back (ys':=ys++[v]) (its':=its++[xv]) (q':=q2) (I9.pins_of λp hp=>?_) (rv.append (.cons r8 .nil)) (by rw[Fy,List.length_singleton];omega) q8;rcases FE.mp hp with hp|hp
    ·have e:p=(D,eB (its++[xv]) q2):=by simpa using hp
     subst e;refine⟨hq2,nD8,ndC,λz=>?_,λv z=>by cases z⟩;have h9:@LT.lt Nat _ D s.heap.objs.size:=I.stk_lt (b:=D) z;omega
    ·exact I9.pin p (FY _ hp)
 exact codeAny_compStart_list (loop _ rfl) ((T 0).self X.A 0 { s with heap:=h₁ } _ _ st1 (loop _ rfl))
def de{elt tg iter:Expr}{ifs:List Expr}{sc:Scope}{pos:Pos}(own:List Str)(js:List Nat){wi:TI}{g:TG}{tc:TT}{te:TE}(hi:PI X tg iter wi)(hg:∀z,PG (cI X sc own js z) tg g)(ht:∀z,jy (cI X sc own js z) ifs tc)
  (he:∀z,PE (cI X sc own js z) elt te) (hc:X.calm=true:=by rfl) (hk:sc.kind=.function:=by rfl) (hb:eh sc X.env.scope=true:=by rfl) (hj:jS sc X.N js=true:=by rfl)
  (hs:∀x,foldedSetIterable iter X.env x=pure x:=by intro _;rfl):PE X (.ListComp elt [⟨tg,iter,ifs,0⟩] sc pos) (nA own.length js wi g tc te):=by
 intro pins s σ H Q I h;rw[eval_ListComp];refine wpAny_comprehension_free (use:=none) rfl hs (oq λp hp hf=>I.ok.has p.1 (kD hb hp hf)) hk (λp hp hl=>xD hb hp hl) (aD (hi pins s σ H _ I h) λv s1 h1=>aD h1 λitv s2 h2=>?_);obtain⟨it,fp,tn,J,H2,e,I2,T,st2,f2,W,w0,turn⟩:=h2;subst e;refine qY (RR:=λacc C=>compPost (model X.prog X.w) X.A X.xe none (EP X pins σ Q) acc C) hk hb hj (λ_=>hg _) (λ_=>ht _) (λ_=>he _) I2 (λC=>Turn.at_ (Y:=cI X sc own js ⟨_,_,_,C⟩) T hc) st2 f2 w0 turn ?_;intro D C s' ys H' nD I' hC ⟨m,hm⟩ _ q;refine⟨m,hm,λh' hs'=>?_⟩;obtain⟨f0,f1,f2,f3,f4,f5⟩:=hC;exact⟨.ref D,_,I'.turned (t':=s'.toks) (it:=C) (λb o hb' e=>(hs'.2 b hb').trans e) f0 f1 f3 f4 f5,rfl,q⟩
end
def dn(c:Addr)(o:Obj):HO:=.ext λh=>h.get? c=some o
def By{P:Program}{w:World}{H:Hp}{h:Heap}{c:Addr}{o:Obj}(r:h.get? c=some o):bC P w H h c (dn c o):=⟨r,⟨o,r⟩,λh1 h2 r1 k=>k o r1⟩
def bP(cs:List (Addr×Obj))(H:Hp):Hp:=λb=>match cs.lookup b with|some o=>some (dn b o)|none=>H b
def bh(cs:List (Addr×Obj))(H:Hp):Hp:=λb=>match cs.lookup b with|some _=>none|none=>H b
section
variable {cs:List (Addr×Obj)} {H H':Hp} {b:Addr} {o:Obj} {P:Program} {w:World} {h h':Heap} {fs ex:List Addr}
def eW(q:cs.lookup b=some o):bP cs H b=some (dn b o):=by unfold bP;rw[q]
def df(q:cs.lookup b=none):bP cs H b=H b:=by unfold bP;rw[q]
def gM(q:cs.lookup b=some o):bh cs H b=none:=by unfold bh;rw[q]
def cH(q:cs.lookup b=none):bh cs H b=H b:=by unfold bh;rw[q]
def BG{u:HO}(q:bh cs H b=some u):cs.lookup b=none/\H b=some u:=by
 cases e:cs.lookup b with
 | none=>rw[cH e]at q;exact⟨rfl,q⟩
 | some o=>rw[gM e]at q;cases q
def m8{u:HO}(hc:∀b o,cs.lookup b=some o->H b=none)(q:H b=some u):bP cs H b=some u:=by
 cases e:cs.lookup b with
 | none=>rw[df e];exact q
 | some o=>rw[hc b o e]at q;cases q
def tH(hok:bt P w H h)(hc:∀b o,cs.lookup b=some o->h.get? b=some o)(hn:∀b o,cs.lookup b=some o->H b=none):bt P w (bP cs H) h:=λb u e=>by
 cases q:cs.lookup b with
 | some o=>rw[eW q]at e;cases e;exact By (hc b o q)
 | none=>
  rw[df q]at e;exact(hok b u e).stay (λd v _ g=>g) (λd hd=>m8 hn hd) λd xs hd=>m8 hn hd
def uT(hok:bt P w H h)(hc:∀b o,cs.lookup b=some o->H b=some (dn b o)):bt P w (bh cs H) h:=λb u e=>by
 obtain⟨q,e⟩:=BG e;have nt:∀d x,H d=some x->(∀f,x≠.ext f)->bh cs H d=some x:=λd x hd nx=>by
  cases z:cs.lookup d with
  | none=>rw[cH z];exact hd
  | some o'=>rw[hc d o' z]at hd;cases hd;exact absurd rfl (nx _)
 exact(hok b u e).stay (λd v _ g=>g) (λd hd=>nt d _ hd λf z=>by cases z) λd xs hd=>nt d _ hd λf z=>by cases z
def CD(u:Un fs ex (bP cs H) H' h h')(hok':bt P w H' h')(hc:∀b o,cs.lookup b=some o->h.get? b=some o)(hn:∀b o,cs.lookup b=some o->H b=none)(hc':∀b o,cs.lookup b=some o->H' b=some (dn b o)):Un fs ex H (bh cs H') h h' where
 keep:=λb o e n nf nx=>by
  cases q:cs.lookup b with
  | none=>exact u.keep b o e (by rw[df q];exact n) nf nx
  | some o'=>
   rw[hc b o' q]at e;cases e;exact(hok' b _ (hc' b _ q)).1
 slot:=λb o e n nf nx=>by
  cases q:cs.lookup b with
  | none=>exact u.slot b o e (by rw[df q];exact n) nf nx
  | some o'=>
   rw[hc b o' q]at e;cases e;exact⟨_,(hok' b _ (hc' b _ q)).1⟩
 free:=λb o e n nx=>by
  cases q:cs.lookup b with
  | none=>rw[cH q];exact u.free b o e (by rw[df q];exact n) nx
  | some o'=>exact gM q
 there:=u.there
 tups:=λb xs e=>by
  cases q:cs.lookup b with
  | none=>rw[cH q];exact u.tups b xs (by rw[df q];exact e)
  | some o'=>rw[hn b o' q]at e;cases e
 frzs:=λb o x e=>by
  cases q:cs.lookup b with
  | none=>rw[cH q];exact u.frzs b o x (by rw[df q];exact e)
  | some o'=>rw[hn b o' q]at e;cases e
 tbls:=λb ps e=>by
  cases q:cs.lookup b with
  | none=>rw[cH q];exact u.tbls b ps (by rw[df q];exact e)
  | some o'=>rw[hn b o' q]at e;cases e
def zZ(u:Un fs ex (bh cs H) H' h h')(hc:∀b o,cs.lookup b=some o->H b=some (dn b o)):Un fs ex H (bP cs H') h h' where
 keep:=λb o e n nf nx=>by
  cases q:cs.lookup b with
  | none=>exact u.keep b o e (by rw[cH q];exact n) nf nx
  | some o'=>rw[hc b o' q]at n;cases n
 slot:=λb o e n nf nx=>by
  cases q:cs.lookup b with
  | none=>exact u.slot b o e (by rw[cH q];exact n) nf nx
  | some o'=>rw[hc b o' q]at n;cases n
 free:=λb o e n nx=>by
  cases q:cs.lookup b with
  | none=>rw[df q];exact u.free b o e (by rw[cH q];exact n) nx
  | some o'=>rw[hc b o' q]at n;cases n
 there:=u.there
 tups:=λb xs e=>by
  cases q:cs.lookup b with
  | none=>rw[df q];exact u.tups b xs (by rw[cH q];exact e)
  | some o'=>rw[hc b o' q]at e;cases e
 frzs:=λb o x e=>by
  cases q:cs.lookup b with
  | none=>rw[df q];exact u.frzs b o x (by rw[cH q];exact e)
  | some o'=>rw[hc b o' q]at e;cases e
 tbls:=λb ps e=>by
  cases q:cs.lookup b with
  | none=>rw[df q];exact u.tbls b ps (by rw[cH q];exact e)
  | some o'=>rw[hc b o' q]at e;cases e
end
structure FunR(P:Program)(w:World)(K:Fb)(mg:Str->Option Value)(base:Heap)(k:Nat)(f:Addr)(pre:Hp->Prop)(R:List V->Hp->VK->Prop):Prop where
 at_:∀H h,bt P w H h->pre H->PySem.W.FnAt f h
 run:∀(A:Around) (outer:List Env) (s:Shared) (H:Hp) (us:List Value) (vs:List V) (Q:VK),Room k A->Env0 P w K mg base A outer s H->pre H->Vals vs us->R vs H Q →
  codeAny (model P w) A (.call (.ref f) ⟨us,[]⟩) (CR dX outer P w H s Q E0) s
def we(P:Program)(w:World)(K:Fb)(mg:Str->Option Value)(base:Heap)(k:Nat)(tf:TE)(ta:TA):TE:=λσ H Q=>tf σ H λfv H1=>∃f pre R,fv=.ref f/\FunR P w K mg base k f pre R/\pre H1/\ta σ H1 λvs H2=>pre H2/\R vs H2 Q
def u7{X:Cx}{P:Program}{w:World}{K:Fb}{mg:Str->Option Value}{base:Heap}{k:Nat}{x:Str}{p pos:Pos}{e:Expr}{es:List Expr}{tf:TE}{ta:TA}{A0:Around}(hr:Room k A0)(hf:PE X (.Name x p) tf)(ha:PA X (e::es) ta)(hA:X.A=A0:=by rfl)(hP:X.prog=P:=by rfl)(hw:X.w=w:=by rfl)(hK:X.K=K:=by rfl)(hm:X.mg=mg:=by rfl)(hB:X.base=base:=by rfl)
  (he:starEach (e::es) X.env=(false,eval e X.env)::starEach es X.env:=by rfl) (hpl:(backTo pos (starEach es X.env)).any (·.1)=false:=by rfl):PE X (.Call (.Name x p) (e::es) [] pos) (we P w K mg base k tf ta):=by
 subst hA;subst hP;subst hw;subst hK;subst hm;subst hB;intro pins s σ H Q I h;refine wpAny_Call_Name_kw (aD (hf pins s σ H _ I h) λfv s1 ⟨v,H1,I1,r1,⟨f,pre,R,ev,F,hp,q1⟩⟩=>?_);subst ev;cases r1;refine PySem.W.callWith_F (first:=[]) (F.at_ _ _ I1.hok hp) (aD (ha pos pins s1 σ H1 _ I1 q1) λus s2 ⟨vs,H2,I2,r2,⟨hp2,q2⟩⟩=>?_) he hpl;refine⟨F.at_ _ _ I2.hok hp2,?_⟩;refine wpAny_call (codeAny_mono (F.run X.A X.stack s2 H2 us vs Q hr I2.env0 hp2 r2 q2) λr s' hq=>?_);cases r with
 | error e=>exact False.elim hq
 | ok fl=>
  cases fl with
  | ret u=>exact I2.after hq
  | next=>exact False.elim hq
  | brk=>exact False.elim hq
  | cont=>exact False.elim hq
structure Cap where
 n:Str
 c:Addr
 o:Obj
 v:V
abbrev cellsOf(cp:List Cap):List (Addr×Obj):=cp.map λe=>(e.c,e.o)
structure CapAt(X:Cx)(σ:St)(h:Heap)(js:List Nat)(cp:List Cap):Prop where
 len:cp.length=js.length
 at_:∀(i j:Nat) (e:Cap),js[i]?=some j->cp[i]?=some e->X.N[j]?=some e.n/\X.env.cells.lookup e.n=some e.c/\σ[j]?=some (some e.v)/\h.get? e.c=some e.o/\∃u,e.o.data=.cell (some u)/\RelV e.v u
def gr{cp:List Cap}{b:Addr}{o:Obj}(h:(cellsOf cp).lookup b=some o):∃e∈cp,e.c=b/\e.o=o:=by
 have hm:(b,o)∈cellsOf cp:=by
  have go:∀{l:List (Addr×Obj)},l.lookup b=some o->(b,o)∈l:=by
   intro l;induction l with
   | nil=>intro h;cases h
   | cons x r ih=>
    intro h;obtain⟨y,z⟩:=x;rw[F4]at h;cases hb:b == y with
    | true=>rw[hb]at h;cases h;rw[beq_iff_eq.mp hb];exact Fm
    | false=>rw[hb]at h;exact Fi _ (ih h)
  exact go h
 obtain⟨e,he,eq⟩:=List.mem_map.mp hm;cases eq;exact⟨e,he,rfl,rfl⟩
def AL{cp:List Cap}{e:Cap}(h:e∈cp):∃o,(cellsOf cp).lookup e.c=some o:=by
 induction cp with
 | nil=>cases h
 | cons x r ih=>
  show ∃o,List.lookup e.c ((x.c,x.o)::cellsOf r)=some o;rw[F4];cases hb:e.c == x.c with
  | true=>exact⟨_,rfl⟩
  | false=>
   rcases Fv.mp h with rfl|h
   ·simp at hb
   ·exact ih h
def kn(sc:Scope)(N:List Str)(js:List Nat):Bool:=js.all λj=>decide (j<N.length) && (sc.names.lookup (N.getD j "") == some .cell)
section
variable {X:Cx} {pins:List (Addr×Obj)} {σ:St} {H:Hp} {s:Shared}
def Inv.capAt(I:Inv X pins σ H s):∀{js:List Nat},kn X.env.scope X.N js=true->(∀j∈js,∃v,σ[j]?=some (some v))->∃cp,CapAt X σ s.heap js cp
 | [],_,_=>⟨[],rfl,λi j e h=>by simp at h⟩
 | j::js,hj,hv=>by
  have hj2:(decide (j<X.N.length) && (X.env.scope.names.lookup (X.N.getD j "") == some .cell))=true/\kn X.env.scope X.N js=true:=by simpa[kn]using hj
  obtain⟨cp,hcp⟩:=I.capAt (js:=js) hj2.2 λi hi=>hv i (Fi _ hi);obtain⟨v,ev⟩:=hv j Fm;have h1:=hj2.1;simp only[FV,decide_eq_true_eq,beq_iff_eq]at h1;have eN:X.N[j]?=some (X.N.getD j ""):=by rw[List.getD_eq_getElem?_getD,Fg h1.1];rfl
  obtain⟨m,hn,hl⟩:=I.loc;obtain⟨u,r,l⟩:=hl j _ v eN ev (.inr (.inl h1.2));rcases l with⟨z,_⟩|⟨_,c,hc,o,ho,hd⟩
  ·have z':X.env.scope.names.lookup (X.N.getD j "")=some .local:=z;rw[h1.2]at z';cases z'
  ·refine⟨⟨X.N.getD j "",c,o,v⟩::cp,by simp[hcp.len],λi k e h2 h3=>?_⟩;cases i with
   | zero=>
    cases h2;cases h3;exact⟨eN,hc,ev,ho,u,hd,r⟩
   | succ i=>
    simp at h2 h3;exact hcp.at_ i k e h2 h3
def CapAt.mem{js:List Nat}{cp:List Cap}{h:Heap}(C:CapAt X σ h js cp){e:Cap}(he:e∈cp):X.env.cells.lookup e.n=some e.c/\h.get? e.c=some e.o/\∃u,e.o.data=.cell (some u)/\RelV e.v u:=by
 obtain⟨i,hi⟩:=F3 he;have hl:i<js.length:=by rw[←C.len];exact(Fo.mp hi).1
 obtain⟨_,h2,_,h4,h5⟩:=C.at_ i _ e (Fg hl) hi;exact⟨h2,h4,h5⟩
def zX{k:Nat}{f:Addr}{fd:FuncData}{ps:List Str}{sp:Sp}{Q:VK}{us:List Value}{vs:List V}{js:List Nat}{cp:List Cap}(F:FnOk X.prog X.w X.K X.mg X.base dX k f fd ps sp)(hr:Room k X.A)(hb:Binds X.K fd ps [])
  (I:Inv X pins σ H s) (C:CapAt X σ s.heap js cp) (hfn:∀e∈cp,X.fn e.n=true) (r:Vals vs us)
  (h:sp vs (bP (cellsOf cp) H) (λv H'=>(∀b o,(cellsOf cp).lookup b=some o->H' b=some (dn b o))/\Q v (bh (cellsOf cp) H')) E0):wpAny (model X.prog X.w) X.A (call (.ref f) us) (EP X pins σ Q) X.xe s:=by
 have hc:∀b o,(cellsOf cp).lookup b=some o->s.heap.get? b=some o:=λb o e=>by obtain⟨x,hx,rfl,rfl⟩:=gr e;exact(C.mem hx).2.1
 have hn:∀b o,(cellsOf cp).lookup b=some o->H b=none:=λb o e=>by obtain⟨x,hx,rfl,rfl⟩:=gr e;exact I.freeC _ _ (C.mem hx).1
 have hab:∀b o,(cellsOf cp).lookup b=some o->X.s₀.heap.objs.size<=b:=λb o e=>by obtain⟨x,hx,rfl,rfl⟩:=gr e;exact I.ok.cab _ _ (hfn x hx) (C.mem hx).1
 have e0:=I.env0;have e1:Env0 X.prog X.w X.K X.mg X.base X.A X.stack s (bP (cellsOf cp) H):=by
  refine⟨e0.frames,e0.mod,λb o e=>⟨(e0.bs b o e).1,?_⟩,e0.bsz,e0.funs,λb hb'=>?_,tH e0.hok hc hn,e0.bare⟩
  ·cases q:(cellsOf cp).lookup b with
   | none=>rw[df q];exact(e0.bs b o e).2
   | some o'=>exact absurd (FO (Fe (I.ok.bs b o e).1) (hab b o' q)) (Nat.lt_irrefl _)
  ·cases q:(cellsOf cp).lookup b with
   | none=>rw[df q];exact e0.frf b hb'
   | some o'=>
    exfalso;rcases Fv.mp (I.stkSub b hb')with z|z
    ·obtain⟨m,⟨ob,es,ep,ho,hd,_⟩,_⟩:=I.loc;obtain⟨x,hx,rfl,rfl⟩:=gr q;obtain⟨_,g,u,hu,_⟩:=C.mem hx;rw[←z,g]at ho;cases ho;rw[hu]at hd;cases hd
    ·obtain⟨_,ob,ho,_⟩:=I.ok.funs.mem z;exact absurd (FO (Fe ho) (hab b o' q)) (Nat.lt_irrefl _)
 have hl:us.length=ps.length:=by rw[←r.length];exact F.len _ _ _ _ h
 refine wpAny_call (codeAny_mono (F.run X.A X.stack s (bP (cellsOf cp) H) ⟨us,[]⟩ us vs _ E0 hr e1 (by have:=hb s us I.kIn (by simpa using hl);rw[List.append_nil]at this;exact this) r h) λr s' hq=>?_);cases r with
 | error e=>exact False.elim hq
 | ok fl=>
  cases fl with
  | ret u=>
   obtain⟨v,H',os,bare,un,hok,rv,hc',q⟩:=hq;exact I.after ⟨v,bh (cellsOf cp) H',os,bare,CD un hok hc hn hc',uT hok hc',rv,q⟩
  | next=>exact False.elim hq
  | brk=>exact False.elim hq
  | cont=>exact False.elim hq
def iZ(sp:Sp)(js:List Nat)(cells:List (Str×Addr))(N:List Str)(ta:TA):TE:=λσ H Q=>ta σ H λvs H1=>(∀j∈js,∃v,σ[j]?=some (some v)) ∧
 ∀cp:List Cap,cp.length=js.length->(∀(i j:Nat) (e:Cap),js[i]?=some j->cp[i]?=some e->N[j]?=some e.n/\cells.lookup e.n=some e.c/\σ[j]?=some (some e.v)/\H1 e.c=none/\∃u,e.o.data=.cell (some u)/\RelV e.v u) →
  sp vs (bP (cellsOf cp) H1) (λv H'=>(∀b o,(cellsOf cp).lookup b=some o->H' b=some (dn b o))/\Q v (bh (cellsOf cp) H')) E0
def o7{x:Str}{k j:Nat}{ps:List Str}{sp:Sp}{e:Expr}{es:List Expr}{t:TA}{p pos:Pos}(js:List Nat)(C:Cal X.prog X.w X.K X.mg X.base x j ps sp)(hr:Room k X.A)(ha:PA X (e::es) t)(hjk:j<=k:=by decide)(hg:Gl X x:=by rfl)(hdb:(x == ("__debug__":Str))=false:=by decide)
  (hj:kn X.env.scope X.N js=true:=by rfl) (hfn:∀y,X.fn y=true:=by intro _;rfl)
  (he:starEach (e::es) X.env=(false,eval e X.env)::starEach es X.env:=by rfl) (hpl:(backTo pos (starEach es X.env)).any (·.1)=false:=by rfl) :
  PE X (.Call (.Name x p) (e::es) [] pos) (iZ sp js X.env.cells X.N t):=by
 obtain⟨f,fd,hm,hk,hb,F⟩:=C.ex;intro pins s σ H Q I h;refine wpAny_Call_Name_kw (jA I hg hm ?_ hdb);refine PySem.W.callWith_K (h₀:=X.base) I.ok.mod.kin hk (aD (ha pos pins s σ H _ I h) λus s1 ⟨vs,H1,I1,r,hv,q⟩=>⟨I1.kIn,?_⟩) he hpl;obtain⟨cp,hcp⟩:=I1.capAt hj hv;refine zX F (hr.mono hjk) hb I1 hcp (λe _=>hfn _) r (q cp hcp.len λi j e h1 h2=>?_);obtain⟨a1,a2,a3,_,a5⟩:=hcp.at_ i j e h1 h2;exact⟨a1,a2,a3,I1.freeC _ _ a2,a5⟩
end
def eQ(f c:Addr)(q:Str)(params:Arguments)(body:Expr)(scope:Scope)(cl:List (Str×Addr)):HO:=.ext λh=>∃pm ctv,h.get? f=some (PySem.W.kla_obj "<lambda>" q params body scope cl pm c ctv)
def x9{P:Program}{w:World}{H:Hp}{h:Heap}{f c:Addr}{q:Str}{params:Arguments}{body:Expr}{scope:Scope}{cl:List (Str×Addr)}{pm ctv:Value}(r:h.get? f=some (PySem.W.kla_obj "<lambda>" q params body scope cl pm c ctv)):bC P w H h f (eQ f c q params body scope cl):=
 ⟨⟨pm,ctv,r⟩,⟨_,r⟩,λh1 h2 ⟨a,b,g⟩ k=>⟨a,b,k _ g⟩⟩
def iL(sc:Scope):Bool:=sc.names.all λp=>sc.names.lookup p.1 == some p.2
def pA(sc out:Scope):Bool:=sc.names.all λp=>p.2 != .free || out.names.lookup p.1 == some .cell || out.names.lookup p.1 == some .free
def vw{sc:Scope}(h:iL sc=true){p:Str×NameKind}(hp:p∈sc.names):sc.names.lookup p.1=some p.2:=by simpa using FR.mp h p hp
def uZ{sc out:Scope}(h:pA sc out=true){p:Str×NameKind}(hp:p∈sc.names)(hf:p.2=.free):out.names.lookup p.1=some .cell\/out.names.lookup p.1=some .free:=by have:=FR.mp h p hp;simp[hf]at this;exact this
structure ClOk(sc:Scope)(cells cl:List (Str×Addr)):Prop where
 one:iL sc=true
 fr:∀x c,cl.lookup x=some c->sc.names.lookup x=some .free/\cells.lookup x=some c
 has:∀x,sc.names.lookup x=some .free->∃c,cl.lookup x=some c
 inj:∀x y c,cl.lookup x=some c->cl.lookup y=some c->x=y
def A7{X:Cx}(ok:X.Ok){sc:Scope}(hsc:iL sc=true)(ho:pA sc X.env.scope=true):ClOk sc X.env.cells (dy sc.names X.env.cells):=by
 have fr:∀x c,(dy sc.names X.env.cells).lookup x=some c->sc.names.lookup x=some .free/\X.env.cells.lookup x=some c:=λx c h=>by
  rcases j4 X.env.cells sc.names [] x c h with⟨h1,h2⟩|h1
  ·obtain⟨d,hd⟩:=ok.has x (uZ ho h1 rfl);refine⟨vw hsc h1,?_⟩;rw[hd]at h2 ⊢;rw[h2];rfl
  ·simp at h1
 exact⟨hsc,fr,λx h=>uQ (iz h),λx y c h1 h2=>ok.inj x y c (fr x c h1).2 (fr y c h2).2⟩
section
variable {X:Cx} {pins:List (Addr×Obj)} {σ:St} {H:Hp} {s:Shared}
def zi{cl:List (Str×Addr)}{P c f:Addr}{ps more:Array Value}{q:Str}{params:Arguments}{body:Expr}{scope:Scope}{pm ctv:Value}{h':Heap}{tk:Nat}(I:Inv X pins σ H s)(hP:H P=some (.tbl ps))(b:Heap.ExtBut P s.heap h')(hc:s.heap.objs.size<=c)(hcf:c<f)(gP:h'.get? P=some { cls:=.none,data:=.fields (ps++more) })
  (gc:h'.CodeRec (.ref c) q) (gf:h'.get? f=some (PySem.W.kla_obj "<lambda>" q params body scope cl pm c ctv)) :
  Inv X pins σ (upd (upd (upd H P (.tbl (ps++more))) c (fR c q)) f (eQ f c q params body scope cl)) { s with heap:=h',toks:=tk }:=by
 have hf:@LE.le Nat _ s.heap.objs.size f:=FP hc (Nat.le_of_lt hcf);have nc:H c=none:=I.hok.fresh hc;have nf:H f=none:=I.hok.fresh hf;have cf:f≠c:=Nat.ne_of_gt hcf;have Pc:c≠P:=λz=>by rw[z,hP]at nc;cases nc
 have Pf:f≠P:=λz=>by rw[z,hP]at nf;cases nf
 have old:∀b o,H b=some o->b≠P->upd (upd (upd H P (.tbl (ps++more))) c (fR c q)) f (eQ f c q params body scope cl) b=some o:=λb o e n=>by rw[aC (cq e nf),aC (cq e nc),aC n];exact e
 have nP:∀b,H b=none->b≠P:=λb e z=>by rw[z,hP]at e;cases e
 refine I.un ⟨λb' o e n _ _=>b b' o (nP b' n) e,λb' o e n _ _=>⟨o.slots,b b' o (nP b' n) e⟩,λb' o e n _=>?_,λb' o e _=>?_,λb' xs e=>old b' _ e (λz=>by rw[z,hP]at e;cases e),λb' o u e=>old b' _ e (λz=>by rw[z,hP]at e;cases e),λb' qs e=>?_⟩ λb' u e=>?_
 ·have lt:@LT.lt Nat _ b' s.heap.objs.size:=Fe e;rw[aC (Fz (FO lt hf)),aC (Fz (FO lt hc)),aC (nP b' n)];exact n
 ·by_cases z:b'=P
  ·rw[z];exact⟨_,gP⟩
  ·exact⟨o,b b' o z e⟩
 ·by_cases z:b'=P
  ·subst z;rw[hP]at e;cases e;exact⟨more,by rw[aC (Ne.symm Pf),aC (Ne.symm Pc),aL]⟩
  ·exact⟨#[],by rw[old b' _ e z];simp⟩
 ·by_cases z:b'=f
  ·subst z;rw[aL]at e;cases e;exact x9 gf
  ·rw[aC z]at e;by_cases z2:b'=c
   ·subst z2;rw[aL]at e;cases e;exact EJ gc
   ·rw[aC z2]at e;by_cases z3:b'=P
    ·subst z3;rw[aL]at e;cases e;exact gP
    ·rw[aC z3]at e;refine(I.hok b' u e).stay (λd v hd g=>b d v ?_ g) (λd hd=>old d _ hd (λy=>by rw[y,hP]at hd;cases hd)) λd xs hd=>old d _ hd (λy=>by rw[y,hP]at hd;cases hd);rcases hd with rfl|hd
     ·exact z3
     ·exact λy=>by rw[y,hP]at hd;cases hd
end
def nL(P:Addr)(pos:Pos)(q:Str)(params:Arguments)(body:Expr)(scope:Scope)(cells:List (Str×Addr))(H:Hp)(Q:VK):Prop:=∀cl,ClOk scope cells cl →
 (H P=some (.tbl #[])/\∀f c,H c=none->H f=none->c≠P->f≠P->f≠c->Q (.ref f) (upd (upd (upd H P (.tbl #[rawInt pos.line,rawInt pos.col,.ref c])) c (fR c q)) f (eQ f c q params body scope cl))) ∨
 ∃c,H P=some (.tbl #[rawInt pos.line,rawInt pos.col,.ref c])/\H c=some (fR c q)/\∀f,H f=none->Q (.ref f) (upd H f (eQ f c q params body scope cl))
def tO(P:Addr)(pos:Pos)(q:Str)(params:Arguments)(body:Expr)(scope:Scope)(cells:List (Str×Addr)):TE:=λ_ H Q=>nL P pos q params body scope cells H Q
def pR{X:Cx}{params:Arguments}{body:Expr}{scope:Scope}{pos:Pos}{c P:Addr}(hcode:X.env.code=.ref c)(hgl:X.env.globals=mainGlobals)(C:PySem.W.CodeHd X.base c P)(hB:X.base.BuiltinsAt X.mg P)(hgP:mainGlobals≠P)(hsc:iL scope=true)(hout:pA scope X.env.scope=true)
  (hd0:params.defaults=[]) (hk0:params.kw_defaults=[]):PE X (.Lambda params body scope pos) (tO P pos (X.env.qual ++ "<lambda>") params body scope X.env.cells):=by
 intro pins s σ H Q I h;rw[arm_eval_Lambda,PySem.defaultsOf_eq,hk0,hd0];refine E8 (E9 (E8 (wpAny_holding (E9 ?_))));have hcl:closureFor scope X.env=pure (dy scope.names X.env.cells):=oq λp hp hf=>I.ok.has p.1 (uZ hout hp hf);have h:=h _ (A7 I.ok hsc hout);have C':PySem.W.CodeHd s.heap c P:=C.keeps λb o e=>(I.bs b o e).1;have hg:s.heap.Ns mainGlobals X.mg:=by obtain⟨o,es,ep,e,r⟩:=I.ok.mod.glob;exact⟨o,es,ep,(I.bs _ _ e).1,r⟩
 have hb:s.heap.BuiltinsAt X.mg P:=by obtain⟨bm,o,a1,a2,a3,a4,a5,a6⟩:=hB;exact⟨bm,o,a1,a2,a3,a4,(I.bs _ _ a5).1,a6⟩
 rcases h with⟨hP,q⟩|⟨c',hP,hc',q⟩
 ·have gP:s.heap.get? P=some (PySem.W.tabObj #[]):=I.hok P _ hP;refine PySem.W.kla_makeFunction hcl hgl hg hcode C' gP trivial rfl hgP hb λc' ctv h' tk hx hge hlt hrec htb=>?_;have nc:H c'=none:=I.hok.fresh hge;have hf:@LE.le Nat _ s.heap.objs.size h'.objs.size:=FP hge (Nat.le_of_lt hlt);have nf:H h'.objs.size=none:=I.hok.fresh hf;have lP:@LT.lt Nat _ P s.heap.objs.size:=Fe gP;have J:=zi (cl:=dy scope.names X.env.cells) (tk:=tk) (f:=h'.objs.size) (h':=h'.push (PySem.W.kla_obj "<lambda>" (X.env.qual ++ "<lambda>") params body scope (dy scope.names X.env.cells) ((X.mg "__name__").getD .none) c' ctv)) (more:=#[rawInt pos.line,rawInt pos.col,.ref c']) I hP (λb o n e=>Fc _ (hx b o n e)) hge hlt (Fc _ htb) (hrec.push _) (Fd _ rfl);rw[Array.empty_append]at J;exact⟨.ref h'.objs.size,_,J,rfl,q _ c' nc nf (Nat.ne_of_gt (FO lP hge)) (Nat.ne_of_gt (FO lP hf)) (Nat.ne_of_gt hlt)⟩
 ·have gP:s.heap.get? P=some (PySem.W.tabObj #[rawInt pos.line,rawInt pos.col,.ref c']):=I.hok P _ hP;refine PySem.W.kla_makeFunctionHit (cv:=.ref c') hcl hgl hg hcode C' gP trivial (by simp[codeAmong,rawInt]) hb λctv h' tk hx hge=>?_;exact⟨.ref h'.objs.size,_,I.laid (t':=tk) (o:=eQ h'.objs.size c' (X.env.qual ++ "<lambda>") params body scope (dy scope.names X.env.cells)) (λb o e=>Fc _ (hx b o e)) hge (x9 (Fd _ rfl)),rfl,q _ (I.hok.fresh hge)⟩
def lQ{cells:List (Str×Addr)}{K:Fb}{x q:Str}{params:Arguments}{body:Expr}{scope:Scope}{H:Hp}{Q:VK}{c T:Addr}{pos:Pos}(ht:cM K x q pos.line pos.col H)(e:PySem.W.tabIn K x=some (c,T))
  (h:∀f c' cl H',ClOk scope cells cl->Et H H'->cM K x q pos.line pos.col H'->(∀y q2 l2 k2,(∀c2 T2,PySem.W.tabIn K y=some (c2,T2)->T2≠T)->cM K y q2 l2 k2 H->cM K y q2 l2 k2 H')->H' f=some (eQ f c' q params body scope cl)->H' c'=some (fR c' q)->Q (.ref f) H'):nL T pos q params body scope cells H Q:=by
 intro cl hcl;rcases ht c T e with hT|⟨c',hT,hc'⟩
 ·refine .inl ⟨hT,λf c' nc nf cT fT fc=>?_⟩;have old:∀b o,H b=some o->b≠T->upd (upd (upd H T (.tbl #[rawInt pos.line,rawInt pos.col,.ref c'])) c' (fR c' q)) f (eQ f c' q params body scope cl) b=some o:=λb o hb n=>by rw[aC (cq hb nf),aC (cq hb nc),aC n];exact hb
  refine h f c' cl _ hcl (λb o hb n=>old b o hb λz=>by rw[z,hT]at hb;cases hb;exact n _ rfl) (λc2 T2 e2=>.inr ⟨c',?_,?_⟩) (λy q2 l2 k2 hn hy c2 T2 e2=>?_) aL ?_
  ·rw[e]at e2;cases e2;rw[aC (Ne.symm fT),aC (Ne.symm cT),aL]
  ·rw[aC (Ne.symm fc),aL]
  ·rcases hy c2 T2 e2 with g|⟨c3,g1,g2⟩
   ·exact .inl (old _ _ g (hn c2 T2 e2))
   ·exact .inr ⟨c3,old _ _ g1 (hn c2 T2 e2),old _ _ g2 λz=>by rw[z,hT]at g2;cases g2⟩
  ·rw[aC (Ne.symm fc),aL]
 ·refine .inr ⟨c',hT,hc',λf nf=>?_⟩;have ex:Ext H (upd H f (eQ f c' q params body scope cl)):=bq nf;exact h f c' cl _ hcl ex.et (cM.ext ex ht) (λy q2 l2 k2 _ hy=>hy.ext ex) aL (ex _ _ hc')
def ou{P:Addr}{pos:Pos}{q:Str}{params:Arguments}{body:Expr}{scope:Scope}{cells:List (Str×Addr)}{σ:St}{H:Hp}{Q:VK}(h:nL P pos q params body scope cells H Q):tO P pos q params body scope cells σ H Q:=h
def jv{x:Str}{c:Addr}:∀(names:List (Str×NameKind)) (n:Nat) (a acc:List (Str×Addr)),(cellsFrom n names (a++acc)).lookup x=some c->acc.lookup x=some c\/(cellsFrom n names a).lookup x=some c
 | [],_,a,acc,h=>by
  unfold cellsFrom at h ⊢;rw[List.lookup_append]at h;cases q:a.lookup x with
  | none=>rw[q]at h;exact .inl h
  | some d=>rw[q]at h;exact .inr h
 | (y,k)::r,n,a,acc,h=>by
  unfold cellsFrom at h ⊢;by_cases hk:(k == NameKind.cell)=true
  ·rw[Ge hk]at h ⊢;exact jv r (n+1) ((y,n)::a) acc h
  ·rw[Gb hk]at h ⊢;exact jv r n a acc h
structure InL(s₀:Shared)(L:Addr)(m:Str->Option Value)(own:List (Str×Addr))(cm:Str->Option Value)(s:Shared):Prop where
 same:∃h' tk,s={ s₀ with heap:=h',toks:=tk }
 ns:s.heap.Ns L m
 keep:∀b o,s₀.heap.get? b=some o->s.heap.get? b=some o
 fresh:s₀.heap.objs.size<=L
 cell:∀n c,own.lookup n=some c->s.heap.IsCell c (cm n)
 apart:own.Pairwise λx y=>x.2≠y.2
 above:∀n c,(n,c)∈own->L<c
section
variable {M:Model} {A:Around} {E:Value->Shared->Prop} {s₀ s:Shared} {m cm:Str->Option Value} {env:Env} {own:List (Str×Addr)}
def InL.st{n:Str}{v:Value}{Q:Unit->Shared->Prop}(x:InL s₀ env.locals m own cm s)(hk:env.scope.kind=.function)(hl:env.kindOf n=some .local)
  (h:∀s',InL s₀ env.locals (λy=>if y=n then some v else m y) own cm s'->Q () s'):wpAny M A (storeName env n v) Q E s:=by
 refine wpAny_storeName_local hl x.ns (λh' hn' hs'=>h _ ⟨?_,hn',λb o e=>?_,x.fresh,λk c hc=>?_,x.apart,x.above⟩) (by rw[hk];rfl)
 ·obtain⟨h₁,tk,rfl⟩:=x.same;exact⟨h',_,rfl⟩
 ·exact hs'.extBut b o (Fz (FO (Fe e) x.fresh)) (x.keep b o e)
 ·exact(x.cell k c hc).sameBut hs' (Nat.ne_of_gt (x.above k c (PySem.mem_of_lookup hc)))
def InL.stC{n:Str}{c:Addr}{v:Value}{Q:Unit->Shared->Prop}(x:InL s₀ env.locals m own cm s)(hk:env.scope.kind=.function)(hl:env.kindOf n=some .cell)
  (hc:env.cells.lookup n=some c) (ho:own.lookup n=some c)
  (h:∀s',InL s₀ env.locals m own (λy=>if y=n then some v else cm y) s'->Q () s'):wpAny M A (storeName env n v) Q E s:=by
 have hLc:=x.above n c (PySem.mem_of_lookup ho);refine wpAny_storeName_cell hk hl hc (x.cell n c ho) λh' hc' hs'=>h _ ⟨?_,x.ns.sameBut hs' (Fz hLc),λb o e=>?_,x.fresh,λk c' hk'=>?_,x.apart,x.above⟩
 ·obtain⟨h₁,tk,rfl⟩:=x.same;exact⟨h',_,rfl⟩
 ·exact hs'.extBut b o (Fz (Nat.lt_trans (FO (Fe e) x.fresh) hLc)) (x.keep b o e)
 ·by_cases hkn:k=n
  ·subst hkn;rw[ho]at hk';cases hk';simpa using hc'
  ·rw[Gb hkn];exact(x.cell k c' hk').sameBut hs' λe=>hkn (name_of_addr x.apart (PySem.mem_of_lookup hk') (e ▸ PySem.mem_of_lookup ho))
def InL.binds(f:Str×Value->PUnit->Sem (ForInStep PUnit))(hf:∀n v u,f (n,v) u=(do storeName env n v;pure (.yield ⟨⟩)))(hk:env.scope.kind=.function):
  ∀(binds:List (Str×Value)) (m cm:Str->Option Value) (s:Shared) (Q:PUnit->Shared->Prop),InL s₀ env.locals m own cm s →
   (∀x∈binds,env.kindOf x.1=some .local\/(env.kindOf x.1=some .cell/\∃c,env.cells.lookup x.1=some c/\own.lookup x.1=some c)) →
   (∀s',InL s₀ env.locals (bindL env.kindOf binds m) own (bindC env.kindOf binds cm) s'->Q ⟨⟩ s')->wpAny M A (forIn binds ⟨⟩ f) Q E s
 | [],m,cm,s,Q,x,_,h=>by rw[List.forIn_nil];exact E9 (h s x)
 | (n,v)::r,m,cm,s,Q,x,hkind,h=>by
  rw[List.forIn_cons,hf];have hr:∀y∈r,env.kindOf y.1=some .local\/(env.kindOf y.1=some .cell/\∃c,env.cells.lookup y.1=some c/\own.lookup y.1=some c):=λy hy=>hkind y (Fi _ hy);rcases hkind (n,v) Fm with hl|⟨hl,c,hc,ho⟩
  ·refine E8 (E8 (InL.st x hk hl λs' x'=>E9 (InL.binds f hf hk r _ _ s' Q x' hr λs'' x''=>h s'' ?_)));unfold bindL bindC;rw[Ge hl,Ge hl];exact x''
  ·have hnl:¬env.kindOf n=some .local:=by rw[hl];decide
   refine E8 (E8 (InL.stC x hk hl hc ho λs' x'=>E9 (InL.binds f hf hk r _ _ s' Q x' hr λs'' x''=>h s'' ?_)));unfold bindL bindC;rw[Gb hnl,Gb hnl];exact x''
end
def eO(q:Str)(scope:Scope)(L f:Addr)(cd:Value)(cl:List (Str×Addr)):Env:=
 { scope:=scope,locals:=L,globals:=mainGlobals,cells:=cellsFrom (L+1) scope.names cl,qual:=q ++ ".<locals>.",func:=some f,code:=cd,frame:=some L,builtins:=builtinsNs }
section
variable {M:Model} {A:Around} {E:Value->Shared->Prop} {s:Shared}
def yR {scope : Scope} {cl : List (Str × Addr)} {binds : List (Str × Value)} {q : Str} {f : Addr} {cd : Value} {Q : Env → Shared → Prop} (hk : scope.kind = .function) (hsc : iL scope = true) (hcl : ∀ x c, cl.lookup x = some c → scope.names.lookup x = some .free)
    (hkind : ∀ x ∈ binds, scope.names.lookup x.1 = some .local ∨ scope.names.lookup x.1 = some .cell)
    (hQ : ∀ s', InL s s.heap.objs.size (bindL (eO q scope s.heap.objs.size f cd cl).kindOf binds λ_ => none) (cellsFrom (s.heap.objs.size + 1) scope.names []) (bindC (eO q scope s.heap.objs.size f cd cl).kindOf binds λ_ => none) s' → Q (eO q scope s.heap.objs.size f cd cl) s') :
    wpAny M A (newFunctionEnv scope mainGlobals cl binds (q ++ ".<locals>.") (some f) cd none builtinsNs) Q E s := by
  simp only [newFunctionEnv, Option.isSome_none, F1, if_false];refine E8 (wpAny_alloc ?_);refine E8 (wpAny_layCells _ (λname kind cells => by cases hkc : kind == NameKind.cell <;> simp [hkc]) _ _ _ _ ?_);have ok := cellsFrom_ok scope.names (s.heap.push { cls := .type "frame", data := .dict #[] }) (s.heap.objs.size + 1) [] ⟨λ_ _ hm => (nomatch hm), List.Pairwise.nil⟩ (by rw [Heap.size_push]; exact FA _);rw [Heap.size_push] at ok;rw [show ({ s with heap := s.heap.push { cls := .type "frame", data := .dict #[] } } : Shared).heap.objs.size = s.heap.objs.size + 1 from Heap.size_push ..];refine E8 (InL.binds (s₀ := s) (env := eO q scope s.heap.objs.size f cd cl) (own := cellsFrom (s.heap.objs.size + 1) scope.names [])
    _ (λ_ _ _ => rfl) hk binds (λ_ => none) (λ_ => none) _ _
    ⟨⟨_, _, rfl⟩, (Heap.Ns.new s.heap (.type "frame")).keeps (pushCells_keeps _ _), λb o e => pushCells_keeps _ _ b o (Fc _ e), FA _,
      λn c hc => (ok.empty n c (PySem.mem_of_lookup hc)).1, ok.apart, λn c hm => (ok.empty n c hm).2⟩
    (λx hx => ?_) λs' x => E9 (hQ s' x))
  rcases hkind x hx with h|h
  · exact .inl h
  · obtain ⟨c, hc⟩ := Option.isSome_iff_exists.mp (PySem.W.cellsFrom_some scope.names (s.heap.objs.size + 1) cl (.inl h))
    rcases jv scope.names (s.heap.objs.size + 1) [] cl hc with h2|h2
    · rw [hcl _ _ h2] at h; cases h
    · exact .inr ⟨h, c, hc, h2⟩
end
def iX(P:Program)(w:World)(K:Fb)(mg:Str->Option Value)(base:Heap)(N:List Str)(q:Str)(scope:Scope)(f:Addr)(cd:Value)(cl:List (Str×Addr))(A:Around)(outer:List Env)(s:Shared)(H:Hp):Cx where
 prog:=P
 w:=w
 K:=K
 mg:=mg
 base:=base
 A:=A.deeper (eO q scope s.heap.objs.size f cd cl)
 N:=N
 s₀:=s
 H₀:=H
 env:=eO q scope s.heap.objs.size f cd cl
 outer:=outer
 stack:=eO q scope s.heap.objs.size f cd cl::outer
 ex:=[]
 calm:=true
 fn:=λx=>scope.names.lookup x == some .cell
 pn:=[]
 xe:=λ_ _=>False
structure Caps(H:Hp)(cl:List (Str×Addr))(cp:List Cap):Prop where
 at_:∀e∈cp,cl.lookup e.n=some e.c/\H e.c=some (dn e.c e.o)/\∃u,e.o.data=.cell (some u)/\RelV e.v u
 all:∀x c,cl.lookup x=some c->∃e∈cp,e.n=x/\e.c=c
def Caps.ext{H H':Hp}(e:Ext H H'){cl:List (Str×Addr)}{cp:List Cap}(h:Caps H cl cp):Caps H' cl cp:=⟨λx hx=>⟨(h.at_ x hx).1,e _ _ (h.at_ x hx).2.1,(h.at_ x hx).2.2⟩,h.all⟩
def Caps.look{H:Hp}{cl:List (Str×Addr)}{cp:List Cap}(h:Caps H cl cp):∀b o,(cellsOf cp).lookup b=some o->H b=some (dn b o):=λb o e=>by obtain⟨x,hx,rfl,rfl⟩:=gr e;exact(h.at_ x hx).2.1
structure LamSc(ps:List Str)(sc:Scope):Prop where
 kind:sc.kind=.function
 co:sc.isCoroutine=false
 gen:sc.isGenerator=false
 nd:ps.Nodup
 par:∀x∈ps,sc.names.lookup x=some .local\/sc.names.lookup x=some .cell
def BK{P:Program}{w:World}{K:Fb}{mg:Str->Option Value}{base:Heap}{ps:List Str}{q:Str}{scope:Scope}{f:Addr}{cd:Value}{cl cells:List (Str×Addr)}{cp:List Cap}{A:Around}{outer:List Env}{s s1:Shared}{H:Hp}{us:List Value}{vs:List V}
  (S:LamSc ps scope) (C:ClOk scope cells cl) (hcp:Caps H cl cp) (hd:A.handled=none) (e0:Env0 P w K mg base A outer s H) (hl:vs.length=ps.length) (r:Vals vs us)
  (x:InL s s.heap.objs.size (bindL (eO q scope s.heap.objs.size f cd cl).kindOf (ps.zip us) λ_=>none) (cellsFrom (s.heap.objs.size+1) scope.names []) (bindC (eO q scope s.heap.objs.size f cd cl).kindOf (ps.zip us) λ_=>none) s1) :
  Inv (iX P w K mg base (ps++cp.map (·.n)) q scope f cd cl A outer s (bh (cellsOf cp) H)) [] (vs.map some++cp.map λe=>some e.v) (bh (cellsOf cp) H) s1:=by
 obtain⟨h1,tk,rfl⟩:=x.same;have hk:=x.keep;have noA:∀b:Addr,b∉(iX P w K mg base (ps++cp.map (·.n)) q scope f cd cl A outer s (bh (cellsOf cp) H)).ex:=λb z=>absurd (show b∈([]:List Addr)from z) (by simp);have nn:∀b,H b=none->bh (cellsOf cp) H b=none:=λb hb=>by
  cases z:(cellsOf cp).lookup b with
  | none=>rw[cH z];exact hb
  | some o=>exact gM z
 have obj:∀e∈cp,s.heap.get? e.c=some e.o:=λe he=>(e0.hok _ _ (hcp.at_ e he).2.1).1;have clt:∀y c,cl.lookup y=some c->@LT.lt Nat _ c s.heap.objs.size:=λy c h=>by obtain⟨e,he,_,rfl⟩:=hcp.all y c h;exact Fe (obj e he)
 have cinC:∀y c,cl.lookup y=some c->bh (cellsOf cp) H c=none:=λy c h=>by obtain⟨e,he,_,rfl⟩:=hcp.all y c h;obtain⟨o,ho⟩:=AL he;exact gM ho
 have hfr:∀y,scope.names.lookup y=some .free->∃c,cl.lookup y=some c/\(cellsFrom (s.heap.objs.size+1) scope.names cl).lookup y=some c:=λy hy=>by
  obtain⟨c,hc⟩:=C.has y hy;obtain⟨c',hc'⟩:=Option.isSome_iff_exists.mp (PySem.W.cellsFrom_some scope.names (s.heap.objs.size+1) cl (x:=y) (.inr (by rw[hc];rfl)));rcases gK _ _ _ hc' with h|⟨_,h⟩
  ·rw[hc]at h;cases h;exact⟨c,hc,hc'⟩
  ·have:=vw C.one h;rw[hy]at this;cases this
 refine⟨⟨e0.mod,S.kind,rfl,rfl,FA _,λy z c h1 h2=>?_,λy hy=>?_,λy c h hc=>?_,λ_=>hd,Around.frames_deeper e0.frames,.inr ⟨rfl,rfl⟩,λb z=>absurd z (noA b),λb o e=>⟨(e0.bs b o e).1,nn b (e0.bs b o e).2⟩,e0.bsz,λb _ _=>noA b,λb z=>absurd z (noA b),e0.funs,λb hb=>nn b (e0.frf b hb)⟩,
  rfl,e0.bare,Un.kept hk,⟨_,x.ns,λi y v h1 h2 h3=>?_⟩,λy c h=>?_,nn _ (e0.hok.fresh (FA _)),λy c h=>?_,λp hp=>absurd (show p∈([]:List (Addr×Obj))from hp) (by simp),(uT e0.hok hcp.look).kept hk,?_⟩
 ·exact j6 scope.names _ _ (λx c e=>Nat.lt_succ_of_lt (clt x c e)) C.inj h1 h2
 ·have hy:scope.names.lookup y=some .cell\/scope.names.lookup y=some .free:=hy;rcases hy with hy|hy
  ·exact Option.isSome_iff_exists.mp (PySem.W.cellsFrom_some scope.names _ _ (.inl hy))
  ·obtain⟨c,_,h⟩:=hfr y hy;exact⟨c,h⟩
 ·have hy:scope.names.lookup y=some .cell:=by simpa[iX]using h
  have hc':(cellsFrom (s.heap.objs.size+1) scope.names cl).lookup y=some c:=hc;rcases gK _ _ _ hc' with h2|⟨h2,_⟩
  ·rw[(C.fr y c h2).1]at hy;cases hy
  ·exact Nat.le_of_succ_le h2
 ·by_cases hi:i<vs.length
  ·have ha:vs[i]?=some v:=by
    rw[FH (by simpa using hi),Fh]at h2;cases e:vs[i]? with
    | none=>rw[e]at h2;cases h2
    | some a=>rw[e]at h2;cases h2;rfl
   obtain⟨u,hu,rv⟩:=r.get ha;have hp:ps[i]?=some y:=by have h1':(ps++cp.map (·.n))[i]?=some y:=h1;rw[FH (by omega)]at h1';exact h1'
   refine⟨u,rv,?_⟩;rcases S.par y (Fp hp)with k|k
   ·exact .inl ⟨k,mB S.nd hp hu k⟩
   ·obtain⟨c,e⟩:=Option.isSome_iff_exists.mp (PySem.W.cellsFrom_some scope.names (s.heap.objs.size+1) cl (.inl k));refine .inr ⟨.inl k,c,e,?_⟩;rcases jv scope.names (s.heap.objs.size+1) [] cl e with h4|h4
    ·rw[(C.fr y c h4).1]at k;cases k
    ·have qq:=x.cell y c h4;rw[lU S.nd hp hu (by show scope.names.lookup y≠_;rw[k];decide)]at qq;exact qq
  ·have h1':(ps++cp.map (·.n))[i]?=some y:=h1;rw[FG (by omega),Fh]at h1';rw[FG (by simpa using Nat.le_of_not_lt hi),Ff,Fh]at h2;rw[hl]at h2;cases he:cp[i-ps.length]? with
   | none=>rw[he]at h2;cases h2
   | some e=>
    rw[he]at h1' h2;cases h1';cases h2;have hm:=Fp he;obtain⟨a1,a2,u,hu,rv⟩:=hcp.at_ e hm;have hf:=(C.fr _ _ a1).1;obtain⟨c,b1,b2⟩:=hfr e.n hf;rw[a1]at b1;cases b1;exact⟨u,rv,.inr ⟨.inr hf,e.c,b2,e.o,hk _ _ (obj e hm),hu⟩⟩
 ·have h':(cellsFrom (s.heap.objs.size+1) scope.names cl).lookup y=some c:=h;rcases jv scope.names (s.heap.objs.size+1) [] cl h' with h2|h2
  ·obtain⟨e,he,_,rfl⟩:=hcp.all y c h2;obtain⟨_,_,u,hu,_⟩:=hcp.at_ e he;exact⟨some u,e.o,hk _ _ (obj e he),hu⟩
  ·exact⟨_,x.cell y c h2⟩
 ·have h':(cellsFrom (s.heap.objs.size+1) scope.names cl).lookup y=some c:=h;rcases gK _ _ _ h' with h2|⟨h2,_⟩
  ·exact cinC y c h2
  ·exact nn c (e0.hok.fresh (Nat.le_of_succ_le h2))
 ·show(vs.map some++cp.map λe=>some e.v).length=(ps++cp.map (·.n)).length;simp[hl]
def gF(f c:Addr)(q:Str)(params:Arguments)(body:Expr)(scope:Scope)(cl:List (Str×Addr))(cp:List Cap)(H:Hp):Prop:=H f=some (eQ f c q params body scope cl)/\H c=some (fR c q)/\Caps H cl cp
def gF.ext{H H':Hp}(e:Ext H H'){f c:Addr}{q:Str}{params:Arguments}{body:Expr}{scope:Scope}{cl:List (Str×Addr)}{cp:List Cap}(h:gF f c q params body scope cl cp H):gF f c q params body scope cl cp H':=⟨e _ _ h.1,e _ _ h.2.1,h.2.2.ext e⟩
def Dm{P:Program}{w:World}{K:Fb}{mg:Str->Option Value}{base:Heap}{k:Nat}{f c:Addr}{q:Str}{params:Arguments}{body:Expr}{scope:Scope}{cl cells:List (Str×Addr)}{cp:List Cap}{ps:List Str}{R:List V->Hp->VK->Prop}(I:Hp->Prop)
  (S:LamSc ps scope) (C:ClOk scope cells cl) (bind:∀(pm cv ctv:Value) (us:List Value),us.length=ps.length->bindArgs (PySem.W.kla_fn "<lambda>" q params body scope cl pm cv ctv) ⟨us,[]⟩=pure (ps.zip us))
  (hR:∀vs H Q,R vs H Q->vs.length=ps.length)
  (hbody:∀(A:Around) (outer:List Env) (s:Shared) (H:Hp) (vs:List V) (Q:VK),Room k (A.deeper (eO q scope s.heap.objs.size f (.ref c) cl))->gF f c q params body scope cl cp H->I H->R vs H Q →
   ∃te,PE (iX P w K mg base (ps++cp.map (·.n)) q scope f (.ref c) cl A outer s (bh (cellsOf cp) H)) body te/\te (vs.map some++cp.map λe=>some e.v) (bh (cellsOf cp) H) λv H'=>(∀b o,(cellsOf cp).lookup b=some o->H' b=none)->Q v (bP (cellsOf cp) H')) :
  FunR P w K mg base (k+1) f (λH=>gF f c q params body scope cl cp H/\I H) R:=by
 refine⟨λH h hok hp=>?_,λA outer s H us vs Q hr e0 hp r hq=>?_⟩
 ·obtain⟨⟨pm,ctv,gf⟩,_⟩:=hok f _ hp.1.1;exact⟨_,_,_,_,gf⟩
 ·obtain⟨⟨hf,hc,hcp⟩,hI⟩:=id hp;obtain⟨⟨pm,ctv,gf⟩,_⟩:=e0.hok f _ hf;obtain⟨gc,_⟩:=e0.hok c _ hc;have lim:s.heap.NoLimit:=e0.mod.nolimit.keeps λb o e=>(e0.bs b o e).1;have hl:=hR vs H Q hq;refine PySem.W.kla_callFunE hr.depth gf rfl S.co S.gen rfl gc ?_;rw[bind _ _ _ us (by rw[←r.length];exact hl)];refine E9 ?_;refine yR (q:=q) (f:=f) (cd:=.ref c) S.kind C.one (λx c h=>(C.fr x c h).1) (λz hz=>?_) λs1 z=>?_
  ·exact S.par z.1 (List.of_mem_zip hz).1
  refine⟨lim.keeps z.keep,PySem.W.kla_codeExpr ?_⟩;have J:=BK S C hcp hr.hd e0 hl r z;obtain⟨te,ht,hq'⟩:=hbody A outer s H vs Q (hr.deeper _) hp.1 hI hq;refine wpAny_mono (ht [] s1 _ _ _ J hq') (λu s' ⟨v,H',J',rv,q'⟩=>?_) λe s' hs=>hs.elim;have obj:∀b o,(cellsOf cp).lookup b=some o->s.heap.get? b=some o:=λb o e=>(e0.hok _ _ (hcp.look b o e)).1;have nfs:∀b o,(cellsOf cp).lookup b=some o->b∉du outer:=λb o e hb=>by have:=e0.frf b hb;rw[hcp.look b o e]at this;cases this
  have un:Un (du outer) [] (bh (cellsOf cp) H) H' s.heap s'.heap:=J'.base;exact⟨v,bP (cellsOf cp) H',J'.os,J'.bare,zZ un hcp.look,tH J'.hok (λb o e=>un.keep b o (obj b o e) (gM e) (nfs b o e) (by simp)) (λb o e=>un.free b o (obj b o e) (gM e) (by simp)),rv,q' λb o e=>un.free b o (obj b o e) (gM e) (by simp)⟩
section
variable {X:Cx}
def B4:V->List V->Hp->VK->Prop:=λx vs H Q=>∃(n:Nat) (p:Addr) (xs:List V) (a:V) (d:PyData) (ds:List PyData) (j:Nat),x=.ref p/\vs=[a]/\bf H n a d/\H p=some (.lst xs)/\Paired (bf H n) xs ds/\n<=50/\(∃e,ds[j]?=some e/\PyData.eqv e d=true)/\(∀m e,m<j->ds[m]?=some e->PyData.eqv e d=false)/\j<2 ^ 32/\Q (.int (j:Int)) H
def A9{k:Nat}{A0:Around}(hr:Room k A0)(hA:X.A=A0:=by rfl):m7 X "list.index" B4:=by
 subst hA;intro pins s σ H x xs v us Q I rx rv h;obtain⟨n,p,ys,a,d,ds,j,rfl,rfl,h1,h2,h3,hn,⟨e,hj,he⟩,hno,hjs,q⟩:=h;cases rx;obtain⟨u,rfl,ru⟩:=rv.one;have h4:bf H (n+1) (.ref p) (.list ds):=.inr ⟨p,ys,ds,rfl,.inr ⟨h2,rfl⟩,h3⟩;obtain⟨as,ra⟩:=bf.reads I n h1 ru;obtain⟨bs,rb⟩:=bf.reads I (n+1) h4 rfl;have l1:=bf.lay n h1;have l2:=jr (λ{x d}=>bf.lay (H:=H) n) h3;have hu:=hr.units;have hm:min (PyData.depthAll ds) d.depth<=50:=FP (Nat.min_le_right _ _) (FP l1.2 hn);obtain⟨_,its,nn,rvv,gt⟩:=I.hok p _ h2;cases rb with
 | list g1 g2 g3 g4=>
  rw[gt]at g1;cases g1;cases g3;have mp:=SeqAt.readsAll_map ds _ _ l2.1 g4;have hlen:its.length=ds.length:=by rw[←mp,Ff]
  have hjl:j<ds.length:=(Fo.mp hj).1;have hsz:j<its.toArray.size:=by rw[Fl];omega
  have hat:∀m (hm:m<its.toArray.size),ds[m]?=some (SeqAt.readOf s.heap its.toArray[m]):=λm hm=>by
   have hm':m<its.length:=by simpa using hm
   rw[←mp,Fh];simp[hm']
  refine call_meets PySem.F.slot_list_index ⟨_,gt,rfl⟩ PySem.F.entry_list_index (PySem.F.args_list_index_2 _ _) (SeqAt.list_indexAt p its.toArray nn none #[] u (λy=>PyData.eqv (SeqAt.readOf s.heap y) d) j hsz (by omega) ?_ ?_)
   ⟨gt,SeqAt.items_eqAt g4 ra l2.1 l1.1 (by omega),?_⟩
  ·have:=hat j hsz;rw[hj]at this;cases this;exact he
  ·intro m hm hmj;exact hno m _ hmj (hat m hm)
  ·exact⟨.int _,H,I.tok _,⟨_,rfl⟩,q⟩
end
def DX{P:Program}{w:World}{A:Around}(hA:A.handled=none)(it t:Addr)(ne:t≠it)(ys:Array Value):Draws P w A it [it,t] ys.size (λi v=>ys[i]?=some v) (λi h=>h.IsListIter it t i/\h.IsList t ys) where
 live:=λi h st=>by obtain⟨⟨o,ho,_⟩,_⟩:=st;exact⟨o,ho⟩
 frame:=λi h h' st k=>by obtain⟨⟨o,ho,r⟩,⟨u,hu,q⟩⟩:=st;exact⟨⟨o,k it (by simp) o ho,r⟩,⟨u,k t (by simp) u hu,q⟩⟩
 item:=λi s Q E hi st hQ=>wpAny_nextOf_list_item st.1 st.2 (x:=ys[i]) (by simp[hi]) λh' gi sb=>hQ _ h' s.toks (by simp[hi]) ⟨gi,by obtain⟨u,hu,q⟩:=st.2;exact⟨u,(sb.2 t ne).trans hu,q⟩⟩ sb
 done:=λs Q E st hE=>wpAny_nextOf_list_end hA st.1 st.2 (by simp) hE
abbrev jM(h:Heap)(a:Addr):Heap:=h.push { cls:=.type "list_iterator",data:=.fields #[.ref a,.int 0 0] }
abbrev oX(h:Heap)(a:Addr):Heap:=(jM h a).push { cls:=.type "enumerate",data:=.fields #[.none,.bool false,.ref h.objs.size,rawInt 0,.none,.none] }
open AutoSeq1 (wpAny_loadPart')in
def Ap(a:Addr)(ys:Array Value)(ob:Obj):Meets (Builtin.«enumerate.__new__» ⟨[.type "enumerate",.ref a],[]⟩) (λ_ R s=>s.heap.get? a=some ob/\s.heap.IsList a ys/\R (.ok (.ret (.ref (jM s.heap a).objs.size))) { s with heap:=oX s.heap a }):=
 .of_wp λprog w A R s q=>by
  obtain⟨hp,g,d,tk,os⟩:=s;obtain⟨ga,gt,q⟩:=q;have hsub:=sub_enumerate;obtain⟨o,go,gc,n,gd⟩:=id gt;obtain⟨c0,d0,dt,sl⟩:=o;simp only at gc gd;subst gc gd;have gT:Heap.IsList (Shared.heap ⟨hp,g,d,tk,os⟩) a ys:=gt
  wp_walk using wpAny_loadPart' go
  refine wpAny_stack_any λst=>E9 ?_;split
  ·rename_i c _ _ _ _ _;cases(c == Value.type "enumerate")<;>(wp_walk using wpAny_loadPart' go,wpAny_pyIter_list gT;exact⟨_,rfl,q⟩)
  ·wp_walk using wpAny_loadPart' go,wpAny_pyIter_list gT
   exact⟨_,rfl,q⟩
def DR{prog:Program}{w:World}{A:Around}{E:Value->Shared->Prop}{s:Shared}{a:Addr}{ys:Array Value}{Q:Value->Shared->Prop}(gt:s.heap.IsList a ys)
  (q:∀h',IsEnum h' (s.heap.objs.size+1) s.heap.objs.size 0 .none->h'.IsListIter s.heap.objs.size a 0->(∀c o,s.heap.get? c=some o->h'.get? c=some o)->Q (.ref (s.heap.objs.size+1)) { s with heap:=h' }) :
  wpAny (model prog w) A (call (.type "enumerate") [.ref a]) Q E s:=by
 obtain⟨o,go,r⟩:=id gt;refine callType_new F.called_enumerate (by decide) (F.typeCall_enumerate_1 _) (F.newCall_enumerate_1 _) (λob=>F.args_object_init_2 ob _) F.entry_enumerate_new (Ap a ys o) ⟨go,gt,?_⟩;have n1:(jM s.heap a).objs.size=s.heap.objs.size+1:=Heap.size_push ..;have k2:(oX s.heap a).get? (jM s.heap a).objs.size=some _:=Fd _ rfl;have k1:(oX s.heap a).get? s.heap.objs.size=some _:=Fc _ (Fd _ rfl);show _/\_;rw[n1]at k2 ⊢;exact⟨⟨_,k2,rfl⟩,q _ k2 ⟨_,k1,rfl,rfl⟩ λc o x=>Fc _ (Fc _ x)⟩
def jC(K:Fb)(a:Addr):It:=⟨(dA K a).go,λi H x H'=>∃p v,x=.ref p/\H p=none/\H'=upd H p (.tup [.int i,v])/\(dA K a).yld i H v H,(dA K a).stop⟩
def EO{P:Program}{w:World}{K:Fb}{elts:List Expr}{kk:Nat}{ps:Pos}(a e it:Addr)(ne:e≠it):Turn P w K (.Tuple elts kk ps) (jC K a) [e,it] e (λi h=>(∃old,IsEnum h e it i old)/\h.IsListIter it a i) where
 mem:=by simp
 obj:=λi h st b hb=>by
  obtain⟨⟨old,ge⟩,o,go,gc,gd⟩:=st;rcases Fv.mp hb with rfl|hb
  ·exact⟨_,ge,λv z=>by cases(show Data.fields _=Data.cell v from z)⟩
  ·cases Fq.mp hb;exact⟨o,go,λv z=>by rw[gd]at z;cases z⟩
 keep:=λi h h' st k=>by obtain⟨⟨old,ge⟩,gi⟩:=st;exact⟨⟨old,k e (by simp) _ ge⟩,gi.at λo z=>k it (by simp) o z⟩
 item:=by
  intro X hP hw hK hc i pins s σ H E I hf st hg;subst hP hw hK;obtain⟨⟨old,ge⟩,gi⟩:=st;obtain⟨xs,x,hq,hx⟩:=hg;obtain⟨its,rv,p,hz⟩:=I.list hq;obtain⟨u,hu,ru⟩:=rv.get hx;have hi:i<its.toArray.size:=by have:=(Fo.mp hu).1;simpa using this
  have hA:X.A.in1.handled=none:=I.ok.hd hc;have hta:a≠it:=λz=>by obtain⟨o,ho,hcl,_⟩:=p.isList;obtain⟨o',ho',hcl',_⟩:=gi;rw[z,ho']at ho;cases ho;rw[hcl]at hcl';exact absurd (Value.type.inj hcl') (by decide)
  have hea:e∉[it,a]:=λz=>by
   rcases Fv.mp z with z|z
   ·exact ne z
   ·cases Fq.mp z;obtain⟨o,ho,hcl,_⟩:=p.isList;rw[ge]at ho;cases ho;exact absurd (Value.type.inj hcl) (by decide)
  refine wpAny_pyNext_enum_itemD (DX hA it a hta its.toArray) ge ⟨gi,show s.heap.IsList a its.toArray from p.isList⟩ hi ne hea λy h' tk hy geo gs gT gz gk=>⟨_,rfl,?_⟩;have ey:y=u:=by
   have:its[i]?=some y:=by simpa using hy
   rw[hu]at this;exact(FX this).symm
  subst ey;have lt:∀b∈[e,it],b≠s.heap.objs.size:=λb hb=>by
   rcases Fv.mp hb with rfl|hb
   ·exact Fz (Fe ge)
   ·cases Fq.mp hb;obtain⟨o,ho,_⟩:=gi;exact Fz (Fe ho)
  have I1:Inv X pins σ (upd H s.heap.objs.size (.tup [.int i,x])) { s with heap:=h',toks:=tk+1 }:=
   Inv.turnedNew (L:=[e,it]) I (λb o hb z=>gk b o (λq=>hb (by simp[q])) (λq=>hb (by simp[q])) z) hf ⟨by show 2<=sizeLine;decide,[.int i tk,y],.cons ⟨tk,rfl⟩ (.cons ru .nil),⟨_,gT,rfl,_,rfl⟩⟩
  have fe:b6 X pins (upd H s.heap.objs.size (.tup [.int i,x])) e:=by obtain⟨c0,c1,c2,c3,c4,c5⟩:=hf e (by simp);exact⟨by rw[aC (lt e (by simp))];exact c0,c1,c2,c3,c4,c5⟩
  refine wpAny_letOwnedTupleGo_enum (s:={ s with heap:=h',toks:=tk+1 }) geo λk gk' bk=>?_;refine⟨.ref s.heap.objs.size,upd H s.heap.objs.size (.tup [.int i,x]),Inv.same (s:={ s with heap:=h',toks:=tk+1 }) (k:=h') I1 fe bk.extBut,rfl,⟨_,x,rfl,I.hok.fresh (FA _),rfl,rfl,λzs hzs=>by rw[I.list_inj hzs hq];exact hx⟩,⟨⟨y,by simpa using gk'⟩,gs.1.at λo z=>bk.extBut it o (Ne.symm ne) z⟩,λb hb=>?_⟩;rw[aC (lt b hb)];exact(hf b hb).1
 done:=by intro X hP hw hK hc i pins s σ H E I hf st hg;subst hP hw hK;obtain⟨⟨old,ge⟩,gi⟩:=st;obtain⟨xs,hq,hx⟩:=hg;obtain⟨its,rv,p,hz⟩:=I.list hq;have hA:X.A.in1.handled=none:=I.ok.hd hc;have gT:s.TypeIs (.ref e) "enumerate":=⟨_,ge,rfl⟩;have hl:=rv.length;unfold pyNext;refine E8 (wpAny_attempt (F7 (name:=FW "__next__") gT F.slot_enumerate_next (wpAny_call_entry F.slot_enumerate_next gT F.entry_enumerate_next ?_ (F.args_enumerate_next_1 _))));show wpAny _ _ (field (Value.ref e) 2 >>= _) _ _ _;refine E8 (wpAny_field ge rfl (x:=Value.ref it) rfl ?_);refine E8 (wpAny_nextOf_list_end hA gi (show s.heap.IsList a its.toArray from p.isList) (by simp;omega) λh' x he hx'=>?_);obtain⟨o,ho,hc'⟩:=hx';refine E8 (wpAny_isInstance (s:={ s with heap:=h' }) (T:="StopIteration") (b:=true) ⟨o,ho,hc'⟩ isSubtype_stop ?_);exact E9 ⟨rfl,Inv.same (k:=s.heap) I (hf it (by simp)) he⟩
 self:=λ_ _ _ _ _ st h=>by obtain⟨⟨old,ge⟩,_⟩:=st;exact wpAny_pyIter_enum ge h
section
variable {K:Fb} {σ:St} {H:Hp} {Q:VK}
def nY(K:Fb):List V->Hp->(It->Hp->Prop)->Prop:=λvs H R=>∃a xs,vs=[.ref a]/\ag K H a xs/\R (jC K a) H
def xW(K:Fb)(ta:TA):TI:=λσ H R=>ta σ H λvs H1=>nY K vs H1 R
def oF{X:Cx}{elts:List Expr}{kk:Nat}{ps:Pos}(K:Fb){a:Expr}{ta:TA}{p pos:Pos}(hg:Gl X "enumerate")(hm:X.mg "enumerate" = none)(ha:PA X [a] ta)(hK:X.K=K:=by rfl)(hs:starEach [a] X.env=[(false,eval a X.env)]:=by rfl):
  PI X (.Tuple elts kk ps) (.Call (.Name "enumerate" p) [a] [] pos) (xW K ta):=by
 subst hK;intro pins s σ H R I h;refine Call_ (fh I hg hm PyProof.Rows.boot_enumerate (PyProof.Rows.callWith_type1 (aD (ha pos pins s σ H _ I h) λus s1 ⟨vs,H1,I1,r1,q1⟩=>?_) (by rw[hs];rfl) rfl));obtain⟨l,xs,e,hq,q⟩:=q1;subst e;obtain⟨u,rfl,rx⟩:=vals1 r1;cases rx;obtain⟨its,_,p1,_⟩:=I1.list hq;refine DR (show s1.heap.IsList l its.toArray from p1.isList) λh' ge gi k=>?_;refine wpAny_pyIter_enum (s:={ s1 with heap:=h' }) ge ?_;refine⟨s1.heap.objs.size+1,[s1.heap.objs.size+1,s1.heap.objs.size],_,_,H1,rfl,I1.kept (t':=s1.toks) k,EO l (s1.heap.objs.size+1) s1.heap.objs.size (λz=>by have z':@Eq Nat _ _:=z;omega),⟨⟨_,ge⟩,gi⟩,λb hb=>?_,q⟩;have le:@LE.le Nat _ s1.heap.objs.size b:=by
  rcases Fv.mp hb with rfl|hb
  ·exact Nat.le_add_right _ _
  ·cases Fq.mp hb;exact FA _
 exact I1.fpOk le (I1.hok.fresh le)
def mI{a:TA}{R:It->Hp->Prop}(h:a σ H λvs H1=>nY K vs H1 R):xW K a σ H R:=h
def lL{a:Addr}{xs:List V}{R:It->Hp->Prop}(ha:ag K H a xs)(h:R (jC K a) H):nY K [.ref a] H R:=⟨a,xs,rfl,ha,h⟩
def sW{a:Addr}{xs:List V}{n:Nat}{js:List Nat}{g:TG}{tc:TT}{te:TE}(Pv:Nat->List V->Hp->Prop)(hz:xs.length<=sizeLine)(h0:Pv 0 [] H)(hl:∀i zs H,Pv i zs H->ag K H a xs/\zs.length<=i)
  (hs:∀i u zs H p H',xs[i]?=some u->Pv i zs H->Ext H H'->H' p=some (.tup [.int i,u])->H p=none->g (.ref p) (dv n js σ) H' λσ2 H3=>tc σ2 H3 λb H4=>if b=true then te σ2 H4 λv H5=>Pv (i+1) (zs++[v]) H5 else Pv (i+1) zs H4)
  (hd:∀zs H p,Pv xs.length zs H->H p=none->Q (.ref p) (upd H p (.lst zs))):gD (jC K a) n js g tc te σ H Q:=by
 refine⟨λi m zs H=>m=xs.length-i/\i<=xs.length/\Pv i zs H,⟨xs.length,by simp,Nat.zero_le _,h0⟩,?_⟩;rintro i m zs H ⟨rfl,hi,p⟩;obtain⟨qa,ql⟩:=hl i zs H p;by_cases hlt:i<xs.length
 ·refine .inr ⟨⟨xs,xs[i],qa,by simp[hlt]⟩,by omega,Pv (i+1),λzs' H' p'=>⟨xs.length-(i+1),by omega,rfl,hlt,p'⟩,λx H' y=>?_⟩;obtain⟨pp,u,rfl,hn,rfl,yu⟩:=y;exact hs i u zs H pp _ (yu.2 xs qa) p (bq hn) aL hn
 ·have e:i=xs.length:=by omega
  exact .inl ⟨⟨xs,qa,by omega⟩,λp' hp=>hd zs H p' (e ▸ p) hp⟩
end
section
variable {X:Cx}
end
end L2
namespace L2.Og.Tb
open PySem
def nx(m i:Nat):Nat:=(i*5+1) % (m+1)
def it(m:Nat):Nat->Nat->Nat
 | 0,i=>i
 | n+1,i=>it m n (nx m i)
def kG(m:Nat):∀a b i,it m (a+b) i=it m b (it m a i)
 | 0,b,i=>by rw[Nat.zero_add];rfl
 | a+1,b,i=>by rw[Nat.succ_add];exact kG m a b (nx m i)
def lT(m:Nat):Nat->Nat->List Nat
 | 0,_=>[]
 | n+1,i=>i::lT m n (nx m i)
def ye{m:Nat}:∀{n i j:Nat},j∈lT m n i->∃k,k<n/\it m k i=j
 | 0,_,_,h=>by cases h
 | n+1,i,j,h=>by
  rcases Fv.mp h with rfl|h
  ·exact⟨0,Nat.succ_pos _,rfl⟩
  ·obtain⟨k,hk,e⟩:=ye h;exact⟨k+1,Nat.succ_lt_succ hk,e⟩
def good(m:Nat):Bool:=(F8 (m+1)).all (λj=>(lT m (m+1) 0).contains j) && it m (m+1) 0 == 0
def Co:good 7=true:=by decide +kernel
def yO:good 31=true:=by decide +kernel
def Bj:good 127=true:=by decide +kernel
def AW:good 511=true:=by decide +kernel
def Mask(m:Nat):Prop:=m=7\/m=31\/m=127\/m=511
def Mask.good{m:Nat}(h:Mask m):good m=true:=by
 rcases h with rfl|rfl|rfl|rfl
 ·exact Co
 ·exact yO
 ·exact Bj
 ·exact AW
def qx{m:Nat}(h:Mask m){j:Nat}(hj:j<=m):∃k,k<=m/\it m k 0=j:=by have:=h.good;unfold Tb.good at this;rw[FV,FR]at this;have h1:=this.1 j (List.mem_range.mpr (by omega));rw[List.contains_iff_mem]at h1;obtain⟨k,hk,e⟩:=ye h1;exact⟨k,by omega,e⟩
def round0{m:Nat}(h:Mask m):it m (m+1) 0=0:=by have:=h.good;unfold Tb.good at this;rw[FV]at this;exact eq_of_beq this.2
def reach{m:Nat}(h:Mask m){i j:Nat}(hi:i<=m)(hj:j<=m):∃k,k<=m/\it m k i=j:=by
 obtain⟨a,ha,ea⟩:=qx h hi;obtain⟨b,hb,eb⟩:=qx h hj;rcases F2 b a with hlt|hge
 ·refine⟨m+1-a+b,by omega,?_⟩;rw[←ea,←kG,show a+(m+1-a+b)=(m+1)+b by omega,kG,round0 h];exact eb
 ·refine⟨b-a,by omega,?_⟩;rw[←ea,←kG,show a+(b-a)=b by omega];exact eb
def lp(m:Nat):Nat->Nat×Nat->Nat×Nat
 | 0,s=>s
 | n+1,s=>lp m n (SetTable.leap m s.1 s.2)
def nT(m:Nat):∀n s,lp m (n+1) s=SetTable.leap m (lp m n s).1 (lp m n s).2
 | 0,s=>rfl
 | n+1,s=>by show lp m (n+1) (SetTable.leap m s.1 s.2)=_;rw[nT m n];rfl
def yi(m:Nat):∀n s,(lp m n s).2=s.2 / 32 ^ n
 | 0,s=>by simp[lp]
 | n+1,s=>by rw[nT m n s];show(lp m n s).2 / 32=_;rw[yi m n s,Nat.div_div_eq_div_mul,Nat.pow_succ]
def yc(m:Nat):∀n s,s.1<=m->(lp m n s).1<=m
 | 0,s,h=>h
 | n+1,s,h=>by rw[nT m n s];show(_ % (m+1))<=m;have:=Nat.mod_lt ((lp m n s).1*5+1+(lp m n s).2 / 32) (show 0<m+1 by omega);omega
def vM(m:Nat):∀n i,(lp m n (i,0)).1=it m n i
 | 0,i=>rfl
 | n+1,i=>by show(lp m n (SetTable.leap m i 0)).1=it m n (nx m i);have:SetTable.leap m i 0=(nx m i,0):=rfl;rw[this];exact vM m n _
def sh(m:Nat):∀a b s,lp m (a+b) s=lp m b (lp m a s)
 | 0,b,s=>by rw[Nat.zero_add];rfl
 | a+1,b,s=>by rw[Nat.succ_add];exact sh m a b _
def rX{m:Nat}(h:Mask m){i p j:Nat}(hi:i<=m)(hp:p<2 ^ 64)(hj:j<=m):∃n,n<=m+13/\(lp m n (i,p)).1=j:=by
 have hz:(lp m 13 (i,p)).2=0:=by rw[yi];exact Nat.div_eq_of_lt (FO hp (by decide))
 obtain⟨k,hk,e⟩:=reach h (yc m 13 (i,p) hi) hj;refine⟨13+k,by omega,?_⟩;rw[sh];have:lp m 13 (i,p)=((lp m 13 (i,p)).1,0):=by rw[←hz]
 rw[this,vM];exact e
def xg(h:Int):SetTable.bits h<2 ^ 64:=by unfold SetTable.bits;have h1:=Int.emod_lt_of_pos h (show(0:Int)<2 ^ 64 by decide);have h2:=Int.emod_nonneg h (show(2:Int) ^ 64≠0 by decide);omega
def cO(t:SetTable):Nat->SetTable.Probe->SetTable.Probe
 | 0,p=>p
 | n+1,p=>cO t n (t.advance p)
def pU(t:SetTable):∀a b p,cO t (a+b) p=cO t b (cO t a p)
 | 0,b,p=>by rw[Nat.zero_add];rfl
 | a+1,b,p=>by rw[Nat.succ_add];exact pU t a b _
def at_(t:SetTable)(s:Nat×Nat):SetTable.Probe:={ j:=s.1,more:=SetTable.runEnd t.mask s.1-s.1,i:=s.1,perturb:=s.2,dummy:=none }
def qF(t:SetTable):∀(r:Nat) (p:SetTable.Probe),p.more=r->cO t (r+1) p={ p with j:=(SetTable.leap t.mask p.i p.perturb).1,more:=SetTable.runEnd t.mask (SetTable.leap t.mask p.i p.perturb).1-(SetTable.leap t.mask p.i p.perturb).1,i:=(SetTable.leap t.mask p.i p.perturb).1,perturb:=(SetTable.leap t.mask p.i p.perturb).2 }
 | 0,p,h=>by show t.advance p=_;unfold SetTable.advance;rw[Gb (by omega)]
 | r+1,p,h=>by
  show cO t (r+1) (t.advance p)=_;have e:t.advance p={ p with j:=p.j+1,more:=p.more-1 }:=by unfold SetTable.advance;rw[Ge (by omega)]
  rw[e,qF t r _ (by show p.more-1=r;omega)]
def DT(t:SetTable)(s:Nat×Nat):∃k,k<=10/\cO t k (at_ t s)=at_ t (SetTable.leap t.mask s.1 s.2):=by
 refine⟨SetTable.runEnd t.mask s.1-s.1+1,?_,?_⟩
 ·unfold SetTable.runEnd;split<;>omega
 ·exact(qF t (SetTable.runEnd t.mask s.1-s.1) (at_ t s) rfl).trans rfl
def tL(t:SetTable):∀(n:Nat) (s:Nat×Nat),∃k,k<=10*n/\cO t k (at_ t s)=at_ t (lp t.mask n s)
 | 0,s=>⟨0,FA _,rfl⟩
 | n+1,s=>by obtain⟨k1,h1,e1⟩:=DT t s;obtain⟨k2,h2,e2⟩:=tL t n (SetTable.leap t.mask s.1 s.2);refine⟨k1+k2,by omega,?_⟩;rw[pU,e1,e2];rfl
def Bz(t:SetTable)(h:Int):t.probeStart h=at_ t (SetTable.bits h % (t.mask+1),SetTable.bits h):=rfl
def yU{t:SetTable}(hm:Mask t.mask){j:Nat}(hj:j<=t.mask)(h:Int):∃K,K<10*SetTable.turns t.mask/\(cO t K (t.probeStart h)).j=j:=by
 have h1:SetTable.bits h % (t.mask+1)<=t.mask:=by have:=Nat.mod_lt (SetTable.bits h) (show 0<t.mask+1 by omega);omega
 obtain⟨n,hn,e⟩:=rX hm h1 (xg h) hj;obtain⟨K,hK,eK⟩:=tL t n (SetTable.bits h % (t.mask+1),SetTable.bits h);refine⟨K,by unfold SetTable.turns;omega,?_⟩;rw[Bz,eK];exact e
def w9{t:SetTable}{j i:Nat}(h:t.slot j=.live i):t.place[i]?=some j:=by
 unfold SetTable.slot at h;dsimp only at h;split at h
 ·rename_i hq;cases h;exact eq_of_beq hq
 ·split at h<;>cases h
def wq(j:Nat):SetTable.has #[] j=false:=rfl
def xJ{t:SetTable}(hd:t.dummies = #[])(j:Nat):t.slot j=.empty\/∃i,t.slot j=.live i:=by
 unfold SetTable.slot;dsimp only;split
 ·exact .inr ⟨_,rfl⟩
 ·rw[hd,wq];exact .inl rfl
def ub:∀(n:Nat) (l:List Nat),(∀j,j<n->j∈l)->n<=l.length
 | 0,l,_=>Nat.zero_le _
 | n+1,l,h=>by have hn:=h n (Nat.lt_succ_self n);have:=ub n (l.erase n) λj hj=>(List.mem_erase_of_ne (by omega)).mpr (h j (by omega));rw[List.length_erase_of_mem hn]at this;have:0<l.length:=List.length_pos_of_mem hn;omega
def DF{t:SetTable}(hd:t.dummies = #[])(h:t.place.size<=t.mask):∃j,j<=t.mask/\t.slot j=.empty:=by
 rcases Classical.em (∃j,j<=t.mask/\t.slot j=.empty)with h1|h1
 ·exact h1
 ·exfalso;have:=ub (t.mask+1) t.place.toList λj hj=>by
   rcases xJ hd j with h2|⟨i,h2⟩
   ·exact absurd ⟨j,by omega,h2⟩ h1
   ·have:=w9 h2;rw[←Array.getElem?_toList]at this;exact Fp this
  rw[Fj]at this;omega
def kZ(t:SetTable):∀n p,(cO t n p).dummy=p.dummy
 | 0,p=>rfl
 | n+1,p=>by show(cO t n (t.advance p)).dummy=_;rw[kZ t n];unfold SetTable.advance;split<;>rfl
def B8{t:SetTable}(hd:t.dummies = #[])(hash:Nat->Int)(h:Int):∀(K fuel:Nat) (p:SetTable.Probe),K<fuel->p.dummy=none->t.slot (cO t K p).j=.empty →
  (∃j,SetTable.probe.go t hash h fuel p=some (.empty j none))\/∃k j i,k<K/\SetTable.probe.go t hash h fuel p=some (.candidate j i (cO t (k+1) p))/\t.slot j=.live i:=by
 intro K;induction K with
 | zero=>
  intro fuel p hf hp hs;obtain⟨f,rfl⟩:∃f,fuel=f+1:=⟨fuel-1,by omega⟩;refine .inl ⟨p.j,?_⟩;have hs':t.slot p.j=.empty:=hs;unfold SetTable.probe.go;rw[hs'];dsimp only;rw[hp]
 | succ K ih=>
  intro fuel p hf hp hs;obtain⟨f,rfl⟩:∃f,fuel=f+1:=⟨fuel-1,by omega⟩;unfold SetTable.probe.go;rcases xJ hd p.j with h1|⟨i,h1⟩
  ·rw[h1];dsimp only;rw[hp];exact .inl ⟨p.j,rfl⟩
  ·rw[h1];dsimp only;by_cases hq:(hash i == h)=true
   ·rw[Ge hq];exact .inr ⟨0,p.j,i,Nat.succ_pos _,rfl,h1⟩
   ·rw[Gb hq];have hp':(t.advance p).dummy=none:=by have:=kZ t 1 p;rw[hp]at this;exact this
    rcases ih f (t.advance p) (by omega) hp' hs with⟨j,e⟩|⟨k,j,i',hk,e,hl⟩
    ·exact .inl ⟨j,e⟩
    ·exact .inr ⟨k+1,j,i',by omega,e,hl⟩
def yg{α:Type}:∀{l:List (Option α)} {j:Nat} {k:α},l[j]?=some none->((l.set j (some k)).filterMap id).Perm (k::l.filterMap id)
 | [],j,k,h=>by cases h
 | x::l,0,k,h=>by
  have:x=none:=by simpa using h
  subst this;exact .refl _
 | x::l,j+1,k,h=>by
  have h':l[j]?=some none:=by simpa using h
  have ih:=yg (k:=k) h';cases x with
  | none=>exact ih
  | some y=>exact(List.Perm.cons y ih).trans (.swap _ _ _)
def zy{α:Type}(l:List (Option α)):(l.filterMap id).length+(l.filter (·.isNone)).length=l.length:=by
 induction l with
 | nil=>rfl
 | cons x l ih=>
  cases x<;>simp at ih ⊢<;>omega
def CW{m:Nat}(hm:Mask m)(owner:Array (Option Nat))(hz:owner.size=m+1){j:Nat}(hj:owner[j]?=some none):∀(fuel n i p:Nat),i<=m->n<fuel->(lp m n (i,p)).1=j →
  ∃j',SetTable.layClean.free m owner fuel i p=some j'/\owner[j']?=some none:=by
 intro fuel;induction fuel with
 | zero=>intro n i p _ h;omega
 | succ fuel ih=>
  intro n i p hi hn he;unfold SetTable.layClean.free;split
  ·rename_i k hk;have h1:=List.find?_some hk;have h2:=List.mem_range.mp (List.mem_of_find?_eq_some hk);refine⟨i+k,rfl,?_⟩;have hb:i+k<owner.size:=by rw[hz];unfold SetTable.runEnd at h2;split at h2<;>omega
   rw[Array.getElem?_eq_getElem hb];have:owner.getD (i+k) (some 0)=owner[i+k]:=by rw[Array.getD_eq_getD_getElem?,Array.getElem?_eq_getElem hb];rfl
   rw[this]at h1;congr 1;cases hq:owner[i+k]with
   | none=>rfl
   | some y=>rw[hq]at h1;cases h1
  ·rename_i hk;cases n with
   | zero=>
    exfalso;have h0:i=j:=he;have:=List.find?_eq_none.mp hk 0 (List.mem_range.mpr (by unfold SetTable.runEnd;split<;>omega));rw[Nat.add_zero,h0,Array.getD_eq_getD_getElem?,hj]at this;simp at this
   | succ n=>
    have:=yc m 1 (i,p) hi;exact ih n (SetTable.leap m i p).1 (SetTable.leap m i p).2 this (by omega) he
def jK(mask:Nat)(acc:Option (Array (Option Nat)×Nat))(h:Int):Option (Array (Option Nat)×Nat):=do
 let (owner,k) ←acc;let j ←SetTable.layClean.free mask owner (SetTable.turns mask) (SetTable.bits h % (mask+1)) (SetTable.bits h)
 pure (owner.setIfInBounds j (some k),k+1)
def Cp{l:List (Option Nat)}(h:(l.filterMap id).length<l.length):∃j:Nat,l[j]?=some none:=by
 have:=zy l;have h1:0<(l.filter (·.isNone)).length:=by omega
 obtain⟨x,hx⟩:=List.exists_mem_of_length_pos h1;obtain⟨hx1,hx2⟩:=List.mem_filter.mp hx;have:x=none:=by cases x<;>simp_all
 subst this;obtain⟨j,hj⟩:=F3 hx1;exact⟨j,hj⟩
def tJ{m:Nat}(hm:Mask m):∀(hs:List Int) (owner:Array (Option Nat)) (k:Nat),owner.size=m+1->(owner.toList.filterMap id).Perm (F8 k)->k+hs.length<=m →
  ∃owner',hs.foldl (jK m) (some (owner,k))=some (owner',k+hs.length)/\owner'.size=m+1/\(owner'.toList.filterMap id).Perm (F8 (k+hs.length))
 | [],owner,k,h1,h2,h3=>⟨owner,rfl,h1,h2⟩
 | h::hs,owner,k,h1,h2,h3=>by
  rw[FJ]at h3 ⊢;have hlt:(owner.toList.filterMap id).length<owner.toList.length:=by rw[h2.length_eq,List.length_range,Fj,h1];omega
  obtain⟨j,hj⟩:=Cp hlt;rw[Array.getElem?_toList]at hj;have hjm:j<=m:=by have:=(Array.getElem?_eq_some_iff.mp hj).1;omega
  have hi:SetTable.bits h % (m+1)<=m:=by have:=Nat.mod_lt (SetTable.bits h) (show 0<m+1 by omega);omega
  obtain⟨n,hn,en⟩:=rX hm hi (xg h) hjm;obtain⟨j',e',hj'⟩:=CW hm owner h1 hj (SetTable.turns m) n _ _ hi (by unfold SetTable.turns;omega) en;have step:jK m (some (owner,k)) h=some (owner.setIfInBounds j' (some k),k+1):=by unfold jK;simp[e']
  rw[List.foldl_cons,step];have hp:((owner.setIfInBounds j' (some k)).toList.filterMap id).Perm (F8 (k+1)):=by rw[Array.toList_setIfInBounds];rw[←Array.getElem?_toList]at hj';refine(yg hj').trans ?_;rw[List.range_succ];exact(List.Perm.cons k h2).trans (List.perm_append_comm (l₁:=[k]) (l₂:=F8 k))
  obtain⟨o',f1,f2,f3⟩:=tJ hm hs (owner.setIfInBounds j' (some k)) (k+1) (by simpa using h1) hp (by omega);exact⟨o',by rw[f1];congr 2;omega,f2,by rw[show k+(hs.length+1)=k+1+hs.length by omega];exact f3⟩
def zu(t:SetTable){hashes:Array Int}{wanted m:Nat}(hm:Mask m)(hw:SetTable.sizeAbove wanted-1=m)(hn:hashes.size<=m):
  ∃t' order,t.relaid hashes wanted=some (t',order)/\t'.place.size=hashes.size/\t'.dummies = #[]/\t'.mask=m/\order.toList.Perm (F8 hashes.size):=by
 obtain⟨o',f1,f2,f3⟩:=tJ hm hashes.toList (Array.replicate (m+1) none) 0 (by simp) (by simp) (by rw[Fj];omega);rw[Fj,Nat.zero_add]at f1 f3;have hlay:SetTable.layClean m hashes=some o':=by show(hashes.foldl (jK m) (some (Array.replicate (m+1) none,0))).map (·.1)=some o';rw[←Array.foldl_toList,f1];rfl
 have hsnd:((F8 (m+1)).filterMap λj=>(o'.getD j none).map (j,·)).map (·.2)=o'.toList.filterMap id:=by
  rw[List.map_filterMap];have:o'.toList=(F8 (m+1)).map λj=>o'.getD j none:=by
   apply List.ext_getElem
   ·rw[Fj,Ff,List.length_range,f2]
   ·intro i h1 h2;rw[Fj]at h1;simp[h1]
  rw[this,List.filterMap_map];congr 1;funext j;show((o'.getD j none).map (j,·)).map (·.2)=o'.getD j none;cases o'.getD j none<;>rfl
 have hrel:t.relaid hashes wanted=some (({ mask:=m,place:=(((F8 (m+1)).filterMap λj=>(o'.getD j none).map (j,·)).map (·.1)).toArray,dummies:=#[],finger:=t.finger,led:=t.led,moves:=t.movedTo m,plain:=t.plain }:SetTable),(((F8 (m+1)).filterMap λj=>(o'.getD j none).map (j,·)).map (·.2)).toArray):=by unfold SetTable.relaid;rw[hw];unfold SetTable.laid;rw[hlay];rfl
 refine⟨_,_,hrel,?_,rfl,rfl,?_⟩
 ·show(((F8 (m+1)).filterMap λj=>(o'.getD j none).map (j,·)).map (·.1)).toArray.size=_;rw[Fl,Ff];have:=congrArg List.length hsnd;rw[Ff,f3.length_eq,List.length_range]at this;exact this
 ·show(((F8 (m+1)).filterMap λj=>(o'.getD j none).map (j,·)).map (·.2)).toArray.toList.Perm _;rw[List.toList_toArray,hsnd];exact f3
def mF{α:Type}(xs:Array α)(p:Nat)(x:α):(SetTable.insertAt xs p x).size=xs.size+1:=by unfold SetTable.insertAt;simp;omega
def AA{α:Type}{xs:Array α}{p:Nat}{x e:α}(h:e∈(SetTable.insertAt xs p x).toList):e=x\/e∈xs.toList:=by
 unfold SetTable.insertAt at h;simp only[Array.toList_append,Array.toList_push,Array.toList_extract,FE,Fq]at h;rcases h with(h|h)|h
 ·exact .inr (List.mem_of_mem_take (by simpa using h))
 ·exact .inl h
 ·exact .inr (List.mem_of_mem_drop (List.mem_of_mem_take h))
def yt:SetTable.sizeAbove 20-1=31:=by decide +kernel
def A3:SetTable.sizeAbove 76-1=127:=by decide +kernel
def Ai:SetTable.sizeAbove 308-1=511:=by decide +kernel
end L2.Og.Tb
namespace L2.Og
open PySem PySem.Spec PyProof.Rows
section
variable {P:Program} {w:World} {A:Around} {E:Value->Shared->Prop} {s:Shared} {K:Type} [DecidableEq K] {knd:KeyKind P w K}
def yh{ks:List K}{vs:List Value}(h:ItemsAre knd ks vs):∀v∈vs,∀b,v≠.ref b:=λv hv b e=>by have:=h.byValue v hv;subst e;cases this
def BU(n:Nat){v:Value}(h:∀b,v≠.ref b):ofAClassStatement n v=pure false:=by
 cases v with
 | ref b=>exact absurd rfl (h b)
 | _=>unfold ofAClassStatement;rfl
def xf{ks:List K}{b:Addr}{Q:Bool->Shared->Prop}(hk:IsTupleKey knd s.heap ks b)(h:Q false s):wpAny (model P w) A (ofAClassStatement 8 (.ref b)) Q E s:=by
 have hT:=hk.typeIs;obtain⟨o,items,n,ho,hc,hd,hi⟩:=hk;unfold ofAClassStatement;refine E8 (wpAny_typeOf hT ?_);dsimp only;refine E8 (E9 ?_);simp only[Bool.not_true,F1,if_false];refine E8 (wpAny_seqItems ho hd ?_);dsimp only;refine E8 ?_;rw[←Array.forIn_toList];refine wpAny_forIn_list _ (λrest r s'=>r.1=none/\s'=s/\∀v∈rest,∀b,v≠.ref b) _ ?_ ?_ _ _ ⟨rfl,rfl,yh hi⟩
 ·rintro v rest r s' ⟨hr,rfl,hall⟩;rw[BU _ (hall v Fm)];refine E8 (E9 ?_);simp only[F1,if_false];exact E9 ⟨rfl,rfl,λu hu=>hall u (Fi _ hu)⟩
 ·rintro⟨r1,r2⟩ s' ⟨hr,rfl,_⟩;simp only at hr;subst hr;exact E9 h
def zT{ks:List K}{b:Addr}{l:List Value}{Q:Bool->Shared->Prop}(hk:IsTupleKey knd s.heap ks b)(hl:∀y∈l,∃b' k',y=.ref b'/\IsTupleKey knd s.heap k' b')(h:Q false s):wpAny (model P w) A (searchCouldBeSeen (.ref b) l) Q E s:=by
 unfold searchCouldBeSeen;refine E8 ?_;refine wpAny_forIn_list _ (λrest r s'=>r.1=none/\s'=s/\∀y∈rest,∃b' k',y=.ref b'/\IsTupleKey knd s.heap k' b') _ ?_ ?_ _ _ ⟨rfl,rfl,hl⟩
 ·rintro v rest r s' ⟨hr,rfl,hall⟩;obtain⟨b',k',rfl,hk'⟩:=hall v Fm;have next:∀y∈rest,∃b' k',y=.ref b'/\IsTupleKey knd s'.heap k' b':=λy hy=>hall y (Fi _ hy)
  dsimp only;split
  ·exact E9 ⟨rfl,rfl,next⟩
  ·refine E8 (wpAny_eqIsQuiet_tuple hk ?_);simp only[Bool.not_true,F1,if_false];refine E8 (wpAny_eqIsQuiet_tuple hk' ?_);simp only[Bool.not_true,F1,if_false];refine E8 (xf hk ?_);simp only[F1,if_false];refine E8 (xf hk' ?_);simp only[F1,if_false];exact E9 ⟨rfl,rfl,next⟩
 ·rintro⟨r1,r2⟩ s' ⟨hr,rfl,_⟩;simp only at hr;subst hr;exact E9 h
def zI{a b:Addr}{k:List K}{h:Int}{o:Obj}{es:Array (Int×Value)}{ep:Nat}{t:SetTable}(hu:A.units<cLine)(hk:IsTupleKey knd s.heap k b)(ho:s.heap.get? a=some o)(hd:o.data=.set es ep t)(hf:t.fits es.size=true)(hm:Tb.Mask t.mask)(hdm:t.dummies = #[])
  (hall:∀e∈es.toList,∃b' k',e.2=.ref b'/\IsTupleKey knd s.heap k' b'/\k'≠k) {Q:SetFound->Shared->Prop} (hQ:∀j,Q (.free j false) s) :
  ∀(K fuel:Nat) (stand:Option SetTable.Probe),K<fuel->K<10*SetTable.turns t.mask->(stand.getD (t.probeStart h)).dummy=none->t.slot (Tb.cO t K (stand.getD (t.probeStart h))).j=.empty →
   wpAny (model P w) A (setSearchFrom a (.ref b) h true fuel stand) Q E s:=by
 intro K;induction K using Nat.strongRecOn with
 | ind K ih=>
  intro fuel stand hfu hK hdu hs;obtain⟨f,rfl⟩:∃f,fuel=f+1:=⟨fuel-1,by omega⟩;unfold setSearchFrom;refine E8 (F6 ho hd hf ?_);dsimp only;have hg:t.gaveWay=false:=by unfold SetTable.gaveWay;rcases hm with e|e|e|e<;>rw[e]<;>rfl
  have hsz:t.place.size=es.size:=by simp only[SetTable.fits,FV,beq_iff_eq]at hf;exact hf.1
  have hsm:t.sameMemory t.moves t.mask=some true:=by unfold SetTable.sameMemory;rw[Ge (beq_self_eq_true _)]
  rw[hg];simp only[F1,if_false];generalize hr:t.probe _ h (stand.getD (t.probeStart h))=r;obtain⟨g,hr⟩:∃g,SetTable.probe.go t g h (10*SetTable.turns t.mask) (stand.getD (t.probeStart h))=r:=⟨_,hr⟩;rcases Tb.B8 hdm g h K _ _ hK hdu hs with⟨j,e⟩|⟨k',j,i,hk',e,hl⟩
  ·rw[e]at hr;subst hr;exact E9 (hQ j)
  ·rw[e]at hr;subst hr;have hpl:=Tb.w9 hl;have hi:i<es.size:=by rw[←hsz];exact(Array.getElem?_eq_some_iff.mp hpl).1
   have hmem:es[i]∈es.toList:=by simp
   obtain⟨b',k2,hy,hk2,hne⟩:=hall _ hmem;have hes:es[i]?=some (es[i].1,.ref b'):=by rw[Array.getElem?_eq_getElem hi,←hy]
   have hst:∀y∈((es.filter λx=>x.1 == h).toList.map λx=>x.2),∃b' k',y=Value.ref b'/\IsTupleKey knd s.heap k' b':=λy hy=>by
    obtain⟨e0,he0,rfl⟩:=List.mem_map.mp hy;have he1:e0∈es.toList:=by have:=Array.mem_toList_iff.mp he0;exact Array.mem_toList_iff.mpr (Array.mem_filter.mp this).1
    obtain⟨b3,k3,h1,h2,_⟩:=hall e0 he1;exact⟨b3,k3,h1,h2⟩
   have again:wpAny (model P w) A (setSearchFrom a (.ref b) h true f (some (Tb.cO t (k'+1) (stand.getD (t.probeStart h))))) Q E s:=by
    refine ih (K-(k'+1)) (by omega) f _ (by omega) (by omega) ?_ ?_
    ·show(Tb.cO t (k'+1) _).dummy=none;rw[Tb.kZ];exact hdu
    ·show t.slot (Tb.cO t (K-(k'+1)) (Tb.cO t (k'+1) _)).j=_;rw[←Tb.pU,show k'+1+(K-(k'+1))=K by omega];exact hs
   have same:isSame (Value.ref b') (Value.ref b')=pure true:=by unfold isSame;simp
   dsimp only;cases hled:t.led
   ·simp only[Bool.not_false,if_true];refine E8 (zT hk hst ?_);simp only[F1,if_false];rw[hes];dsimp only;refine E8 (wpAny_holding (wpAny_eqBool_tuple hu hk2 hk ?_));rw[F9 hne];refine E8 (F6 ho hd hf ?_);dsimp only;simp only[Bool.and_false,F1,if_false,hsm,if_true,hl,hes,same];exact E8 (E9 (E8 (E9 again)))
   ·simp only[Bool.not_true,F1,if_false];rw[hes];dsimp only;refine E8 (wpAny_holding (wpAny_eqBool_tuple hu hk2 hk ?_));rw[F9 hne];refine E8 (F6 ho hd hf ?_);dsimp only;simp only[Bool.and_false,F1,if_false,hsm,if_true,hl,hes,same];exact E8 (E9 (E8 (E9 again)))
def fk(knd:KeyKind P w K)(h:Heap)(a:Addr)(ks:List (List K)):Prop:=
 ∃o es ep t,h.get? a=some o/\o.ExactSet/\o.data=.set es ep t/\t.place.size=es.size/\t.dummies = #[]/\Tb.Mask t.mask/\es.size*5<t.mask*3/\es.size=ks.length/\∀e∈es.toList,∃b k,e.2=.ref b/\k∈ks/\IsTupleKey knd h k b
def mY{h h':Heap}{a b:Addr}{k:List K}{o:Obj}{es:Array (Int×Value)}{ep:Nat}{t:SetTable}(hk:IsTupleKey knd h k b)(ho:h.get? a=some o)(hd:o.data=.set es ep t)(hs:Heap.SameBut a h h'):IsTupleKey knd h' k b:=by
 obtain⟨o',items,n,ho',hc,hd',hi⟩:=hk;have hne:b≠a:=by rintro rfl;rw[ho]at ho';cases ho';rw[hd]at hd';cases hd'
 exact⟨o',items,n,(hs.2 b hne).trans ho',hc,hd',hi⟩
def yL(n:Nat){v:Value}(h:∀b,v≠.ref b):∃c,hashByValue n v=pure c:=by
 cases v with
 | ref b=>exact absurd rfl (h b)
 | _=>exact⟨_,by cases n<;>unfold hashByValue<;>rfl⟩
def Ek{ks:List K}{b:Addr}{Q:Bool->Shared->Prop}(hk:IsTupleKey knd s.heap ks b)(h:∀c,Q c s):wpAny (model P w) A (hashByValue 8 (.ref b)) Q E s:=by
 have hT:=hk.typeIs;obtain⟨o,items,n,ho,hc,hd,hi⟩:=hk;unfold hashByValue;refine E8 (wpAny_specialOf hT F.slot_tuple_hash.lookup ?_);dsimp only;refine E8 (wpAny_seqItems ho hd ?_);dsimp only[Option.getD_some];refine E8 ?_;rw[←Array.forIn_toList];refine wpAny_forIn_list _ (λrest r s'=>(r.1=none\/∃c,r.1=some c)/\s'=s/\∀v∈rest,∀b,v≠.ref b) _ ?_ ?_ _ _ ⟨.inl rfl,rfl,yh hi⟩
 ·rintro v rest r s' ⟨hr,rfl,hall⟩;obtain⟨c,hc'⟩:=yL 7 (hall v Fm);rw[hc'];refine E8 (E9 ?_);cases c
  ·show wpAny _ _ (pure (ForInStep.done (some false,()))) _ _ _;exact E9 (E9 (h false))
  ·simp only[Bool.not_true,F1,if_false];exact E9 ⟨.inl rfl,rfl,λu hu=>hall u (Fi _ hu)⟩
 ·rintro⟨r1,r2⟩ s' ⟨hr,rfl,_⟩;simp only at hr;rcases hr with rfl|⟨c,rfl⟩
  ·exact E9 (h true)
  ·exact E9 (h c)
def zd{α:Type}{es:Array α}{order:Array Nat}(h:order.toList.Perm (F8 es.size)):(order.filterMap (es[·]?)).size=es.size/\∀e∈(order.filterMap (es[·]?)).toList,e∈es.toList:=by
 have key:∀l:List Nat,(∀i∈l,i<es.size)->(l.filterMap (es[·]?)).length=l.length/\∀e∈l.filterMap (es[·]?),e∈es.toList:=by
  intro l;induction l with
  | nil=>intro _;exact⟨rfl,λe he=>by cases he⟩
  | cons x l ih=>
   intro hl;obtain⟨i1,i2⟩:=ih λi hi=>hl i (Fi _ hi);have hx:=hl x Fm;have e:(x::l).filterMap (es[·]?)=es[x]::l.filterMap (es[·]?):=by rw[List.filterMap_cons];simp[hx]
   rw[e];refine⟨by rw[FJ,FJ,i1],λy hy=>?_⟩;rcases Fv.mp hy with rfl|hy
   ·simp
   ·exact i2 y hy
 have hlt:∀i∈order.toList,i<es.size:=λi hi=>List.mem_range.mp (h.mem_iff.mp hi);obtain⟨k1,k2⟩:=key order.toList hlt;rw[Array.toList_filterMap];refine⟨?_,k2⟩;rw[←Fj,Array.toList_filterMap,k1,h.length_eq,List.length_range]
def Cw{a:Addr}{o:Obj}{es es1:Array (Int×Value)}{ep n:Nat}{t t1:SetTable}{ks1:List (List K)}{Q:Bool->Shared->Prop}(ho:s.heap.get? a=some o)(hex:o.ExactSet)(hd:o.data=.set es ep t)(hs1:es1.size=n+1)(hp1:t1.place.size=es1.size)(hdm1:t1.dummies = #[])
  (hm1:Tb.Mask t1.mask) (hfull:n*5<t1.mask*3) (hn:n<200) (hlen:ks1.length=n+1) (hall1:∀e∈es1.toList,∃b k,e.2=.ref b/\k∈ks1/\IsTupleKey knd s.heap k b)
  (h:∀h',Heap.SameBut a s.heap h'->fk knd h' a ks1->Q true { s with heap:=h' }) :
  wpAny (model P w) A (do
   storeSet a es1 t1
   if(!false && t1.tooFull)=true then do
    setRelay a (SetTable.grown (n+1))
    pure true
   else pure true) Q E s:=by
 have hline:n+1<=sizeLine:=FP (show n+1<=1000 by omega) (by decide);refine E8 (wpAny_storeSet_of ho hd ?_ (by omega));have ho1:(s.heap.update a (Obj.putSet es1 t1)).get? a=some { o with data:=.set es1 (ep+1) t1 }:=by have:=Heap.get?_update_self (Obj.putSet es1 t1) ho (by rw[putSet_of es1 t1 hd];rfl);rw[putSet_of es1 t1 hd]at this;exact this
 have hsb1:=Heap.SameBut.update s.heap a (Obj.putSet es1 t1);generalize s.heap.update a (Obj.putSet es1 t1)=h1 at ho1 hsb1;have hall2:∀e∈es1.toList,∃b k,e.2=.ref b/\k∈ks1/\IsTupleKey knd h1 k b:=λe he=>by obtain⟨b,k,z1,z2,z3⟩:=hall1 e he;exact⟨b,k,z1,z2,mY z3 ho hd hsb1⟩
 have hfill:t1.fill=n+1:=by unfold SetTable.fill;rw[hdm1,hp1,hs1];rfl
 by_cases hq:t1.tooFull=true
 ·rw[hq];simp only[Bool.not_false,Bool.and_self,if_true];have hq':t1.mask*3<=(n+1)*5:=by unfold SetTable.tooFull at hq;rw[hfill]at hq;simpa using hq
  obtain⟨m,hm,hw,hmn,hlt⟩:∃m,Tb.Mask m/\SetTable.sizeAbove (SetTable.grown (n+1))-1=m/\n+1<=m/\(n+1)*5<m*3/\SetTable.sizeAbove (SetTable.grown (n+1))<=sizeLine:=by
   have hg:SetTable.grown (n+1)=(n+1)*4:=by unfold SetTable.grown;rw[Gb (by omega)]
   rw[hg];rcases hm1 with e|e|e|e<;>rw[e]at hfull hq'
   ·obtain rfl:n=4:=by omega
    exact⟨31,.inr (.inl rfl),Tb.yt,by omega,by omega,by decide +kernel⟩
   ·obtain rfl:n=18:=by omega
    exact⟨127,.inr (.inr (.inl rfl)),Tb.A3,by omega,by omega,by decide +kernel⟩
   ·obtain rfl:n=76:=by omega
    exact⟨511,.inr (.inr (.inr rfl)),Tb.Ai,by omega,by omega,by decide +kernel⟩
   ·omega
  have hfit1:t1.fits es1.size=true:=by simp only[SetTable.fits,FV,beq_iff_eq,decide_eq_true_eq];refine⟨hp1,?_⟩;rw[hfill];rcases hm1 with e|e|e|e<;>omega
  obtain⟨t2,order,hrel,hp2,hd2,hm2,hperm⟩:=Tb.zu t1 (hashes:=es1.map (·.1)) hm hw (by rw[Array.size_map];omega);rw[Array.size_map]at hp2 hperm;obtain⟨r1,r2⟩:=zd hperm;refine E8 ?_;unfold setRelay;refine E8 (F6 (s:={ s with heap:=h1 }) ho1 rfl hfit1 ?_);dsimp only;rw[Gb (Nat.not_lt.mpr hlt.2),hrel];refine E8 ?_;show wpAny _ _ (do
   if(order.filterMap (es1[·]?)).size != es1.size then unsupported "internal:set-table-lost-an-element"
   pure (order.filterMap (es1[·]?),t2)) _ _ _
  rw[r1];simp only[bne_self_eq_false,F1,if_false];refine E9 ?_;dsimp only;refine wpAny_storeSet_of (s:={ s with heap:=h1 }) ho1 rfl ?_ (by rw[r1];omega);have ho2:(h1.update a (Obj.putSet (order.filterMap (es1[·]?)) t2)).get? a=some { o with data:=.set (order.filterMap (es1[·]?)) (ep+1+1) t2 }:=by have:=Heap.get?_update_self (Obj.putSet (order.filterMap (es1[·]?)) t2) ho1 (by rw[putSet_of _ _ (o:={ o with data:=.set es1 (ep+1) t1 }) rfl];rfl);rw[putSet_of _ _ (o:={ o with data:=.set es1 (ep+1) t1 }) rfl]at this;exact this
  have hsb2:=Heap.SameBut.update h1 a (Obj.putSet (order.filterMap (es1[·]?)) t2);refine E9 (h _ (hsb1.trans hsb2) ⟨_,_,_,t2,ho2,hex,rfl,by rw[r1];exact hp2,hd2,by rw[hm2];exact hm,by rw[r1,hm2,hs1];exact hlt.1,by rw[r1,hs1,hlen],λe he=>?_⟩);obtain⟨b,k,z1,z2,z3⟩:=hall2 e (r2 e he);exact⟨b,k,z1,z2,mY z3 ho1 rfl hsb2⟩
 ·have hq0:t1.tooFull=false:=by simpa using hq
  rw[hq0];simp only[Bool.and_false,F1,if_false];have hq':(n+1)*5<t1.mask*3:=by unfold SetTable.tooFull at hq0;rw[hfill]at hq0;simpa using hq0
  exact E9 (h h1 hsb1 ⟨_,es1,_,t1,ho1,hex,rfl,hp1,hdm1,hm1,by rw[hs1];exact hq',by rw[hs1,hlen],hall2⟩)
def Bp{a b:Addr}{k:List K}{ks:List (List K)}{hsh:Int}{Q:Bool->Shared->Prop}(hu:A.units<cLine)(hk:IsTupleKey knd s.heap k b)(hS:fk knd s.heap a ks)(hnew:k∉ks)(hsz:ks.length<200)
  (h:∀h',Heap.SameBut a s.heap h'->fk knd h' a (k::ks)->Q true { s with heap:=h' }):wpAny (model P w) A (setAddHashed a (.ref b) hsh) Q E s:=by
 obtain⟨o,es,ep,t,ho,hex,hd,hp,hdm,hm,hfull,hlen,hall⟩:=hS;have hle:es.size<=t.mask:=by omega
 have hf:t.fits es.size=true:=by simp only[SetTable.fits,FV,beq_iff_eq,decide_eq_true_eq];refine⟨hp,?_⟩;unfold SetTable.fill;rw[hdm,hp];simpa using hle
 obtain⟨j0,hj0,hs0⟩:=Tb.DF hdm (by rw[hp];exact hle);obtain⟨N,hN,eN⟩:=Tb.yU hm hj0 hsh;have hall':∀e∈es.toList,∃b' k',e.2=.ref b'/\IsTupleKey knd s.heap k' b'/\k'≠k:=λe he=>by obtain⟨b',k',h1,h2,h3⟩:=hall e he;exact⟨b',k',h1,h3,λz=>hnew (z ▸ h2)⟩
 unfold setAddHashed setAddHashedIn;refine wpAny_holding (E8 (F6 ho hd hf ?_));dsimp only;have hsc:byScan (.ref b) es=false:=rfl;rw[hsc];simp only[F1,if_false];unfold setSearch;have hturn:10*SetTable.turns t.mask<100000:=by unfold SetTable.turns;rcases hm with e|e|e|e<;>rw[e]<;>decide
 refine E8 (zI hu hk ho hd hf hm hdm hall' (λj=>?_) N 100000 none (by omega) hN rfl (by show t.slot (Tb.cO t N (t.probeStart hsh)).j=_;rw[eN];exact hs0));dsimp only;refine E8 (F6 ho hd hf ?_);dsimp only;have hput:(t.put j).1.place.size=es.size+1/\(t.put j).1.dummies = #[]/\(t.put j).1.mask=t.mask:=by
  refine⟨?_,?_,rfl⟩
  ·show(SetTable.insertAt t.place (SetTable.below t.place j) j).size=_;rw[Tb.mF,hp]
  ·show(if SetTable.has t.dummies j=true then _ else t.dummies) = #[];rw[hdm,Tb.wq];rfl
 have hins:∀e∈(SetTable.insertAt es (t.put j).2 (hsh,Value.ref b)).toList,∃b' k',e.2=.ref b'/\k'∈k::ks/\IsTupleKey knd s.heap k' b':=λe he=>by
  rcases Tb.AA he with rfl|he
  ·exact⟨b,k,rfl,Fm,hk⟩
  ·obtain⟨b',k',z1,z2,z3⟩:=hall e he;exact⟨b',k',z1,Fi _ z2,z3⟩
 have fin:∀c:Bool,wpAny (model P w) A (do
   storeSet a (SetTable.insertAt es (t.put j).2 (hsh,Value.ref b)) (if c=true then(t.put j).1 else{ (t.put j).1 with plain:=false })
   if(!false && (if c=true then(t.put j).1 else{ (t.put j).1 with plain:=false }).tooFull)=true then do
    setRelay a (SetTable.grown (es.size+1))
    pure true
   else pure true) Q E s:=λc=>by
  refine Cw (ks1:=k::ks) ho hex hd (Tb.mF _ _ _) ?_ ?_ ?_ ?_ (by omega) (by rw[FJ,hlen]) hins h
  ·rw[Tb.mF];cases c<;>exact hput.1
  ·cases c<;>exact hput.2.1
  ·cases c<;>exact hm
  ·cases c<;>exact hfull
 cases hpl:(t.put j).1.plain
 ·simp only[F1,if_false];exact E8 (E9 (fin true))
 ·simp only[if_true];exact E8 (Ek hk fin)
end
section
variable {P:Program} {w:World} {A:Around} {K:Type} [DecidableEq K] {knd:KeyKind P w K} {I:Addr} {fp wr:List Addr} {G:Array GenState->Array GenState->Prop} {n:Nat} {Pz:Nat->Value->Prop} {St:Nat->Shared->Prop}
def fk.moved{h h':Heap}{a:Addr}{ks:List (List K)}{wr:List Addr}(hS:fk knd h a ks)(hk:∀b o,b∉wr->h.get? b=some o->h'.get? b=some o)(ha:a∉wr)(hw:∀b∈wr,∀o,h.get? b=some o->∃vs,o.data=.fields vs):fk knd h' a ks:=by obtain⟨o,es,ep,t,ho,hex,hd,h1,h2,h3,h4,h5,hall⟩:=hS;refine⟨o,es,ep,t,hk a o ha ho,hex,hd,h1,h2,h3,h4,h5,λe he=>?_⟩;obtain⟨b,k,z1,z2,o',items,m,ho',hc,hd',hi⟩:=hall e he;refine⟨b,k,z1,z2,o',items,m,hk b o' (λhb=>?_) ho',hc,hd',hi⟩;obtain⟨vs,hv⟩:=hw b hb o' ho';rw[hd']at hv;cases hv
def yK(W:WalksS P w A.in1 I fp wr G n Pz St)(S:Addr)(hS:S∉fp)(hu:A.in1.units<cLine)(bs:List Addr)(kk:List (List K))(hnk:kk.length=n)(hnd:kk.Nodup)(hsz:n<200)
  (hval:∀i v,Pz i v->∃b,v=.ref b/\bs[i]?=some b) (hwr:∀i s,St i s->∀b∈wr,∀o,s.heap.get? b=some o->∃vs,o.data=.fields vs) {R:Result->Shared->Prop} :
  ∀(m i:Nat) (s:Shared),n-i=m->i<=n->St i s->fk knd s.heap S (kk.take i).reverse->(∀(j:Nat) (b:Addr) (k:List K),bs[j]?=some b->kk[j]?=some k->IsTupleKey knd s.heap k b) →
   (∀s',Moved (S::wr) G s s'->fk knd s'.heap S kk.reverse->R (.ok (.ret .none)) s') →
   codeAny (model P w) A (.builtin "set.update.loop" ⟨[.ref S,.ref I],[]⟩) R s:=by
 have hSw:S∉wr:=λz=>hS (W.sub _ z);have more:∀b∈wr,b∈S::wr:=λb z=>Fi _ z;intro m;induction m with
 | zero=>
  intro i s hm hi hst hset hkeys hR;obtain rfl:i=n:=by omega
  refine codeAny_builtin F.entry_set_update_loop ?_;rw[Around.under_plainId F.plain_set_update_loop _];show wpAny _ A.in1 (pyNext (.ref I) >>= _) _ _ s;refine E8 (W.done s _ _ hst λs' mv=>?_);rw[←hnk,FK]at hset;exact E9 (hR s' (mv.mono more) (hset.moved mv.heap hSw (hwr _ s hst)))
 | succ m ih=>
  intro i s hm hi hst hset hkeys hR;have hlt:i<n:=by omega
  refine codeAny_builtin F.entry_set_update_loop ?_;rw[Around.under_plainId F.plain_set_update_loop _];show wpAny _ A.in1 (pyNext (.ref I) >>= _) _ _ s;refine E8 (W.item i s _ _ hlt hst λv s' hP hst' mv=>?_);obtain⟨b,rfl,hb⟩:=hval i v hP;have hki:kk[i]?=some kk[i]:=Fg (by omega);have hset':=hset.moved mv.heap hSw (hwr _ s hst);have hkeys':∀(j:Nat) (b:Addr) (k:List K),bs[j]?=some b->kk[j]?=some k->IsTupleKey knd s'.heap k b:=λj b k e1 e2=>by obtain⟨o',items,q,ho',hc,hd',hi'⟩:=hkeys j b k e1 e2;refine⟨o',items,q,mv.heap b o' (λhbw=>?_) ho',hc,hd',hi'⟩;obtain⟨vs,hv⟩:=hwr _ s hst b hbw o' ho';rw[hd']at hv;cases hv
  show wpAny _ A.in1 (holding [Value.ref b] (setAdd S (.ref b)) >>= _) _ _ s';refine E8 (wpAny_holding ?_);unfold setAdd;refine wpAny_holding (E8 (wpAny_pyHash_tuple hu (hkeys' i b _ hb hki) ?_));have hnew:kk[i]∉(kk.take i).reverse:=by rw[List.mem_reverse];intro z;obtain⟨q,hq,e⟩:=List.mem_iff_getElem.mp z;rw[F5]at hq;rw[List.getElem_take]at e;have:=(List.getElem_inj hnd).mp e;omega
  have htk:(kk.take (i+1)).reverse=kk[i]::(kk.take i).reverse:=by rw[List.take_add_one,hki,List.reverse_append];rfl
  refine Bp (s:={ s' with toks:=s'.toks+(kk[i].length+1) }) hu (hkeys' i b _ hb hki) hset' hnew (by rw[List.length_reverse,F5];omega) λh' sb hset2=>?_;obtain⟨oS,esS,epS,tS,hoS,_,hdS,_⟩:=id hset';refine E9 ⟨plainId_quiet F.plain_set_update_loop _,ih (i+1) _ (by omega) hlt (W.frame _ s' _ _ hst' (Nat.le_add_right _ _) λc hc o e=>?_) (by rw[htk];exact hset2) (λj c k e1 e2=>mY (hkeys' j c k e1 e2) hoS hdS sb) λs'' mv2 hS2=>?_⟩
  ·rw[sb.2 c (λz:c=S=>hS (z ▸ hc))];exact e
  ·refine hR s'' (Moved.trans W.gtrans ((mv.mono more).then_heap (Nat.le_add_right _ _) λc o hc e=>?_) mv2) hS2;rw[sb.2 c (λz:c=S=>hc (by rw[z];exact Fm))];exact e
end
end L2.Og
namespace L2.Og
open PySem PySem.Spec PyProof.Rows
section
variable {P:Program} {w:World} {A:Around} {E:Value->Shared->Prop} {s:Shared} {K:Type} [DecidableEq K] {knd:KeyKind P w K}
abbrev fM(led:Bool):Obj:={ cls:=.type "set",dict:=none,data:=.set #[] 0 (.fresh 0 0 led) }
def sM(knd:KeyKind P w K)(s:Shared)(kk:List (List K))(h':Heap):Prop:=
 fk knd h' s.heap.objs.size kk.reverse/\∀b o,b<s.heap.objs.size->s.heap.get? b=some o->h'.get? b=some o
def Bx:isSubtype (.type "tuple") (.type "frozenset")=pure false:=by
 rw[isSubtype_type]
 kernel_rfl
def Cy{t:Addr}{ys:Array Value}{bs:List Addr}{kk:List (List K)}{Q:Value->Shared->Prop}(hA:A.handled=none)(hu:A.units+5<cLine)(gt:s.heap.IsTuple t ys)(hb:ys.toList=bs.map Value.ref)
  (hn:kk.length=ys.size) (hnd:kk.Nodup) (hz:ys.size<200) (hkey:∀(j:Nat) (b:Addr) (k:List K),bs[j]?=some b->kk[j]?=some k->IsTupleKey knd s.heap k b)
  (h:∀(h':Heap) (tk:Nat),sM knd s kk h'->Q (.ref s.heap.objs.size) { s with heap:=h',toks:=tk }):wpAny (model P w) A (call (.type "set") [.ref t]) Q E s:=by
 have x1:=F.called_set.notType;have x2:=F.called_set.canCreate;have x3:=F.typeCall_set_1 (.ref t);have x4:=F.called_set.made;have x5:=F.called_set.sub;obtain⟨c,tl,x6⟩:=F.called_set.mro;refine wpAny_call (codeAny_of_tree ?_);show wpAny _ _ (callAny (.type "set") _) _ _ _;refine E9 ⟨Code.quiet_builtin _ (by decide +kernel),codeAny_builtin F.entry_type_call ?_⟩;rw[Around.under_plain (weight_type_call_type "set" [.ref t] []) rfl]
 repeat (any_goals (first|assumption|wp_step))
 refine codeAny_mono (code_set_new_1 (.ref t) (E:=E) (Q₁:=λv s1=>∃led,v=.ref s.heap.objs.size/\s1={ s with heap:=s.heap.push (fM led) }) λled=>⟨led,rfl,rfl⟩) λr s1 hr=>?_;cases r with
 | error e=>exact hr
 | ok fl=>
  cases fl with
  | ret v=>
   obtain⟨led,rfl,rfl⟩:=hr;have gS:(s.heap.push (fM led)).get? s.heap.objs.size=some (fM led):=Fd _ rfl;have hT:Shared.TypeIs { s with heap:=s.heap.push (fM led) } (.ref s.heap.objs.size) "set":=⟨_,gS,rfl⟩;have x7:=F.called_set.init.lookup;have x8:=F.called_set.init.bind (.ref s.heap.objs.size)
   repeat (any_goals (first|assumption|wp_step))
   refine codeAny_mono (codeAny_call_builtin (R:=wants (λr s2=>r=.none/\∃h' tk,s2={ s with heap:=h',toks:=tk }/\sM knd s kk h') E) F.called_set.init.plain F.entry_set_init (check_set_init_1 hT ?_)) λr2 s2 hr2=>?_
   ·have g1:(s.heap.push (fM led)).IsTuple t ys:=gt.push _;have hlt:t<s.heap.objs.size:=by obtain⟨o,ho,_⟩:=gt;exact Fe ho
    obtain⟨ol,hol,hcl,nl,hdl⟩:=id g1;obtain⟨c0,d0,dt,sl⟩:=ol;simp only at hcl hdl;subst hcl hdl;have y1:=F.sub_tuple_set;have y2:=Bx;have y3:(Value.type "tuple" == Value.type "dict")=false:=by decide
    unfold Builtin.«set.__init__» noKeywords Builtin.Frozenset.updateFrom;generalize hit:pyIter=PI
    wp_walk
    subst hit;refine wpAny_pyIter_tuple g1 ?_;refine E8 (wpAny_runValue ?_);have e1:(s.heap.push (fM led)).objs.size=s.heap.objs.size+1:=Heap.size_push _ _;have hA3:A.in1.in1.in1.handled=none:=by simp[hA]
    have hne:t≠(s.heap.push (fM led)).objs.size:=by rw[e1];exact Fz (Nat.lt_succ_of_lt hlt)
    have hSf:s.heap.objs.size∉[(s.heap.push (fM led)).objs.size,t]:=by
     intro z;rcases Fv.mp z with z|z
     ·rw[e1]at z;exact Fz (Nat.lt_succ_self _) z
     ·exact Nat.ne_of_gt hlt (Fq.mp z)
    have hbs:∀i:Nat,ys[i]?=(bs[i]?).map Value.ref:=λi=>by rw[←Array.getElem?_toList,hb,Fh]
    refine yK (knd:=knd) ((Walks.tuple hA3 _ t hne ys).toS) s.heap.objs.size hSf (by simp only[Around.in1_units];omega) bs kk hn hnd hz (λi v hv=>?_) (λi s' hs b hb' o ho=>?_) (ys.size-0) 0 _ (by omega) (Nat.zero_le _) ⟨⟨_,Fd _ rfl,rfl,rfl⟩,g1.push _⟩ ⟨fM led,#[],0,_,Fc _ gS,⟨rfl,rfl,rfl⟩,rfl,rfl,rfl,  .inl rfl,(show 0*5<7*3 by decide),rfl,λe he=>by simp at he⟩ (λj b k e1 e2=>?_) λs' mv hS'=>?_
    ·have hv':ys[i]?=some v:=hv;rw[hbs i]at hv';obtain⟨b,e,rfl⟩:=Fs.mp hv';exact⟨b,rfl,e⟩
    ·cases Fq.mp hb';obtain⟨o',ho',_,hd'⟩:=hs.1;rw[ho']at ho;cases ho;exact⟨_,hd'⟩
    ·obtain⟨o,items,q,ho,r⟩:=hkey j b k e1 e2;exact⟨o,items,q,Fc _ (Fc _ ho),r⟩
    ·obtain⟨h',g',d',tk',os'⟩:=s';have q1:g'=s.gens:=mv.gens;have q2:d'=s.drawn:=mv.drawn;have q3:os'=s.os:=mv.os;subst q1 q2 q3;show wpAny _ _ _ _ _ _;refine E9 ?_;show wpAny _ _ (ret Value.none) _ _ _;refine E9 ⟨rfl,h',tk',rfl,hS',λb o hb e=>mv.heap b o (λz=>?_) (Fc _ (Fc _ e))⟩;rcases Fv.mp z with z|z
     ·exact Fz hb z
     ·have z:=Fq.mp z;rw[e1]at z;exact Fz (Nat.lt_succ_of_lt hb) z
   ·cases r2 with
    | error e=>exact hr2
    | ok f2=>
     cases f2 with
     | ret r=>
      obtain⟨rfl,h',tk,rfl,hS'⟩:=hr2
      repeat (any_goals (first|assumption|wp_step))
      exact h _ _ hS'
     | _=>exact hr2.elim
  | _=>exact hr.elim
end
end L2.Og
namespace L2.Og
open PySem PySem.Spec PyProof.Rows
def ir(a:Addr)(n:Nat):HO:=.ext λh=>∃o es ep t,h.get? a=some o/\o.ExactSet/\o.data=.set es ep t/\t.fits es.size=true/\es.size=n
def BY{P:Program}{w:World}{H:Hp}{h:Heap}{a:Addr}{ks:List (List Key)}(S:fk (cG P w) h a ks):bC P w H h a (ir a ks.length):=by
 obtain⟨o,es,ep,t,ho,hex,hd,hp,hdm,hm,hfull,hlen,_⟩:=S;refine⟨⟨o,es,ep,t,ho,hex,hd,?_,hlen⟩,⟨o,ho⟩,λh1 h2 z k=>?_⟩
 ·simp only[SetTable.fits,FV,beq_iff_eq,decide_eq_true_eq];refine⟨hp,?_⟩;unfold SetTable.fill;rw[hdm,hp];have:es.size<=t.mask:=by omega
  simpa using this
 ·obtain⟨o',es',ep',t',ho',r⟩:=z;exact⟨o',es',ep',t',k _ ho',r⟩
def bU(H:Hp)(p:Addr)(kk:List (List Key)):Prop:=∃bs:List Addr,H p=some (.tup (bs.map V.ref))/\bs.length=kk.length/\∀(j:Nat) (b:Addr) (k:List Key),bs[j]?=some b->kk[j]?=some k->H b=some (.tup (k.map kV))
def xQ:∀{bs:List Addr} {us:List Value},Vals (bs.map V.ref) us->us=bs.map Value.ref
 | [],_,.nil=>rfl
 | b::bs,_,.cons r t=>by rw[List.map_cons,←xQ (bs:=bs) t];exact congrArg (· :: _) r
section
variable {X:Cx}
def ug:List V->Hp->VK->Prop:=λxs H Q=>∃p kk,xs=[.ref p]/\bU H p kk/\kk.Nodup/\kk.length<200/\∀l,H l=none->Q (.ref l) (upd H l (ir l kk.length))
def call_setT{k:Nat}(hr:Room k X.A):ck X (.type "set") ug:=by
 intro pins s σ H xs us Q I r h;obtain⟨p,kk,rfl,⟨bs,h1,h2,h3⟩,hnd,hz,q⟩:=h;obtain⟨u,rfl,rx⟩:=vals1 r;cases rx;obtain⟨_,its,rv,gt⟩:=I.hok p _ h1;have ei:=xQ rv;subst ei;have hu:=hr.units;have hA:=hr.hd;refine Cy (knd:=cG X.prog X.w) (kk:=kk) (bs:=bs) hA (by omega) (show s.heap.IsTuple p _ from gt) rfl (by simp[h2]) hnd (by simp[h2];exact hz) (λj b k e1 e2=>?_) λh' tk hm=>?_
 ·obtain⟨_,is,rk,o,ho,hc,n,hd⟩:=I.hok b _ (h3 j b k e1 e2);exact⟨o,_,n,ho,hc,hd,pO rk⟩
 ·have hok:=BY (H:=upd H s.heap.objs.size (ir s.heap.objs.size kk.length)) hm.1;rw[List.length_reverse]at hok;exact⟨.ref s.heap.objs.size,_,I.laid (t':=tk) (λb o e=>hm.2 b o (Fe e) e) (FA _) hok,rfl,q _ (I.hok.fresh (FA _))⟩
def vy:List V->Hp->VK->Prop:=λxs H Q=>∃p n,xs=[.ref p]/\H p=some (ir p n)/\n<200/\Q (.int n) H
def call_lenSet:ck X (.builtin "len") vy:=by intro pins s σ H xs us Q I r h;obtain⟨p,n,rfl,hp,hn,q⟩:=h;obtain⟨u,rfl,rx⟩:=vals1 r;cases rx;obtain⟨⟨o,es,ep,t,ho,hex,hd,hf,hs⟩,_⟩:=I.hok p _ hp;refine call_len_set ho hex hd hf (by omega) ⟨.int n,H,I.tok _,⟨s.toks+1,by rw[hs]⟩,q⟩
def rd_setOf{H:Hp}{Q:VK}{p:Addr}{kk:List (List Key)}(h:bU H p kk)(hnd:kk.Nodup)(hz:kk.length<200)(q:∀l H',Ext H H'->H' l=some (ir l kk.length)->Q (.ref l) H'):ug [.ref p] H Q:=
 ⟨p,kk,rfl,h,hnd,hz,λl hl=>q l _ (bq hl) aL⟩
def rd_lenSet{H:Hp}{Q:VK}{p:Addr}{n:Nat}(h:H p=some (ir p n))(hn:n<200)(q:Q (.int n) H):vy [.ref p] H Q:=⟨p,n,rfl,h,hn,q⟩
end
end L2.Og
namespace L2.Ti
open PySem PySem.Spec PyProof.Rows
section
variable {P:Program} {w:World} {A:Around} {E:Value->Shared->Prop} {s:Shared}
end
section
variable {X:Cx}
end
end L2.Ti
namespace L2
open PySem PySem.Spec PyProof.Rows
section
variable {X:Cx} {pins:List (Addr×Obj)} {σ:St} {H:Hp} {s:Shared}
def fV{i:Nat}{y:Str}{py:Pos}{elt tg iter:Expr}{ifs:List Expr}{sc:Scope}{pos spos:Pos}(own:List Str)(js:List Nat){wi:TI}{g:TG}{tc:TT}{te:TE}(hN:X.N.Nodup)(hi':X.N[i]?=some y)(hx:Loc X.env.scope y)
  (hi:PI X tg iter wi) (hg:∀z,PG (cI X sc own js z) tg g) (ht:∀z,jy (cI X sc own js z) ifs tc)
  (he:∀z,PE (cI X sc own js z) elt te) (hsw:swapsWith (.ListComp elt [⟨tg,iter,ifs,0⟩] sc pos) (some (.Name y py)) spos.line X.env=pure true:=by rfl) (hc:X.calm=true:=by rfl) (hk:sc.kind=.function:=by rfl) (hb:eh sc X.env.scope=true:=by rfl) (hj:jS sc X.N js=true:=by rfl)
  (hs:∀x,foldedSetIterable iter X.env x=pure x:=by intro _;rfl) (hf:X.fn y=true\/X.env.scope.names.lookup y=some .local:=by first|exact .inl rfl|exact .inr rfl|assumption) :
  PS X (.Assign [.Name y py] (.ListComp elt [⟨tg,iter,ifs,0⟩] sc pos) spos) (jI (nA own.length js wi g tc te) (iV i)):=by
 intro pins s σ H D' I h;rw[exec_Assign_Name_used _ _ _ _ hsw];refine E8 (wpAny_standAt (E8 ?_));show wpAny _ X.A (do let _ ←comprehension (.ListComp elt [⟨tg,iter,ifs,0⟩] sc pos) sc X.env _ (newList []) false (eval iter X.env) (some (assign (.Name y py) X.env))) _ _ s;refine E8 (wpAny_mono (wpAny_comprehension_free (use:=some (assign (.Name y py) X.env)) (Q:=λ_ s'=>SP X pins D' .next s') rfl hs (oq λp hp hf=>I.ok.has p.1 (kD hb hp hf)) hk (λp hp hl=>xD hb hp hl)
  (aD (hi pins s σ H _ I h) λv s1 h1=>aD h1 λitv s2 h2=>?_)) (λ_ s' hq=>E9 (E9 hq)) λ_ _ e=>e)
 obtain⟨it,fp,tn,J,H2,e,I2,T,st2,f2,W,w0,turn⟩:=h2;subst e;refine qY (Q:=λx H1=>iV i x σ H1 D'.nx) (RR:=λacc C=>compPost (model X.prog X.w) X.A X.xe (some (assign (.Name y py) X.env)) (λ_ s'=>SP X pins D' .next s') acc C) hk hb hj (λ_=>hg _) (λ_=>ht _) (λ_=>he _) I2 (λC=>Turn.at_ (Y:=cI X sc own js ⟨_,_,_,C⟩) T hc) st2 f2 w0 turn ?_;intro D C s' ys H' nD I' hC ⟨m,hm⟩ hCs q;show wpAny _ X.A (assign (.Name y py) X.env (.ref D)) _ _ _;refine wpAny_assign_Name (rN I' hN hi' hx (v:=.ref D) rfl (λs'' I'' ⟨a,hsb,ha⟩=>?_) hf);obtain⟨f0,f1,f2,f3,f4,f5⟩:=hC;have hac:a≠C:=by
  rcases ha with rfl|ha
  ·exact Ne.symm f1
  ·exact f4 y a ha
 refine⟨m,hm.sameBut hsb (Ne.symm hac),λh' hs'=>?_⟩;exact⟨_,_,I''.turned (t':=s''.toks) (it:=C) (λb o hb' e=>(hs'.2 b hb').trans e) f0 f1 f3 f4 f5,q⟩
end
section
variable {X:Cx}
def AK{prog:Program}{w:World}{A:Around}{E:Value->Shared->Prop}{s:Shared}{l:Addr}{xs:Array (Int×Tok)}{Q:Value->Shared->Prop}(hh:A.handled=none)(hl:s.heap.IsTuple l (intItems xs))(hne:0<xs.size)
  (h:∀(v:Value) (h':Heap) (tk:Nat),(intItems xs)[argBest (λi j=>decide (numAt xs i>numAt xs j)) (xs.size-1)]?=some v->(∀(b:Addr) (o:Obj),s.heap.get? b=some o->h'.get? b=some o)->Q v { s with heap:=h',toks:=tk }) :
  wpAny (model prog w) A (call (Value.builtin "max") [Value.ref l]) Q E s:=by
 have hlt:l<s.heap.objs.size:=by obtain⟨o,e,_⟩:=hl;exact Fe e
 have hs:(intItems xs).size=xs.size:=Array.size_map;refine call_max_walk (iter_tuple hl ⟨s.heap.objs.size,[s.heap.objs.size,l],[s.heap.objs.size],(intItems xs).size,λi v=>(intItems xs)[i]?=some v,λi h=>h.IsTupleIter s.heap.objs.size l i/\h.IsTuple l (intItems xs),_,rfl,Walks.tuple (A:=A.in1) hh _ l (Fz hlt) _,?_,?_,by omega,CmpOf.ints_gt (numAt xs) λ_ _=>intItems_at,λv h' tk hP hk=>?_⟩)
 ·refine⟨⟨_,Fd s.heap rfl,rfl,rfl⟩,?_⟩;obtain⟨o,e,c,d⟩:=hl;exact⟨o,Fc _ e,c,d⟩
 ·intro b hb;show b<_;rw[Heap.size_push];rcases Fv.mp hb with rfl|hb
  ·exact Nat.lt_succ_self _
  ·cases Fq.mp hb;exact Nat.lt_succ_of_lt hlt
 ·rw[hs]at hP;refine h v h' tk hP λb o hb=>hk b o (λz=>?_) ?_
  ·cases Fq.mp z;exact absurd (Fe hb) (Nat.lt_irrefl _)
  ·exact Fc _ hb
def sN(K:Fb):List V->Hp->VK->Prop:=λxs H Q=>∃(p:Addr) (ns:List Int),xs=[.ref p]/\ah K H p (ns.map V.int)/\0<ns.length/\∀M,M∈ns->(∀a,a∈ns->a<=M)->Q (.int M) H
def Dc(K:Fb)(hc:X.calm=true)(hK:X.K=K:=by rfl):ck X (.builtin "max") (sN K):=by
 subst hK;intro pins s σ H xs us Q I r h;obtain⟨p,ns,rfl,hq,hl,q⟩:=h;obtain⟨u,rfl,rx⟩:=vals1 r;cases rx;obtain⟨its,r',pl,hz⟩:=I.tuple hq;have i1:IntsAre its ns:=intsAre_of r';obtain⟨its0,e0⟩:=i1.allInts.items;have en:ns=its0.toList.map (·.1):=(i1.numsOf.symm.trans (by rw[←e0])).trans (nums_intItems its0);have el:its0.toList.length=its0.size:=Fj;have ln:ns.length=its0.size:=by rw[en,Ff,el]
 have hL:s.heap.IsTuple p (intItems its0):=e0 ▸ pl;refine AK (I.ok.hd hc) hL (by omega) λbest h' tk hbest kept=>?_;obtain⟨tok,hv⟩:=intItems_at hbest;subst hv;have am:=argBest_gt (numAt its0) (its0.size-1);refine⟨.int _,H,I.kept kept,⟨tok,rfl⟩,q _ ?_ λz hz=>?_⟩
 ·rw[en];have:=am.1;rw[numAt_eq];exact getD_mem (by rw[Ff,el];omega)
 ·rw[en]at hz;obtain⟨k,hk,ez⟩:=mem_getD hz;subst ez;have hk2:k<its0.size:=by rw[Ff,el]at hk;exact hk
  have:=am.2 k (by omega);rw[numAt_eq]at this;exact this
def As{K:Fb}{H:Hp}{Q:VK}{p:Addr}{ns:List Int}(e:ah K H p (ns.map V.int))(hl:0<ns.length)(h:∀M,M∈ns->(∀a,a∈ns->a<=M)->Q (.int M) H):sN K [.ref p] H Q:=⟨p,ns,rfl,e,hl,h⟩
end
end L2
namespace St
def fL(lo hi:Int)(xs:List Int):Prop:=xs.Pairwise (· < ·)/\∀x∈xs,lo<=x/\x<hi
structure Ok(b s:Int)(o a:List Int):Prop where
 hb:0<=b
 hs:1<=s
 ho:fL 0 b o
 ha:fL b (b+s) a
def mem(b s:Int)(o a:List Int)(x:Int):Bool:=if x<b then o.contains x else a.contains (b+(x-b) % s)
section
variable {b s:Int} {o a:List Int}
def lO(x:Int)(h:x<b):mem b s o a x=o.contains x:=Ge h
def nH(x:Int)(h:b<=x):mem b s o a x=a.contains (b+(x-b) % s):=Gb (by omega)
end
end St
namespace St
def bD(f:Nat->Bool)(b d:Nat):Prop:=∀x,b<=x->f (x+d)=f x
def bD.mul{f:Nat->Bool}{b d:Nat}(h:bD f b d):∀k x,b<=x->f (x+k*d)=f x
 | 0,x,hx=>by simp
 | k+1,x,hx=>by rw[Nat.succ_mul,←Nat.add_assoc,h _ (by omega),h.mul k x hx]
def bD.times{f:Nat->Bool}{b d:Nat}(h:bD f b d)(k:Nat):bD f b (k*d):=λx hx=>h.mul k x hx
def bD.down{f:Nat->Bool}{b s b' d:Nat}(h:bD f b s)(hs:1<=s)(h':bD f b' d):bD f b d:=λx hx=>by have e1:=h.mul b' (x+d) (by omega);have e2:=h.mul b' x hx;rw[←e1,←e2,show x+d+b'*s=(x+b'*s)+d by omega];exact h' _ (by have:b'*1<=b'*s:=Nat.mul_le_mul_left _ hs;omega)
def bD.mod{f:Nat->Bool}{b s d:Nat}(h:bD f b s)(h':bD f b d):bD f b (s % d):=λx hx=>by have e:=(h'.times (s / d)) (x+s % d) (by omega);rw[←e,show x+s % d+s / d*d=x+s by have:=Nat.div_add_mod s d;rw[Nat.mul_comm]at this;omega];exact h x hx
structure Least(f:Nat->Bool)(st low:Nat):Prop where
 pos:1<=st
 per:bD f low st
 step:∀d b,1<=d->bD f b d->st<=d
 base:∀b,bD f b st->low<=b
def Alike(f:Nat->Bool)(b s d:Nat):Prop:=s % d=0/\∀i,i+d<s->f (b+i+d)=f (b+i)
def Alike.per{f:Nat->Bool}{b s d:Nat}(h:bD f b s)(hs:1<=s)(hd:1<=d)(a:Alike f b s d):bD f b d:=by
 obtain⟨q,rfl⟩:∃q,s=d*q:=⟨s / d,by have:=Nat.div_add_mod s d;rw[a.1]at this;omega⟩;have hq:1<=q:=by
  cases q with
  | zero=>simp at hs
  | succ q=>omega
 have inner:∀k i,i<d->k<q->f (b+i+k*d)=f (b+i):=by
  intro k;induction k with
  | zero=>intro i _ _;simp
  | succ k ih=>
   intro i hi hk;have e:=a.2 (i+k*d) (by have:(k+1+1)*d<=q*d:=Nat.mul_le_mul_right _ (by omega);rw[Nat.succ_mul,Nat.succ_mul,Nat.mul_comm q d]at this;omega)
   rw[show b+i+(k+1)*d=b+(i+k*d)+d by rw[Nat.succ_mul];omega,e,←Nat.add_assoc];exact ih i hi (by omega)
 have all:∀n,f (b+n)=f (b+n % d):=λn=>by
  have e1:f (b+n)=f (b+n % (d*q)):=by have:=h.mul (n / (d*q)) (b+n % (d*q)) (by omega);rw[←this];congr 1;have:=Nat.div_add_mod n (d*q);rw[Nat.mul_comm (d*q)]at this;omega
  rw[e1];have hlt:n % (d*q)<d*q:=Nat.mod_lt _ (by omega);have e2:n % (d*q)=n % (d*q) % d+n % (d*q) / d*d:=by have:=Nat.div_add_mod (n % (d*q)) d;rw[Nat.mul_comm]at this;omega
  have e3:n % (d*q) % d=n % d:=Nat.mod_mul_right_mod n d q;have e4:n % (d*q) / d<q:=Nat.div_lt_of_lt_mul hlt;rw[e2,←Nat.add_assoc,inner _ _ (Nat.mod_lt _ (by omega)) e4,e3]
 intro x hx;obtain⟨n,rfl⟩:∃n,x=b+n:=⟨x-b,by omega⟩;rw[Nat.add_assoc,all (n+d),all n,Nat.add_mod_right]
def bD.alike{f:Nat->Bool}{b s d:Nat}(h:bD f b d)(hm:s % d=0):Alike f b s d:=⟨hm,λi _=>h (b+i) (by omega)⟩
def Dj{f:Nat->Bool}{b s d:Nat}(h:bD f b s)(hs:1<=s)(hd:1<=d)(a:Alike f b s d)(first:∀e,1<=e->e<d->¬Alike f b s e):bD f b d/\∀e b',1<=e->bD f b' e->d<=e:=by
 have pd:=a.per h hs hd;refine⟨pd,λe b' he pe=>?_⟩;have pe':bD f b e:=h.down hs pe;have go:∀n e,e<=n->1<=e->bD f b e->d<=e:=by
  intro n;induction n with
  | zero=>intro e h1 h2;omega
  | succ n ih=>
   intro e h1 h2 pe;by_cases hz:s % e=0
   ·rcases F2 e d with hlt|hge
    ·exact absurd (pe.alike hz) (first e h2 hlt)
    ·exact hge
   ·have hlt:s % e<e:=Nat.mod_lt _ (by omega);have:=ih (s % e) (by omega) (by omega) (h.mod pe);omega
 exact go e e (FA _) he pe'
def Af{f:Nat->Bool}{b s d low:Nat}(h:bD f b s)(hs:1<=s)(hd:1<=d)(a:Alike f b s d)(first:∀e,1<=e->e<d->¬Alike f b s e)(hl:low<=b)
  (down:∀x,low<=x->x<b->f x=f (x+d)) (stop:low=0\/f (low-1)≠f (low-1+d)):Least f d low:=by
 obtain⟨pd,hmin⟩:=Dj h hs hd a first
 refine⟨hd,λx hx=>?_,hmin,λb' pb=>?_⟩
 ·rcases F2 x b with hlt|hge
  ·exact(down x hx hlt).symm
  ·exact pd x hge
 ·rcases stop with h0|hne
  ·omega
  ·rcases F2 b' low with hlt|hge
   ·exact absurd (pb (low-1) (by omega)).symm hne
   ·exact hge
def row(f:Nat->Bool)(lo n:Nat):List Int:=((F8 n).filter λi=>f (lo+i)).map λi=>((lo+i:Nat):Int)
end St
namespace St
def xw(f:Nat->Bool)(lo n:Nat):row f lo (n+1)=row f lo n++if f (lo+n)then[((lo+n:Nat):Int)]else[]:=by unfold row;rw[List.range_succ,List.filter_append,Fx];congr 1;by_cases h:f (lo+n)=true<;>simp[h]
def mE(f:Nat->Bool)(lo n:Nat):(row f lo n).length<=n:=by unfold row;rw[Ff];exact FP (List.length_filter_le _ _) (by simp)
def fj{f:Nat->Bool}{lo n:Nat}{x:Int}:x∈row f lo n↔(lo:Int)<=x/\x<lo+n/\f x.toNat=true:=by
 unfold row;simp only[List.mem_map,List.mem_filter,List.mem_range];constructor
 ·rintro⟨i,⟨hi,hf⟩,rfl⟩;refine⟨by omega,by omega,?_⟩;rw[Ft];exact hf
 ·rintro⟨h1,h2,h3⟩;refine⟨x.toNat-lo,⟨by omega,?_⟩,by omega⟩;rw[show lo+(x.toNat-lo)=x.toNat by omega];exact h3
def vz(f:Nat->Bool)(lo n:Nat):fL lo (lo+n) (row f lo n):=by refine⟨?_,λx hx=>⟨(fj.mp hx).1,(fj.mp hx).2.1⟩⟩;unfold row;rw[List.pairwise_map];refine List.Pairwise.imp (R:=λa b=>a<b) (λh=>by omega) ?_;exact List.Pairwise.filter _ List.pairwise_lt_range
def va{f:Nat->Bool}{lo n:Nat}{x:Int}(h1:(lo:Int)<=x)(h2:x<lo+n):(row f lo n).contains x=f x.toNat:=by
 rw[FU,List.contains_iff_mem,fj];constructor
 ·exact λh=>h.2.2
 ·exact λh=>⟨h1,h2,h⟩
def xM(f:Nat->Bool)(b s:Nat)(hs:1<=s):Ok b s (row f 0 b) (row f b s):=
 ⟨by omega,by omega,by have:=vz f 0 b;simpa using this,vz f b s⟩
def v7{f:Nat->Bool}{b s:Nat}(hs:1<=s)(h:bD f b s)(x:Nat):mem b s (row f 0 b) (row f b s) x=f x:=by
 by_cases hx:x<b
 ·rw[lO _ (by omega),va (by omega) (by omega),Ft]
 ·rw[nH _ (by omega)];have r0:0<=((x:Int)-b) % s:=Int.emod_nonneg _ (by omega);have r1:((x:Int)-b) % s<s:=Int.emod_lt_of_pos _ (by omega);rw[va (by omega) (by omega)];have e:((b:Int)+((x:Int)-b) % s).toNat=b+(x-b) % s:=by
   have:((x:Int)-b) % s=(((x-b) % s:Nat):Int):=by rw[show (x:Int)-b=((x-b:Nat):Int) by omega];rfl
   omega
  rw[e];have:=h.mul ((x-b) / s) (b+(x-b) % s) (by omega);rw[←this];congr 1;have:=Nat.div_add_mod (x-b) s;rw[Nat.mul_comm]at this;omega
end St
namespace St
end St
namespace St
end St
namespace Bfs
def gQ:∀(N:Nat) (l:List Nat),l.Nodup->(∀x∈l,x<N)->l.length<=N
 | 0,l,_,h=>by
  cases l with
  | nil=>exact FA _
  | cons x l=>exact absurd (h x Fm) (Nat.not_lt_zero _)
 | N+1,l,hn,h=>by
  have ih:=gQ N (l.erase N) (hn.erase N) (λx hx=>by
   have:=h x (List.mem_of_mem_erase hx);have hne:x≠N:=λe=>by subst e;exact(List.Nodup.not_mem_erase hn) hx
   omega)
  by_cases hm:N∈l
  ·rw[List.length_erase_of_mem hm]at ih;omega
  ·rw[List.erase_of_not_mem hm]at ih;omega
abbrev Pl:=Int×Int
def inR(T:Int)(x:Pl):Prop:=0<=x.1/\x.1<12/\0<=x.2/\x.2<=T
def CH{T:Int}{l:List Pl}(hT:T<=2000)(hn:l.Nodup)(h:∀x∈l,inR T x):l.length<=24012:=by
 have hmap:(l.map λx=>(x.1*2001+x.2).toNat).Nodup:=by unfold List.Nodup at hn ⊢;rw[List.pairwise_map];refine List.Pairwise.imp_of_mem ?_ hn;intro a b ha hb hab e;obtain⟨a1,a2,a3,a4⟩:=h a ha;obtain⟨b1,b2,b3,b4⟩:=h b hb;refine hab (Prod.ext ?_ ?_)<;>omega
 have:=gQ 24012 _ hmap (λy hy=>by obtain⟨x,hx,rfl⟩:=List.mem_map.mp hy;obtain⟨a1,a2,a3,a4⟩:=h x hx;omega)
 rwa [Ff]at this
section
variable (nx:Pl->Nat->Option Pl) (s:Pl)
inductive Wk:Nat->Pl->Prop
 | zero:Wk 0 s
 | succ {n:Nat} {x y:Pl} {k:Nat}:Wk n x->nx x k=some y->Wk (n+1) y
def cL(n:Nat)(x:Pl):Prop:=Wk nx s n x/\∀m,m<n->¬Wk nx s m x
def cL.uniq{n m:Nat}{x:Pl}(h:cL nx s n x)(g:cL nx s m x):n=m:=by
 rcases Nat.lt_trichotomy n m with l|l|l
 ·exact absurd h.1 (g.2 n l)
 ·exact l
 ·exact absurd g.1 (h.2 m l)
abbrev Ent:=Pl×Nat×Option (Pl×Nat)
structure QI(q:List Ent)(i B:Nat):Prop where
 nd:(q.map (·.1)).Nodup
 par:∀e∈q,(e.2.2=none/\e.1=s/\e.2.1=0)\/∃p k d o,e.2.2=some (p,k)/\nx p k=some e.1/\e.2.1=d+1/\(p,d,o)∈q
 le:∀e∈q,e.2.1<=B+1
 lo:∀j e,q[j]?=some e->i<=j->B<=e.2.1
 srt:q.Pairwise λa b=>a.2.1<=b.2.1
 cl:∀j e,j<i->q[j]?=some e->∀k y,nx e.1 k=some y->∃e'∈q,e'.1=y/\e'.2.1<=e.2.1+1
 s0:(s,0,none)∈q
def QI.begin:QI nx s [(s,0,none)] 0 0:=by
 refine⟨by simp,?_,?_,?_,by simp,?_,by simp⟩
 ·intro e he;rw[Fq]at he;subst he;exact .inl ⟨rfl,rfl,rfl⟩
 ·intro e he;rw[Fq]at he;subst he;simp
 ·intro j e _ _;exact Nat.zero_le _
 ·intro j e hj;exact absurd hj (Nat.not_lt_zero _)
variable {nx s}
def QI.wk{q:List Ent}{i B:Nat}(h:QI nx s q i B):∀(d:Nat) (e:Ent),e∈q->e.2.1=d->Wk nx s d e.1
 | 0,e,he,hd=>by
  rcases h.par e he with⟨_,hs,_⟩|⟨p,k,d,o,_,_,hd',_⟩
  ·rw[hs];exact .zero
  ·omega
 | d+1,e,he,hd=>by
  rcases h.par e he with⟨_,_,h0⟩|⟨p,k,d',o,_,hn,hd',hm⟩
  ·omega
  ·have:d'=d:=by omega
   subst this;exact .succ (QI.wk h d' _ hm rfl) hn
def QI.all{q:List Ent}{i B:Nat}(h:QI nx s q i B):∀(n:Nat) (y:Pl),Wk nx s n y->(n<=B\/i=q.length)->∃e∈q,e.1=y/\e.2.1<=n:=by
 intro n y w;induction w with
 | zero=>intro _;exact⟨_,h.s0,rfl,FA _⟩
 | @succ n x y k w hk ih=>
  intro hB;obtain⟨e,he,hx,hd⟩:=ih (hB.imp (λh=>by omega) id);obtain⟨j,hj⟩:=F3 he;have hji:j<i:=by
   rcases hB with hB|hB
   ·rcases F2 j i with l|l
    ·exact l
    ·have:=h.lo j e hj l;omega
   ·rw[hB];exact(Fo.mp hj).1
  obtain⟨e',he',hy,hd'⟩:=h.cl j e hji hj k y (by rw[hx];exact hk);exact⟨e',he',hy,by omega⟩
def B9{q:List Ent}(hn:(q.map (·.1)).Nodup){e e':Ent}(h:e∈q)(h':e'∈q)(he:e.1=e'.1):e=e':=by
 induction q with
 | nil=>cases h
 | cons a q ih=>
  rw[List.map_cons,List.nodup_cons]at hn;rcases Fv.mp h with r|r<;>rcases Fv.mp h' with r'|r'
  ·rw[r,r']
  ·subst r;exact absurd (List.mem_map.mpr ⟨e',r',he.symm⟩) hn.1
  ·subst r';exact absurd (List.mem_map.mpr ⟨e,r,he⟩) hn.1
  ·exact ih hn.2 r r'
def QI.dist{q:List Ent}{i B:Nat}(h:QI nx s q i B){e:Ent}(he:e∈q):cL nx s e.2.1 e.1:=by refine⟨h.wk _ e he rfl,λm hm w=>?_⟩;have:=h.le e he;obtain⟨e',he',hy,hd⟩:=h.all m e.1 w (.inl (by omega));have:=B9 h.nd he' he hy;subst this;omega
def QI.done{q:List Ent}{B:Nat}(h:QI nx s q q.length B){y:Pl}(hy:y∉q.map (·.1))(n:Nat):¬cL nx s n y:=λd=>by obtain⟨e,he,hx,_⟩:=h.all n y d.1 (.inr rfl);exact hy (List.mem_map.mpr ⟨e,he,hx⟩)
def qm{q:List Ent}(hs:q.Pairwise λa b=>a.2.1<=b.2.1){i j:Nat}{a b:Ent}(ha:q[i]?=some a)(hb:q[j]?=some b)(hij:i<=j):a.2.1<=b.2.1:=by
 rcases F2 i j with l|l
 ·obtain⟨h1,e1⟩:=Fo.mp ha;obtain⟨h2,e2⟩:=Fo.mp hb;have:=List.pairwise_iff_getElem.mp hs i j h1 h2 l;rw[e1,e2]at this;exact this
 ·have:i=j:=by omega
  subst this;rw[ha]at hb;cases hb;exact FA _
def QI.deepAt{q:List Ent}{i B:Nat}(h:QI nx s q i B):∀(j:Nat) (e:Ent),q[j]?=some e->e.2.1<=j:=by
 intro j;induction j using Nat.strongRecOn with
 | _ j ih=>
  intro e he;rcases h.par e (Fp he)with⟨_,_,h0⟩|⟨p,k,d,o,_,_,hd,hm⟩
  ·omega
  ·obtain⟨j',hj'⟩:=F3 hm;have hlt:j'<j:=by
    rcases F2 j' j with l|l
    ·exact l
    ·have:=qm h.srt he hj' l;dsimp only at this;omega
   have:=ih j' hlt _ hj';dsimp only at this;omega
def QI.deep{q:List Ent}{i B:Nat}(h:QI nx s q i B){e:Ent}(he:e∈q):e.2.1<=q.length:=by obtain⟨j,hj⟩:=F3 he;have h1:=h.deepAt j e hj;have h2:=(Fo.mp hj).1;omega
structure QF(q:List Ent)(i:Nat)(h:Ent)(ks:List Nat)(m:Nat):Prop where
 at_:q[i]?=some h
 nd:(q.map (·.1)).Nodup
 par:∀e∈q,(e.2.2=none/\e.1=s/\e.2.1=0)\/∃p k d o,e.2.2=some (p,k)/\nx p k=some e.1/\e.2.1=d+1/\(p,d,o)∈q
 le:∀e∈q,e.2.1<=h.2.1+1
 srt:q.Pairwise λa b=>a.2.1<=b.2.1
 cl:∀j e,j<i->q[j]?=some e->∀k y,nx e.1 k=some y->∃e'∈q,e'.1=y/\e'.2.1<=e.2.1+1
 ch:∀k∈ks.take m,∀y,nx h.1 k=some y->∃e'∈q,e'.1=y/\e'.2.1<=h.2.1+1
 s0:(s,0,none)∈q
def QI.look{q:List Ent}{i B:Nat}{h:Ent}(H:QI nx s q i B)(ha:q[i]?=some h)(ks:List Nat):QF (nx:=nx) (s:=s) q i h ks 0:=by refine⟨ha,H.nd,H.par,λe he=>?_,H.srt,H.cl,λk hk=>by simp at hk,H.s0⟩;have:=H.le e he;have:=H.lo i h ha (FA _);omega
def QF.next{q:List Ent}{i:Nat}{h:Ent}{ks:List Nat}(H:QF (nx:=nx) (s:=s) q i h ks ks.length)(hk:∀k y,nx h.1 k=some y->k∈ks):QI nx s q (i+1) h.2.1:=by
 refine⟨H.nd,H.par,H.le,λj e hj hij=>qm H.srt H.at_ hj (by omega),H.srt,λj e hj he k y hy=>?_,H.s0⟩;rcases F2 j i with l|l
 ·exact H.cl j e l he k y hy
 ·have:j=i:=by omega
  subst this;have e':=H.at_;rw[he]at e';cases e';exact H.ch k (by rw[FK];exact hk k y hy) y hy
def QF.skip{q:List Ent}{i:Nat}{h:Ent}{ks:List Nat}{m k:Nat}(H:QF (nx:=nx) (s:=s) q i h ks m)(hk:ks[m]?=some k)(hy:∀y,nx h.1 k=some y->y∈q.map (·.1)):QF (nx:=nx) (s:=s) q i h ks (m+1):=by
 refine⟨H.at_,H.nd,H.par,H.le,H.srt,H.cl,λk' hk' y hy'=>?_,H.s0⟩;rw[List.take_succ,hk]at hk';rcases FE.mp hk' with z|z
 ·exact H.ch k' z y hy'
 ·have:k'=k:=by simpa using z
  subst this;obtain⟨e,he,hx⟩:=List.mem_map.mp (hy y hy');exact⟨e,he,hx,H.le e he⟩
def QF.add{q:List Ent}{i:Nat}{h:Ent}{ks:List Nat}{m k:Nat}{y:Pl}(H:QF (nx:=nx) (s:=s) q i h ks m)(hk:ks[m]?=some k)(hy:nx h.1 k=some y)(hn:y∉q.map (·.1)):
  QF (nx:=nx) (s:=s) (q++[(y,h.2.1+1,some (h.1,k))]) i h ks (m+1):=by
 have hil:=(Fo.mp H.at_).1;have hmem:h∈q:=Fp H.at_;refine⟨by rw[FH hil];exact H.at_,?_,?_,?_,?_,?_,?_,FZ _ H.s0⟩
 ·rw[Fx,List.nodup_append];refine⟨H.nd,by simp,λa ha b hb e=>?_⟩;have:b=y:=by simpa using hb
  subst this;subst e;exact hn ha
 ·intro e he;rcases FE.mp he with z|z
  ·rcases H.par e z with p|⟨p,k',d,o,h1,h2,h3,h4⟩
   ·exact .inl p
   ·exact .inr ⟨p,k',d,o,h1,h2,h3,FZ _ h4⟩
  ·have:e=(y,h.2.1+1,some (h.1,k)):=by simpa using z
   subst this;exact .inr ⟨h.1,k,h.2.1,h.2.2,rfl,hy,rfl,FZ _ hmem⟩
 ·intro e he;rcases FE.mp he with z|z
  ·exact H.le e z
  ·have:e=(y,h.2.1+1,some (h.1,k)):=by simpa using z
   subst this;exact FA _
 ·rw[List.pairwise_append];refine⟨H.srt,by simp,λa ha b hb=>?_⟩;have:b=(y,h.2.1+1,some (h.1,k)):=by simpa using hb
  subst this;exact H.le a ha
 ·intro j e hj he k' y' hy';rw[FH (by omega)]at he;obtain⟨e',h1,h2⟩:=H.cl j e hj he k' y' hy';exact⟨e',FZ _ h1,h2⟩
 ·intro k' hk' y' hy';rw[List.take_succ,hk]at hk';rcases FE.mp hk' with z|z
  ·obtain⟨e',h1,h2⟩:=H.ch k' z y' hy';exact⟨e',FZ _ h1,h2⟩
  ·have:k'=k:=by simpa using z
   subst this;rw[hy]at hy';cases hy';exact⟨_,FY _ Fm,rfl,FA _⟩
def gone:Pl->List Nat->Option Pl
 | x,[]=>some x
 | x,k::r=>(nx x k).bind λy=>gone y r
def lE{y z:Pl}{k:Nat}:∀{r:List Nat} {x:Pl},gone (nx:=nx) x r=some y->nx y k=some z->gone (nx:=nx) x (r++[k])=some z
 | [],x,h,hk=>by cases h;show(nx y k).bind _=_;rw[hk];rfl
 | a::r,x,h,hk=>by
  show(nx x a).bind _=_;have h':(nx x a).bind (λy=>gone (nx:=nx) y r)=some y:=h;cases e:nx x a with
  | none=>rw[e]at h';cases h'
  | some u=>
   rw[e]at h';exact lE h' hk
end
end Bfs
namespace Bfs
inductive Rw(S:Pl->Pl->Prop):Nat->Pl->Pl->Prop
 | nil {x:Pl}:Rw S 0 x x
 | snoc {n:Nat} {x y z:Pl}:Rw S n x y->S y z->Rw S (n+1) x z
def Rw.trans{S:Pl->Pl->Prop}{n k:Nat}{x y z:Pl}(h:Rw S n x y)(g:Rw S k y z):Rw S (n+k) x z:=by
 induction g with
 | nil=>exact h
 | snoc _ hs ih=>exact .snoc (ih h) hs
def Rw.imp{S S':Pl->Pl->Prop}(hS:∀a c,S a c->S' a c){n:Nat}{x y:Pl}(h:Rw S n x y):Rw S' n x y:=by
 induction h with
 | nil=>exact .nil
 | snoc _ hs ih=>exact .snoc ih (hS _ _ hs)
def Rw.fn{S:Pl->Pl->Prop}{n:Nat}{x y:Pl}(h:Rw S n x y):∃w:Nat->Pl,w 0=x/\w n=y/\∀i,i<n->S (w i) (w (i+1)):=by
 induction h with
 | @nil x=>exact⟨λ_=>x,rfl,rfl,λi hi=>absurd hi (Nat.not_lt_zero _)⟩
 | @snoc n x y z _ hs ih=>
  obtain⟨w,h0,hn,hw⟩:=ih;refine⟨λi=>if i<=n then w i else z,by simp[h0],(by show(if n+1<=n then w (n+1)else z)=z;rw[Gb (by omega)]),λi hi=>?_⟩
  try dsimp only
  rcases F2 i n with l|l
  ·rw[Ge (by omega),Ge (by omega)];exact hw i l
  ·have:i=n:=by omega
   subst this;rw[Ge (FA _),Gb (by omega),hn];exact hs
def vW{S:Pl->Pl->Prop}{w:Nat->Pl}{i:Nat}:∀(k:Nat),(∀j,i<=j->j<i+k->S (w j) (w (j+1)))->Rw S k (w i) (w (i+k))
 | 0,_=>.nil
 | k+1,h=>.snoc (vW k λj h1 h2=>h j h1 (by omega)) (h (i+k) (by omega) (by omega))
def jg{S:Pl->Pl->Prop}{w:Nat->Pl}{i j:Nat}(hij:i<=j)(h:∀k,i<=k->k<j->S (w k) (w (k+1))):Rw S (j-i) (w i) (w j):=by
 have:=vW (S:=S) (w:=w) (i:=i) (j-i) (λk h1 h2=>h k h1 (by omega))
 rwa [show i+(j-i)=j by omega]at this
def je{h:Nat->Int}{l:Int}:∀(P:Nat),(∀i,i<P->h (i+1)<=h i+1)->h 0<=l->l<=h P->∃u,u<=P/\h u=l/\∀i,u<i->i<=P->l<h i
 | 0,_,h0,hP=>⟨0,FA _,by omega,λi h1 h2=>by omega⟩
 | P+1,hs,h0,hP=>by
  by_cases e:h (P+1)=l
  ·exact⟨P+1,FA _,e,λi h1 h2=>by omega⟩
  ·have:=hs P (by omega);obtain⟨u,hu,hl,hi⟩:=je P (λi hi=>hs i (by omega)) h0 (by omega);refine⟨u,by omega,hl,λi h1 h2=>?_⟩;rcases F2 P i with g|g
   ·have:i=P+1:=by omega
    subst this;omega
   ·exact hi i h1 g
def xm{h:Nat->Int}{l:Int}{P n:Nat}(hP:P<=n)(hs:∀i,P<=i->i<n->h i<=h (i+1)+1)(h0:h n<=l)(hl:l<=h P):∃d,P<=d/\d<=n/\h d=l/\∀i,P<=i->i<d->l<h i:=by
 obtain⟨u,hu,hul,hui⟩:=je (h:=λi=>h (n-i)) (l:=l) (n-P) (λi hi=>by
  have:=hs (n-(i+1)) (by omega) (by omega)
  rwa [show n-(i+1)+1=n-i by omega]at this) (by simpa using h0) (by
  try dsimp only
  rw[show n-(n-P)=P by omega];exact hl)
 refine⟨n-u,by omega,by omega,hul,λi h1 h2=>?_⟩;have:=hui (n-i) (by omega) (by omega)
 (try dsimp only at this)
 rwa [show n-(n-i)=i by omega]at this
def code_inj{m r s r' s':Int}(hs:0<=s)(hs1:s<m)(hs':0<=s')(hs1':s'<m)(e:r*m+s=r'*m+s'):r=r'/\s=s':=by
 have h1:s=s':=by
  have:=congrArg (· % m) e
  (try dsimp only at this)
  rw[Int.add_comm,Int.add_mul_emod_self_right,Int.add_comm (r'*m),Int.add_mul_emod_self_right,Int.emod_eq_of_lt hs hs1,Int.emod_eq_of_lt hs' hs1']at this;exact this
 refine⟨?_,h1⟩;have h2:r*m=r'*m:=by omega
 exact Int.eq_of_mul_eq_mul_right (by omega) h2
def nB{m r s:Int}(hr:0<=r)(hr1:r<m)(hs:0<=s)(hs1:s<m):0<=r*m+s/\r*m+s<m*m:=by have h1:0<=r*m:=FL hr (by omega);have h2:(r+1)*m<=m*m:=Int.mul_le_mul_of_nonneg_right (by omega) (by omega);rw[Int.add_mul,Int.one_mul]at h2;omega
def twice{K:Nat}(code:Nat->Nat)(h:∀j,j<=K->code j<K):∃i j,i<j/\j<=K/\code i=code j:=by
 refine Classical.byContradiction λno=>?_;have hn:((F8 (K+1)).map code).Nodup:=by unfold List.Nodup;rw[List.pairwise_map];refine List.Pairwise.imp_of_mem ?_ (List.pairwise_lt_range (n:=K+1));intro a b ha hb hab e;exact no ⟨a,b,hab,by have:=List.mem_range.mp hb;omega,e⟩
 have:=gQ K _ hn (λx hx=>by obtain⟨j,hj,rfl⟩:=List.mem_map.mp hx;exact h j (by have:=List.mem_range.mp hj;omega))
 rw[Ff,List.length_range]at this;omega
def cut{S:Pl->Pl->Prop}{m:Int}(hm:0<m)(h1:∀x y,S x y->y.2<=x.2+1/\x.2<=y.2+1)(h2:∀x y c,S x y->0<=c->1<=x.2-c->1<=y.2-c->S (x.1,x.2-c) (y.1,y.2-c))
  (h3:∀x y,S x y->0<=y.1/\y.1<m) {b:Int} (hb:0<=b):∀(n:Nat) (x g:Pl),Rw S n x g->0<=x.1->x.1<m->x.2<=b->g.2<=b->∃n',n'<=n/\Rw (λa c=>S a c/\c.2<=b+m*m) n' x g:=by
 intro n;induction n using Nat.strongRecOn with
 | _ n ih=>
  intro x g hw x0 x1 xb gb;obtain⟨w,hw0,hwn,hws⟩:=hw.fn;by_cases hall:∀i,i<=n->(w i).2<=b+m*m
  ·refine⟨n,FA _,?_⟩;have:=jg (S:=λa c=>S a c/\c.2<=b+m*m) (w:=w) (Nat.zero_le n) (λk _ hk=>⟨hws k hk,hall (k+1) (by omega)⟩);rw[hw0,hwn]at this;exact this
  ·obtain⟨P,hP⟩:=Classical.not_forall.mp hall;obtain⟨hPn,hPh⟩:P<=n/\b+m*m<(w P).2:=by
    by_cases c:P<=n
    ·exact⟨c,by
      by_cases d:(w P).2<=b+m*m
      ·exact absurd (λ_=>d) hP
      ·omega⟩
    ·exact absurd (λz=>absurd z c) hP
   have hmm:0<=m*m:=FL (by omega) (by omega);have room:∀i,i<=n->0<=(w i).1/\(w i).1<m:=by
    intro i hi;cases i with
    | zero=>rw[hw0];exact⟨x0,x1⟩
    | succ i=>exact h3 _ _ (hws i (by omega))
   have hu:∀j:Nat,∃u,(j<=(m*m).toNat->u<=P/\(w u).2=b+1+j/\∀i,u<i->i<=P->b+1+j<(w i).2):=by
    intro j;by_cases hj:j<=(m*m).toNat
    ·obtain⟨u,a1,a2,a3⟩:=je (h:=λi=>(w i).2) (l:=b+1+j) P (λi hi=>(h1 _ _ (hws i (by omega))).1) (by(try dsimp only);rw[hw0];omega) (by(try dsimp only);omega);exact⟨u,λ_=>⟨a1,a2,a3⟩⟩
    ·exact⟨0,λz=>absurd z hj⟩
   have hd:∀j:Nat,∃d,(j<=(m*m).toNat->P<=d/\d<=n/\(w d).2=b+1+j/\∀i,P<=i->i<d->b+1+j<(w i).2):=by
    intro j;by_cases hj:j<=(m*m).toNat
    ·obtain⟨d,a1,a2,a3,a4⟩:=xm (h:=λi=>(w i).2) (l:=b+1+j) hPn (λi _ hi=>(h1 _ _ (hws i hi)).2) (by(try dsimp only);rw[hwn];omega) (by(try dsimp only);omega);exact⟨d,λ_=>⟨a1,a2,a3,a4⟩⟩
    ·exact⟨0,λz=>absurd z hj⟩
   obtain⟨u,hu⟩:=Classical.axiomOfChoice hu;obtain⟨d,hd⟩:=Classical.axiomOfChoice hd;obtain⟨i,j,hij,hjK,hcode⟩:=twice (K:=(m*m).toNat) (λj=>((w (u j)).1*m+(w (d j)).1).toNat) (λj hj=>by
    have a1:=hu j hj;have a2:=hd j hj;have r1:=room (u j) (by omega);have r2:=room (d j) (by omega);have:=nB r1.1 r1.2 r2.1 r2.2
    try dsimp only
    omega)
   obtain⟨ui1,ui2,ui3⟩:=hu i (by omega);obtain⟨uj1,uj2,uj3⟩:=hu j hjK;obtain⟨di0,di1,di2,di3⟩:=hd i (by omega);obtain⟨dj0,dj1,dj2,dj3⟩:=hd j hjK;have hr:(w (u i)).1=(w (u j)).1/\(w (d i)).1=(w (d j)).1:=by
    have r1:=room (u i) (by omega);have r2:=room (d i) (by omega);have r3:=room (u j) (by omega);have r4:=room (d j) (by omega);have c1:=nB r1.1 r1.2 r2.1 r2.2;have c2:=nB r3.1 r3.2 r4.1 r4.2
    (try dsimp only at hcode)
    exact code_inj r2.1 r2.2 r4.1 r4.2 (by omega)
   have huu:u i<u j:=by
    rcases Nat.lt_trichotomy (u i) (u j)with z|z|z
    ·exact z
    ·rw[z]at ui2;omega
    ·have:=uj3 (u i) z ui1;omega
   have hdd:d j<d i:=by
    rcases Nat.lt_trichotomy (d j) (d i)with z|z|z
    ·exact z
    ·rw[z]at dj2;omega
    ·have:=dj3 (d i) di0 z;omega
   have s1:Rw S (u i-0) (w 0) (w (u i)):=jg (Nat.zero_le _) (λk _ hk=>hws k (by omega));have s3:Rw S (n-d i) (w (d i)) (w n):=jg di1 (λk _ hk=>hws k hk);have hi:∀k,u j<=k->k<=d j->b+1+j<=(w k).2:=by
    intro k k1 k2;rcases F2 k P with z|z
    ·rcases F2 (u j) k with y|y
     ·have:=uj3 k y (by omega);omega
     ·have:k=u j:=by omega
      subst this;omega
    ·rcases F2 k (d j)with y|y
     ·have:=dj3 k z y;omega
     ·have:k=d j:=by omega
      subst this;omega
   have s2:Rw S (d j-u j) ((w (u j)).1,(w (u j)).2-(j-i:Nat)) ((w (d j)).1,(w (d j)).2-(j-i:Nat)):=
    jg (S:=S) (w:=λk=>((w k).1,(w k).2-(j-i:Nat))) (show u j<=d j by omega) (λk k1 k2=>h2 _ _ _ (hws k (by omega)) (by omega) (by have:=hi k k1 (by omega);omega) (by have:=hi (k+1) (by omega) (by omega);omega))
   have e1:((w (u j)).1,(w (u j)).2-((j-i:Nat):Int))=w (u i):=Prod.ext hr.1.symm (by(try dsimp only);omega);have e2:((w (d j)).1,(w (d j)).2-((j-i:Nat):Int))=w (d i):=Prod.ext hr.2.symm (by(try dsimp only);omega);rw[e1,e2]at s2;have s:=(s1.trans s2).trans s3;rw[hw0,hwn]at s;obtain⟨n',hn',hr'⟩:=ih _ (by omega) x g s x0 x1 xb gb;exact⟨n',by omega,hr'⟩
def Wk.rw{nx:Pl->Nat->Option Pl}{s y:Pl}{n:Nat}(h:Wk nx s n y):Rw (λa c=>∃k,nx a k=some c) n s y:=by
 induction h with
 | zero=>exact .nil
 | succ _ hk ih=>exact .snoc ih ⟨_,hk⟩
def Rw.wk{nx:Pl->Nat->Option Pl}{s y:Pl}{n:Nat}{S:Pl->Pl->Prop}(hS:∀a c,S a c->∃k,nx a k=some c)(h:Rw S n s y):Wk nx s n y:=by
 induction h with
 | nil=>exact .zero
 | snoc _ hk ih=>
  obtain⟨k,hk⟩:=hS _ _ hk;exact .succ ih hk
def cL.each{nx:Pl->Nat->Option Pl}{s y:Pl}{n:Nat}(d:cL nx s n y):∀j,j<=n->∃x,cL nx s (n-j) x:=by
 intro j;induction j with
 | zero=>intro _;exact⟨y,d⟩
 | succ j ih=>
  intro hj;obtain⟨x,w,hx⟩:=ih (by omega);rw[show n-j=(n-(j+1))+1 by omega]at w hx;cases w with
  | @succ n' x' y' k w hk=>exact⟨x',w,λm hm w'=>hx (m+1) (by omega) (.succ w' hk)⟩
def BD{a b m T:Int}(hT:0<=T)(a1:0<=a)(a2:a<m)(a3:0<=b)(a4:b<=T):0<=a*(T+1)+b/\a*(T+1)+b<m*(T+1):=by have b1:0<=a*(T+1):=FL a1 (by omega);have b2:(a+1)*(T+1)<=m*(T+1):=Int.mul_le_mul_of_nonneg_right (by omega) (by omega);rw[Int.add_mul,Int.one_mul]at b2;omega
def AQ{a b:Int}(h:0<=a/\a<b):a.toNat<b.toNat:=by omega
def Ck{a b:Int}(h:0<=a)(g:0<=b)(e:a.toNat=b.toNat):a=b:=by omega
def An{n:Nat}{c:Int}(no:¬(n:Int)<=c-1):c.toNat<=n:=by omega
def cL.few{nx:Pl->Nat->Option Pl}{s y:Pl}{n:Nat}{m T:Int}(hm:0<m)(hT:0<=T)(d:cL nx s n y)(hin:∀k z,Wk nx s k z->0<=z.1/\z.1<m/\0<=z.2/\z.2<=T):(n:Int)<=m*(T+1)-1:=by
 have hx:∀j:Nat,∃x,(j<=n->cL nx s j x):=by
  intro j;by_cases hj:j<=n
  ·obtain⟨x,h⟩:=d.each (n-j) (by omega);rw[show n-(n-j)=j by omega]at h;exact⟨x,λ_=>h⟩
  ·exact⟨s,λz=>absurd z hj⟩
 obtain⟨f,hf⟩:=Classical.axiomOfChoice hx;refine Classical.byContradiction λno=>?_;have hK:=An no;have cl:∀z:Pl,0<=z.1/\z.1<m/\0<=z.2/\z.2<=T->0<=z.1*(T+1)+z.2/\z.1*(T+1)+z.2<m*(T+1):=λz h=>BD hT h.1 h.2.1 h.2.2.1 h.2.2.2;obtain⟨i,j,hij,hj,hc⟩:=twice (K:=(m*(T+1)).toNat) (λj=>((f j).1*(T+1)+(f j).2).toNat) (λj hj=>AQ (cl (f j) (hin j (f j) (hf j (FP hj hK)).1)));have hjn:=FP hj hK;have hi:=hf i (FP (Nat.le_of_lt hij) hjn);have ai:=hin i (f i) hi.1;have aj:=hin j (f j) (hf j hjn).1;obtain⟨e1,e2⟩:=code_inj (m:=T+1) ai.2.2.1 (Int.lt_add_one_of_le ai.2.2.2) aj.2.2.1 (Int.lt_add_one_of_le aj.2.2.2) (Ck (cl _ ai).1 (cl _ aj).1 hc);have e:=cL.uniq (nx:=nx) (s:=s) hi (by rw[show f i=f j from Prod.ext e1 e2];exact hf j hjn);exact Fz hij e
def zm{nx:Pl->Nat->Option Pl}{s y:Pl}:∀(n:Nat),Wk nx s n y->∃k,k<=n/\cL nx s k y:=by
 intro n;induction n using Nat.strongRecOn with
 | _ n ih=>
  intro w;by_cases h:∃k,k<n/\Wk nx s k y
  ·obtain⟨k,hk,w'⟩:=h;obtain⟨k',h1,h2⟩:=ih k hk w';exact⟨k',by omega,h2⟩
  ·exact⟨n,FA _,w,λk hk w'=>h ⟨k,hk,w'⟩⟩
end Bfs
namespace Bfs
end Bfs
namespace Rnd
inductive Wg{α:Type}(S:α->α->Prop):Nat->α->α->Prop
 | nil {x:α}:Wg S 0 x x
 | snoc {n:Nat} {x y z:α}:Wg S n x y->S y z->Wg S (n+1) x z
def Wg.trans{α:Type}{S:α->α->Prop}{n k:Nat}{x y z:α}(h:Wg S n x y)(g:Wg S k y z):Wg S (n+k) x z:=by
 induction g with
 | nil=>exact h
 | snoc _ hs ih=>exact .snoc (ih h) hs
def Wg.fn{α:Type}{S:α->α->Prop}{n:Nat}{x y:α}(h:Wg S n x y):∃w:Nat->α,w 0=x/\w n=y/\∀i,i<n->S (w i) (w (i+1)):=by
 induction h with
 | @nil x=>exact⟨λ_=>x,rfl,rfl,λi hi=>absurd hi (Nat.not_lt_zero _)⟩
 | @snoc n x y z _ hs ih=>
  obtain⟨w,h0,hn,hw⟩:=ih;refine⟨λi=>if i<=n then w i else z,by simp[h0],(by show(if n+1<=n then w (n+1)else z)=z;rw[Gb (by omega)]),λi hi=>?_⟩
  try dsimp only
  rcases F2 i n with l|l
  ·rw[Ge (by omega),Ge (by omega)];exact hw i l
  ·have:i=n:=by omega
   subst this;rw[Ge (FA _),Gb (by omega),hn];exact hs
def tP{α:Type}{S:α->α->Prop}{w:Nat->α}{i:Nat}:∀(k:Nat),(∀j,i<=j->j<i+k->S (w j) (w (j+1)))->Wg S k (w i) (w (i+k))
 | 0,_=>.nil
 | k+1,h=>.snoc (tP k λj h1 h2=>h j h1 (by omega)) (h (i+k) (by omega) (by omega))
def seg{α:Type}{S:α->α->Prop}{w:Nat->α}{n i j:Nat}(hS:∀k,k<n->S (w k) (w (k+1)))(hij:i<=j)(hj:j<=n):Wg S (j-i) (w i) (w j):=by
 have:=tP (S:=S) (w:=w) (i:=i) (j-i) (λk h1 h2=>hS k (by omega))
 rwa [show i+(j-i)=j by omega]at this
def BV{α:Type}{S:α->α->Prop}{I:α->Prop}{N:Nat}(code:α->Nat)(hc:∀a,I a->code a<N)(inj:∀a b,I a->I b->code a=code b->a=b)(hI:∀a b,S a b->I b):∀(k:Nat) (x y:α),I x->Wg S k x y->∃k',k'<N/\Wg S k' x y:=by
 intro k;induction k using Nat.strongRecOn with
 | _ k ih=>
  intro x y hx h;by_cases hk:k<N
  ·exact⟨k,hk,h⟩
  ·obtain⟨w,h0,hn,hw⟩:=h.fn;have hIn:∀i,i<=k->I (w i):=λi hi=>by
    cases i with
    | zero=>rw[h0];exact hx
    | succ i=>exact hI _ _ (hw i (by omega))
   obtain⟨i,j,hij,hj,e⟩:=Bfs.twice (K:=N) (λj=>code (w j)) (λj hj=>hc _ (hIn j (by omega)));have e':=inj _ _ (hIn i (by omega)) (hIn j (by omega)) e;have a1:=seg hw (Nat.zero_le i) (by omega);have a2:=seg hw (show j<=k by omega) (FA k);rw[←e']at a2;have a3:=a1.trans a2;rw[h0,hn]at a3;exact ih _ (by omega) x y hx a3
section
variable {n:Nat} {A:Nat->Nat->Prop} (hA:∀i j,A i j->i<n/\j<n)
def Pr(A:Nat->Nat->Prop)(c:Nat)(a b:Nat×Nat):Prop:=A a.1 b.1/\b.2=(a.2+1) % c
def lift{c k:Nat}{i j:Nat}(h:Wg A k i j):Wg (Pr A c) k (i,0 % c) (j,k % c):=by
 induction h with
 | nil=>exact .nil
 | @snoc k x y z _ hs ih=>exact .snoc ih ⟨hs,by show(k+1) % c=(k % c+1) % c;rw[Nat.mod_add_mod]⟩
def drop{c k:Nat}{a b:Nat×Nat}(h:Wg (Pr A c) k a b):a.2 % c=a.2->Wg A k a.1 b.1/\b.2=(a.2+k) % c:=by
 induction h with
 | nil=>exact λe=>⟨.nil,e.symm⟩
 | @snoc k x y z _ hs ih=>
  intro e;obtain⟨h1,h2⟩:=ih e;refine⟨.snoc h1 hs.1,?_⟩;rw[hs.2,h2,Nat.mod_add_mod,Nat.add_assoc]
include hA
def sf{c k i j:Nat}(hc:1<=c)(hi:i<n)(h:Wg A k i j):∃k',k'<n*c/\k' % c=k % c/\Wg A k' i j:=by
 obtain⟨k',hk,hw⟩:=BV (S:=Pr A c) (I:=λa=>a.1<n/\a.2<c) (N:=n*c) (λa=>a.1*c+a.2) (λa ha=>by
   have:(a.1+1)*c<=n*c:=Nat.mul_le_mul_right _ ha.1;rw[Nat.succ_mul]at this;have:=ha.2;show a.1*c+a.2<n*c;omega) (λa b ha hb e=>by
   have e':a.1*c+a.2=b.1*c+b.2:=e;have e2:a.2=b.2:=by
    have:=congrArg (· % c) e'
    try dsimp only at this
    rwa [Nat.mul_add_mod_self_right,Nat.mul_add_mod_self_right,Nat.mod_eq_of_lt ha.2,Nat.mod_eq_of_lt hb.2]at this
   have e1:a.1=b.1:=Nat.eq_of_mul_eq_mul_right (show 0<c by omega) (by omega);exact Prod.ext e1 e2) (λa b h=>⟨(hA _ _ h.1).2,by rw[h.2];exact Nat.mod_lt _ (by omega)⟩) k _ _ ⟨hi,Nat.mod_lt _ (by omega)⟩ (lift h)
 obtain⟨h1,h2⟩:=drop hw (Nat.mod_mod _ _);refine⟨k',hk,?_,h1⟩;rw[Nat.zero_mod,Nat.zero_add]at h2;exact h2.symm
def uC{k i j:Nat}(hi:i<n)(h:Wg A k i j):j<n:=by
 cases h with
 | nil=>exact hi
 | snoc _ hs=>exact(hA _ _ hs).2
def Sm(A:Nat->Nat->Prop)(u v:Nat):Prop:=(∃k,Wg A k u v)/\∃k,Wg A k v u
omit hA in
def Sm.symm{u v:Nat}(h:Sm A u v):Sm A v u:=⟨h.2,h.1⟩
omit hA in
def Sm.trans{u v z:Nat}(h:Sm A u v)(g:Sm A v z):Sm A u z:=by obtain⟨⟨a,ha⟩,b,hb⟩:=h;obtain⟨⟨c,hc⟩,d,hd⟩:=g;exact⟨⟨_,ha.trans hc⟩,_,hd.trans hb⟩
omit hA in
def Sm.refl{u:Nat}:Sm A u u:=⟨⟨0,.nil⟩,0,.nil⟩
omit hA in
def yq{P:Nat->Prop}:∀k,P k->∃q,P q/\∀u,P u->q<=u:=by
 intro k;induction k using Nat.strongRecOn with
 | _ k ih=>
  intro hk;by_cases h:∃u,u<k/\P u
  ·obtain⟨u,hu,pu⟩:=h;exact ih u hu pu
  ·exact⟨k,hk,λu hu=>Classical.byContradiction λz=>h ⟨u,by omega,hu⟩⟩
def Rp(A:Nat->Nat->Prop)(q:Nat):Prop:=(∃k,1<=k/\Wg A k q q)/\∀u,Sm A q u->q<=u
omit hA in
def EC{u k:Nat}(hk:1<=k)(h:Wg A k u u):∃q,Rp A q/\Sm A u q:=by obtain⟨q,hq,hl⟩:=yq (P:=λq=>Sm A u q) u Sm.refl;obtain⟨⟨a,ha⟩,b,hb⟩:=id hq;exact⟨q,⟨⟨b+k+a,by omega,(hb.trans h).trans ha⟩,λv hv=>hl v (hq.trans hv)⟩,hq⟩
def ring{q:Nat}(hq:q<n)(h:Rp A q):∃(c:Nat) (L:List Nat),1<=c/\Wg A c q q/\L.length=c/\L.Nodup/\∀v∈L,v<n/\Sm A q v:=by
 obtain⟨⟨k,hk,hw⟩,_⟩:=h;obtain⟨c,⟨hc,hcw⟩,hl⟩:=yq (P:=λk=>1<=k/\Wg A k q q) k ⟨hk,hw⟩;obtain⟨w,h0,hn,hS⟩:=hcw.fn;refine⟨c,(F8 c).map w,hc,hcw,by simp,?_,?_⟩
 ·unfold List.Nodup;rw[List.pairwise_map];refine List.Pairwise.imp_of_mem ?_ (List.pairwise_lt_range (n:=c));intro i j hi hj hij e;have hj':=List.mem_range.mp hj;have a1:=seg hS (Nat.zero_le i) (by omega);have a2:=seg hS (show j<=c by omega) (FA c);rw[←e]at a2;have a3:=a1.trans a2;rw[h0,hn]at a3;have:=hl _ ⟨by omega,a3⟩;omega
 ·intro v hv;obtain⟨i,hi,rfl⟩:=List.mem_map.mp hv;have hi':=List.mem_range.mp hi;have a1:=seg hS (Nat.zero_le i) (by omega);have a2:=seg hS (show i<=c by omega) (FA c);rw[h0]at a1;rw[hn]at a2;exact⟨uC hA hq a1,⟨_,a1⟩,_,a2⟩
def rings(hn:n<=12):∀k,k<=n->∃(L:List Nat) (P:Nat),L.Nodup/\(∀v∈L,v<n/\∃q,q<k/\Rp A q/\Sm A q v)/\1<=P/\P ^ 3<=3 ^ L.length/\∀q,q<k->Rp A q->∃c,1<=c/\c<=n/\c ∣ P/\Wg A c q q:=by
 intro k;induction k with
 | zero=>exact λ_=>⟨[],1,List.nodup_nil,λv h=>(nomatch h),FA _,by decide,λq h=>absurd h (Nat.not_lt_zero _)⟩
 | succ k ih=>
  intro hk;obtain⟨L,P,nd,hL,hP,h3,hq⟩:=ih (by omega);by_cases hr:Rp A k
  ·obtain⟨c,M,hc,hw,hM,ndM,hMs⟩:=ring hA (show k<n by omega) hr;have hcn:c<=n:=by rw[←hM];exact Bfs.gQ n M ndM λv hv=>(hMs v hv).1
   refine⟨L++M,P*c,?_,?_,Nat.mul_pos hP hc,?_,?_⟩
   ·rw[List.nodup_append];refine⟨nd,ndM,λa ha b hb e=>?_⟩;subst e;obtain⟨_,q,hqk,hqr,hqs⟩:=hL a ha;have hs:Sm A k q:=(hMs a hb).2.trans hqs.symm;have:=hr.2 q hs;omega
   ·intro v hv;rcases FE.mp hv with z|z
    ·obtain⟨h1,q,h2,h3⟩:=hL v z;exact⟨h1,q,by omega,h3⟩
    ·exact⟨(hMs v z).1,k,by omega,hr,(hMs v z).2⟩
   ·rw[Nat.mul_pow,Fy,hM,Nat.pow_add];have hc3:∀c,c<13->c ^ 3<=3 ^ c:=by decide
    exact Nat.mul_le_mul h3 (hc3 c (by omega))
   ·intro q hqk hqr;by_cases e:q=k
    ·subst e;exact⟨c,hc,hcn,⟨P,Nat.mul_comm _ _⟩,hw⟩
    ·obtain⟨d,h1,h2,h4,h5⟩:=hq q (by omega) hqr;exact⟨d,h1,h2,Nat.dvd_trans h4 ⟨c,rfl⟩,h5⟩
  ·refine⟨L,P,nd,λv hv=>?_,hP,h3,λq hqk hqr=>?_⟩
   ·obtain⟨h1,q,h2,h3⟩:=hL v hv;exact⟨h1,q,by omega,h3⟩
   ·by_cases e:q=k
    ·subst e;exact absurd hqr hr
    ·exact hq q (by omega) hqr
omit hA in
def times{c q:Nat}(h:Wg A c q q):∀t,Wg A (t*c) q q
 | 0=>by rw[Nat.zero_mul];exact .nil
 | t+1=>by rw[Nat.succ_mul];exact(times h t).trans h
def round(hn:n<=12):∃P,1<=P/\P<=81/\∀s r k k',s<n->n<=k->2*(n*n)<=k'->k % P=k' % P->Wg A k s r->Wg A k' s r:=by
 obtain⟨L,P,nd,hL,hP,h3,hq⟩:=rings hA hn n (FA _);have hl:L.length<=n:=Bfs.gQ n L nd λv hv=>(hL v hv).1;refine⟨P,hP,?_,?_⟩
 ·refine Classical.byContradiction λz=>?_;have h1:82 ^ 3<=P ^ 3:=Nat.pow_le_pow_left (by omega) 3;have h2:3 ^ L.length<=3 ^ 12:=Nat.pow_le_pow_right (by decide) (by omega);have:82 ^ 3<=3 ^ 12:=FP h1 (FP h3 h2);exact absurd this (by decide)
 ·intro s r k k' hs hk hk' hmod h;obtain⟨w,h0,hn',hS⟩:=h.fn;have hIn:∀i,i<=k->w i<n:=λi hi=>by
   cases i with
   | zero=>rw[h0];exact hs
   | succ i=>exact(hA _ _ (hS i (by omega))).2
  obtain⟨i,j,hij,hj,e⟩:=Bfs.twice (K:=n) w (λj hj=>hIn j (by omega));have loop:=seg hS (Nat.le_of_lt hij) (show j<=k by omega);rw[←e]at loop;obtain⟨q,hr,⟨⟨a,ha⟩,b,hb⟩⟩:=EC (by omega) loop;have hqn:q<n:=uC hA (hIn i (by omega)) ha;obtain⟨c,hc,hcn,hcP,hcw⟩:=hq q hqn hr;have t1:=seg hS (Nat.zero_le i) (show i<=k by omega);have t2:=seg hS (show i<=k by omega) (FA k);rw[h0]at t1;rw[hn']at t2;have u1:=t1.trans ha;have u2:=(hb.trans (times (ha.trans hb) (c-1))).trans t2;obtain⟨p1,l1,m1,w1⟩:=sf hA hc hs u1;obtain⟨p2,l2,m2,w2⟩:=sf hA hc hqn u2;have hnc:n*c<=n*n:=Nat.mul_le_mul_left _ hcn;have hle:p1+p2<=k':=by omega
  have hm:(p1+p2) % c=k' % c:=by
   have e1:(p1+p2) % c=((i-0+a)+(b+(c-1)*(a+b)+(k-i))) % c:=by rw[Nat.add_mod,m1,m2,←Nat.add_mod]
   have e2:(i-0+a)+(b+(c-1)*(a+b)+(k-i))=k+c*(a+b):=by obtain⟨d,rfl⟩:∃d,c=d+1:=⟨c-1,by omega⟩;rw[Nat.add_sub_cancel,Nat.succ_mul];omega
   rw[e1,e2,Nat.add_mul_mod_self_left];obtain⟨d,rfl⟩:=hcP;rw[←Nat.mod_mul_right_mod k c d,hmod,Nat.mod_mul_right_mod]
  obtain⟨t,ht⟩:∃t,k'=p1+p2+t*c:=by refine⟨(k'-(p1+p2)) / c,?_⟩;have hd:(k'-(p1+p2)) % c=0:=(Nat.sub_mod_eq_zero_of_mod_eq hm.symm);have:=Nat.div_add_mod (k'-(p1+p2)) c;rw[hd,Nat.mul_comm]at this;omega
  rw[ht,show p1+p2+t*c=p1+t*c+p2 by omega];exact(w1.trans (times hcw t)).trans w2
end
open St in
def BP{f:Nat->Bool}{st low b P:Nat}(h:Least f st low)(hP:1<=P)(hp:bD f b P):st ∣ P/\low<=b:=by
 have hd:st ∣ P:=by
  have p1:bD f (max b low) P:=λx hx=>hp x (by omega);have p2:bD f (max b low) st:=λx hx=>h.per x (by omega);have p3:=p1.mod p2;have hs:=h.pos;by_cases z:P % st=0
  ·exact Nat.dvd_of_mod_eq_zero z
  ·have:=h.step (P % st) _ (by omega) p3;have:=Nat.mod_lt P (show st>0 by omega);omega
 refine⟨hd,h.base b λx hx=>?_⟩;have q1:=hp.times low x hx;have q2:=hp.times low (x+st) (by omega);have hge:low<=low*P:=Nat.le_mul_of_pos_right low hP;have q3:=h.per (x+low*P) (by omega);rw[←q1,←q2,←q3];congr 1;omega
end Rnd
namespace My
open PySem L2 St
def stq (i : Nat) : Stmt := PySem.Challenge.pw_stairrooms_k44_whole_greatest_and_forwar.main.body.getD i (.Pass ⟨0, 0, 0, 0⟩)
local macro_rules|`(tactic| walk_at "cond") => `(tactic| first|decide|omega|(dsimp only; omega)|(unfold kH; omega)|(unfold ui; exact ⟨by decide, by decide, by decide⟩)|(dsimp only; exact ⟨by omega, by omega⟩)|exact .inr ⟨by decide, by decide⟩|exact .inl ⟨by decide, by decide⟩|(unfold SmallR; omega))
local macro_rules|`(tactic| walk_at"") => do
 let ts ← ("seq ret retN asg drop ifS next name var c op un CB cons nil ints test B exb not and or andV orV notV ifE yes I0 I U EqI NeI EqB NeB call BM tup lst sl noPart part exi chain comp iL iT i1 i2 i3 for tTru intB max2 min2 sub gcons gnil aug ipI zip rev par par2 lam calV raise fs try bseq bnext bplain bif bcall enum gget gin revL leS disp dget lrev disp1 din dnin dput min3 iS iD bm0 revS iD2 iLT thaw iD3 iDL dgt2 fs3 fs5".splitOn " ").toArray.mapM λn =>
  let i := Lean.mkIdent (.mkSimple ("rd_" ++ n))
  if n == "var" || n == "aug" then `(tacticSeq| ((with_reducible apply $i); (exact rfl)))
  else if n == "I" then `(tacticSeq| ((with_reducible apply $i); (walk_at "cond")))
  else `(tacticSeq| with_reducible refine $i ?_)
 `(tactic| repeat (first $[| $ts]*|dsimp only))
def bU(H:Hp)(p:Addr)(kk:List (List Key)):Prop:=∃bs:List Addr,H p=some (.tup (bs.map V.ref))/\bs.length=kk.length/\∀(j:Nat) (b:Addr) (k:List Key),bs[j]?=some b->kk[j]?=some k->H b=some (.tup (k.map kV))
def bU.ext{H H':Hp}{p:Addr}{kk:List (List Key)}(e:Ext H H')(h:bU H p kk):bU H' p kk:=by obtain⟨bs,h1,h2,h3⟩:=h;exact⟨bs,e _ _ h1,h2,λj b k e1 e2=>e _ _ (h3 j b k e1 e2)⟩
structure Blt(mg:Str->Option Value):Prop where
 len_:mg "len" = none
 isinstance_:mg "isinstance" = none
 tuple_:mg "tuple" = none
 list_:mg "list" = none
 int_:mg "int" = none
 bool_:mg "bool" = none
 range_:mg "range" = none
 zip_:mg "zip" = none
 max_:mg "max" = none
 min_:mg "min" = none
 abs_:mg "abs" = none
 all_:mg "all" = none
 enumerate_:mg "enumerate" = none
 set_:mg "set" = none
 str_:mg "str" = none
 reversed_:mg "reversed" = none
 any_:mg "any" = none
def isInt:V->Bool
 | .int _=>true
 | _=>false
def zE{H:Hp}{v:V}{n:String}(h:fi H v n):∃b c,ia n "int" = some b/\ia n "bool" = some c/\(b && !c)=isInt v:=by
 cases v with
 | non=>cases(show n = "NoneType" from h);exact⟨_,_,rfl,rfl,rfl⟩
 | bl b=>cases(show n = "bool" from h);exact⟨_,_,rfl,rfl,rfl⟩
 | int i=>cases(show n = "int" from h);exact⟨_,_,rfl,rfl,rfl⟩
 | str z=>cases(show n = "str" from h);exact⟨_,_,rfl,rfl,rfl⟩
 | ref a=>rcases h with⟨rfl,xs,e⟩|⟨rfl,xs,e⟩<;>exact⟨_,_,rfl,rfl,rfl⟩
 | _=>exact False.elim h
def i5(K:Fb):Sp:=λvs H Q _=>∃v n,vs=[v]/\fi H v n/\Q (.bl (isInt v)) H
abbrev lx:Stmt:=stq 9
def wa:FnScope ["thing"] ["thing"] (aH lx):=⟨rfl,rfl,rfl,by decide +kernel,rfl,by decide +kernel,by decide +kernel⟩
def y9{P:Program}{w:World}{K:Fb}{mg:Str->Option Value}{base:Heap}(D:Dfn K mg "is_whole" lx ["thing"])(T:Blt mg):Cal P w K mg base "is_whole" 1 ["thing"] (i5 K):=by
 have nd:=(wa).nd;refine D.ok wa (λvs H Q E h=>?_) (λX hX H vs Q E h=>?_)
 ·obtain⟨v,n,rfl,_⟩:=h;rfl
 ·obtain⟨f,cdv,A,outer,s,H0,E0,rfl,hr⟩:=hX;obtain⟨v,n,rfl,hk,q⟩:=h;obtain⟨b,c,hb,hc,e⟩:=zE hk;refine⟨_,(av (aF (di (aX dJ rfl T.isinstance_ PyProof.Rows.boot_isinstance (aa (pv 0) (aa (dO (v:=.ty "int") rfl T.int_ PyProof.Rows.boot_int rfl) af))) (dN (uW (aX dJ rfl T.isinstance_ PyProof.Rows.boot_isinstance (aa (pv 0) (aa (dO (v:=.ty "bool") rfl T.bool_ PyProof.Rows.boot_bool rfl) af)))))))),?_⟩;walk_at"";refine dG hk hb ?_;walk_at"";cases b with
  | false=>refine az ?_;rw[←e]at q;exact q
  | true=>
   refine aG ?_;walk_at"";refine dG hk hc ?_;walk_at"";rw[←e]at q;exact q
structure Way where
 room:Int
 deed:Str
 other:Int
 sign:Str
 deriving DecidableEq
abbrev Way.key(w:Way):List Key:=[.inl w.room,.inr w.deed,.inl w.other,.inr w.sign]
abbrev Way.vs(w:Way):List V:=[.int w.room,.str w.deed,.int w.other,.str w.sign]
def Way.key_inj{w u:Way}(h:w.key=u.key):w=u:=by cases w;cases u;simp only[Way.key,List.cons.injEq,Sum.inl.injEq,Sum.inr.injEq]at h;obtain⟨rfl,rfl,rfl,rfl,_⟩:=h;rfl
def vT(z:Str):Prop:=∃c:Nat,97<=c/\c<=122/\z=⟨#[c]⟩
def b9(z:Str):Prop:=z = "up"\/z = "down"\/z = "stay"\/z = "zero"
structure Way.Ok(m:Int)(w:Way):Prop where
 r0:0<=w.room
 r1:w.room<m
 o0:0<=w.other
 o1:w.other<m
 dd:b9 w.deed
 sg:vT w.sign
structure HOuse(m:Int)(ws:List Way):Prop where
 m1:1<=m
 m12:m<=12
 few:ws.length<=100
 ok:∀w∈ws,w.Ok m
 nd:ws.Nodup
def HOuse.keys{m:Int}{ws:List Way}(h:HOuse m ws):(ws.map Way.key).Nodup:=by have:=h.nd;unfold List.Nodup at this ⊢;rw[List.pairwise_map];exact this.imp λne e=>ne (Way.key_inj e)
def bj(H:Hp)(v:V)(m:Int)(ws:List Way):Prop:=∃p q,v=.ref p/\H p=some (.tup [.int m,.ref q])/\bU H q (ws.map Way.key)
def bj.ext{H H':Hp}{v:V}{m:Int}{ws:List Way}(e:Ext H H')(h:bj H v m ws):bj H' v m ws:=by obtain⟨p,q,rfl,h1,h2⟩:=h;exact⟨p,q,rfl,e _ _ h1,h2.ext e⟩
def hJ{n:Nat}(h:n<=1000):n<=sizeLine:=FP h (by decide)
def kY(K:Fb):Sp:=λvs H Q _=>∃i m,vs=[.int i,.int m]/\0<=i/\i<m/\Q (.bl true) H
abbrev oJ:Stmt:=stq 25
def rQ:FnScope ["thing","many"] ["thing","many"] (aH oJ):=⟨rfl,rfl,rfl,by decide +kernel,rfl,by decide +kernel,by decide +kernel⟩
def AF{P:Program}{w:World}{K:Fb}{mg:Str->Option Value}{base:Heap}(D:Dfn K mg "is_room" oJ ["thing","many"])(T:Blt mg)(C_is_whole:Cal P w K mg base "is_whole" 1 ["thing"] (i5 K)):Cal P w K mg base "is_room" 2 ["thing","many"] (kY K):=by
 have nd:=(rQ).nd;refine D.ok rQ (λvs H Q E h=>?_) (λX hX H vs Q E h=>?_)
 ·obtain⟨i,m,rfl,_⟩:=h;rfl
 ·obtain⟨f,cdv,A,outer,s,H0,E0,rfl,hr⟩:=hX;obtain⟨i,m,rfl,h0,h1,q⟩:=h;refine⟨_,(av (aF (di (aB C_is_whole hr (aa (pv 0) af)) (dN (i8 f7 cZ ae (pv 0) (pv 1)))))),?_⟩;walk_at"";refine⟨_,"int",rfl,rfl,?_⟩;refine rd_exb ?_;refine aG ?_;walk_at"";rw[Ga h0];refine aG ?_;walk_at"";rw[Ga h1];exact q
def oI:List (Key×V):=[(.inr "up",.str "down"),(.inr "down",.str "up"),(.inr "stay",.str "stay"),(.inr "zero",.str "zero")]
def Bu{w:World}{K:Fb}{a:Addr}{t1 t2 t3 t4 t5 t6 t7 t8:Tok}{ep:Nat}(h:K.lookup a=some (iI w [("up",t1,.str "down" t2),("down",t3,.str "up" t4),("stay",t5,.str "stay" t6),("zero",t7,.str "zero" t8)] ep))(hs:(a == sysModules)=false):GDict w K a oI:=
 ⟨⟨_,_,h,.cons ⟨rfl,⟨_,rfl⟩⟩ (.cons ⟨rfl,⟨_,rfl⟩⟩ (.cons ⟨rfl,⟨_,rfl⟩⟩ (.cons ⟨rfl,⟨_,rfl⟩⟩ .nil)))⟩,by decide +kernel,hs⟩
def yH(z:Str):Str:=if z = "up" then "down" else if z = "down" then "up" else z
def DU{z:Str}(h:b9 z):aZ oI (.inr z)=some (.str (yH z)):=by rcases h with rfl|rfl|rfl|rfl<;>decide +kernel
def rG(K:Fb):Sp:=λvs H Q _=>∃z,vs=[.str z]/\b9 z/\Q (.bl true) H
abbrev oT:Stmt:=stq 26
def yo:FnScope ["thing"] ["thing"] (aH oT):=⟨rfl,rfl,rfl,by decide +kernel,rfl,by decide +kernel,by decide +kernel⟩
def EU{P:Program}{w:World}{K:Fb}{mg:Str->Option Value}{base:Heap}(D:Dfn K mg "is_deed" oT ["thing"])(T:Blt mg)(g_TURNED:∃a,mg "TURNED" = some (.ref a)/\GDict w K a oI):Cal P w K mg base "is_deed" 1 ["thing"] (rG K):=by
 have nd:=(yo).nd;refine D.ok yo (λvs H Q E h=>?_) (λX hX H vs Q E h=>?_)
 ·obtain⟨z,rfl,_⟩:=h;rfl
 ·obtain⟨f,cdv,A,outer,s,H0,E0,rfl,hr⟩:=hX;obtain⟨a_TURNED,m_TURNED,d_TURNED⟩:=g_TURNED;obtain⟨z,rfl,hz,q⟩:=h;refine⟨_,(av (aF (di (aX dJ rfl T.isinstance_ PyProof.Rows.boot_isinstance (aa (pv 0) (aa (dO (v:=.ty "str") rfl T.str_ PyProof.Rows.boot_str rfl) af))) (dN (Ep (zS rfl m_TURNED d_TURNED (pv 0)) (by with_unfolding_all rfl)))))),?_⟩;walk_at"";refine dG (n:="str") rfl (b:=true) rfl ?_;walk_at"";refine aG ?_;walk_at"";refine⟨.inr z,rfl,?_⟩;rw[DU hz];exact q
def yM{c:Nat}(h:97<=c):(!decide (([c]:List Nat)<(FW "a").cps.toList))=true:=by
 have e:(FW "a").cps.toList=[97]:=by decide +kernel
 rw[e,F9 (λz=>by
  rw[List.cons_lt_cons_iff]at z;rcases z with z|⟨_,z⟩
  ·omega
  ·cases z)]
 rfl
def Az{c:Nat}(h:c<=122):(!decide ((FW "z").cps.toList<([c]:List Nat)))=true:=by
 have e:(FW "z").cps.toList=[122]:=by decide +kernel
 rw[e,F9 (λz=>by
  rw[List.cons_lt_cons_iff]at z;rcases z with z|⟨_,z⟩
  ·omega
  ·cases z)]
 rfl
def qv(K:Fb):Sp:=λvs H Q _=>∃z,vs=[.str z]/\vT z/\Q (.bl true) H
abbrev lj:Stmt:=stq 27
def uN:FnScope ["thing"] ["thing"] (aH lj):=⟨rfl,rfl,rfl,by decide +kernel,rfl,by decide +kernel,by decide +kernel⟩
def DE{P:Program}{w:World}{K:Fb}{mg:Str->Option Value}{base:Heap}(D:Dfn K mg "is_sign" lj ["thing"])(T:Blt mg):Cal P w K mg base "is_sign" 1 ["thing"] (qv K):=by
 have nd:=(uN).nd;refine D.ok uN (λvs H Q E h=>?_) (λX hX H vs Q E h=>?_)
 ·obtain⟨z,rfl,_⟩:=h;rfl
 ·obtain⟨f,cdv,A,outer,s,H0,E0,rfl,hr⟩:=hX;obtain⟨z,rfl,⟨c,hc1,hc2,rfl⟩,q⟩:=h;refine⟨_,(av (aF (di (aX dJ rfl T.isinstance_ PyProof.Rows.boot_isinstance (aa (pv 0) (aa (dO (v:=.ty "str") rfl T.str_ PyProof.Rows.boot_str rfl) af))) (di (dC bJ (aX yr rfl T.len_ PySem.boot_len (aa (pv 0) af)) ae (aN _)) (dN (i8 rd rd aW (pv 0) aW)))))),?_⟩;walk_at"";refine dG (n:="str") rfl (b:=true) rfl ?_;walk_at"";refine aG ?_;walk_at"";refine⟨_,rfl,hJ (show 1<=1000 by decide),?_⟩;walk_at"";refine aG ?_;walk_at"";rw[yM hc1];refine aG ?_;walk_at"";rw[Az hc2];exact q
def om{H:Hp}{p:Addr}{xs:List V}(h:H p=some (.tup xs)):fi H (.ref p) "tuple":=.inr ⟨rfl,xs,h⟩
def xB(K:Fb):Sp:=λvs H Q _=>∃p w m,vs=[.ref p,.int m]/\H p=some (.tup (Way.vs w))/\w.Ok m/\Q (.bl true) H
abbrev oK:Stmt:=stq 28
def qL:FnScope ["thing","many"] ["thing","many"] (aH oK):=⟨rfl,rfl,rfl,by decide +kernel,rfl,by decide +kernel,by decide +kernel⟩
def zL{P:Program}{w:World}{K:Fb}{mg:Str->Option Value}{base:Heap}(D:Dfn K mg "is_way" oK ["thing","many"])(T:Blt mg)(C_is_sign:Cal P w K mg base "is_sign" 1 ["thing"] (qv K))(C_is_deed:Cal P w K mg base "is_deed" 1 ["thing"] (rG K))(C_is_room:Cal P w K mg base "is_room" 2 ["thing","many"] (kY K)):Cal P w K mg base "is_way" 3 ["thing","many"] (xB K):=by
 have nd:=(qL).nd;refine D.ok qL (λvs H Q E h=>?_) (λX hX H vs Q E h=>?_)
 ·obtain⟨p,w,m,rfl,_⟩:=h;rfl
 ·obtain⟨f,cdv,A,outer,s,H0,E0,rfl,hr⟩:=hX;obtain⟨p,w,m,rfl,hp,ok,q⟩:=h;refine⟨_,(aq (bo (PW.pt (cE (bY (bB (aX dJ rfl T.isinstance_ PyProof.Rows.boot_isinstance (aa (pv 0) (aa (dO (v:=.ty "tuple") rfl T.tuple_ PyProof.Rows.boot_tuple rfl) af))))) (dj (aQ eM (aX (cQ K) rfl T.len_ PySem.boot_len (aa (pv 0) af)) ae (aN _))))) (av (aF bO)) aV)
    (aq (bo (PW.pt (cE (bY (bB (aB C_is_room hr (aa (ao (ay K) (pv 0) ae (λ_ _=>rfl)) (aa (pv 1) af))))) (dj (bY (bB (aB C_is_room hr (aa (ao (ay K) (pv 0) ae (λ_ _=>rfl)) (aa (pv 1) af)))))))) (av (aF bO)) aV)
    (av (aF (di (aB C_is_deed hr (aa (ao (ay K) (pv 0) ae (λ_ _=>rfl)) af)) (dN (aB C_is_sign hr (aa (ao (ay K) (pv 0) ae (λ_ _=>rfl)) af)))))))),?_⟩
  walk_at"";refine dG (om hp) (b:=true) rfl ?_;walk_at"";refine az ?_;walk_at"";refine gh (ah.of hp) ?_;walk_at"";refine az ?_;walk_at"";refine ax (ah.of hp) (v:=.int w.room) rfl ?_;walk_at"";refine⟨_,_,rfl,ok.r0,ok.r1,?_⟩;walk_at"";refine az ?_;walk_at"";refine ax (ah.of hp) (v:=.int w.other) rfl ?_;walk_at"";refine⟨_,_,rfl,ok.o0,ok.o1,?_⟩;walk_at"";refine az ?_;walk_at"";refine ax (ah.of hp) (v:=.str w.deed) rfl ?_;walk_at"";refine⟨_,rfl,ok.dd,?_⟩;walk_at"";refine aG ?_;walk_at"";refine ax (ah.of hp) (v:=.str w.sign) rfl ?_;walk_at"";exact⟨_,rfl,ok.sg,q⟩
def bU.item{H:Hp}{ws:List Way}{bs:List Addr}(h:∀(j:Nat) (b:Addr) (k:List Key),bs[j]?=some b->(ws.map Way.key)[j]?=some k->H b=some (.tup (k.map kV))){j:Nat}{b:Addr}{w:Way}(e1:bs[j]?=some b)(e2:ws[j]?=some w):H b=some (.tup w.vs):=
 h j b w.key e1 (by rw[Fh,e2];rfl)
def w8(K:Fb):Sp:=λvs H Q _=>∃q ws m,vs=[.ref q,.int m]/\bU H q (ws.map Way.key)/\HOuse m ws/\∀H',Ext H H'->Q (.bl true) H'
abbrev pJ:Stmt:=stq 29
def wF:FnScope ["thing","many"] ["thing","many"] (aH pJ):=⟨rfl,rfl,rfl,by decide +kernel,rfl,by decide +kernel,by decide +kernel⟩
def Bq{P:Program}{w:World}{K:Fb}{mg:Str->Option Value}{base:Heap}(D:Dfn K mg "are_ways" pJ ["thing","many"])(T:Blt mg)(g_GREATEST_WAYS:∃t,mg "GREATEST_WAYS" = some (.int 100 t))(C_is_way:Cal P w K mg base "is_way" 3 ["thing","many"] (xB K)):Cal P w K mg base "are_ways" 4 ["thing","many"] (w8 K):=by
 have nd:=(wF).nd;refine D.ok wF (λvs H Q E h=>?_) (λX hX H vs Q E h=>?_)
 ·obtain⟨p,w,m,rfl,_⟩:=h;rfl
 ·obtain⟨f,cdv,A,outer,s,H0,E0,rfl,hr⟩:=hX;obtain⟨t_GREATEST_WAYS,c_GREATEST_WAYS⟩:=g_GREATEST_WAYS;obtain⟨q,ws,m,rfl,hw,ok,qq⟩:=h;obtain⟨bs,h1,h2,h3⟩:=id hw;rw[Ff]at h2;have hfew:=ok.few;refine⟨_,(aq (bo (PW.pt (cE (bY (bB (aX dJ rfl T.isinstance_ PyProof.Rows.boot_isinstance (aa (pv 0) (aa (dO (v:=.ty "tuple") rfl T.tuple_ PyProof.Rows.boot_tuple rfl) af))))) (dj (aQ fB (aX (cQ K) rfl T.len_ PySem.boot_len (aa (pv 0) af)) (jb (v:=.int 100) rfl c_GREATEST_WAYS ⟨_,rfl⟩) (aN _))))) (av (aF bO)) aV)
    (av (aF (di (aX (jj K rfl) rfl T.all_ PyProof.Rows.boot_all (aa (de ["way"] [1] (iE K (pv 0)) (λ_=>(aM (i:=0) (show(["way","many"]:List Str).Nodup from by decide +kernel) rfl (Or.inl rfl) (Or.inr rfl))) (λ_=>dR) (λ_=>(aB C_is_way hr (aa (pv 0) (aa (pv 1) af))))) af)) (dN (dC bJ (aX Og.call_lenSet rfl T.len_ PySem.boot_len (aa (iC (Og.call_setT hr) rfl T.set_ PyProof.Rows.boot_set (aa (pv 0) af)) af)) (aX (cQ K) rfl T.len_ PySem.boot_len (aa (pv 0) af)) (aN _))))))),?_⟩
  walk_at"";refine dG (om h1) (b:=true) rfl ?_;walk_at"";refine az ?_;walk_at"";refine gh (ah.of h1) ?_;walk_at"";rw[F9 (show ¬((100:Int)<((bs.map V.ref).length:Nat)) by rw[Ff];omega)];refine az ?_;walk_at"";refine iu (ah.of h1) ?_;refine jG (xs:=bs.map V.ref) (λi ys H'=>Ext H H'/\ys=(F0 i true).map V.bl) (hJ (by rw[Ff];omega)) ⟨λ_ _ z=>z,rfl⟩ (λi ys H' hi h=>⟨ah.of (h.1 _ _ h1),by rw[h.2];simp⟩) ?_ ?_
  ·rintro i x ys H' hx ⟨e,rfl⟩;rw[Fh]at hx;obtain⟨b,hb,rfl⟩:=Fs.mp hx;have hi:i<ws.length:=by rw[←h2];exact(Fo.mp hb).1
   have hwi:ws[i]?=some ws[i]:=Fg hi;walk_at"";refine aG ?_;walk_at"";refine⟨b,ws[i],m,rfl,e _ _ (bU.item h3 hb hwi),ok.ok _ (FI hi),e,?_⟩;rw[List.replicate_succ',Fx];rfl
  ·rintro ys H' p ⟨e,rfl⟩ hp;walk_at"";have eN:Ext H (upd H' p (.lst ((F0 (bs.map V.ref).length true).map V.bl))):=e.trans (bq hp);refine⟨p,F0 (bs.map V.ref).length true,rfl,ag.of aL,?_⟩;rw[show (F0 (bs.map V.ref).length true).all id=true by simp];walk_at"";refine aG ?_;walk_at"";refine Og.rd_setOf (hw.ext eN) ok.keys (by rw[Ff];omega) λl H2 e2 hl=>?_;walk_at"";refine Og.rd_lenSet hl (by rw[Ff];omega) ?_;walk_at"";refine gh (ah.of ((eN.trans e2) _ _ h1)) ?_;walk_at"";rw[show decide (((((ws.map Way.key).length:Nat):Int))=((bs.map V.ref).length:Nat))=true by rw[Ff,Ff,h2];simp];exact qq _ (eN.trans e2)
def tQ(K:Fb):Sp:=λvs H Q _=>∃v m ws,vs=[v]/\bj H v m ws/\HOuse m ws/\∀H',Ext H H'->Q (.bl true) H'
abbrev lK:Stmt:=stq 30
def sC:FnScope ["thing"] ["thing"] (aH lK):=⟨rfl,rfl,rfl,by decide +kernel,rfl,by decide +kernel,by decide +kernel⟩
def EZ{P:Program}{w:World}{K:Fb}{mg:Str->Option Value}{base:Heap}(D:Dfn K mg "is_house" lK ["thing"])(T:Blt mg)(g_GREATEST_MANY:∃t,mg "GREATEST_MANY" = some (.int 12 t))(C_are_ways:Cal P w K mg base "are_ways" 4 ["thing","many"] (w8 K))(C_is_whole:Cal P w K mg base "is_whole" 1 ["thing"] (i5 K)):Cal P w K mg base "is_house" 5 ["thing"] (tQ K):=by
 have nd:=(sC).nd;refine D.ok sC (λvs H Q E h=>?_) (λX hX H vs Q E h=>?_)
 ·obtain⟨p,w,m,rfl,_⟩:=h;rfl
 ·obtain⟨f,cdv,A,outer,s,H0,E0,rfl,hr⟩:=hX;obtain⟨t_GREATEST_MANY,c_GREATEST_MANY⟩:=g_GREATEST_MANY;obtain⟨v,m,ws,rfl,⟨p,r,rfl,h1,h2⟩,ok,q⟩:=h;have m1:=ok.m1;have m2:=ok.m12;refine⟨_,(aq (bo (PW.pt (cE (bY (bB (aX dJ rfl T.isinstance_ PyProof.Rows.boot_isinstance (aa (pv 0) (aa (dO (v:=.ty "tuple") rfl T.tuple_ PyProof.Rows.boot_tuple rfl) af))))) (dj (aQ eM (aX (cQ K) rfl T.len_ PySem.boot_len (aa (pv 0) af)) ae (aN _))))) (av (aF bO)) aV)
    (av (aF (di (aB C_is_whole hr (aa (ao (ay K) (pv 0) ae (λ_ _=>rfl)) af)) (di (i8 f7 f7 ae (ao (ay K) (pv 0) ae (λ_ _=>rfl)) (jb (v:=.int 12) rfl c_GREATEST_MANY ⟨_,rfl⟩)) (dN (aB C_are_ways hr (aa (ao (ay K) (pv 0) ae (λ_ _=>rfl)) (aa (ao (ay K) (pv 0) ae (λ_ _=>rfl)) af))))))))),?_⟩
  walk_at"";refine dG (om h1) (b:=true) rfl ?_;walk_at"";refine az ?_;walk_at"";refine gh (ah.of h1) ?_;walk_at"";refine az ?_;walk_at"";refine ax (ah.of h1) (v:=.int m) rfl ?_;walk_at"";refine⟨_,"int",rfl,rfl,?_⟩;refine rd_exb (aG ?_);walk_at"";refine ax (ah.of h1) (v:=.int m) rfl ?_;walk_at"";rw[Ga m1];refine aG ?_;walk_at"";rw[Ga m2];refine aG ?_;walk_at"";refine ax (ah.of h1) (v:=.ref r) rfl ?_;walk_at"";refine ax (ah.of h1) (v:=.int m) rfl ?_;walk_at"";exact⟨r,ws,m,rfl,h2,ok,q⟩
def kJ(K:Fb):Sp:=λvs H Q _=>∃v m ws,vs=[v]/\bj H v m ws/\HOuse m ws/\∀H',Ext H H'->Q .non H'
abbrev pI:Stmt:=stq 31
def qQ:FnScope ["thing"] ["thing"] (aH pI):=⟨rfl,rfl,rfl,by decide +kernel,rfl,by decide +kernel,by decide +kernel⟩
def B1{P:Program}{w:World}{K:Fb}{mg:Str->Option Value}{base:Heap}(D:Dfn K mg "refuse_no_house" pI ["thing"])(T:Blt mg)(C_is_house:Cal P w K mg base "is_house" 5 ["thing"] (tQ K)):Cal P w K mg base "refuse_no_house" 6 ["thing"] (kJ K):=by
 have nd:=(qQ).nd;refine D.ok qQ (λvs H Q E h=>?_) (λX hX H vs Q E h=>?_)
 ·obtain⟨p,w,m,rfl,_⟩:=h;rfl
 ·obtain⟨f,cdv,A,outer,s,H0,E0,rfl,hr⟩:=hX;obtain⟨v,m,ws,rfl,h1,ok,q⟩:=h;refine⟨_,(av (bo (bY (bB (aB C_is_house hr (aa (pv 0) af)))) (av iB) aV)),?_⟩;walk_at"";refine⟨v,m,ws,rfl,h1,ok,λH' e=>?_⟩;refine rd_exb (az ?_);walk_at"";exact q H' e
def jl{xs:List Int}{i:Nat}{v:V}(h:(xs.map V.int)[i]?=some v):∃x,v=.int x/\xs[i]?=some x:=by
 rw[Fh]at h;cases e:xs[i]? with
 | none=>rw[e]at h;cases h
 | some x=>rw[e]at h;exact⟨x,(FX h).symm,rfl⟩
def bL{n:Nat}(h:n<=1000000):n<=sizeLine:=FP h (by decide)
def aO{xs:List V}{H:Hp}{o:HO}{Q:VK}(h:∀p H',Ext H H'->H' p=some o->H p=none->Q (.ref p) H')(hz:xs.length<=1000000:=by simp):xs.length<=sizeLine/\eI H o Q:=⟨bL hz,cn h⟩
def wJ(K:Fb):Sp:=λvs H Q _=>∃(a:Addr) (ns:List Int) (k:Int),vs=[.ref a,.int k]/\ag K H a (ns.map V.int)/\ns.length<=63/\0<=k/\∀z,Q (.int z) H
def wK{ns:List Int}{i:Int}(h0:0<=i)(h:i<ns.length):∃z,bG (ns.map V.int) i=some (.int z)/\ns[i.toNat]?=some z:=by
 have hi:i.toNat<ns.length:=by omega
 refine⟨ns[i.toNat],eR h0 ?_,Fg hi⟩;rw[Fh,Fg hi];rfl
abbrev lA:Stmt:=stq 69
def xX:FnScope ["_law_script","_law_k"] ["_law_script","_law_k"] (aH lA):=⟨rfl,rfl,rfl,by decide +kernel,rfl,by decide +kernel,by decide +kernel⟩
def zj{P:Program}{w:World}{K:Fb}{mg:Str->Option Value}{base:Heap}(D:Dfn K mg "_law_cell" lA ["_law_script","_law_k"])(T:Blt mg):Cal P w K mg base "_law_cell" 1 ["_law_script","_law_k"] (wJ K):=by
 have nd:=(xX).nd;refine D.ok xX (λvs H Q E h=>?_) (λX hX H vs Q E h=>?_)
 ·obtain⟨a,ns,k,rfl,_⟩:=h;rfl
 ·obtain⟨f,cdv,A,outer,s,H0,E0,rfl,hr⟩:=hX;obtain⟨a,ns,k,rfl,ha,hl,hk,q⟩:=h;refine⟨_,(aq (bo (aQ bJ (aX (cQ K) rfl T.len_ PySem.boot_len (aa (pv 0) af)) ae (aN _)) (av (aF (aA eP ae (aA aY (pv 1) ae)))) aV)
    (aq (bo (aQ cZ (pv 1) (aX (cQ K) rfl T.len_ PySem.boot_len (aa (pv 0) af)) (aN _)) (av (aF (ao (aJ K) (pv 0) (pv 1) (λ_ _=>rfl)))) aV)
    (av (aF (aA aY (ao (aJ K) (pv 0) (aA cJ (pv 1) (aX (cQ K) rfl T.len_ PySem.boot_len (aa (pv 0) af))) (λ_ _=>rfl)) (aA eP ae (pv 1))))))),?_⟩
  walk_at"";refine eZ ha ?_;walk_at"";rw[Ff];by_cases h0:(ns.length:Int)=0
  ·rw[Ga h0];refine aG ?_;walk_at"";exact q _
  ·rw[F9 h0];refine az ?_;walk_at"";refine eZ ha ?_;walk_at"";rw[Ff];by_cases h1:k<ns.length
   ·rw[Ga h1];refine aG ?_;obtain⟨z,hz,_⟩:=wK hk h1;walk_at"";refine aK ha hz ?_;exact q _
   ·rw[F9 h1];refine az ?_;walk_at"";refine eZ ha ?_;rw[Ff];have hp:(0:Int)<ns.length:=by omega
    refine rd_I hp ?_;obtain⟨z,hz,_⟩:=wK (ns:=ns) (Int.emod_nonneg k (by omega)) (Int.emod_lt_of_pos k hp);refine aK ha hz ?_;walk_at"";exact q _
def uz(K:Fb):Sp:=λvs H Q _=>∃c k p,vs=[.int c,.int k,.int p]/\0<=k/\k<100000/\0<p/\∀z,0<=z->z<p->Q (.int z) H
abbrev pZ:Stmt:=stq 70
def uV:FnScope ["_law_cell_here","_law_k","_law_prime","_law_far"] ["_law_cell_here","_law_k","_law_prime"] (aH pZ):=⟨rfl,rfl,rfl,by decide +kernel,rfl,by decide +kernel,by decide +kernel⟩
def CZ{P:Program}{w:World}{K:Fb}{mg:Str->Option Value}{base:Heap}(D:Dfn K mg "_law_mixed" pZ ["_law_cell_here","_law_k","_law_prime"])(T:Blt mg):Cal P w K mg base "_law_mixed" 1 ["_law_cell_here","_law_k","_law_prime"] (uz K):=by
 have nd:=(uV).nd;refine D.ok uV (λvs H Q E h=>?_) (λX hX H vs Q E h=>?_)
 ·obtain⟨c,k,p,rfl,_⟩:=h;rfl
 ·obtain⟨f,cdv,A,outer,s,H0,E0,rfl,hr⟩:=hX;obtain⟨c,k,p,rfl,hk,hk2,hp,q⟩:=h;refine⟨_,(aq (aE (i:=3) nd rfl (Or.inl rfl) (aA cJ (aA eP (aA aY (aA aY (aA aY (pv 0) (aA eP (aA eP ae (pv 1)) (pv 1))) (aA eP ae (pv 1))) ae) ae) ae))
    (aq (aE (i:=3) nd rfl (Or.inl rfl) (aA cJ (aA eP (pv 3) (pv 3)) ae))
    (av (aF (aA cJ (aA eP (pv 3) ae) (pv 2)))))),?_⟩
  walk_at"";exact q _ (Int.emod_nonneg _ (by omega)) (Int.emod_lt_of_pos _ hp)
def cb{H H2:Hp}{q:Addr}{o:HO}(e:Ext H H2)(hq:H q=none):Ext H (upd H2 q o):=λb u hb=>by rw[aC (cq hb hq)];exact e b u hb
def fo(K:Fb):Sp:=λvs H Q _=>∃(c:Int) (w:Addr) (ws:List Int) (p:Int),vs=[.int c,.ref w,.int p]/\H w=some (.lst (ws.map V.int))/\(∀x∈ws,0<x/\x<2 ^ 40)/\ws.length<=10000/\0<p ∧
 ∀(q:Addr) (ds:List Int) (H':Hp),Ext H H'->H' q=some (.lst (ds.map V.int))->H q=none->ds.length=ws.length->(∀(i:Nat) d x,ds[i]?=some d->ws[i]?=some x->0<=d/\d<x)->Q (.ref q) H'
def jJ{K:Fb}{H:Hp}{c:Int}{w:Addr}{p:Int}{Q:VK}{xe:XK}(ws:List Int)(h1:H w=some (.lst (ws.map V.int)))(h2:∀x∈ws,0<x/\x<2 ^ 40)(h3:ws.length<=10000)(h4:0<p)
  (k:∀(q:Addr) (ds:List Int) (H':Hp),Ext H H'->H' q=some (.lst (ds.map V.int))->H q=none->ds.length=ws.length->(∀(i:Nat) d x,ds[i]?=some d->ws[i]?=some x->0<=d/\d<x)->Q (.ref q) H'):fo K [.int c,.ref w,.int p] H Q xe:=⟨c,w,ws,p,rfl,h1,h2,h3,h4,k⟩
abbrev oA:Stmt:=stq 71
def qP:FnScope ["_law_cell_here","_law_widths","_law_prime","_law_left","_law_found","_law_k"] ["_law_cell_here","_law_widths","_law_prime"] (aH oA):=⟨rfl,rfl,rfl,by decide +kernel,rfl,by decide +kernel,by decide +kernel⟩
def Dk{P:Program}{w:World}{K:Fb}{mg:Str->Option Value}{base:Heap}(D:Dfn K mg "_law_draws" oA ["_law_cell_here","_law_widths","_law_prime"])(T:Blt mg)(C__law_mixed:Cal P w K mg base "_law_mixed" 1 ["_law_cell_here","_law_k","_law_prime"] (uz K)):Cal P w K mg base "_law_draws" 2 ["_law_cell_here","_law_widths","_law_prime"] (fo K):=by
 have nd:=(qP).nd;refine D.ok qP (λvs H Q E h=>?_) (λX hX H vs Q E h=>?_)
 ·obtain⟨c,w,ws,p,rfl,_⟩:=h;rfl
 ·obtain⟨f,cdv,A,outer,s,H0,E0,rfl,hr⟩:=hX;obtain⟨c,w,ws,p,rfl,hw,hpos,hlen,hp,q⟩:=h;refine⟨_,(aq (aE (i:=3) nd rfl (Or.inl rfl) ae)
    (aq (cU (aQ mO (pv 0) (aA jq ae ae) (aN _)) (av (aE (i:=3) nd rfl (Or.inl rfl) (aA dD (pv 0) (aA jq ae ae)))) aV)
    (aq (aE (i:=4) nd rfl (Or.inl rfl) (bx af))
    (aq (bM PassesOwn.never rfl (cW rfl T.range_ (aa (aX (cQ K) rfl T.len_ PySem.boot_len (aa (pv 1) af)) af)) (aM (i:=5) nd rfl (Or.inl rfl)) (av (cU (aQ fB (pv 3) ae (aN _)) (aq (bp (bF K Fn FC FD bN (pv 4) (aa (aA cJ (pv 3) (ao (aJ K) (pv 1) (pv 5) (λ_ _=>rfl))) af)))
    (av (aE (i:=3) nd rfl (Or.inl rfl) (aA uS (pv 3) (ao (aJ K) (pv 1) (pv 5) (λ_ _=>rfl)))))) (av (bp (bF K Fn FC FD bN (pv 4) (aa (aA cJ (aB C__law_mixed hr (aa (pv 0) (aa (pv 5) (aa (pv 2) af)))) (ao (aJ K) (pv 1) (pv 5) (λ_ _=>rfl))) af)))))))
    (av (aF (pv 4))))))),?_⟩
  walk_at"";refine gE (λσ' H'=>H'=H/\∃l,σ'=[some (.int c),some (.ref w),some (.int p),some (.int l),none,none]) ?_ ?_
  ·walk_at"";refine fE (λh=>?_) (λh=>?_)
   ·walk_at"";exact⟨rfl,_,rfl⟩
   ·walk_at"";exact⟨rfl,_,rfl⟩
  rintro σ' H' ⟨rfl,l,rfl⟩;walk_at"";refine aO λf H1 e1 hf hfn=>?_;walk_at"";refine eZ (ag.of (e1 _ _ hw)) ?_;rw[Ff];walk_at"";refine cR (by omega) ?_;refine forR (λi σ H2=>Ext H' H2/\∃(l:Int) (k:Option V) (ds:List Int),σ=[some (.int c),some (.ref w),some (.int p),some (.int l),some (.ref f),k]/\H2 f=some (.lst (ds.map V.int))/\ds.length=i/\∀(i:Nat) d x,ds[i]?=some d->ws[i]?=some x->0<=d/\d<x)
   ⟨e1,l,none,[],rfl,hf,rfl,λi d x hd=>by simp at hd⟩ ?_ ?_
  ·rintro i σ H2 hi ⟨e2,l,k,ds,rfl,hf2,hds,hb⟩;rw[Ft]at hi;have hwi:ws[i]?=some ws[i]:=Fg hi;have hx:=hpos ws[i] (FI hi);have hat:bG (ws.map V.int) (0+(i:Int))=some (.int ws[i]):=by rw[Int.zero_add];exact cP (by rw[Fh,hwi];rfl)
   have next:∀d,0<=d->d<ws[i]->∀(j:Nat) (d' x:Int),(ds++[d])[j]?=some d'->ws[j]?=some x->0<=d'/\d'<x:=λd h0 h1 j d' x hj hx'=>by
    rcases F2 j ds.length with h|h
    ·rw[FH h]at hj;exact hb j d' x hj hx'
    ·rw[FG h]at hj;have hj0:j-ds.length=0:=by
      rcases Nat.eq_zero_or_pos (j-ds.length)with h|h
      ·exact h
      ·rw[List.getElem?_eq_none (by simp;omega)]at hj;cases hj
     rw[hj0]at hj;have hji:j=i:=by omega
     subst hji;rw[hwi]at hx';cases hx';have:d=d':=by simpa using hj
     rw[←this];exact⟨h0,h1⟩
   walk_at"";refine cC ?_;walk_at"";refine fE (λh=>?_) (λh=>?_)
   ·have h':1<l:=by simpa using h
    walk_at"";refine⟨cN (ag.of hf2),?_⟩;walk_at"";refine aK (ag.of (e2 _ _ hw)) hat ?_;refine rd_I (show 0<ws[i] by omega) ?_;walk_at"";refine bK hf2 (by rw[Ff];exact Nat.lt_of_le_of_lt (show ds.length<=10000 by omega) (by decide)) ?_;walk_at"";refine aK (ag.of (cb e2 hfn _ _ hw)) hat ?_;refine rd_I (show 0<ws[i]/\ws[i]<2 ^ 64 by omega) ?_;walk_at"";refine⟨cb e2 hfn,_,_,ds++[l % ws[i]],rfl,?_,by rw[Fy,hds];rfl,next _ (Int.emod_nonneg _ (by omega)) (Int.emod_lt_of_pos _ (by omega))⟩;rw[aL,Fx];rfl
   ·walk_at"";refine⟨cN (ag.of hf2),?_⟩;walk_at"";refine⟨c,0+(i:Int),p,rfl,by omega,by omega,hp,λz hz0 hz1=>?_⟩;walk_at"";refine aK (ag.of (e2 _ _ hw)) hat ?_;refine rd_I (show 0<ws[i] by omega) ?_;walk_at"";refine bK hf2 (by rw[Ff];exact Nat.lt_of_le_of_lt (show ds.length<=10000 by omega) (by decide)) ?_;walk_at"";refine⟨cb e2 hfn,_,_,ds++[z % ws[i]],rfl,?_,by rw[Fy,hds];rfl,next _ (Int.emod_nonneg _ (by omega)) (Int.emod_lt_of_pos _ (by omega))⟩;rw[aL,Fx];rfl
  ·rintro σ H2 ⟨e2,l,k,ds,rfl,hf2,hds,hb⟩;walk_at"";exact q f ds H2 e2 hf2 hfn (by rw[hds,Ft]) hb
def uv(K:Fb):Sp:=λvs H Q _=>∃c w,vs=[.int c,.int w]/\0<w/\w<2 ^ 64/\∀z,Q (.int z) H
abbrev oE:Stmt:=stq 72
def xT:FnScope ["_law_cell_here","_law_width"] ["_law_cell_here","_law_width"] (aH oE):=⟨rfl,rfl,rfl,by decide +kernel,rfl,by decide +kernel,by decide +kernel⟩
def Ab{P:Program}{w:World}{K:Fb}{mg:Str->Option Value}{base:Heap}(D:Dfn K mg "_law_spare" oE ["_law_cell_here","_law_width"])(T:Blt mg):Cal P w K mg base "_law_spare" 1 ["_law_cell_here","_law_width"] (uv K):=by
 have nd:=(xT).nd;refine D.ok xT (λvs H Q E h=>?_) (λX hX H vs Q E h=>?_)
 ·obtain⟨c,w,rfl,_⟩:=h;rfl
 ·obtain⟨f,cdv,A,outer,s,H0,E0,rfl,hr⟩:=hX;obtain⟨c,w,rfl,h1,h2,q⟩:=h;refine⟨_,(aq (bo (aQ mO (pv 0) (aA jq ae ae) (aN _)) (av (aF (aA aY (aA uS (aA dD (pv 0) (aA jq ae ae)) (pv 1)) (aA jq ae ae)))) aV)
    (av (aF (aA aY (pv 0) ae)))),?_⟩
  walk_at"";refine fE (λh=>?_) (λh=>?_)
  ·walk_at"";exact q _
  ·walk_at"";exact q _
def aU(H:Hp)(bs:List Addr)(ws:List Way):Prop:=bs.length=ws.length/\∀(j:Nat) (b:Addr) (w:Way),bs[j]?=some b->ws[j]?=some w->H b=some (.tup w.vs)
def aU.ext{H H':Hp}{bs:List Addr}{ws:List Way}(e:Ext H H')(h:aU H bs ws):aU H' bs ws:=⟨h.1,λj b w e1 e2=>e _ _ (h.2 j b w e1 e2)⟩
def aU.put{H:Hp}{f:Addr}{xs ys:List V}{bs:List Addr}{ws:List Way}(hf:H f=some (.lst xs))(h:aU H bs ws):aU (upd H f (.lst ys)) bs ws:=⟨h.1,λj b w e1 e2=>by have:=h.2 j b w e1 e2;rw[aC (cF this hf (by intro z;cases z))];exact this⟩
def aU.nil(H:Hp):aU H [] []:=⟨rfl,λj b w e=>by simp at e⟩
def aU.snoc{H:Hp}{bs:List Addr}{ws:List Way}{b:Addr}{w:Way}(h:aU H bs ws)(hb:H b=some (.tup w.vs)):aU H (bs++[b]) (ws++[w]):=by
 refine⟨by simp[h.1],λj b' w' e1 e2=>?_⟩;rcases F2 j bs.length with hj|hj
 ·rw[FH hj]at e1;rw[FH (by rw[←h.1];exact hj)]at e2;exact h.2 j b' w' e1 e2
 ·rw[FG hj]at e1;rw[FG (by rw[←h.1];exact hj),←h.1]at e2;cases hk:j-bs.length with
  | zero=>
   rw[hk]at e1 e2;cases e1;cases e2;exact hb
  | succ k=>rw[hk]at e1;simp at e1
def aU.ways{H:Hp}{p:Addr}{bs:List Addr}{ws:List Way}(h:aU H bs ws)(hp:H p=some (.tup (bs.map V.ref))):bU H p (ws.map Way.key):=
 ⟨bs,hp,by rw[Ff];exact h.1,λj b k e1 e2=>by rw[Fh]at e2;obtain⟨w,hw,rfl⟩:=Fs.mp e2;exact h.2 j b w e1 hw⟩
def bU.al{H:Hp}{p:Addr}{ws:List Way}(h:bU H p (ws.map Way.key)):∃bs:List Addr,H p=some (.tup (bs.map V.ref))/\aU H bs ws:=by obtain⟨bs,h1,h2,h3⟩:=h;rw[Ff]at h2;exact⟨bs,h1,h2,λj b w e1 e2=>bU.item h3 e1 e2⟩
abbrev Way.D(w:Way):PyData:=.tuple [.int w.room,.str w.deed,.int w.other,.str w.sign]
structure Way.Lay(w:Way):Prop where
 d:(PyData.str w.deed).canLay0=true
 s:(PyData.str w.sign).canLay0=true
def zR:∀c:Fin 123,97<=c.1->(PyData.str ⟨#[c.1]⟩).canLay0=true:=by decide +kernel
def Way.Ok.lay{m:Int}{w:Way}(h:w.Ok m):w.Lay:=by
 constructor
 ·rcases h.dd with e|e|e|e<;>rw[e]<;>decide +kernel
 ·obtain⟨c,h1,h2,e⟩:=h.sg;rw[e];exact zR ⟨c,Nat.lt_succ_of_le h2⟩ h1
def Way.rep{H:Hp}{b:Addr}{w:Way}(h:H b=some (.tup w.vs))(l:w.Lay):bf H 1 (.ref b) w.D:=
 .inr ⟨b,w.vs,_,rfl,.inl ⟨h,rfl⟩,.cons rfl (.cons ⟨rfl,l.d⟩ (.cons rfl (.cons ⟨rfl,l.s⟩ .nil)))⟩
def Way.eqv(w u:Way):PyData.eqv w.D u.D=decide (w=u):=by
 simp only[PyData.eqv,PyData.eqvAll];by_cases h:w=u
 ·subst h;simp
 ·rw[F9 h];obtain⟨a,b,c,d⟩:=w;obtain⟨a',b',c',d'⟩:=u;simp only[Way.mk.injEq,not_and]at h;simp only[Bool.and_true,Bool.and_eq_false_iff,beq_eq_false_iff_ne];by_cases h1:a=a'
  ·by_cases h2:b=b'
   ·by_cases h3:c=c'
    ·exact .inr (.inr (.inr (h h1 h2 h3)))
    ·exact .inr (.inr (.inl h3))
   ·exact .inr (.inl h2)
  ·exact .inl h1
def aU.reps{H:Hp}:∀{bs:List Addr} {ws:List Way},aU H bs ws->(∀w∈ws,w.Lay)->Paired (bf H 1) (bs.map V.ref) (ws.map Way.D)
 | [],[],_,_=>.nil
 | [],_::_,h,_=>by cases h.1
 | _::_,[],h,_=>by cases h.1
 | b::bs,w::ws,h,l=>.cons (Way.rep (h.2 0 b w rfl rfl) (l w Fm)) (aU.reps ⟨Nat.succ.inj h.1,λj b w e1 e2=>h.2 (j+1) b w e1 e2⟩ λu hu=>l u (Fi _ hu))
def A2(ws:List Way)(w:Way):((ws.map Way.D).any λe=>PyData.eqv e w.D)=decide (w∈ws):=by
 rw[List.any_map];induction ws with
 | nil=>rfl
 | cons u ws ih=>
  rw[List.any_cons,ih,Function.comp_apply,Way.eqv];by_cases h:w∈ws
  ·simp[h]
  ·by_cases e:u=w
   ·simp[e]
   ·have:¬w=u:=λz=>e z.symm;simp[h,e,this]
def mf(K:Fb):Sp:=λvs H Q _=>∃l bs ws,vs=[.ref l]/\H l=some (.lst (bs.map V.ref))/\aU H bs ws/\(∀w∈ws,Way.Lay w)/\ws.length<=200 ∧
 ∀q H' us,Ext H H'->bU H' q (List.map Way.key us)->us.Nodup->(∀u∈us,u∈ws)->us.length<=ws.length->Q (.ref q) H'
abbrev lR:Stmt:=stq 73
def vc:FnScope ["_law_ways","_law_found","_law_way"] ["_law_ways"] (aH lR):=⟨rfl,rfl,rfl,by decide +kernel,rfl,by decide +kernel,by decide +kernel⟩
def Cn{P:Program}{w:World}{K:Fb}{mg:Str->Option Value}{base:Heap}(D:Dfn K mg "_law_unlike" lR ["_law_ways"])(T:Blt mg):Cal P w K mg base "_law_unlike" 1 ["_law_ways"] (mf K):=by
 have nd:=(vc).nd;refine D.ok vc (λvs H Q E h=>?_) (λX hX H vs Q E h=>?_)
 ·obtain⟨l,bs,ws,rfl,_⟩:=h;rfl
 ·obtain⟨f,cdv,A,outer,s,H0,E0,rfl,hr⟩:=hX;obtain⟨l,bs,ws,rfl,hl,al,lay,hlen,q⟩:=h;refine⟨_,(aq (aE (i:=1) nd rfl (Or.inl rfl) (bx af))
    (aq (bM PassesOwn.never rfl (bW K (pv 0)) (aM (i:=2) nd rfl (Or.inl rfl)) (av (cU (aQ (vg hr) (pv 2) (pv 1) (by with_unfolding_all rfl)) (av (bp (bF K Fn FC FD bN (pv 1) (aa (pv 2) af)))) aV)))
    (av (aF (iC (kF K) rfl T.tuple_ PyProof.Rows.boot_tuple (aa (pv 1) af)))))),?_⟩
  walk_at"";refine aO λf H1 e1 hf hfn=>?_;walk_at"";refine bZ (ag.of (e1 _ _ hl)) ?_;refine forL (xs:=bs.map V.ref) (λi σ H2=>Ext H H2/\∃(k:Option V) (cs:List Addr) (us:List Way),σ=[some (.ref l),some (.ref f),k]/\H2 f=some (.lst (cs.map V.ref))/\aU H2 cs us/\us.Nodup/\(∀u∈us,u∈ws)/\us.length<=i)
   ⟨e1,none,[],[],rfl,hf,aU.nil _,List.nodup_nil,λu hu=>by simp at hu,FA _⟩ (λi σ H2 _ h=>ag.of (h.1 _ _ hl)) ?_ ?_
  ·rintro i x σ H2 hx ⟨e2,k,cs,us,rfl,hf2,al2,nd2,sub2,len2⟩;rw[Fh]at hx;obtain⟨b,hb,rfl⟩:=Fs.mp hx;have hi:i<ws.length:=by rw[←al.1];exact(Fo.mp hb).1
   have hwi:ws[i]?=some ws[i]:=Fg hi;have hbw:=e2 _ _ (al.2 i b _ hb hwi);walk_at"";refine cC ?_;walk_at"";refine qr (Way.rep hbw (lay _ (FI hi))) hf2 (al2.reps λu hu=>lay u (sub2 u hu)) (by decide) ?_;simp only[if_true,A2];refine rd_exb ?_;by_cases hm:ws[i]∈us
   ·rw[Ga hm];refine az ?_;walk_at"";exact⟨e2,_,cs,us,rfl,hf2,al2,nd2,sub2,by omega⟩
   ·rw[F9 hm];refine aG ?_;walk_at"";refine⟨cN (ag.of hf2),?_⟩;walk_at"";refine bK hf2 (by rw[Ff,al2.1];exact Nat.lt_of_le_of_lt (show us.length<=1000 by omega) (by decide)) ?_;walk_at"";refine⟨cb e2 hfn,_,cs++[b],us++[ws[i]],rfl,by rw[aL,Fx];rfl,(al2.put hf2).snoc ?_,?_,?_,by simp;omega⟩
    ·rw[aC (cF hbw hf2 (by intro z;cases z))];exact hbw
    ·rw[List.nodup_append];exact⟨nd2,by simp,λa ha c hc=>by rw[Fq.mp hc];exact λz=>hm (z ▸ ha)⟩
    ·intro u hu;rcases FE.mp hu with hu|hu
     ·exact sub2 u hu
     ·rw[Fq.mp hu];exact FI hi
  ·rintro σ H2 ⟨e2,k,cs,us,rfl,hf2,al2,nd2,sub2,len2⟩;walk_at"";refine kc (ag.of hf2) (cn λp H3 e3 hp _=>?_);exact q p H3 us (e2.trans e3) ((al2.ext e3).ways hp) nd2 sub2 (by rw[Ff,al.1]at len2;exact len2)
def kg(z:Str):Prop:=∃c:Nat,97<=c/\c<=99/\z=⟨#[c]⟩
structure Way.Ok3(m:Int)(w:Way):Prop where
 r0:0<=w.room
 r1:w.room<m
 o0:0<=w.other
 o1:w.other<m
 dd:b9 w.deed
 sg:kg w.sign
structure HOuse3(m:Int)(ws:List Way):Prop where
 m1:1<=m
 m12:m<=12
 few:ws.length<=100
 ok:∀w∈ws,w.Ok3 m
 nd:ws.Nodup
def Way.Ok3.ok{m:Int}{w:Way}(h:w.Ok3 m):w.Ok m:=by obtain⟨c,h1,h2,h3⟩:=h.sg;exact⟨h.r0,h.r1,h.o0,h.o1,h.dd,c,h1,by omega,h3⟩
def Way.Ok3.lay{m:Int}{w:Way}(h:w.Ok3 m):w.Lay:=h.ok.lay
def HOuse3.house{m:Int}{ws:List Way}(h:HOuse3 m ws):HOuse m ws:=⟨h.m1,h.m12,h.few,λw hw=>(h.ok w hw).ok,h.nd⟩
def zt{ds:List Int}{i:Nat}(h:i+4<=ds.length):∃a b c d,bV (ds.map V.int) (some (i:Int)) (some ((i+4:Nat):Int))=[.int a,.int b,.int c,.int d]/\ds[i]?=some a/\ds[i+1]?=some b/\ds[i+2]?=some c/\ds[i+3]?=some d:=by refine⟨ds[i],ds[i+1],ds[i+2],ds[i+3],?_,Fg _,Fg _,Fg _,Fg _⟩;unfold bV;rw[HT.wd,HT.wd,Ff,Nat.min_eq_left (by omega),Nat.min_eq_left (by omega),show i+4-i=4 by omega,←List.map_drop,←List.map_take];rw[List.drop_eq_getElem_cons (show i<ds.length by omega),List.drop_eq_getElem_cons (show i+1<ds.length by omega),List.drop_eq_getElem_cons (show i+1+1<ds.length by omega),List.drop_eq_getElem_cons (show i+1+1+1<ds.length by omega)];rfl
def eY:List Int:=[8,12,13,31]++(F0 30 ([12,6,12,3]:List Int)).flatten
def BN{k:Nat}(h:k<30):eY[4+4*k]?=some 12/\eY[4+4*k+1]?=some 6/\eY[4+4*k+2]?=some 12/\eY[4+4*k+3]?=some 3:=by
 have:∀k:Fin 30,eY[4+4*k.val]?=some 12/\eY[4+4*k.val+1]?=some 6/\eY[4+4*k.val+2]?=some 12/\eY[4+4*k.val+3]?=some 3:=by decide +kernel
 exact this ⟨k,h⟩
def q9(K:Fb):Sp:=λvs H Q _=>∃c p,vs=[.int c,.int p]/\0<p/\∀v m ws H',Ext H H'->bj H' v m ws->HOuse3 m ws->Q v H'
def Dz{e:Int}(h0:0<=e)(h1:e<6):∃z,bG ([.str "up",.str "down",.str "stay",.str "zero",.str "up",.str "down"]:List V) e=some (.str z)/\b9 z:=by
 have:e=0\/e=1\/e=2\/e=3\/e=4\/e=5:=by omega
 rcases this with rfl|rfl|rfl|rfl|rfl|rfl
 ·exact⟨_,rfl,.inl rfl⟩
 ·exact⟨_,rfl,.inr (.inl rfl)⟩
 ·exact⟨_,rfl,.inr (.inr (.inl rfl))⟩
 ·exact⟨_,rfl,.inr (.inr (.inr rfl))⟩
 ·exact⟨_,rfl,.inl rfl⟩
 ·exact⟨_,rfl,.inr (.inl rfl)⟩
def Cb:(FW "abc").cps.toList=[97,98,99]:=by decide +kernel
def A5{e:Int}(h0:0<=e)(h1:e<3):∃c,bG (FW "abc").cps.toList e=some c/\97<=c/\c<=99:=by
 rw[Cb];have:e=0\/e=1\/e=2:=by omega
 rcases this with rfl|rfl|rfl
 ·exact⟨97,rfl,by decide,by decide⟩
 ·exact⟨98,rfl,by decide,by decide⟩
 ·exact⟨99,rfl,by decide,by decide⟩
def Ex{e:Int}(h0:0<=e)(h1:e<8):∃w:Int,bG (([4,4,4,5,3,2,5,12]:List Int).map V.int) e=some (.int w)/\1<=w/\w<=12:=by
 obtain⟨n,rfl⟩:=Int.eq_ofNat_of_zero_le h0;have hn:n<8:=Int.ofNat_lt.mp h1;have key:∀i:Fin 8,1<=([4,4,4,5,3,2,5,12]:List Int)[i]/\([4,4,4,5,3,2,5,12]:List Int)[i]<=12:=by decide
 exact⟨([4,4,4,5,3,2,5,12]:List Int)[n],cP (by rw[Fh,Fg hn];rfl),key ⟨n,hn⟩⟩
def bj.mk{H:Hp}{p q:Addr}{m:Int}{ws:List Way}(h1:H p=some (.tup [.int m,.ref q]))(h2:bU H q (ws.map Way.key)):bj H (.ref p) m ws:=⟨p,q,rfl,h1,h2⟩
abbrev oQ:Stmt:=stq 74
def vI:FnScope ["_law_cell_here","_law_prime","_law_draws_here","_law_many","_law_often","_law_ways","_law_k","_law_room","_law_deed","_law_other","_law_sign","_law_word"] ["_law_cell_here","_law_prime"] (aH oQ):=⟨rfl,rfl,rfl,by decide +kernel,rfl,by decide +kernel,by decide +kernel⟩
def zF{P:Program}{w:World}{K:Fb}{mg:Str->Option Value}{base:Heap}(D:Dfn K mg "_law_drawn_house" oQ ["_law_cell_here","_law_prime"])(T:Blt mg)(C__law_unlike:Cal P w K mg base "_law_unlike" 1 ["_law_ways"] (mf K))(C__law_draws:Cal P w K mg base "_law_draws" 2 ["_law_cell_here","_law_widths","_law_prime"] (fo K)):Cal P w K mg base "_law_drawn_house" 3 ["_law_cell_here","_law_prime"] (q9 K):=by
 have nd:=(vI).nd;refine D.ok vI (λvs H Q E h=>?_) (λX hX H vs Q E h=>?_)
 ·obtain⟨c,p,rfl,_⟩:=h;rfl
 ·obtain⟨f,cdv,A,outer,s,H0,E0,rfl,hr⟩:=hX;obtain⟨c,p,rfl,hp,q⟩:=h;refine⟨_,(@aq _ _ _ _ _ (@aE _ _ 2 _ _ _ _ nd rfl (Or.inl rfl) (aB C__law_draws hr (@aa _ _ _ _ _ (pv 0) (@aa _ _ _ _ _ (aA kE (@bx _ _ _ _ (iq (.c (.c (.c (.c .n)))))) (aA pf (@bx _ _ _ _ (iq (.c (.c (.c (.c .n)))))) ae)) (@aa _ _ _ _ _ (pv 1) af rfl) rfl) rfl)) rfl (Or.inl rfl))
    (@aq _ _ _ _ _ (@aE _ _ 3 _ _ _ _ nd rfl (Or.inl rfl) (aA aY ae (aA cJ (@ao _ _ _ _ _ _ _ (aJ K) (pv 2) ae (λ_ _=>rfl)) (@ao _ _ _ _ _ _ _ (aJ K) (@bx _ _ _ _ (iq (.c (.c (.c (.c (.c (.c (.c (.c .n)))))))))) (@ao _ _ _ _ _ _ _ (aJ K) (pv 2) ae (λ_ _=>rfl)) (λ_ _=>rfl)))) rfl (Or.inl rfl))
    (@aq _ _ _ _ _ (@aE _ _ 4 _ _ _ _ nd rfl (Or.inl rfl) (@ao _ _ _ _ _ _ _ (aJ K) (pv 2) ae (λ_ _=>rfl)) rfl (Or.inl rfl))
    (@aq _ _ _ _ _ (cU (aQ bJ (@ao _ _ _ _ _ _ _ (aJ K) (pv 2) ae (λ_ _=>rfl)) ae (aN _)) (@av _ _ _ (@aE _ _ 4 _ _ _ _ nd rfl (Or.inl rfl) (@ao _ _ _ _ _ _ _ (aJ K) (pv 2) ae (λ_ _=>rfl)) rfl (Or.inl rfl))) aV)
    (@aq _ _ _ _ _ (@aE _ _ 5 _ _ _ _ nd rfl (Or.inl rfl) (@bx _ _ _ _ af) rfl (Or.inl rfl))
    (@aq _ _ _ _ _ (bM PassesOwn.never rfl (cW rfl T.range_ (@aa _ _ _ _ _ (pv 4) af rfl)) (aM (i:=6) nd rfl (Or.inl rfl)) (@aq _ _ _ _ _ (@gU _ _ _ _ _ _ (fY (gC K) (pv 2) (eX (aA aY ae (aA eP ae (pv 6)))) (eX (aA aY ae (aA eP ae (pv 6))))) (AB (n:=4) K rfl (bE (aM (i:=7) nd rfl (Or.inl rfl)) (bE (aM (i:=8) nd rfl (Or.inl rfl)) (bE (aM (i:=9) nd rfl (Or.inl rfl)) (bE (aM (i:=10) nd rfl (Or.inl rfl)) dI))))) rfl rfl rfl)
    (@aq _ _ _ _ _ (@aE _ _ 11 _ _ _ _ nd rfl (Or.inl rfl) (@ao _ _ _ _ _ _ _ (aJ K) (@bx _ _ _ _ (@aa _ _ _ _ _ aW (@aa _ _ _ _ _ aW (@aa _ _ _ _ _ aW (@aa _ _ _ _ _ aW (@aa _ _ _ _ _ aW (@aa _ _ _ _ _ aW af rfl) rfl) rfl) rfl) rfl) rfl)) (pv 8) (λ_ _=>rfl)) rfl (Or.inl rfl))
    (@av _ _ _ (bp (bF K Fn FC FD bN (pv 5) (@aa _ _ _ _ _ (@bz _ _ _ _ _ (@aa _ _ _ _ _ (aA cJ (pv 7) (pv 3)) (@aa _ _ _ _ _ (pv 11) (@aa _ _ _ _ _ (aA cJ (pv 9) (pv 3)) (@aa _ _ _ _ _ (@ao _ _ _ _ _ _ _ vJ aW (pv 10) (λ_ _=>rfl)) af rfl) rfl) rfl) rfl)) af rfl)))))))
    (@av _ _ _ (@aF _ _ _ _ (@bz _ _ _ _ _ (@aa _ _ _ _ _ (pv 3) (@aa _ _ _ _ _ (aB C__law_unlike hr (@aa _ _ _ _ _ (pv 5) af rfl)) af rfl) rfl)))))))))),?_⟩
  walk_at"";refine aO λw0 G1 f1 hw0 _=>?_;walk_at"";refine aO λw1 G2 f2 hw1 _=>?_;walk_at"";refine lY hw1 (by omega) (bL (by decide)) (cn λw2 G3 f3 hw2 _=>?_);walk_at"";refine jT (f3 _ _ (f2 _ _ hw0)) hw2 (bL (by decide)) (cn λw3 G4 f4 hw3 _=>?_);walk_at"";refine jJ eY hw3 (by decide +kernel) (by decide +kernel) (hp) λdq ds H1 e1 hd hdn hl hb=>?_;have eH:Ext H H1:=f1.trans (f2.trans (f3.trans (f4.trans e1)));have hl':ds.length=124:=hl;have at_:∀(i:Nat) (x:Int),eY[i]?=some x->∃d,ds[i]?=some d/\0<=d/\d<x:=λi x hx=>by
   have hi:i<ds.length:=by rw[hl];exact(Fo.mp hx).1
   exact⟨ds[i],Fg hi,hb i _ x (Fg hi) hx⟩
  obtain⟨d0,g0,b00,b01⟩:=at_ 0 8 rfl;obtain⟨d1,g1,b10,b11⟩:=at_ 1 12 rfl;obtain⟨d2,g2,b20,b21⟩:=at_ 2 13 rfl;obtain⟨d3,g3,b30,b31⟩:=at_ 3 31 rfl;have pick:∀{i:Nat} {d:Int},ds[i]?=some d->bG (ds.map V.int) (i:Int)=some (.int d):=λ{i d} h=>cP (by rw[Fh,h];rfl);walk_at"";refine aK (ag.of hd) (pick (i:=1) g1) ?_;walk_at"";refine aO λmq H2 e2 hmq _=>?_;walk_at"";refine aK (ag.of (e2 _ _ hd)) (pick (i:=0) g0) ?_;obtain⟨w,hw,hw1',hw2'⟩:=Ex b00 b01;refine aK (ag.of hmq) hw ?_
  try refine rd_I (show(0:Int)<w by omega) ?_
  walk_at"";have r0:0<=d1 % w:=Int.emod_nonneg _ (by omega);have r1:d1 % w<w:=Int.emod_lt_of_pos _ (by omega);obtain⟨m,hm,m1,m2⟩:∃m,1+d1 % w=m/\1<=m/\m<=12:=⟨_,rfl,by omega,by omega⟩;rw[hm];refine aK (ag.of (e2 _ _ hd)) (pick (i:=2) g2) ?_;walk_at"";have eH2:Ext H H2:=eH.trans e2;have hd2:=e2 _ _ hd;refine gE (λσ' H'=>H'=H2/\∃o:Nat,o<=30/\σ'=[some (.int c),some (.int p),some (.ref dq),some (.int m),some (.int o),none,none,none,none,none,none,none]) ?_ ?_
  ·walk_at"";refine aK (ag.of hd2) (pick (i:=0) g0) ?_;walk_at"";refine fE (λh=>?_) (λh=>?_)
   ·walk_at"";refine aK (ag.of hd2) (pick (i:=3) g3) ?_;walk_at"";exact⟨rfl,d3.toNat,by omega,by rw[Fu b30];rfl⟩
   ·walk_at"";exact⟨rfl,d2.toNat,by omega,by rw[Fu b20];rfl⟩
  rintro σ' H' ⟨rfl,o,ho,rfl⟩;clear hw hw1' hw2' r0 r1 b00 b01 b10 b11 b20 b21 b30 b31;walk_at"";refine aO λf H3 e3 hf hfn=>?_;walk_at"";refine cR (by omega) ?_;refine forR (λi σ H4=>Ext H' H4/\∃(k1 k2 k3 k4 k5 k6:Option V) (cs:List Addr) (us:List Way),σ=[some (.int c),some (.int p),some (.ref dq),some (.int m),some (.int o),some (.ref f),k1,k2,k3,k4,k5,k6]/\H4 f=some (.lst (cs.map V.ref))/\aU H4 cs us/\(∀u∈us,u.Ok3 m)/\us.length=i)
   ⟨e3,none,none,none,none,none,none,[],[],rfl,hf,aU.nil _,λu hu=>by simp at hu,rfl⟩ ?_ ?_
  ·rintro i σ H4 hi ⟨e4,k1,k2,k3,k4,k5,k6,cs,us,rfl,hf4,al,ok,len⟩;rw[Ft]at hi;have hi30:i<30:=by omega
   obtain⟨a,b,c',d,hcut,ga,gb,gc,gd⟩:=zt (ds:=ds) (i:=4+4*i) (by omega);obtain⟨y0,y1,y2,y3⟩:=BN hi30;have ba:=hb _ _ _ ga y0;have bb:=hb _ _ _ gb y1;have bc:=hb _ _ _ gc y2;have bd:=hb _ _ _ gd y3;have hd4:=e4 _ _ hd2;walk_at"";refine gL (ag.of hd4) (cn λt H5 e5 ht htn=>?_);rw[show (4:Int)+4*(0+(i:Int))=((4+4*i:Nat):Int) by omega,show (8:Int)+4*(0+(i:Int))=((4+4*i+4:Nat):Int) by omega,hcut]at ht;walk_at"";refine E4 (ag.of ht) rfl ?_;walk_at"";refine aO λu1 H6 e6 hu1 _=>?_;walk_at"";obtain⟨z,hz,okz⟩:=Dz bb.1 bb.2;refine aK (ag.of hu1) hz ?_;walk_at"";have hf6:=e6 _ _ (e5 _ _ hf4);refine⟨cN (ag.of hf6),?_⟩;walk_at""
   try refine rd_I (show(0:Int)<m by omega) ?_
   walk_at""
   try refine rd_I (show(0:Int)<m by omega) ?_
   walk_at"";obtain⟨s,hs,s1,s2⟩:=A5 bd.1 bd.2;refine⟨_,_,s,rfl,rfl,hJ (by decide +kernel),hs,?_⟩;walk_at"";refine aO λv H7 e7 hv _=>?_;have hf7:=e7 _ _ hf6;walk_at"";refine bK hf7 (by rw[Ff,al.1,len];exact Nat.lt_of_le_of_lt (show i<=1000 by omega) (by decide)) ?_;walk_at"";have al7:aU H7 cs us:=((al.ext e5).ext e6).ext e7;have hv7:H7 v=some (.tup (Way.vs ⟨a % m,z,c' % m,⟨#[s]⟩⟩)):=hv;refine⟨cb (e4.trans (e5.trans (e6.trans e7))) hfn,_,_,_,_,_,_,cs++[v],us++[⟨a % m,z,c' % m,⟨#[s]⟩⟩],rfl,by rw[aL,Fx];rfl,(al7.put hf7).snoc ?_,?_,by simp[len]⟩
   ·rw[aC (cF hv7 hf7 (by intro z;cases z))];exact hv7
   ·intro u hu;rcases FE.mp hu with hu|hu
    ·exact ok u hu
    ·rw[Fq.mp hu];exact⟨Int.emod_nonneg _ (by omega),Int.emod_lt_of_pos _ (by omega),Int.emod_nonneg _ (by omega),Int.emod_lt_of_pos _ (by omega),okz,s,s1,s2,rfl⟩
  ·rintro σ H4 ⟨e4,k1,k2,k3,k4,k5,k6,cs,us,rfl,hf4,al,ok,len⟩;rw[Ft]at len;walk_at"";refine⟨f,cs,us,rfl,hf4,al,λu hu=>(ok u hu).lay,by omega,λr H5 ws e5 hws nd sub ln=>?_⟩;walk_at"";refine aO λt H6 e6 ht _=>?_;exact q _ m ws H6 (eH2.trans (e4.trans (e5.trans e6))) (bj.mk ht (hws.ext e6)) ⟨m1,m2,by omega,λu hu=>ok u (sub u hu),nd⟩
structure WL(H0 H:Hp)(f:Addr)(us:List Way):Prop where
 ext:Ext H0 H
 at_:∃cs:List Addr,H f=some (.lst (cs.map V.ref))/\aU H cs us
def WL.nil{H0 H:Hp}{f:Addr}(e:Ext H0 H)(hf:H f=some (.lst [])):WL H0 H f []:=⟨e,[],hf,aU.nil _⟩
def WL.push{H0 H H1:Hp}{f v:Addr}{us:List Way}{w:Way}(h:WL H0 H f us)(hfn:H0 f=none)(e:Ext H H1)(hv:H1 v=some (.tup w.vs)):
  ∃xs,H1 f=some (.lst xs)/\xs.length=us.length/\WL H0 (upd H1 f (.lst (xs++[.ref v]))) f (us++[w]):=by
 obtain⟨e0,cs,hf,al⟩:=h;have hf1:=e _ _ hf;refine⟨cs.map V.ref,hf1,by rw[Ff];exact al.1,cb (e0.trans e) hfn,cs++[v],by rw[aL,Fx];rfl,((al.ext e).put hf1).snoc ?_⟩;rw[aC (cF hv hf1 (by intro z;cases z))];exact hv
def WL.ty{K:Fb}{H0 H H1:Hp}{f:Addr}{us:List Way}(h:WL H0 H f us)(e:Ext H H1):ip K "list" (.ref f) H1:=by obtain⟨_,cs,hf,al⟩:=h;exact cN (ag.of (e _ _ hf))
def jP:kg "a":=⟨97,by decide,by decide,by decide +kernel⟩
def ja:kg "b":=⟨98,by decide,by decide,by decide +kernel⟩
def lF:kg "c":=⟨99,by decide,by decide,by decide +kernel⟩
def kB:b9 "up":=.inl rfl
def pN:b9 "down":=.inr (.inl rfl)
def g7:b9 "stay":=.inr (.inr (.inl rfl))
def oV:b9 "zero":=.inr (.inr (.inr rfl))
def dm{n:Nat}(h:n<=1000):n<sizeLine:=Nat.lt_of_le_of_lt h (by decide)
def jZ{a b:V}{e:Int}(h0:0<=e)(h1:e<2):∃v,bG [a,b] e=some v/\(v=a\/v=b):=by
 have:e=0\/e=1:=by omega
 rcases this with rfl|rfl
 ·exact⟨a,rfl,.inl rfl⟩
 ·exact⟨b,rfl,.inr rfl⟩
def eS{m:Int}{us:List Way}{w:Way}(h:∀u∈us,u.Ok3 m)(hw:w.Ok3 m):∀u∈us++[w],u.Ok3 m:=λu hu=>by
 rcases FE.mp hu with hu|hu
 ·exact h u hu
 ·rw[Fq.mp hu];exact hw
def AI:(FW "ab").cps.toList=[97,98]:=by decide +kernel
def Em{e:Int}(h0:0<=e)(h1:e<2):∃c,bG (FW "ab").cps.toList e=some c/\97<=c/\c<=99:=by
 rw[AI];have:e=0\/e=1:=by omega
 rcases this with rfl|rfl
 ·exact⟨97,rfl,by decide,by decide⟩
 ·exact⟨98,rfl,by decide,by decide⟩
def cA{ws ds:List Int}(hl:ds.length=ws.length)(hb:∀(i:Nat) (d x:Int),ds[i]?=some d->ws[i]?=some x->0<=d/\d<x)(i:Nat){x:Int}(hx:ws[i]?=some x):∃d,bG (ds.map V.int) (i:Int)=some (.int d)/\0<=d/\d<x:=by
 have hi:i<ds.length:=by rw[hl];exact(Fo.mp hx).1
 have g:ds[i]?=some ds[i]:=Fg hi;exact⟨ds[i],cP (by rw[Fh,g];rfl),hb i _ x g hx⟩
def wy(K:Fb):Sp:=λvs H Q _=>∃c p,vs=[.int c,.int p]/\0<p/\∀v m ws H',Ext H H'->bj H' v m ws->HOuse3 m ws->Q v H'
abbrev ma:Stmt:=stq 76
def w6:FnScope ["_law_cell_here","_law_prime","_law_draws_here","_law_up","_law_down","_law_many","_law_ways","_law_k"] ["_law_cell_here","_law_prime"] (aH ma):=⟨rfl,rfl,rfl,by decide +kernel,rfl,by decide +kernel,by decide +kernel⟩
def Bo{P:Program}{w:World}{K:Fb}{mg:Str->Option Value}{base:Heap}(D:Dfn K mg "_law_gate_house" ma ["_law_cell_here","_law_prime"])(T:Blt mg)(C__law_unlike:Cal P w K mg base "_law_unlike" 1 ["_law_ways"] (mf K))(C__law_draws:Cal P w K mg base "_law_draws" 2 ["_law_cell_here","_law_widths","_law_prime"] (fo K)):Cal P w K mg base "_law_gate_house" 3 ["_law_cell_here","_law_prime"] (wy K):=by
 have nd:=(w6).nd;refine D.ok w6 (λvs H Q E h=>?_) (λX hX H vs Q E h=>?_)
 ·obtain⟨c,p,rfl,_⟩:=h;rfl
 ·obtain⟨f,cdv,A,outer,s,H0,E0,rfl,hr⟩:=hX;obtain⟨c,p,rfl,hp,q⟩:=h;refine⟨_,(@aq _ _ _ _ _ (@aE _ _ 2 _ _ _ _ nd rfl (Or.inl rfl) (aB C__law_draws hr (@aa _ _ _ _ _ (pv 0) (@aa _ _ _ _ _ (@bx _ _ _ _ (iq (.c (.c (.c (.c (.c (.c (.c .n))))))))) (@aa _ _ _ _ _ (pv 1) af rfl) rfl) rfl)) rfl (Or.inl rfl))
    (@aq _ _ _ _ _ (yk (i:=3) (j:=4) rfl nd rfl rfl (by decide) rfl rfl (@aa _ _ _ _ _ (aA aY ae (@ao _ _ _ _ _ _ _ (aJ K) (pv 2) ae (λ_ _=>rfl))) (@aa _ _ _ _ _ (aA aY ae (@ao _ _ _ _ _ _ _ (aJ K) (pv 2) ae (λ_ _=>rfl))) af rfl) rfl) rfl)
    (@aq _ _ _ _ _ (@aE _ _ 5 _ _ _ _ nd rfl (Or.inl rfl) (aA aY (aA aY (pv 3) (pv 4)) ae) rfl (Or.inl rfl))
    (@aq _ _ _ _ _ (@aE _ _ 6 _ _ _ _ nd rfl (Or.inl rfl) (@bx _ _ _ _ af) rfl (Or.inl rfl))
    (@aq _ _ _ _ _ (bM PassesOwn.never rfl (cW rfl T.range_ (@aa _ _ _ _ _ (pv 3) af rfl)) (aM (i:=7) nd rfl (Or.inl rfl)) (@av _ _ _ (bp (bF K Fn FC FD bN (pv 6) (@aa _ _ _ _ _ (@bz _ _ _ _ _ (@aa _ _ _ _ _ (pv 7) (@aa _ _ _ _ _ aW (@aa _ _ _ _ _ (aA cJ (aA aY (pv 7) ae) (pv 3)) (@aa _ _ _ _ _ (@ao _ _ _ _ _ _ _ vJ aW (@ao _ _ _ _ _ _ _ (aJ K) (pv 2) ae (λ_ _=>rfl)) (λ_ _=>rfl)) af rfl) rfl) rfl) rfl)) af rfl)))))
    (@aq _ _ _ _ _ (bp (bF K Fn FC FD bN (pv 6) (@aa _ _ _ _ _ (@bz _ _ _ _ _ (@aa _ _ _ _ _ (aA cJ (@ao _ _ _ _ _ _ _ (aJ K) (pv 2) ae (λ_ _=>rfl)) (pv 3)) (@aa _ _ _ _ _ aW (@aa _ _ _ _ _ (pv 3) (@aa _ _ _ _ _ aW af rfl) rfl) rfl) rfl)) af rfl)))
    (@aq _ _ _ _ _ (bM PassesOwn.never rfl (cW rfl T.range_ (@aa _ _ _ _ _ (pv 4) af rfl)) (aM (i:=7) nd rfl (Or.inl rfl)) (@av _ _ _ (bp (bF K Fn FC FD bN (pv 6) (@aa _ _ _ _ _ (@bz _ _ _ _ _ (@aa _ _ _ _ _ (aA aY (pv 3) (pv 7)) (@aa _ _ _ _ _ aW (@aa _ _ _ _ _ (aA aY (pv 3) (aA cJ (aA aY (pv 7) ae) (pv 4))) (@aa _ _ _ _ _ aW af rfl) rfl) rfl) rfl)) af rfl)))))
    (@aq _ _ _ _ _ (bp (bF K Fn FC FD bN (pv 6) (@aa _ _ _ _ _ (@bz _ _ _ _ _ (@aa _ _ _ _ _ (aA aY (pv 3) (aA cJ (@ao _ _ _ _ _ _ _ (aJ K) (pv 2) ae (λ_ _=>rfl)) (pv 4))) (@aa _ _ _ _ _ aW (@aa _ _ _ _ _ (aA dD (pv 5) ae) (@aa _ _ _ _ _ aW af rfl) rfl) rfl) rfl)) af rfl)))
    (@aq _ _ _ _ _ (bp (bF K Fn FC FD bN (pv 6) (@aa _ _ _ _ _ (@bz _ _ _ _ _ (@aa _ _ _ _ _ (aA dD (pv 5) ae) (@aa _ _ _ _ _ (@ao _ _ _ _ _ _ _ (aJ K) (@bx _ _ _ _ (@aa _ _ _ _ _ aW (@aa _ _ _ _ _ aW af rfl) rfl)) (@ao _ _ _ _ _ _ _ (aJ K) (pv 2) ae (λ_ _=>rfl)) (λ_ _=>rfl)) (@aa _ _ _ _ _ (@ao _ _ _ _ _ _ _ (aJ K) (@bx _ _ _ _ (@aa _ _ _ _ _ ae (@aa _ _ _ _ _ (aA dD (pv 5) ae) af rfl) rfl)) (@ao _ _ _ _ _ _ _ (aJ K) (pv 2) ae (λ_ _=>rfl)) (λ_ _=>rfl)) (@aa _ _ _ _ _ aW af rfl) rfl) rfl) rfl)) af rfl)))
    (@av _ _ _ (@aF _ _ _ _ (@bz _ _ _ _ _ (@aa _ _ _ _ _ (pv 5) (@aa _ _ _ _ _ (aB C__law_unlike hr (@aa _ _ _ _ _ (pv 6) af rfl)) af rfl) rfl))))))))))))),?_⟩
  walk_at"";refine aO λw0 G1 f1 hw0 _=>?_;walk_at"";refine jJ [6,5,6,5,2,2,2] hw0 (by decide) (by decide) (hp) λdq ds H1 e1 hd hdn hl hb=>?_;have eH:Ext H H1:=f1.trans e1;obtain⟨d0,g0,b00,b01⟩:=cA hl hb 0 rfl;obtain⟨d1,g1,b10,b11⟩:=cA hl hb 1 rfl;obtain⟨d2,g2,b20,b21⟩:=cA hl hb 2 rfl;obtain⟨d3,g3,b30,b31⟩:=cA hl hb 3 rfl;obtain⟨d4,g4,b40,b41⟩:=cA hl hb 4 rfl;obtain⟨d5,g5,b50,b51⟩:=cA hl hb 5 rfl;obtain⟨d6,g6,b60,b61⟩:=cA hl hb 6 rfl;clear hb hl;walk_at"";refine aK (ag.of hd) g0 ?_;walk_at"";refine aK (ag.of hd) g1 ?_;walk_at"";obtain⟨U,hU⟩:∃U:Nat,1+d0=(U:Int):=⟨(1+d0).toNat,by omega⟩;obtain⟨D,hD⟩:∃D:Nat,1+d1=(D:Int):=⟨(1+d1).toNat,by omega⟩;rw[hU,hD];have u1:1<=U:=by omega
  have u6:U<=6:=by omega
  have v1:1<=D:=by omega
  have v5:D<=5:=by omega
  clear b00 b01 b10 b11 hU hD;obtain⟨m,hm⟩:∃m:Int,(U:Int)+(D:Int)+1=m:=⟨_,rfl⟩;rw[hm];refine aO λf H2 e2 hf hfn=>?_;walk_at"";refine cR (by omega) ?_;have hfn0:H1 f=none:=hfn;refine forR (λi σ H3=>∃(k:Option V) (us:List Way),σ=[some (.int c),some (.int p),some (.ref dq),some (.int U),some (.int D),some (.int m),some (.ref f),k]/\WL H1 H3 f us/\(∀u∈us,u.Ok3 m)/\us.length=i)
   ⟨none,[],rfl,WL.nil e2 hf,λu hu=>by simp at hu,rfl⟩ ?_ ?_
  ·rintro i σ H3 hi ⟨k,us,rfl,wl,ok,len⟩;rw[Ft]at hi;walk_at"";refine⟨wl.ty (Ext.rfl' _),?_⟩;walk_at""
   try refine rd_I (show(0:Int)<(U:Int) by omega) ?_
   walk_at"";refine aK (ag.of (wl.ext _ _ hd)) g4 ?_;obtain⟨s,hs,s1,s2⟩:=Em b40 b41;refine⟨_,_,s,rfl,rfl,hJ (by decide +kernel),hs,?_⟩;walk_at"";refine aO λv H4 e4 hv _=>?_;walk_at"";obtain⟨xs,hx,hlx,wl'⟩:=wl.push (w:=⟨0+(i:Int),"up",(0+(i:Int)+1) % (U:Int),⟨#[s]⟩⟩) hfn0 e4 hv;refine bK hx (dm (by omega)) ?_;walk_at"";exact⟨_,_,rfl,wl',eS ok ⟨by show 0<=0+(i:Int);omega,by show 0+(i:Int)<m;omega,Int.emod_nonneg _ (by omega),Int.lt_trans (Int.emod_lt_of_pos _ (by omega)) (by omega),kB,s,s1,s2,rfl⟩,by simp[len]⟩
  rintro σ H3 ⟨k,us,rfl,wl,ok,len⟩;rw[Ft]at len;walk_at"";refine⟨wl.ty (Ext.rfl' _),?_⟩;walk_at"";refine aK (ag.of (wl.ext _ _ hd)) g2 ?_
  try refine rd_I (show(0:Int)<(U:Int) by omega) ?_
  walk_at"";refine aO λv H4 e4 hv _=>?_;walk_at"";have r0:0<=d2 % (U:Int):=Int.emod_nonneg _ (by omega);have r1:d2 % (U:Int)<U:=Int.emod_lt_of_pos _ (by omega);obtain⟨xs,hx,hlx,wl2⟩:=wl.push (w:=⟨d2 % (U:Int),"stay",(U:Int),"b"⟩) hfn0 e4 hv;have ok2:=eS ok (w:=⟨d2 % (U:Int),"stay",(U:Int),"b"⟩) ⟨r0,by show d2 % (U:Int)<m;omega,by show 0<=(U:Int);omega,by show(U:Int)<m;omega,g7,ja⟩;refine bK hx (dm (by omega)) ?_;generalize upd H4 f _=H5 at wl2 ⊢;generalize hus2:us++[_]=us2 at wl2 ok2;have len2:us2.length=U+1:=by rw[←hus2];simp[len]
  clear hus2 hx hlx hv e4 r0 r1 wl ok len;walk_at"";refine cR (by omega) ?_;refine forR (λi σ H3=>∃(k:Option V) (us:List Way),σ=[some (.int c),some (.int p),some (.ref dq),some (.int U),some (.int D),some (.int m),some (.ref f),k]/\WL H1 H3 f us/\(∀u∈us,u.Ok3 m)/\us.length=U+1+i)
   ⟨_,us2,rfl,wl2,ok2,len2⟩ ?_ ?_
  ·rintro i σ H3 hi ⟨k,us,rfl,wl,ok,len⟩;rw[Ft]at hi;walk_at"";refine⟨wl.ty (Ext.rfl' _),?_⟩;walk_at""
   try refine rd_I (show(0:Int)<(D:Int) by omega) ?_
   walk_at"";refine aO λv H4 e4 hv _=>?_;walk_at"";have r0:0<=(0+(i:Int)+1) % (D:Int):=Int.emod_nonneg _ (by omega);have r1:(0+(i:Int)+1) % (D:Int)<D:=Int.emod_lt_of_pos _ (by omega);obtain⟨xs,hx,hlx,wl'⟩:=wl.push (w:=⟨(U:Int)+(0+(i:Int)),"down",(U:Int)+(0+(i:Int)+1) % (D:Int),"a"⟩) hfn0 e4 hv;refine bK hx (dm (by omega)) ?_;walk_at"";exact⟨_,_,rfl,wl',eS ok ⟨by show 0<=(U:Int)+(0+(i:Int));omega,by show(U:Int)+(0+(i:Int))<m;omega,by show 0<=(U:Int)+(0+(i:Int)+1) % (D:Int);omega,by show(U:Int)+(0+(i:Int)+1) % (D:Int)<m;omega,pN,jP⟩,by simp[len];omega⟩
  clear wl2 ok2 len2;rintro σ H3 ⟨k,us,rfl,wl,ok,len⟩;rw[Ft]at len;walk_at"";refine⟨wl.ty (Ext.rfl' _),?_⟩;walk_at"";refine aK (ag.of (wl.ext _ _ hd)) g3 ?_
  try refine rd_I (show(0:Int)<(D:Int) by omega) ?_
  walk_at"";refine aO λv H4 e4 hv _=>?_;walk_at"";have r0:0<=d3 % (D:Int):=Int.emod_nonneg _ (by omega);have r1:d3 % (D:Int)<D:=Int.emod_lt_of_pos _ (by omega);obtain⟨xs,hx,hlx,wl2⟩:=wl.push (w:=⟨(U:Int)+d3 % (D:Int),"zero",m-1,"c"⟩) hfn0 e4 hv;have ok2:=eS ok (w:=⟨(U:Int)+d3 % (D:Int),"zero",m-1,"c"⟩) ⟨by show 0<=(U:Int)+d3 % (D:Int);omega,by show(U:Int)+d3 % (D:Int)<m;omega,by show 0<=m-1;omega,by show m-1<m;omega,oV,lF⟩;refine bK hx (dm (by omega)) ?_;generalize upd H4 f _=H5 at wl2 ⊢;generalize hus2:us++[_]=us2 at wl2 ok2;have len2:us2.length=U+D+2:=by rw[←hus2];simp[len];omega
  clear hus2 hx hlx hv e4 r0 r1 wl ok len;walk_at"";refine⟨wl2.ty (Ext.rfl' _),?_⟩;walk_at"";refine aO λt1 H6 e6 ht1 _=>?_;walk_at"";refine aK (ag.of (e6 _ _ (wl2.ext _ _ hd))) g5 ?_;obtain⟨x5,hx5,ax5⟩:=jZ (a:=V.str "up") (b:=V.str "stay") b50 b51;refine aK (ag.of ht1) hx5 ?_;walk_at"";refine aO λt2 H7 e7 ht2 _=>?_;walk_at"";refine aK (ag.of (e7 _ _ (e6 _ _ (wl2.ext _ _ hd)))) g6 ?_;obtain⟨x6,hx6,ax6⟩:=jZ (a:=V.int 0) (b:=V.int (m-1)) b60 b61;refine aK (ag.of ht2) hx6 ?_;walk_at"";refine aO λv H8 e8 hv _=>?_;walk_at"";obtain⟨z,rfl,oz⟩:∃z,x5=.str z/\b9 z:=by
   rcases ax5 with rfl|rfl
   ·exact⟨_,rfl,kB⟩
   ·exact⟨_,rfl,g7⟩
  obtain⟨y,rfl,y0,y1⟩:∃y:Int,x6=.int y/\0<=y/\y<m:=by
   rcases ax6 with rfl|rfl
   ·exact⟨_,rfl,by omega,by omega⟩
   ·exact⟨_,rfl,by omega,by omega⟩
  obtain⟨xs,hx,hlx,wl3⟩:=wl2.push (w:=⟨m-1,z,y,"b"⟩) hfn0 (e6.trans (e7.trans e8)) hv;have ok3:=eS ok2 (w:=⟨m-1,z,y,"b"⟩) ⟨by show 0<=m-1;omega,by show m-1<m;omega,y0,y1,oz,ja⟩;refine bK hx (dm (by omega)) ?_;generalize upd H8 f _=H9 at wl3 ⊢;generalize hus3:us2++[_]=us3 at wl3 ok3;have len3:us3.length=U+D+3:=by rw[←hus3];simp[len2]
  walk_at"";obtain⟨ew,cs,hcs,al⟩:=wl3;refine⟨f,cs,us3,rfl,hcs,al,λu hu=>(ok3 u hu).lay,by omega,λr I1 ws e5 hws nd sub ln=>?_⟩;walk_at"";refine aO λt I2 e6' ht _=>?_;exact q _ m ws I2 (eH.trans (ew.trans (e5.trans e6'))) (bj.mk ht (hws.ext e6')) ⟨by omega,by omega,by omega,λu hu=>ok3 u (sub u hu),nd⟩
def aU.rev{H:Hp}{bs:List Addr}{ws:List Way}(h:aU H bs ws):aU H bs.reverse ws.reverse:=by
 refine⟨by rw[List.length_reverse,List.length_reverse];exact h.1,λj b w e1 e2=>?_⟩;have hj:j<bs.length:=by have:=(Fo.mp e1).1;simpa using this
 rw[List.getElem?_reverse hj]at e1;rw[List.getElem?_reverse (by rw[←h.1];exact hj),←h.1]at e2;exact h.2 _ b w e1 e2
def hZ{us:List Way}{w:Way}(h:us.Nodup)(hw:w∉us):(us++[w]).Nodup:=by rw[List.nodup_append];exact⟨h,by simp,λa ha c hc=>by rw[Fq.mp hc];exact λz=>hw (z ▸ ha)⟩
def jz{P:Way->Prop}{us:List Way}{w:Way}(h:∀u∈us,P u)(hw:P w):∀u∈us++[w],P u:=λu hu=>by
 rcases FE.mp hu with hu|hu
 ·exact h u hu
 ·rw[Fq.mp hu];exact hw
def yd:(FW "a")≠"b":=by decide +kernel
def tM:(FW "a")≠"c":=by decide +kernel
def lH:(FW "b")≠"c":=by decide +kernel
def uF(K:Fb):Sp:=λvs H Q _=>∃c p,vs=[.int c,.int p]/\0<p/\∀v m ws H',Ext H H'->bj H' v m ws->HOuse3 m ws->Q v H'
abbrev pK:Stmt:=stq 75
def uE:FnScope ["_law_cell_here","_law_prime","_law_draws_here","_law_one","_law_two","_law_many","_law_ways","_law_k"] ["_law_cell_here","_law_prime"] (aH pK):=⟨rfl,rfl,rfl,by decide +kernel,rfl,by decide +kernel,by decide +kernel⟩
def B2{P:Program}{w:World}{K:Fb}{mg:Str->Option Value}{base:Heap}(D:Dfn K mg "_law_ring_house" pK ["_law_cell_here","_law_prime"])(T:Blt mg)(C__law_draws:Cal P w K mg base "_law_draws" 2 ["_law_cell_here","_law_widths","_law_prime"] (fo K)):Cal P w K mg base "_law_ring_house" 3 ["_law_cell_here","_law_prime"] (uF K):=by
 have nd:=(uE).nd;refine D.ok uE (λvs H Q E h=>?_) (λX hX H vs Q E h=>?_)
 ·obtain⟨c,p,rfl,_⟩:=h;rfl
 ·obtain⟨f,cdv,A,outer,s,H0,E0,rfl,hr⟩:=hX;obtain⟨c,p,rfl,hp,q⟩:=h;refine⟨_,(@aq _ _ _ _ _ (@aE _ _ 2 _ _ _ _ nd rfl (Or.inl rfl) (aB C__law_draws hr (@aa _ _ _ _ _ (pv 0) (@aa _ _ _ _ _ (@bx _ _ _ _ (iq (.c (.c (.c (.c (.c (.c (.c .n))))))))) (@aa _ _ _ _ _ (pv 1) af rfl) rfl) rfl)) rfl (Or.inl rfl))
    (@aq _ _ _ _ _ (yk (i:=3) (j:=4) rfl nd rfl rfl (by decide) rfl rfl (@aa _ _ _ _ _ (aA aY ae (@ao _ _ _ _ _ _ _ (aJ K) (pv 2) ae (λ_ _=>rfl))) (@aa _ _ _ _ _ (aA aY ae (@ao _ _ _ _ _ _ _ (aJ K) (pv 2) ae (λ_ _=>rfl))) af rfl) rfl) rfl)
    (@aq _ _ _ _ _ (@aE _ _ 5 _ _ _ _ nd rfl (Or.inl rfl) (aA aY (aA aY (pv 3) (pv 4)) ae) rfl (Or.inl rfl))
    (@aq _ _ _ _ _ (@aE _ _ 6 _ _ _ _ nd rfl (Or.inl rfl) (@bx _ _ _ _ (@aa _ _ _ _ _ (@bz _ _ _ _ _ (@aa _ _ _ _ _ ae (@aa _ _ _ _ _ aW (@aa _ _ _ _ _ ae (@aa _ _ _ _ _ aW af rfl) rfl) rfl) rfl)) (@aa _ _ _ _ _ (@bz _ _ _ _ _ (@aa _ _ _ _ _ ae (@aa _ _ _ _ _ (@ao _ _ _ _ _ _ _ (aJ K) (@bx _ _ _ _ (@aa _ _ _ _ _ aW (@aa _ _ _ _ _ aW af rfl) rfl)) (@ao _ _ _ _ _ _ _ (aJ K) (pv 2) ae (λ_ _=>rfl)) (λ_ _=>rfl)) (@aa _ _ _ _ _ (aA aY ae (pv 3)) (@aa _ _ _ _ _ aW af rfl) rfl) rfl) rfl)) af rfl) rfl)) rfl (Or.inl rfl))
    (@aq _ _ _ _ _ (bM PassesOwn.never rfl (cW rfl T.range_ (@aa _ _ _ _ _ (pv 3) af rfl)) (aM (i:=7) nd rfl (Or.inl rfl)) (@av _ _ _ (bp (bF K Fn FC FD bN (pv 6) (@aa _ _ _ _ _ (@bz _ _ _ _ _ (@aa _ _ _ _ _ (aA aY ae (pv 7)) (@aa _ _ _ _ _ aW (@aa _ _ _ _ _ (aA aY ae (aA cJ (aA aY (pv 7) ae) (pv 3))) (@aa _ _ _ _ _ aW af rfl) rfl) rfl) rfl)) af rfl)))))
    (@aq _ _ _ _ _ (bM PassesOwn.never rfl (cW rfl T.range_ (@aa _ _ _ _ _ (pv 4) af rfl)) (aM (i:=7) nd rfl (Or.inl rfl)) (@av _ _ _ (bp (bF K Fn FC FD bN (pv 6) (@aa _ _ _ _ _ (@bz _ _ _ _ _ (@aa _ _ _ _ _ (aA aY (aA aY ae (pv 3)) (pv 7)) (@aa _ _ _ _ _ (@ao _ _ _ _ _ _ _ (aJ K) (@bx _ _ _ _ (@aa _ _ _ _ _ aW (@aa _ _ _ _ _ aW af rfl) rfl)) (@ao _ _ _ _ _ _ _ (aJ K) (pv 2) ae (λ_ _=>rfl)) (λ_ _=>rfl)) (@aa _ _ _ _ _ (aA aY (aA aY ae (pv 3)) (aA cJ (aA aY (pv 7) ae) (pv 4))) (@aa _ _ _ _ _ aW af rfl) rfl) rfl) rfl)) af rfl)))))
    (@aq _ _ _ _ _ (bp (bF K Fn FC FD bN (pv 6) (@aa _ _ _ _ _ (@bz _ _ _ _ _ (@aa _ _ _ _ _ ae (@aa _ _ _ _ _ aW (@aa _ _ _ _ _ (aA dD (pv 5) ae) (@aa _ _ _ _ _ aW af rfl) rfl) rfl) rfl)) af rfl)))
    (@aq _ _ _ _ _ (bp (bF K Fn FC FD bN (pv 6) (@aa _ _ _ _ _ (@bz _ _ _ _ _ (@aa _ _ _ _ _ (aA aY ae (pv 3)) (@aa _ _ _ _ _ aW (@aa _ _ _ _ _ (aA dD (pv 5) ae) (@aa _ _ _ _ _ aW af rfl) rfl) rfl) rfl)) af rfl)))
    (@aq _ _ _ _ _ (cU (aQ bJ (@ao _ _ _ _ _ _ _ (aJ K) (pv 2) ae (λ_ _=>rfl)) ae (aN _)) (@av _ _ _ (bp (bF K Fn FC FD bN (pv 6) (@aa _ _ _ _ _ (@bz _ _ _ _ _ (@aa _ _ _ _ _ (aA dD (pv 5) ae) (@aa _ _ _ _ _ aW (@aa _ _ _ _ _ (aA dD (pv 5) ae) (@aa _ _ _ _ _ aW af rfl) rfl) rfl) rfl)) af rfl)))) aV)
    (@aq _ _ _ _ _ (cU (aQ bJ (@ao _ _ _ _ _ _ _ (aJ K) (pv 2) ae (λ_ _=>rfl)) ae (aN _)) (@av _ _ _ (bp (bF K Fn FC FD bN (pv 6) (@aa _ _ _ _ _ (@bz _ _ _ _ _ (@aa _ _ _ _ _ (aA dD (pv 5) ae) (@aa _ _ _ _ _ aW (@aa _ _ _ _ _ ae (@aa _ _ _ _ _ aW af rfl) rfl) rfl) rfl)) af rfl)))) aV)
    (@aq _ _ _ _ _ (cU (aQ bJ (@ao _ _ _ _ _ _ _ (aJ K) (pv 2) ae (λ_ _=>rfl)) ae (aN _)) (@av _ _ _ (@aE _ _ 6 _ _ _ _ nd rfl (Or.inl rfl) (DJ K (pv 6) (eX (fU fS ae))) rfl (Or.inl rfl))) aV)
    (@av _ _ _ (@aF _ _ _ _ (@bz _ _ _ _ _ (@aa _ _ _ _ _ (pv 5) (@aa _ _ _ _ _ (iC (kF K) rfl T.tuple_ PyProof.Rows.boot_tuple (@aa _ _ _ _ _ (pv 6) af rfl)) af rfl) rfl))))))))))))))),?_⟩
  walk_at"";refine aO λw0 G1 f1 hw0 _=>?_;walk_at"";refine jJ [5,5,2,2,4,4,2] hw0 (by decide) (by decide) (hp) λdq ds H1 e1 hd hdn hl hb=>?_;have eH:Ext H H1:=f1.trans e1;obtain⟨d0,g0,b00,b01⟩:=cA hl hb 0 rfl;obtain⟨d1,g1,b10,b11⟩:=cA hl hb 1 rfl;obtain⟨d2,g2,b20,b21⟩:=cA hl hb 2 rfl;obtain⟨d3,g3,b30,b31⟩:=cA hl hb 3 rfl;obtain⟨d4,g4,_⟩:=cA hl hb 4 rfl;obtain⟨d5,g5,_⟩:=cA hl hb 5 rfl;obtain⟨d6,g6,_⟩:=cA hl hb 6 rfl;clear hb hl;walk_at"";refine aK (ag.of hd) g0 ?_;walk_at"";refine aK (ag.of hd) g1 ?_;walk_at"";obtain⟨U,hU⟩:∃U:Nat,1+d0=(U:Int):=⟨(1+d0).toNat,by omega⟩;obtain⟨D,hD⟩:∃D:Nat,1+d1=(D:Int):=⟨(1+d1).toNat,by omega⟩;rw[hU,hD];have u1:1<=U:=by omega
  have u6:U<=5:=by omega
  have v1:1<=D:=by omega
  have v5:D<=5:=by omega
  clear b00 b01 b10 b11 hU hD;obtain⟨m,hm⟩:∃m:Int,(U:Int)+(D:Int)+2=m:=⟨_,rfl⟩;rw[hm];refine aO λa1 H2 e2 ha1 _=>?_;walk_at"";refine aO λt1 H3 e3 ht1 _=>?_;walk_at"";refine aK (ag.of (e3 _ _ (e2 _ _ hd))) g2 ?_;obtain⟨x2,hx2,ax2⟩:=jZ (a:=V.str "stay") (b:=V.str "zero") b20 b21;refine aK (ag.of ht1) hx2 ?_;walk_at"";obtain⟨z2,rfl,oz2⟩:∃z,x2=.str z/\b9 z:=by
   rcases ax2 with rfl|rfl
   ·exact⟨_,rfl,g7⟩
   ·exact⟨_,rfl,oV⟩
  refine aO λa2 H4 e4 ha2 _=>?_;walk_at"";refine aO λf H5 e5 hf hfn=>?_;have e15:Ext H1 H5:=e2.trans (e3.trans (e4.trans e5));have hfn0:H1 f=none:=(e2.trans (e3.trans e4)).none hfn;obtain⟨y1,hy1⟩:∃y:Way,y=⟨0,"stay",1,"a"⟩:=⟨_,rfl⟩;obtain⟨y2,hy2⟩:∃y:Way,y=⟨0,z2,1+(U:Int),"b"⟩:=⟨_,rfl⟩;have wl0:WL H1 H5 f [y1,y2]:=by
   refine⟨e15,[a1,a2],hf,?_⟩;have k1:H5 a1=some (.tup y1.vs):=by rw[hy1];exact e5 _ _ (e4 _ _ (e3 _ _ ha1))
   have k2:H5 a2=some (.tup y2.vs):=by rw[hy2];exact e5 _ _ ha2
   exact((aU.nil H5).snoc k1).snoc k2
  have ok0:∀u∈[y1,y2],u.Ok3 m:=by
   intro u hu;rcases Fv.mp hu with rfl|hu
   ·subst hy1;exact⟨Int.le_refl _,by show(0:Int)<m;omega,by show(0:Int)<=1;decide,by show(1:Int)<m;omega,g7,jP⟩
   ·rw[Fq.mp hu];subst hy2;exact⟨Int.le_refl _,by show(0:Int)<m;omega,by show(0:Int)<=1+(U:Int);omega,by show 1+(U:Int)<m;omega,oz2,ja⟩
  have nd0:[y1,y2].Nodup:=by subst hy1 hy2;refine List.nodup_cons.mpr ⟨λz=>?_,by simp⟩;have:=congrArg Way.sign (Fq.mp z);exact yd this
  have pr0:∀u∈[y1,y2],u.room<=((0:Nat):Int)/\u.sign≠"c":=by
   intro u hu;rcases Fv.mp hu with rfl|hu
   ·subst hy1;exact⟨Int.le_refl _,tM⟩
   ·rw[Fq.mp hu];subst hy2;exact⟨Int.le_refl _,lH⟩
  have ln0:[y1,y2].length=2:=rfl;generalize [y1,y2]=us0 at wl0 ok0 nd0 pr0 ln0;clear hy1 hy2 ha1 ha2 ht1 hf e2 e3 e4 e5;walk_at"";refine cR (by omega) ?_;refine forR (λi σ H3=>∃(k:Option V) (us:List Way),σ=[some (.int c),some (.int p),some (.ref dq),some (.int U),some (.int D),some (.int m),some (.ref f),k]/\WL H1 H3 f us/\(∀u∈us,u.Ok3 m)/\us.Nodup/\(∀u∈us,u.room<=(i:Int)/\u.sign≠"c")/\us.length=2+i)
   ⟨none,us0,rfl,wl0,ok0,nd0,pr0,ln0⟩ ?_ ?_
  ·rintro i σ H3 hi ⟨k,us,rfl,wl,ok,nd',pr,len⟩;rw[Ft]at hi;walk_at"";refine⟨wl.ty (Ext.rfl' _),?_⟩;walk_at""
   try refine rd_I (show(0:Int)<(U:Int) by omega) ?_
   walk_at"";refine aO λv H4 e4 hv _=>?_;walk_at"";have r0:0<=(0+(i:Int)+1) % (U:Int):=Int.emod_nonneg _ (by omega);have r1:(0+(i:Int)+1) % (U:Int)<U:=Int.emod_lt_of_pos _ (by omega);obtain⟨xs,hx,hlx,wl'⟩:=wl.push (w:=⟨1+(0+(i:Int)),"up",1+(0+(i:Int)+1) % (U:Int),"a"⟩) hfn0 e4 hv;refine bK hx (dm (by omega)) ?_;walk_at"";refine⟨_,_,rfl,wl',eS ok ⟨by show 0<=1+(0+(i:Int));omega,by show 1+(0+(i:Int))<m;omega,by show 0<=1+(0+(i:Int)+1) % (U:Int);omega,by show 1+(0+(i:Int)+1) % (U:Int)<m;omega,kB,jP⟩,hZ nd' λz=>?_,jz (λu hu=>⟨by have:=(pr u hu).1;omega,(pr u hu).2⟩) ⟨by show 1+(0+(i:Int))<=_;omega,tM⟩,by simp[len];omega⟩;have:=(pr _ z).1;have:1+(0+(i:Int))<=(i:Int):=this;omega
  clear wl0 ok0 nd0 pr0 ln0;rintro σ H3 ⟨k,us,rfl,wl,ok,nd',pr,len⟩;rw[Ft]at pr len;walk_at"";refine cR (by omega) ?_;refine forR (λi σ H3=>∃(k:Option V) (us:List Way),σ=[some (.int c),some (.int p),some (.ref dq),some (.int U),some (.int D),some (.int m),some (.ref f),k]/\WL H1 H3 f us/\(∀u∈us,u.Ok3 m)/\us.Nodup/\(∀u∈us,u.room<=(U:Int)+(i:Int)/\u.sign≠"c"/\(u.room=1+(U:Int)->u.sign = "b"))/\us.length=2+U+i)
   ⟨_,us,rfl,wl,ok,nd',λu hu=>⟨by have:=(pr u hu).1;omega,(pr u hu).2,λz=>by have:=(pr u hu).1;omega⟩,len⟩ ?_ ?_
  ·clear wl ok nd' pr len;rintro i σ H3 hi ⟨k,us,rfl,wl,ok,nd',pr,len⟩;rw[Ft]at hi;walk_at"";refine⟨wl.ty (Ext.rfl' _),?_⟩;walk_at"";refine aO λt1 H6 e6 ht1 _=>?_;walk_at"";refine aK (ag.of (e6 _ _ (wl.ext _ _ hd))) g3 ?_;obtain⟨x3,hx3,ax3⟩:=jZ (a:=V.str "up") (b:=V.str "down") b30 b31;refine aK (ag.of ht1) hx3 ?_;walk_at"";obtain⟨z3,rfl,oz3⟩:∃z,x3=.str z/\b9 z:=by
    rcases ax3 with rfl|rfl
    ·exact⟨_,rfl,kB⟩
    ·exact⟨_,rfl,pN⟩
   try refine rd_I (show(0:Int)<(D:Int) by omega) ?_
   walk_at"";refine aO λv H4 e4 hv _=>?_;walk_at"";have r0:0<=(0+(i:Int)+1) % (D:Int):=Int.emod_nonneg _ (by omega);have r1:(0+(i:Int)+1) % (D:Int)<D:=Int.emod_lt_of_pos _ (by omega);obtain⟨xs,hx,hlx,wl'⟩:=wl.push (w:=⟨1+(U:Int)+(0+(i:Int)),z3,1+(U:Int)+(0+(i:Int)+1) % (D:Int),"b"⟩) hfn0 (e6.trans e4) hv;refine bK hx (dm (by omega)) ?_;walk_at"";refine⟨_,_,rfl,wl',eS ok ⟨by show 0<=1+(U:Int)+(0+(i:Int));omega,by show 1+(U:Int)+(0+(i:Int))<m;omega,by show 0<=1+(U:Int)+(0+(i:Int)+1) % (D:Int);omega,by show 1+(U:Int)+(0+(i:Int)+1) % (D:Int)<m;omega,oz3,ja⟩,hZ nd' λz=>?_,jz (λu hu=>⟨by have:=(pr u hu).1;omega,(pr u hu).2⟩) ⟨by show 1+(U:Int)+(0+(i:Int))<=_;omega,lH,λ_=>rfl⟩,by simp[len];omega⟩;have:=(pr _ z).1;have:1+(U:Int)+(0+(i:Int))<=(U:Int)+(i:Int):=this;omega
  clear wl ok nd' pr len;rintro σ H3 ⟨k,us,rfl,wl,ok,nd',pr,len⟩;rw[Ft]at pr len;walk_at"";refine⟨wl.ty (Ext.rfl' _),?_⟩;walk_at"";refine aO λv H4 e4 hv _=>?_;walk_at"";obtain⟨xs,hx,hlx,wl2⟩:=wl.push (w:=⟨1,"stay",m-1,"c"⟩) hfn0 e4 hv;have ok2:=eS ok (w:=⟨1,"stay",m-1,"c"⟩) ⟨by show(0:Int)<=1;decide,by show(1:Int)<m;omega,by show 0<=m-1;omega,by show m-1<m;omega,g7,lF⟩;have nd2:=hZ nd' (w:=⟨1,"stay",m-1,"c"⟩) λz=>(pr _ z).2.1 rfl;have pr2:=jz (P:=λu=>u.room<=(U:Int)+(D:Int)/\(u.room=1+(U:Int)->u.sign = "b")) (λu hu=>⟨(pr u hu).1,(pr u hu).2.2⟩) (w:=⟨1,"stay",m-1,"c"⟩) ⟨by show(1:Int)<=_;omega,λz=>by have:(1:Int)=1+(U:Int):=z;omega⟩;refine bK hx (dm (by omega)) ?_;generalize upd H4 f _=H5 at wl2 ⊢;generalize hus2:us++[_]=us2 at wl2 ok2 nd2 pr2;have len2:us2.length=3+U+D:=by rw[←hus2];simp[len];omega
  clear hus2 hx hlx hv e4 wl ok nd' pr len;walk_at"";refine⟨wl2.ty (Ext.rfl' _),?_⟩;walk_at"";refine aO λv H4 e4 hv _=>?_;walk_at"";obtain⟨xs,hx,hlx,wl3⟩:=wl2.push (w:=⟨1+(U:Int),"stay",m-1,"a"⟩) hfn0 e4 hv;have ok3:=eS ok2 (w:=⟨1+(U:Int),"stay",m-1,"a"⟩) ⟨by show(0:Int)<=1+(U:Int);omega,by show 1+(U:Int)<m;omega,by show 0<=m-1;omega,by show m-1<m;omega,g7,jP⟩;have nd3:=hZ nd2 (w:=⟨1+(U:Int),"stay",m-1,"a"⟩) λz=>yd ((pr2 _ z).2 rfl);have pr3:=jz (P:=λu=>u.room<=(U:Int)+(D:Int)) (λu hu=>(pr2 u hu).1) (w:=⟨1+(U:Int),"stay",m-1,"a"⟩) (by show 1+(U:Int)<=_;omega);refine bK hx (dm (by omega)) ?_;generalize upd H4 f _=H6 at wl3 ⊢;generalize hus3:us2++[_]=us3 at wl3 ok3 nd3 pr3;have len3:us3.length=4+U+D:=by rw[←hus3];simp[len2];omega
  clear hus3 hx hlx hv e4 wl2 ok2 nd2 pr2 len2;walk_at"";refine gE (λσ' H'=>∃(k:Option V) (us:List Way),σ'=[some (.int c),some (.int p),some (.ref dq),some (.int U),some (.int D),some (.int m),some (.ref f),k]/\WL H1 H' f us/\(∀u∈us,u.Ok3 m)/\us.Nodup/\(∀u∈us,u.room<=(U:Int)+(D:Int)\/u.sign = "c")/\us.length<=5+U+D) ?_ ?_
  ·walk_at"";refine aK (ag.of (wl3.ext _ _ hd)) g4 ?_;walk_at"";refine fE (λh=>?_) (λh=>?_)
   ·walk_at"";refine⟨wl3.ty (Ext.rfl' _),?_⟩;walk_at"";refine aO λv H4 e4 hv _=>?_;walk_at"";obtain⟨xs,hx,hlx,wl4⟩:=wl3.push (w:=⟨m-1,"down",m-1,"c"⟩) hfn0 e4 hv;refine bK hx (dm (by omega)) ?_;walk_at"";exact⟨_,_,rfl,wl4,eS ok3 ⟨by show 0<=m-1;omega,by show m-1<m;omega,by show 0<=m-1;omega,by show m-1<m;omega,pN,lF⟩,hZ nd3 λz=>by have:m-1<=(U:Int)+(D:Int):=pr3 _ z;omega,jz (λu hu=>.inl (pr3 u hu)) (.inr rfl),by simp[len3];omega⟩
   ·walk_at"";exact⟨_,us3,rfl,wl3,ok3,nd3,λu hu=>.inl (pr3 u hu),by omega⟩
  clear wl3 ok3 nd3 pr3 len3;rintro σ' H7 ⟨k,us,rfl,wl,ok,nd',pr,len⟩;walk_at"";refine gE (λσ' H'=>∃(k:Option V) (us:List Way),σ'=[some (.int c),some (.int p),some (.ref dq),some (.int U),some (.int D),some (.int m),some (.ref f),k]/\WL H1 H' f us/\(∀u∈us,u.Ok3 m)/\us.Nodup/\us.length<=6+U+D) ?_ ?_
  ·walk_at"";refine aK (ag.of (wl.ext _ _ hd)) g5 ?_;walk_at"";refine fE (λh=>?_) (λh=>?_)
   ·walk_at"";refine⟨wl.ty (Ext.rfl' _),?_⟩;walk_at"";refine aO λv H4 e4 hv _=>?_;walk_at"";obtain⟨xs,hx,hlx,wl4⟩:=wl.push (w:=⟨m-1,"zero",0,"b"⟩) hfn0 e4 hv;refine bK hx (dm (by omega)) ?_;walk_at"";exact⟨_,_,rfl,wl4,eS ok ⟨by show 0<=m-1;omega,by show m-1<m;omega,by show(0:Int)<=0;decide,by show(0:Int)<m;omega,oV,ja⟩,hZ nd' (λz=>(pr _ z).elim (λy=>by have:m-1<=(U:Int)+(D:Int):=y;omega) λy=>lH y),by simp;omega⟩
   ·walk_at"";exact⟨_,us,rfl,wl,ok,nd',by omega⟩
  clear wl ok nd' pr len;rintro σ' H8 ⟨k,us,rfl,wl,ok,nd',len⟩;walk_at"";refine gE (λσ' H'=>∃(k:Option V) (f:Addr) (cs:List Addr) (us:List Way),σ'=[some (.int c),some (.int p),some (.ref dq),some (.int U),some (.int D),some (.int m),some (.ref f),k]/\Ext H1 H'/\H' f=some (.lst (cs.map V.ref))/\aU H' cs us/\(∀u∈us,u.Ok3 m)/\us.Nodup/\us.length<=6+U+D) ?_ ?_
  ·walk_at"";refine aK (ag.of (wl.ext _ _ hd)) g6 ?_;walk_at"";obtain⟨ew,cs,hcs,al⟩:=wl;refine fE (λh=>?_) (λh=>?_)
   ·walk_at"";refine⟨rfl,qk (ag.of hcs) (cn λr H9 e9 hr9 _=>?_)⟩;walk_at"";exact⟨_,r,cs.reverse,us.reverse,rfl,ew.trans e9,by rw[hr9,List.map_reverse],(al.ext e9).rev,λu hu=>ok u (List.mem_reverse.mp hu),List.pairwise_reverse.mpr (nd'.imp λh=>Ne.symm h),by rw[List.length_reverse];omega⟩
   ·walk_at"";exact⟨_,f,cs,us,rfl,ew,hcs,al,ok,nd',by omega⟩
  clear wl ok nd' len;rintro σ' H9 ⟨k,g,cs,us,rfl,ew,hcs,al,ok,nd',len⟩;walk_at"";refine kc (ag.of hcs) (cn λr I1 i1 hr1 _=>?_);walk_at"";refine aO λt I2 i2 ht _=>?_;exact q _ m us I2 (eH.trans (ew.trans (i1.trans i2))) (bj.mk ht (((al.ext i1).ways hr1).ext i2)) ⟨by omega,by omega,by omega,ok,nd'⟩
def xO(K:Fb):Sp:=λvs H Q _=>∃c p,vs=[.int c,.int p]/\0<p/\∀v m ws H',Ext H H'->bj H' v m ws->HOuse3 m ws->Q v H'
abbrev kT:Stmt:=stq 77
def wL:FnScope ["_law_cell_here","_law_prime","_law_kind","_law_left"] ["_law_cell_here","_law_prime"] (aH kT):=⟨rfl,rfl,rfl,by decide +kernel,rfl,by decide +kernel,by decide +kernel⟩
def AJ{P:Program}{w:World}{K:Fb}{mg:Str->Option Value}{base:Heap}(D:Dfn K mg "_law_house" kT ["_law_cell_here","_law_prime"])(T:Blt mg)(C__law_drawn_house:Cal P w K mg base "_law_drawn_house" 3 ["_law_cell_here","_law_prime"] (q9 K))(C__law_gate_house:Cal P w K mg base "_law_gate_house" 3 ["_law_cell_here","_law_prime"] (wy K))(C__law_ring_house:Cal P w K mg base "_law_ring_house" 3 ["_law_cell_here","_law_prime"] (uF K))(C__law_spare:Cal P w K mg base "_law_spare" 1 ["_law_cell_here","_law_width"] (uv K))(C__law_draws:Cal P w K mg base "_law_draws" 2 ["_law_cell_here","_law_widths","_law_prime"] (fo K)):Cal P w K mg base "_law_house" 4 ["_law_cell_here","_law_prime"] (xO K):=by
 have nd:=(wL).nd;refine D.ok wL (λvs H Q E h=>?_) (λX hX H vs Q E h=>?_)
 ·obtain⟨c,p,rfl,_⟩:=h;rfl
 ·obtain⟨f,cdv,A,outer,s,H0,E0,rfl,hr⟩:=hX;obtain⟨c,p,rfl,hp,q⟩:=h;refine⟨_,(aq (aE (i:=2) nd rfl (Or.inl rfl) (ao (aJ K) (aB C__law_draws hr (aa (pv 0) (aa (bx (aa ae af)) (aa (pv 1) af)))) ae (λ_ _=>rfl)))
    (aq (aE (i:=3) nd rfl (Or.inl rfl) (aB C__law_spare hr (aa (pv 0) (aa ae af))))
    (aq (bo (aQ bJ (pv 2) ae (aN _)) (av (aF (aB C__law_ring_house hr (aa (pv 3) (aa (pv 1) af))))) aV)
    (aq (bo (aQ bJ (pv 2) ae (aN _)) (av (aF (aB C__law_gate_house hr (aa (pv 3) (aa (pv 1) af))))) aV)
    (av (aF (aB C__law_drawn_house hr (aa (pv 3) (aa (pv 1) af))))))))),?_⟩
  walk_at"";refine aO λw0 G1 f1 hw0 _=>?_;walk_at"";refine jJ [8] hw0 (by decide) (by decide) (hp) λdq ds H1 e1 hd hdn hl hb=>?_;have eH:Ext H H1:=f1.trans e1;obtain⟨d0,g0,_⟩:=cA hl hb 0 rfl;walk_at"";refine aK (ag.of hd) g0 ?_;walk_at"";refine⟨c,8,rfl,by decide,by decide,λz=>?_⟩;walk_at"";refine fE (λh=>?_) (λh=>?_)
  ·walk_at"";exact⟨z,p,rfl,hp,λv m ws H' e hv ok=>q v m ws H' (eH.trans e) hv ok⟩
  ·walk_at"";refine fE (λh=>?_) (λh=>?_)
   ·walk_at"";exact⟨z,p,rfl,hp,λv m ws H' e hv ok=>q v m ws H' (eH.trans e) hv ok⟩
   ·walk_at"";exact⟨z,p,rfl,hp,λv m ws H' e hv ok=>q v m ws H' (eH.trans e) hv ok⟩
def iQ{a b:Str}:decide (V.str a=V.str b)=decide (a=b):=by
 by_cases h:a=b
 ·subst h;simp
 ·rw[F9 h,F9 (λz=>h (V.str.inj z))]
def cy{a b:Str}{H:Hp}{Q:VK}(h:Q (.bl (decide (a=b))) H):kf (.str a) (.str b) H Q:=⟨rfl,by rw[iQ];exact h⟩
def mD{a b:Str}{H:Hp}{Q:VK}(h:Q (.bl (!decide (a=b))) H):mr (.str a) (.str b) H Q:=⟨rfl,by rw[iQ];exact h⟩
def fb{α β:Type}{F:α->β->Prop}{cs:List α}{ts:List β}(h:Paired F cs ts):∀{i:Nat} {c:α},cs[i]?=some c->∃t,ts[i]?=some t/\F c t:=by
 induction h with
 | nil=>intro i c e;simp at e
 | cons h t ih=>
  intro i c e;cases i with
  | zero=>cases e;exact⟨_,rfl,h⟩
  | succ i=>exact ih e
def oW{α β:Type}{F:α->β->Prop}{cs:List α}{ts:List β}(h:Paired F cs ts):∀{i:Nat} {t:β},ts[i]?=some t->∃c,cs[i]?=some c/\F c t:=by
 induction h with
 | nil=>intro i c e;simp at e
 | cons h t ih=>
  intro i c e;cases i with
  | zero=>cases e;exact⟨_,rfl,h⟩
  | succ i=>exact ih e
abbrev aw(H:Hp)(a:Addr)(x:Bfs.Pl):Prop:=H a=some (.tup [.int x.1,.int x.2])
abbrev bw(x:Bfs.Pl):List Key:=[.inl x.1,.inl x.2]
def rD{x y:Bfs.Pl}(h:bw x=bw y):x=y:=by simp only[bw,List.cons.injEq,Sum.inl.injEq,and_true]at h;exact Prod.ext h.1 h.2
def aw.put{H:Hp}{f a:Addr}{x:Bfs.Pl}{o o':HO}(hf:H f=some o)(hn:∀xs,o≠.tup xs)(h:aw H a x):aw (upd H f o') a x:=by show upd H f o' a=_;rw[aC (cF h hf (λz=>hn _ z.symm))];exact h
def cY(m:Int)(x:Bfs.Pl):Prop:=0<=x.1/\x.1<m/\0<=x.2/\x.2<=1000
def tZ(K:Fb):Sp:=λvs H Q _=>∃hp hq m l as xs,vs=[.ref hp,.ref l]/\H hp=some (.tup [.int m,hq])/\H l=some (.lst (List.map V.ref as))/\Paired (aw H) as xs/\(∀x∈xs,cY m x)/\Q .non H
abbrev pz:Stmt:=stq 32
def xy:FnScope ["house","places","place"] ["house","places"] (aH pz):=⟨rfl,rfl,rfl,by decide +kernel,rfl,by decide +kernel,by decide +kernel⟩
def yJ{P:Program}{w:World}{K:Fb}{mg:Str->Option Value}{base:Heap}(D:Dfn K mg "refuse_bad_places" pz ["house","places"])(T:Blt mg)(g_GREATEST_NUMBER:∃t,mg "GREATEST_NUMBER" = some (.int 1000 t))(C_is_room:Cal P w K mg base "is_room" 2 ["thing","many"] (kY K)):Cal P w K mg base "refuse_bad_places" 3 ["house","places"] (tZ K):=by
 have nd:=(xy).nd;refine D.ok xy (λvs H Q E h=>?_) (λX hX H vs Q E h=>?_)
 ·obtain⟨hp,hq,m,l,as,xs,rfl,_⟩:=h;rfl
 ·obtain⟨f,cdv,A,outer,s,H0,E0,rfl,hr⟩:=hX;obtain⟨t_GREATEST_NUMBER,c_GREATEST_NUMBER⟩:=g_GREATEST_NUMBER;obtain⟨hp,hq,m,l,as,xs,rfl,h1,h2,h3,hin,q⟩:=h;refine⟨_,(aq (bM PassesOwn.never rfl (bW K (pv 1)) (aM (i:=2) nd rfl (Or.inl rfl)) (av (bo (PW.pt (cE (bY (bB (aB C_is_room hr (aa (ao (ay K) (pv 2) ae (λ_ _=>rfl)) (aa (ao (ay K) (pv 0) ae (λ_ _=>rfl)) af))))) (dj (aQ cZ (ao (ay K) (pv 2) ae (λ_ _=>rfl)) ae (aN _))))) (av iB) aV)))
    (av (bM PassesOwn.never rfl (bW K (pv 1)) (aM (i:=2) nd rfl (Or.inl rfl)) (av (bo (aQ fB (ao (ay K) (pv 2) ae (λ_ _=>rfl)) (jb (v:=.int 1000) rfl c_GREATEST_NUMBER ⟨_,rfl⟩) (aN _)) (av iB) aV))))),?_⟩
  walk_at"";refine bZ (ag.of h2) ?_;refine forL (xs:=List.map V.ref as) (λi σ H'=>H'=H/\∃k,σ=[some (.ref hp),some (.ref l),k]) ⟨rfl,none,rfl⟩ (λi σ H' _ h=>by rw[h.1];exact ag.of h2) ?_ ?_
  ·rintro i x σ H' hx ⟨rfl,k,rfl⟩;rw[Fh]at hx;obtain⟨b,hb,rfl⟩:=Fs.mp hx;obtain⟨t,ht,hp3⟩:=fb h3 hb;obtain⟨r0,r1,n0,n1⟩:=hin t (Fp ht);walk_at"";refine ax (ah.of hp3) (v:=.int t.1) rfl ?_;walk_at"";refine ax (ah.of h1) (v:=.int m) rfl ?_;walk_at"";refine⟨_,_,rfl,r0,r1,?_⟩;walk_at"";refine az ?_;walk_at"";refine ax (ah.of hp3) (v:=.int t.2) rfl ?_;walk_at"";rw[F9 (show ¬t.2<0 by omega)];refine az ?_;walk_at"";exact⟨rfl,_,rfl⟩
  ·rintro σ H' ⟨rfl,k,rfl⟩;walk_at"";refine bZ (ag.of h2) ?_;refine forL (xs:=List.map V.ref as) (λi σ H2=>H2=H'/\∃k,σ=[some (.ref hp),some (.ref l),k]) ⟨rfl,_,rfl⟩ (λi σ H2 _ h=>by rw[h.1];exact ag.of h2) ?_ ?_
   ·rintro i x σ H2 hx ⟨rfl,k,rfl⟩;rw[Fh]at hx;obtain⟨b,hb,rfl⟩:=Fs.mp hx;obtain⟨t,ht,hp3⟩:=fb h3 hb;obtain⟨r0,r1,n0,n1⟩:=hin t (Fp ht);walk_at"";refine ax (ah.of hp3) (v:=.int t.2) rfl ?_;walk_at"";rw[F9 (show ¬(1000:Int)<t.2 by omega)];refine az ?_;walk_at"";exact⟨rfl,_,rfl⟩
   ·rintro σ H2 ⟨rfl,k,rfl⟩;walk_at"";exact q
def cB(w:Way)(r n:Int):Bool:=decide (w.room=r) && (if decide (w.deed = "down")=true then decide (0<n)else(!decide (w.deed = "zero") || decide (n=0)))
def j9(K:Fb):Sp:=λvs H Q _=>∃b w p x,vs=[.ref b,.ref p]/\H b=some (.tup (Way.vs w))/\aw H p x/\Q (.bl (cB w x.1 x.2)) H
abbrev mC:Stmt:=stq 33
def uI:FnScope ["way","place"] ["way","place"] (aH mC):=⟨rfl,rfl,rfl,by decide +kernel,rfl,by decide +kernel,by decide +kernel⟩
def BR{P:Program}{w:World}{K:Fb}{mg:Str->Option Value}{base:Heap}(D:Dfn K mg "is_open" mC ["way","place"])(T:Blt mg):Cal P w K mg base "is_open" 1 ["way","place"] (j9 K):=by
 have nd:=(uI).nd;refine D.ok uI (λvs H Q E h=>?_) (λX hX H vs Q E h=>?_)
 ·obtain⟨b,w,p,x,rfl,_⟩:=h;rfl
 ·obtain⟨f,cdv,A,outer,s,H0,E0,rfl,hr⟩:=hX;obtain⟨b,w,p,⟨r,n⟩,rfl,h1,h2,q⟩:=h;refine⟨_,(aq (bo (aQ eM (ao (ay K) (pv 0) ae (λ_ _=>rfl)) (ao (ay K) (pv 1) ae (λ_ _=>rfl)) (aN _)) (av (aF bO)) aV)
    (aq (bo (aQ bJ (ao (ay K) (pv 0) ae (λ_ _=>rfl)) aW (aN _)) (av (aF (dC fB (ao (ay K) (pv 1) ae (λ_ _=>rfl)) ae (aN _)))) aV)
    (av (aF (qA (dC eM (ao (ay K) (pv 0) ae (λ_ _=>rfl)) aW (aN _)) (dN (dC bJ (ao (ay K) (pv 1) ae (λ_ _=>rfl)) ae (aN _)))))))),?_⟩
  walk_at"";refine ax (ah.of h1) (v:=.int w.room) rfl ?_;walk_at"";refine ax (ah.of h2) (v:=.int r) rfl ?_;walk_at"";unfold cB at q;dsimp only at q;by_cases e:w.room=r
  ·rw[Ga e];refine az ?_;walk_at"";rw[Ga e,Bool.true_and]at q;refine ax (ah.of h1) (v:=.str w.deed) rfl ?_;walk_at"";refine cy ?_;refine rd_exb ?_;cases ed:decide (w.deed = "down")with
   | true=>
    rw[ed]at q;refine aG ?_;walk_at"";refine ax (ah.of h2) (v:=.int n) rfl ?_;walk_at"";exact q
   | false=>
    rw[ed]at q;refine az ?_;walk_at"";refine ax (ah.of h1) (v:=.str w.deed) rfl ?_;walk_at"";refine mD ?_;refine rd_exb ?_;cases ez:decide (w.deed = "zero")with
    | true=>
     rw[ez]at q;refine az ?_;walk_at"";refine ax (ah.of h2) (v:=.int n) rfl ?_;walk_at"";exact q
    | false=>
     rw[ez]at q;exact aG q
  ·rw[F9 e];refine aG ?_;walk_at"";rw[F9 e,Bool.false_and]at q;exact q
def mi:List (Key×V):=[(.inr "up",.int 1),(.inr "down",.int (-1)),(.inr "stay",.int 0),(.inr "zero",.int 0)]
def DY{w:World}{K:Fb}{a:Addr}{t1 t2 t3 t4 t5 t6 t7 t8:Tok}{ep:Nat}(h:K.lookup a=some (iI w [("up",t1,.int 1 t2),("down",t3,.int (-1) t4),("stay",t5,.int 0 t6),("zero",t7,.int 0 t8)] ep))(hs:(a == sysModules)=false):GDict w K a mi:=
 ⟨⟨_,_,h,.cons ⟨rfl,⟨_,rfl⟩⟩ (.cons ⟨rfl,⟨_,rfl⟩⟩ (.cons ⟨rfl,⟨_,rfl⟩⟩ (.cons ⟨rfl,⟨_,rfl⟩⟩ .nil)))⟩,by decide +kernel,hs⟩
def rz(z:Str):Int:=if z = "up" then 1 else if z = "down" then -1 else 0
def Ao{z:Str}(h:b9 z):aZ mi (.inr z)=some (.int (rz z)):=by rcases h with rfl|rfl|rfl|rfl<;>decide +kernel
def tR(K:Fb):Sp:=λvs H Q _=>∃b w,vs=[.ref b]/\H b=some (.tup (Way.vs w))/\b9 w.deed/\Q (.int (rz w.deed)) H
abbrev pL:Stmt:=stq 34
def tG:FnScope ["way"] ["way"] (aH pL):=⟨rfl,rfl,rfl,by decide +kernel,rfl,by decide +kernel,by decide +kernel⟩
def El{P:Program}{w:World}{K:Fb}{mg:Str->Option Value}{base:Heap}(D:Dfn K mg "raised_by" pL ["way"])(T:Blt mg)(g_RAISED:∃a,mg "RAISED" = some (.ref a)/\GDict w K a mi):Cal P w K mg base "raised_by" 1 ["way"] (tR K):=by
 have nd:=(tG).nd;refine D.ok tG (λvs H Q E h=>?_) (λX hX H vs Q E h=>?_)
 ·obtain⟨b,w,rfl,_⟩:=h;rfl
 ·obtain⟨f,cdv,A,outer,s,H0,E0,rfl,hr⟩:=hX;obtain⟨a_RAISED,m_RAISED,d_RAISED⟩:=g_RAISED;obtain⟨b,w,rfl,h1,hd,q⟩:=h;refine⟨_,(av (aF (Bw rfl m_RAISED d_RAISED (ao (ay K) (pv 0) ae (λ_ _=>rfl)) (λ_ _=>rfl)))),?_⟩;walk_at"";refine ax (ah.of h1) (v:=.str w.deed) rfl ?_;exact CB (Ao hd) q
def sI(z:Str):-1<=rz z:=by
 unfold rz;split
 ·decide
 ·split<;>decide
def wO(z:Str):rz z<=1:=by
 unfold rz;split
 ·decide
 ·split<;>decide
def j8(K:Fb):Sp:=λvs H Q _=>∃b w p x,vs=[.ref b,.ref p]/\H b=some (.tup (Way.vs w))/\b9 w.deed/\aw H p x/\∀t H',Ext H H'->aw H' t (w.other,x.2+rz w.deed)->H t=none->Q (.ref t) H'
abbrev kP:Stmt:=stq 35
def uc:FnScope ["way","place"] ["way","place"] (aH kP):=⟨rfl,rfl,rfl,by decide +kernel,rfl,by decide +kernel,by decide +kernel⟩
def EE{P:Program}{w:World}{K:Fb}{mg:Str->Option Value}{base:Heap}(D:Dfn K mg "led_to" kP ["way","place"])(T:Blt mg)(C_raised_by:Cal P w K mg base "raised_by" 1 ["way"] (tR K)):Cal P w K mg base "led_to" 2 ["way","place"] (j8 K):=by
 have nd:=(uc).nd;refine D.ok uc (λvs H Q E h=>?_) (λX hX H vs Q E h=>?_)
 ·obtain⟨b,w,p,x,rfl,_⟩:=h;rfl
 ·obtain⟨f,cdv,A,outer,s,H0,E0,rfl,hr⟩:=hX;obtain⟨b,w,p,⟨r,n⟩,rfl,h1,hd,h2,q⟩:=h;refine⟨_,(av (aF (bz (aa (ao (ay K) (pv 0) ae (λ_ _=>rfl)) (aa (aA aY (ao (ay K) (pv 1) ae (λ_ _=>rfl)) (aB C_raised_by hr (aa (pv 0) af))) af))))),?_⟩;walk_at"";refine ax (ah.of h1) (v:=.int w.other) rfl ?_;walk_at"";refine ax (ah.of h2) (v:=.int n) rfl ?_;walk_at"";refine⟨b,w,rfl,h1,hd,?_⟩;walk_at"";refine aO λt H1 e1 ht htn=>?_;exact q t H1 e1 ht htn
def s9{K:Fb}{a:Addr}{xs:List V}{g:TG}{tb:TS}{D:Ends}{σ:St}{H:Hp}(Pv:Nat->St->Hp->Prop)(h0:Pv 0 σ H)(hl:∀i σ H,i<=xs.length->Pv i σ H->ah K H a xs)
  (hs:∀i u σ H p H',xs[i]?=some u->Pv i σ H->Ext H H'->H' p=some (.tup [.int i,u])->H p=none->g (.ref p) σ H' λσ2 H2=>tb { D with nx:=Pv (i+1),ct:=Pv (i+1),bk:=D.nx } σ2 H2) (hd:∀σ H,Pv xs.length σ H->D.nx σ H) :
  hV (gX K a) g tb D σ H:=CG Pv h0 hl hs hd
def cD(z:Str)(n:Int):Option Int:=
 if decide (z = "up")=true then some (n+1)else if decide (z = "down")=true then(if decide (0<n)=true then some (n-1)else none)else if decide (z = "stay")=true then some n else if decide (z = "zero")=true then(if decide (n=0)=true then some n else none)else none
def eA(w:Way)(r n:Int)(j:Nat):List (Int×Int×Int):=if decide (w.room=r)=true then((cD w.deed n).map λn'=>((j:Int),w.other,n')).toList else[]
def cw(ws:List Way)(r n:Int):Nat->List (Int×Int×Int)
 | 0=>[]
 | k+1=>cw ws r n k++((ws[k]?).map λw=>eA w r n k).getD []
def AY{ws:List Way}{r n:Int}{i:Nat}{w:Way}(h:ws[i]?=some w):cw ws r n (i+1)=cw ws r n i++eA w r n i:=by show _++((ws[i]?).map λw=>eA w r n i).getD []=_;rw[h];rfl
def zK(w:Way)(r n:Int)(j:Nat):(eA w r n j).length<=1:=by
 unfold eA;split
 ·cases cD w.deed n<;>simp
 ·simp
def jH(ws:List Way)(r n:Int):∀k,(cw ws r n k).length<=k
 | 0=>FA _
 | k+1=>by
  have:=jH ws r n k;show(cw ws r n k++((ws[k]?).map λw=>eA w r n k).getD []).length<=k+1;rw[Fy];cases h:ws[k]? with
  | none=>simp;omega
  | some w=>
   have:=zK w r n k;simp;omega
def vB{w:Way}{r n:Int}{j:Nat}(h:w.room≠r):eA w r n j=[]:=by unfold eA;rw[F9 h];rfl
def fI{w:Way}{r n:Int}{j:Nat}{o:Option Int}(h:w.room=r)(hs:cD w.deed n=o):eA w r n j=(o.map λn'=>((j:Int),w.other,n')).toList:=by unfold eA;rw[Ga h,hs];rfl
def cz(H:Hp)(c:Addr)(t:Int×Int×Int):Prop:=∃d,H c=some (.tup [.int t.1,.ref d])/\H d=some (.tup [.int t.2.1,.int t.2.2])
def pE{H H':Hp}(f:∀c t,cz H c t->cz H' c t){cs:List Addr}{ts:List (Int×Int×Int)}(h:Paired (cz H) cs ts):Paired (cz H') cs ts:=by
 induction h with
 | nil=>exact .nil
 | cons h t ih=>exact .cons (f _ _ h) ih
def CK{H:Hp}{cs:List Addr}{ts:List (Int×Int×Int)}{c:Addr}{t:Int×Int×Int}(h:Paired (cz H) cs ts)(ht:cz H c t):Paired (cz H) (cs++[c]) (ts++[t]):=by
 induction h with
 | nil=>exact .cons ht .nil
 | cons h _ ih=>exact .cons h ih
def cz.ext{H H':Hp}(e:Ext H H'){c:Addr}{t:Int×Int×Int}(h:cz H c t):cz H' c t:=by obtain⟨d,h1,h2⟩:=h;exact⟨d,e _ _ h1,e _ _ h2⟩
def cz.put{H:Hp}{f:Addr}{xs ys:List V}(hf:H f=some (.lst xs)){c:Addr}{t:Int×Int×Int}(h:cz H c t):cz (upd H f (.lst ys)) c t:=by obtain⟨d,h1,h2⟩:=h;exact⟨d,by rw[aC (cF h1 hf (by intro z;cases z))];exact h1,by rw[aC (cF h2 hf (by intro z;cases z))];exact h2⟩
structure BL(H0 H:Hp)(f:Addr)(ts:List (Int×Int×Int)):Prop where
 ext:Ext H0 H
 at_:∃cs:List Addr,H f=some (.lst (cs.map V.ref))/\Paired (cz H) cs ts
def BL.push{H0 H H1:Hp}{f c d:Addr}{ts:List (Int×Int×Int)}{j o n:Int}(h:BL H0 H f ts)(hfn:H0 f=none)(e:Ext H H1)(hd:H1 d=some (.tup [.int o,.int n]))(hc:H1 c=some (.tup [.int j,.ref d])):
  ∃xs,H1 f=some (.lst xs)/\xs.length=ts.length/\BL H0 (upd H1 f (.lst (xs++[.ref c]))) f (ts++[(j,o,n)]):=by
 obtain⟨e0,cs,hf,al⟩:=h;have hf1:=e _ _ hf;have hp:cz H1 c (j,o,n):=⟨d,hc,hd⟩;refine⟨cs.map V.ref,hf1,by rw[Ff];exact Paired.length al,cb (e0.trans e) hfn,cs++[c],by rw[aL,Fx];rfl,CK (pE (λ_ _ z=>(z.ext e).put hf1) al) (hp.put hf1)⟩
def BL.ty{K:Fb}{H0 H H1:Hp}{f:Addr}{ts:List (Int×Int×Int)}(h:BL H0 H f ts)(e:Ext H H1):ip K "list" (.ref f) H1:=by obtain⟨_,cs,hf,al⟩:=h;exact cN (ag.of (e _ _ hf))
def BL.step{H0 H H1:Hp}{f:Addr}{ts:List (Int×Int×Int)}(h:BL H0 H f ts)(e:Ext H H1):BL H0 H1 f ts:=by obtain⟨e0,cs,hf,al⟩:=h;exact⟨e0.trans e,cs,e _ _ hf,pE (λ_ _ z=>z.ext e) al⟩
def vq:decide ((FW "up")=FW "down")=false:=by decide +kernel
def Aw:decide ((FW "up")=FW "stay")=false:=by decide +kernel
def qM:decide ((FW "up")=FW "zero")=false:=by decide +kernel
def qe:decide ((FW "down")=FW "up")=false:=by decide +kernel
def sS:decide ((FW "down")=FW "stay")=false:=by decide +kernel
def xK:decide ((FW "down")=FW "zero")=false:=by decide +kernel
def vH:decide ((FW "stay")=FW "up")=false:=by decide +kernel
def lW:decide ((FW "stay")=FW "down")=false:=by decide +kernel
def u5:decide ((FW "zero")=FW "up")=false:=by decide +kernel
def pC:decide ((FW "zero")=FW "down")=false:=by decide +kernel
def rF:decide ((FW "zero")=FW "stay")=false:=by decide +kernel
def dE(z:Str):decide (z=z)=true:=Ga rfl
def jx(n:Int):cD "up" n=some (n+1):=by unfold cD;rw[dE];rfl
def gH(n:Int):cD "down" n=if decide (0<n)=true then some (n-1)else none:=by unfold cD;rw[qe,dE];rfl
def iY(n:Int):cD "stay" n=some n:=by unfold cD;rw[vH,lW,dE];rfl
def gn(n:Int):cD "zero" n=if decide (n=0)=true then some n else none:=by unfold cD;rw[u5,pC,rF,dE];rfl
def oa(K:Fb):Sp:=λvs H Q _=>∃v m ws p r n,vs=[v,.ref p]/\bj H v m ws/\HOuse m ws/\H p=some (.tup [.int r,.int n]) ∧
 ∀l H' cs,Ext H H'->H l=none->H' l=some (.lst (List.map V.ref cs))->Paired (cz H') cs (cw ws r n ws.length)->Q (.ref l) H'
abbrev nJ:Stmt:=stq 80
def wc:FnScope ["_law_house_here","_law_place","_law_found","_law_k","_law_room","_law_deed","_law_other","_law_sign"] ["_law_house_here","_law_place"] (aH nJ):=⟨rfl,rfl,rfl,by decide +kernel,rfl,by decide +kernel,by decide +kernel⟩
def DZ{P:Program}{w:World}{K:Fb}{mg:Str->Option Value}{base:Heap}(D:Dfn K mg "_law_behind" nJ ["_law_house_here","_law_place"])(T:Blt mg):Cal P w K mg base "_law_behind" 1 ["_law_house_here","_law_place"] (oa K):=by
 have nd:=(wc).nd;refine D.ok wc (λvs H Q E h=>?_) (λX hX H vs Q E h=>?_)
 ·obtain⟨v,m,ws,p,r,n,rfl,_⟩:=h;rfl
 ·obtain⟨f,cdv,A,outer,s,H0,E0,rfl,hr⟩:=hX;obtain⟨v,m,ws,p,r,n,rfl,⟨hh,t,rfl,g1,g2⟩,ok,hp,q⟩:=h;obtain⟨bs,g3,al⟩:=bU.al g2;have hfew:=ok.few;refine⟨_,(aq (aE (i:=2) nd rfl (Or.inl rfl) (bx af))
    (aq (bM PassesOwn.never rfl (xE K rfl T.enumerate_ (aa (ao (ay K) (pv 0) ae (λ_ _=>rfl)) af)) (dY (n:=2) K rfl (bE (aM (i:=3) nd rfl (Or.inl rfl)) (bE (dY (n:=4) K rfl (bE (aM (i:=4) nd rfl (Or.inl rfl)) (bE (aM (i:=5) nd rfl (Or.inl rfl)) (bE (aM (i:=6) nd rfl (Or.inl rfl)) (bE (aM (i:=7) nd rfl (Or.inl rfl)) dI))))) dI))) (av (cU (aQ bJ (pv 4) (ao (ay K) (pv 1) ae (λ_ _=>rfl)) (aN _)) (aq (cU (aQ bJ (pv 5) aW (aN _)) (av (bp (bF K Fn FC FD bN (pv 2) (aa (bz (aa (pv 3) (aa (bz (aa (pv 6) (aa (aA aY (ao (ay K) (pv 1) ae (λ_ _=>rfl)) ae) af))) af))) af)))) aV)
    (aq (cU (PW.pt (fX (aQ bJ (pv 5) aW (aN _)) (gJ (aQ fB (ao (ay K) (pv 1) ae (λ_ _=>rfl)) ae (aN _))))) (av (bp (bF K Fn FC FD bN (pv 2) (aa (bz (aa (pv 3) (aa (bz (aa (pv 6) (aa (aA dD (ao (ay K) (pv 1) ae (λ_ _=>rfl)) ae) af))) af))) af)))) aV)
    (av (cU (PW.pt (cE (aQ bJ (pv 5) aW (aN _)) (dj (PW.pt (fX (aQ bJ (pv 5) aW (aN _)) (gJ (aQ bJ (ao (ay K) (pv 1) ae (λ_ _=>rfl)) ae (aN _)))))))) (av (bp (bF K Fn FC FD bN (pv 2) (aa (bz (aa (pv 3) (aa (bz (aa (pv 6) (aa (ao (ay K) (pv 1) ae (λ_ _=>rfl)) af))) af))) af)))) aV)))) aV)))
    (av (aF (pv 2))))),?_⟩
  walk_at"";refine aO λf H1 e1 hf hfn=>?_;walk_at"";refine ax (ah.of (e1 _ _ g1)) (v:=.ref t) rfl ?_;walk_at"";refine uj (ah.of (e1 _ _ g3)) ?_;refine s9 (xs:=bs.map V.ref) (λi σ H'=>∃k1 k2 k3 k4 k5,σ=[some (.ref hh),some (.ref p),some (.ref f),k1,k2,k3,k4,k5]/\BL H H' f (cw ws r n i)) ⟨none,none,none,none,none,rfl,e1,[],hf,.nil⟩ (λi σ H' _ h=>by obtain⟨_,_,_,_,_,_,bl⟩:=h;exact ah.of (bl.ext _ _ g3)) ?_ ?_
  ·rintro i u σ H2 pp H3 hu ⟨k1,k2,k3,k4,k5,rfl,bl0⟩ e3 hpp _;rw[Fh]at hu;obtain⟨b,hb,rfl⟩:=Fs.mp hu;have hi:i<ws.length:=by rw[←al.1];exact(Fo.mp hb).1
   have hwi:ws[i]?=some ws[i]:=Fg hi;have bl:=bl0.step e3;have hw:=bl.ext _ _ (al.2 i b _ hb hwi);have hp3:=bl.ext _ _ hp;have okw:=(ok.ok _ (FI hi)).dd;rw[AY hwi];have hlen:=jH ws r n i;generalize cw ws r n i=ts at bl hlen;clear bl0 hwi;generalize ws[i]=w at hw okw ⊢;obtain⟨room,deed,other,sign⟩:=w;refine dU (ah.of hpp) rfl ?_;walk_at"";refine dU (ah.of hw) rfl ?_;walk_at"";refine cC ?_;walk_at"";refine ax (ah.of hp3) (v:=.int r) rfl ?_;walk_at"";by_cases er:room=r
   rotate_left
   ·rw[F9 er];refine az ?_;walk_at"";refine⟨_,_,_,_,_,rfl,?_⟩;rw[vB er,List.append_nil];exact bl
   ·rw[Ga er];refine aG ?_;rcases okw with e|e|e|e<;>(simp only at e;subst e)
    ·rw[fI er (jx n)];walk_at"";refine cC ?_;walk_at"";refine cy ?_;rw[dE];refine rd_exb (aG ?_);walk_at"";refine⟨bl.ty (Ext.rfl' _),?_⟩;walk_at"";refine ax (ah.of hp3) (v:=.int n) rfl ?_;walk_at"";refine aO λd H4 e4 hd _=>?_;walk_at"";refine aO λc H5 e5 hc _=>?_;walk_at"";obtain⟨xs,hx,hlx,bl'⟩:=bl.push hfn (e4.trans e5) (e5 _ _ hd) hc;refine bK hx (dm (by omega)) ?_;generalize upd H5 f _=H6 at bl' ⊢;walk_at"";refine cC ?_;walk_at"";refine cy ?_;rw[vq];refine rd_exb (az ?_);refine az ?_;walk_at"";refine cC ?_;walk_at"";refine cy ?_;rw[Aw];refine rd_exb (az ?_);walk_at"";refine cy ?_;rw[qM];refine rd_exb (az ?_);refine az ?_;walk_at"";exact⟨_,_,_,_,_,rfl,bl'⟩
    ·walk_at"";refine cC ?_;walk_at"";refine cy ?_;rw[qe];refine rd_exb (az ?_);walk_at"";refine cC ?_;walk_at"";refine cy ?_;rw[dE];refine rd_exb (aG ?_);walk_at"";refine ax (ah.of hp3) (v:=.int n) rfl ?_;walk_at"";by_cases hn:0<n
     ·rw[Ga hn];refine aG ?_;walk_at"";refine⟨bl.ty (Ext.rfl' _),?_⟩;walk_at"";refine ax (ah.of hp3) (v:=.int n) rfl ?_;walk_at"";refine aO λd H4 e4 hd _=>?_;walk_at"";refine aO λc H5 e5 hc _=>?_;walk_at"";obtain⟨xs,hx,hlx,bl'⟩:=bl.push hfn (e4.trans e5) (e5 _ _ hd) hc;refine bK hx (dm (by omega)) ?_;generalize upd H5 f _=H6 at bl' ⊢;walk_at"";refine cC ?_;walk_at"";refine cy ?_;rw[sS];refine rd_exb (az ?_);walk_at"";refine cy ?_;rw[xK];refine rd_exb (az ?_);refine az ?_;walk_at"";refine⟨_,_,_,_,_,rfl,?_⟩;rw[fI er (gH n),Ga hn];exact bl'
     ·rw[F9 hn];refine az ?_;walk_at"";refine cC ?_;walk_at"";refine cy ?_;rw[sS];refine rd_exb (az ?_);walk_at"";refine cy ?_;rw[xK];refine rd_exb (az ?_);refine az ?_;walk_at"";refine⟨_,_,_,_,_,rfl,?_⟩;rw[fI er (gH n),F9 hn];simpa using bl
    ·walk_at"";refine cC ?_;walk_at"";refine cy ?_;rw[vH];refine rd_exb (az ?_);walk_at"";refine cC ?_;walk_at"";refine cy ?_;rw[lW];refine rd_exb (az ?_);refine az ?_;walk_at"";refine cC ?_;walk_at"";refine cy ?_;rw[dE];refine rd_exb (aG ?_);refine aG ?_;walk_at"";refine⟨bl.ty (Ext.rfl' _),?_⟩;walk_at"";refine ax (ah.of hp3) (v:=.int n) rfl ?_;walk_at"";refine aO λd H4 e4 hd _=>?_;walk_at"";refine aO λc H5 e5 hc _=>?_;walk_at"";obtain⟨xs,hx,hlx,bl'⟩:=bl.push hfn (e4.trans e5) (e5 _ _ hd) hc;refine bK hx (dm (by omega)) ?_;generalize upd H5 f _=H6 at bl' ⊢;walk_at"";refine⟨_,_,_,_,_,rfl,?_⟩;rw[fI er (iY n)];exact bl'
    ·walk_at"";refine cC ?_;walk_at"";refine cy ?_;rw[u5];refine rd_exb (az ?_);walk_at"";refine cC ?_;walk_at"";refine cy ?_;rw[pC];refine rd_exb (az ?_);refine az ?_;walk_at"";refine cC ?_;walk_at"";refine cy ?_;rw[rF];refine rd_exb (az ?_);walk_at"";refine cy ?_;rw[dE];refine rd_exb (aG ?_);walk_at"";refine ax (ah.of hp3) (v:=.int n) rfl ?_;walk_at"";by_cases hn:n=0
     ·rw[Ga hn];refine aG ?_;walk_at"";refine⟨bl.ty (Ext.rfl' _),?_⟩;walk_at"";refine ax (ah.of hp3) (v:=.int n) rfl ?_;walk_at"";refine aO λd H4 e4 hd _=>?_;walk_at"";refine aO λc H5 e5 hc _=>?_;walk_at"";obtain⟨xs,hx,hlx,bl'⟩:=bl.push hfn (e4.trans e5) (e5 _ _ hd) hc;refine bK hx (dm (by omega)) ?_;generalize upd H5 f _=H6 at bl' ⊢;walk_at"";refine⟨_,_,_,_,_,rfl,?_⟩;rw[fI er (gn n),Ga hn];exact bl'
     ·rw[F9 hn];refine az ?_;walk_at"";refine⟨_,_,_,_,_,rfl,?_⟩;rw[fI er (gn n),F9 hn];simpa using bl
  ·rintro σ H' ⟨k1,k2,k3,k4,k5,rfl,bl⟩;rw[Ff,al.1]at bl;obtain⟨ew,cs,hcs,hpd⟩:=bl;walk_at"";exact q f H' cs ew hfn hcs hpd
def De{α:Type}{l:List α}(hn:l.Nodup){i j:Nat}{a:α}(hi:l[i]?=some a)(hj:l[j]?=some a):i=j:=by
 obtain⟨h1,e1⟩:=Fo.mp hi;obtain⟨h2,e2⟩:=Fo.mp hj;rcases Nat.lt_trichotomy i j with z|z|z
 ·exact absurd (e1.trans e2.symm) (List.pairwise_iff_getElem.mp hn i j h1 h2 z)
 ·exact z
 ·exact absurd (e2.trans e1.symm) (List.pairwise_iff_getElem.mp hn j i h2 h1 z)
def dH(ws:List Way)(r:Int)(k:Nat):List Nat:=(F8 k).filter λj=>(ws[j]?).any λw=>decide (w.room=r)
def Dv{ws:List Way}{r:Int}{i:Nat}{w:Way}(h:ws[i]?=some w):dH ws r (i+1)=dH ws r i++if w.room=r then[i]else[]:=by
 unfold dH;rw[List.range_succ,List.filter_append];congr 1;simp only[List.filter_cons,List.filter_nil,h,Option.any_some];by_cases e:w.room=r
 ·rw[Ga e,Ge rfl,Ge e]
 ·rw[F9 e,Gb (by decide),Gb e]
def Bi(ws:List Way)(r:Int)(k:Nat):(dH ws r k).length<=k:=by unfold dH;exact FP (List.length_filter_le _ _) (Nat.le_of_eq List.length_range)
def BB{ws:List Way}{r:Int}{j:Nat}{w:Way}(h:ws[j]?=some w)(e:w.room=r):j∈dH ws r ws.length:=by unfold dH;rw[List.mem_filter,List.mem_range,h];exact⟨(Fo.mp h).1,by simp[e]⟩
def DA{ws:List Way}{r:Int}{j:Nat}(h:j∈dH ws r ws.length):∃w,ws[j]?=some w/\w.room=r:=by unfold dH at h;rw[List.mem_filter,List.mem_range]at h;have e:=Fg h.1;rw[e]at h;exact⟨_,e,by simpa using h.2⟩
def dQ{n:Nat}(h:n<=24100):n<sizeLine:=Nat.lt_of_le_of_lt h (by decide)
abbrev bT(l:List Nat):List V:=l.map λj:Nat=>V.int (j:Int)
def vk(l:List Nat)(k:Nat):bT (l++[k])=bT l++[.int (k:Int)]:=Fx
structure CT(H:Hp)(c:Addr)(m:Int)(ls:List Addr)(ws:List Way)(k:Nat):Prop where
 at_:H c=some (.lst (List.map V.ref ls))
 len:ls.length=m.toNat
 nd:ls.Nodup
 it:∀(r:Nat) (l:Addr),ls[r]?=some l->H l=some (.lst (bT (dH ws r k)))
def CT.ext{H H':Hp}{c:Addr}{m:Int}{ls:List Addr}{ws:List Way}{k:Nat}(e:Ext H H')(h:CT H c m ls ws k):CT H' c m ls ws k:=
 ⟨e _ _ h.at_,h.len,h.nd,λr l hl=>e _ _ (h.it r l hl)⟩
def sE(K:Fb):Sp:=λvs H Q _=>∃v m ws,vs=[v]/\bj H v m ws/\HOuse m ws/\∀c ls H',Ext H H'->CT H' c m ls ws ws.length->Q (.ref c) H'
abbrev ng:Stmt:=stq 58
def sk:FnScope ["house","counts","count","way"] ["house"] (aH ng):=⟨rfl,rfl,rfl,by decide +kernel,rfl,by decide +kernel,by decide +kernel⟩
def Ct{P:Program}{w:World}{K:Fb}{mg:Str->Option Value}{base:Heap}(D:Dfn K mg "counts_by_room" ng ["house"])(T:Blt mg):Cal P w K mg base "counts_by_room" 1 ["house"] (sE K):=by
 have nd:=(sk).nd;refine D.ok sk (λvs H Q E h=>?_) (λX hX H vs Q E h=>?_)
 ·obtain⟨v,m,ws,rfl,_⟩:=h;rfl
 ·obtain⟨f,cdv,A,outer,s,H0,E0,rfl,hr⟩:=hX;obtain⟨v,m,ws,rfl,⟨hh,t,rfl,g1,g2⟩,ok,q⟩:=h;obtain⟨bs,g3,al⟩:=bU.al g2;have hfew:=ok.few;have m1:=ok.m1;have m2:=ok.m12;refine⟨_,(aq (fV (i:=1) ["room"] [] nd rfl (Or.inl rfl) (cW rfl T.range_ (aa (ao (ay K) (pv 0) ae (λ_ _=>rfl)) af)) (λ_=>(aM (i:=0) (show(["room"]:List Str).Nodup from by decide +kernel) rfl (Or.inl rfl) (Or.inr rfl))) (λ_=>dR) (λ_=>(bx af)))
    (aq (bM PassesOwn.never rfl (xE K rfl T.enumerate_ (aa (ao (ay K) (pv 0) ae (λ_ _=>rfl)) af)) (dY (n:=2) K rfl (bE (aM (i:=2) nd rfl (Or.inl rfl)) (bE (aM (i:=3) nd rfl (Or.inl rfl)) dI))) (av (bp (bF K Fn FC FD bN (ao (aJ K) (pv 1) (ao (ay K) (pv 3) ae (λ_ _=>rfl)) (λ_ _=>rfl)) (aa (pv 2) af)))))
    (av (aF (pv 1))))),?_⟩
  walk_at"";refine ax (ah.of g1) (v:=.int m) rfl ?_;walk_at"";refine cR ⟨by omega,by omega⟩ ?_;refine fP (λi ys H'=>Ext H H'/\∃ls:List Addr,ys=List.map V.ref ls/\ls.length=i/\ls.Nodup/\∀l∈ls,H' l=some (.lst [])/\H l=none) (hJ (by omega)) ⟨Ext.rfl' _,[],rfl,rfl,List.nodup_nil,λl h=>by cases h⟩ (λi ys H' _ h=>by obtain⟨_,ls,rfl,hl,_⟩:=h;rw[Ff,hl];exact FA _) ?_ ?_
  ·rintro i ys H' hi ⟨e,ls,rfl,hl,hnd,hls⟩;walk_at"";refine aG ?_;walk_at"";refine aO λl H1 e1 hl1 hln=>?_;refine⟨e.trans e1,ls++[l],by rw[Fx];rfl,by rw[Fy,hl];rfl,?_,?_⟩
   ·rw[List.nodup_append];refine⟨hnd,by simp,λa ha b hb z=>?_⟩;have:b=l:=by simpa using hb
    subst this;subst z;rw[(hls a ha).1]at hln;cases hln
   ·intro a ha;rcases FE.mp ha with z|z
    ·exact⟨e1 _ _ (hls a z).1,(hls a z).2⟩
    ·have:a=l:=by simpa using z
     subst this;exact⟨hl1,e.none hln⟩
  ·rintro ys H1 c ⟨e,ls,rfl,hl,hnd,hls⟩ hc;walk_at"";have eN:Ext H (upd H1 c (.lst (List.map V.ref ls))):=e.trans (bq hc);have hcH:H c=none:=e.none hc;have ct0:CT (upd H1 c (.lst (List.map V.ref ls))) c m ls ws 0:=⟨aL,hl,hnd,λr l hl=>by have:=(hls l (Fp hl)).1;rw[aC (cq this hc)];exact this⟩
   have hcl:∀l∈ls,H l=none:=λl h=>(hls l h).2;generalize upd H1 c (.lst (List.map V.ref ls))=H2 at eN ct0 ⊢;clear hls hc e H1;refine ax (ah.of (eN _ _ g1)) (v:=.ref t) rfl ?_;walk_at"";refine uj (ah.of (eN _ _ g3)) ?_;refine s9 (xs:=bs.map V.ref) (λi σ H'=>∃k1 k2,σ=[some (.ref hh),some (.ref c),k1,k2]/\Ext H H'/\CT H' c m ls ws i) ⟨none,none,rfl,eN,ct0⟩ (λi σ H' _ h=>by obtain⟨_,_,_,e,_⟩:=h;exact ah.of (e _ _ g3)) ?_ ?_
   ·rintro i u σ H3 pp H4 hu ⟨k1,k2,rfl,e3,ct3⟩ e4 hpp _;rw[Fh]at hu;obtain⟨b,hb,rfl⟩:=Fs.mp hu;have hi:i<ws.length:=by rw[←al.1];exact(Fo.mp hb).1
    have hwi:ws[i]?=some ws[i]:=Fg hi;have e34:=e3.trans e4;have ct:=ct3.ext e4;have okw:=ok.ok _ (FI hi);have hw:=e34 _ _ (al.2 i b _ hb hwi);have csu:=λr:Nat=>Dv (r:=(r:Int)) hwi;clear ct3;generalize ws[i]=w at hw okw csu hwi;have r0:=okw.r0;have r1:=okw.r1;have hlr:w.room.toNat<ls.length:=by rw[ct.len];omega
    have hlg:ls[w.room.toNat]?=some ls[w.room.toNat]:=Fg hlr;generalize ls[w.room.toNat]=l at hlg;have hl:=ct.it _ _ hlg;have hlen:=Bi ws (w.room.toNat:Nat) i;refine dU (ah.of hpp) rfl ?_;walk_at"";refine ax (ah.of hw) (v:=.int w.room) rfl ?_;refine aK (ag.of ct.at_) (v:=.ref l) ?_ ?_
    ·refine eR r0 ?_;rw[Fh,hlg];rfl
    refine⟨cN (ag.of hl),?_⟩;walk_at"";refine bK hl (dm (by rw[Ff];omega)) ?_;have lc:l≠c:=cF hl ct.at_ (λz=>by
     have z':=HO.lst.inj z;have hlc:=congrArg List.length z';cases hcn:dH ws (w.room.toNat:Nat) i with
     | nil=>
      rw[hcn]at hlc;rw[Ff,Ff]at hlc;have:ls.length=0:=hlc.symm;omega
     | cons a r=>
      rw[hcn]at z';cases ls with
      | nil=>cases z'
      | cons x y=>cases(List.cons.inj z').1)
    walk_at"";refine⟨_,_,rfl,cb e34 (hcl l (Fp hlg)),?_⟩;refine⟨by rw[aC lc.symm];exact ct.at_,ct.len,ct.nd,λr l' hl'=>?_⟩;rw[csu r];by_cases er:r=w.room.toNat
    ·subst er;rw[hlg]at hl';cases hl';rw[aL,Ge (by omega),vk]
    ·have nl:l'≠l:=λz=>er (by subst z;exact De ct.nd hl' hlg)
     rw[aC nl,Gb (by omega),List.append_nil];exact ct.it r l' hl'
   ·rintro σ H' ⟨k1,k2,rfl,e3,ct⟩;rw[Ff,al.1]at ct;walk_at"";exact q c ls H' e3 ct
def cg(m:Int)(x g:Bfs.Pl):Int:=(if g.2>x.2 then g.2 else x.2)+m*m
def uJ(K:Fb):Sp:=λvs H Q _=>∃v m ws a b x g,vs=[v,.ref a,.ref b]/\bj H v m ws/\HOuse m ws/\aw H a x/\aw H b g/\Q (.int (cg m x g)) H
abbrev m5:Stmt:=stq 59
def qX:FnScope ["house","place","goal"] ["house","place","goal"] (aH m5):=⟨rfl,rfl,rfl,by decide +kernel,rfl,by decide +kernel,by decide +kernel⟩
def zY{P:Program}{w:World}{K:Fb}{mg:Str->Option Value}{base:Heap}(D:Dfn K mg "greatest_met" m5 ["house","place","goal"])(T:Blt mg):Cal P w K mg base "greatest_met" 1 ["house","place","goal"] (uJ K):=by
 have nd:=(qX).nd;refine D.ok qX (λvs H Q E h=>?_) (λX hX H vs Q E h=>?_)
 ·obtain⟨v,m,ws,a,b,x,g,rfl,_⟩:=h;rfl
 ·obtain⟨f,cdv,A,outer,s,H0,E0,rfl,hr⟩:=hX;obtain⟨v,m,ws,a,b,x,g,rfl,⟨hh,t,rfl,g1,g2⟩,ok,hx,hg,q⟩:=h;have m1:=ok.m1;have m2:=ok.m12;refine⟨_,(av (aF (aA aY (aX (zr rfl) rfl T.max_ PyProof.Rows.boot_max (aa (ao (ay K) (pv 1) ae (λ_ _=>rfl)) (aa (ao (ay K) (pv 2) ae (λ_ _=>rfl)) af))) (aA eP (ao (ay K) (pv 0) ae (λ_ _=>rfl)) (ao (ay K) (pv 0) ae (λ_ _=>rfl)))))),?_⟩;walk_at"";refine ax (ah.of hx) (v:=.int x.2) rfl ?_;walk_at"";refine ax (ah.of hg) (v:=.int g.2) rfl ?_;walk_at"";refine ax (ah.of g1) (v:=.int m) rfl ?_;walk_at"";refine ax (ah.of g1) (v:=.int m) rfl ?_;walk_at""
  try refine rd_I (.inl ⟨by omega,by omega⟩) ?_
  walk_at"";exact q
def aI(ws:List Way)(T:Int)(x:Bfs.Pl)(k:Nat):Option Bfs.Pl:=
 (ws[k]?).bind λw=>if w.room=x.1 then(cD w.deed x.2).bind λn=>if n<=T then some (w.other,n)else none else none
def iR:rz "up" = 1:=by decide +kernel
def kz:rz "down" = -1:=by decide +kernel
def j3:rz "stay" = 0:=by decide +kernel
def oC:rz "zero" = 0:=by decide +kernel
def nG{z:Str}{n n':Int}(hz:b9 z)(h:cD z n=some n'):n'=n+rz z:=by
 rcases hz with e|e|e|e<;>rw[e]at h ⊢
 ·rw[jx]at h;rw[iR];cases h;rfl
 ·rw[gH]at h;rw[kz];split at h
  ·cases h;omega
  ·cases h
 ·rw[iY]at h;rw[j3];cases h;omega
 ·rw[gn]at h;rw[oC];split at h
  ·cases h;omega
  ·cases h
def mP{w:Way}(hz:b9 w.deed)(x:Bfs.Pl):cB w x.1 x.2=true↔w.room=x.1/\cD w.deed x.2=some (x.2+rz w.deed):=by
 unfold cB;rcases hz with e|e|e|e<;>rw[e]
 ·rw[vq,qM,jx,iR];simp
 ·rw[dE,gH,kz];by_cases h:0<x.2
  ·rw[Ga h];simp[Int.sub_eq_add_neg]
  ·rw[F9 h];simp
 ·rw[lW,F9 (show ¬(FW "stay")=FW "zero" by decide +kernel),iY,j3];simp
 ·rw[pC,dE,gn,oC];by_cases h:x.2=0
  ·rw[Ga h];simp
  ·rw[F9 h];simp
def Ar{ws:List Way}{T:Int}{x:Bfs.Pl}{k:Nat}{w:Way}(h:ws[k]?=some w)(hz:b9 w.deed)(ho:cB w x.1 x.2=true)(ht:x.2+rz w.deed<=T):aI ws T x k=some (w.other,x.2+rz w.deed):=by obtain⟨h1,h2⟩:=(mP hz x).mp ho;unfold aI;rw[h,FN,Ge h1,h2,FN,Ge ht]
def fQ{ws:List Way}{T:Int}{x y:Bfs.Pl}{k:Nat}(h:aI ws T x k=some y):∃w,ws[k]?=some w/\w.room=x.1/\cD w.deed x.2=some y.2/\y.1=w.other/\y.2<=T:=by
 unfold aI at h;obtain⟨w,hw,h⟩:=Option.bind_eq_some_iff.mp h;split at h
 ·rename_i hr;obtain⟨n,hn,h⟩:=Option.bind_eq_some_iff.mp h;split at h
  ·rename_i ht;cases h;exact⟨w,hw,hr,hn,rfl,ht⟩
  ·cases h
 ·cases h
def nE{ws:List Way}{T:Int}{x y:Bfs.Pl}{k:Nat}{w:Way}(hw:ws[k]?=some w)(hz:b9 w.deed)(h:aI ws T x k=some y):cB w x.1 x.2=true/\y=(w.other,x.2+rz w.deed)/\x.2+rz w.deed<=T:=by obtain⟨w',hw',hr,hs,ho,ht⟩:=fQ h;rw[hw]at hw';cases hw';have e:=nG hz hs;rw[e]at ht hs;exact⟨(mP hz x).mpr ⟨hr,hs⟩,Prod.ext ho e,ht⟩
def rS{z:Str}{n n':Int}(hz:b9 z)(h0:0<=n)(h:cD z n=some n'):0<=n':=by
 rcases hz with e|e|e|e<;>rw[e]at h
 ·rw[jx]at h;cases h;omega
 ·rw[gH]at h;split at h
  ·rename_i g;have:=of_decide_eq_true g;cases h;omega
  ·cases h
 ·rw[iY]at h;cases h;exact h0
 ·rw[gn]at h;split at h
  ·cases h;exact h0
  ·cases h
def fH(H:Hp)(v:V):Option (Bfs.Pl×Nat)->Prop
 | none=>v=.non
 | some (p,k)=>∃a b,v=.ref a/\H a=some (.tup [.ref b,.int (k:Int)])/\aw H b p
def fH.ext{H H':Hp}(e:Ext H H'){v:V}{o:Option (Bfs.Pl×Nat)}(h:fH H v o):fH H' v o:=by
 cases o with
 | none=>exact h
 | some pk=>
  obtain⟨a,b,h1,h2,h3⟩:=h;exact⟨a,b,h1,e _ _ h2,e _ _ h3⟩
def fH.put{H:Hp}{f:Addr}{u u':HO}(hf:H f=some u)(hn:∀xs,u≠.tup xs){v:V}{o:Option (Bfs.Pl×Nat)}(h:fH H v o):fH (upd H f u') v o:=by
 cases o with
 | none=>exact h
 | some pk=>
  obtain⟨a,b,h1,h2,h3⟩:=h;exact⟨a,b,h1,by rw[aC (cF h2 hf (λz=>hn _ z.symm))];exact h2,aw.put hf hn h3⟩
abbrev n5(H:Hp)(kv:List Key×V)(e:Bfs.Ent):Prop:=kv.1=bw e.1/\fH H kv.2 e.2.2
abbrev yT(H:Hp)(a:Addr)(e:Bfs.Ent):Prop:=aw H a e.1
section
variable {β:Type} {F:List Key×V->β->Prop} {key:β->Bfs.Pl} {kvs:List (List Key×V)} {q:List β}
def jc(hF:∀kv e,F kv e->kv.1=bw (key e))(h:Paired F kvs q){x:Bfs.Pl}(hx:x∉q.map key):aZ kvs (bw x)=none:=by
 induction h with
 | nil=>rfl
 | @cons a b as bs h t ih=>
  rw[List.map_cons,Fv,not_or]at hx;rw[dP (λz=>hx.1 (rD (z.symm.trans (hF _ _ h))))];exact ih hx.2
def ic(hF:∀kv e,F kv e->kv.1=bw (key e))(h:Paired F kvs q)(nd:(q.map key).Nodup){e:β}(he:e∈q):∃v,aZ kvs (bw (key e))=some v/\F (bw (key e),v) e:=by
 induction h with
 | nil=>cases he
 | @cons a b as bs h t ih=>
  rw[List.map_cons,List.nodup_cons]at nd;rcases Fv.mp he with z|z
  ·subst z;have e1:=hF _ _ h;refine⟨a.2,ef e1,?_⟩;rw[←e1];exact h
  ·obtain⟨v,h1,h2⟩:=ih nd.2 z;refine⟨v,?_,h2⟩;rw[dP (λw=>nd.1 ?_)]
   ·exact h1
   ·rw[rD ((hF _ _ h).symm.trans w)];exact List.mem_map.mpr ⟨e,z,rfl⟩
end
structure FF(H0 H:Hp)(f rw:Addr)(q:List Bfs.Ent):Prop where
 ext:Ext H0 H
 fn:H0 f=none
 rn:H0 rw=none
 d:∃kvs,H f=some (.dT kvs)/\Paired (n5 H) kvs q
 r:∃as,H rw=some (.lst (List.map V.ref as))/\Paired (yT H) as q
def FF.step{H0 H H1:Hp}{f rw:Addr}{q:List Bfs.Ent}(h:FF H0 H f rw q)(e:Ext H H1):FF H0 H1 f rw q:=by obtain⟨h1,h2,h3,⟨kvs,h4,h5⟩,as,h6,h7⟩:=h;exact⟨h1.trans e,h2,h3,⟨kvs,e _ _ h4,Paired.mapP h5 λ_ _ z=>⟨z.1,z.2.ext e⟩⟩,as,e _ _ h6,Paired.mapP h7 λ_ _ z=>e _ _ z⟩
def FF.push{H0 H:Hp}{f rw th t b:Addr}{q:List Bfs.Ent}{y p:Bfs.Pl}{k d:Nat}(h:FF H0 H f rw q)(hy:y∉q.map (·.1))(hth:aw H th y)(hb:aw H b p)(ht:H t=some (.tup [.ref b,.int (k:Int)])):
  ∃kvs,H f=some (.dT kvs)/\kvs.length=q.length/\∃as,upd H f (.dT (putK kvs (bw y) (.ref t))) rw=some (.lst (List.map V.ref as))/\as.length=q.length ∧
   FF H0 (upd (upd H f (.dT (putK kvs (bw y) (.ref t)))) rw (.lst (List.map V.ref as++[.ref th]))) f rw (q++[(y,d,some (p,k))]):=by
 obtain⟨h1,h2,h3,⟨kvs,h4,h5⟩,as,h6,h7⟩:=h;have nf:∀xs,(HO.dT kvs)≠.tup xs:=λxs z=>by cases z
 have nr:∀xs,(HO.lst (List.map V.ref as))≠.tup xs:=λxs z=>by cases z
 have ne:rw≠f:=cF h6 h4 (by intro z;cases z);have h6':upd H f (.dT (putK kvs (bw y) (.ref t))) rw=some (.lst (List.map V.ref as)):=by rw[aC ne];exact h6
 have vp:fH H (.ref t) (some (p,k)):=⟨t,b,rfl,ht,hb⟩;refine⟨kvs,h4,Paired.length h5,as,h6',Paired.length h7,cb (cb h1 h2) h3,h2,h3,⟨kvs++[(bw y,.ref t)],?_,?_⟩,as++[th],?_,?_⟩
 ·rw[aC ne.symm,aL,oR _ (jc (λ_ _ z=>z.1) h5 hy)]
 ·exact Paired.snoc (Paired.mapP h5 λ_ _ z=>⟨z.1,(z.2.put h4 nf).put h6' nr⟩) ⟨rfl,(vp.put h4 nf).put h6' nr⟩
 ·rw[aL,Fx];rfl
 ·exact Paired.snoc (Paired.mapP h7 λ_ _ z=>aw.put h6' nr (aw.put h4 nf z)) (aw.put h6' nr (aw.put h4 nf hth))
def bR(m T:Int)(x:Bfs.Pl):Prop:=0<=x.1/\x.1<m/\0<=x.2/\x.2<=T
def bR.few{m T:Int}{l:List Bfs.Pl}(hm:m<=12)(hT:T<=2000)(hn:l.Nodup)(h:∀x∈l,bR m T x):l.length<=24012:=
 Bfs.CH hT hn λx hx=>by obtain⟨a,b,c,d⟩:=h x hx;exact⟨a,by omega,c,d⟩
def nN{m T:Int}{ws:List Way}(ok:HOuse m ws){x y:Bfs.Pl}{k:Nat}(hx:0<=x.2)(h:aI ws T x k=some y):bR m T y:=by obtain⟨w,hw,hr,hs,ho,ht⟩:=fQ h;have okw:=ok.ok w (Fp hw);exact⟨by rw[ho];exact okw.o0,by rw[ho];exact okw.o1,rS okw.dd hx hs,ht⟩
def wb(H1:Hp)(ws:List Way)(m T:Int)(x:Bfs.Pl)(v:V)(pa ga c f rw:Addr)(M:Nat)(σ:St)(H':Hp):Prop:=
 ∃q i B k1 k2 k3 k4,σ=[some v,some (.ref pa),some (.ref ga),some (.int T),some (.ref c),some (.ref f),some (.ref rw),some (.int ((i:Nat):Int)),k1,k2,k3,k4]/\FF H1 H' f rw q/\Bfs.QI (aI ws T) x q i B/\(∀e∈q,bR m T e.1)/\i<=q.length/\M+i=24013
def AX(H1:Hp)(ws:List Way)(T:Int)(x g:Bfs.Pl)(v:V)(pa ga c f rw:Addr)(σ:St)(H':Hp):Prop:=
 ∃q i B k0 k1 k2 k3 k4,σ=[some v,some (.ref pa),some (.ref ga),some (.int T),some (.ref c),some (.ref f),some (.ref rw),k0,k1,k2,k3,k4]/\FF H1 H' f rw q/\Bfs.QI (aI ws T) x q i B/\q.length<=24012/\(i=q.length\/g∈q.map (·.1))
def Bl(H1:Hp)(ws:List Way)(m T:Int)(x:Bfs.Pl)(v:V)(pa ga c f rw b:Addr)(i:Nat)(h:Bfs.Ent)(ks:List Nat)(j:Nat)(σ:St)(H':Hp):Prop:=
 ∃q k1 k2 k3,σ=[some v,some (.ref pa),some (.ref ga),some (.int T),some (.ref c),some (.ref f),some (.ref rw),some (.int ((i:Nat):Int)),some (.ref b),k1,k2,k3]/\FF H1 H' f rw q/\Bfs.QF (nx:=aI ws T) (s:=x) q (i-1) h ks j/\(∀e∈q,bR m T e.1)/\aw H' b h.1
def CU{m:Int}{x g:Bfs.Pl}(h0:0<=m)(hm:m<=12)(hx:x.2<=1000)(hg:g.2<=1012):cg m x g<=2000:=by unfold cg;have:m*m<=12*12:=Int.mul_le_mul hm hm h0 (by decide);split<;>omega
def pX{m:Int}{x g:Bfs.Pl}(h0:0<=m):x.2<=cg m x g/\g.2<=cg m x g:=by unfold cg;have:0<=m*m:=FL h0 h0;split<;>constructor<;>omega
def tD(K:Fb):Sp:=λvs H Q _=>∃v m ws pa ga x g,vs=[v,.ref pa,.ref ga]/\bj H v m ws/\HOuse m ws/\aw H pa x/\aw H ga g/\cY m x/\g.2<=1012 ∧
 ∀f H' kvs q i B,Ext H H'->H' f=some (.dT kvs)->Paired (n5 H') kvs q->Bfs.QI (aI ws (cg m x g)) x q i B->q.length<=24012->(i=q.length\/g∈q.map (·.1))->Q (.ref f) H'
abbrev lM:Stmt:=stq 60
def rW:FnScope ["house","place","goal","greatest","counts","found","row","looked","here","count","way","there"] ["house","place","goal"] (aH lM):=⟨rfl,rfl,rfl,by decide +kernel,rfl,by decide +kernel,by decide +kernel⟩
def Cj{P:Program}{w:World}{K:Fb}{mg:Str->Option Value}{base:Heap}(D:Dfn K mg "found_from" lM ["house","place","goal"])(T:Blt mg)(C_is_open:Cal P w K mg base "is_open" 1 ["way","place"] (j9 K))(C_led_to:Cal P w K mg base "led_to" 2 ["way","place"] (j8 K))(C_counts_by_room:Cal P w K mg base "counts_by_room" 1 ["house"] (sE K))(C_greatest_met:Cal P w K mg base "greatest_met" 1 ["house","place","goal"] (uJ K)):Cal P w K mg base "found_from" 3 ["house","place","goal"] (tD K):=by
 have nd:=(rW).nd;refine D.ok rW (λvs H Q E h=>?_) (λX hX H vs Q E h=>?_)
 ·obtain⟨v,m,ws,pa,ga,x,g,rfl,_⟩:=h;rfl
 ·obtain⟨f,cdv,A,outer,s,H0,E0,rfl,hr⟩:=hX;obtain⟨v,m,ws,pa,ga,x,g,rfl,hv,ok,hx,hg,ix,ig,q⟩:=h;have m1:=ok.m1;have m2:=ok.m12;have hfew:=ok.few;have hT:=CU (m:=m) (x:=x) (g:=g) (by omega) m2 ix.2.2.2 ig;have hxT:=(pX (m:=m) (x:=x) (g:=g) (by omega)).1;refine⟨_,(aq (aE (i:=3) nd rfl (Or.inl rfl) (aB C_greatest_met hr (aa (pv 0) (aa (pv 1) (aa (pv 2) af)))))
    (aq (aE (i:=4) nd rfl (Or.inl rfl) (aB C_counts_by_room hr (aa (pv 0) af)))
    (aq (aE (i:=5) nd rfl (Or.inl rfl) (rh (dw hr) (pv 1) iN))
    (aq (aE (i:=6) nd rfl (Or.inl rfl) (bx (aa (pv 1) af)))
    (aq (aE (i:=7) nd rfl (Or.inl rfl) ae)
    (aq (gq PassesOwn.never (PW.pt (fX (aQ cZ (pv 7) (aX (cQ K) rfl T.len_ PySem.boot_len (aa (pv 6) af)) (aN _)) (gJ (jh (iO (dw hr) (pv 2) (pv 5)) (by with_unfolding_all rfl))))) (aq (aE (i:=8) nd rfl (Or.inl rfl) (ao (aJ K) (pv 6) (pv 7) (λ_ _=>rfl)))
    (aq (jt (i:=7) nd rfl (Or.inl rfl) ae jL)
    (av (bM PassesOwn.never rfl (bW K (ao (aJ K) (pv 4) (ao (ay K) (pv 8) ae (λ_ _=>rfl)) (λ_ _=>rfl))) (aM (i:=9) nd rfl (Or.inl rfl)) (aq (aE (i:=10) nd rfl (Or.inl rfl) (ao (ay K) (ao (ay K) (pv 0) ae (λ_ _=>rfl)) (pv 9) (λ_ _=>rfl)))
    (aq (aE (i:=11) nd rfl (Or.inl rfl) (aB C_led_to hr (aa (pv 10) (aa (pv 8) af))))
    (av (cU (PW.pt (fX (bB (aB C_is_open hr (aa (pv 10) (aa (pv 8) af)))) (fX (aQ f7 (ao (ay K) (pv 11) ae (λ_ _=>rfl)) (pv 3) (aN _)) (gJ (jh (iO (dw hr) (pv 11) (pv 5)) (by with_unfolding_all rfl)))))) (aq (kr (dw hr) (pv 5) (pv 11) (bz (aa (pv 8) (aa (pv 9) af))) rfl)
    (av (bp (bF K Fn FC FD bN (pv 6) (aa (pv 11) af))))) aV)))))))))
    (av (aF (pv 5))))))))),?_⟩
  walk_at"";refine⟨v,m,ws,pa,ga,x,g,rfl,hv,ok,hx,hg,?_⟩;generalize cg m x g=T at q hT hxT ⊢;walk_at"";refine⟨v,m,ws,rfl,hv,ok,λc ls H1 e1 ct=>?_⟩;walk_at"";refine λf hfn=>?_;walk_at"";refine⟨pa,bw x,rfl,(bq hfn) _ _ (e1 _ _ hx),aL,?_⟩;walk_at"";refine aO λrw H3 e3 hrw hrn=>?_;walk_at"";have e13:Ext H1 (upd (upd H1 f (.dT [])) f (.dT [(bw x,.non)])):=λb o hb=>by rw[aC (cq hb hfn),aC (cq hb hfn)];exact hb
  have hrn1:H1 rw=none:=e13.none hrn;have hf3:H3 f=some (.dT [(bw x,.non)]):=e3 _ _ aL;have ff0:FF H1 H3 f rw [(x,0,none)]:=⟨e13.trans e3,hfn,hrn1,⟨_,hf3,.cons ⟨rfl,rfl⟩ .nil⟩,[pa],hrw,.cons (e3 _ _ (e13 _ _ (e1 _ _ hx))) .nil⟩;refine fW (wb H1 ws m T x v pa ga c f rw) (AX H1 ws T x g v pa ga c f rw) 24013 ⟨[(x,0,none)],0,0,_,_,_,_,rfl,ff0,Bfs.QI.begin _ _,?_,by simp,rfl⟩ ?_ ?_
  ·intro e he;rw[Fq]at he;subst he;exact⟨ix.1,ix.2.1,ix.2.2.1,hxT⟩
  ·clear ff0 hf3 hrn1 e13 hrw hrn e3;rintro M σ H4 ⟨qq,i,B,k1,k2,k3,k4,rfl,ff,qi,hin,hi,hM⟩;have hqn:qq.length<=24012:=by
    have:=bR.few m2 hT qi.nd (λy hy=>by obtain⟨e,he,rfl⟩:=List.mem_map.mp hy;exact hin e he)
    rwa [Ff]at this
   obtain⟨kvs,hd,pk⟩:=ff.d;obtain⟨as,hr,pr⟩:=ff.r;have hal:=Paired.length pr;have hg4:aw H4 ga g:=ff.ext _ _ (e1 _ _ hg);walk_at"";refine eZ (ag.of hr) ?_;walk_at"";by_cases hlt:i<qq.length
   rotate_left
   ·rw[F9 (show ¬((i:Nat):Int)<((List.map V.ref as).length:Nat) by rw[Ff,hal];omega)];refine az ?_;refine az ?_;exact⟨qq,i,B,_,_,_,_,_,rfl,ff,qi,hqn,.inl (by omega)⟩
   ·rw[Ga (show((i:Nat):Int)<((List.map V.ref as).length:Nat) by rw[Ff,hal];omega)];refine aG ?_;walk_at"";refine⟨f,_,rfl,cx.t hd (k:=bw g) hg4,?_⟩;by_cases hgk:g∈qq.map (·.1)
    ·obtain⟨e,he,rfl⟩:=List.mem_map.mp hgk;obtain⟨v1,hv1,_⟩:=ic (λ_ _ z=>z.1) pk qi.nd he;rw[hv1];refine rd_exb (az ?_);exact⟨qq,i,B,_,_,_,_,_,rfl,ff,qi,hqn,.inr hgk⟩
    ·rw[jc (λ_ _ z=>z.1) pk hgk];refine rd_exb (aG ?_);refine⟨λσ' H'=>∃m',m'<M/\wb H1 ws m T x v pa ga c f rw m' σ' H',λ_ _ h=>h,?_⟩;have hqi:=Fg hlt;generalize qq[i]=hh at hqi;obtain⟨b,hb,hbp⟩:=oW pr hqi;have qf:=qi.look hqi (dH ws hh.1.1 ws.length);have hih:=hin hh (Fp hqi);obtain⟨hr0,hr1,hn0,hn1⟩:=hih;clear qi hgk hg4 pr hal pk hd;walk_at"";refine aK (ag.of hr) (cP (v:=.ref b) (by rw[Fh,hb];rfl)) ?_;walk_at"";refine ax (ah.of hbp) (v:=.int hh.1.1) rfl ?_;walk_at"";have ct4:=ct.ext ff.ext;have hlr:hh.1.1.toNat<ls.length:=by rw[ct.len];omega
     have hlg:ls[hh.1.1.toNat]?=some ls[hh.1.1.toNat]:=Fg hlr;generalize ls[hh.1.1.toNat]=l at hlg;have hll:=ct.it _ _ hlg;rw[show ((hh.1.1.toNat:Nat):Int)=hh.1.1 by omega]at hll;refine aK (ag.of ct4.at_) (v:=.ref l) (eR hr0 (by rw[Fh,hlg];rfl)) ?_;refine bZ (ag.of (ff.ext _ _ hll)) ?_;obtain⟨hp,ht,rfl,g1,g2⟩:=hv.ext e1;obtain⟨bs,g3,al⟩:=bU.al g2;refine forL (xs:=bT (dH ws hh.1.1 ws.length)) (Bl H1 ws m T x (.ref hp) pa ga c f rw b (i+1) hh (dH ws hh.1.1 ws.length)) ?_ (λj σ H' _ h=>?_) ?_ ?_
     ·exact⟨qq,k2,k3,k4,rfl,ff,qf,hin,hbp⟩
     ·obtain⟨_,_,_,_,_,ff',_⟩:=h;exact ag.of (ff'.ext _ _ hll)
     ·clear qf ff hbp hr hqi hlt hqn hin;rintro j u σ H5 hu ⟨q5,c1,c2,c3,rfl,ff,qf,hin,hbp⟩;rw[Fh]at hu;obtain⟨k,hk,rfl⟩:=Fs.mp hu;obtain⟨w,hw,hroom⟩:=DA (Fp hk);have okw:=ok.ok w (Fp hw);have hkb:k<bs.length:=by rw[al.1];exact(Fo.mp hw).1
      have hbk:=Fg hkb;generalize bs[k]=bk at hbk;have hwt:=al.2 k bk w hbk hw;have hqn:q5.length<=24012:=by
       have:=bR.few m2 hT qf.nd (λy hy=>by obtain⟨e,he,rfl⟩:=List.mem_map.mp hy;exact hin e he)
       rwa [Ff]at this
      walk_at"";refine ax (ah.of (ff.ext _ _ g1)) (v:=.ref ht) rfl ?_;walk_at"";refine ax (ah.of (ff.ext _ _ g3)) (v:=.ref bk) (cP (by rw[Fh,hbk];rfl)) ?_;walk_at"";refine⟨bk,w,b,hh.1,rfl,ff.ext _ _ hwt,okw.dd,hbp,λth H6 e6 hth hthn=>?_⟩;have ff6:=ff.step e6;have hb6:aw H6 b hh.1:=e6 _ _ hbp;clear ff hbp;walk_at"";refine cC ?_;walk_at"";refine⟨bk,w,b,hh.1,rfl,ff6.ext _ _ hwt,hb6,?_⟩;refine rd_exb ?_;cases ho:cB w hh.1.1 hh.1.2 with
      | false=>
       refine az ?_;refine az ?_;walk_at"";exact⟨q5,_,_,_,rfl,ff6,qf.skip hk (λy hy=>by rw[(nE hw okw.dd hy).1]at ho;cases ho),hin,hb6⟩
      | true=>
       refine aG ?_;walk_at"";refine ax (ah.of hth) (v:=.int (hh.1.2+rz w.deed)) rfl ?_;walk_at"";by_cases hle:hh.1.2+rz w.deed<=T
       rotate_left
       ·rw[F9 hle];refine az ?_;refine az ?_;walk_at"";exact⟨q5,_,_,_,rfl,ff6,qf.skip hk (λy hy=>absurd (nE hw okw.dd hy).2.2 hle),hin,hb6⟩
       ·rw[Ga hle];refine aG ?_;walk_at"";have hy:=Ar (T:=T) hw okw.dd ho hle;obtain⟨kvs,hd,pk⟩:=ff6.d;refine⟨f,_,rfl,cx.t hd (k:=bw (w.other,hh.1.2+rz w.deed)) hth,?_⟩;by_cases hnew:(w.other,hh.1.2+rz w.deed)∈q5.map (·.1)
        ·obtain⟨e,he,hee⟩:=List.mem_map.mp hnew;obtain⟨v1,hv1,_⟩:=ic (λ_ _ z=>z.1) pk qf.nd he;rw[hee]at hv1;rw[hv1];refine rd_exb (az ?_);walk_at"";exact⟨q5,_,_,_,rfl,ff6,qf.skip hk (λy hy'=>by rw[hy]at hy';cases hy';exact hnew),hin,hb6⟩
        ·rw[jc (λ_ _ z=>z.1) pk hnew];refine rd_exb (aG ?_);clear pk hd;walk_at"";refine aO λt H7 e7 ht7 _=>?_;walk_at"";obtain⟨kvs,hd,hkl,as,hr7,hal,ff8⟩:=(ff6.step e7).push (d:=hh.2.1+1) hnew (e7 _ _ hth) (e7 _ _ hb6) ht7;have hb8:=aw.put (o':=.lst (List.map V.ref as++[.ref th])) hr7 (λxs z=>by cases z) (aw.put (o':=.dT (putK kvs (bw (w.other,hh.1.2+rz w.deed)) (.ref t))) hd (λxs z=>by cases z) (e7 _ _ hb6));refine⟨f,_,rfl,eJ.t hd (k:=bw (w.other,hh.1.2+rz w.deed)) (e7 _ _ hth) (dQ (by omega)),?_⟩;walk_at"";refine⟨cN (ag.of hr7),?_⟩;walk_at"";refine bK hr7 (dQ (by rw[Ff];omega)) ?_;refine⟨_,_,_,_,rfl,ff8,qf.add hk hy hnew,?_,hb8⟩;intro e he;rcases FE.mp he with z|z
         ·exact hin e z
         ·rw[Fq]at z;subst z;exact nN ok hn0 hy
     ·rintro σ H5 ⟨q5,c1,c2,c3,rfl,ff5,qf5,hin5,hbp5⟩;rw[Ff]at qf5;refine⟨M-1,by omega,q5,i+1,hh.2.1,_,_,_,_,rfl,ff5,qf5.next (λk y hy=>?_),hin5,?_,by omega⟩
      ·obtain⟨w,hw,hr,_⟩:=fQ hy;exact BB hw hr
      ·have:=(Fo.mp qf5.at_).1;omega
  ·rintro σ H4 ⟨qq,i,B,k0,k1,k2,k3,k4,rfl,ff,qi,hqn,hend⟩;obtain⟨kvs,hd,pk⟩:=ff.d;walk_at"";exact q f H4 kvs qq i B (e1.trans ff.ext) hd pk qi hqn hend
def rT(K:Fb):Sp:=λvs H Q _=>∃(f ga:Addr) (kvs:List (List Key×V)) (q:List Bfs.Ent) (nx:Bfs.Pl->Nat->Option Bfs.Pl) (s:Bfs.Pl) (i B:Nat) (e:Bfs.Ent),vs=[.ref f,.ref ga]/\H f=some (.dT kvs)/\Paired (n5 H) kvs q/\Bfs.QI nx s q i B/\aw H ga e.1/\e∈q/\e.2.1<=24012 ∧
 ∀l H' ks,Ext H H'->H' l=some (.lst (bT ks))->H l=none->ks.length=e.2.1->Bfs.gone (nx:=nx) s ks=some e.1->Q (.ref l) H'
def yb(H:Hp)(f ga l:Addr)(q:List Bfs.Ent)(nx:Bfs.Pl->Nat->Option Bfs.Pl)(e:Bfs.Ent)(M:Nat)(σ:St)(H':Hp):Prop:=
 ∃v u ks,σ=[some (.ref f),some (.ref ga),some (.ref l),some v]/\Ext H H'/\H' l=some (.lst (bT ks))/\u∈q/\fH H' v u.2.2/\u.2.1=M/\ks.length+M=e.2.1/\Bfs.gone (nx:=nx) u.1 ks.reverse=some e.1
abbrev nz:Stmt:=stq 61
def xr:FnScope ["found","goal","walk","step"] ["found","goal"] (aH nz):=⟨rfl,rfl,rfl,by decide +kernel,rfl,by decide +kernel,by decide +kernel⟩
def Dt{P:Program}{w:World}{K:Fb}{mg:Str->Option Value}{base:Heap}(D:Dfn K mg "walk_back" nz ["found","goal"])(T:Blt mg):Cal P w K mg base "walk_back" 1 ["found","goal"] (rT K):=by
 have nd:=(xr).nd;refine D.ok xr (λvs H Q E h=>?_) (λX hX H vs Q E h=>?_)
 ·obtain⟨f,ga,kvs,q,nx,s,i,B,e,rfl,_⟩:=h;rfl
 ·obtain⟨f,cdv,A,outer,s,H0,E0,rfl,hr⟩:=hX;obtain⟨f,ga,kvs,q,nx,s,i,B,e,rfl,hf,pk,qi,hg,he,hle,qq⟩:=h;refine⟨_,(aq (aE (i:=2) nd rfl (Or.inl rfl) (bx af))
    (aq (aE (i:=3) nd rfl (Or.inl rfl) (iT (dw hr) (pv 0) (pv 1) (λ_ _=>rfl)))
    (aq (gq PassesOwn.never (aQ tU (pv 3) iN (aN _)) (aq (bp (bF K Fn FC FD bN (pv 2) (aa (ao (ay K) (pv 3) ae (λ_ _=>rfl)) af)))
    (av (aE (i:=3) nd rfl (Or.inl rfl) (iT (dw hr) (pv 0) (ao (ay K) (pv 3) ae (λ_ _=>rfl)) (λ_ _=>rfl))))))
    (av (aF (Av K rfl rfl T.list_ rfl T.reversed_ (pv 2))))))),?_⟩
  walk_at"";refine aO λl H1 e1 hl hln=>?_;walk_at"";obtain⟨v0,hv0,_,hp0⟩:=ic (λ_ _ z=>z.1) pk qi.nd he;refine⟨f,v0,rfl,by rw[←hv0];exact cx.t (e1 _ _ hf) (k:=bw e.1) (e1 _ _ hg),?_⟩;walk_at"";refine fW (yb H f ga l q nx e) (λσ H'=>∃v ks,σ=[some (.ref f),some (.ref ga),some (.ref l),some v]/\Ext H H'/\H' l=some (.lst (bT ks))/\ks.length=e.2.1/\Bfs.gone (nx:=nx) s ks.reverse=some e.1) e.2.1 ⟨v0,e,[],rfl,e1,hl,he,hp0.ext e1,rfl,by simp,rfl⟩ ?_ ?_
  ·rintro M σ H4 ⟨v,u,ks,rfl,e4,hl4,hu,hvp,hM,hks,hgo⟩;walk_at"";rcases qi.par u hu with⟨p1,p2,p3⟩|⟨p,k,d,o,p1,p2,p3,p4⟩
   ·rw[p1]at hvp;obtain rfl:v=.non:=hvp;refine⟨rfl,?_⟩;refine rd_exb (az ?_);exact⟨_,ks,rfl,e4,hl4,by omega,by rw[←p2];exact hgo⟩
   ·rw[p1]at hvp;obtain⟨a,b,rfl,ha,hb⟩:=hvp;refine⟨rfl,?_⟩;rw[F9 (show ¬(V.ref a=V.non) by intro z;cases z)];refine rd_exb (aG ?_);refine⟨λσ' H'=>∃m',m'<M/\yb H f ga l q nx e m' σ' H',λ_ _ h=>h,?_⟩;walk_at"";refine⟨cN (ag.of hl4),?_⟩;walk_at"";refine ax (ah.of ha) (v:=.int (k:Int)) rfl ?_;walk_at"";refine bK hl4 (dQ (by rw[Ff];omega)) ?_;walk_at"";have nl:∀xs,(HO.lst (bT ks))≠.tup xs:=λxs z=>by cases z
    have ha5:upd H4 l (.lst (bT ks++[.int (k:Int)])) a=some (.tup [.ref b,.int (k:Int)]):=by rw[aC (cF ha hl4 (by intro z;cases z))];exact ha
    have hb5:=aw.put (o':=.lst (bT ks++[.int (k:Int)])) hl4 nl hb;refine ax (ah.of ha5) (v:=.ref b) rfl ?_;obtain⟨v1,hv1,_,hp1⟩:=ic (λ_ _ z=>z.1) pk qi.nd p4;have hf5:upd H4 l (.lst (bT ks++[.int (k:Int)])) f=some (.dT kvs):=by rw[aC (cF (e4 _ _ hf) hl4 (by intro z;cases z))];exact e4 _ _ hf
    have eH:Ext H (upd H4 l (.lst (bT ks++[.int (k:Int)]))):=cb e4 hln;refine⟨f,v1,rfl,by rw[←hv1];exact cx.t hf5 (k:=bw p) hb5,?_⟩;walk_at"";refine⟨d,by omega,v1,(p,d,o),ks++[k],rfl,eH,by rw[aL,vk],p4,hp1.ext eH,rfl,by rw[Fy];simp;omega,?_⟩;rw[List.reverse_append];show(nx p k).bind _=_;rw[p2];exact hgo
  ·rintro σ H4 ⟨v,ks,rfl,e4,hl4,hks,hgo⟩;walk_at"";refine qk (ag.of hl4) (cn λr H5 e5 hr hrn=>?_);refine qq r H5 ks.reverse (e4.trans e5) ?_ (e4.none hrn) (by rw[List.length_reverse];exact hks) hgo;rw[hr,←List.map_reverse]
def pS(K:Fb):Sp:=λvs H Q _=>∃v m ws pa ga x g,vs=[v,.ref pa,.ref ga]/\bj H v m ws/\HOuse m ws/\aw H pa x/\aw H ga g/\cY m x/\g.2<=1012 ∧
 ((∀n,¬Bfs.cL (aI ws (cg m x g)) x n g)->∀H',Ext H H'->Q .non H')/\∀n l H' ks,Bfs.cL (aI ws (cg m x g)) x n g->n<=24012->Ext H H'->H l=none->H' l=some (.lst (bT ks))->ks.length=n->Bfs.gone (nx:=aI ws (cg m x g)) x ks=some g->Q (.ref l) H'
abbrev kU:Stmt:=stq 62
def yf:FnScope ["house","place","goal","found"] ["house","place","goal"] (aH kU):=⟨rfl,rfl,rfl,by decide +kernel,rfl,by decide +kernel,by decide +kernel⟩
def Dp{P:Program}{w:World}{K:Fb}{mg:Str->Option Value}{base:Heap}(D:Dfn K mg "sought_walk" kU ["house","place","goal"])(T:Blt mg)(C_walk_back:Cal P w K mg base "walk_back" 1 ["found","goal"] (rT K))(C_found_from:Cal P w K mg base "found_from" 3 ["house","place","goal"] (tD K)):Cal P w K mg base "sought_walk" 4 ["house","place","goal"] (pS K):=by
 have nd:=(yf).nd;refine D.ok yf (λvs H Q E h=>?_) (λX hX H vs Q E h=>?_)
 ·obtain⟨v,m,ws,pa,ga,x,g,rfl,_⟩:=h;rfl
 ·obtain⟨f,cdv,A,outer,s,H0,E0,rfl,hr⟩:=hX;obtain⟨v,m,ws,pa,ga,x,g,rfl,hv,ok,hx,hg,ix,ig,qn,qy⟩:=h;refine⟨_,(aq (aE (i:=3) nd rfl (Or.inl rfl) (aB C_found_from hr (aa (pv 0) (aa (pv 1) (aa (pv 2) af)))))
    (aq (bo (jh (iO (dw hr) (pv 2) (pv 3)) (by with_unfolding_all rfl)) (av (aF iN)) aV)
    (av (aF (aB C_walk_back hr (aa (pv 3) (aa (pv 2) af))))))),?_⟩
  walk_at"";refine⟨v,m,ws,pa,ga,x,g,rfl,hv,ok,hx,hg,ix,ig,λf H1 kvs q i B e1 hf pk qi hql hend=>?_⟩;generalize cg m x g=T at qn qy qi;walk_at"";refine⟨f,_,rfl,cx.t hf (k:=bw g) (e1 _ _ hg),?_⟩;by_cases hgk:g∈q.map (·.1)
  ·obtain⟨e,he,rfl⟩:=List.mem_map.mp hgk;obtain⟨v1,hv1,_⟩:=ic (λ_ _ z=>z.1) pk qi.nd he;rw[hv1];refine rd_exb (az ?_);walk_at"";have hd:=qi.dist he;have hlv:e.2.1<=24012:=FP (qi.deep he) hql;refine⟨f,ga,kvs,q,aI ws T,x,i,B,e,rfl,hf,pk,qi,e1 _ _ hg,he,hlv,λl H2 ks e2 hl hln hks hgo=>?_⟩;exact qy _ l H2 ks hd hlv (e1.trans e2) (e1.none hln) hl hks hgo
  ·rw[jc (λ_ _ z=>z.1) pk hgk];refine rd_exb (aG ?_);walk_at"";refine qn (λn=>?_) H1 e1;rcases hend with h|h
   ·subst h;exact qi.done hgk n
   ·exact absurd h hgk
def nI(K:Fb):Sp:=λvs H Q _=>∃i:Int,vs=[.int i]/\Q (.bl true) H
abbrev pG:Stmt:=stq 83
def sZ:FnScope ["_law_found"] ["_law_found"] (aH pG):=⟨rfl,rfl,rfl,by decide +kernel,rfl,by decide +kernel,by decide +kernel⟩
def zq{P:Program}{w:World}{K:Fb}{mg:Str->Option Value}{base:Heap}(D:Dfn K mg "_law_whole" pG ["_law_found"])(T:Blt mg):Cal P w K mg base "_law_whole" 1 ["_law_found"] (nI K):=by
 have nd:=(sZ).nd;refine D.ok sZ (λvs H Q E h=>?_) (λX hX H vs Q E h=>?_)
 ·obtain⟨i,rfl,_⟩:=h;rfl
 ·obtain⟨f,cdv,A,outer,s,H0,E0,rfl,hr⟩:=hX;obtain⟨i,rfl,q⟩:=h;refine⟨_,(av (aF (di (aX dJ rfl T.isinstance_ PyProof.Rows.boot_isinstance (aa (pv 0) (aa (dO (v:=.ty "int") rfl T.int_ PyProof.Rows.boot_int rfl) af))) (dN (uW (aX dJ rfl T.isinstance_ PyProof.Rows.boot_isinstance (aa (pv 0) (aa (dO (v:=.ty "bool") rfl T.bool_ PyProof.Rows.boot_bool rfl) af)))))))),?_⟩;walk_at"";refine dG (n:="int") rfl (b:=true) rfl ?_;walk_at"";refine aG ?_;walk_at"";refine dG (n:="int") rfl (b:=false) rfl ?_;walk_at"";exact q
def Bs{H:Hp}{p:Addr}{xs:List V}(h:H p=some (.lst xs)):fi H (.ref p) "list":=.inl ⟨rfl,xs,h⟩
def pB{ws:List Way}{r n:Int}{t:Int×Int×Int}:∀{k:Nat},t∈cw ws r n k->∃j w,j<k/\ws[j]?=some w/\w.room=r/\cD w.deed n=some t.2.2/\t.1=((j:Nat):Int)/\t.2.1=w.other
 | 0,h=>by cases h
 | k+1,h=>by
  rcases FE.mp h with z|z
  ·obtain⟨j,w,h1,h2⟩:=pB z;exact⟨j,w,by omega,h2⟩
  ·cases hw:ws[k]? with
   | none=>rw[hw]at z;cases z
   | some w=>
    rw[hw]at z;have z':t∈eA w r n k:=z;by_cases hr:w.room=r
    ·cases hs:cD w.deed n with
     | none=>rw[fI hr hs]at z';cases z'
     | some n'=>
      rw[fI hr hs]at z';have:t=((k:Int),w.other,n'):=by simpa using z'
      subst this;exact⟨k,w,Nat.lt_succ_self _,hw,hr,hs,rfl,rfl⟩
    ·rw[vB hr]at z';cases z'
def sU{ws:List Way}{r n n':Int}{w:Way}{j:Nat}(hw:ws[j]?=some w)(hr:w.room=r)(hs:cD w.deed n=some n'):∀{k:Nat},j<k->((j:Int),w.other,n')∈cw ws r n k
 | 0,h=>absurd h (Nat.not_lt_zero _)
 | k+1,h=>by
  rcases F2 j k with l|l
  ·exact FZ _ (sU hw hr hs l)
  ·have:j=k:=by omega
   subst this;refine FY _ ?_;rw[hw];show _∈eA w r n j;rw[fI hr hs];simp
def uR{ws:List Way}{T:Int}{x y:Bfs.Pl}{k:Nat}(h:aI ws T x k=some y):((k:Int),y.1,y.2)∈cw ws x.1 x.2 ws.length/\y.2<=T:=by obtain⟨w,hw,hr,hs,ho,ht⟩:=fQ h;rw[ho];exact⟨sU hw hr hs (Fo.mp hw).1,ht⟩
def y8{ws:List Way}{T:Int}{x:Bfs.Pl}{t:Int×Int×Int}(h:t∈cw ws x.1 x.2 ws.length)(ht:t.2.2<=T):∃k:Nat,t.1=(k:Int)/\aI ws T x k=some (t.2.1,t.2.2):=by obtain⟨j,w,_,hw,hr,hs,h1,h2⟩:=pB h;refine⟨j,h1,?_⟩;unfold aI;rw[hw,FN,Ge hr,hs,FN,Ge ht,h2]
def zo{ws:List Way}{T:Int}{x y:Bfs.Pl}{k:Nat}(h:aI ws T x k=some y){t:Int×Int×Int}(ht:t∈cw ws x.1 x.2 ws.length)(hk:t.1=(k:Int)):t.2.1=y.1/\t.2.2=y.2:=by
 obtain⟨w,hw,hr,hs,ho,_⟩:=fQ h;obtain⟨j,w',_,hw',hr',hs',h1,h2⟩:=pB ht;have:j=k:=by omega
 subst this;rw[hw]at hw';cases hw';exact⟨h2.trans ho.symm,FX (hs'.symm.trans hs)⟩
def trail(nx:Bfs.Pl->Nat->Option Bfs.Pl):Bfs.Pl->List Nat->List Bfs.Pl
 | x,[]=>[x]
 | x,k::r=>x::((nx x k).map λy=>trail nx y r).getD []
def rK{nx:Bfs.Pl->Nat->Option Bfs.Pl}{y z:Bfs.Pl}{k:Nat}:∀{r:List Nat} {x:Bfs.Pl},Bfs.gone (nx:=nx) x r=some y->nx y k=some z->trail nx x (r++[k])=trail nx x r++[z]
 | [],x,h,hk=>by cases h;show y::((nx y k).map λy=>trail nx y []).getD []=_;rw[hk];rfl
 | a::r,x,h,hk=>by
  have h':(nx x a).bind (λy=>Bfs.gone (nx:=nx) y r)=some y:=h;show x::((nx x a).map λy=>trail nx y (r++[k])).getD []=(x::((nx x a).map λy=>trail nx y r).getD [])++[z];cases e:nx x a with
  | none=>rw[e]at h';cases h'
  | some u=>
   rw[e]at h';show x::trail nx u (r++[k])=(x::trail nx u r)++[z];rw[rK h' hk];rfl
def jV{nx:Bfs.Pl->Nat->Option Bfs.Pl}{y:Bfs.Pl}:∀{r:List Nat} {x:Bfs.Pl},Bfs.gone (nx:=nx) x r=some y->(trail nx x r).length=r.length+1
 | [],x,h=>rfl
 | a::r,x,h=>by
  have h':(nx x a).bind (λy=>Bfs.gone (nx:=nx) y r)=some y:=h;show(x::((nx x a).map λy=>trail nx y r).getD []).length=_;cases e:nx x a with
  | none=>rw[e]at h';cases h'
  | some u=>
   rw[e]at h';show(x::trail nx u r).length=_;rw[FJ,jV h',FJ]
structure Part(nx:Bfs.Pl->Nat->Option Bfs.Pl)(x g:Bfs.Pl)(ks:List Nat)(j:Nat)(y:Bfs.Pl):Prop where
 lo:Bfs.gone (nx:=nx) x (ks.take j)=some y
 hi:Bfs.gone (nx:=nx) y (ks.drop j)=some g
def Part.next{nx:Bfs.Pl->Nat->Option Bfs.Pl}{x g y:Bfs.Pl}{ks:List Nat}{j k:Nat}(h:Part nx x g ks j y)(hk:ks[j]?=some k):∃z,nx y k=some z/\Part nx x g ks (j+1) z/\trail nx x (ks.take (j+1))=trail nx x (ks.take j)++[z]:=by
 have hjl:=(Fo.mp hk).1;have hdr:ks.drop j=k::ks.drop (j+1):=by rw[List.drop_eq_getElem_cons hjl];rw[Fg hjl]at hk;cases hk;rfl
 have hg:=h.hi;rw[hdr]at hg;obtain⟨z,hz,hg⟩:=Option.bind_eq_some_iff.mp (show(nx y k).bind _=some g from hg);have htk:ks.take (j+1)=ks.take j++[k]:=by rw[List.take_succ,hk];rfl
 refine⟨z,hz,⟨by rw[htk];exact Bfs.lE h.lo hz,hg⟩,?_⟩;rw[htk];exact rK h.lo hz
def tp(K:Fb):Sp:=λvs H Q _=>∃v m ws b x k w,vs=[v,.ref b,.int ((k:Nat):Int)]/\bj H v m ws/\aw H b x/\ws[k]?=some w/\Q (.bl (cB w x.1 x.2)) H
abbrev mz:Stmt:=stq 56
def qj:FnScope ["house","place","count"] ["house","place","count"] (aH mz):=⟨rfl,rfl,rfl,by decide +kernel,rfl,by decide +kernel,by decide +kernel⟩
def Ae{P:Program}{w:World}{K:Fb}{mg:Str->Option Value}{base:Heap}(D:Dfn K mg "can_go" mz ["house","place","count"])(T:Blt mg)(C_is_open:Cal P w K mg base "is_open" 1 ["way","place"] (j9 K)):Cal P w K mg base "can_go" 2 ["house","place","count"] (tp K):=by
 have nd:=(qj).nd;refine D.ok qj (λvs H Q E h=>?_) (λX hX H vs Q E h=>?_)
 ·obtain⟨v,m,ws,b,x,k,w,rfl,_⟩:=h;rfl
 ·obtain⟨f,cdv,A,outer,s,H0,E0,rfl,hr⟩:=hX;obtain⟨v,m,ws,b,x,k,w,rfl,⟨hh,t,rfl,g1,g2⟩,hb,hw,q⟩:=h;obtain⟨bs,g3,al⟩:=bU.al g2;have hkb:k<bs.length:=by rw[al.1];exact(Fo.mp hw).1
  have hbk:=Fg hkb;generalize bs[k]=bk at hbk;have hwt:=al.2 k bk w hbk hw;refine⟨_,(av (aF (di (i8 f7 cZ ae (pv 2) (aX (cQ K) rfl T.len_ PySem.boot_len (aa (ao (ay K) (pv 0) ae (λ_ _=>rfl)) af))) (dN (aB C_is_open hr (aa (ao (ay K) (ao (ay K) (pv 0) ae (λ_ _=>rfl)) (pv 2) (λ_ _=>rfl)) (aa (pv 1) af))))))),?_⟩;walk_at"";rw[Ga (show(0:Int)<=((k:Nat):Int) by omega)];refine aG ?_;walk_at"";refine ax (ah.of g1) (v:=.ref t) rfl ?_;walk_at"";refine gh (ah.of g3) ?_;walk_at"";rw[Ga (show((k:Nat):Int)<(((bs.map V.ref).length:Nat):Int) by rw[Ff];omega)];refine aG ?_;walk_at"";refine ax (ah.of g1) (v:=.ref t) rfl ?_;walk_at"";refine ax (ah.of g3) (v:=.ref bk) (cP (by rw[Fh,hbk];rfl)) ?_;walk_at"";exact⟨bk,w,b,x,rfl,hwt,hb,q⟩
def wQ(K:Fb):Sp:=λvs H Q _=>∃v m ws pa l U x g ks,vs=[v,.ref pa,.ref l]/\bj H v m ws/\HOuse m ws/\aw H pa x/\H l=some (.lst (bT ks))/\ks.length<=24012/\Bfs.gone (nx:=aI ws U) x ks=some g ∧
 ∀r H' as,Ext H H'->H' r=some (.lst (List.map V.ref as))->Paired (aw H') as (trail (aI ws U) x ks)->Q (.ref r) H'
abbrev o4:Stmt:=stq 57
def rH:FnScope ["house","place","walk","places","count"] ["house","place","walk"] (aH o4):=⟨rfl,rfl,rfl,by decide +kernel,rfl,by decide +kernel,by decide +kernel⟩
def Ci{P:Program}{w:World}{K:Fb}{mg:Str->Option Value}{base:Heap}(D:Dfn K mg "places_gone" o4 ["house","place","walk"])(T:Blt mg)(C_led_to:Cal P w K mg base "led_to" 2 ["way","place"] (j8 K))(C_can_go:Cal P w K mg base "can_go" 2 ["house","place","count"] (tp K)):Cal P w K mg base "places_gone" 3 ["house","place","walk"] (wQ K):=by
 have nd:=(rH).nd;refine D.ok rH (λvs H Q E h=>?_) (λX hX H vs Q E h=>?_)
 ·obtain⟨v,m,ws,pa,l,U,x,g,ks,rfl,_⟩:=h;rfl
 ·obtain⟨f,cdv,A,outer,s,H0,E0,rfl,hr⟩:=hX;obtain⟨v,m,ws,pa,l,U,x,g,ks,rfl,hv,ok,hx,hl,hks,hgo,q⟩:=h;refine⟨_,(aq (aE (i:=3) nd rfl (Or.inl rfl) (bx (aa (pv 1) af)))
    (aq (bM PassesOwn.never rfl (bW K (pv 2)) (aM (i:=4) nd rfl (Or.inl rfl)) (aq (bo (bY (bB (aB C_can_go hr (aa (pv 0) (aa (ao (aJ K) (pv 3) (fU fS ae) (λ_ _=>rfl)) (aa (pv 4) af)))))) (av (aF (pv 3))) aV)
    (av (bp (bF K Fn FC FD bN (pv 3) (aa (aB C_led_to hr (aa (ao (ay K) (ao (ay K) (pv 0) ae (λ_ _=>rfl)) (pv 4) (λ_ _=>rfl)) (aa (ao (aJ K) (pv 3) (fU fS ae) (λ_ _=>rfl)) af))) af))))))
    (av (aF (pv 3))))),?_⟩
  walk_at"";refine aO λf H1 e1 hf hfn=>?_;walk_at"";refine bZ (ag.of (e1 _ _ hl)) ?_;refine forL (xs:=bT ks) (λj σ H'=>∃k1 y as a,σ=[some v,some (.ref pa),some (.ref l),some (.ref f),k1]/\Ext H H'/\H' f=some (.lst (List.map V.ref (as++[a])))/\Paired (aw H') (as++[a]) (trail (aI ws U) x (ks.take j))/\aw H' a y/\Part (aI ws U) x g ks j y) ⟨none,x,[],pa,rfl,e1,(show H1 f=some (.lst (List.map V.ref ([]++[pa])))from hf),(show Paired (aw H1) [pa] [x]from .cons (show aw H1 pa x from e1 _ _ hx) .nil),e1 _ _ hx,rfl,hgo⟩ (λj σ H' _ h=>by obtain⟨_,_,_,_,_,e,_⟩:=h;exact ag.of (e _ _ hl)) ?_ ?_
  ·rintro j u σ H2 hu ⟨k1,y,as,a,rfl,e2,hf2,hpa,ha,hpt⟩;rw[Fh]at hu;obtain⟨k,hk,rfl⟩:=Fs.mp hu;have hjl:=(Fo.mp hk).1;have hal:=Paired.length hpa;rw[jV hpt.lo,F5]at hal;obtain⟨z,hz,hpt',htr⟩:=hpt.next hk;obtain⟨w,hw,_⟩:=fQ hz;have okw:=ok.ok w (Fp hw);obtain⟨ho,hzz,_⟩:=nE hw okw.dd hz;obtain⟨hh,t,rfl,g1,g2⟩:=hv.ext e2;obtain⟨bs,g3,al⟩:=bU.al g2;have hkb:k<bs.length:=by rw[al.1];exact(Fo.mp hw).1
   have hbk:=Fg hkb;generalize bs[k]=bk at hbk;have hwt:=al.2 k bk w hbk hw;walk_at"";refine aK (ag.of hf2) (v:=.ref a) (by rw[Fx];exact jE _ _) ?_;walk_at"";refine⟨_,m,ws,a,y,k,w,rfl,⟨hh,t,rfl,g1,g2⟩,ha,hw,?_⟩;rw[ho];refine rd_exb (az ?_);walk_at"";refine⟨cN (ag.of hf2),?_⟩;walk_at"";refine ax (ah.of g1) (v:=.ref t) rfl ?_;walk_at"";refine ax (ah.of g3) (v:=.ref bk) (cP (by rw[Fh,hbk];rfl)) ?_;walk_at"";refine aK (ag.of hf2) (v:=.ref a) (by rw[Fx];exact jE _ _) ?_;walk_at"";refine⟨bk,w,a,y,rfl,hwt,okw.dd,ha,λth H3 e3 hth hthn=>?_⟩;rw[←hzz]at hth;have hf3:=e3 _ _ hf2;walk_at"";refine bK hf3 (dQ (by rw[Ff,hal];omega)) ?_;walk_at"";have nl:∀xs,(HO.lst (List.map V.ref (as++[a])))≠.tup xs:=λxs z=>by cases z
   refine⟨_,z,as++[a],th,rfl,cb (e2.trans e3) hfn,by rw[aL,Fx (l₁:=as++[a])];rfl,?_,aw.put hf3 nl hth,hpt'⟩;rw[htr];exact Paired.snoc (Paired.mapP hpa λ_ _ w=>aw.put hf3 nl (e3 _ _ w)) (aw.put hf3 nl hth)
  ·rintro σ H2 ⟨k1,y,as,a,rfl,e2,hf2,hpa,ha,hpt⟩;rw[Ff,FK]at hpa;walk_at"";exact q f H2 (as++[a]) e2 hf2 hpa
def sJ(K:Fb):Sp:=λvs H Q _=>∃v m ws pa l U x g ks,vs=[v,.ref pa,.ref l]/\bj H v m ws/\HOuse m ws/\aw H pa x/\H l=some (.lst (bT ks))/\ks.length<=24012/\Bfs.gone (nx:=aI ws U) x ks=some g ∧
 ∀r H' as a,Ext H H'->H' r=some (.lst (List.map V.ref (as++[a])))->Paired (aw H') (as++[a]) (trail (aI ws U) x ks)->aw H' a g->Q (.ref r) H'
abbrev mS:Stmt:=stq 82
def wM:FnScope ["_law_house_here","_law_place","_law_walk","_law_found","_law_k","_law_there"] ["_law_house_here","_law_place","_law_walk"] (aH mS):=⟨rfl,rfl,rfl,by decide +kernel,rfl,by decide +kernel,by decide +kernel⟩
def EH{P:Program}{w:World}{K:Fb}{mg:Str->Option Value}{base:Heap}(D:Dfn K mg "_law_gone" mS ["_law_house_here","_law_place","_law_walk"])(T:Blt mg)(C__law_behind:Cal P w K mg base "_law_behind" 1 ["_law_house_here","_law_place"] (oa K)):Cal P w K mg base "_law_gone" 2 ["_law_house_here","_law_place","_law_walk"] (sJ K):=by
 have nd:=(wM).nd;refine D.ok wM (λvs H Q E h=>?_) (λX hX H vs Q E h=>?_)
 ·obtain⟨v,m,ws,pa,l,U,x,g,ks,rfl,_⟩:=h;rfl
 ·obtain⟨f,cdv,A,outer,s,H0,E0,rfl,hr⟩:=hX;obtain⟨v,m,ws,pa,l,U,x,g,ks,rfl,hv,ok,hx,hl,hks,hgo,q⟩:=h;refine⟨_,(aq (aE (i:=3) nd rfl (Or.inl rfl) (bx (aa (pv 1) af)))
    (aq (bM PassesOwn.never rfl (bW K (pv 2)) (aM (i:=4) nd rfl (Or.inr rfl)) (aq (fV (i:=5) ["_law_way","_law_far"] [4] nd rfl (Or.inl rfl) (bW K (aB C__law_behind hr (aa (pv 0) (aa (ao (aJ K) (pv 3) (fU fS ae) (λ_ _=>rfl)) af)))) (λ_=>(dY (n:=2) K rfl (bE (aM (i:=0) (show(["_law_way","_law_far","_law_k"]:List Str).Nodup from by decide +kernel) rfl (Or.inl rfl) (Or.inr rfl)) (bE (aM (i:=1) (show(["_law_way","_law_far","_law_k"]:List Str).Nodup from by decide +kernel) rfl (Or.inl rfl) (Or.inr rfl)) dI)))) (λ_=>(eF (aQ bJ (pv 0) (pv 2) (aN _)))) (λ_=>(pv 1)))
    (aq (bo (aQ bJ (aX (cQ K) rfl T.len_ PySem.boot_len (aa (pv 5) af)) ae (aN _)) (av (aF iN)) aV)
    (av (bp (bF K Fn FC FD bN (pv 3) (aa (ao (aJ K) (pv 5) ae (λ_ _=>rfl)) af)))))))
    (av (aF (pv 3))))),?_⟩
  walk_at"";refine aO λf H1 e1 hf hfn=>?_;walk_at"";refine bZ (ag.of (e1 _ _ hl)) ?_;refine forL (xs:=bT ks) (λj σ H'=>∃k1 k2 y as a,σ=[some v,some (.ref pa),some (.ref l),some (.ref f),k1,k2]/\Ext H H'/\H' f=some (.lst (List.map V.ref (as++[a])))/\Paired (aw H') (as++[a]) (trail (aI ws U) x (ks.take j))/\aw H' a y/\Part (aI ws U) x g ks j y) ⟨none,none,x,[],pa,rfl,e1,(show H1 f=some (.lst (List.map V.ref ([]++[pa])))from hf),(show Paired (aw H1) [pa] [x]from .cons (show aw H1 pa x from e1 _ _ hx) .nil),e1 _ _ hx,rfl,hgo⟩ (λj σ H' _ h=>by obtain⟨_,_,_,_,_,_,e,_⟩:=h;exact ag.of (e _ _ hl)) ?_ ?_
  ·rintro j u σ H2 hu ⟨k1,k2,y,as,a,rfl,e2,hf2,hpa,ha,hpt⟩;rw[Fh]at hu;obtain⟨k,hk,rfl⟩:=Fs.mp hu;have hjl:=(Fo.mp hk).1;have hal:=Paired.length hpa;rw[jV hpt.lo,F5]at hal;obtain⟨z,hz,hpt',htr⟩:=hpt.next hk;have hzm:=uR hz;walk_at"";refine aK (ag.of hf2) (v:=.ref a) (by rw[Fx];exact jE _ _) ?_;walk_at"";refine⟨v,m,ws,a,y.1,y.2,rfl,hv.ext e2,ok,ha,λbl H3 cs e3 hbn hbl hpd=>?_⟩;have hcl:=Paired.length hpd;have hb100:=jH ws y.1 y.2 ws.length;have hfew:=ok.few;refine bZ (ag.of hbl) ?_;refine fD (xs:=cs.map V.ref) (λi ys H'=>Ext H3 H'/\(∀u∈ys,∃d,u=.ref d/\aw H' d z)/\((∃t∈(cw ws y.1 y.2 ws.length).take i,t.1=(k:Int))->ys≠[])/\ys.length<=i) (hJ (by rw[Ff,hcl];omega)) ⟨Ext.rfl' _,λu h=>(by cases h),λh=>(by obtain⟨t,ht,_⟩:=h;simp at ht),FA _⟩ (λi ys H' _ h=>⟨ag.of (h.1 _ _ hbl),h.2.2.2⟩) ?_ ?_
   ·rintro i u ys H4 hu ⟨e4,hall,hne,hyl⟩;rw[Fh]at hu;obtain⟨cc,hc,rfl⟩:=Fs.mp hu;obtain⟨t,ht,hb⟩:=fb hpd hc;have htm:=Fp ht;have htk:(cw ws y.1 y.2 ws.length).take (i+1)=(cw ws y.1 y.2 ws.length).take i++[t]:=by rw[List.take_succ,ht];rfl
    obtain⟨d,hc1,hd1⟩:=hb.ext e4;refine dU (ah.of hc1) rfl ?_;walk_at"";rw[htk];by_cases hek:t.1=(k:Int)
    ·rw[Ga hek];refine aG ?_;walk_at"";have:=zo hz htm hek;refine⟨e4,λu hu=>?_,λ_ z=>by simp at z,by rw[Fy];simp;omega⟩;rcases FE.mp hu with w1|w1
     ·exact hall u w1
     ·refine⟨d,by simpa using w1,?_⟩;show _=some (HO.tup [.int z.1,.int z.2]);rw[←this.1,←this.2];exact hd1
    ·rw[F9 hek];refine az ?_;refine⟨e4,hall,λh=>hne ?_,by omega⟩;obtain⟨t',ht',hk'⟩:=h;rcases FE.mp ht' with z|z
     ·exact⟨t',z,hk'⟩
     ·have:t'=t:=by simpa using z
      subst this;exact absurd hk' hek
   ·rintro ys H4 p ⟨e4,hall,hne,hyl⟩ hp;walk_at"";have hys:ys≠[]:=hne ⟨((k:Int),z.1,z.2),by rw[List.take_of_length_le (by rw[Ff,hcl];exact FA _)];exact hzm.1,rfl⟩;obtain⟨u,us,rfl⟩:=List.exists_cons_of_ne_nil hys;obtain⟨d,rfl,hd⟩:=hall u Fm;have e25:Ext H2 (upd H4 p (.lst (.ref d::us))):=(e3.trans e4).trans (bq hp);have hd5:aw (upd H4 p (.lst (.ref d::us))) d z:=(bq hp) _ _ hd;have hp5:upd H4 p (.lst (.ref d::us)) p=some (.lst (.ref d::us)):=aL;generalize upd H4 p (.lst (.ref d::us))=H5 at e25 hd5 hp5 ⊢;refine eZ (ag.of hp5) ?_;walk_at"";rw[F9 (show ¬(((V.ref d::us).length:Nat):Int)=0 by rw[FJ];omega)];refine az ?_;walk_at"";have hf5:=e25 _ _ hf2;refine⟨cN (ag.of hf5),?_⟩;walk_at"";refine aK (ag.of hp5) (cP (j:=0) rfl) ?_;walk_at"";refine bK hf5 (dQ (by rw[Ff,hal];omega)) ?_;walk_at"";have nl:∀xs,(HO.lst (List.map V.ref (as++[a])))≠.tup xs:=λxs z=>by cases z
    refine⟨_,_,z,as++[a],d,rfl,cb (e2.trans e25) hfn,by rw[aL,Fx (l₁:=as++[a])];rfl,?_,aw.put hf5 nl hd5,hpt'⟩;rw[htr];exact Paired.snoc (Paired.mapP hpa λ_ _ w=>aw.put hf5 nl (e25 _ _ w)) (aw.put hf5 nl hd5)
  ·rintro σ H2 ⟨k1,k2,y,as,a,rfl,e2,hf2,hpa,ha,hpt⟩;rw[Ff]at hpa hpt;rw[FK]at hpa;have hyg:=hpt.hi;rw[List.drop_length]at hyg;cases hyg;walk_at"";exact q f H2 as a e2 hf2 hpa ha
def aT(n:Nat)(f:Nat->Bool):List V:=(F8 n).map λi=>V.bl (f i)
def cV(n:Nat)(f:Nat->Bool):(aT n f).length=n:=by simp[aT]
def fN{n i:Nat}(f:Nat->Bool)(h:i<n):(aT n f)[i]?=some (.bl (f i)):=by unfold aT;rw[Fh,List.getElem?_range h];rfl
def eG{n:Nat}{f g:Nat->Bool}(h:∀i,i<n->f i=g i):aT n f=aT n g:=by unfold aT;apply List.map_congr_left;intro i hi;rw[h i (List.mem_range.mp hi)]
def jm(n:Nat)(f:Nat->Bool):aT (n+1) f=aT n f++[V.bl (f n)]:=by unfold aT;rw[List.range_succ,Fx];rfl
def mX{n k:Nat}(f:Nat->Bool)(c:Bool)(hk:k<n):(aT n f).set k (.bl c)=aT n λi=>if i=k then c else f i:=by
 apply List.ext_getElem?;intro i;rcases F2 i n with hi|hi
 ·rw[List.getElem?_set,cV,fN _ hi,fN _ hi];by_cases h:k=i
  ·subst h;simp[hi]
  ·rw[Gb h,Gb (Ne.symm h)]
 ·rw[List.getElem?_eq_none (by rw[List.length_set,cV];exact hi),List.getElem?_eq_none (by rw[cV];exact hi)]
def ee{n:Nat}{f:Nat->Bool}{i:Int}(h0:0<=i)(h:i<n):bG (aT n f) i=some (.bl (f i.toNat)):=eR h0 (fN f (by omega))
def wG(n:Nat)(c:Bool):(F0 n [V.bl c]).flatten=aT n λ_=>c:=by
 induction n with
 | zero=>rfl
 | succ n ih=>
  rw[List.replicate_succ',List.flatten_append,ih,jm];rfl
def Br{n:Nat}{f:Nat->Bool}{i:Int}(h0:0<=i)(h:i<=n):bV (aT n f) none (some i)=aT i.toNat f:=by
 unfold bV;rw[cV,HT.jU];have e:HT.aP n n (some i)=i.toNat:=by show(if i<0 then(i+(n:Int)).toNat else min i.toNat n)=i.toNat;rw[Gb (by omega)];omega
 rw[e,List.drop_zero,Nat.sub_zero];apply List.ext_getElem?;intro k;rcases F2 k i.toNat with hk|hk
 ·rw[List.getElem?_take_of_lt hk,fN _ (by omega),fN _ hk]
 ·rw[List.getElem?_eq_none (by rw[F5,cV];omega),List.getElem?_eq_none (by rw[cV];omega)]
def Rows(H:Hp)(q:Addr)(rs:List Addr)(n:Nat)(M:Nat->Nat->Bool):Prop:=H q=some (.lst (rs.map V.ref))/\∀(i:Nat) (r:Addr),rs[i]?=some r->H r=some (.lst (aT n (M i)))
def Rows.ext{H H':Hp}(e:Ext H H'){q:Addr}{rs:List Addr}{n:Nat}{M:Nat->Nat->Bool}(h:Rows H q rs n M):Rows H' q rs n M:=⟨e _ _ h.1,λi r hi=>e _ _ (h.2 i r hi)⟩
def j7(K:Fb):Sp:=λvs H Q _=>∃vh m ws d,vs=[vh,.str d]/\bj H vh m ws/\HOuse m ws/\∀l cs us H',Ext H H'->H l=none->H' l=some (.lst (List.map V.ref cs))->aU H' cs us->us=ws.filter (λw=>decide (w.deed=d))->Q (.ref l) H'
abbrev mx:Stmt:=stq 38
def rE:FnScope ["house","deed"] ["house","deed"] (aH mx):=⟨rfl,rfl,rfl,by decide +kernel,rfl,by decide +kernel,by decide +kernel⟩
def Df{P:Program}{w:World}{K:Fb}{mg:Str->Option Value}{base:Heap}(D:Dfn K mg "ways_of_deed" mx ["house","deed"])(T:Blt mg):Cal P w K mg base "ways_of_deed" 1 ["house","deed"] (j7 K):=by
 have nd:=(rE).nd;refine D.ok rE (λvs H Q E h=>?_) (λX hX H vs Q E h=>?_)
 ·obtain⟨vh,m,ws,d,rfl,_⟩:=h;rfl
 ·obtain⟨f,cdv,A,outer,s,H0,E0,rfl,hr⟩:=hX;obtain⟨vh,m,ws,d,rfl,hv,ok,q⟩:=h;have few:=ok.few;obtain⟨hp0,hq0,rfl,hh,hw⟩:=id hv;obtain⟨bs,hq,hal⟩:=bU.al hw;have hbl:=hal.1;refine⟨_,(@av _ _ _ (@aF _ _ _ _ (de ["way"] [1] (iE K (@ao _ _ _ _ _ _ _ (ay K) (pv 0) ae (λ_ _=>rfl))) (λ_=>(aM (i:=0) (show(["way","deed"]:List Str).Nodup from by decide +kernel) rfl (Or.inl rfl) (Or.inr rfl))) (λ_=>(eF (aQ bJ (@ao _ _ _ _ _ _ _ (ay K) (pv 0) ae (λ_ _=>rfl)) (pv 1) (aN _)))) (λ_=>(pv 0))))),?_⟩;walk_at"";refine ax (ah.of hh) (v:=.ref hq0) rfl ?_;walk_at"";refine iu (ah.of hq) ?_;refine jG (xs:=bs.map V.ref) (λi ys H'=>H'=H/\∃cs us,ys=List.map V.ref cs/\aU H cs us/\us=(ws.take i).filter λw=>decide (w.deed=d)) (bL (by rw[Ff];omega)) ⟨rfl,[],[],rfl,aU.nil _,rfl⟩ ?_ ?_ ?_
  ·rintro i ys H' _ ⟨rfl,cs,us,rfl,hau,rfl⟩;refine⟨ah.of hq,?_⟩;rw[Ff,hau.1];exact FP (List.length_filter_le _ _) (by rw[F5];omega)
  ·rintro i v ys H' hx ⟨rfl,cs,us,rfl,hau,hus⟩;rw[Fh]at hx;obtain⟨b,hb,rfl⟩:=Fs.mp hx;have hiw:i<ws.length:=by have:=(Fo.mp hb).1;omega
   have hwi:ws[i]?=some ws[i]:=Fg hiw;have hbw:=hal.2 i b _ hb hwi;generalize ws[i]=w0 at hwi hbw;walk_at"";refine ax (ah.of hbw) (v:=.str w0.deed) rfl ?_;walk_at"";refine cy (rd_exb ?_);cases hc:decide (w0.deed=d)with
   | true=>
    refine aG ?_;walk_at"";refine⟨rfl,cs++[b],us++[w0],?_,hau.snoc hbw,?_⟩
    ·rw[Fx];rfl
    ·rw[hus,List.take_add_one,hwi,List.filter_append];congr 1;show[w0]=List.filter _ [w0];rw[List.filter_cons,Ge hc];rfl
   | false=>
    refine az ⟨rfl,cs,us,rfl,hau,?_⟩;rw[hus,List.take_add_one,hwi,List.filter_append];have:List.filter (λw:Way=>decide (w.deed=d)) [w0]=[]:=by rw[List.filter_cons,Gb (by rw[hc];exact Fw)];rfl
    show _=_++List.filter _ [w0];rw[this,List.append_nil]
  ·rintro ys H' pc ⟨hH,cs,us,rfl,hau,hus⟩ hpc;subst hH;rw[Ff,hbl,FK]at hus;have e:=bq (o:=.lst (List.map V.ref cs)) hpc;exact q pc cs us _ e hpc aL (hau.ext e) hus
def tT{x:Addr}:∀{l:List Addr} {i:Nat},l.Nodup->x∉l->(l.set i x).Nodup
 | [],_,_,_=>List.nodup_nil
 | a::l,0,h,hx=>by rw[List.nodup_cons]at h;exact List.nodup_cons.mpr ⟨λz=>hx (Fi _ z),h.2⟩
 | a::l,i+1,h,hx=>by
  rw[List.nodup_cons]at h;refine List.nodup_cons.mpr ⟨λz=>?_,tT h.2 λz=>hx (Fi _ z)⟩;rcases List.mem_or_eq_of_mem_set z with z|z
  ·exact h.1 z
  ·exact hx (by rw[z];exact Fm)
structure TB(H H':Hp)(q:Addr)(rs rs':List Addr)(n:Nat)(M:Nat->Nat->Bool):Prop where
 keep:∀b o,b≠q->H b=some o->H' b=some o
 len:rs'.length=n
 nd:rs'.Nodup
 nq:q∉rs'
 old:∀r∈rs',r∈rs\/H r=none
 rows:Rows H' q rs' n M
def TB.congr{H H':Hp}{q:Addr}{rs rs':List Addr}{n:Nat}{M M':Nat->Nat->Bool}(h:TB H H' q rs rs' n M)(e:∀i j,i<n->j<n->M i j=M' i j):TB H H' q rs rs' n M':=
 ⟨h.keep,h.len,h.nd,h.nq,h.old,h.rows.1,λi r hi=>by
  rw[h.rows.2 i r hi];have hl:i<n:=by rw[←h.len];exact(Fo.mp hi).1
  congr 2;exact eG λj hj=>e i j hl hj⟩
def TB.set{H H1:Hp}{q p9:Addr}{rs rs1:List Addr}{n i:Nat}{M:Nat->Nat->Bool}{f:Nat->Bool}(h:TB H H1 q rs rs1 n M)(hi:i<n)(hp:H1 p9=none):TB H (upd (upd H1 p9 (.lst (aT n f))) q (.lst ((rs1.map V.ref).set i (.ref p9)))) q rs (rs1.set i p9) n (λa b=>if a=i then f b else M a b):=by
 have hq:H1 q=some (.lst (rs1.map V.ref)):=h.rows.1;have nqp:q≠p9:=λz=>by rw[z,hp]at hq;cases hq
 have nin:p9∉rs1:=λz=>by obtain⟨j,hj⟩:=F3 z;rw[h.rows.2 j p9 hj]at hp;cases hp
 refine⟨λb o nb e=>?_,by rw[List.length_set];exact h.len,tT h.nd nin,λz=>?_,λr hr=>?_,?_,λa r ha=>?_⟩
 ·have e1:=h.keep b o nb e;rw[aC nb,aC (cq e1 hp)];exact e1
 ·rcases List.mem_or_eq_of_mem_set z with z|z
  ·exact h.nq z
  ·exact nqp z
 ·rcases List.mem_or_eq_of_mem_set hr with hr|rfl
  ·exact h.old r hr
  ·right;cases e:H r with
   | none=>rfl
   | some o=>rw[h.keep r o (Ne.symm nqp) e]at hp;cases hp
 ·rw[aL,List.map_set]
 ·rw[List.getElem?_set]at ha;by_cases hai:i=a
  ·subst hai;rw[Ge rfl,Ge (by rw[h.len];exact hi)]at ha;cases ha;rw[aC (Ne.symm nqp),aL];congr 2;exact eG λj _=>by dsimp only;rw[Ge rfl]
  ·rw[Gb hai]at ha;have e:=h.rows.2 a r ha;have nrq:r≠q:=λz=>h.nq (z ▸ Fp ha);rw[aC nrq,aC (cq e hp),e];congr 2;exact eG λj _=>by dsimp only;rw[Gb (Ne.symm hai)]
def jn(M:Nat->Nat->Bool)(k:Nat):Nat->Nat->Bool:=λi j=>M i j || (M i k && M k j)
def bQ(M:Nat->Nat->Bool):Nat->Nat->Nat->Bool
 | 0=>M
 | k+1=>jn (bQ M k) k
structure Joined(n:Nat)(M M':Nat->Nat->Bool):Prop where
 le:∀i j,M i j=true->M' i j=true
 tr:∀i a j,a<n->M' i a=true->M' a j=true->M' i j=true
 least:∀S:Nat->Nat->Prop,(∀i a j,S i a->S a j->S i j)->(∀i j,M i j=true->S i j)->∀i j,M' i j=true->S i j
def qo(M:Nat->Nat->Bool):∀k,Joined k M (bQ M k)
 | 0=>⟨λ_ _ h=>h,λ_ _ _ h=>absurd h (Nat.not_lt_zero _),λ_ _ h=>h⟩
 | k+1=>by
  have ih:=qo M k;have up:∀i j,bQ M (k+1) i j=true↔(bQ M k i j=true\/(bQ M k i k=true/\bQ M k k j=true)):=λi j=>by show(bQ M k i j || (bQ M k i k && bQ M k k j))=true↔_;simp
  refine⟨λi j h=>(up i j).mpr (.inl (ih.le i j h)),λi a j ha h1 h2=>?_,λS ht hm i j h=>?_⟩
  ·rw[up]at h1 h2 ⊢;by_cases hak:a=k
   ·subst hak;have x1:bQ M a i a=true:=by rcases h1 with h|h;exact h;exact h.1
    have x2:bQ M a a j=true:=by rcases h2 with h|h;exact h;exact h.2
    exact .inr ⟨x1,x2⟩
   ·have hlt:a<k:=by omega
    rcases h1 with h1|⟨h1,h1'⟩<;>rcases h2 with h2|⟨h2,h2'⟩
    ·exact .inl (ih.tr i a j hlt h1 h2)
    ·exact .inr ⟨ih.tr i a k hlt h1 h2,h2'⟩
    ·exact .inr ⟨h1,ih.tr k a j hlt h1' h2⟩
    ·exact .inr ⟨h1,h2'⟩
  ·rcases(up i j).mp h with h|⟨h1,h2⟩
   ·exact ih.least S ht hm i j h
   ·exact ht i k j (ih.least S ht hm i k h1) (ih.least S ht hm k j h2)
def yl(K:Fb):Sp:=λvs H Q _=>∃q rs n M,vs=[.ref q]/\TB H H q rs rs n M/\n<=12/\∀rs' M' H',TB H H' q rs rs' n M'->Joined n M M'->Q .non H'
abbrev kN:Stmt:=stq 41
def vf:FnScope ["table","many","middle","p"] ["table"] (aH kN):=⟨rfl,rfl,rfl,by decide +kernel,rfl,by decide +kernel,by decide +kernel⟩
def B7{P:Program}{w:World}{K:Fb}{mg:Str->Option Value}{base:Heap}(D:Dfn K mg "join_walks" kN ["table"])(T:Blt mg):Cal P w K mg base "join_walks" 1 ["table"] (yl K):=by
 have nd:=(vf).nd;refine D.ok vf (λvs H Q E h=>?_) (λX hX H vs Q E h=>?_)
 ·obtain⟨q,rs,n,M,rfl,_⟩:=h;rfl
 ·obtain⟨f,cdv,A,outer,s,H0,E0,rfl,hr⟩:=hX;obtain⟨qt,rs,n,M,rfl,ht,hn,q⟩:=h;refine⟨_,(@aq _ _ _ _ _ (@aE _ _ 1 _ _ _ _ nd rfl (Or.inl rfl) (aX (cQ K) rfl T.len_ PySem.boot_len (@aa _ _ _ _ _ (pv 0) af rfl)) rfl (Or.inl rfl))
    (@av _ _ _ (bM PassesOwn.never rfl (cW rfl T.range_ (@aa _ _ _ _ _ (pv 1) af rfl)) (aM (i:=2) nd rfl (Or.inr rfl)) (@av _ _ _ (bM PassesOwn.never rfl (cW rfl T.range_ (@aa _ _ _ _ _ (pv 1) af rfl)) (aM (i:=3) nd rfl (Or.inr rfl)) (@av _ _ _ (cU (bB (@ao _ _ _ _ _ _ _ (aJ K) (@ao _ _ _ _ _ _ _ (aJ K) (pv 0) (pv 3) (λ_ _=>rfl)) (pv 2) (λ_ _=>rfl))) (@av _ _ _ (@gU _ _ _ _ _ _ (de ["q"] [0,3,2] (cW rfl T.range_ (@aa _ _ _ _ _ (pv 1) af rfl)) (λ_=>(aM (i:=0) (show(["q","table","p","middle"]:List Str).Nodup from by decide +kernel) rfl (Or.inl rfl) (Or.inr rfl))) (λ_=>dR) (λ_=>(qA (@ao _ _ _ _ _ _ _ (aJ K) (@ao _ _ _ _ _ _ _ (aJ K) (pv 1) (pv 2) (λ_ _=>rfl)) (pv 0) (λ_ _=>rfl)) (dN (@ao _ _ _ _ _ _ _ (aJ K) (@ao _ _ _ _ _ _ _ (aJ K) (pv 1) (pv 3) (λ_ _=>rfl)) (pv 0) (λ_ _=>rfl)))))) (iP (pv 0) (pv 3) set_list) rfl rfl rfl)) aV))))))),?_⟩
  walk_at"";refine eZ (ag.of ht.rows.1) ?_;rw[Ff,ht.len];walk_at"";refine cR (by omega) ?_;rw[Ft];refine forR (λk σ H'=>∃rs1 k1 k2,TB H H' qt rs rs1 n (bQ M k)/\σ=[some (.ref qt),some (.int (n:Nat)),k1,k2]) ⟨rs,_,_,ht,rfl⟩ ?_ ?_
  ·rintro k σ H1 hk ⟨rs1,k1,k2,tb,rfl⟩;rw[show (0:Int)+(k:Int)=((k:Nat):Int) by omega];walk_at"";refine cR (by omega) ?_;rw[Ft];refine forR (λp σ H'=>∃rs2 k2,TB H H' qt rs rs2 n (λi j=>if i<p then jn (bQ M k) k i j else bQ M k i j)/\σ=[some (.ref qt),some (.int (n:Nat)),some (.int (k:Nat)),k2]) ⟨rs1,_,tb,rfl⟩ ?_ ?_
   ·rintro p σ H2 hp ⟨rs2,k2,tb2,rfl⟩;rw[show (0:Int)+(p:Int)=((p:Nat):Int) by omega];have hp2:p<rs2.length:=by rw[tb2.len];exact hp
    have hk2:k<rs2.length:=by rw[tb2.len];exact hk
    have gp:rs2[p]?=some rs2[p]:=Fg hp2;have gk:rs2[k]?=some rs2[k]:=Fg hk2;have rp:=tb2.rows.2 p _ gp;have rk:=tb2.rows.2 k _ gk;generalize rs2[p]=ap at gp rp;generalize rs2[k]=ak at gk rk;have ap1:bG (rs2.map V.ref) ((p:Nat):Int)=some (.ref ap):=cP (by rw[Fh,gp];rfl);have ak1:bG (rs2.map V.ref) ((k:Nat):Int)=some (.ref ak):=cP (by rw[Fh,gk];rfl);have rp':H2 ap=some (.lst (aT n (bQ M k p))):=by rw[rp];congr 2;exact eG λj _=>by dsimp only;rw[Gb (Nat.lt_irrefl _)]
    have rk':H2 ak=some (.lst (aT n (bQ M k k))):=by
     rw[rk];congr 2;refine eG λj _=>?_;dsimp only;by_cases hkp:k<p
     ·rw[Ge hkp];unfold jn;cases bQ M k k j<;>simp
     ·rw[Gb hkp]
    walk_at"";refine cC ?_;walk_at"";refine aK (ag.of tb2.rows.1) ap1 ?_;walk_at"";refine aK (ag.of rp') (ee (by omega) (by omega)) ?_;rw[Ft];walk_at"";cases hc:bQ M k p k with
    | false=>
     refine az ?_;walk_at"";refine⟨rs2,_,tb2.congr λi j hi hj=>?_,rfl⟩
     try dsimp only
     by_cases h1:i<p
     ·rw[Ge h1,Ge (by omega)]
     ·rw[Gb h1];by_cases h2:i<p+1
      ·have:i=p:=by omega
       subst this;rw[Ge h2];unfold jn;rw[hc];simp
      ·rw[Gb h2]
    | true=>
     refine aG ?_;walk_at"";refine cR (by omega) ?_;rw[Ft];refine fP (λi ys H'=>H'=H2/\ys=aT i (jn (bQ M k) k p)) (bL (by omega)) ⟨rfl,rfl⟩ ?_ ?_ ?_
     ·rintro i ys H' _ ⟨_,rfl⟩;rw[cV];exact FA _
     ·rintro i ys H3 hi ⟨rfl,rfl⟩;rw[show (0:Int)+(i:Int)=((i:Nat):Int) by omega];walk_at"";refine aG ?_;walk_at"";refine aK (ag.of tb2.rows.1) ap1 ?_;walk_at"";refine aK (ag.of rp') (ee (by omega) (by omega)) ?_;rw[Ft];refine rd_exb ?_;cases hv:bQ M k p i with
      | true=>
       refine aG ⟨rfl,?_⟩;rw[jm];congr 1;show[V.bl true]=[V.bl (bQ M k p i || _)];rw[hv];rfl
      | false=>
       refine az ?_;walk_at"";refine aK (ag.of tb2.rows.1) ak1 ?_;walk_at"";refine aK (ag.of rk') (ee (by omega) (by omega)) ?_;rw[Ft];refine⟨rfl,?_⟩;rw[jm];congr 1;show[V.bl (bQ M k k i)]=[V.bl (bQ M k p i || (bQ M k p k && bQ M k k i))];rw[hv,hc];simp
     ·rintro ys H3 p9 ⟨hH,rfl⟩ hp9;subst hH;have hq2:(upd H3 p9 (.lst (aT n (jn (bQ M k) k p)))) qt=some (.lst (rs2.map V.ref)):=(bq hp9) _ _ tb2.rows.1;walk_at"";refine ji hq2 (i4 (by omega) (by rw[Ff,tb2.len];omega)) ?_;rw[Ft];refine⟨_,_,(tb2.set (f:=jn (bQ M k) k p) hp hp9).congr λi j hi hj=>?_,rfl⟩
      try dsimp only
      by_cases h1:i=p
      ·subst h1;rw[Ge rfl,Ge (by omega)]
      ·rw[Gb h1];by_cases h2:i<p
       ·rw[Ge h2,Ge (by omega)]
       ·rw[Gb h2,Gb (by omega)]
   ·rintro σ H2 ⟨rs2,k2,tb2,rfl⟩;exact⟨rs2,_,_,tb2.congr (λi j hi hj=>by rw[Ge hi];rfl),rfl⟩
  ·rintro σ H1 ⟨rs1,k1,k2,tb,rfl⟩;walk_at"";exact q rs1 _ H1 tb (qo M n)
def put2(M:Nat->Nat->Bool)(i x:Nat):Nat->Nat->Bool:=λj y=>if j=i/\y=x then true else M j y
structure TW(H H':Hp)(q:Addr)(rs:List Addr)(n:Nat)(M:Nat->Nat->Bool):Prop where
 keep:∀b o,b∉rs->H b=some o->H' b=some o
 len:rs.length=n
 nd:rs.Nodup
 nq:q∉rs
 rows:Rows H' q rs n M
def TW.mark{H H1:Hp}{q r:Addr}{rs:List Addr}{n i j:Nat}{M:Nat->Nat->Bool}(h:TW H H1 q rs n M)(hi:rs[i]?=some r)(hj:j<n):TW H (upd H1 r (.lst ((aT n (M i)).set j (.bl true)))) q rs n (put2 M i j):=by
 have hm:=Fp hi;have nqr:q≠r:=λz=>h.nq (z ▸ hm);refine⟨λb o nb e=>?_,h.len,h.nd,h.nq,?_,λa r' ha=>?_⟩
 ·have nbr:b≠r:=λz=>nb (by rw[z];exact hm);rw[aC nbr];exact h.keep b o nb e
 ·rw[aC nqr];exact h.rows.1
 ·by_cases hai:a=i
  ·subst hai;rw[hi]at ha;cases ha;rw[aL,mX _ _ hj];congr 2;refine eG λy _=>?_;unfold put2;by_cases hy:y=j
   ·rw[Ge hy,Ge ⟨rfl,hy⟩]
   ·rw[Gb hy,Gb λz=>hy z.2]
  ·have nr:r'≠r:=λz=>hai ((List.getElem?_inj (by rw[h.len];exact(by rw[←h.len];exact(Fo.mp ha).1)) h.nd).mp (by rw[ha,hi,z]));rw[aC nr,h.rows.2 a r' ha];congr 2;exact eG λy _=>by unfold put2;rw[Gb λz=>hai z.1]
structure ArchR(n:Nat)(us ds:List Way)(M M':Nat->Nat->Bool)(ad:Bool):Prop where
 le:∀i j,M i j=true->M' i j=true
 same:ad=false->∀i j,M' i j=M i j
 more:ad=true->∃i j,i<n/\j<n/\M i j=false/\M' i j=true
 least:∀S:Nat->Nat->Prop,(∀u∈us,∀d∈ds,S u.other.toNat d.room.toNat->S u.room.toNat d.other.toNat)->(∀i j,M i j=true->S i j)->∀i j,M' i j=true->S i j
def ArchR.refl{n:Nat}{us ds:List Way}{M:Nat->Nat->Bool}:ArchR n us ds M M false:=⟨λ_ _ h=>h,λ_ _ _=>rfl,λh=>(nomatch h),λ_ _ h=>h⟩
def ArchR.put{n:Nat}{us ds:List Way}{M M':Nat->Nat->Bool}{ad:Bool}(h:ArchR n us ds M M' ad){u d:Way}(hu:u∈us)(hd:d∈ds)(h1:M' u.other.toNat d.room.toNat=true)(h2:M' u.room.toNat d.other.toNat=false)(hn1:u.room.toNat<n)(hn2:d.other.toNat<n):ArchR n us ds M (put2 M' u.room.toNat d.other.toNat) true:=by
 have le:∀i j,M i j=true->put2 M' u.room.toNat d.other.toNat i j=true:=λi j hm=>by
  unfold put2;split
  ·rfl
  ·exact h.le i j hm
 refine⟨le,λz=>(nomatch z),λ_=>⟨_,_,hn1,hn2,?_,by unfold put2;rw[Ge ⟨rfl,rfl⟩]⟩,λS hS hm i j hp=>?_⟩
 ·rw[Bool.eq_false_iff];intro z;rw[h.le _ _ z]at h2;cases h2
 ·unfold put2 at hp;split at hp
  ·rename_i z;rw[z.1,z.2];exact hS u hu d hd (h.least S hS hm _ _ h1)
  ·exact h.least S hS hm i j hp
def qc(K:Fb):Sp:=λvs H Q _=>∃q rs n M lu cu us ld cd ds,vs=[.ref q,.ref lu,.ref ld]/\TW H H q rs n M/\H lu=some (.lst (List.map V.ref cu))/\aU H cu us/\H ld=some (.lst (List.map V.ref cd))/\aU H cd ds/\lu∉rs/\ld∉rs/\(∀w∈us++ds,0<=w.room/\w.room<(n:Int)/\0<=w.other/\w.other<(n:Int)) ∧
 ∀M' ad H',TW H H' q rs n M'->ArchR n us ds M M' ad->(ad=false->∀u∈us,∀d∈ds,M u.other.toNat d.room.toNat=true->M u.room.toNat d.other.toNat=true)->Q (.bl ad) H'
abbrev pY:Stmt:=stq 42
def xG:FnScope ["table","ups","downs","added","rise","fall"] ["table","ups","downs"] (aH pY):=⟨rfl,rfl,rfl,by decide +kernel,rfl,by decide +kernel,by decide +kernel⟩
def ER{P:Program}{w:World}{K:Fb}{mg:Str->Option Value}{base:Heap}(D:Dfn K mg "add_arches" pY ["table","ups","downs"])(T:Blt mg):Cal P w K mg base "add_arches" 1 ["table","ups","downs"] (qc K):=by
 have nd:=(xG).nd;refine D.ok xG (λvs H Q E h=>?_) (λX hX H vs Q E h=>?_)
 ·obtain⟨q,rs,n,M,lu,cu,us,ld,cd,ds,rfl,_⟩:=h;rfl
 ·obtain⟨f,cdv,A,outer,s,H0,E0,rfl,hr⟩:=hX;obtain⟨qt,rs,n,M,lu,cu,us,ld,cd,ds,rfl,tw,hlu,hau,hld,had,nlu,nld,hin,q⟩:=h;have hcu:=hau.1;have hcd:=had.1;refine⟨_,(@aq _ _ _ _ _ (@aE _ _ 3 _ _ _ _ nd rfl (Or.inl rfl) bO rfl (Or.inl rfl))
    (@aq _ _ _ _ _ (bM PassesOwn.never rfl (bW K (pv 1)) (aM (i:=4) nd rfl (Or.inl rfl)) (@av _ _ _ (bM PassesOwn.never rfl (bW K (pv 2)) (aM (i:=5) nd rfl (Or.inl rfl)) (@av _ _ _ (cU (PW.pt (fX (bB (@ao _ _ _ _ _ _ _ (aJ K) (@ao _ _ _ _ _ _ _ (aJ K) (pv 0) (@ao _ _ _ _ _ _ _ (ay K) (pv 4) ae (λ_ _=>rfl)) (λ_ _=>rfl)) (@ao _ _ _ _ _ _ _ (ay K) (pv 5) ae (λ_ _=>rfl)) (λ_ _=>rfl))) (gJ (bY (bB (@ao _ _ _ _ _ _ _ (aJ K) (@ao _ _ _ _ _ _ _ (aJ K) (pv 0) (@ao _ _ _ _ _ _ _ (ay K) (pv 4) ae (λ_ _=>rfl)) (λ_ _=>rfl)) (@ao _ _ _ _ _ _ _ (ay K) (pv 5) ae (λ_ _=>rfl)) (λ_ _=>rfl))))))) (@aq _ _ _ _ _ (@gU _ _ _ _ _ _ bO (iP (@ao _ _ _ _ _ _ _ (aJ K) (pv 0) (@ao _ _ _ _ _ _ _ (ay K) (pv 4) ae (λ_ _=>rfl)) (λ_ _=>rfl)) (@ao _ _ _ _ _ _ _ (ay K) (pv 5) ae (λ_ _=>rfl)) set_list) rfl rfl rfl)
    (@av _ _ _ (@aE _ _ 3 _ _ _ _ nd rfl (Or.inl rfl) bO rfl (Or.inl rfl)))) aV)))))
    (@av _ _ _ (@aF _ _ _ _ (pv 3))))),?_⟩
  have tupN:∀(b:Addr) (w:Way),H b=some (.tup w.vs)->b∉rs:=λb w hb z=>by obtain⟨j,hj⟩:=F3 z;rw[tw.rows.2 j b hj]at hb;cases hb
  walk_at"";refine bZ (ag.of hlu) ?_;refine forL (xs:=List.map V.ref cu) (λi σ H'=>∃M' ad k1 k2,TW H H' qt rs n M'/\ArchR n us ds M M' ad/\(ad=false->∀a,a<i->∀u,us[a]?=some u->∀d∈ds,M u.other.toNat d.room.toNat=true->M u.room.toNat d.other.toNat=true)/\σ=[some (.ref qt),some (.ref lu),some (.ref ld),some (.bl ad),k1,k2]) ⟨M,false,_,_,tw,.refl,λ_ a ha=>absurd ha (Nat.not_lt_zero _),rfl⟩ (λi σ H' _ h=>by obtain⟨M',ad,k1,k2,t,_⟩:=h;exact ag.of (t.keep _ _ nlu hlu)) ?_ ?_
  ·rintro i v σ H1 hx ⟨M1,ad,k1,k2,tw1,ar1,cl1,rfl⟩;rw[Fh]at hx;obtain⟨bu,hbu,rfl⟩:=Fs.mp hx;have hiu:i<us.length:=by rw[←hcu];exact(Fo.mp hbu).1
   have gu:us[i]?=some us[i]:=Fg hiu;have hbu0:=hau.2 i bu _ hbu gu;generalize us[i]=u at gu hbu0;have hum:=Fp gu;obtain⟨u0,u1,u2,u3⟩:=hin u (FZ _ hum);walk_at"";refine bZ (ag.of (tw1.keep _ _ nld hld)) ?_;refine forL (xs:=List.map V.ref cd) (λj σ H'=>∃M' ad k2,TW H H' qt rs n M'/\ArchR n us ds M M' ad/\(ad=false->(∀a,a<i->∀u,us[a]?=some u->∀d∈ds,M u.other.toNat d.room.toNat=true->M u.room.toNat d.other.toNat=true)/\∀b,b<j->∀d,ds[b]?=some d->M u.other.toNat d.room.toNat=true->M u.room.toNat d.other.toNat=true)/\σ=[some (.ref qt),some (.ref lu),some (.ref ld),some (.bl ad),some (.ref bu),k2]) ⟨M1,ad,_,tw1,ar1,λh=>⟨cl1 h,λb hb=>absurd hb (Nat.not_lt_zero _)⟩,rfl⟩ (λj σ H' _ h=>by obtain⟨M',ad,k2,t,_⟩:=h;exact ag.of (t.keep _ _ nld hld)) ?_ ?_
   ·rintro j v σ H2 hx2 ⟨M2,ad2,k2,tw2,ar2,cl2,rfl⟩;rw[Fh]at hx2;obtain⟨bd,hbd,rfl⟩:=Fs.mp hx2;have hid:j<ds.length:=by rw[←hcd];exact(Fo.mp hbd).1
    have gd:ds[j]?=some ds[j]:=Fg hid;have hbd0:=had.2 j bd _ hbd gd;generalize ds[j]=d at gd hbd0;have hdm:=Fp gd;obtain⟨d0,d1,d2,d3⟩:=hin d (FY _ hdm);have ku:=tw2.keep _ _ (tupN bu u hbu0) hbu0;have kd:=tw2.keep _ _ (tupN bd d hbd0) hbd0;have x1:u.other.toNat<rs.length:=by rw[tw2.len];omega
    have x2:u.room.toNat<rs.length:=by rw[tw2.len];omega
    have r1:rs[u.other.toNat]?=some rs[u.other.toNat]:=Fg x1;have r2:rs[u.room.toNat]?=some rs[u.room.toNat]:=Fg x2;have w1:=tw2.rows.2 _ _ r1;have w2:=tw2.rows.2 _ _ r2;generalize rs[u.other.toNat]=a1 at r1 w1;generalize rs[u.room.toNat]=a2 at r2 w2;have at1:bG (rs.map V.ref) u.other=some (.ref a1):=eR u2 (by rw[Fh,r1];rfl);have at2:bG (rs.map V.ref) u.room=some (.ref a2):=eR u0 (by rw[Fh,r2];rfl);have step:(M u.other.toNat d.room.toNat=true->M u.room.toNat d.other.toNat=true)->ad2=false->∀b,b<j+1->∀d',ds[b]?=some d'->M u.other.toNat d'.room.toNat=true->M u.room.toNat d'.other.toNat=true:=λhs hf b hb d' hd'=>by
     by_cases hbj:b<j
     ·exact(cl2 hf).2 b hbj d' hd'
     ·have:b=j:=by omega
      subst this;rw[gd]at hd';cases hd';exact hs
    walk_at"";refine cC ?_;walk_at"";refine ax (ah.of ku) (v:=.int u.other) rfl ?_;walk_at"";refine aK (ag.of tw2.rows.1) at1 ?_;walk_at"";refine ax (ah.of kd) (v:=.int d.room) rfl ?_;walk_at"";refine aK (ag.of w1) (ee d0 (by omega)) ?_;walk_at"";cases hm1:M2 u.other.toNat d.room.toNat with
    | false=>
     refine az ?_;walk_at"";refine⟨M2,ad2,_,tw2,ar2,λhf=>⟨(cl2 hf).1,step (λz=>?_) hf⟩,rfl⟩;rw[ar2.same hf]at hm1;rw[hm1]at z;cases z
    | true=>
     refine aG ?_;walk_at"";refine ax (ah.of ku) (v:=.int u.room) rfl ?_;walk_at"";refine aK (ag.of tw2.rows.1) at2 ?_;walk_at"";refine ax (ah.of kd) (v:=.int d.other) rfl ?_;walk_at"";refine aK (ag.of w2) (ee d2 (by omega)) ?_;walk_at"";cases hm2:M2 u.room.toNat d.other.toNat with
     | true=>
      refine az ?_;walk_at"";refine⟨M2,ad2,_,tw2,ar2,λhf=>⟨(cl2 hf).1,step (λ_=>?_) hf⟩,rfl⟩;rw[ar2.same hf]at hm2;exact hm2
     | false=>
      refine aG ?_;walk_at"";refine ax (ah.of ku) (v:=.int u.room) rfl ?_;walk_at"";refine aK (ag.of tw2.rows.1) at2 ?_;walk_at"";refine ax (ah.of kd) (v:=.int d.other) rfl ?_;walk_at"";refine ji w2 (i4 d2 (by rw[cV];omega)) ?_;walk_at"";exact⟨_,true,_,tw2.mark r2 (by omega),ar2.put hum hdm hm1 hm2 (by omega) (by omega),λz=>(nomatch z),rfl⟩
   ·rintro σ H2 ⟨M2,ad2,k2,tw2,ar2,cl2,rfl⟩;rw[Ff,hcd]at cl2;refine⟨M2,ad2,_,_,tw2,ar2,λhf a ha u' hu'=>?_,rfl⟩;by_cases hai:a<i
    ·exact(cl2 hf).1 a hai u' hu'
    ·have:a=i:=by omega
     subst this;rw[gu]at hu';cases hu';intro d hd;obtain⟨b,hb⟩:=F3 hd;exact(cl2 hf).2 b (Fo.mp hb).1 d hb
  ·rintro σ H1 ⟨M1,ad,k1,k2,tw1,ar1,cl1,rfl⟩;rw[Ff,hcu]at cl1;walk_at"";refine q M1 ad H1 tw1 ar1 λhf u hu d hd=>?_;obtain⟨a,ha⟩:=F3 hu;exact cl1 hf a (Fo.mp ha).1 u ha d hd
inductive Kpt(ws:List Way)(n:Nat):Nat->Nat->Prop
 | refl {i:Nat}:i<n->Kpt ws n i i
 | stay {w:Way}:w∈ws->w.deed = "stay"->Kpt ws n w.room.toNat w.other.toNat
 | trans {i a j:Nat}:Kpt ws n i a->Kpt ws n a j->Kpt ws n i j
 | arch {u d:Way}:u∈ws->u.deed = "up"->d∈ws->d.deed = "down"->Kpt ws n u.other.toNat d.room.toNat->Kpt ws n u.room.toNat d.other.toNat
def g8{m:Int}{ws:List Way}(ok:∀w∈ws,w.Ok m){w:Way}(hw:w∈ws):w.room.toNat<m.toNat/\w.other.toNat<m.toNat:=by have h:=ok w hw;have:=h.r0;have:=h.r1;have:=h.o0;have:=h.o1;omega
def Kpt.lt{m:Int}{ws:List Way}(ok:∀w∈ws,w.Ok m){i j:Nat}(h:Kpt ws m.toNat i j):i<m.toNat/\j<m.toNat:=by
 induction h with
 | refl h=>exact⟨h,h⟩
 | stay h _=>exact g8 ok h
 | trans _ _ h1 h2=>exact⟨h1.1,h2.2⟩
 | arch h1 _ h2 _ _ _=>exact⟨(g8 ok h1).1,(g8 ok h2).2⟩
def A1(ws:List Way)(M:Nat->Nat->Bool):Prop:=∀i j,M i j=true↔(i=j\/∃w∈ws,w.deed = "stay"/\w.room.toNat=i/\w.other.toNat=j)
def gZ(n:Nat)(M:Nat->Nat->Bool):Nat:=((F8 n).flatMap λi=>(F8 n).map λj=>(i,j)).countP λz=>!M z.1 z.2
def qK{α:Type}{p p':α->Bool}(hi:∀y,p' y=true->p y=true){a:α}(ha:p a=true)(ha':p' a=false):∀{L:List α},a∈L->L.countP p'<L.countP p
 | b::L,hm=>by
  have hle:L.countP p'<=L.countP p:=List.countP_mono_left λy _=>hi y;rw[List.countP_cons,List.countP_cons];rcases Fv.mp hm with rfl|hm
  ·rw[ha,ha'];simp;omega
  ·have:=qK hi ha ha' hm;cases h1:p' b with
   | false=>simp[h1];split<;>omega
   | true=>rw[hi b h1];simp;omega
def Al{n i j:Nat}{M M':Nat->Nat->Bool}(hi:i<n)(hj:j<n)(le:∀a b,M a b=true->M' a b=true)(h1:M i j=false)(h2:M' i j=true):gZ n M'<gZ n M:=by
 refine qK (a:=(i,j)) (λy hy=>?_) (by simp[h1]) (by simp[h2]) (by simp;exact⟨hi,hj⟩);have hy':M' y.1 y.2=false:=by simpa using hy
 have:M y.1 y.2=false:=by rw[Bool.eq_false_iff];intro z;rw[le _ _ z]at hy';cases hy'
 simp[this]
structure KT(H H':Hp)(q:Addr)(rs:List Addr)(n:Nat)(M:Nat->Nat->Bool):Prop where
 ext:Ext H H'
 fq:H q=none
 fr:∀r∈rs,H r=none
 len:rs.length=n
 nd:rs.Nodup
 nq:q∉rs
 rows:Rows H' q rs n M
def KT.tw{H H':Hp}{q:Addr}{rs:List Addr}{n:Nat}{M:Nat->Nat->Bool}(h:KT H H' q rs n M):TW H' H' q rs n M:=⟨λ_ _ _ e=>e,h.len,h.nd,h.nq,h.rows⟩
def KT.tb{H H':Hp}{q:Addr}{rs:List Addr}{n:Nat}{M:Nat->Nat->Bool}(h:KT H H' q rs n M):TB H' H' q rs rs n M:=⟨λ_ _ _ e=>e,h.len,h.nd,h.nq,λ_ h=>.inl h,h.rows⟩
def KT.more{H H1 H2:Hp}{q:Addr}{rs:List Addr}{n:Nat}{M:Nat->Nat->Bool}(h:KT H H1 q rs n M)(e:Ext H1 H2):KT H H2 q rs n M:=⟨h.ext.trans e,h.fq,h.fr,h.len,h.nd,h.nq,h.rows.ext e⟩
def KT.byW{H H1 H2:Hp}{q:Addr}{rs:List Addr}{n:Nat}{M M':Nat->Nat->Bool}(h:KT H H1 q rs n M)(t:TW H1 H2 q rs n M'):KT H H2 q rs n M':=
 ⟨λb o e=>t.keep b o (λz=>by rw[h.fr b z]at e;cases e) (h.ext b o e),h.fq,h.fr,h.len,h.nd,h.nq,t.rows⟩
def KT.byB{H H1 H2:Hp}{q:Addr}{rs rs':List Addr}{n:Nat}{M M':Nat->Nat->Bool}(h:KT H H1 q rs n M)(t:TB H1 H2 q rs rs' n M'):KT H H2 q rs' n M':=
 ⟨λb o e=>t.keep b o (λz=>by rw[z,h.fq]at e;cases e) (h.ext b o e),h.fq,λr hr=>by
  rcases t.old r hr with z|z
  ·exact h.fr r z
  ·cases e:H r with
   | none=>rfl
   | some o=>exact absurd ((h.ext r o e).symm.trans z) (by simp),t.len,t.nd,t.nq,t.rows⟩
def sv(K:Fb):Sp:=λvs H Q _=>∃vh m ws,vs=[vh]/\bj H vh m ws/\HOuse m ws/\∀q rs M H',KT H H' q rs m.toNat M->A1 ws M->Q (.ref q) H'
abbrev pP:Stmt:=stq 40
def xS:FnScope ["house","table","p","way"] ["house"] (aH pP):=⟨rfl,rfl,rfl,by decide +kernel,rfl,by decide +kernel,by decide +kernel⟩
def DI{P:Program}{w:World}{K:Fb}{mg:Str->Option Value}{base:Heap}(D:Dfn K mg "beginning_table" pP ["house"])(T:Blt mg)(C_ways_of_deed:Cal P w K mg base "ways_of_deed" 1 ["house","deed"] (j7 K)):Cal P w K mg base "beginning_table" 2 ["house"] (sv K):=by
 have nd:=(xS).nd;refine D.ok xS (λvs H Q E h=>?_) (λX hX H vs Q E h=>?_)
 ·obtain⟨vh,m,ws,rfl,_⟩:=h;rfl
 ·obtain⟨f,cdv,A,outer,s,H0,E0,rfl,hr⟩:=hX;obtain⟨vh,m,ws,rfl,hv,ok,q⟩:=h;have m1:=ok.m1;have m12:=ok.m12;obtain⟨hp0,hq0,rfl,hh,_⟩:=id hv;refine⟨_,(@aq _ _ _ _ _ (@aE _ _ 1 _ _ _ _ nd rfl (Or.inl rfl) (@bx _ _ _ _ af) rfl (Or.inl rfl))
    (@aq _ _ _ _ _ (bM PassesOwn.never rfl (cW rfl T.range_ (@aa _ _ _ _ _ (@ao _ _ _ _ _ _ _ (ay K) (pv 0) ae (λ_ _=>rfl)) af rfl)) (aM (i:=2) nd rfl (Or.inr rfl)) (@av _ _ _ (bp (bF K Fn FC FD bN (pv 1) (@aa _ _ _ _ _ (de ["q"] [2] (cW rfl T.range_ (@aa _ _ _ _ _ (@ao _ _ _ _ _ _ _ (ay K) (pv 0) ae (λ_ _=>rfl)) af rfl)) (λ_=>(aM (i:=0) (show(["q","p"]:List Str).Nodup from by decide +kernel) rfl (Or.inl rfl) (Or.inr rfl))) (λ_=>dR) (λ_=>(dC bJ (pv 1) (pv 0) (aN _)))) af rfl)))))
    (@aq _ _ _ _ _ (bM PassesOwn.never rfl (bW K (aB C_ways_of_deed hr (@aa _ _ _ _ _ (pv 0) (@aa _ _ _ _ _ aW af rfl) rfl))) (aM (i:=3) nd rfl (Or.inl rfl)) (@av _ _ _ (@gU _ _ _ _ _ _ bO (iP (@ao _ _ _ _ _ _ _ (aJ K) (pv 1) (@ao _ _ _ _ _ _ _ (ay K) (pv 3) ae (λ_ _=>rfl)) (λ_ _=>rfl)) (@ao _ _ _ _ _ _ _ (ay K) (pv 3) ae (λ_ _=>rfl)) set_list) rfl rfl rfl)))
    (@av _ _ _ (@aF _ _ _ _ (pv 1)))))),?_⟩
  walk_at"";refine aO λtq H1 e1 htq hfq=>?_;walk_at"";refine ax (ah.of (e1 _ _ hh)) (v:=.int m) rfl ?_;walk_at"";refine cR (by omega) ?_;refine forR (λp σ H'=>∃rs k1 k2,Ext H H'/\H' tq=some (.lst (List.map V.ref rs))/\(∀r∈rs,H r=none)/\rs.length=p/\rs.Nodup/\tq∉rs/\(∀(a:Nat) (r:Addr),rs[a]?=some r->H' r=some (.lst (aT m.toNat λj=>decide (a=j))))/\σ=[some (.ref hp0),some (.ref tq),k1,k2]) ⟨[],_,_,e1,htq,λr hr=>(by cases hr),rfl,List.nodup_nil,by simp,λa r h=>by simp at h,rfl⟩ ?_ ?_
  ·rintro p σ H2 hp ⟨rs,k1,k2,e2,hq2,hfr,hln,hnd,hnq,hrs,rfl⟩;rw[show (0:Int)+(p:Int)=((p:Nat):Int) by omega];walk_at"";refine⟨cN (ag.of hq2),?_⟩;walk_at"";refine ax (ah.of (e2 _ _ hh)) (v:=.int m) rfl ?_;walk_at"";refine cR (by omega) ?_;refine fP (λi ys H'=>H'=H2/\ys=aT i (λj=>decide (p=j))) (bL (by omega)) ⟨rfl,rfl⟩ ?_ ?_ ?_
   ·rintro i ys H' _ ⟨_,rfl⟩;rw[cV];exact FA _
   ·rintro i ys H3 hi ⟨rfl,rfl⟩;rw[show (0:Int)+(i:Int)=((i:Nat):Int) by omega];walk_at"";refine aG ?_;walk_at"";refine⟨rfl,?_⟩;rw[jm];congr 3;rw[FU];simp;omega
   ·rintro ys H3 p9 ⟨hH,rfl⟩ hp9;subst hH;have e3:=bq (o:=.lst (aT m.toNat λj=>decide (p=j))) hp9;have hq3:=e3 _ _ hq2;have h9:(upd H3 p9 (.lst (aT m.toNat λj=>decide (p=j)))) p9=_:=aL;have e03:=e2.trans e3;have hrs3:∀(a:Nat) (r:Addr),rs[a]?=some r->(upd H3 p9 (.lst (aT m.toNat λj=>decide (p=j)))) r=some (.lst (aT m.toNat λj=>decide (a=j))):=λa r h=>e3 _ _ (hrs a r h);have n9:H p9=none:=by
     cases z:H p9 with
     | none=>rfl
     | some o=>rw[e2 _ _ z]at hp9;cases hp9
    have nin:p9∉rs:=λz=>by obtain⟨j,hj⟩:=F3 z;rw[hrs j p9 hj]at hp9;cases hp9
    have nqp:tq≠p9:=λz=>by rw[z,hp9]at hq2;cases hq2
    generalize upd H3 p9 (.lst (aT m.toNat λj=>decide (p=j)))=H4 at e3 hq3 h9 e03 hrs3 ⊢;walk_at"";refine bK hq3 (by rw[Ff];exact Nat.lt_of_le_of_lt (show rs.length<=12 by omega) (by decide)) ?_;walk_at"";have keep:∀b o,b≠tq->H4 b=some o->upd H4 tq (.lst (List.map V.ref rs++[.ref p9])) b=some o:=λb o nb e=>by rw[aC nb];exact e
    refine⟨rs++[p9],_,_,cb e03 hfq,?_,λr hr=>?_,by rw[Fy,hln];rfl,?_,λz=>?_,λa r ha=>?_,rfl⟩
    ·rw[aL,Fx];rfl
    ·rcases FE.mp hr with hr|hr
     ·exact hfr r hr
     ·rw[Fq.mp hr];exact n9
    ·rw[List.nodup_append];refine⟨hnd,by simp,λa ha c hc z=>?_⟩;rw[Fq.mp hc]at z;exact nin (z ▸ ha)
    ·rcases FE.mp z with z|z
     ·exact hnq z
     ·exact nqp (Fq.mp z)
    ·by_cases hal:a<rs.length
     ·rw[FH hal]at ha;exact keep r _ (λz=>hnq (z ▸ Fp ha)) (hrs3 a r ha)
     ·rw[FG (by omega)]at ha;have hz:a-rs.length=0:=by have:=(Fo.mp ha).1;simp at this;omega
      rw[hz]at ha;cases ha;have:a=p:=by omega
      subst this;exact keep p9 _ (Ne.symm nqp) h9
  ·rintro σ H2 ⟨rs,k1,k2,e2,hq2,hfr,hln,hnd,hnq,hrs,rfl⟩;have tw:TW H2 H2 tq rs m.toNat (λi j=>decide (i=j)):=⟨λ_ _ _ e=>e,hln,hnd,hnq,hq2,hrs⟩;have kt:KT H H2 tq rs m.toNat (λi j=>decide (i=j)):=⟨e2,hfq,hfr,hln,hnd,hnq,hq2,hrs⟩;walk_at"";refine⟨.ref hp0,m,ws,_,rfl,hv.ext e2,ok,λl cs us H3 e3 hl3 hl hau hus=>?_⟩;have kt3:=kt.more e3;have nl:l∉rs:=λz=>by obtain⟨j,hj⟩:=F3 z;rw[hrs j l hj]at hl3;cases hl3
   have hcs:=hau.1;have tupN:∀(b:Addr) (w:Way),H3 b=some (.tup w.vs)->b∉rs:=λb w hb z=>by obtain⟨j,hj⟩:=F3 z;rw[kt3.rows.2 j b hj]at hb;cases hb
   refine bZ (ag.of hl) ?_;refine forL (xs:=List.map V.ref cs) (λi σ H'=>∃M k1 k2,TW H3 H' tq rs m.toNat M/\(∀a b,M a b=true↔(a=b\/∃w∈us.take i,w.room.toNat=a/\w.other.toNat=b))/\σ=[some (.ref hp0),some (.ref tq),k1,k2]) ⟨_,_,_,kt3.tw,λa b=>by simp,rfl⟩ (λi σ H' _ h=>by obtain⟨M,k1,k2,t,_⟩:=h;exact ag.of (t.keep _ _ nl hl)) ?_ ?_
   ·rintro i v σ H4 hx ⟨M,k1,k2,tw4,hM,rfl⟩;rw[Fh]at hx;obtain⟨b,hb,rfl⟩:=Fs.mp hx;have hi:i<us.length:=by rw[←hcs];exact(Fo.mp hb).1
    have gu:us[i]?=some us[i]:=Fg hi;have hb0:=hau.2 i b _ hb gu;generalize us[i]=u at gu hb0;have hum:u∈ws:=by have:=Fp gu;rw[hus]at this;exact(List.mem_filter.mp this).1
    have oku:=ok.ok u hum;have u0:=oku.r0;have u1:=oku.r1;have u2:=oku.o0;have u3:=oku.o1;have kb:=tw4.keep _ _ (tupN b u hb0) hb0;have x2:u.room.toNat<rs.length:=by rw[tw4.len];omega
    have r2:rs[u.room.toNat]?=some rs[u.room.toNat]:=Fg x2;have w2:=tw4.rows.2 _ _ r2;generalize rs[u.room.toNat]=a2 at r2 w2;have at2:bG (rs.map V.ref) u.room=some (.ref a2):=eR u0 (by rw[Fh,r2];rfl);walk_at"";refine ax (ah.of kb) (v:=.int u.room) rfl ?_;walk_at"";refine aK (ag.of tw4.rows.1) at2 ?_;walk_at"";refine ax (ah.of kb) (v:=.int u.other) rfl ?_;walk_at"";refine ji w2 (i4 u2 (by rw[cV];omega)) ?_;refine⟨_,_,_,tw4.mark r2 (by omega),λa c=>?_,rfl⟩;rw[List.take_add_one,gu];unfold put2;split
    ·rename_i z;simp only[true_iff];exact .inr ⟨u,FY _ (by simp),z.1.symm,z.2.symm⟩
    ·rename_i z;rw[hM];constructor
     ·rintro(h|⟨w,hw,h⟩)
      ·exact .inl h
      ·exact .inr ⟨w,FZ _ hw,h⟩
     ·rintro(h|⟨w,hw,h1,h2⟩)
      ·exact .inl h
      ·rcases FE.mp hw with hw|hw
       ·exact .inr ⟨w,hw,h1,h2⟩
       ·have:w=u:=by simpa using hw
        subst this;exact absurd ⟨h1.symm,h2.symm⟩ z
   ·rintro σ H4 ⟨M,k1,k2,tw4,hM,rfl⟩;rw[Ff,hcs,FK]at hM;walk_at"";refine q tq rs M H4 (kt3.byW tw4) λa b=>?_;rw[hM,hus];constructor
    ·rintro(h|⟨w,hw,h⟩)
     ·exact .inl h
     ·obtain⟨h1,h2⟩:=List.mem_filter.mp hw;exact .inr ⟨w,h1,of_decide_eq_true h2,h⟩
    ·rintro(h|⟨w,hw,hd,h⟩)
     ·exact .inl h
     ·exact .inr ⟨w,List.mem_filter.mpr ⟨hw,Ga hd⟩,h⟩
structure UD(H:Hp)(tq:Addr)(rs:List Addr)(lu ld:Addr)(cu cd:List Addr)(us ds:List Way):Prop where
 u:H lu=some (.lst (List.map V.ref cu))
 au:aU H cu us
 d:H ld=some (.lst (List.map V.ref cd))
 ad:aU H cd ds
 nu:lu∉rs
 nd:ld∉rs
 qu:lu≠tq
 qd:ld≠tq
def aU.byW{H H':Hp}{q:Addr}{rs:List Addr}{n:Nat}{M M':Nat->Nat->Bool}(r:Rows H q rs n M)(t:TW H H' q rs n M'){bs:List Addr}{ws:List Way}(h:aU H bs ws):aU H' bs ws:=⟨h.1,λj b w e1 e2=>by have hb:=h.2 j b w e1 e2;refine t.keep b _ (λz=>?_) hb;obtain⟨j,hj⟩:=F3 z;rw[r.2 j b hj]at hb;cases hb⟩
def aU.byB{H H':Hp}{q:Addr}{rs rs':List Addr}{n:Nat}{M M':Nat->Nat->Bool}(r:Rows H q rs n M)(t:TB H H' q rs rs' n M'){bs:List Addr}{ws:List Way}(h:aU H bs ws):aU H' bs ws:=⟨h.1,λj b w e1 e2=>by have hb:=h.2 j b w e1 e2;refine t.keep b _ (λz=>?_) hb;rw[z,r.1]at hb;cases hb⟩
def UD.byW{H H':Hp}{tq:Addr}{rs:List Addr}{lu ld:Addr}{cu cd:List Addr}{us ds:List Way}{n:Nat}{M M':Nat->Nat->Bool}(r:Rows H tq rs n M)(t:TW H H' tq rs n M')(h:UD H tq rs lu ld cu cd us ds):UD H' tq rs lu ld cu cd us ds:=
 ⟨t.keep _ _ h.nu h.u,h.au.byW r t,t.keep _ _ h.nd h.d,h.ad.byW r t,h.nu,h.nd,h.qu,h.qd⟩
def UD.byB{H H':Hp}{tq:Addr}{rs rs':List Addr}{lu ld:Addr}{cu cd:List Addr}{us ds:List Way}{n:Nat}{M M':Nat->Nat->Bool}(r:Rows H tq rs n M)(t:TB H H' tq rs rs' n M')(h:UD H tq rs lu ld cu cd us ds):UD H' tq rs' lu ld cu cd us ds:=by
 have no:∀l o,H l=some o->l∉rs->l∉rs':=λl o hl hn z=>by
  rcases t.old l z with y|y
  ·exact hn y
  ·rw[hl]at y;cases y
 exact⟨t.keep _ _ h.qu h.u,h.au.byB r t,t.keep _ _ h.qd h.d,h.ad.byB r t,no _ _ h.u h.nu,no _ _ h.d h.nd,h.qu,h.qd⟩
def lg(ws:List Way)(n:Nat)(M:Nat->Nat->Bool):Prop:=∀i j,i<n->j<n->(M i j=true↔Kpt ws n i j)
structure KJ(ws:List Way)(n:Nat)(M:Nat->Nat->Bool):Prop where
 beg:∀i j,(i=j\/∃w∈ws,w.deed = "stay"/\w.room.toNat=i/\w.other.toNat=j)->M i j=true
 snd:∀i j,M i j=true->i=j\/Kpt ws n i j
def DG{m:Int}{ws:List Way}{M:Nat->Nat->Bool}(ok:∀w∈ws,w.Ok m)(h:KJ ws m.toNat M)(tr:∀i a j,a<m.toNat->M i a=true->M a j=true->M i j=true)(ar:∀u∈ws.filter (λw=>decide (w.deed=FW "up")),∀d∈ws.filter (λw=>decide (w.deed=FW "down")),M u.other.toNat d.room.toNat=true->M u.room.toNat d.other.toNat=true):lg ws m.toNat M:=by
 intro i j hi hj;constructor
 ·intro hm;rcases h.snd i j hm with rfl|h
  ·exact .refl hi
  ·exact h
 ·intro hk;clear hi hj;induction hk with
  | refl _=>exact h.beg _ _ (.inl rfl)
  | stay h1 h2=>exact h.beg _ _ (.inr ⟨_,h1,h2,rfl,rfl⟩)
  | trans h1 h2 i1 i2=>exact tr _ _ _ (Kpt.lt ok h1).2 i1 i2
  | arch h1 h2 h3 h4 h5 ih=>exact ar _ (List.mem_filter.mpr ⟨h1,Ga h2⟩) _ (List.mem_filter.mpr ⟨h3,Ga h4⟩) ih
def KJ.join{m:Int}{ws:List Way}{M M':Nat->Nat->Bool}(h:KJ ws m.toNat M)(j:Joined m.toNat M M'):KJ ws m.toNat M':=by
 refine⟨λa b hb=>j.le _ _ (h.beg a b hb),λa b hm=>j.least (λa b=>a=b\/Kpt ws m.toNat a b) (λi a j h1 h2=>?_) h.snd a b hm⟩;rcases h1 with rfl|h1
 ·exact h2
 ·rcases h2 with rfl|h2
  ·exact .inr h1
  ·exact .inr (.trans h1 h2)
def KJ.arch{m:Int}{ws:List Way}{M M':Nat->Nat->Bool}{ad:Bool}(ok:∀w∈ws,w.Ok m)(h:KJ ws m.toNat M)(a:ArchR m.toNat (ws.filter λw=>decide (w.deed=FW "up")) (ws.filter λw=>decide (w.deed=FW "down")) M M' ad):KJ ws m.toNat M':=by
 refine⟨λi j hb=>a.le _ _ (h.beg i j hb),λi j hm=>a.least (λa b=>a=b\/Kpt ws m.toNat a b) (λu hu d hd hs=>?_) h.snd i j hm⟩;obtain⟨u1,u2⟩:=List.mem_filter.mp hu;obtain⟨d1,d2⟩:=List.mem_filter.mp hd;have u2:=of_decide_eq_true u2;have d2:=of_decide_eq_true d2;right;refine .arch u1 u2 d1 d2 ?_;rcases hs with hs|hs
 ·rw[hs];exact .refl (g8 ok d1).1
 ·exact hs
def n6(K:Fb):Sp:=λvs H Q _=>∃vh m ws,vs=[vh]/\bj H vh m ws/\HOuse m ws/\∀q rs M H',KT H H' q rs m.toNat M->lg ws m.toNat M->Q (.ref q) H'
abbrev pT:Stmt:=stq 43
def vd:FnScope ["house","table","ups","downs"] ["house"] (aH pT):=⟨rfl,rfl,rfl,by decide +kernel,rfl,by decide +kernel,by decide +kernel⟩
def EM{P:Program}{w:World}{K:Fb}{mg:Str->Option Value}{base:Heap}(D:Dfn K mg "kept_table" pT ["house"])(T:Blt mg)(C_add_arches:Cal P w K mg base "add_arches" 1 ["table","ups","downs"] (qc K))(C_join_walks:Cal P w K mg base "join_walks" 1 ["table"] (yl K))(C_ways_of_deed:Cal P w K mg base "ways_of_deed" 1 ["house","deed"] (j7 K))(C_beginning_table:Cal P w K mg base "beginning_table" 2 ["house"] (sv K)):Cal P w K mg base "kept_table" 3 ["house"] (n6 K):=by
 have nd:=(vd).nd;refine D.ok vd (λvs H Q E h=>?_) (λX hX H vs Q E h=>?_)
 ·obtain⟨vh,m,ws,rfl,_⟩:=h;rfl
 ·obtain⟨f,cdv,A,outer,s,H0,E0,rfl,hr⟩:=hX;obtain⟨vh,m,ws,rfl,hv,ok,q⟩:=h;have m1:=ok.m1;have m12:=ok.m12;refine⟨_,(aq (aE (i:=1) nd rfl (Or.inl rfl) (aB C_beginning_table hr (aa (pv 0) af)))
    (aq (aE (i:=2) nd rfl (Or.inl rfl) (aB C_ways_of_deed hr (aa (pv 0) (aa aW af))))
    (aq (aE (i:=3) nd rfl (Or.inl rfl) (aB C_ways_of_deed hr (aa (pv 0) (aa aW af))))
    (aq (bp (aB C_join_walks hr (aa (pv 1) af)))
    (aq (gq PassesOwn.never (bB (aB C_add_arches hr (aa (pv 1) (aa (pv 2) (aa (pv 3) af))))) (av (bp (aB C_join_walks hr (aa (pv 1) af)))))
    (av (aF (pv 1)))))))),?_⟩
  walk_at"";refine⟨vh,m,ws,rfl,hv,ok,λtq rs M H1 kt bg=>?_⟩;walk_at"";refine⟨vh,m,ws,_,rfl,hv.ext kt.ext,ok,λlu cu us H2 e2 hlu hlu2 hau hus=>?_⟩;walk_at"";refine⟨vh,m,ws,_,rfl,hv.ext (kt.ext.trans e2),ok,λld cd ds H3 e3 hld hld2 had hds=>?_⟩;have kt3:=kt.more (e2.trans e3);have kj:KJ ws m.toNat M:=⟨λi j h=>(bg i j).mpr h,λi j h=>by
   rcases(bg i j).mp h with h|⟨w,hw,hd,rfl,rfl⟩
   ·exact .inl h
   ·exact .inr (.stay hw hd)⟩
  have nin:∀l,H1 l=none->l∉rs/\l≠tq:=λl hl=>by
   refine⟨λz=>?_,λz=>?_⟩
   ·obtain⟨j,hj⟩:=F3 z;rw[kt.rows.2 j l hj]at hl;cases hl
   ·rw[z,kt.rows.1]at hl;cases hl
  have hld1:H1 ld=none:=by
   cases z:H1 ld with
   | none=>rfl
   | some o=>rw[e2 _ _ z]at hld;cases hld
  have ud:UD H3 tq rs lu ld cu cd us ds:=⟨e3 _ _ hlu2,hau.ext e3,hld2,had,(nin lu hlu).1,(nin ld hld1).1,(nin lu hlu).2,(nin ld hld1).2⟩;have hin:∀w∈us++ds,0<=w.room/\w.room<(m.toNat:Int)/\0<=w.other/\w.other<(m.toNat:Int):=λw hw=>by
   have hw':w∈ws:=by
    rcases FE.mp hw with h|h
    ·rw[hus]at h;exact(List.mem_filter.mp h).1
    ·rw[hds]at h;exact(List.mem_filter.mp h).1
   have h:=ok.ok w hw';have h1:=h.r0;have h2:=h.r1;have h3:=h.o0;have h4:=h.o1;omega
  clear hlu2 hau hld2 had nin hld1;walk_at"";refine⟨tq,rs,m.toNat,M,rfl,kt3.tb,by omega,λrs1 M1 H4 tb jd=>?_⟩;have kt4:=kt3.byB tb;have ud4:=ud.byB kt3.rows tb;have kj4:=kj.join jd;walk_at"";refine fW (λmm σ H'=>∃rs M,KT H H' tq rs m.toNat M/\UD H' tq rs lu ld cu cd us ds/\KJ ws m.toNat M/\(∀i a j,a<m.toNat->M i a=true->M a j=true->M i j=true)/\mm=gZ m.toNat M/\σ=[some vh,some (.ref tq),some (.ref lu),some (.ref ld)]) (λσ H'=>∃rs M,KT H H' tq rs m.toNat M/\lg ws m.toNat M/\σ=[some vh,some (.ref tq),some (.ref lu),some (.ref ld)]) (gZ m.toNat M1) ⟨rs1,M1,kt4,ud4,kj4,jd.tr,rfl,rfl⟩ ?_ ?_
  ·rintro mm σ H5 ⟨rs5,M5,kt5,ud5,kj5,tr5,rfl,rfl⟩;walk_at"";refine⟨tq,rs5,m.toNat,M5,lu,cu,us,ld,cd,ds,rfl,kt5.tw,ud5.u,ud5.au,ud5.d,ud5.ad,ud5.nu,ud5.nd,hin,λM6 ad H6 tw ar cl=>?_⟩;have kt6:=kt5.byW tw;have ud6:=ud5.byW kt5.rows tw;rw[hus,hds]at ar;have kj6:=kj5.arch ok.ok ar;walk_at"";cases ad with
   | false=>
    refine az ⟨rs5,M6,kt6,DG ok.ok kj6 (λi a j ha h1 h2=>?_) (λu hu d hd hm=>?_),rfl⟩
    ·rw[ar.same rfl]at h1 h2 ⊢;exact tr5 i a j ha h1 h2
    ·rw[ar.same rfl]at hm ⊢;exact cl rfl u (by rw[hus];exact hu) d (by rw[hds];exact hd) hm
   | true=>
    refine aG ⟨λσ' H'=>∃rs M,KT H H' tq rs m.toNat M/\UD H' tq rs lu ld cu cd us ds/\KJ ws m.toNat M/\(∀i a j,a<m.toNat->M i a=true->M a j=true->M i j=true)/\gZ m.toNat M<gZ m.toNat M5/\σ'=[some vh,some (.ref tq),some (.ref lu),some (.ref ld)],λσ' H' ⟨rs,M,a1,a2,a3,a4,a5,a6⟩=>⟨_,a5,rs,M,a1,a2,a3,a4,rfl,a6⟩,?_⟩;walk_at"";refine⟨tq,rs5,m.toNat,M6,rfl,kt6.tb,by omega,λrs7 M7 H7 tb7 jd7=>?_⟩;walk_at"";obtain⟨i,j,hi,hj,hf,ht⟩:=ar.more rfl;exact⟨rs7,M7,kt6.byB tb7,ud6.byB kt6.rows tb7,kj6.join jd7,jd7.tr,Al hi hj (λa b h=>jd7.le _ _ (ar.le _ _ h)) hf (jd7.le _ _ ht),rfl⟩
  ·rintro σ H5 ⟨rs5,M5,kt5,hk5,rfl⟩;walk_at"";exact q tq rs5 M5 H5 kt5 hk5
def oH{sp:Sp}{js:List Nat}{cells:List (Str×Addr)}{N:List Str}{ta:TA}{σ:St}{H:Hp}{Q:VK} (h:ta σ H λvs H1=>(∀j∈js,∃v,σ[j]?=some (some v)) ∧
 ∀cp:List Cap,cp.length=js.length->(∀(i j:Nat) (e:Cap),js[i]?=some j->cp[i]?=some e->N[j]?=some e.n/\cells.lookup e.n=some e.c/\σ[j]?=some (some e.v)/\H1 e.c=none/\∃u,e.o.data=.cell (some u)/\RelV e.v u) →
  sp vs (bP (cellsOf cp) H1) (λv H'=>(∀b o,(cellsOf cp).lookup b=some o->H' b=some (dn b o))/\Q v (bh (cellsOf cp) H')) E0):iZ sp js cells N ta σ H Q:=h
def qE{P:Program}{w:World}{K:Fb}{mg:Str->Option Value}{base:Heap}{k:Nat}{tf:TE}{ta:TA}{σ:St}{H:Hp}{Q:VK}(h:tf σ H λfv H1=>∃f pre R,fv=.ref f/\FunR P w K mg base k f pre R/\pre H1/\ta σ H1 λvs H2=>pre H2/\R vs H2 Q):we P w K mg base k tf ta σ H Q:=h
def ke{cs:List (Addr×Obj)}{H:Hp}(hn:∀b o,cs.lookup b=some o->H b=none):Ext H (bP cs H):=λb o e=>m8 hn e
def gj{cs:List (Addr×Obj)}{H:Hp}(hc:∀b o,cs.lookup b=some o->H b=some (dn b o)){b:Addr}{x:HO}(hb:H b=some x)(nx:∀f,x≠.ext f):bh cs H b=some x:=by
 cases q:cs.lookup b with
 | none=>rw[cH q];exact hb
 | some o=>rw[hc b o q]at hb;cases hb;exact absurd rfl (nx _)
def Ds{cs:List (Addr×Obj)}{H:Hp}(hc:∀b o,cs.lookup b=some o->H b=some (dn b o)):Ext H (bP cs (bh cs H)):=λb x e=>by
 cases q:cs.lookup b with
 | none=>rw[df q,cH q];exact e
 | some o=>rw[eW q,←hc b o q];exact e
def yF{cs:List (Addr×Obj)}{H H':Hp}(hn:∀b o,cs.lookup b=some o->H b=none)(e:Ext (bP cs H) H'):Ext H (bh cs H'):=λb x hb=>by
 cases q:cs.lookup b with
 | none=>rw[cH q];exact e b x (by rw[df q];exact hb)
 | some o=>rw[hn b o q]at hb;cases hb
def dg(n:Nat)(g:Nat->Nat->Bool):Nat->List Bfs.Pl
 | 0=>[]
 | p+1=>dg n g p++((F8 n).filter (g p)).map λq:Nat=>(((p:Nat):Int),((q:Nat):Int))
def ib{n:Nat}{g:Nat->Nat->Bool}{x:Bfs.Pl}:∀{k:Nat},x∈dg n g k↔∃p q:Nat,p<k/\q<n/\g p q=true/\x=(((p:Nat):Int),((q:Nat):Int))
 | 0=>⟨λh=>(nomatch h),λ⟨p,_,h,_⟩=>absurd h (Nat.not_lt_zero _)⟩
 | k+1=>by
  show x∈dg n g k++_↔_;rw[FE,ib (k:=k)];constructor
  ·rintro(⟨p,q,h1,h2⟩|h)
   ·exact⟨p,q,by omega,h2⟩
   ·obtain⟨q,hq,rfl⟩:=List.mem_map.mp h;obtain⟨h1,h2⟩:=List.mem_filter.mp hq;exact⟨k,q,by omega,List.mem_range.mp h1,h2,rfl⟩
  ·rintro⟨p,q,h1,h2,h3,rfl⟩;by_cases hp:p<k
   ·exact .inl ⟨p,q,hp,h2,h3,rfl⟩
   ·have:p=k:=by omega
    subst this;exact .inr (List.mem_map.mpr ⟨q,List.mem_filter.mpr ⟨List.mem_range.mpr h2,h3⟩,rfl⟩)
def lD(n:Nat)(g:Nat->Bool):((F8 n).filter g).length<=n:=FP (List.length_filter_le _ _) (by rw[List.length_range];exact FA _)
def oZ{n:Nat}{g:Nat->Nat->Bool}:∀k:Nat,(dg n g k).length<=k*n
 | 0=>by simp[dg]
 | k+1=>by show(dg n g k++_).length<=_;rw[Fy,Ff,Nat.succ_mul];have:=oZ (n:=n) (g:=g) k;have:=lD n (g k);omega
def cj{H H':Hp}(f:∀a x,aw H a x->aw H' a x){as:List Addr}{xs:List Bfs.Pl}(h:Paired (aw H) as xs):Paired (aw H') as xs:=by
 induction h with
 | nil=>exact .nil
 | cons h t ih=>exact .cons (f _ _ h) ih
def iM{H:Hp}{as:List Addr}{xs:List Bfs.Pl}{a:Addr}{x:Bfs.Pl}(h:Paired (aw H) as xs)(ht:aw H a x):Paired (aw H) (as++[a]) (xs++[x]):=by
 induction h with
 | nil=>exact .cons ht .nil
 | cons h _ ih=>exact .cons h ih
def vb{H:Hp}{as bs:List Addr}{xs ys:List Bfs.Pl}(h:Paired (aw H) as xs)(h':Paired (aw H) bs ys):Paired (aw H) (as++bs) (xs++ys):=by
 induction h with
 | nil=>exact h'
 | cons h _ ih=>exact .cons h ih
def dM{H:Hp}{as:List Addr}{xs:List Bfs.Pl}(h:Paired (aw H) as xs):as.length=xs.length:=by
 induction h with
 | nil=>rfl
 | cons _ _ ih=>rw[FJ,FJ,ih]
def nF(P:Program)(w:World)(K:Fb)(mg:Str->Option Value)(base:Heap):Sp:=λvs H Q _=>∃vh m ws f pre g,vs=[vh,.ref f]/\bj H vh m ws/\HOuse m ws/\FunR P w K mg base 1 f pre (λvs H Q=>∃p q:Nat,vs=[.int (p:Nat),.int (q:Nat)]/\(p:Int)<m/\(q:Int)<m/\∀H',Ext H H'->Q (.bl (g p q)) H')/\pre H/\(∀H H',Ext H H'->pre H->pre H') ∧
 ∀l ps H',Ext H H'->H l=none->H' l=some (.lst (List.map V.ref ps))->Paired (aw H') ps (dg m.toNat g m.toNat)->Q (.ref l) H'
abbrev pQ:Stmt:=stq 39
def sH:FnScope ["house","choice","pairs","p"] ["house","choice"] (aH pQ):=⟨rfl,rfl,rfl,by decide +kernel,rfl,by decide +kernel,by decide +kernel⟩
def DC{P:Program}{w:World}{K:Fb}{mg:Str->Option Value}{base:Heap}(D:Dfn K mg "told_pairs" pQ ["house","choice"])(T:Blt mg):Cal P w K mg base "told_pairs" 2 ["house","choice"] (nF P w K mg base):=by
 have nd:=(sH).nd;refine D.ok sH (λvs H Q E h=>?_) (λX hX H vs Q E h=>?_)
 ·obtain⟨vh,m,ws,f,pre,g,rfl,_⟩:=h;rfl
 ·obtain⟨f,cdv,A,outer,s,H0,E0,rfl,hr⟩:=hX;obtain⟨vh,m,ws,ff,pre,g,rfl,hv,ok,hF,hpre,hmono,q⟩:=h;have m1:=ok.m1;have m12:=ok.m12;obtain⟨hp0,hq0,rfl,hh,_⟩:=id hv;refine⟨_,(@aq _ _ _ _ _ (@aE _ _ 2 _ _ _ _ nd rfl (Or.inl rfl) (@bx _ _ _ _ af) rfl (Or.inl rfl))
    (@aq _ _ _ _ _ (bM PassesOwn.never rfl (cW rfl T.range_ (@aa _ _ _ _ _ (@ao _ _ _ _ _ _ _ (ay K) (pv 0) ae (λ_ _=>rfl)) af rfl)) (aM (i:=3) nd rfl (Or.inr rfl)) (@av _ _ _ (bp (bF K Fn PySem.F.slot_list_extend PySem.F.type_list_extend Cg (pv 2) (@aa _ _ _ _ _ (de ["q"] [3,1] (cW rfl T.range_ (@aa _ _ _ _ _ (@ao _ _ _ _ _ _ _ (ay K) (pv 0) ae (λ_ _=>rfl)) af rfl)) (λ_=>(aM (i:=0) (show(["q","p","choice"]:List Str).Nodup from by decide +kernel) rfl (Or.inl rfl) (Or.inr rfl))) (λ_=>(eF (bB (u7 (P:=P) (w:=w) (K:=K) (mg:=mg) (base:=base) hr (pv 2) (@aa _ _ _ _ _ (pv 1) (@aa _ _ _ _ _ (pv 0) af rfl) rfl))))) (λ_=>(@bz _ _ _ _ _ (@aa _ _ _ _ _ (pv 1) (@aa _ _ _ _ _ (pv 0) af rfl) rfl)))) af rfl)))))
    (@av _ _ _ (@aF _ _ _ _ (pv 2))))),?_⟩
  walk_at"";refine aO λl H1 e1 hl hfl=>?_;walk_at"";refine ax (ah.of (e1 _ _ hh)) (v:=.int m) rfl ?_;walk_at"";refine cR (by omega) ?_;refine forR (λp σ H'=>∃ps k1,Ext H H'/\H' l=some (.lst (List.map V.ref ps))/\Paired (aw H') ps (dg m.toNat g p)/\σ=[some (.ref hp0),some (.ref ff),some (.ref l),k1]) ⟨[],_,e1,hl,.nil,rfl⟩ ?_ ?_
  ·rintro p σ H2 hp ⟨ps,k1,e2,hl2,hps,rfl⟩;rw[show (0:Int)+(p:Int)=((p:Nat):Int) by omega];have hpl:=dM hps;have hpn:=oZ (n:=m.toNat) (g:=g) p;have hpm:p*m.toNat<=12*12:=Nat.mul_le_mul (by omega) (by omega);walk_at"";refine⟨cN (ag.of hl2),?_⟩;walk_at"";refine ax (ah.of (e2 _ _ hh)) (v:=.int m) rfl ?_;walk_at"";refine cR (by omega) ?_;refine fP (λi ys H'=>Ext H2 H'/\∃cs,ys=List.map V.ref cs/\Paired (aw H') cs (((F8 i).filter (g p)).map λq:Nat=>(((p:Nat):Int),((q:Nat):Int)))) (bL (by omega)) ⟨Ext.rfl' _,[],rfl,.nil⟩ ?_ ?_ ?_
   ·rintro i ys H' _ ⟨_,cs,rfl,hcs⟩;rw[Ff,dM hcs,Ff];exact lD i (g p)
   ·rintro i ys H3 hi ⟨e3,cs,rfl,hcs⟩;rw[show (0:Int)+(i:Int)=((i:Nat):Int) by omega];have e23:=e2.trans e3;walk_at"";refine qE ?_;walk_at"";refine⟨ff,pre,_,rfl,hF,hmono _ _ e23 hpre,?_⟩;walk_at"";refine⟨hmono _ _ e23 hpre,p,i,rfl,by omega,by omega,λH4 e4=>?_⟩;have e24:=e3.trans e4;cases hg:g p i with
    | false=>
     refine rd_exb (az ⟨e24,cs,rfl,?_⟩);rw[List.range_succ,List.filter_append];have:List.filter (g p) [i]=[]:=by rw[List.filter_cons,Gb (by rw[hg];exact Fw)];rfl
     rw[this,List.append_nil];exact cj (λa x h=>e4 _ _ h) hcs
    | true=>
     refine rd_exb (aG ?_);walk_at"";refine aO λt H5 e5 ht _=>?_;refine⟨e24.trans e5,cs++[t],?_,?_⟩
     ·rw[Fx];rfl
     ·rw[List.range_succ,List.filter_append,Fx];have:List.filter (g p) [i]=[i]:=by rw[List.filter_cons,Ge hg];rfl
      rw[this];exact iM (cj (λa x h=>(e4.trans e5) _ _ h) hcs) ht
   ·rintro ys H3 p9 ⟨e3,cs,rfl,hcs⟩ hp9;have e4:=bq (o:=.lst (List.map V.ref cs)) hp9;have h9:(upd H3 p9 (.lst (List.map V.ref cs))) p9=_:=aL;have hcs4:=cj (λa x h=>e4 _ _ h) hcs;have e24:=e3.trans e4;have hl4:=e24 _ _ hl2;have hps4:=cj (λa x h=>e24 _ _ h) hps;generalize upd H3 p9 (.lst (List.map V.ref cs))=H4 at e4 h9 hcs4 e24 hl4 hps4 ⊢;have hcl:=dM hcs;rw[Ff]at hcl;have hfl2:=lD m.toNat (g p);walk_at"";refine⟨l,p9,_,_,rfl,rfl,hl4,h9,bL (by rw[Ff,Ff];omega),?_⟩;walk_at"";refine⟨ps++cs,_,cb (e2.trans e24) hfl,?_,?_,rfl⟩
    ·rw[aL,Fx]
    ·exact vb (cj (λa x h=>aw.put hl4 (λxs z=>by cases z) h) hps4) (cj (λa x h=>aw.put hl4 (λxs z=>by cases z) h) hcs4)
  ·rintro σ H2 ⟨ps,k1,e2,hl2,hps,rfl⟩;walk_at"";exact q l ps H2 e2 hfl hl2 hps
def fm(K:Fb):Prop:=∀x∈(["kept","low_levels","risen"]:List Str),∀y∈(["kept","low_levels","risen"]:List Str),x≠y->∀c T c' T',PySem.W.tabIn K x=some (c,T)->PySem.W.tabIn K y=some (c',T')->T'≠T
def Cd(K:Fb):Bool:=(["kept","low_levels","risen"]:List Str).all λx=>(["kept","low_levels","risen"]:List Str).all λy=>x == y || (match PySem.W.tabIn K x,PySem.W.tabIn K y with|some a,some b=>b.2 != a.2|_,_=>true)
def ED{K:Fb}(h:Cd K=true):fm K:=λx hx y hy hn c T c' T' e1 e2=>by
 have h1:=FR.mp (FR.mp h x hx) y hy;rw[e1,e2,Bool.or_eq_true]at h1;rcases h1 with h1|h1
 ·exact absurd (eq_of_beq h1) hn
 ·exact bne_iff_ne.mp h1
structure Tbs(K:Fb)(H:Hp):Prop where
 kept:cM K "kept" ("kept" ++ ".<locals>." ++ "<lambda>") 153 29 H
 low:cM K "low_levels" ("low_levels" ++ ".<locals>." ++ "<lambda>") 186 39 H
 risen:cM K "risen" ("risen" ++ ".<locals>." ++ "<lambda>") 158 29 H
def Tbs.ext{K:Fb}{H H':Hp}(e:Ext H H')(h:Tbs K H):Tbs K H':=⟨h.kept.ext e,h.low.ext e,h.risen.ext e⟩
def bU.et{H H':Hp}{p:Addr}{kk:List (List Key)}(e:Et H H')(h:bU H p kk):bU H' p kk:=by obtain⟨bs,h1,h2,h3⟩:=h;exact⟨bs,e _ _ h1 (λps z=>by cases z),h2,λj b k e1 e2=>e _ _ (h3 j b k e1 e2) (λps z=>by cases z)⟩
def bj.et{H H':Hp}{v:V}{m:Int}{ws:List Way}(e:Et H H')(h:bj H v m ws):bj H' v m ws:=by obtain⟨p,q,rfl,h1,h2⟩:=h;exact⟨p,q,rfl,e _ _ h1 (λps z=>by cases z),h2.et e⟩
def Rows.et{H H':Hp}(e:Et H H'){q:Addr}{rs:List Addr}{n:Nat}{M:Nat->Nat->Bool}(h:Rows H q rs n M):Rows H' q rs n M:=⟨e _ _ h.1 (λps z=>by cases z),λi r hi=>e _ _ (h.2 i r hi) (λps z=>by cases z)⟩
def aU.et{H H':Hp}{bs:List Addr}{ws:List Way}(e:Et H H')(h:aU H bs ws):aU H' bs ws:=⟨h.1,λj b w e1 e2=>e _ _ (h.2 j b w e1 e2) (λps z=>by cases z)⟩
def aw.et{H H':Hp}(e:Et H H'){p:Addr}{x:Bfs.Pl}(h:aw H p x):aw H' p x:=e _ _ h (λps z=>by cases z)
def eV(H:Hp)(l:Addr)(n:Nat)(R:Nat->Nat->Prop):Prop:=∃ps g,H l=some (.lst (List.map V.ref ps))/\Paired (aw H) ps (dg n g n)/\∀i j,i<n->j<n->(g i j=true↔R i j)
def eV.et{H H':Hp}(e:Et H H'){l:Addr}{n:Nat}{R:Nat->Nat->Prop}(h:eV H l n R):eV H' l n R:=by obtain⟨ps,g,h1,h2,h3⟩:=h;exact⟨ps,g,e _ _ h1 (λps z=>by cases z),cj (λa x h=>h.et e) h2,h3⟩
def held{cs:List (Addr×Obj)}{H3 H4:Hp}(hn:∀b o,cs.lookup b=some o->H3 b=none)(e4:Ext (bP cs H3) H4):(∀b o,cs.lookup b=some o->H4 b=some (dn b o))/\Ext H3 (bh cs H4)/\(∀l,bP cs H3 l=none->bh cs H4 l=H4 l)/\∀b x,H4 b=some x->(∀f,x≠.ext f)->bh cs H4 b=some x:=by
 have hc:∀b o,cs.lookup b=some o->H4 b=some (dn b o):=λb o q=>e4 _ _ (eW q);refine⟨hc,yF hn e4,λl hl=>?_,λb x hb nx=>gj hc hb nx⟩;cases q:cs.lookup l with
 | none=>exact cH q
 | some o=>rw[eW q]at hl;cases hl
def mZ{α:Type}{cp:List α}(h:cp.length=1):∃e,cp=[e]:=by
 cases cp with
 | nil=>exact absurd h (by simp)
 | cons e r=>
  cases r with
  | nil=>exact⟨e,rfl⟩
  | cons _ _=>exact absurd h (by simp)
def kh{α:Type}{cp:List α}(h:cp.length=2):∃e e',cp=[e,e']:=by
 cases cp with
 | nil=>exact absurd h (by simp)
 | cons e r=>
  obtain⟨e',rfl⟩:=mZ (cp:=r) (by simpa using h);exact⟨e,e',rfl⟩
def Cm{α:Type}{cp:List α}(h:cp.length=3):∃e e' e'',cp=[e,e',e'']:=by
 cases cp with
 | nil=>exact absurd h (by simp)
 | cons e r=>
  obtain⟨e',e'',rfl⟩:=kh (cp:=r) (by simpa using h);exact⟨e,e',e'',rfl⟩
def m6{P:Program}{w:World}{K:Fb}{mg:Str->Option Value}{base:Heap}{k:Nat}{f c:Addr}{q:Str}{params:Arguments}{body:Expr}{scope:Scope}{cl cells:List (Str×Addr)}{H0:Hp}(hf:H0 f=some (eQ f c q params body scope cl))(C:ClOk scope cells cl)(ps:List Str)(cp:List Cap)(R:List V->Hp->VK->Prop)(I:Hp->Prop)
  (S:LamSc ps scope) (bind:∀(pm cv ctv:Value) (us:List Value),us.length=ps.length->bindArgs (PySem.W.kla_fn "<lambda>" q params body scope cl pm cv ctv) ⟨us,[]⟩=pure (ps.zip us))
  (hR:∀vs H Q,R vs H Q->vs.length=ps.length)
  (hbody:∀(A:Around) (outer:List Env) (s:Shared) (H:Hp) (vs:List V) (Q:VK),Room k (A.deeper (eO q scope s.heap.objs.size f (.ref c) cl))->gF f c q params body scope cl cp H->I H->R vs H Q →
   ∃te,PE (iX P w K mg base (ps++cp.map (·.n)) q scope f (.ref c) cl A outer s (bh (cellsOf cp) H)) body te/\te (vs.map some++cp.map λe=>some e.v) (bh (cellsOf cp) H) λv H'=>(∀b o,(cellsOf cp).lookup b=some o->H' b=none)->Q v (bP (cellsOf cp) H')) :
  FunR P w K mg base (k+1) f (λH=>gF f c q params body scope cl cp H/\I H) R:=Dm I S C bind hR hbody
def oM(K:Fb):Sp:=λvs H Q _=>∃vh m ws,vs=[vh]/\bj H vh m ws/\HOuse m ws/\fm K/\Tbs K H/\∀l H',Et H H'->Tbs K H'->eV H' l m.toNat (Kpt ws m.toNat)->Q (.ref l) H'
abbrev lr:Stmt:=stq 44
def rf:FnScope ["house","table"] ["house"] (aH lr):=⟨rfl,rfl,rfl,by decide +kernel,rfl,by decide +kernel,by decide +kernel⟩
def BE{P:Program}{w:World}{K:Fb}{mg:Str->Option Value}{base:Heap}(D:Dfn K mg "kept" lr ["house"])(T:Blt mg){c9 T9:Addr}(B:Tab K mg base "kept" c9 T9)(C_told_pairs:Cal P w K mg base "told_pairs" 2 ["house","choice"] (nF P w K mg base))(C_kept_table:Cal P w K mg base "kept_table" 3 ["house"] (n6 K))(C_refuse_no_house:Cal P w K mg base "refuse_no_house" 6 ["thing"] (kJ K)):Cal P w K mg base "kept" 7 ["house"] (oM K):=by
 have nd:=(rf).nd;refine D.okL B rf (λvs H Q E h=>?_) (λX hX H vs Q E h=>?_)
 ·obtain⟨vh,m,ws,rfl,_⟩:=h;rfl
 ·obtain⟨f,A,outer,s,H0,E0,rfl,hr⟩:=hX;obtain⟨vh,m,ws,rfl,hv,ok,dis,htb,q⟩:=h;have m1:=ok.m1;have m12:=ok.m12;refine⟨_,(aq (bp (aB C_refuse_no_house hr (aa (pv 0) af)))
    (aq (aE (i:=1) nd rfl (Or.inr rfl) (aB C_kept_table hr (aa (pv 0) af)))
    (av (aF (o7 [1] C_told_pairs hr (aa (pv 0) (aa (pR rfl rfl B.hd B.blt B.gl (by decide +kernel) rfl rfl rfl) af))))))),?_⟩
  walk_at"";refine⟨vh,m,ws,rfl,hv,ok,λH1 e1=>?_⟩;walk_at"";refine⟨vh,m,ws,rfl,hv.ext e1,ok,λtq rs M H2 kt km=>?_⟩;have e02:=e1.trans kt.ext;have hrows:=kt.rows;have hrl:=kt.len;walk_at"";show iZ _ [1] _ (["house","table"]:List Str) _ _ _ _;generalize PySem.Env.cells _=cells0;refine oH ?_;walk_at"";refine ou ?_;refine lQ (x:="kept") (htb.ext e02).kept B.tin λfl c' cl H3 hcl e3 ht3 ot hf hc'=>?_;have t3:Tbs K H3:=⟨ht3,ot "low_levels" _ _ _ (λc2 T2 e2=>dis "kept" (by simp) "low_levels" (by simp) (by decide +kernel) _ _ _ _ B.tin e2) (htb.ext e02).low,ot "risen" _ _ _ (λc2 T2 e2=>dis "kept" (by simp) "risen" (by simp) (by decide +kernel) _ _ _ _ B.tin e2) (htb.ext e02).risen⟩;walk_at"";refine⟨λj hj=>?_,λcp hlen hcp=>?_⟩
  ·rw[Fq.mp hj];exact⟨_,rfl⟩
  obtain⟨⟨n,c,o,v⟩,rfl⟩:=mZ hlen;obtain⟨hN,hcc,hσ,hnone,u,hdat,hrel⟩:=hcp 0 1 _ rfl rfl;clear hcp hlen;dsimp only at hN hcc hσ hnone hdat hrel;have hN':(FW "table")=n:=FX hN;have hσ':(V.ref tq)=v:=FX (FX hσ);clear hN hσ;subst hN';subst hσ';have hn3:∀b o',(cellsOf [⟨FW "table",c,o,V.ref tq⟩]).lookup b=some o'->H3 b=none:=λb o' hb=>by obtain⟨e,he,rfl,rfl⟩:=gr hb;rw[Fq.mp he];exact hnone
  have ex:=ke hn3;have hrows3:=(hrows.et e3).ext ex;have hv3:=((hv.ext e02).et e3).ext ex;have hcaps:Caps (bP (cellsOf [⟨FW "table",c,o,V.ref tq⟩]) H3) cl [⟨FW "table",c,o,V.ref tq⟩]:=by
   obtain⟨c2,hc2⟩:=hcl.has (FW "table") rfl;have hc3:=(hcl.fr _ _ hc2).2;rw[hcc]at hc3;cases hc3;refine⟨λe he=>?_,λx d hx=>?_⟩
   ·rw[Fq.mp he];exact⟨hc2,eW (by simp[cellsOf]),u,hdat,hrel⟩
   ·have hm:=iz (hcl.fr x d hx).1;simp at hm;subst hm;rw[hc2]at hx;cases hx;exact⟨_,Fq.mpr rfl,rfl,rfl⟩
  have hF:=m6 (P:=P) (w:=w) (K:=K) (mg:=mg) (base:=base) (k:=0) hf hcl (["p","q"]:List Str) [⟨FW "table",c,o,V.ref tq⟩] (λvs H Q=>∃p q:Nat,vs=[.int (p:Nat),.int (q:Nat)]/\(p:Int)<m/\(q:Int)<m/\∀H',Ext H H'->Q (.bl (M p q)) H') (λH=>Rows H tq rs m.toNat M) ⟨rfl,rfl,rfl,by decide +kernel,by decide +kernel⟩ (λ_ _ _ us hl=>by obtain⟨u1,u2,rfl⟩:=kh hl;rfl) (λvs H Q h=>by obtain⟨p,q,rfl,_⟩:=h;rfl) (λA outer s H vs Q hrL hpre hI hR=>by
   obtain⟨p,q,rfl,hp,hq,hQ⟩:=hR;have hlk:=hpre.2.2.look;have hI':Rows (bh (cellsOf [⟨FW "table",c,o,V.ref tq⟩]) H) tq rs m.toNat M:=⟨gj hlk hI.1 (λf z=>by cases z),λi r hi=>gj hlk (hI.2 i r hi) (λf z=>by cases z)⟩;refine⟨_,(ao (aJ K) (ao (aJ K) (pv 2) (pv 0) (λ_ _=>rfl)) (pv 1) (λ_ _=>rfl)),?_⟩;have hb:=Ds hlk;generalize bh (cellsOf [⟨FW "table",c,o,V.ref tq⟩]) H=HU at hI' hb ⊢;have hp2:p<rs.length:=by omega
   have gp:rs[p]?=some rs[p]:=Fg hp2;have rp:=hI'.2 p _ gp;generalize rs[p]=ap at gp rp;show ie _ _ _ [some (.int (p:Nat)),some (.int (q:Nat)),some (.ref tq)] _ _;walk_at"";refine aK (ag.of hI'.1) (v:=.ref ap) (cP (by rw[Fh,gp];rfl)) ?_;walk_at"";refine aK (ag.of rp) (ee (by omega) (by omega)) ?_;rw[Ft];exact λ_=>hQ _ hb)
  refine⟨vh,m,ws,fl,_,M,rfl,hv3,ok,hF,⟨⟨ex _ _ hf,ex _ _ hc',hcaps⟩,hrows3⟩,λH H' e h=>⟨h.1.ext e,h.2.ext e⟩,λl ps H4 e4 hl hl4 hps=>?_⟩;obtain⟨a1,a2,a3,a4⟩:=held hn3 e4;exact⟨a1,q l _ ((e02.et.trans e3).trans a2.et) (t3.ext a2) ⟨ps,M,a4 _ _ hl4 (λf z=>by cases z),cj (λa x h=>a4 _ _ h (λf z=>by cases z)) hps,km⟩⟩
def br(ws:List Way)(n:Nat)(i j:Nat):Prop:=∃u∈ws,u.deed = "up"/\u.room.toNat=i/\Kpt ws n u.other.toNat j
def si{cs:List (Addr×Obj)}{H H':Hp}(hc:∀b o,cs.lookup b=some o->H b=some (dn b o))(e:Ext (bh cs H) H'):Ext H (bP cs H'):=λb x hb=>by
 cases q:cs.lookup b with
 | none=>rw[df q];exact e b x (by rw[cH q];exact hb)
 | some o=>rw[eW q,←hc b o q];exact hb
def jW(us:List Way)(M:Nat->Nat->Bool)(p q:Nat):Bool:=((us.filter λu=>decide (u.room=(p:Int))).map λu=>M u.other.toNat q).any id
def kS(K:Fb):Sp:=λvs H Q _=>∃vh m ws,vs=[vh]/\bj H vh m ws/\HOuse m ws/\fm K/\Tbs K H/\∀l H',Et H H'->Tbs K H'->eV H' l m.toNat (br ws m.toNat)->Q (.ref l) H'
abbrev oY:Stmt:=stq 45
def wY:FnScope ["house","table","ups"] ["house"] (aH oY):=⟨rfl,rfl,rfl,by decide +kernel,rfl,by decide +kernel,by decide +kernel⟩
def Ej{P:Program}{w:World}{K:Fb}{mg:Str->Option Value}{base:Heap}(D:Dfn K mg "risen" oY ["house"])(T:Blt mg){c9 T9:Addr}(B:Tab K mg base "risen" c9 T9)(C_told_pairs:Cal P w K mg base "told_pairs" 2 ["house","choice"] (nF P w K mg base))(C_ways_of_deed:Cal P w K mg base "ways_of_deed" 1 ["house","deed"] (j7 K))(C_kept_table:Cal P w K mg base "kept_table" 3 ["house"] (n6 K))(C_refuse_no_house:Cal P w K mg base "refuse_no_house" 6 ["thing"] (kJ K)):Cal P w K mg base "risen" 7 ["house"] (kS K):=by
 have nd:=(wY).nd;refine D.okL B wY (λvs H Q E h=>?_) (λX hX H vs Q E h=>?_)
 ·obtain⟨vh,m,ws,rfl,_⟩:=h;rfl
 ·obtain⟨f,A,outer,s,H0,E0,rfl,hr⟩:=hX;obtain⟨vh,m,ws,rfl,hv,ok,dis,htb,q⟩:=h;have m1:=ok.m1;have m12:=ok.m12;have few:=ok.few;refine⟨_,(aq (bp (aB C_refuse_no_house hr (aa (pv 0) af)))
    (aq (aE (i:=1) nd rfl (Or.inr rfl) (aB C_kept_table hr (aa (pv 0) af)))
    (aq (aE (i:=2) nd rfl (Or.inr rfl) (aB C_ways_of_deed hr (aa (pv 0) (aa aW af))))
    (av (aF (o7 [2,1] C_told_pairs hr (aa (pv 0) (aa (pR rfl rfl B.hd B.blt B.gl (by decide +kernel) rfl rfl rfl) af)))))))),?_⟩
  walk_at"";refine⟨vh,m,ws,rfl,hv,ok,λH1 e1=>?_⟩;walk_at"";refine⟨vh,m,ws,rfl,hv.ext e1,ok,λtq rs M H1b kt km=>?_⟩;walk_at"";refine⟨vh,m,ws,_,rfl,hv.ext (e1.trans kt.ext),ok,λlu cu us H2 e2 hlu hlu2 hau hus=>?_⟩;have e02:=(e1.trans kt.ext).trans e2;have hrows:=kt.rows.ext e2;have hrl:=kt.len;have hcu:=hau.1;have hul:us.length<=100:=by rw[hus];exact FP (List.length_filter_le _ _) few
  have hin:∀u∈us,u∈ws/\u.deed=FW "up":=λu hu=>by rw[hus]at hu;obtain⟨h1,h2⟩:=List.mem_filter.mp hu;exact⟨h1,of_decide_eq_true h2⟩
  walk_at"";show iZ _ [2,1] _ (["house","table","ups"]:List Str) _ _ _ _;generalize PySem.Env.cells _=cells0;refine oH ?_;walk_at"";refine ou ?_;refine lQ (x:="risen") (htb.ext e02).risen B.tin λfl c' cl H3 hcl e3 ht3 ot hf hc'=>?_;have t3:Tbs K H3:=⟨ot "kept" _ _ _ (λc2 T2 e2=>dis "risen" (by simp) "kept" (by simp) (by decide +kernel) _ _ _ _ B.tin e2) (htb.ext e02).kept,ot "low_levels" _ _ _ (λc2 T2 e2=>dis "risen" (by simp) "low_levels" (by simp) (by decide +kernel) _ _ _ _ B.tin e2) (htb.ext e02).low,ht3⟩;walk_at"";refine⟨λj hj=>?_,λcp hlen hcp=>?_⟩
  ·rcases Fv.mp hj with rfl|hj
   ·exact⟨_,rfl⟩
   ·rw[Fq.mp hj];exact⟨_,rfl⟩
  obtain⟨⟨n,c,o,v⟩,⟨n',d,o',v'⟩,rfl⟩:=kh hlen;obtain⟨hN,hcc,hσ,hnone,u,hdat,hrel⟩:=hcp 0 2 _ rfl rfl;obtain⟨hN2,hcc2,hσ2,hnone2,u2,hdat2,hrel2⟩:=hcp 1 1 _ rfl rfl;clear hcp hlen;dsimp only at hN hcc hσ hnone hdat hrel hN2 hcc2 hσ2 hnone2 hdat2 hrel2;have hN':(FW "ups")=n:=FX hN;have hσ':(V.ref lu)=v:=FX (FX hσ);have hN2':(FW "table")=n':=FX hN2;have hσ2':(V.ref tq)=v':=FX (FX hσ2);clear hN hσ hN2 hσ2;subst hN';subst hσ';subst hN2';subst hσ2';obtain⟨c2,hc2⟩:=hcl.has (FW "ups") rfl;obtain⟨d2,hd2⟩:=hcl.has (FW "table") rfl;have hc3:=(hcl.fr _ _ hc2).2;have hd3:=(hcl.fr _ _ hd2).2;rw[hcc]at hc3;rw[hcc2]at hd3;cases hc3;cases hd3;have ncd:c≠d:=λz=>by have:=hcl.inj _ _ _ hc2 (z ▸ hd2);exact absurd this (by decide +kernel)
  have hn3:∀b o9,(cellsOf [⟨FW "ups",c,o,V.ref lu⟩,⟨FW "table",d,o',V.ref tq⟩]).lookup b=some o9->H3 b=none:=λb o9 hb=>by
   obtain⟨e,he,rfl,rfl⟩:=gr hb;rcases Fv.mp he with rfl|he
   ·exact hnone
   ·rw[Fq.mp he];exact hnone2
  have ex:=ke hn3;have hrows3:=(hrows.et e3).ext ex;have hlu3:=ex _ _ (e3 _ _ hlu2 (λps z=>by cases z));have hau3:=(hau.et e3).ext ex;have hv3:=((hv.ext e02).et e3).ext ex;have hcaps:Caps (bP (cellsOf [⟨FW "ups",c,o,V.ref lu⟩,⟨FW "table",d,o',V.ref tq⟩]) H3) cl [⟨FW "ups",c,o,V.ref lu⟩,⟨FW "table",d,o',V.ref tq⟩]:=by
   refine⟨λe he=>?_,λx g hx=>?_⟩
   ·rcases Fv.mp he with rfl|he
    ·exact⟨hc2,eW (by simp[cellsOf]),u,hdat,hrel⟩
    ·rw[Fq.mp he];refine⟨hd2,eW ?_,u2,hdat2,hrel2⟩;show List.lookup d ((c,o)::[(d,o')])=some o';rw[F4,show (d == c)=false from beq_eq_false_iff_ne.mpr (Ne.symm ncd),F4,beq_self_eq_true]
   ·have hm:=iz (hcl.fr x g hx).1;simp at hm;rcases hm with rfl|rfl
    ·first|(rw[hc2]at hx;cases hx;exact⟨_,Fm,rfl,rfl⟩)|(rw[hd2]at hx;cases hx;exact⟨_,Fi _ (Fq.mpr rfl),rfl,rfl⟩)
    ·first|(rw[hc2]at hx;cases hx;exact⟨_,Fm,rfl,rfl⟩)|(rw[hd2]at hx;cases hx;exact⟨_,Fi _ (Fq.mpr rfl),rfl,rfl⟩)
  have hF:=m6 (P:=P) (w:=w) (K:=K) (mg:=mg) (base:=base) (k:=0) hf hcl (["p","q"]:List Str) [⟨FW "ups",c,o,V.ref lu⟩,⟨FW "table",d,o',V.ref tq⟩] (λvs H Q=>∃p q:Nat,vs=[.int (p:Nat),.int (q:Nat)]/\(p:Int)<m/\(q:Int)<m/\∀H',Ext H H'->Q (.bl (jW us M p q)) H') (λH=>Rows H tq rs m.toNat M/\H lu=some (.lst (List.map V.ref cu))/\aU H cu us) ⟨rfl,rfl,rfl,by decide +kernel,by decide +kernel⟩ (λ_ _ _ us hl=>by obtain⟨u1,u2,rfl⟩:=kh hl;rfl) (λvs H Q h=>by obtain⟨p,q,rfl,_⟩:=h;rfl) (λA outer s H vs Q hrL hpre hI hR=>by
   obtain⟨p,q,rfl,hp,hq,hQ⟩:=hR;have hlk:=hpre.2.2.look;obtain⟨hI1,hI2,hI3⟩:=hI;have hI1':Rows (bh (cellsOf [⟨FW "ups",c,o,V.ref lu⟩,⟨FW "table",d,o',V.ref tq⟩]) H) tq rs m.toNat M:=⟨gj hlk hI1.1 (λf z=>by cases z),λi r hi=>gj hlk (hI1.2 i r hi) (λf z=>by cases z)⟩;have hI2':=gj hlk hI2 (λf z=>by cases z);have hI3':aU (bh (cellsOf [⟨FW "ups",c,o,V.ref lu⟩,⟨FW "table",d,o',V.ref tq⟩]) H) cu us:=⟨hI3.1,λj b w e1 e2=>gj hlk (hI3.2 j b w e1 e2) (λf z=>by cases z)⟩;refine⟨_,(aX (qH K rfl) rfl T.any_ PyProof.Rows.boot_any (aa (de ["way"] [3,1,0] (bW K (pv 2)) (λ_=>(aM (i:=0) (show(["way","table","q","p"]:List Str).Nodup from by decide +kernel) rfl (Or.inl rfl) (Or.inr rfl))) (λ_=>(eF (aQ bJ (ao (ay K) (pv 0) ae (λ_ _=>rfl)) (pv 3) (aN _)))) (λ_=>(ao (aJ K) (ao (aJ K) (pv 1) (ao (ay K) (pv 0) ae (λ_ _=>rfl)) (λ_ _=>rfl)) (pv 2) (λ_ _=>rfl)))) af)),?_⟩;have hb:∀H',Ext (bh (cellsOf [⟨FW "ups",c,o,V.ref lu⟩,⟨FW "table",d,o',V.ref tq⟩]) H) H'->Ext H (bP (cellsOf [⟨FW "ups",c,o,V.ref lu⟩,⟨FW "table",d,o',V.ref tq⟩]) H'):=λH' e=>si hlk e;generalize bh (cellsOf [⟨FW "ups",c,o,V.ref lu⟩,⟨FW "table",d,o',V.ref tq⟩]) H=HU at hI1' hI2' hI3' hb ⊢;show ka _ _ [some (.int (p:Nat)),some (.int (q:Nat)),some (.ref lu),some (.ref tq)] _ _;walk_at"";refine bZ (ag.of hI2') ?_;refine fD (xs:=List.map V.ref cu) (λi ys H'=>H'=HU/\ys=(((us.take i).filter λu=>decide (u.room=(p:Int))).map λu=>M u.other.toNat q).map V.bl) (bL (by rw[Ff];omega)) ⟨rfl,rfl⟩ (λi ys H' _ h=>⟨by rw[h.1];exact ag.of hI2',by rw[h.2,Ff,Ff];exact FP (List.length_filter_le _ _) (by rw[F5];omega)⟩) ?_ ?_
   ·rintro i v ys H4 hx ⟨rfl,rfl⟩;rw[Fh]at hx;obtain⟨b,hb',rfl⟩:=Fs.mp hx;have hi:i<us.length:=by rw[←hcu];exact(Fo.mp hb').1
    have gu:us[i]?=some us[i]:=Fg hi;have hb0:=hI3'.2 i b _ hb' gu;generalize us[i]=uu at gu hb0;have oku:=ok.ok uu (hin uu (Fp gu)).1;have v0:=oku.r0;have v1:=oku.r1;have v2:=oku.o0;have v3:=oku.o1;have x2:uu.other.toNat<rs.length:=by omega
    have r2:rs[uu.other.toNat]?=some rs[uu.other.toNat]:=Fg x2;have w2:=hI1'.2 _ _ r2;generalize rs[uu.other.toNat]=a2 at r2 w2;have at2:bG (rs.map V.ref) uu.other=some (.ref a2):=eR v2 (by rw[Fh,r2];rfl);walk_at"";refine ax (ah.of hb0) (v:=.int uu.room) rfl ?_;walk_at"";cases hc:decide (uu.room=(p:Int))with
    | true=>
     refine aG ?_;walk_at"";refine ax (ah.of hb0) (v:=.int uu.other) rfl ?_;walk_at"";refine aK (ag.of hI1'.1) at2 ?_;walk_at"";refine aK (ag.of w2) (ee (by omega) (by omega)) ?_;rw[Ft];refine⟨rfl,?_⟩;rw[List.take_add_one,gu,List.filter_append,Fx,Fx];congr 1;show[V.bl _]=List.map V.bl (List.map _ (List.filter _ [uu]));rw[List.filter_cons,Ge hc];rfl
    | false=>
     refine az ⟨rfl,?_⟩;have hno:List.filter (λu:Way=>decide (u.room=(p:Int))) [uu]=[]:=by rw[List.filter_cons,Gb (by rw[hc];exact Fw)];rfl
     rw[List.take_add_one,gu,List.filter_append];show _=List.map V.bl (List.map _ (_++List.filter _ [uu]));rw[hno,List.append_nil]
   ·rintro ys H4 p9 ⟨hH,rfl⟩ hp9;subst hH;rw[Ff,hcu,FK];have e9:=bq (o:=.lst (((us.filter λu=>decide (u.room=(p:Int))).map λu=>M u.other.toNat q).map V.bl)) hp9;walk_at"";refine⟨p9,_,rfl,ag.of aL,?_⟩;exact λ_=>hQ _ (hb _ e9))
  refine⟨vh,m,ws,fl,_,jW us M,rfl,hv3,ok,hF,⟨⟨ex _ _ hf,ex _ _ hc',hcaps⟩,hrows3,hlu3,hau3⟩,λH H' e h=>⟨h.1.ext e,h.2.1.ext e,e _ _ h.2.2.1,h.2.2.2.ext e⟩,λl ps H4 e4 hl hl4 hps=>?_⟩;obtain⟨a1,a2,a3,a4⟩:=held hn3 e4;refine⟨a1,q l _ ((e02.et.trans e3).trans a2.et) (t3.ext a2) ⟨ps,jW us M,a4 _ _ hl4 (λf z=>by cases z),cj (λa x h=>a4 _ _ h (λf z=>by cases z)) hps,λi j hi hj=>?_⟩⟩;unfold jW br;rw[List.any_map,FT];constructor
  ·rintro⟨x,hx,hm⟩;obtain⟨x1,x2⟩:=List.mem_filter.mp hx;have x2:=of_decide_eq_true x2;obtain⟨y1,y2⟩:=hin x x1;exact⟨x,y1,y2,by omega,(km _ _ (g8 ok.ok y1).2 hj).mp hm⟩
  ·rintro⟨x,h1,h2,h3,h4⟩;have r0:=(ok.ok x h1).r0;refine⟨x,List.mem_filter.mpr ⟨by rw[hus];exact List.mem_filter.mpr ⟨h1,Ga h2⟩,Ga (by omega)⟩,?_⟩;exact(km _ _ (g8 ok.ok h1).2 hj).mpr h4
def dh(us:List Way)(x:Bfs.Pl):List Bfs.Pl:=(us.filter λw=>cB w x.1 x.2).map λw=>(w.other,x.2+rz w.deed)
def wC(K:Fb):Sp:=λvs H Q _=>∃l bs us p x,vs=[.ref l,.ref p]/\H l=some (.lst (List.map V.ref bs))/\aU H bs us/\(∀w∈us,b9 w.deed)/\us.length<=100/\aw H p x/\∀l' ps H',Ext H H'->H l'=none->H' l'=some (.lst (List.map V.ref ps))->Paired (aw H') ps (dh us x)->Q (.ref l') H'
abbrev lG:Stmt:=stq 36
def xq:FnScope ["ways","place"] ["ways","place"] (aH lG):=⟨rfl,rfl,rfl,by decide +kernel,rfl,by decide +kernel,by decide +kernel⟩
def Aa{P:Program}{w:World}{K:Fb}{mg:Str->Option Value}{base:Heap}(D:Dfn K mg "led_to_from" lG ["ways","place"])(T:Blt mg)(C_is_open:Cal P w K mg base "is_open" 1 ["way","place"] (j9 K))(C_led_to:Cal P w K mg base "led_to" 2 ["way","place"] (j8 K)):Cal P w K mg base "led_to_from" 3 ["ways","place"] (wC K):=by
 have nd:=(xq).nd;refine D.ok xq (λvs H Q E h=>?_) (λX hX H vs Q E h=>?_)
 ·obtain⟨l,bs,us,p,x,rfl,_⟩:=h;rfl
 ·obtain⟨f,cdv,A,outer,s,H0,E0,rfl,hr⟩:=hX;obtain⟨l,bs,us,p,x,rfl,hl,hal,hdd,hul,hpx,q⟩:=h;have hbl:=hal.1;refine⟨_,(@av _ _ _ (@aF _ _ _ _ (de ["way"] [1] (bW K (pv 0)) (λ_=>(aM (i:=0) (show(["way","place"]:List Str).Nodup from by decide +kernel) rfl (Or.inl rfl) (Or.inr rfl))) (λ_=>(eF (bB (aB C_is_open hr (@aa _ _ _ _ _ (pv 0) (@aa _ _ _ _ _ (pv 1) af rfl) rfl))))) (λ_=>(aB C_led_to hr (@aa _ _ _ _ _ (pv 0) (@aa _ _ _ _ _ (pv 1) af rfl) rfl)))))),?_⟩;walk_at"";refine bZ (ag.of hl) ?_;refine fD (xs:=List.map V.ref bs) (λi ys H'=>Ext H H'/\∃ps,ys=List.map V.ref ps/\Paired (aw H') ps (dh (us.take i) x)) (bL (by rw[Ff];omega)) ⟨Ext.rfl' _,[],rfl,.nil⟩ (λi ys H' _ h=>by obtain⟨e,ps,rfl,hps⟩:=h;refine⟨ag.of (e _ _ hl),?_⟩;rw[Ff,dM hps];unfold dh;rw[Ff];exact FP (List.length_filter_le _ _) (by rw[F5];omega)) ?_ ?_
  ·rintro i v ys H1 hx ⟨e1,ps,rfl,hps⟩;rw[Fh]at hx;obtain⟨b,hb,rfl⟩:=Fs.mp hx;have hi:i<us.length:=by rw[←hbl];exact(Fo.mp hb).1
   have gu:us[i]?=some us[i]:=Fg hi;have hb0:=e1 _ _ (hal.2 i b _ hb gu);generalize us[i]=u at gu hb0;have hpx1:aw H1 p x:=e1 _ _ hpx;walk_at"";refine⟨b,u,p,x,rfl,hb0,hpx1,?_⟩;have step:dh (us.take (i+1)) x=dh (us.take i) x++dh [u] x:=by unfold dh;rw[List.take_add_one,gu,List.filter_append,Fx];rfl
   cases ho:cB u x.1 x.2 with
   | false=>
    refine rd_exb (az ⟨e1,ps,rfl,?_⟩);rw[step];have:dh [u] x=[]:=by unfold dh;rw[List.filter_cons,Gb (by rw[ho];exact Fw)];rfl
    rw[this,List.append_nil];exact hps
   | true=>
    refine rd_exb (aG ?_);walk_at"";refine⟨b,u,p,x,rfl,hb0,hdd u (Fp gu),hpx1,λt H2 e2 ht _=>?_⟩;refine⟨e1.trans e2,ps++[t],?_,?_⟩
    ·rw[Fx];rfl
    ·rw[step];have:dh [u] x=[(u.other,x.2+rz u.deed)]:=by unfold dh;rw[List.filter_cons,Ge ho];rfl
     rw[this];exact iM (cj (λa x h=>e2 _ _ h) hps) ht
  ·rintro ys H1 p9 ⟨e1,ps,rfl,hps⟩ hp9;rw[Ff,hbl,FK]at hps;have e2:=bq (o:=.lst (List.map V.ref ps)) hp9;have h9:H p9=none:=by
    cases z:H p9 with
    | none=>rfl
    | some o=>rw[e1 _ _ z]at hp9;cases hp9
   exact q p9 ps _ (e1.trans e2) h9 aL (cj (λa x h=>e2 _ _ h) hps)
structure WT(H:Hp)(c:Addr)(n:Nat)(ls:List Addr)(ws:List Way):Prop where
 at_:H c=some (.lst (List.map V.ref ls))
 len:ls.length=n
 it:∀(r:Nat) (l:Addr),ls[r]?=some l->∃bs,H l=some (.lst (List.map V.ref bs))/\aU H bs (ws.filter λw=>decide (w.room=(r:Int)))
def WT.ext{H H':Hp}{c:Addr}{n:Nat}{ls:List Addr}{ws:List Way}(e:Ext H H')(h:WT H c n ls ws):WT H' c n ls ws:=
 ⟨e _ _ h.at_,h.len,λr l hl=>by obtain⟨bs,h1,h2⟩:=h.it r l hl;exact⟨bs,e _ _ h1,h2.ext e⟩⟩
def WT.et{H H':Hp}{c:Addr}{n:Nat}{ls:List Addr}{ws:List Way}(e:Et H H')(h:WT H c n ls ws):WT H' c n ls ws:=
 ⟨e _ _ h.at_ (λps z=>by cases z),h.len,λr l hl=>by obtain⟨bs,h1,h2⟩:=h.it r l hl;exact⟨bs,e _ _ h1 (λps z=>by cases z),h2.et e⟩⟩
def zw{ws:List Way}{i:Nat}{w:Way}(h:ws[i]?=some w)(p:Way->Bool):(ws.take (i+1)).filter p=(ws.take i).filter p++if p w then[w]else[]:=by rw[List.take_add_one,h,List.filter_append];congr 1;show List.filter p [w]=_;rw[List.filter_cons];rfl
def sY(K:Fb):Sp:=λvs H Q _=>∃v m ws,vs=[v]/\bj H v m ws/\HOuse m ws/\∀c ls H',Ext H H'->WT H' c m.toNat ls ws->Q (.ref c) H'
abbrev oj:Stmt:=stq 47
def xP:FnScope ["house","ways","way"] ["house"] (aH oj):=⟨rfl,rfl,rfl,by decide +kernel,rfl,by decide +kernel,by decide +kernel⟩
def AG{P:Program}{w:World}{K:Fb}{mg:Str->Option Value}{base:Heap}(D:Dfn K mg "ways_by_room" oj ["house"])(T:Blt mg):Cal P w K mg base "ways_by_room" 1 ["house"] (sY K):=by
 have nd:=(xP).nd;refine D.ok xP (λvs H Q E h=>?_) (λX hX H vs Q E h=>?_)
 ·obtain⟨v,m,ws,rfl,_⟩:=h;rfl
 ·obtain⟨f,cdv,A,outer,s,H0,E0,rfl,hr⟩:=hX;obtain⟨v,m,ws,rfl,hv,ok,q⟩:=h;obtain⟨hp0,hq0,rfl,hh,hw⟩:=id hv;obtain⟨bs,hq,hal⟩:=bU.al hw;have hbl:=hal.1;have few:=ok.few;have m1:=ok.m1;have m12:=ok.m12;refine⟨_,(@aq _ _ _ _ _ (fV (i:=1) ["room"] [] nd rfl (Or.inl rfl) (cW rfl T.range_ (@aa _ _ _ _ _ (@ao _ _ _ _ _ _ _ (ay K) (pv 0) ae (λ_ _=>rfl)) af rfl)) (λ_=>(aM (i:=0) (show(["room"]:List Str).Nodup from by decide +kernel) rfl (Or.inl rfl) (Or.inr rfl))) (λ_=>dR) (λ_=>(@bx _ _ _ _ af)))
    (@aq _ _ _ _ _ (bM PassesOwn.never rfl (iE K (@ao _ _ _ _ _ _ _ (ay K) (pv 0) ae (λ_ _=>rfl))) (aM (i:=2) nd rfl (Or.inl rfl)) (@av _ _ _ (bp (bF K Fn FC FD bN (@ao _ _ _ _ _ _ _ (aJ K) (pv 1) (@ao _ _ _ _ _ _ _ (ay K) (pv 2) ae (λ_ _=>rfl)) (λ_ _=>rfl)) (@aa _ _ _ _ _ (pv 2) af rfl)))))
    (@av _ _ _ (@aF _ _ _ _ (pv 1))))),?_⟩
  walk_at"";refine ax (ah.of hh) (v:=.int m) rfl ?_;walk_at"";refine cR (by omega) ?_;refine fP (λi ys H'=>Ext H H'/\∃ls:List Addr,ys=List.map V.ref ls/\ls.length=i/\ls.Nodup/\∀l∈ls,H' l=some (.lst [])/\H l=none) (bL (by omega)) ⟨Ext.rfl' _,[],rfl,rfl,List.nodup_nil,λl h=>(nomatch h)⟩ (λi ys H' _ h=>by obtain⟨_,ls,rfl,h,_⟩:=h;rw[Ff,h];exact FA _) ?_ ?_
  ·rintro i ys H' hi ⟨e,ls,rfl,hl,hnd,hls⟩;walk_at"";refine aG ?_;walk_at"";refine aO λl H1 e1 hl1 hln=>?_;refine⟨e.trans e1,ls++[l],by rw[Fx];rfl,by rw[Fy,hl];rfl,?_,?_⟩
   ·rw[List.nodup_append];refine⟨hnd,by simp,λa ha b hb z=>?_⟩;have hbl:b=l:=by simpa using hb
    subst hbl;subst z;rw[(hls a ha).1]at hln;cases hln
   ·intro a ha;rcases FE.mp ha with z|z
    ·exact⟨e1 _ _ (hls a z).1,(hls a z).2⟩
    ·have hal:a=l:=by simpa using z
     subst hal;refine⟨hl1,?_⟩;cases y:H a with
     | none=>rfl
     | some o=>rw[e _ _ y]at hln;cases hln
  ·rintro ys H1 c ⟨e,ls,rfl,hl,hnd,hls⟩ hc;have eN:Ext H (upd H1 c (.lst (List.map V.ref ls))):=e.trans (bq hc);have hcH:H c=none:=by
    cases y:H c with
    | none=>rfl
    | some o=>rw[e _ _ y]at hc;cases hc
   have ncl:c∉ls:=λz=>by rw[(hls c z).1]at hc;cases hc
   have hcl:∀l∈ls,H l=none:=λl h=>(hls l h).2;have hit:∀(r:Nat) (l:Addr),ls[r]?=some l->∃bs,(upd H1 c (.lst (List.map V.ref ls))) l=some (.lst (List.map V.ref bs))/\aU (upd H1 c (.lst (List.map V.ref ls))) bs ((ws.take 0).filter λw=>decide (w.room=(r:Int))):=λr l hr=>⟨[],(bq hc) _ _ (hls l (Fp hr)).1,aU.nil _⟩;have hcc:(upd H1 c (.lst (List.map V.ref ls))) c=_:=aL;generalize upd H1 c (.lst (List.map V.ref ls))=H2 at eN hit hcc ⊢;clear hls hc e H1;walk_at"";refine ax (ah.of (eN _ _ hh)) (v:=.ref hq0) rfl ?_;walk_at"";refine iu (ah.of (eN _ _ hq)) ?_;refine yn (xs:=bs.map V.ref) (λi σ H'=>∃k1,σ=[some (.ref hp0),some (.ref c),k1]/\Ext H H'/\H' c=some (.lst (List.map V.ref ls))/\∀(r:Nat) (l:Addr),ls[r]?=some l->∃bs,H' l=some (.lst (List.map V.ref bs))/\aU H' bs ((ws.take i).filter λw=>decide (w.room=(r:Int)))) ⟨none,rfl,eN,hcc,hit⟩ (λi σ H' _ h=>by obtain⟨_,_,e,_⟩:=h;exact ah.of (e _ _ hq)) ?_ ?_
   ·rintro i u σ H3 hu ⟨k1,rfl,e3,hc3,hit3⟩;rw[Fh]at hu;obtain⟨b,hb,rfl⟩:=Fs.mp hu;have hi:i<ws.length:=by rw[←hbl];exact(Fo.mp hb).1
    have hwi:ws[i]?=some ws[i]:=Fg hi;have hbw:=e3 _ _ (hal.2 i b _ hb hwi);generalize ws[i]=w0 at hwi hbw;have okw:=ok.ok w0 (Fp hwi);have r0:=okw.r0;have r1:=okw.r1;have hlr:w0.room.toNat<ls.length:=by rw[hl];omega
    have hlg:ls[w0.room.toNat]?=some ls[w0.room.toNat]:=Fg hlr;generalize ls[w0.room.toNat]=l at hlg;have hlm:=Fp hlg;obtain⟨cs,hl3,hcs⟩:=hit3 _ _ hlg;have hcsl:cs.length<=100:=by rw[hcs.1];exact FP (List.length_filter_le _ _) (by rw[F5];omega)
    have ncl':c≠l:=λz=>ncl (z ▸ hlm);walk_at"";refine ax (ah.of hbw) (v:=.int w0.room) rfl ?_;walk_at"";refine aK (ag.of hc3) (v:=.ref l) (eR r0 (by rw[Fh,hlg];rfl)) ?_;refine⟨cN (ag.of hl3),?_⟩;walk_at"";refine bK hl3 (by rw[Ff];exact Nat.lt_of_le_of_lt hcsl (by decide)) ?_;walk_at"";refine⟨_,rfl,cb e3 (hcl l hlm),by rw[aC ncl'];exact hc3,λr l' hr=>?_⟩;rw[zw hwi];by_cases hll:l'=l
    ·subst hll;have hrr:r=w0.room.toNat:=(List.getElem?_inj (Fo.mp hr).1 hnd).mp (by rw[hr,hlg]);subst hrr;refine⟨cs++[b],?_,?_⟩
     ·rw[aL,Fx];rfl
     ·rw[Ge (Ga (by omega))];have put:aU (upd H3 l' (.lst (List.map V.ref cs++[.ref b]))) cs ((ws.take i).filter λw=>decide (w.room=((w0.room.toNat:Nat):Int))):=hcs.put hl3;exact put.snoc (by rw[aC (cF hbw hl3 (λz=>by cases z))];exact hbw)
    ·obtain⟨ds,h1,h2⟩:=hit3 r l' hr;have hrr:¬(w0.room=(r:Int)):=λz=>hll (by
      have:w0.room.toNat=r:=by omega
      rw[this,hr]at hlg;exact FX hlg)
     rw[Gb (by simpa using hrr),List.append_nil];exact⟨ds,by rw[aC hll];exact h1,h2.put hl3⟩
   ·rintro σ H3 ⟨k1,rfl,e3,hc3,hit3⟩;rw[Ff,hbl,FK]at hit3;walk_at"";exact q c ls H3 e3 ⟨hc3,hl,hit3⟩
def LB(ws:List Way)(n:Nat)(top:Int)(x y:Bfs.Pl):Prop:=(∃w∈ws,cB w x.1 x.2=true/\y=(w.other,x.2+rz w.deed)/\y.2<=top)\/(top<=x.2/\∃i j:Nat,Kpt ws n i j/\x.1=(i:Int)/\y=((j:Int),top))
def gg{w:Way}{r n:Int}(h:cB w r n=true):w.room=r:=by unfold cB at h;rw[FV]at h;exact of_decide_eq_true h.1
def sQ(K:Fb):Sp:=λvs H Q _=>∃c kl top p m ws ls x,vs=[.ref c,.ref kl,.int top,.ref p]/\WT H c m.toNat ls ws/\eV H kl m.toNat (Kpt ws m.toNat)/\HOuse m ws/\aw H p x/\0<=x.1/\x.1<m ∧
 ∀l ps ys H',Ext H H'->H l=none->H' l=some (.lst (List.map V.ref ps))->Paired (aw H') ps ys->(∀y,y∈ys↔LB ws m.toNat top x y)->ys.length<=300->Q (.ref l) H'
abbrev nK:Stmt:=stq 49
def wR:FnScope ["ways","keeps","top","here","low"] ["ways","keeps","top","here"] (aH nK):=⟨rfl,rfl,rfl,by decide +kernel,rfl,by decide +kernel,by decide +kernel⟩
def zQ{P:Program}{w:World}{K:Fb}{mg:Str->Option Value}{base:Heap}(D:Dfn K mg "low_beside" nK ["ways","keeps","top","here"])(T:Blt mg)(C_led_to_from:Cal P w K mg base "led_to_from" 3 ["ways","place"] (wC K)):Cal P w K mg base "low_beside" 4 ["ways","keeps","top","here"] (sQ K):=by
 have nd:=(wR).nd;refine D.ok wR (λvs H Q E h=>?_) (λX hX H vs Q E h=>?_)
 ·obtain⟨c,kl,top,p,m,ws,ls,x,rfl,_⟩:=h;rfl
 ·obtain⟨f,cdv,A,outer,s,H0,E0,rfl,hr⟩:=hX;obtain⟨c,kl,top,p,m,ws,ls,x,rfl,wt,prs,ok,hpx,x0,x1,q⟩:=h;have m1:=ok.m1;have m12:=ok.m12;have few:=ok.few;have hlr:x.1.toNat<ls.length:=by rw[wt.len];omega
  have hlg:ls[x.1.toNat]?=some ls[x.1.toNat]:=Fg hlr;generalize ls[x.1.toNat]=l0 at hlg;obtain⟨bs,hl0,hal⟩:=wt.it _ _ hlg;have hx1:((x.1.toNat:Nat):Int)=x.1:=by omega
  rw[hx1]at hal;have husl:(ws.filter λw=>decide (w.room=x.1)).length<=100:=FP (List.length_filter_le _ _) few;obtain⟨kps,g,hkl,hkp,hkg⟩:=prs;have hkpl:=dM hkp;have hkpn:=oZ (n:=m.toNat) (g:=g) m.toNat;have hkpm:m.toNat*m.toNat<=12*12:=Nat.mul_le_mul (by omega) (by omega);refine⟨_,(@aq _ _ _ _ _ (fV (i:=4) ["there"] [2] nd rfl (Or.inl rfl) (bW K (aB C_led_to_from hr (@aa _ _ _ _ _ (@ao _ _ _ _ _ _ _ (aJ K) (pv 0) (@ao _ _ _ _ _ _ _ (ay K) (pv 3) ae (λ_ _=>rfl)) (λ_ _=>rfl)) (@aa _ _ _ _ _ (pv 3) af rfl) rfl))) (λ_=>(aM (i:=0) (show(["there","top"]:List Str).Nodup from by decide +kernel) rfl (Or.inl rfl) (Or.inr rfl))) (λ_=>(eF (aQ f7 (@ao _ _ _ _ _ _ _ (ay K) (pv 0) ae (λ_ _=>rfl)) (pv 1) (aN _)))) (λ_=>(pv 0)))
    (@aq _ _ _ _ _ (@bo _ _ _ _ _ _ _ _ (aQ cZ (@ao _ _ _ _ _ _ _ (ay K) (pv 3) ae (λ_ _=>rfl)) (pv 2) (aN _)) (@av _ _ _ (@aF _ _ _ _ (pv 4))) aV)
    (@av _ _ _ (@aF _ _ _ _ (aA kE (pv 4) (de ["p","q"] [2,3] (bW K (pv 1)) (λ_=>(dY (n:=2) K rfl (bE (aM (i:=0) (show(["p","q","top","here"]:List Str).Nodup from by decide +kernel) rfl (Or.inl rfl) (Or.inr rfl)) (bE (aM (i:=1) (show(["p","q","top","here"]:List Str).Nodup from by decide +kernel) rfl (Or.inl rfl) (Or.inr rfl)) dI)))) (λ_=>(eF (aQ bJ (pv 0) (@ao _ _ _ _ _ _ _ (ay K) (pv 3) ae (λ_ _=>rfl)) (aN _)))) (λ_=>(@bz _ _ _ _ _ (@aa _ _ _ _ _ (pv 1) (@aa _ _ _ _ _ (pv 2) af rfl) rfl))))))))),?_⟩
  walk_at"";refine ax (ah.of hpx) (v:=.int x.1) rfl ?_;walk_at"";refine aK (ag.of wt.at_) (v:=.ref l0) (eR x0 (by rw[Fh,hlg];rfl)) ?_;walk_at"";refine⟨l0,bs,_,p,x,rfl,hl0,hal,λw hw=>(ok.ok w (List.mem_filter.mp hw).1).dd,husl,hpx,λl1 ps1 H1 e1 hn1 hl1 hps1=>?_⟩;have hp1l:=dM hps1;have hledl:(dh (ws.filter λw=>decide (w.room=x.1)) x).length<=100:=by unfold dh;rw[Ff];exact FP (List.length_filter_le _ _) husl
  have hled:∀y,y∈dh (ws.filter λw=>decide (w.room=x.1)) x↔∃w∈ws,cB w x.1 x.2=true/\y=(w.other,x.2+rz w.deed):=λy=>by
   unfold dh;constructor
   ·intro h;obtain⟨w,hw,rfl⟩:=List.mem_map.mp h;obtain⟨h1,h2⟩:=List.mem_filter.mp hw;exact⟨w,(List.mem_filter.mp h1).1,h2,rfl⟩
   ·rintro⟨w,hw,ho,rfl⟩;exact List.mem_map.mpr ⟨w,List.mem_filter.mpr ⟨List.mem_filter.mpr ⟨hw,Ga (gg ho)⟩,ho⟩,rfl⟩
  generalize dh (ws.filter λw=>decide (w.room=x.1)) x=zs at hps1 hp1l hledl hled;walk_at"";refine bZ (ag.of hl1) ?_;refine fD (xs:=List.map V.ref ps1) (λi ys H'=>H'=H1/\∃cs,ys=List.map V.ref cs/\Paired (aw H1) cs ((zs.take i).filter λy=>decide (y.2<=top))) (bL (by rw[Ff];omega)) ⟨rfl,[],rfl,.nil⟩ (λi ys H' _ h=>by obtain⟨rfl,cs,rfl,hcs⟩:=h;refine⟨ag.of hl1,?_⟩;rw[Ff,dM hcs];exact FP (List.length_filter_le _ _) (by rw[F5];omega)) ?_ ?_
  ·rintro i v ys H2 hx ⟨rfl,cs,rfl,hcs⟩;rw[Fh]at hx;obtain⟨b,hb,rfl⟩:=Fs.mp hx;obtain⟨y,hy,hby⟩:=fb hps1 hb;walk_at"";refine ax (ah.of hby) (v:=.int y.2) rfl ?_;walk_at"";have step:(zs.take (i+1)).filter (λy=>decide (y.2<=top))=(zs.take i).filter (λy=>decide (y.2<=top))++if decide (y.2<=top)then[y]else[]:=by rw[List.take_add_one,hy,List.filter_append];congr 1;show List.filter _ [y]=_;rw[List.filter_cons];rfl
   cases hc:decide (y.2<=top)with
   | true=>
    refine aG ?_;walk_at"";refine⟨rfl,cs++[b],?_,?_⟩
    ·rw[Fx];rfl
    ·rw[step,hc];exact iM hcs hby
   | false=>
    refine az ⟨rfl,cs,rfl,?_⟩;rw[step,hc];simpa using hcs
  ·rintro ys H2 p9 ⟨hH,cs,rfl,hcs⟩ hp9;subst hH;rw[Ff,hp1l,FK]at hcs;have e2:=bq (o:=.lst (List.map V.ref cs)) hp9;have h9:(upd H2 p9 (.lst (List.map V.ref cs))) p9=_:=aL;have hcs2:=cj (λa x h=>e2 _ _ h) hcs;have hfn:H p9=none:=by
    cases z:H p9 with
    | none=>rfl
    | some o=>rw[e1 _ _ z]at hp9;cases hp9
   have e02:=e1.trans e2;generalize upd H2 p9 (.lst (List.map V.ref cs))=H3 at e2 h9 hcs2 e02 ⊢;have hcl:=dM hcs;have hfl:=List.length_filter_le (λy:Bfs.Pl=>decide (y.2<=top)) zs;have first:∀y,y∈zs.filter (λy=>decide (y.2<=top))↔∃w∈ws,cB w x.1 x.2=true/\y=(w.other,x.2+rz w.deed)/\y.2<=top:=λy=>by
    rw[List.mem_filter,hled];constructor
    ·rintro⟨⟨w,h1,h2,h3⟩,h4⟩;exact⟨w,h1,h2,h3,of_decide_eq_true h4⟩
    ·rintro⟨w,h1,h2,h3,h4⟩;exact⟨⟨w,h1,h2,h3⟩,Ga h4⟩
   walk_at"";refine ax (ah.of (e02 _ _ hpx)) (v:=.int x.2) rfl ?_;walk_at"";cases hc:decide (x.2<top)with
   | true=>
    have hc':=of_decide_eq_true hc;refine aG ?_;walk_at"";refine q p9 cs _ H3 e02 hfn h9 hcs2 (λy=>?_) (by omega);rw[first];constructor
    ·exact λh=>.inl h
    ·rintro(h|⟨h,_⟩)
     ·exact h
     ·omega
   | false=>
    have hc':=of_decide_eq_false hc;refine az ?_;walk_at"";have hkl3:=e02 _ _ hkl;have hkp3:=cj (λa x h=>e02 _ _ h) hkp;refine bZ (ag.of hkl3) ?_;refine fD (xs:=List.map V.ref kps) (λi ys H'=>Ext H3 H'/\∃ds,ys=List.map V.ref ds/\Paired (aw H') ds ((((dg m.toNat g m.toNat).take i).filter λz=>decide (z.1=x.1)).map λz=>(z.2,top))) (bL (by rw[Ff];omega)) ⟨Ext.rfl' _,[],rfl,.nil⟩ (λi ys H' _ h=>by obtain⟨e,ds,rfl,hds⟩:=h;refine⟨ag.of (e _ _ hkl3),?_⟩;rw[Ff,dM hds,Ff];exact FP (List.length_filter_le _ _) (by rw[F5];omega)) ?_ ?_
    ·rintro i v ys H4 hx ⟨e4,ds,rfl,hds⟩;rw[Fh]at hx;obtain⟨b,hb,rfl⟩:=Fs.mp hx;obtain⟨z,hz,hbz⟩:=fb hkp3 hb;have hbz4:aw H4 b z:=e4 _ _ hbz;refine dU (ah.of hbz4) rfl ?_;walk_at"";refine ax (ah.of ((e02.trans e4) _ _ hpx)) (v:=.int x.1) rfl ?_;walk_at"";have step:(((dg m.toNat g m.toNat).take (i+1)).filter (λz=>decide (z.1=x.1))).map (λz=>(z.2,top))=(((dg m.toNat g m.toNat).take i).filter (λz=>decide (z.1=x.1))).map (λz=>(z.2,top))++if decide (z.1=x.1)then[(z.2,top)]else[]:=by rw[List.take_add_one,hz,List.filter_append,Fx];congr 1;show List.map _ (List.filter _ [z])=_;rw[List.filter_cons];split<;>rfl
     cases hc2:decide (z.1=x.1)with
     | true=>
      refine aG ?_;walk_at"";refine aO λt H5 e5 ht _=>?_;refine⟨e4.trans e5,ds++[t],?_,?_⟩
      ·rw[Fx];rfl
      ·rw[step,hc2];exact iM (cj (λa x h=>e5 _ _ h) hds) ht
     | false=>
      refine az ⟨e4,ds,rfl,?_⟩;rw[step,hc2];simpa using hds
    ·rintro ys H4 p8 ⟨e4,ds,rfl,hds⟩ hp8;rw[Ff,hkpl,FK]at hds;have e5:=bq (o:=.lst (List.map V.ref ds)) hp8;have h8:(upd H4 p8 (.lst (List.map V.ref ds))) p8=_:=aL;have hds5:=cj (λa x h=>e5 _ _ h) hds;have e35:=e4.trans e5;generalize upd H4 p8 (.lst (List.map V.ref ds))=H5 at e5 h8 hds5 e35 ⊢;have hdl:=dM hds;rw[Ff]at hdl;have hfl2:=List.length_filter_le (λz:Bfs.Pl=>decide (z.1=x.1)) (dg m.toNat g m.toNat);walk_at"";refine jT (e35 _ _ h9) h8 (bL (by rw[Ff,Ff];omega)) (cn λl' H6 e6 hl' hn'=>?_);rw[←Fx]at hl';have e06:=(e02.trans e35).trans e6;have hn0:H l'=none:=by
      cases z:H l' with
      | none=>rfl
      | some o=>rw[(e02.trans e35) _ _ z]at hn';cases hn'
     refine q l' (cs++ds) _ H6 e06 hn0 hl' (vb (cj (λa x h=>(e35.trans e6) _ _ h) hcs2) (cj (λa x h=>e6 _ _ h) hds5)) (λy=>?_) (by rw[Fy,Ff];omega);rw[FE,first];constructor
     ·rintro(h|h)
      ·exact .inl h
      ·obtain⟨z,hz,rfl⟩:=List.mem_map.mp h;obtain⟨z1,z2⟩:=List.mem_filter.mp hz;obtain⟨i,j,hi,hj,hg,rfl⟩:=ib.mp z1;exact .inr ⟨by omega,i,j,(hkg i j hi hj).mp hg,(of_decide_eq_true z2).symm,rfl⟩
     ·rintro(h|⟨_,i,j,hk,hxi,rfl⟩)
      ·exact .inl h
      ·right;have hlt:=Kpt.lt ok.ok hk;exact List.mem_map.mpr ⟨((i:Int),(j:Int)),List.mem_filter.mpr ⟨ib.mpr ⟨i,j,hlt.1,hlt.2,(hkg i j hlt.1 hlt.2).mpr hk,rfl⟩,Ga hxi.symm⟩,rfl⟩
structure RR(H0 H:Hp)(f rw:Addr)(qs:List Bfs.Pl):Prop where
 ext:Ext H0 H
 fn:H0 f=none
 rn:H0 rw=none
 d:∃kvs,H f=some (.dT kvs)/\Paired (λ(kv:List Key×V) z=>kv.1=bw z) kvs qs
 r:∃as,H rw=some (.lst (List.map V.ref as))/\Paired (aw H) as qs
def RR.step{H0 H H1:Hp}{f rw:Addr}{qs:List Bfs.Pl}(h:RR H0 H f rw qs)(e:Ext H H1):RR H0 H1 f rw qs:=by obtain⟨h1,h2,h3,⟨kvs,h4,h5⟩,as,h6,h7⟩:=h;exact⟨h1.trans e,h2,h3,⟨kvs,e _ _ h4,h5⟩,as,e _ _ h6,cj (λa x h=>e _ _ h) h7⟩
def v8{kvs:List (List Key×V)}{qs:List Bfs.Pl}(h:Paired (λ(kv:List Key×V) z=>kv.1=bw z) kvs qs){x:Bfs.Pl}(hx:x∉qs):aZ kvs (bw x)=none:=
 jc (key:=λz=>z) (λ_ _ z=>z) h (by simpa using hx)
def CP{kvs:List (List Key×V)}{qs:List Bfs.Pl}(h:Paired (λ(kv:List Key×V) z=>kv.1=bw z) kvs qs)(nd:qs.Nodup){x:Bfs.Pl}(hx:x∈qs):∃v,aZ kvs (bw x)=some v:=by obtain⟨v,hv,_⟩:=ic (key:=λz=>z) (λ_ _ z=>z) h (by simpa using nd) hx;exact⟨v,hv⟩
def RR.push{H0 H:Hp}{f rw th:Addr}{qs:List Bfs.Pl}{y:Bfs.Pl}{v:V}(h:RR H0 H f rw qs)(hy:y∉qs)(hth:aw H th y):
  ∃kvs,H f=some (.dT kvs)/\kvs.length=qs.length/\∃as,upd H f (.dT (putK kvs (bw y) v)) rw=some (.lst (List.map V.ref as))/\as.length=qs.length ∧
   RR H0 (upd (upd H f (.dT (putK kvs (bw y) v))) rw (.lst (List.map V.ref as++[.ref th]))) f rw (qs++[y]):=by
 obtain⟨h1,h2,h3,⟨kvs,h4,h5⟩,as,h6,h7⟩:=h;have nf:∀xs,(HO.dT kvs)≠.tup xs:=λxs z=>by cases z
 have nr:∀xs,(HO.lst (List.map V.ref as))≠.tup xs:=λxs z=>by cases z
 have ne:rw≠f:=cF h6 h4 (by intro z;cases z);have h6':upd H f (.dT (putK kvs (bw y) v)) rw=some (.lst (List.map V.ref as)):=by rw[aC ne];exact h6
 refine⟨kvs,h4,Paired.length h5,as,h6',Paired.length h7,cb (cb h1 h2) h3,h2,h3,⟨kvs++[(bw y,v)],?_,?_⟩,as++[th],?_,?_⟩
 ·rw[aC ne.symm,aL,oR _ (v8 h5 hy)]
 ·exact Paired.snoc h5 rfl
 ·rw[aL,Fx];rfl
 ·exact iM (cj (λa x z=>aw.put h6' nr (aw.put h4 nf z)) h7) (aw.put h6' nr (aw.put h4 nf hth))
structure RQ(S:Bfs.Pl->Bfs.Pl->Prop)(m T:Int)(x:Bfs.Pl)(qs:List Bfs.Pl)(i:Nat):Prop where
 nd:qs.Nodup
 has:x∈qs
 wk:∀z∈qs,∃n,Bfs.Rw S n x z
 ins:∀z∈qs,bR m T z
 cl:∀j,j<i->∀y,qs[j]?=some y->∀z,S y z->z∈qs
def RQ.done{S:Bfs.Pl->Bfs.Pl->Prop}{m T:Int}{x:Bfs.Pl}{qs:List Bfs.Pl}{i:Nat}(h:RQ S m T x qs i)(hi:qs.length<=i):∀z,z∈qs↔∃n,Bfs.Rw S n x z:=λz=>by
 refine⟨h.wk z,λ⟨n,hn⟩=>?_⟩;have go:∀(n:Nat) (a b:Bfs.Pl),Bfs.Rw S n a b->a∈qs->b∈qs:=by
  intro n a b hr;induction hr with
  | nil=>exact λh=>h
  | snoc _ hs ih=>
   intro ha;obtain⟨j,hj⟩:=F3 (ih ha);have:=(Fo.mp hj).1;exact h.cl j (by omega) _ hj _ hs
 exact go n x z hn h.has
def vN(m T:Int)(S:Bfs.Pl->Bfs.Pl->Prop):List V->Hp->VK->Prop:=λvs H Q=>∃p y,vs=[.ref p]/\aw H p y/\bR m T y/\∀l ps ys H',Ext H H'->H l=none->H' l=some (.lst (List.map V.ref ps))->Paired (aw H') ps ys->(∀z,z∈ys↔S y z)->ys.length<=300->Q (.ref l) H'
def yp(P:Program)(w:World)(K:Fb)(mg:Str->Option Value)(base:Heap):Sp:=λvs H Q _=>∃pa f pre x m T S,vs=[.ref pa,.ref f]/\aw H pa x/\bR m T x/\m<=12/\T<=2000/\FunR P w K mg base 5 f pre (vN m T S)/\pre H/\(∀H H',Ext H H'->pre H->pre H')/\(∀y z,bR m T y->S y z->bR m T z) ∧
 ∀l as qs H',Ext H H'->H' l=some (.lst (List.map V.ref as))->Paired (aw H') as qs->(∀z∈qs,bR m T z)->qs.length<=24012->(∀z,z∈qs↔∃n,Bfs.Rw S n x z)->Q (.ref l) H'
abbrev pV:Stmt:=stq 48
def ve:FnScope ["place","beside","found","row","looked","here","there"] ["place","beside"] (aH pV):=⟨rfl,rfl,rfl,by decide +kernel,rfl,by decide +kernel,by decide +kernel⟩
def Cr{P:Program}{w:World}{K:Fb}{mg:Str->Option Value}{base:Heap}(D:Dfn K mg "reached" pV ["place","beside"])(T:Blt mg):Cal P w K mg base "reached" 6 ["place","beside"] (yp P w K mg base):=by
 have nd:=(ve).nd;refine D.ok ve (λvs H Q E h=>?_) (λX hX H vs Q E h=>?_)
 ·obtain⟨pa,f,pre,x,m,T,S,rfl,_⟩:=h;rfl
 ·obtain⟨f,cdv,A,outer,s,H0,E0,rfl,hr⟩:=hX;obtain⟨pa,ff,pre,x,m,TT,S,rfl,hx,ix,hm12,hT,hF,hpre,hmono,hSin,q⟩:=h;refine⟨_,(@aq _ _ _ _ _ (@aE _ _ 2 _ _ _ _ nd rfl (Or.inl rfl) (rh (dw hr) (pv 0) bO) rfl (Or.inl rfl))
    (@aq _ _ _ _ _ (@aE _ _ 3 _ _ _ _ nd rfl (Or.inl rfl) (@bx _ _ _ _ (@aa _ _ _ _ _ (pv 0) af rfl)) rfl (Or.inl rfl))
    (@aq _ _ _ _ _ (@aE _ _ 4 _ _ _ _ nd rfl (Or.inl rfl) ae rfl (Or.inl rfl))
    (@aq _ _ _ _ _ (gq PassesOwn.never (aQ cZ (pv 4) (aX (cQ K) rfl T.len_ PySem.boot_len (@aa _ _ _ _ _ (pv 3) af rfl)) (aN _)) (@aq _ _ _ _ _ (@aE _ _ 5 _ _ _ _ nd rfl (Or.inl rfl) (@ao _ _ _ _ _ _ _ (aJ K) (pv 3) (pv 4) (λ_ _=>rfl)) rfl (Or.inl rfl))
    (@aq _ _ _ _ _ (jt (i:=4) nd rfl (Or.inl rfl) ae jL)
    (@av _ _ _ (bM PassesOwn.never rfl (bW K (u7 (P:=P) (w:=w) (K:=K) (mg:=mg) (base:=base) hr (pv 1) (@aa _ _ _ _ _ (pv 5) af rfl))) (aM (i:=6) nd rfl (Or.inl rfl)) (@av _ _ _ (cU (jh (iO (dw hr) (pv 6) (pv 2)) (by with_unfolding_all rfl)) (@aq _ _ _ _ _ (kr (dw hr) (pv 2) (pv 6) bO rfl)
    (@av _ _ _ (bp (bF K Fn FC FD bN (pv 3) (@aa _ _ _ _ _ (pv 6) af rfl))))) aV)))))))
    (@av _ _ _ (@aF _ _ _ _ (pv 3))))))),?_⟩
  walk_at"";refine λf hfn=>?_;walk_at"";refine⟨pa,bw x,rfl,(bq hfn) _ _ hx,aL,?_⟩;walk_at"";refine aO λrw H3 e3 hrw hrn=>?_;walk_at"";have e13:Ext H (upd (upd H f (.dT [])) f (.dT [(bw x,.bl true)])):=λb o hb=>by rw[aC (cq hb hfn),aC (cq hb hfn)];exact hb
  have hrn1:H rw=none:=by
   cases z:H rw with
   | none=>rfl
   | some o=>rw[e13 _ _ z]at hrn;cases hrn
  have hf3:H3 f=some (.dT [(bw x,.bl true)]):=e3 _ _ aL;have rr0:RR H H3 f rw [x]:=⟨e13.trans e3,hfn,hrn1,⟨_,hf3,.cons rfl .nil⟩,[pa],hrw,.cons (e3 _ _ (e13 _ _ hx)) .nil⟩;have rq0:RQ S m TT x [x] 0:=⟨by simp,by simp,λz hz=>by rw[Fq.mp hz];exact⟨0,.nil⟩,λz hz=>by rw[Fq.mp hz];exact ix,λj hj=>absurd hj (Nat.not_lt_zero _)⟩;clear hf3 hrn1 e13 hrw hrn e3;refine fW (λM σ H'=>∃qs i k1 k2,RR H H' f rw qs/\RQ S m TT x qs i/\i<=qs.length/\M=24013-i/\σ=[some (.ref pa),some (.ref ff),some (.ref f),some (.ref rw),some (.int (i:Nat)),k1,k2]) (λσ H'=>∃qs i k0 k1 k2,RR H H' f rw qs/\RQ S m TT x qs i/\qs.length<=i/\qs.length<=24012/\σ=[some (.ref pa),some (.ref ff),some (.ref f),some (.ref rw),k0,k1,k2]) 24013 ⟨[x],0,_,_,rr0,rq0,by simp,by simp,rfl⟩ ?_ ?_
  ·rintro M σ H4 ⟨qs,i,k1,k2,rr,rq,hi,rfl,rfl⟩;have hqn:qs.length<=24012:=bR.few hm12 hT rq.nd rq.ins;obtain⟨as,hr4,pr⟩:=rr.r;have hal:=dM pr;walk_at"";refine eZ (ag.of hr4) ?_;walk_at"";by_cases hlt:i<qs.length
   rotate_left
   ·rw[F9 (show ¬((i:Nat):Int)<((List.map V.ref as).length:Nat) by rw[Ff,hal];omega)];refine az ?_;exact⟨qs,i,_,_,_,rr,rq,by omega,hqn,rfl⟩
   ·rw[Ga (show((i:Nat):Int)<((List.map V.ref as).length:Nat) by rw[Ff,hal];omega)];refine aG ?_;refine⟨λσ' H'=>∃qs' k1 k2,RR H H' f rw qs'/\RQ S m TT x qs' (i+1)/\i+1<=qs'.length/\qs'.length<=24012/\σ'=[some (.ref pa),some (.ref ff),some (.ref f),some (.ref rw),some (.int ((i+1:Nat):Int)),k1,k2],λσ' H' ⟨qs',k1,k2,a1,a2,a3,a4,a5⟩=>⟨24013-(i+1),by omega,qs',i+1,k1,k2,a1,a2,a3,rfl,a5⟩,?_⟩;have hqi:qs[i]?=some qs[i]:=Fg hlt;generalize qs[i]=y at hqi;obtain⟨b,hb,hby⟩:=oW pr hqi;have iy:=rq.ins y (Fp hqi);walk_at"";refine aK (ag.of hr4) (cP (v:=.ref b) (by rw[Fh,hb];rfl)) ?_;walk_at"";refine qE ?_;walk_at"";have hpre4:=hmono _ _ rr.ext hpre;refine⟨ff,pre,_,rfl,hF,hpre4,?_⟩;walk_at"";refine⟨hpre4,b,y,rfl,hby,iy,λl ps ys H5 e5 hln hl5 hps hys hyl=>?_⟩;have hpl:=dM hps;have rr5:=rr.step e5;obtain⟨kvs5,hd5,_⟩:=rr5.d;obtain⟨as5,hr5,_⟩:=rr5.r;have nlf:l≠f:=λz=>by obtain⟨kvs,hd,_⟩:=rr.d;rw[z,hd]at hln;cases hln
    have nlr:l≠rw:=λz=>by rw[z,hr4]at hln;cases hln
    refine bZ (ag.of hl5) ?_;refine forL (xs:=List.map V.ref ps) (λj σ H'=>∃qs' k2,RR H H' f rw qs'/\qs'.Nodup/\(∃new,qs'=qs++new)/\(∀z∈qs',(∃n,Bfs.Rw S n x z)/\bR m TT z)/\(∀a,a<j->∀z,ys[a]?=some z->z∈qs')/\(∀c o,c≠f->c≠rw->H5 c=some o->H' c=some o)/\σ=[some (.ref pa),some (.ref ff),some (.ref f),some (.ref rw),some (.int ((i+1:Nat):Int)),some (.ref b),k2]) ⟨qs,_,rr5,rq.nd,⟨[],by simp⟩,λz hz=>⟨rq.wk z hz,rq.ins z hz⟩,λa ha=>absurd ha (Nat.not_lt_zero _),λc o _ _ h=>h,rfl⟩ (λj σ H' _ h=>by obtain⟨_,_,_,_,_,_,_,kp,_⟩:=h;exact ag.of (kp _ _ nlf nlr hl5)) ?_ ?_
    ·rintro j v σ H6 hv ⟨qs6,k2,rr6,nd6,⟨new,hnew⟩,in6,cl6,kp6,rfl⟩;rw[Fh]at hv;obtain⟨th,hth,rfl⟩:=Fs.mp hv;obtain⟨z,hz,hthz5⟩:=fb hps hth;have nth:∀{c:Addr} {o:HO},H5 c=some o->(∀xs,o≠.tup xs)->th≠c:=λ{c o} hc hn=>cF hthz5 hc (λe=>hn _ e.symm);have hthz:aw H6 th z:=kp6 _ _ (nth hd5 (λxs e=>by cases e)) (nth hr5 (λxs e=>by cases e)) hthz5;have hSz:S y z:=(hys z).mp (Fp hz);have hq6:qs6.length<=24012:=bR.few hm12 hT nd6 λz hz=>(in6 z hz).2;obtain⟨kvs,hd,pk⟩:=rr6.d;walk_at"";refine cC ?_;walk_at"";refine⟨f,_,rfl,cx.t hd (k:=bw z) hthz,?_⟩;by_cases hin:z∈qs6
     ·obtain⟨v1,hv1⟩:=CP pk nd6 hin;rw[hv1];refine rd_exb (az ?_);walk_at"";refine⟨qs6,_,rr6,nd6,⟨new,hnew⟩,in6,λa ha z' hz'=>?_,kp6,rfl⟩;by_cases haj:a<j
      ·exact cl6 a haj z' hz'
      ·have:a=j:=by omega
       subst this;rw[hz]at hz';cases hz';exact hin
     ·rw[v8 pk hin];refine rd_exb (aG ?_);obtain⟨kvs,hd',hkl,as7,hr7,hal7,rr8⟩:=rr6.push (v:=.bl true) hin hthz;walk_at"";refine⟨f,_,rfl,eJ.t hd' (k:=bw z) hthz (dQ (by omega)),?_⟩;walk_at"";refine⟨cN (ag.of hr7),?_⟩;walk_at"";refine bK hr7 (dQ (by rw[Ff];omega)) ?_;walk_at"";obtain⟨n0,hn0⟩:=rq.wk y (Fp hqi);refine⟨qs6++[z],_,rr8,?_,⟨new++[z],by rw[hnew,List.append_assoc]⟩,λz' hz'=>?_,λa ha z' hz'=>?_,λc o nf nr hc=>?_,rfl⟩
      ·rw[List.nodup_append];refine⟨nd6,by simp,λa ha c hc e=>?_⟩;rw[Fq.mp hc]at e;exact hin (e ▸ ha)
      ·rcases FE.mp hz' with h|h
       ·exact in6 z' h
       ·rw[Fq.mp h];exact⟨⟨n0+1,.snoc hn0 hSz⟩,hSin y z iy hSz⟩
      ·by_cases haj:a<j
       ·exact FZ _ (cl6 a haj z' hz')
       ·have:a=j:=by omega
        subst this;rw[hz]at hz';cases hz';exact FY _ (by simp)
      ·rw[aC nr,aC nf];exact kp6 c o nf nr hc
    ·rintro σ H6 ⟨qs6,k2,rr6,nd6,⟨new,hnew⟩,in6,cl6,kp6,rfl⟩;rw[Ff,hpl]at cl6;have hq6:qs6.length<=24012:=bR.few hm12 hT nd6 λz hz=>(in6 z hz).2;have hle:qs.length<=qs6.length:=by rw[hnew,Fy];omega
     refine⟨qs6,_,_,rr6,⟨nd6,by rw[hnew];exact FZ _ rq.has,λz hz=>(in6 z hz).1,λz hz=>(in6 z hz).2,λj hj y' hy' z hz=>?_⟩,by omega,hq6,rfl⟩;have hjq:j<qs.length:=by omega
     have hy2:qs[j]?=some y':=by rw[hnew,FH hjq]at hy';exact hy'
     by_cases hji:j<i
     ·rw[hnew];exact FZ _ (rq.cl j hji y' hy2 z hz)
     ·have:j=i:=by omega
      subst this;rw[hqi]at hy2;cases hy2;obtain⟨a,ha⟩:=F3 ((hys z).mpr hz);exact cl6 a (Fo.mp ha).1 z ha
  ·rintro σ H4 ⟨qs,i,k0,k1,k2,rr,rq,hi,hqn,rfl⟩;obtain⟨as,hr4,pr⟩:=rr.r;walk_at"";exact q rw as qs H4 rr.ext hr4 pr rq.ins hqn (rq.done hi)
def Eu(H H':Hp):Prop:=∀b o,H b=some o->(∀f,o≠.ext f)->H' b=some o
def aU.eu{H H':Hp}{bs:List Addr}{ws:List Way}(e:Eu H H')(h:aU H bs ws):aU H' bs ws:=⟨h.1,λj b w e1 e2=>e _ _ (h.2 j b w e1 e2) (λf z=>by cases z)⟩
def aw.eu{H H':Hp}(e:Eu H H'){p:Addr}{x:Bfs.Pl}(h:aw H p x):aw H' p x:=e _ _ h (λf z=>by cases z)
structure TL(H H':Hp)(q:Addr)(rs:List Addr)(n:Nat)(M:Nat->Nat->Bool):Prop where
 keep:∀b o,b∉rs->H b=some o->H' b=some o
 nd:rs.Nodup
 nq:q∉rs
 rows:Rows H' q rs n M
def TL.mark{H H1:Hp}{q r:Addr}{rs:List Addr}{n i j:Nat}{M:Nat->Nat->Bool}(h:TL H H1 q rs n M)(hi:rs[i]?=some r)(hj:j<n):TL H (upd H1 r (.lst ((aT n (M i)).set j (.bl true)))) q rs n (put2 M i j):=by
 have hm:=Fp hi;have nqr:q≠r:=λz=>h.nq (z ▸ hm);refine⟨λb o nb e=>?_,h.nd,h.nq,?_,λa r' ha=>?_⟩
 ·have nbr:b≠r:=λz=>nb (by rw[z];exact hm);rw[aC nbr];exact h.keep b o nb e
 ·rw[aC nqr];exact h.rows.1
 ·by_cases hai:a=i
  ·subst hai;rw[hi]at ha;cases ha;rw[aL,mX _ _ hj];congr 2;refine eG λy _=>?_;unfold put2;by_cases hy:y=j
   ·rw[Ge hy,Ge ⟨rfl,hy⟩]
   ·rw[Gb hy,Gb λz=>hy z.2]
  ·have nr:r'≠r:=λz=>hai ((List.getElem?_inj (Fo.mp ha).1 h.nd).mp (by rw[ha,hi,z]));rw[aC nr,h.rows.2 a r' ha];congr 2;exact eG λy _=>by unfold put2;rw[Gb λz=>hai z.1]
def AO{m:Int}{ws:List Way}(ok:HOuse m ws){top:Int}{x y:Bfs.Pl}(h0:0<=top)(hx:bR m top x)(h:LB ws m.toNat top x y):bR m top y:=by
 have m1:=ok.m1;rcases h with⟨w,hw,ho,rfl,hle⟩|⟨_,i,j,hk,_,rfl⟩
 ·have okw:=ok.ok w hw;refine⟨okw.o0,okw.o1,?_,hle⟩;have hs:=(mP okw.dd x).mp ho;exact rS okw.dd hx.2.2.1 hs.2
 ·have:=Kpt.lt ok.ok hk;exact⟨by show(0:Int)<=(j:Int);omega,by show(j:Int)<m;omega,h0,Int.le_refl _⟩
def WT.eu{H H':Hp}{c:Addr}{n:Nat}{ls:List Addr}{ws:List Way}(e:Eu H H')(h:WT H c n ls ws):WT H' c n ls ws:=
 ⟨e _ _ h.at_ (λf z=>by cases z),h.len,λr l hl=>by obtain⟨bs,h1,h2⟩:=h.it r l hl;exact⟨bs,e _ _ h1 (λf z=>by cases z),h2.eu e⟩⟩
def eV.eu{H H':Hp}(e:Eu H H'){l:Addr}{n:Nat}{R:Nat->Nat->Prop}(h:eV H l n R):eV H' l n R:=by obtain⟨ps,g,h1,h2,h3⟩:=h;exact⟨ps,g,e _ _ h1 (λf z=>by cases z),cj (λa x h=>h.eu e) h2,h3⟩
def nR{K:Fb}{x q:Str}{line col:Nat}{H H':Hp}{rs:List Addr}(e:∀b o,b∉rs->H b=some o->H' b=some o)(hr:∀r∈rs,∃xs,H r=some (.lst xs))(h:cM K x q line col H):cM K x q line col H':=λc T ht=>by
 have no:∀b o,H b=some o->(∀xs,o≠.lst xs)->H' b=some o:=λb o hb nl=>e b o (λz=>by obtain⟨xs,hx⟩:=hr b z;rw[hx]at hb;cases hb;exact nl _ rfl) hb;rcases h c T ht with h|⟨c',h1,h2⟩
 ·exact .inl (no _ _ h (λxs z=>by cases z))
 ·exact .inr ⟨c',no _ _ h1 (λxs z=>by cases z),no _ _ h2 (λxs z=>by cases z)⟩
def Tbs.kp{K:Fb}{H H':Hp}{rs:List Addr}(e:∀b o,b∉rs->H b=some o->H' b=some o)(hr:∀r∈rs,∃xs,H r=some (.lst xs))(h:Tbs K H):Tbs K H':=⟨nR e hr h.kept,nR e hr h.low,nR e hr h.risen⟩
def mM(K:Fb):Sp:=λvs H Q _=>∃vh m ws pa x,vs=[vh,.ref pa]/\bj H vh m ws/\HOuse m ws/\aw H pa x/\cY m x/\fm K/\Tbs K H/\∀q rs M H',Et H H'->Tbs K H'->Rows H' q rs m.toNat M->(rs.length:Int)=x.2+1->(∀i r:Nat,(i:Int)<=x.2->(r:Int)<m->(M i r=true↔∃n,Bfs.Rw (LB ws m.toNat x.2) n x ((r:Int),(i:Int))))->Q (.ref q) H'
abbrev me:Stmt:=stq 50
def xp:FnScope ["house","place","ways","keeps","levels","room","number"] ["house","place"] (aH me):=⟨rfl,rfl,rfl,by decide +kernel,rfl,by decide +kernel,by decide +kernel⟩
def AR{P:Program}{w:World}{K:Fb}{mg:Str->Option Value}{base:Heap}(D:Dfn K mg "low_levels" me ["house","place"])(T:Blt mg){c9 T9:Addr}(B:Tab K mg base "low_levels" c9 T9)(C_reached:Cal P w K mg base "reached" 6 ["place","beside"] (yp P w K mg base))(C_kept:Cal P w K mg base "kept" 7 ["house"] (oM K))(C_ways_by_room:Cal P w K mg base "ways_by_room" 1 ["house"] (sY K))(C_low_beside:Cal P w K mg base "low_beside" 4 ["ways","keeps","top","here"] (sQ K)):Cal P w K mg base "low_levels" 8 ["house","place"] (mM K):=by
 have nd:=(xp).nd;refine D.okL B xp (λvs H Q E h=>?_) (λX hX H vs Q E h=>?_)
 ·obtain⟨vh,m,ws,pa,x,rfl,_⟩:=h;rfl
 ·obtain⟨f,A,outer,s,H0,E0,rfl,hr⟩:=hX;obtain⟨vh,m,ws,pa,x,rfl,hv,ok,hpx,ix,dis,htb,q⟩:=h;have m1:=ok.m1;have m12:=ok.m12;obtain⟨i0,i1,i2,i3⟩:=id ix;refine⟨_,(aq (aE (i:=2) nd rfl (Or.inr rfl) (aB C_ways_by_room hr (aa (pv 0) af)))
    (aq (aE (i:=3) nd rfl (Or.inr rfl) (aB C_kept hr (aa (pv 0) af)))
    (aq (fV (i:=4) ["number"] [0] nd rfl (Or.inl rfl) (cW rfl T.range_ (aa (aA aY (ao (ay K) (pv 1) ae (λ_ _=>rfl)) ae) af)) (λ_=>(aM (i:=0) (show(["number","house"]:List Str).Nodup from by decide +kernel) rfl (Or.inl rfl) (Or.inr rfl))) (λ_=>dR) (λ_=>(aA pf (bx (aa bO af)) (ao (ay K) (pv 1) ae (λ_ _=>rfl)))))
    (aq (bM PassesOwn.never rfl (bW K (o7 [2,3,1] C_reached hr (aa (pv 1) (aa (pR rfl rfl B.hd B.blt B.gl (by decide +kernel) rfl rfl rfl) af)))) (dY (n:=2) K rfl (bE (aM (i:=5) nd rfl (Or.inl rfl)) (bE (aM (i:=6) nd rfl (Or.inl rfl)) dI))) (av (gU bO (iP (ao (aJ K) (pv 4) (pv 6) (λ_ _=>rfl)) (pv 5) set_list))))
    (av (aF (pv 4))))))),?_⟩
  walk_at"";refine⟨vh,m,ws,rfl,hv,ok,λc ls H1 e1 wt=>?_⟩;walk_at"";refine⟨vh,m,ws,rfl,hv.ext e1,ok,dis,htb.ext e1,λkl H2 e2 tb2 prs=>?_⟩;have e02:=e1.et.trans e2;have wt2:=wt.et e2;have hv2:=hv.et e02;have hpx2:=hpx.et e02;obtain⟨hp0,hq0,hvr,hh2,_⟩:=id hv2;subst hvr;walk_at"";refine ax (ah.of hpx2) (v:=.int x.2) rfl ?_;walk_at"";refine cR (by omega) ?_;refine fP (λi ys H'=>Ext H2 H'/\∃rs:List Addr,ys=List.map V.ref rs/\rs.length=i/\rs.Nodup/\∀r∈rs,H' r=some (.lst (aT m.toNat λ_=>false))/\H2 r=none) (bL (by omega)) ⟨Ext.rfl' _,[],rfl,rfl,List.nodup_nil,λl h=>(nomatch h)⟩ (λi ys H' _ h=>by obtain⟨_,ls,rfl,h,_⟩:=h;rw[Ff,h];exact FA _) ?_ ?_
  ·rintro i ys H3 hi ⟨e3,rs,rfl,hl,hnd,hrs⟩;walk_at"";refine aG ?_;walk_at"";refine aO λz1 H4 e4 hz1 _=>?_;walk_at"";refine ax (ah.of ((e3.trans e4) _ _ hh2)) (v:=.int m) rfl ?_;refine lY hz1 (by omega) (bL (by simp;omega)) (cn λz2 H5 e5 hz2 hn5=>?_);rw[wG]at hz2;refine⟨(e3.trans e4).trans e5,rs++[z2],by rw[Fx];rfl,by rw[Fy,hl];rfl,?_,λr hr=>?_⟩
   ·rw[List.nodup_append];refine⟨hnd,by simp,λa ha b hb z=>?_⟩;rw[Fq.mp hb]at z;subst z;rw[e4 _ _ (hrs a ha).1]at hn5;cases hn5
   ·rcases FE.mp hr with h|h
    ·exact⟨(e4.trans e5) _ _ (hrs r h).1,(hrs r h).2⟩
    ·rw[Fq.mp h];refine⟨hz2,?_⟩;cases y:H2 z2 with
     | none=>rfl
     | some o=>rw[(e3.trans e4) _ _ y]at hn5;cases hn5
  ·rintro ys H3 lq ⟨e3,rs,rfl,hrl,hnd,hrs⟩ hlq;have e34:=bq (o:=.lst (List.map V.ref rs)) hlq;have hlq4:(upd H3 lq (.lst (List.map V.ref rs))) lq=_:=aL;have nql:lq∉rs:=λz=>by rw[(hrs lq z).1]at hlq;cases hlq
   have rows4:Rows (upd H3 lq (.lst (List.map V.ref rs))) lq rs m.toNat (λ_ _=>false):=⟨aL,λi r h=>e34 _ _ (hrs r (Fp h)).1⟩;have e24:=e3.trans e34;generalize upd H3 lq (.lst (List.map V.ref rs))=H4 at e34 hlq4 rows4 e24 ⊢;have e04:=e02.trans e24.et;have tb4:=tb2.ext e24;have wt4:=wt2.ext e24;have prs4:=prs.et e24.et;have hpx4:aw H4 pa x:=e24 _ _ hpx2;walk_at"";show iZ _ [2,3,1] _ (["house","place","ways","keeps","levels","room","number"]:List Str) _ _ _ _;generalize PySem.Env.cells _=cells0;refine oH ?_;walk_at"";refine ou ?_;refine lQ (x:="low_levels") tb4.low B.tin λfl c' cl H5 hcl e5 ht5 ot hf hc'=>?_;have t5:Tbs K H5:=⟨ot "kept" _ _ _ (λc2 T2 e2=>dis "low_levels" (by simp) "kept" (by simp) (by decide +kernel) _ _ _ _ B.tin e2) tb4.kept,ht5,ot "risen" _ _ _ (λc2 T2 e2=>dis "low_levels" (by simp) "risen" (by simp) (by decide +kernel) _ _ _ _ B.tin e2) tb4.risen⟩;walk_at"";refine⟨λj hj=>?_,λcp hlen hcp=>?_⟩
   ·simp only[Fv,FQ,or_false]at hj;rcases hj with rfl|rfl|rfl
    ·exact⟨_,rfl⟩
    ·exact⟨_,rfl⟩
    ·exact⟨_,rfl⟩
   obtain⟨⟨n1,d1,o1,v1⟩,⟨n2,d2,o2,v2⟩,⟨n3,d3,o3,v3⟩,rfl⟩:=Cm hlen;obtain⟨hN1,hcc1,hσ1,hno1,u1,hdat1,hrel1⟩:=hcp 0 2 _ rfl rfl;obtain⟨hN2,hcc2,hσ2,hno2,u2,hdat2,hrel2⟩:=hcp 1 3 _ rfl rfl;obtain⟨hN3,hcc3,hσ3,hno3,u3,hdat3,hrel3⟩:=hcp 2 1 _ rfl rfl;clear hcp hlen;dsimp only at hN1 hcc1 hσ1 hno1 hdat1 hrel1 hN2 hcc2 hσ2 hno2 hdat2 hrel2 hN3 hcc3 hσ3 hno3 hdat3 hrel3;have hN1':(FW "ways")=n1:=FX hN1;have hσ1':(V.ref c)=v1:=FX (FX hσ1);have hN2':(FW "keeps")=n2:=FX hN2;have hσ2':(V.ref kl)=v2:=FX (FX hσ2);have hN3':(FW "place")=n3:=FX hN3;have hσ3':(V.ref pa)=v3:=FX (FX hσ3);clear hN1 hσ1 hN2 hσ2 hN3 hσ3;subst hN1';subst hσ1';subst hN2';subst hσ2';subst hN3';subst hσ3';obtain⟨a1,ha1⟩:=hcl.has (FW "ways") rfl;obtain⟨a2,ha2⟩:=hcl.has (FW "keeps") rfl;obtain⟨a3,ha3⟩:=hcl.has (FW "place") rfl;have hb1:=(hcl.fr _ _ ha1).2;have hb2:=(hcl.fr _ _ ha2).2;have hb3:=(hcl.fr _ _ ha3).2;rw[hcc1]at hb1;rw[hcc2]at hb2;rw[hcc3]at hb3;cases hb1;cases hb2;cases hb3;have n12:d1≠d2:=λz=>absurd (hcl.inj _ _ _ ha1 (z ▸ ha2)) (by decide +kernel);have n13:d1≠d3:=λz=>absurd (hcl.inj _ _ _ ha1 (z ▸ ha3)) (by decide +kernel);have n23:d2≠d3:=λz=>absurd (hcl.inj _ _ _ ha2 (z ▸ ha3)) (by decide +kernel);obtain⟨cp,hcp⟩:∃cp:List Cap,cp=[⟨FW "ways",d1,o1,V.ref c⟩,⟨FW "keeps",d2,o2,V.ref kl⟩,⟨FW "place",d3,o3,V.ref pa⟩]:=⟨_,rfl⟩;have hn5:∀b o9,(cellsOf cp).lookup b=some o9->H5 b=none:=λb o9 hb=>by
    obtain⟨e,he,rfl,rfl⟩:=gr hb;rw[hcp]at he;simp only[Fv,FQ,or_false]at he;rcases he with rfl|rfl|rfl
    ·exact hno1
    ·exact hno2
    ·exact hno3
   have ex:=ke hn5;have hcaps:Caps (bP (cellsOf cp) H5) cl cp:=by
    refine⟨λe he=>?_,λy g hy=>?_⟩
    ·rw[hcp]at he ⊢;simp only[Fv,FQ,or_false]at he;rcases he with rfl|rfl|rfl
     ·exact⟨ha1,eW (by simp[cellsOf]),u1,hdat1,hrel1⟩
     ·refine⟨ha2,eW ?_,u2,hdat2,hrel2⟩;show List.lookup d2 ((d1,o1)::(d2,o2)::[(d3,o3)])=some o2;rw[F4,show (d2 == d1)=false from beq_eq_false_iff_ne.mpr (Ne.symm n12),F4,beq_self_eq_true]
     ·refine⟨ha3,eW ?_,u3,hdat3,hrel3⟩;show List.lookup d3 ((d1,o1)::(d2,o2)::[(d3,o3)])=some o3;rw[F4,show (d3 == d1)=false from beq_eq_false_iff_ne.mpr (Ne.symm n13),F4,show (d3 == d2)=false from beq_eq_false_iff_ne.mpr (Ne.symm n23),F4,beq_self_eq_true]
    ·have hm:=iz (hcl.fr y g hy).1;rw[hcp];simp at hm;rcases hm with rfl|rfl|rfl
     all_goals first|(rw[ha1]at hy;cases hy;exact⟨⟨FW "ways",d1,o1,V.ref c⟩,by simp,rfl,rfl⟩)|(rw[ha2]at hy;cases hy;exact⟨⟨FW "keeps",d2,o2,V.ref kl⟩,by simp,rfl,rfl⟩)|(rw[ha3]at hy;cases hy;exact⟨⟨FW "place",d3,o3,V.ref pa⟩,by simp,rfl,rfl⟩)
   have wt5:=(wt4.et e5).ext ex;have prs5:=(prs4.et e5).et ex.et;have hpx5:aw (bP (cellsOf cp) H5) pa x:=ex _ _ (hpx4.et e5);subst hcp;have hF:=
    m6 (P:=P) (w:=w) (K:=K) (mg:=mg) (base:=base) (k:=4) hf hcl (["here"]:List Str) [⟨FW "ways",d1,o1,V.ref c⟩,⟨FW "keeps",d2,o2,V.ref kl⟩,⟨FW "place",d3,o3,V.ref pa⟩] (vN m x.2 (LB ws m.toNat x.2)) (λH=>WT H c m.toNat ls ws/\eV H kl m.toNat (Kpt ws m.toNat)/\aw H pa x) ⟨rfl,rfl,rfl,by decide +kernel,by decide +kernel⟩ (λ_ _ _ us hl=>by obtain⟨u1,rfl⟩:=mZ hl;rfl) (λvs H Q h=>by obtain⟨p,y,rfl,_⟩:=h;rfl) (λA outer s H vs Q hrL hpre hI hR=>by
     obtain⟨p,y,rfl,hpy,iy,hQ⟩:=hR;have hlk:=hpre.2.2.look;obtain⟨hI1,hI2,hI3⟩:=hI;have eu:Eu H (bh (cellsOf [⟨FW "ways",d1,o1,V.ref c⟩,⟨FW "keeps",d2,o2,V.ref kl⟩,⟨FW "place",d3,o3,V.ref pa⟩]) H):=λb o hb nf=>gj hlk hb nf;have k1:=hI1.eu eu;have k2:=hI2.eu eu;have k3:=hI3.eu eu;have kp:=hpy.eu eu;refine⟨_,(aB C_low_beside hrL (aa (pv 1) (aa (pv 2) (aa (ao (ay K) (pv 3) ae (λ_ _=>rfl)) (aa (pv 0) af))))),?_⟩;have hb:∀H',Ext (bh (cellsOf [⟨FW "ways",d1,o1,V.ref c⟩,⟨FW "keeps",d2,o2,V.ref kl⟩,⟨FW "place",d3,o3,V.ref pa⟩]) H) H'->Ext H (bP (cellsOf [⟨FW "ways",d1,o1,V.ref c⟩,⟨FW "keeps",d2,o2,V.ref kl⟩,⟨FW "place",d3,o3,V.ref pa⟩]) H'):=λH' e=>si hlk e;have hu:∀l,(cellsOf [⟨FW "ways",d1,o1,V.ref c⟩,⟨FW "keeps",d2,o2,V.ref kl⟩,⟨FW "place",d3,o3,V.ref pa⟩]).lookup l=none->bh (cellsOf [⟨FW "ways",d1,o1,V.ref c⟩,⟨FW "keeps",d2,o2,V.ref kl⟩,⟨FW "place",d3,o3,V.ref pa⟩]) H l=H l:=λl hl=>cH hl;generalize bh (cellsOf [⟨FW "ways",d1,o1,V.ref c⟩,⟨FW "keeps",d2,o2,V.ref kl⟩,⟨FW "place",d3,o3,V.ref pa⟩]) H=HU at k1 k2 k3 kp hb hu ⊢;generalize cellsOf [⟨FW "ways",d1,o1,V.ref c⟩,⟨FW "keeps",d2,o2,V.ref kl⟩,⟨FW "place",d3,o3,V.ref pa⟩]=cs at hb hu ⊢;show ko _ _ _ _ [some (.ref p),some (.ref c),some (.ref kl),some (.ref pa)] _ _;walk_at"";refine ax (ah.of k3) (v:=.int x.2) rfl ?_;walk_at"";refine⟨c,kl,x.2,p,m,ws,ls,y,rfl,k1,k2,ok,kp,iy.1,iy.2.1,λl ps ys H' e hn hl hps hys hyl=>?_⟩;intro hnc;have nl:cs.lookup l=none:=by
      cases z:cs.lookup l with
      | none=>rfl
      | some o=>rw[hnc l o z]at hl;cases hl
     have et:=ke hnc;exact hQ l ps ys _ (hb H' e) (by rw[←hu l nl];exact hn) (et _ _ hl) (cj (λa x h=>et _ _ h) hps) hys hyl)
   refine⟨pa,fl,_,x,m,x.2,LB ws m.toNat x.2,rfl,hpx5,⟨i0,i1,i2,Int.le_refl _⟩,m12,by omega,hF,⟨⟨ex _ _ hf,ex _ _ hc',hcaps⟩,wt5,prs5,hpx5⟩,λH H' e h=>⟨h.1.ext e,h.2.1.ext e,h.2.2.1.et e.et,e _ _ h.2.2.2⟩,λy z hy hS=>AO ok i2 hy hS,λl as qs H6 e6 hl6 hps hin hqn hqs=>?_⟩;clear hF;obtain⟨b1,b2,b3,b4⟩:=held hn5 e6;refine⟨b1,?_⟩;have hl7:=b4 _ _ hl6 (λf z=>by cases z);have hps7:Paired (aw (bh _ H6)) as qs:=cj (λa x h=>b4 _ _ h (λf z=>by cases z)) hps;have rows7:=(rows4.et e5).ext b2;have e07:=(e04.trans e5).trans b2.et;have t7:=t5.ext b2;generalize bh _ H6=H7 at hl7 hps7 rows7 e07 t7 ⊢;have hal:=dM hps7;have fr0:∀r∈rs,∀o,H r=some o->(∀ps,o≠.tbl ps)->False:=λr hr o ho no=>by have:=e02 _ _ ho no;rw[(hrs r hr).2]at this;cases this
   clear hcaps hn5 ex wt5 prs5 hpx5 e6 hl6 hps b1 b2 b3 b4 hf hc' hcl ha1 ha2 ha3 hcc1 hcc2 hcc3 hno1 hno2 hno3 hrel1 hrel2 hrel3 hdat1 hdat2 hdat3 n12 n13 n23 ot;have tup1:∀(b:Addr) (z:Bfs.Pl),aw H7 b z->b∉rs:=λb z hb hr=>by obtain⟨j,hj⟩:=F3 hr;have h1:=rows7.2 j b hj;have h2:H7 b=some (.tup [.int z.1,.int z.2]):=hb;rw[h1]at h2;cases h2
   have nl:l∉rs:=λhr=>by
    obtain⟨j,hj⟩:=F3 hr;have h1:=rows7.2 j l hj;rw[hl7]at h1;have h2:List.map V.ref as=aT m.toNat λ_=>false:=by
     injection h1 with h1
     injection h1
    have h3:=congrArg (λz:List V=>z[0]?) h2
    try dsimp only at h3
    rw[fN _ (by omega),Fh]at h3;cases y:as[0]? with
    | none=>rw[y]at h3;cases h3
    | some a=>rw[y]at h3;cases h3
   refine bZ (ag.of hl7) ?_;refine forL (xs:=List.map V.ref as) (λj σ H'=>∃M k1 k2,TL H7 H' lq rs m.toNat M/\(∀i r:Nat,M i r=true↔(((r:Nat):Int),((i:Nat):Int))∈qs.take j)/\σ=[some (.ref hp0),some (.ref pa),some (.ref c),some (.ref kl),some (.ref lq),k1,k2]) ⟨_,_,_,⟨λ_ _ _ e=>e,hnd,nql,rows7⟩,λi r=>by simp,rfl⟩ (λj σ H' _ h=>by obtain⟨M,k1,k2,tl,_⟩:=h;exact ag.of (tl.keep _ _ nl hl7)) ?_ ?_
   ·rintro j v σ H8 hx ⟨M,k1,k2,tl,hM,rfl⟩;rw[Fh]at hx;obtain⟨b,hb,rfl⟩:=Fs.mp hx;obtain⟨z,hz,hbz⟩:=fb hps7 hb;obtain⟨z0,z1,z2,z3⟩:=hin z (Fp hz);have hbz8:aw H8 b z:=tl.keep _ _ (tup1 b z hbz) hbz;have hrx:z.2.toNat<rs.length:=by omega
    have hrg:rs[z.2.toNat]?=some rs[z.2.toNat]:=Fg hrx;generalize rs[z.2.toNat]=ar at hrg;have hrow:=tl.rows.2 _ _ hrg;refine dU (ah.of hbz8) rfl ?_;walk_at"";refine aK (ag.of tl.rows.1) (v:=.ref ar) (eR z2 (by rw[Fh,hrg];rfl)) ?_;walk_at"";refine ji hrow (i4 z0 (by rw[cV];omega)) ?_;refine⟨_,_,_,tl.mark hrg (by omega),λi r=>?_,rfl⟩;rw[List.take_add_one,hz,FE];unfold put2;split
    ·rename_i y;simp only[true_iff];right;simp;refine Prod.ext ?_ ?_
     ·show((r:Nat):Int)=z.1;omega
     ·show((i:Nat):Int)=z.2;omega
    ·rename_i y;rw[hM];constructor
     ·exact λh=>.inl h
     ·rintro(h|h)
      ·exact h
      ·have h':(((r:Nat):Int),((i:Nat):Int))=z:=by simpa using h
       refine absurd ⟨?_,?_⟩ y
       ·rw[←h'];show i=((i:Nat):Int).toNat;omega
       ·rw[←h'];show r=((r:Nat):Int).toNat;omega
   ·rintro σ H8 ⟨M,k1,k2,tl,hM,rfl⟩;rw[Ff,hal,FK]at hM;walk_at"";refine q lq rs M H8 (λb o hb no=>?_) (t7.kp tl.keep λr hr=>?_) tl.rows (by omega) λi r hi hr=>?_
    ·have h7:=e07 _ _ hb no;exact tl.keep b o (λhr=>fr0 b hr o hb no) h7
    ·obtain⟨j,hj⟩:=F3 hr;exact⟨_,rows7.2 j r hj⟩
    ·rw[hM];exact hqs _
def sO(K:Fb):Sp:=λvs H Q _=>∃rl lv n f R,vs=[.ref rl,.ref lv]/\eV H rl n R/\H lv=some (.lst (aT n f))/\n<=12/\∀l g H',Ext H H'->H l=none->H' l=some (.lst (aT n g))->(∀j,j<n->(g j=true↔∃i,i<n/\f i=true/\R i j))->Q (.ref l) H'
abbrev mQ:Stmt:=stq 51
def sy:FnScope ["rises","level","risen_to","p","q"] ["rises","level"] (aH mQ):=⟨rfl,rfl,rfl,by decide +kernel,rfl,by decide +kernel,by decide +kernel⟩
def Ba{P:Program}{w:World}{K:Fb}{mg:Str->Option Value}{base:Heap}(D:Dfn K mg "next_level" mQ ["rises","level"])(T:Blt mg):Cal P w K mg base "next_level" 1 ["rises","level"] (sO K):=by
 have nd:=(sy).nd;refine D.ok sy (λvs H Q E h=>?_) (λX hX H vs Q E h=>?_)
 ·obtain⟨rl,lv,n,f,R,rfl,_⟩:=h;rfl
 ·obtain⟨f,cdv,A,outer,s,H0,E0,rfl,hr⟩:=hX;obtain⟨rl,lv,n,f',R,rfl,prs,hlv,hn,q⟩:=h;obtain⟨ps,g,hrl,hps,hg⟩:=prs;have hpl:=dM hps;refine⟨_,(@aq _ _ _ _ _ (@aE _ _ 2 _ _ _ _ nd rfl (Or.inl rfl) (aA pf (@bx _ _ _ _ (@aa _ _ _ _ _ bO af rfl)) (aX (cQ K) rfl T.len_ PySem.boot_len (@aa _ _ _ _ _ (pv 1) af rfl))) rfl (Or.inl rfl))
    (@aq _ _ _ _ _ (bM PassesOwn.never rfl (bW K (pv 0)) (dY (n:=2) K rfl (bE (aM (i:=3) nd rfl (Or.inl rfl)) (bE (aM (i:=4) nd rfl (Or.inl rfl)) dI))) (@av _ _ _ (cU (bB (@ao _ _ _ _ _ _ _ (aJ K) (pv 1) (pv 3) (λ_ _=>rfl))) (@av _ _ _ (@gU _ _ _ _ _ _ bO (iP (pv 2) (pv 4) set_list) rfl rfl rfl)) aV)))
    (@av _ _ _ (@aF _ _ _ _ (pv 2))))),?_⟩
  walk_at"";refine aO λz1 H1 e1 hz1 _=>?_;walk_at"";refine eZ (ag.of (e1 _ _ hlv)) ?_;rw[cV];refine lY hz1 (by omega) (bL (by simp;omega)) (cn λrt H2 e2 hrt hrn=>?_);rw[wG,Ft]at hrt;have e02:=e1.trans e2;have hrt0:H rt=none:=by
   cases y:H rt with
   | none=>rfl
   | some o=>rw[e1 _ _ y]at hrn;cases hrn
  walk_at"";refine bZ (ag.of (e02 _ _ hrl)) ?_;refine forL (xs:=List.map V.ref ps) (λj σ H'=>∃h k1 k2,Ext H H'/\H' rt=some (.lst (aT n h))/\(∀b,h b=true↔∃z∈(dg n g n).take j,f' z.1.toNat=true/\z.2.toNat=b)/\σ=[some (.ref rl),some (.ref lv),some (.ref rt),k1,k2]) ⟨_,_,_,e02,hrt,λb=>by simp,rfl⟩ (λj σ H' _ h=>by obtain⟨_,_,_,e,_⟩:=h;exact ag.of (e _ _ hrl)) ?_ ?_
  ·rintro j v σ H3 hx ⟨h,k1,k2,e3,hr3,hh,rfl⟩;rw[Fh]at hx;obtain⟨b,hb,rfl⟩:=Fs.mp hx;obtain⟨z,hz,hbz⟩:=fb hps hb;obtain⟨i,r,hi,hr,hgz,rfl⟩:=ib.mp (Fp hz);have hbz3:aw H3 b (((i:Nat):Int),((r:Nat):Int)):=e3 _ _ hbz;refine dU (ah.of hbz3) rfl ?_;walk_at"";refine cC ?_;walk_at"";refine aK (ag.of (e3 _ _ hlv)) (ee (by omega) (by omega)) ?_;rw[Ft];walk_at"";have step:∀P:Bfs.Pl->Prop,(∃z∈(dg n g n).take (j+1),P z)↔(∃z∈(dg n g n).take j,P z)\/P (((i:Nat):Int),((r:Nat):Int)):=λP=>by
    rw[List.take_add_one,hz];constructor
    ·rintro⟨z,hm,hp⟩;rcases FE.mp hm with hm|hm
     ·exact .inl ⟨z,hm,hp⟩
     ·have:z=(((i:Nat):Int),((r:Nat):Int)):=by simpa using hm
      subst this;exact .inr hp
    ·rintro(⟨z,hm,hp⟩|hp)
     ·exact⟨z,FZ _ hm,hp⟩
     ·exact⟨_,FY _ (by simp),hp⟩
   cases hf:f' i with
   | false=>
    refine az ?_;walk_at"";refine⟨h,_,_,e3,hr3,λb=>?_,rfl⟩;rw[hh,step];constructor
    ·exact λy=>.inl y
    ·rintro(y|⟨y,_⟩)
     ·exact y
     ·have y':f' ((i:Nat):Int).toNat=true:=y;rw[Ft,hf]at y';cases y'
   | true=>
    refine aG ?_;walk_at"";refine ji hr3 (i4 (by omega) (by rw[cV];omega)) ?_;rw[Ft,mX _ _ hr];refine⟨_,_,_,cb e3 hrt0,aL,λb=>?_,rfl⟩;rw[step];by_cases hbr:b=r
    ·rw[Ge hbr];simp only[true_iff];refine .inr ⟨?_,?_⟩
     ·show f' ((i:Nat):Int).toNat=true;rw[Ft];exact hf
     ·show((r:Nat):Int).toNat=b;rw[Ft];exact hbr.symm
    ·rw[Gb hbr,hh];constructor
     ·exact λy=>.inl y
     ·rintro(y|⟨_,y⟩)
      ·exact y
      ·have y':((r:Nat):Int).toNat=b:=y;rw[Ft]at y';exact absurd y'.symm hbr
  ·rintro σ H3 ⟨h,k1,k2,e3,hr3,hh,rfl⟩;rw[Ff,hpl,FK]at hh;walk_at"";refine q rt h H3 e3 hrt0 hr3 λb hb=>?_;rw[hh];constructor
   ·rintro⟨z,hz,hf,rfl⟩;obtain⟨i,r,hi,hr,hgz,rfl⟩:=ib.mp hz;have hf':f' ((i:Nat):Int).toNat=true:=hf;rw[Ft]at hf';refine⟨i,hi,hf',?_⟩;show R i ((r:Nat):Int).toNat;rw[Ft];exact(hg i r hi hr).mp hgz
   ·rintro⟨i,hi,hf,hR⟩;refine⟨(((i:Nat):Int),((b:Nat):Int)),ib.mpr ⟨i,b,hi,hb,(hg i b hi hb).mpr hR,rfl⟩,?_,?_⟩
    ·show f' ((i:Nat):Int).toNat=true;rw[Ft];exact hf
    ·show((b:Nat):Int).toNat=b;exact Ft b
def qJ{f:Nat->Bool}{lo i:Nat}{ys:List V}(h:ys=(row f lo i).map V.int)(hf:f (lo+i)=true):ys++[V.int ((lo+i:Nat):Int)]=(row f lo (i+1)).map V.int:=by rw[xw,Ge hf,Fx,h];rfl
def wg{f:Nat->Bool}{lo i:Nat}{ys:List V}(h:ys=(row f lo i).map V.int)(hf:f (lo+i)=false):ys=(row f lo (i+1)).map V.int:=by rw[xw,Gb (by rw[hf];decide),List.append_nil,h]
def dz(H:Hp)(v:V)(b s:Int)(o a:List Int):Prop:=∃p q r,v=.ref p/\H p=some (.tup [.int b,.int s,.ref q,.ref r])/\H q=some (.tup (o.map V.int))/\H r=some (.tup (a.map V.int))
def dz.ext{H H':Hp}{v:V}{b s:Int}{o a:List Int}(e:Ext H H')(h:dz H v b s o a):dz H' v b s o a:=by obtain⟨p,q,r,rfl,h1,h2,h3⟩:=h;exact⟨p,q,r,rfl,e _ _ h1,e _ _ h2,e _ _ h3⟩
def qg{n:Nat}{f:Nat->Bool}{i:Int}(h0:0<=i)(h:i<=n):bV (aT n f) (some i) none=aT (n-i.toNat) λk=>f (i.toNat+k):=by
 unfold bV;rw[cV,HT.jU];have e:HT.aP n 0 (some i)=i.toNat:=by show(if i<0 then(i+(n:Int)).toNat else min i.toNat n)=i.toNat;rw[Gb (by omega)];omega
 rw[e];apply List.ext_getElem?;intro k;rcases F2 k (n-i.toNat)with hk|hk
 ·rw[List.getElem?_take_of_lt hk,List.getElem?_drop,fN _ (by omega),fN _ hk]
 ·rw[List.getElem?_eq_none (by rw[F5,List.length_drop,cV];omega),List.getElem?_eq_none (by rw[cV];omega)]
def dB(n:Nat)(f:Nat->Bool):List PyData:=(F8 n).map λi=>PyData.bool (f i)
def uO{α:Type}{R:V->PyData->Prop}{g:α->V}{k:α->PyData}(h:∀x,R (g x) (k x)):∀l:List α,Paired R (l.map g) (l.map k)
 | []=>.nil
 | x::l=>.cons (h x) (uO h l)
def i6{H:Hp}{p:Addr}{n:Nat}{f:Nat->Bool}(h:H p=some (.lst (aT n f))):bf H 1 (.ref p) (.list (dB n f)):=
 .inr ⟨p,aT n f,dB n f,rfl,.inr ⟨h,rfl⟩,uO (λi=>(rfl:f i=f i)) _⟩
def p7{α:Type}(f g:α->Bool):∀l:List α,PyData.eqvAll (l.map λi=>PyData.bool (f i)) (l.map λi=>PyData.bool (g i))=l.all λi=>f i == g i
 | []=>rfl
 | x::l=>by show(PyData.eqv (.bool (f x)) (.bool (g x)) && PyData.eqvAll (l.map λi=>PyData.bool (f i)) (l.map λi=>PyData.bool (g i)))=((f x == g x) && l.all λi=>f i == g i);rw[p7 f g l];rfl
def iW{n:Nat}{f g:Nat->Bool}:PyData.eqv (.list (dB n f)) (.list (dB n g))=true↔∀i,i<n->f i=g i:=by show PyData.eqvAll (dB n f) (dB n g)=true↔_;unfold dB;rw[p7,FR];simp only[List.mem_range,beq_iff_eq]
def yX{n d:Nat}{g:Nat->Bool}(hd:d<=n)(hz:n % d=0):PyData.eqv (.list (dB (n-d) λk=>g (d+k))) (.list (dB (n-d) g))=true↔Alike g 0 n d:=by
 rw[iW];constructor
 ·intro h;refine⟨hz,λi hi=>?_⟩;have:=h i (by omega);rw[show 0+i+d=d+i by omega,this,Nat.zero_add]
 ·intro h i hi;have:=h.2 i (by omega);rw[show 0+i+d=d+i by omega,Nat.zero_add]at this;exact this
def v9(K:Fb):Sp:=λvs H Q _=>∃(p:Addr) (n:Nat) (g:Nat->Bool),vs=[.ref p]/\1<=n/\n<=20000/\H p=some (.lst (aT n g)) ∧
 ∀(d:Nat) H',Ext H H'->1<=d->d<=n->Alike g 0 n d->(∀e,1<=e->e<d->¬Alike g 0 n e)->Q (.int d) H'
abbrev mU:Stmt:=stq 16
def wm:FnScope ["turn","whole","step"] ["turn"] (aH mU):=⟨rfl,rfl,rfl,by decide +kernel,rfl,by decide +kernel,by decide +kernel⟩
def E1{P:Program}{w:World}{K:Fb}{mg:Str->Option Value}{base:Heap}(D:Dfn K mg "least_step" mU ["turn"])(T:Blt mg):Cal P w K mg base "least_step" 1 ["turn"] (v9 K):=by
 have nd:=(wm).nd;refine D.ok wm (λvs H Q E h=>?_) (λX hX H vs Q E h=>?_)
 ·obtain⟨p,n,g,rfl,_⟩:=h;rfl
 ·obtain⟨f,cdv,A,outer,s,H0,E0,rfl,hr⟩:=hX;obtain⟨p,n,g,rfl,hn1,hn2,hp,q⟩:=h;refine⟨_,(aq (aE (i:=1) nd rfl (Or.inl rfl) (aX (cQ K) rfl T.len_ PySem.boot_len (aa (pv 0) af)))
    (aq (aE (i:=2) nd rfl (Or.inl rfl) ae)
    (aq (gq PassesOwn.never (PW.pt (cE (aQ eM (aA cJ (pv 1) (pv 2)) ae (aN _)) (dj (aQ (DP hr) (fY (gC K) (pv 0) (eX (pv 2)) gY) (fY (gC K) (pv 0) gY (eX (aA dD (pv 1) (pv 2)))) (aN _))))) (av (jt (i:=2) nd rfl (Or.inl rfl) ae jL)))
    (av (aF (pv 2)))))),?_⟩
  walk_at"";refine eZ (ag.of hp) ?_;rw[cV];walk_at"";refine fW (λm σ H'=>Ext H H'/\∃d:Nat,σ=[some (.ref p),some (.int n),some (.int d)]/\1<=d/\d<=n/\m=n-d/\∀e,1<=e->e<d->¬Alike g 0 n e)
   (λσ H'=>Ext H H'/\∃d:Nat,σ=[some (.ref p),some (.int n),some (.int d)]/\1<=d/\d<=n/\Alike g 0 n d/\∀e,1<=e->e<d->¬Alike g 0 n e) (n-1)
   ⟨Ext.rfl' H,1,rfl,FA _,hn1,rfl,λe h1 h2=>by omega⟩ ?_ ?_
  rotate_left
  ·rintro σ H' ⟨e,d,rfl,h1,h2,ha,hf⟩;walk_at"";exact q d H' e h1 h2 ha hf
  rintro m σ H' ⟨e,d,rfl,h1,h2,rfl,hf⟩;have hp':=e _ _ hp;have hmod:((n:Int) % (d:Int)=0)↔n % d=0:=by have:(n:Int) % (d:Int)=((n % d:Nat):Int):=rfl;omega
  have next:∀H2,Ext H' H2->¬Alike g 0 n d->∃m',m'<n-d/\Ext H H2/\∃d':Nat,[some (V.ref p),some (V.int n),some (V.int ((d:Int)+1))]=[some (V.ref p),some (V.int n),some (V.int d')]/\1<=d'/\d'<=n/\m'=n-d'/\∀e,1<=e->e<d'->¬Alike g 0 n e:=by
   intro H2 e2 hna;have hlt:d<n:=by
    rcases F2 d n with h|h
    ·exact h
    ·have:d=n:=by omega
     subst this;exact absurd ⟨Nat.mod_self d,λi hi=>by omega⟩ hna
   refine⟨n-(d+1),by omega,e.trans e2,d+1,rfl,by omega,by omega,rfl,λe' h3 h4=>?_⟩;rcases F2 e' d with h5|h5
   ·exact hf e' h3 h5
   ·have:e'=d:=by omega
    subst this;exact hna
  walk_at"";by_cases hz:(n:Int) % (d:Int)=0
  ·rw[Ga hz];refine az ?_;walk_at"";refine gL (ag.of hp') (cn λp1 H1 e1 hp1 _=>?_);walk_at"";refine gL (ag.of (e1 _ _ hp')) (cn λp2 H2 e2 hp2 _=>?_);rw[qg (by omega) (by omega),Ft]at hp1;rw[Br (by omega) (by omega),show ((n:Int)-(d:Int)).toNat=n-d by omega]at hp2;refine⟨1,1,_,_,i6 (e2 _ _ hp1),i6 hp2,by decide,?_⟩;walk_at"";have hal:=yX (g:=g) h2 (hmod.mp hz);cases hc:PyData.eqv (.list (dB (n-d) λk=>g (d+k))) (.list (dB (n-d) g))with
   | true=>
    exact az ⟨e.trans (e1.trans e2),d,rfl,h1,h2,hal.mp hc,hf⟩
   | false=>
    refine aG ⟨_,λ_ _ h=>h,?_⟩;walk_at"";exact next H2 (e1.trans e2) λh=>by rw[hal.mpr h]at hc;cases hc
  ·rw[F9 hz];refine aG (aG ⟨_,λ_ _ h=>h,?_⟩);walk_at"";exact next H' (Ext.rfl' H') λh=>hz (hmod.mpr h.1)
def sT{f:Nat->Bool}{b n d:Nat}:Alike (λk=>f (b+k)) 0 n d↔Alike f b n d:=by unfold Alike;simp only[Nat.zero_add,Nat.add_assoc]
def wz(K:Fb):Sp:=λvs H Q _=>∃(p:Addr) (b n:Nat) (f:Nat->Bool),vs=[.ref p,.int b]/\1<=n/\b+n<=20000/\H p=some (.lst (aT (b+n) f))/\bD f b n ∧
 ∀v (l d:Nat) H',Ext H H'->Least f d l->l<=b->d<=n->dz H' v l d (row f 0 l) (row f l d)->Q v H'
abbrev nX:Stmt:=stq 17
def wj:FnScope ["marks","base","step","low","once","again"] ["marks","base"] (aH nX):=⟨rfl,rfl,rfl,by decide +kernel,rfl,by decide +kernel,by decide +kernel⟩
def Di{P:Program}{w:World}{K:Fb}{mg:Str->Option Value}{base:Heap}(D:Dfn K mg "stair_of_marks" nX ["marks","base"])(T:Blt mg)(C_least_step:Cal P w K mg base "least_step" 1 ["turn"] (v9 K)):Cal P w K mg base "stair_of_marks" 2 ["marks","base"] (wz K):=by
 have nd:=(wj).nd;refine D.ok wj (λvs H Q E h=>?_) (λX hX H vs Q E h=>?_)
 ·obtain⟨p,b,n,f,rfl,_⟩:=h;rfl
 ·obtain⟨f,cdv,A,outer,s,H0,E0,rfl,hr⟩:=hX;obtain⟨p,b,n,g,rfl,hn1,hbn,hp,hper,q⟩:=h;refine⟨_,(aq (aE (i:=2) nd rfl (Or.inl rfl) (aB C_least_step hr (aa (fY (gC K) (pv 0) (eX (pv 1)) gY) af)))
    (aq (aE (i:=3) nd rfl (Or.inl rfl) (pv 1))
    (aq (gq PassesOwn.never (PW.pt (fX (aQ fB (pv 3) ae (aN _)) (gJ (aQ bJ (ao (aJ K) (pv 0) (aA dD (pv 3) ae) (λ_ _=>rfl)) (ao (aJ K) (pv 0) (aA aY (aA dD (pv 3) ae) (pv 2)) (λ_ _=>rfl)) (aN _))))) (av (jt (i:=3) nd rfl (Or.inl rfl) ae CV)))
    (aq (fV (i:=4) ["number"] [0] nd rfl (Or.inl rfl) (cW rfl T.range_ (aa (pv 3) af)) (λ_=>(aM (i:=0) (show(["number","marks"]:List Str).Nodup from by decide +kernel) rfl (Or.inl rfl) (Or.inr rfl))) (λ_=>(eF (bB (ao (aJ K) (pv 1) (pv 0) (λ_ _=>rfl))))) (λ_=>(pv 0)))
    (aq (fV (i:=5) ["number"] [0] nd rfl (Or.inl rfl) (zl rfl T.range_ (aa (pv 3) (aa (aA aY (pv 3) (pv 2)) af))) (λ_=>(aM (i:=0) (show(["number","marks"]:List Str).Nodup from by decide +kernel) rfl (Or.inl rfl) (Or.inr rfl))) (λ_=>(eF (bB (ao (aJ K) (pv 1) (pv 0) (λ_ _=>rfl))))) (λ_=>(pv 0)))
    (av (aF (bz (aa (pv 3) (aa (pv 2) (aa (iC (kF K) rfl T.tuple_ PyProof.Rows.boot_tuple (aa (pv 4) af)) (aa (iC (kF K) rfl T.tuple_ PyProof.Rows.boot_tuple (aa (pv 5) af)) af)))))))))))),?_⟩
  walk_at"";refine gL (ag.of hp) (cn λp1 H1 e1 hp1 _=>?_);rw[qg (by omega) (by omega),Ft,show b+n-b=n by omega]at hp1;walk_at"";refine⟨p1,n,_,rfl,hn1,by omega,hp1,λd H2 e2 hd1 hd2 hal hfirst=>?_⟩;have hal':=sT.mp hal;have hfirst':∀e,1<=e->e<d->¬Alike g b n e:=λe h3 h4 h5=>hfirst e h3 h4 (sT.mpr h5);have e02:Ext H H2:=e1.trans e2;have hp2:=e02 _ _ hp;walk_at"";refine fW (λm σ H'=>H'=H2/\∃l:Nat,σ=[some (.ref p),some (.int b),some (.int d),some (.int l),none,none]/\l<=b/\m=l/\∀x,l<=x->x<b->g x=g (x+d))
   (λσ H'=>H'=H2/\∃l:Nat,σ=[some (.ref p),some (.int b),some (.int d),some (.int l),none,none]/\l<=b/\(∀x,l<=x->x<b->g x=g (x+d))/\(l=0\/g (l-1)≠g (l-1+d))) b
   ⟨rfl,b,rfl,FA _,rfl,λx h1 h2=>by omega⟩ ?_ ?_
  ·rintro m σ H' ⟨rfl,l,rfl,hl,rfl,hdown⟩;walk_at"";by_cases h0:(0:Int)<(m:Int)
   ·rw[Ga h0];refine aG ?_;walk_at"";refine aK (ag.of hp2) (ee (by omega) (by omega)) ?_;walk_at"";refine aK (ag.of hp2) (ee (by omega) (by omega)) ?_;walk_at"";rw[show ((m:Int)-1).toNat=m-1 by omega,show ((m:Int)-1+(d:Int)).toNat=m-1+d by omega];cases hc:g (m-1) == g (m-1+d)with
    | true=>
     refine aG ⟨_,λ_ _ h=>h,?_⟩;walk_at"";refine⟨m-1,by omega,rfl,m-1,by rw[show ((m-1:Nat):Int)=(m:Int)-1 by omega];rfl,by omega,rfl,λx h1 h2=>?_⟩;rcases F2 x m with h3|h3
     ·have:x=m-1:=by omega
      rw[this];exact eq_of_beq hc
     ·exact hdown x h3 h2
    | false=>exact az ⟨rfl,m,rfl,hl,hdown,.inr λh=>by rw[h]at hc;simp at hc⟩
   ·rw[F9 h0];exact az (az ⟨rfl,m,rfl,hl,hdown,.inl (by omega)⟩)
  rintro σ H' ⟨rfl,l,rfl,hl,hdown,hstop⟩;have hleast:Least g d l:=Af hper hn1 hd1 hal' hfirst' hl hdown hstop;walk_at"";refine cR (by omega) ?_;rw[Ft];refine fP (λi ys H3=>H3=H'/\ys=(row g 0 i).map V.int) (bL (by omega)) ⟨rfl,rfl⟩ ?_ ?_ ?_
  ·rintro i ys H3 _ ⟨rfl,rfl⟩;rw[Ff];exact mE g 0 i
  ·rintro i ys H3 hi ⟨rfl,hy⟩;walk_at"";refine aK (ag.of hp2) (ee (by omega) (by omega)) ?_;walk_at"";rw[show ((0:Int)+(i:Int)).toNat=i by omega];have e0:g (0+i)=g i:=by rw[Nat.zero_add]
   cases hg:g i with
   | true=>
    refine aG ?_;walk_at"";refine⟨rfl,?_⟩;rw[←qJ hy (e0.trans hg)];congr 3
    all_goals omega
   | false=>exact az ⟨rfl,wg hy (e0.trans hg)⟩
  rintro ys H3 p3 ⟨rfl,rfl⟩ hp3;have e4:Ext H3 (upd H3 p3 (.lst ((row g 0 l).map V.int))):=bq hp3;have h4:(upd H3 p3 (.lst ((row g 0 l).map V.int))) p3=_:=aL;generalize upd H3 p3 (.lst ((row g 0 l).map V.int))=H4 at e4 h4;have hp4:=e4 _ _ hp2;walk_at"";refine AE (by omega) ?_;rw[show ((l:Int)+(d:Int)-(l:Int)).toNat=d by omega];refine fP (λi ys H5=>H5=H4/\ys=(row g l i).map V.int) (bL (by omega)) ⟨rfl,rfl⟩ ?_ ?_ ?_
  ·rintro i ys H5 _ ⟨rfl,rfl⟩;rw[Ff];exact mE g _ i
  ·rintro i ys H5 hi ⟨rfl,hy⟩;walk_at"";refine aK (ag.of hp4) (ee (by omega) (by omega)) ?_;walk_at"";rw[show ((l:Int)+(i:Int)).toNat=l+i by omega];cases hg:g (l+i)with
   | true=>
    refine aG ?_;walk_at"";refine⟨rfl,?_⟩;rw[←qJ hy hg];congr 3
    all_goals omega
   | false=>exact az ⟨rfl,wg hy hg⟩
  rintro ys H5 p5 ⟨rfl,rfl⟩ hp5;have e6:Ext H5 (upd H5 p5 (.lst ((row g l d).map V.int))):=bq hp5;have h6:(upd H5 p5 (.lst ((row g l d).map V.int))) p5=_:=aL;generalize upd H5 p5 (.lst ((row g l d).map V.int))=H6 at e6 h6;walk_at"";refine kc (ag.of (e6 _ _ h4)) (cn λt1 H7 e7 ht1 _=>?_);walk_at"";refine kc (ag.of (e7 _ _ h6)) (cn λt2 H8 e8 ht2 _=>?_);walk_at"";refine aO λt H9 e9 ht _=>?_;exact q _ l d H9 (e02.trans (e4.trans (e6.trans (e7.trans (e8.trans e9))))) hleast hl hd2 ⟨t,t1,t2,rfl,ht,e9 _ _ (e8 _ _ ht1),e9 _ _ ht2⟩
open Classical in
def g9(n:Nat)(R:Nat->Nat->Prop)(f:Nat->Bool):Nat->Bool:=λj=>decide (∃i,i<n/\f i=true/\R i j)
def i7{n:Nat}{R:Nat->Nat->Prop}{f:Nat->Bool}{j:Nat}:g9 n R f j=true↔∃i,i<n/\f i=true/\R i j:=by unfold g9;simp
def bA(n:Nat)(R:Nat->Nat->Prop)(f:Nat->Bool):Nat->Nat->Bool
 | 0=>f
 | k+1=>g9 n R (bA n R f k)
def eD(n:Nat)(f g:Nat->Bool):Prop:=∀j,j<n->f j=g j
def y4{n:Nat}{R:Nat->Nat->Prop}{f g:Nat->Bool}(h:eD n f g):eD n (g9 n R f) (g9 n R g):=λj _=>by
 rw[FU,i7,i7];constructor
 ·rintro⟨i,hi,h1,h2⟩;exact⟨i,hi,by rw[←h i hi];exact h1,h2⟩
 ·rintro⟨i,hi,h1,h2⟩;exact⟨i,hi,by rw[h i hi];exact h1,h2⟩
def vm{n:Nat}{R:Nat->Nat->Prop}{f:Nat->Bool}{a k:Nat}(h:eD n (bA n R f a) (bA n R f k)):∀t,eD n (bA n R f (a+t)) (bA n R f (k+t))
 | 0=>h
 | t+1=>y4 (vm h t)
def eU(f:Nat->Bool):Nat->Nat
 | 0=>0
 | n+1=>eU f n+if f n then 2 ^ n else 0
def jO(f:Nat->Bool):∀n,eU f n<2 ^ n
 | 0=>by simp[eU]
 | n+1=>by
  have:=jO f n;have h2:2 ^ (n+1)=2 ^ n+2 ^ n:=by rw[Nat.pow_succ];omega
  show eU f n+(if f n then 2 ^ n else 0)<_;split<;>omega
def sr{f g:Nat->Bool}:∀n,eU f n=eU g n->eD n f g
 | 0,_=>λj hj=>absurd hj (Nat.not_lt_zero _)
 | n+1,h=>by
  have h1:=jO f n;have h2:=jO g n;have h':eU f n+(if f n then 2 ^ n else 0)=eU g n+(if g n then 2 ^ n else 0):=h;have key:f n=g n/\eU f n=eU g n:=by cases hf:f n<;>cases hg:g n<;>simp[hf,hg]at h' ⊢<;>omega
  intro j hj;by_cases hjn:j<n
  ·exact sr n key.2 j hjn
  ·have:j=n:=by omega
   subst this;exact key.1
def vt{n k:Nat}{F:Nat->Nat->Bool}(hn:n<=12)(h:∀a b,a<b->b<k->¬eD n (F a) (F b)):k<=4096:=by
 have h1:=Bfs.gQ 4096 ((F8 k).map λa=>eU (F a) n) (by
  rw[List.nodup_iff_pairwise_ne,List.pairwise_map,List.pairwise_iff_getElem];intro i j hi hj hij e;simp at hi hj e;exact h i j hij hj (sr n e)) (λx hx=>by
  obtain⟨a,_,rfl⟩:=List.mem_map.mp hx;exact FO (jO (F a) n) (FP (Nat.pow_le_pow_right (by omega) hn) (by decide)))
 simpa using h1
def fF(n:Nat)(R:Nat->Nat->Prop)(top:Nat)(M:Nat->Nat->Bool):Nat->Nat->Bool:=λi=>if i<top then M i else bA n R (M top) (i-top)
def zN{α:Type}{xs:List α}{k:Nat}(h:xs.length=k+1){v:α}(hv:xs[k]?=some v):bG xs (-1)=some v:=by unfold bG dZ;rw[h,Gb (by omega),Ge (by omega)];show xs[(-1+((k+1:Nat):Int)).toNat]?=some v;rw[show (-1+((k+1:Nat):Int)).toNat=k by omega];exact hv
def EI{xs:List V}{k:Nat}(h:xs.length=k+1):bV xs none (some (-1))=xs.take k:=by
 unfold bV;have e1:HT.aP xs.length xs.length (some (-1))=k:=by show(if(-1:Int)<0 then(-1+(xs.length:Int)).toNat else min (-1:Int).toNat xs.length)=_;rw[Ge (by decide)];omega
 have e2:HT.aP xs.length 0 none=0:=rfl;rw[e1,e2];simp
def pw{H:Hp}{n:Nat}:∀{hs:List Addr} {F:Nat->Nat->Bool},(∀(a:Nat) (r:Addr),hs[a]?=some r->H r=some (.lst (aT n (F a))))->Paired (bf H 1) (List.map V.ref hs) ((F8 hs.length).map λa=>PyData.list (dB n (F a)))
 | [],_,_=>.nil
 | r::hs,F,h=>by rw[FJ,List.range_succ_eq_map,List.map_cons,List.map_cons,List.map_map];exact .cons (i6 (h 0 r rfl)) (pw (F:=λa=>F (a+1)) λa r' hr=>h (a+1) r' (by simpa using hr))
def Cz{i x a:Nat}(h:x+a<=i):a+(i-x-a)=i-x:=by omega
def Ed{i x a k:Nat}(h:x+a<=i)(ha:a<k+1):k+1+(i-x-a)=i+(k+1-a)-x:=by omega
def xk{i x a c:Nat}(h:x+a<=i):¬i+c<x/\¬i<x:=by omega
def Ew{x r h k a:Nat}(hr:r=x+1)(hh:h=k+1)(ha:a<k+1):min x r+h=x+a+(k+1-a):=by omega
def y6{i x r:Nat}(hr:r=x+1):i-min x r=i-x:=by omega
def rj{x r:Nat}(hr:r=x+1):min x r=x:=by omega
def w4(K:Fb):Sp:=λvs H Q _=>∃vh m ws pa x,vs=[vh,.ref pa]/\bj H vh m ws/\HOuse m ws/\aw H pa x/\cY m x/\fm K/\Tbs K H/\∀p lq rs (b N:Nat) M H',Et H H'->Tbs K H'->H' p=some (.tup [.ref lq,.int (b:Nat)])->Rows H' lq rs m.toNat (fF m.toNat (br ws m.toNat) x.2.toNat M)->rs.length=b+N->1<=N->b+N<=5200->(∀r,r<m.toNat->bD (λi=>fF m.toNat (br ws m.toNat) x.2.toNat M i r) b N) →
 (∀i r:Nat,(i:Int)<=x.2->(r:Int)<m->(M i r=true↔∃n,Bfs.Rw (LB ws m.toNat x.2) n x ((r:Int),(i:Int))))->Q (.ref p) H'
abbrev kO:Stmt:=stq 52
def r6:FnScope ["house","place","rises","low","high","level"] ["house","place"] (aH kO):=⟨rfl,rfl,rfl,by decide +kernel,rfl,by decide +kernel,by decide +kernel⟩
def B3{P:Program}{w:World}{K:Fb}{mg:Str->Option Value}{base:Heap}(D:Dfn K mg "all_levels" kO ["house","place"])(T:Blt mg)(C_next_level:Cal P w K mg base "next_level" 1 ["rises","level"] (sO K))(C_low_levels:Cal P w K mg base "low_levels" 8 ["house","place"] (mM K))(C_risen:Cal P w K mg base "risen" 7 ["house"] (kS K)):Cal P w K mg base "all_levels" 9 ["house","place"] (w4 K):=by
 have nd:=(r6).nd;refine D.ok r6 (λvs H Q E h=>?_) (λX hX H vs Q E h=>?_)
 ·obtain⟨vh,m,ws,pa,x,rfl,_⟩:=h;rfl
 ·obtain⟨f,cdv,A,outer,s,H0,E0,rfl,hr⟩:=hX;obtain⟨vh,m,ws,pa,x,rfl,hv,ok,hpx,ix,dis,htb,q⟩:=h;have m1:=ok.m1;have m12:=ok.m12;obtain⟨i0,i1,i2,i3⟩:=id ix;refine⟨_,(aq (aE (i:=2) nd rfl (Or.inl rfl) (aB C_risen hr (aa (pv 0) af)))
    (aq (aE (i:=3) nd rfl (Or.inl rfl) (aB C_low_levels hr (aa (pv 0) (aa (pv 1) af))))
    (aq (aE (i:=4) nd rfl (Or.inl rfl) (bx (aa (ao (aJ K) (pv 3) (fU fS ae) (λ_ _=>rfl)) af)))
    (aq (aE (i:=5) nd rfl (Or.inl rfl) (aB C_next_level hr (aa (pv 2) (aa (ao (aJ K) (pv 3) (fU fS ae) (λ_ _=>rfl)) af))))
    (aq (gq PassesOwn.never (aQ (vg hr) (pv 5) (pv 4) (by with_unfolding_all rfl)) (aq (bp (bF K Fn FC FD bN (pv 4) (aa (pv 5) af)))
    (av (aE (i:=5) nd rfl (Or.inl rfl) (aB C_next_level hr (aa (pv 2) (aa (pv 5) af)))))))
    (av (aF (bz (aa (aA kE (fY (gC K) (pv 3) gY (eX (fU fS ae))) (pv 4)) (aa (aA aY (ao (ay K) (pv 1) ae (λ_ _=>rfl)) (bF K Fn PySem.F.slot_list_index PySem.F.type_list_index (A9 hr) (pv 4) (aa (pv 5) af))) af)))))))))),?_⟩
  walk_at"";refine⟨vh,m,ws,rfl,hv,ok,dis,htb,λrl H1 e1 tb1 prs=>?_⟩;walk_at"";refine⟨vh,m,ws,pa,x,rfl,hv.et e1,ok,hpx.et e1,ix,dis,tb1,λlq rs M H2 e2 tb2 rows hrl hM=>?_⟩;have prs2:=prs.et e2;have hpx2:=(hpx.et e1).et e2;have hrl':rs.length=x.2.toNat+1:=by omega
  have hlast:rs[x.2.toNat]?=some rs[x.2.toNat]:=Fg (by omega);generalize rs[x.2.toNat]=r0 at hlast;have hr0:=rows.2 _ _ hlast;have hat:bG (List.map V.ref rs) (-1)=some (.ref r0):=zN (k:=x.2.toNat) (by rw[Ff];exact hrl') (by rw[Fh,hlast];rfl);walk_at"";refine aK (ag.of rows.1) hat ?_;walk_at"";refine aO λhq H3 e3 hhq hhn=>?_;walk_at"";refine aK (ag.of (e3 _ _ rows.1)) hat ?_;walk_at"";refine⟨rl,r0,m.toNat,_,_,rfl,prs2.et e3.et,e3 _ _ hr0,by omega,λlv g H4 e4 hln hl4 hg=>?_⟩;have e24:=e3.trans e4;have hl4':H4 lv=some (.lst (aT m.toNat (bA m.toNat (br ws m.toNat) (M x.2.toNat) 1))):=by
   rw[hl4];congr 2;exact eG λj hj=>by rw[FU];exact(hg j hj).trans i7.symm
  clear hl4 hg;walk_at"";refine fW (λmm σ H'=>∃hs lv k,Ext H2 H'/\H' hq=some (.lst (List.map V.ref hs))/\hs.length=k+1/\(∀(a:Nat) (r:Addr),hs[a]?=some r->H' r=some (.lst (aT m.toNat (bA m.toNat (br ws m.toNat) (M x.2.toNat) a))))/\(∀a b,a<b->b<k+1->¬eD m.toNat (bA m.toNat (br ws m.toNat) (M x.2.toNat) a) (bA m.toNat (br ws m.toNat) (M x.2.toNat) b))/\H' lv=some (.lst (aT m.toNat (bA m.toNat (br ws m.toNat) (M x.2.toNat) (k+1))))/\mm=4097-k/\σ=[some vh,some (.ref pa),some (.ref rl),some (.ref lq),some (.ref hq),some (.ref lv)])
   (λσ H'=>∃hs lv k a,Ext H2 H'/\H' hq=some (.lst (List.map V.ref hs))/\hs.length=k+1/\(∀(a:Nat) (r:Addr),hs[a]?=some r->H' r=some (.lst (aT m.toNat (bA m.toNat (br ws m.toNat) (M x.2.toNat) a))))/\(∀a b,a<b->b<k+1->¬eD m.toNat (bA m.toNat (br ws m.toNat) (M x.2.toNat) a) (bA m.toNat (br ws m.toNat) (M x.2.toNat) b))/\H' lv=some (.lst (aT m.toNat (bA m.toNat (br ws m.toNat) (M x.2.toNat) (k+1))))/\a<k+1/\eD m.toNat (bA m.toNat (br ws m.toNat) (M x.2.toNat) a) (bA m.toNat (br ws m.toNat) (M x.2.toNat) (k+1))/\k+1<=4096/\σ=[some vh,some (.ref pa),some (.ref rl),some (.ref lq),some (.ref hq),some (.ref lv)])
   4097 ⟨[r0],lv,0,e24,e4 _ _ hhq,rfl,λa r ha=>by
    cases a with
    | zero=>cases ha;exact e24 _ _ hr0
    | succ a=>simp at ha,λa b h1 h2=>by omega,hl4',rfl,rfl⟩ ?_ ?_
  ·rintro mm σ H5 ⟨hs,lv,k,e5,hq5,hsl,hrow,hun,hlv,rfl,rfl⟩;have hk:=vt (F:=bA m.toNat (br ws m.toNat) (M x.2.toNat)) (show m.toNat<=12 by omega) hun;have hrep:=pw hrow;walk_at"";refine qr (i6 hlv) hq5 hrep (by omega) ?_;have hany:((F8 hs.length).map λa=>PyData.list (dB m.toNat (bA m.toNat (br ws m.toNat) (M x.2.toNat) a))).any (λe=>PyData.eqv e (.list (dB m.toNat (bA m.toNat (br ws m.toNat) (M x.2.toNat) (k+1)))))=true↔∃a,a<k+1/\eD m.toNat (bA m.toNat (br ws m.toNat) (M x.2.toNat) a) (bA m.toNat (br ws m.toNat) (M x.2.toNat) (k+1)):=by
    rw[List.any_map,FT,hsl];constructor
    ·rintro⟨a,ha,he⟩;exact⟨a,List.mem_range.mp ha,iW.mp he⟩
    ·rintro⟨a,ha,he⟩;exact⟨a,List.mem_range.mpr ha,iW.mpr he⟩
   generalize ((F8 hs.length).map λa=>PyData.list (dB m.toNat (bA m.toNat (br ws m.toNat) (M x.2.toNat) a))).any (λe=>PyData.eqv e (.list (dB m.toNat (bA m.toNat (br ws m.toNat) (M x.2.toNat) (k+1)))))=bb at hany ⊢;cases bb with
   | true=>
    obtain⟨a,ha,hsame⟩:=hany.mp rfl;refine⟨_,rfl,az ?_⟩;exact⟨hs,lv,k,a,e5,hq5,hsl,hrow,hun,hlv,ha,hsame,hk,rfl⟩
   | false=>
    have hno:∀a,a<k+1->¬eD m.toNat (bA m.toNat (br ws m.toNat) (M x.2.toNat) a) (bA m.toNat (br ws m.toNat) (M x.2.toNat) (k+1)):=λa ha hs=>by have:=hany.mpr ⟨a,ha,hs⟩;cases this
    have hun2:∀a b,a<b->b<k+1+1->¬eD m.toNat (bA m.toNat (br ws m.toNat) (M x.2.toNat) a) (bA m.toNat (br ws m.toNat) (M x.2.toNat) b):=λa b hab hb=>by
     by_cases hbk:b<k+1
     ·exact hun a b hab hbk
     ·have:b=k+1:=by omega
      subst this;exact hno a hab
    have hk2:=vt (F:=bA m.toNat (br ws m.toNat) (M x.2.toNat)) (show m.toNat<=12 by omega) hun2;refine⟨_,rfl,aG ⟨λσ' H'=>∃hs lv,Ext H2 H'/\H' hq=some (.lst (List.map V.ref hs))/\hs.length=k+1+1/\(∀(a:Nat) (r:Addr),hs[a]?=some r->H' r=some (.lst (aT m.toNat (bA m.toNat (br ws m.toNat) (M x.2.toNat) a))))/\H' lv=some (.lst (aT m.toNat (bA m.toNat (br ws m.toNat) (M x.2.toNat) (k+1+1))))/\σ'=[some vh,some (.ref pa),some (.ref rl),some (.ref lq),some (.ref hq),some (.ref lv)],λσ' H' ⟨hs,lv,a1,a2,a3,a4,a5,a6⟩=>⟨4097-(k+1),by omega,hs,lv,k+1,a1,a2,a3,a4,hun2,a5,rfl,a6⟩,?_⟩⟩;have nqr:∀r∈hs++[lv],r≠hq:=λr hr z=>by
     have hb:∃f,H5 r=some (.lst (aT m.toNat f)):=by
      rcases FE.mp hr with h|h
      ·obtain⟨j,hj⟩:=F3 h;exact⟨_,hrow j r hj⟩
      ·rw[Fq.mp h];exact⟨_,hlv⟩
     obtain⟨f,hb⟩:=hb;rw[z,hq5]at hb;have h2:List.map V.ref hs=aT m.toNat f:=by
      injection hb with hb
      injection hb
     have h3:=congrArg (λz:List V=>z[0]?) h2
     try dsimp only at h3
     rw[fN _ (by omega),Fh]at h3;cases y:hs[0]? with
     | none=>rw[y]at h3;cases h3
     | some a=>rw[y]at h3;cases h3
    walk_at"";refine⟨cN (ag.of hq5),?_⟩;walk_at"";refine bK hq5 (dQ (by rw[Ff];omega)) ?_;have hn2:H2 hq=none:=hhn;have e6:=cb (o:=.lst (List.map V.ref hs++[.ref lv])) e5 hn2;have keep:∀b o,b≠hq->H5 b=some o->upd H5 hq (.lst (List.map V.ref hs++[.ref lv])) b=some o:=λb o nb e=>by rw[aC nb];exact e
    have hq6:upd H5 hq (.lst (List.map V.ref hs++[.ref lv])) hq=some (.lst (List.map V.ref (hs++[lv]))):=by rw[aL,Fx];rfl
    have hlv6:=keep lv _ (nqr lv (by simp)) hlv;have hrow6:∀(a:Nat) (r:Addr),(hs++[lv])[a]?=some r->upd H5 hq (.lst (List.map V.ref hs++[.ref lv])) r=some (.lst (aT m.toNat (bA m.toNat (br ws m.toNat) (M x.2.toNat) a))):=λa r ha=>by
     by_cases hal:a<hs.length
     ·rw[FH hal]at ha;exact keep r _ (nqr r (FZ _ (Fp ha))) (hrow a r ha)
     ·rw[FG (by omega)]at ha;have hz:a-hs.length=0:=by have:=(Fo.mp ha).1;simp at this;omega
      rw[hz]at ha;cases ha;have:a=k+1:=by omega
      subst this;exact hlv6
    generalize upd H5 hq (.lst (List.map V.ref hs++[.ref lv]))=H6 at e6 hq6 hlv6 hrow6 ⊢;walk_at"";refine⟨rl,lv,m.toNat,_,_,rfl,prs2.et e6.et,hlv6,by omega,λlv2 g2 H7 e7 _ hl7 hg2=>?_⟩;walk_at"";refine⟨hs++[lv],lv2,e6.trans e7,e7 _ _ hq6,by rw[Fy,hsl];rfl,λa r ha=>e7 _ _ (hrow6 a r ha),?_,rfl⟩;rw[hl7];congr 2;exact eG λj hj=>by rw[FU];exact(hg2 j hj).trans i7.symm
  ·rintro σ H5 ⟨hs,lv,k,a,e5,hq5,hsl,hrow,hun,hlv,ha,hsame,hk,rfl⟩;have rows5:=rows.ext e5;walk_at"";refine gL (ag.of rows5.1) (cn λlo H6 e6 hlo _=>?_);rw[EI (k:=x.2.toNat) (by rw[Ff];exact hrl')]at hlo;walk_at"";refine jT hlo (e6 _ _ hq5) (bL (by simp;omega)) (cn λll H7 e7 hll _=>?_);have e57:=e6.trans e7;walk_at"";refine ax (ah.of (e57 _ _ (e5 _ _ hpx2))) (v:=.int x.2) rfl ?_;walk_at"";have hrow7:∀(a:Nat) (r:Addr),hs[a]?=some r->H7 r=some (.lst (aT m.toNat (bA m.toNat (br ws m.toNat) (M x.2.toNat) a))):=λa r h=>e57 _ _ (hrow a r h);refine⟨cN (ag.of (e57 _ _ hq5)),?_⟩;walk_at"";refine⟨1,hq,_,.ref lv,_,_,a,rfl,rfl,i6 (e57 _ _ hlv),e57 _ _ hq5,pw hrow7,by omega,⟨_,by rw[Fh,List.getElem?_range (by omega)];rfl,iW.mpr hsame⟩,λb e hb he=>?_,by omega,?_⟩
   ·rw[Fh,List.getElem?_range (by omega)]at he;cases he;rw[Bool.eq_false_iff];intro hc;have:=iW.mp hc;exact hun b a hb ha λj hj=>(this j hj).trans (hsame j hj).symm
   walk_at"";refine aO λpp H8 e8 hpp _=>?_;have e28:=e5.trans (e57.trans e8);refine q pp ll (rs.take x.2.toNat++hs) (x.2.toNat+a) (k+1-a) M H8 ((e1.trans e2).trans e28.et) (tb2.ext e28) ?_ ⟨?_,λi r hi=>?_⟩ ?_ (by omega) (by omega) (λr hr=>?_) hM
   ·rw[hpp];congr 3;congr 2;omega
   ·rw[e8 _ _ hll,Fx,List.map_take]
   ·unfold fF;by_cases hix:i<x.2.toNat
    ·rw[Ge hix];rw[FH (by rw[F5,rj hrl'];exact hix),List.getElem?_take_of_lt hix]at hi;exact e28 _ _ (rows.2 i r hi)
    ·rw[Gb hix];rw[FG (by rw[F5,rj hrl'];exact Nat.le_of_not_lt hix),F5,y6 hrl']at hi;exact e8 _ _ (hrow7 _ _ hi)
   ·rw[Fy,F5];exact Ew hrl' hsl ha
   ·intro i hi;show fF _ _ _ _ (i+(k+1-a)) r=fF _ _ _ _ i r;unfold fF;rw[Gb (xk hi).1,Gb (xk (c:=0) hi).2];have hp:=vm hsame (i-x.2.toNat-a) r hr;rw[Cz hi,Ed hi ha]at hp;exact hp.symm
def u9{i d:Nat}(h:i+1<=d)(hn:d≠i+1):i+1+(d-1-(i+1))=d-1:=by omega
def cX(ws:List Way)(a b:Bfs.Pl):Prop:=∃w∈ws,cB w a.1 a.2=true/\b=(w.other,a.2+rz w.deed)
def aR(ws:List Way)(x y:Bfs.Pl):Prop:=∃n,Bfs.Rw (cX ws) n x y
def gG{w:Way}{r n:Int}(hr:w.room=r)(h:w.deed = "up"\/w.deed = "stay"\/(w.deed = "down"/\0<n)\/(w.deed = "zero"/\n=0)):cB w r n=true:=by
 unfold cB;rw[Ga hr,Bool.true_and];rcases h with h|h|⟨h,hn⟩|⟨h,hn⟩
 ·rw[h,Gb (by decide +kernel)];have:decide ((FW "up") = "zero")=false:=by decide +kernel
  rw[this];rfl
 ·rw[h,Gb (by decide +kernel)];have:decide ((FW "stay") = "zero")=false:=by decide +kernel
  rw[this];rfl
 ·rw[h,Ge (by decide +kernel)];exact Ga hn
 ·rw[h,Gb (by decide +kernel),hn];simp
def fC{w:Way}{r n:Int}(hd:b9 w.deed)(h:cB w r n=true):(w.deed = "up"/\rz w.deed=1)\/(w.deed = "stay"/\rz w.deed=0)\/(w.deed = "down"/\0<n/\rz w.deed = -1)\/(w.deed = "zero"/\n=0/\rz w.deed=0):=by
 unfold cB at h;rw[FV]at h;rcases hd with hd|hd|hd|hd
 ·exact .inl ⟨hd,by rw[hd];exact iR⟩
 ·rw[hd,Ge (by decide +kernel)]at h;exact .inr (.inr (.inl ⟨hd,of_decide_eq_true h.2,by rw[hd];exact kz⟩))
 ·exact .inr (.inl ⟨hd,by rw[hd];exact j3⟩)
 ·rw[hd,Gb (by decide +kernel)]at h;have h2:decide ((FW "zero") = "zero")=true:=by decide +kernel
  rw[h2]at h;refine .inr (.inr (.inr ⟨hd,?_,by rw[hd];exact oC⟩));simpa using h.2
def aR.refl{ws:List Way}{x:Bfs.Pl}:aR ws x x:=⟨0,.nil⟩
def aR.trans{ws:List Way}{x y z:Bfs.Pl}(h:aR ws x y)(g:aR ws y z):aR ws x z:=by obtain⟨n,h⟩:=h;obtain⟨k,g⟩:=g;exact⟨n+k,h.trans g⟩
def aR.one{ws:List Way}{x y:Bfs.Pl}(h:cX ws x y):aR ws x y:=⟨1,.snoc .nil h⟩
section
variable {m:Int} {ws:List Way} (ok:∀w∈ws,w.Ok m)
include ok
def eo{a b:Bfs.Pl}(h:cX ws a b)(ha:0<=a.2):0<=b.1/\b.1<m/\0<=b.2/\b.2<=a.2+1/\a.2<=b.2+1:=by obtain⟨w,hw,ho,rfl⟩:=h;have okw:=ok w hw;refine⟨okw.o0,okw.o1,?_⟩;rcases fC okw.dd ho with⟨_,h⟩|⟨_,h⟩|⟨_,h1,h⟩|⟨_,h1,h⟩<;>(show 0<=a.2+rz w.deed/\a.2+rz w.deed<=a.2+1/\a.2<=a.2+rz w.deed+1;omega)
def vn{i j:Nat}(h:Kpt ws m.toNat i j):∀L:Int,0<=L->aR ws ((i:Int),L) ((j:Int),L):=by
 induction h with
 | refl _=>exact λ_ _=>.refl
 | @stay w hw hd=>
  intro L _;have okw:=ok w hw;have r0:=okw.r0;have o0:=okw.o0;refine .one ⟨w,hw,gG (by show w.room=((w.room.toNat:Nat):Int);omega) (.inr (.inl hd)),?_⟩;rw[hd,j3];exact Prod.ext (by show((w.other.toNat:Nat):Int)=w.other;omega) (by show L=L+0;omega)
 | trans _ _ h1 h2=>exact λL hL=>(h1 L hL).trans (h2 L hL)
 | @arch u d hu hud hd hdd _ ih=>
  intro L hL;have oku:=ok u hu;have okd:=ok d hd;have u0:=oku.r0;have u1:=oku.o0;have d0:=okd.r0;have d1:=okd.o0;have s1:cX ws (((u.room.toNat:Nat):Int),L) (((u.other.toNat:Nat):Int),L+1):=⟨u,hu,gG (by show u.room=((u.room.toNat:Nat):Int);omega) (.inl hud),by rw[hud,iR];exact Prod.ext (by show((u.other.toNat:Nat):Int)=u.other;omega) rfl⟩;have s2:cX ws (((d.room.toNat:Nat):Int),L+1) (((d.other.toNat:Nat):Int),L):=⟨d,hd,gG (by show d.room=((d.room.toNat:Nat):Int);omega) (.inr (.inr (.inl ⟨hdd,by omega⟩))),by rw[hdd,kz];exact Prod.ext (by show((d.other.toNat:Nat):Int)=d.other;omega) (by show L=L+1 + -1;omega)⟩;exact((aR.one s1).trans (ih (L+1) (by omega))).trans (.one s2)
def xh:∀(n:Nat) (w:Nat->Bfs.Pl) (i:Nat) (L:Int),1<=L->(∀k,i<=k->k<i+n->cX ws (w k) (w (k+1)))->(∀k,i<=k->k<=i+n->L<=(w k).2)->(w i).2=L->(w (i+n)).2=L->0<=(w i).1->(w i).1<m->Kpt ws m.toNat (w i).1.toNat (w (i+n)).1.toNat:=by
 intro n;induction n using Nat.strongRecOn with
 | ind n ih=>
  intro w i L hL hS hh h0 h1 r0 r1;cases n with
  | zero=>exact .refl (by show(w i).1.toNat<m.toNat;omega)
  | succ n=>
   have s0:=hS i (FA _) (by omega);have in1:=eo ok s0 (by omega);obtain⟨v,hv,ho,hw1⟩:=id s0;have okv:=ok v hv;have hroom:=gg ho;have e1:(w (i+1)).1=v.other:=by rw[hw1]
   have e2:(w (i+1)).2=(w i).2+rz v.deed:=by rw[hw1]
   have hge:=hh (i+1) (by omega) (by omega);rcases fC okv.dd ho with⟨hd,hz⟩|⟨hd,hz⟩|⟨hd,_,hz⟩|⟨hd,h00,hz⟩
   ·obtain⟨d,hd1,hd2,hd3,hd4⟩:=Bfs.xm (h:=λk=>(w k).2) (l:=L) (P:=i+1) (n:=i+(n+1)) (by omega) (λk hk1 hk2=>(eo ok (hS k (by omega) hk2) (by have:=hh k (by omega) (by omega);omega)).2.2.2.2) (by show(w (i+(n+1))).2<=L;omega) (by show L<=(w (i+1)).2;omega)
    try dsimp only at hd3 hd4
    have hdi:d≠i+1:=λz=>by rw[z]at hd3;omega
    have sd:=hS (d-1) (by omega) (by omega);rw[show d-1+1=d by omega]at sd;obtain⟨v2,hv2,ho2,hw2⟩:=id sd;have okv2:=ok v2 hv2;have hroom2:=gg ho2;have f1:(w d).1=v2.other:=by rw[hw2]
    have f2:(w d).2=(w (d-1)).2+rz v2.deed:=by rw[hw2]
    have hgt:=hd4 (d-1) (by omega) (by omega);have hdown:v2.deed = "down"/\rz v2.deed = -1:=by
     rcases fC okv2.dd ho2 with⟨_,hz⟩|⟨_,hz⟩|⟨hd,_,hz⟩|⟨_,_,hz⟩
     ·omega
     ·omega
     ·exact⟨hd,hz⟩
     ·omega
    have inner:=ih (d-1-(i+1)) (by omega) w (i+1) (L+1) (by omega) (λk hk1 hk2=>hS k (by omega) (by omega)) (λk hk1 hk2=>by have:=hd4 k hk1 (by omega);omega) (by omega) (by rw[u9 hd1 hdi];omega) in1.1 in1.2.1;rw[u9 hd1 hdi,e1,←hroom2]at inner;have ar:=Kpt.arch hv hd hv2 hdown.1 inner;rw[hroom,←f1]at ar;have ind:=eo ok sd (by omega);have rest:=ih (i+(n+1)-d) (by omega) w d L hL (λk hk1 hk2=>hS k (by omega) (by omega)) (λk hk1 hk2=>hh k (by omega) (by omega)) hd3 (by rw[Nat.add_sub_of_le hd2];exact h1) ind.1 ind.2.1;rw[Nat.add_sub_of_le hd2]at rest;exact .trans ar rest
   ·have rest:=ih n (by omega) w (i+1) L hL (λk hk1 hk2=>hS k (by omega) (by omega)) (λk hk1 hk2=>hh k (by omega) (by omega)) (by omega) (by rw[show i+1+n=i+(n+1) by omega];exact h1) in1.1 in1.2.1;rw[show i+1+n=i+(n+1) by omega,e1]at rest;have st:=Kpt.stay (n:=m.toNat) hv hd;rw[hroom]at st;exact .trans st rest
   ·omega
   ·omega
def mH{w:Nat->Bfs.Pl}{n:Nat}(h0:0<=(w 0).1/\(w 0).1<m/\0<=(w 0).2)(hS:∀k,k<n->cX ws (w k) (w (k+1))):∀k,k<=n->0<=(w k).1/\(w k).1<m/\0<=(w k).2
 | 0,_=>h0
 | k+1,hk=>by have ih:=mH h0 hS k (by omega);have:=eo ok (hS k (by omega)) ih.2.2;exact⟨this.1,this.2.1,this.2.2.1⟩
def Dy{top:Int}{x:Bfs.Pl}(ht:0<=top)(hx:bR m top x){k:Nat}{y:Bfs.Pl}(h:Bfs.Rw (LB ws m.toNat top) k x y):aR ws x y/\bR m top y:=by
 induction h with
 | nil=>exact⟨.refl,hx⟩
 | @snoc n x y z _ hs ih=>
  obtain⟨hr,hy⟩:=ih hx;rcases hs with⟨w,hw,ho,rfl,hle⟩|⟨hty,i,j,hk,hyi,rfl⟩
  ·have st:cX ws y (w.other,y.2+rz w.deed):=⟨w,hw,ho,rfl⟩;have:=eo ok st hy.2.2.1;exact⟨hr.trans (.one st),this.1,this.2.1,this.2.2.1,hle⟩
  ·have hlt:=Kpt.lt ok hk;have hy2:y.2=top:=by have:=hy.2.2.2;omega
   have hs:=vn ok hk top ht;have hye:y=((i:Int),top):=Prod.ext hyi hy2;rw[←hye]at hs;exact⟨hr.trans hs,by show(0:Int)<=(j:Int);omega,by show(j:Int)<m;omega,ht,Int.le_refl _⟩
def Es{top:Int}(ht:0<=top):∀(n:Nat) (w:Nat->Bfs.Pl),0<=(w 0).1->(w 0).1<m->(w 0).2=top->(∀k,k<n->cX ws (w k) (w (k+1)))->(w n).2<=top->∃k,Bfs.Rw (LB ws m.toNat top) k (w 0) (w n):=by
 intro n;induction n using Nat.strongRecOn with
 | ind n ih=>
  intro w h00 h01 h02 hS hle;cases n with
  | zero=>exact⟨0,.nil⟩
  | succ n=>
   have hin:=mH ok (w:=w) (n:=n+1) ⟨h00,h01,by omega⟩ hS;have sn:=hS n (by omega);have inn:=eo ok sn (hin n (by omega)).2.2;by_cases hz:(w n).2<=top
   ·obtain⟨k,hk⟩:=ih n (by omega) w h00 h01 h02 (λk hk=>hS k (by omega)) hz;obtain⟨v,hv,ho,he⟩:=sn;exact⟨k+1,.snoc hk (.inl ⟨v,hv,ho,he,hle⟩)⟩
   ·obtain⟨u,hu,hul,hui⟩:=Bfs.je (h:=λk=>(w k).2) (l:=top) n (λk hk=>(eo ok (hS k (by omega)) (hin k (by omega)).2.2).2.2.2.1) (by show(w 0).2<=top;omega) (by show top<=(w n).2;omega)
    try dsimp only at hul hui
    have hun:u≠n:=λz=>by rw[z]at hul;omega
    have su:=hS u (by omega);have inu:=eo ok su (hin u (by omega)).2.2;have hu1:=hui (u+1) (by omega) (by omega);obtain⟨v,hv,ho,hw1⟩:=id su;obtain⟨v2,hv2,ho2,hw2⟩:=id sn;have e1:(w (u+1)).1=v.other:=by rw[hw1]
    have e2:(w (u+1)).2=(w u).2+rz v.deed:=by rw[hw1]
    have f1:(w (n+1)).1=v2.other:=by rw[hw2]
    have f2:(w (n+1)).2=(w n).2+rz v2.deed:=by rw[hw2]
    have hup:v.deed = "up":=by
     rcases fC (ok v hv).dd ho with⟨hd,_⟩|⟨_,hz⟩|⟨_,_,hz⟩|⟨_,_,hz⟩
     ·exact hd
     ·omega
     ·omega
     ·omega
    have hdn:v2.deed = "down":=by
     rcases fC (ok v2 hv2).dd ho2 with⟨_,hz⟩|⟨_,hz⟩|⟨hd,_,_⟩|⟨_,_,hz⟩
     ·omega
     ·omega
     ·exact hd
     ·omega
    have hin1:=hin (u+1) (by omega);have inner:=xh ok (n-(u+1)) w (u+1) (top+1) (by omega) (λk hk1 hk2=>hS k (by omega)) (λk hk1 hk2=>by have:=hui k (by omega) (by omega);omega) (by omega) (by rw[show u+1+(n-(u+1))=n by omega];omega) hin1.1 hin1.2.1;rw[show u+1+(n-(u+1))=n by omega,e1,←gg ho2]at inner;have ar:=Kpt.arch hv hup hv2 hdn inner;rw[gg ho,←f1]at ar;obtain⟨k,hk⟩:=ih u (by omega) w h00 h01 h02 (λk hk=>hS k (by omega)) (by omega);have hinu:=hin u (by omega);have hinn:=hin (n+1) (by omega);refine⟨k+1,.snoc hk (.inr ⟨by omega,_,_,ar,by omega,?_⟩)⟩;exact Prod.ext (by show(w (n+1)).1=(((w (n+1)).1.toNat:Nat):Int);omega) (by show(w (n+1)).2=top;omega)
def BX{top:Int}{x:Bfs.Pl}(ht:0<=top)(hx:bR m top x)(hx2:x.2=top){y:Bfs.Pl}(hy:y.2<=top):(∃n,Bfs.Rw (LB ws m.toNat top) n x y)↔aR ws x y:=by
 constructor
 ·rintro⟨n,h⟩;exact(Dy ok ht hx h).1
 ·rintro⟨n,h⟩;obtain⟨w,w0,wn,hS⟩:=h.fn;have:=Es ok ht n w (by rw[w0];exact hx.1) (by rw[w0];exact hx.2.1) (by rw[w0];exact hx2) hS (by rw[wn];exact hy);rw[w0,wn]at this;exact this
def sR{x:Bfs.Pl}(hx:0<=x.1/\x.1<m/\0<=x.2){i r:Nat}(hi:x.2<=(i:Int)):aR ws x ((r:Int),((i+1:Nat):Int))↔∃p,p<m.toNat/\aR ws x ((p:Int),(i:Int))/\br ws m.toNat p r:=by
 constructor
 ·rintro⟨n,h⟩;obtain⟨w,w0,wn,hS⟩:=h.fn;have hin:=mH ok (w:=w) (n:=n) (by rw[w0];exact hx) hS;have wn2:(w n).2=(i:Int)+1:=by rw[wn];show((i+1:Nat):Int)=_;omega
  obtain⟨u,hu,hul,hui⟩:=Bfs.je (h:=λk=>(w k).2) (l:=(i:Int)) n (λk hk=>(eo ok (hS k hk) (hin k (by omega)).2.2).2.2.2.1) (by show(w 0).2<=(i:Int);rw[w0];exact hi) (by show(i:Int)<=(w n).2;omega)
  try dsimp only at hul hui
  have hun:u≠n:=λz=>by rw[z]at hul;omega
  have su:=hS u (by omega);have hu1:=hui (u+1) (by omega) (by omega);obtain⟨v,hv,ho,hw1⟩:=id su;have e1:(w (u+1)).1=v.other:=by rw[hw1]
  have e2:(w (u+1)).2=(w u).2+rz v.deed:=by rw[hw1]
  have hup:v.deed = "up"/\rz v.deed=1:=by
   rcases fC (ok v hv).dd ho with⟨hd,hz⟩|⟨_,hz⟩|⟨_,_,hz⟩|⟨_,_,hz⟩
   ·exact⟨hd,hz⟩
   ·omega
   ·omega
   ·omega
  have hin1:=hin (u+1) (by omega);have hinu:=hin u (by omega);have inner:=xh ok (n-(u+1)) w (u+1) ((i:Int)+1) (by omega) (λk hk1 hk2=>hS k (by omega)) (λk hk1 hk2=>by have:=hui k (by omega) (by omega);omega) (by omega) (by rw[show u+1+(n-(u+1))=n by omega];exact wn2) hin1.1 hin1.2.1;rw[show u+1+(n-(u+1))=n by omega,e1,show (w n).1.toNat=r by rw[wn];exact Ft r]at inner;refine⟨(w u).1.toNat,by omega,⟨u,?_⟩,v,hv,hup.1,by rw[gg ho],inner⟩;have seg:=Bfs.jg (S:=cX ws) (w:=w) (i:=0) (j:=u) (by omega) (λk _ hk=>hS k (by omega));rw[w0,Nat.sub_zero]at seg;have hwu:w u=((((w u).1.toNat:Nat):Int),(i:Int)):=Prod.ext (by show(w u).1=(((w u).1.toNat:Nat):Int);omega) hul;rw[hwu]at seg;exact seg
 ·rintro⟨p,hp,hr,v,hv,hd,hroom,hk⟩;have okv:=ok v hv;have r0:=okv.r0;have o0:=okv.o0;have st:cX ws ((p:Int),(i:Int)) (((v.other.toNat:Nat):Int),(i:Int)+1):=⟨v,hv,gG (by show v.room=((p:Nat):Int);omega) (.inl hd),by rw[hd,iR];exact Prod.ext (by show((v.other.toNat:Nat):Int)=v.other;omega) rfl⟩;have hs:=vn ok hk ((i:Int)+1) (by omega);have:=(hr.trans (.one st)).trans hs;rw[show ((i+1:Nat):Int)=(i:Int)+1 by omega];exact this
def Ad{x:Bfs.Pl}(hx:0<=x.1/\x.1<m/\0<=x.2){M:Nat->Nat->Bool}(hM:∀i r:Nat,(i:Int)<=x.2->(r:Int)<m->(M i r=true↔∃n,Bfs.Rw (LB ws m.toNat x.2) n x ((r:Int),(i:Int)))):∀i r:Nat,r<m.toNat->(fF m.toNat (br ws m.toNat) x.2.toNat M i r=true↔aR ws x ((r:Int),(i:Int))):=by
 have hxT:bR m x.2 x:=⟨hx.1,hx.2.1,hx.2.2,Int.le_refl _⟩;have low:∀i r:Nat,(i:Int)<=x.2->r<m.toNat->(M i r=true↔aR ws x ((r:Int),(i:Int))):=λi r hi hr=>(hM i r hi (by omega)).trans (BX ok hx.2.2 hxT rfl hi);have high:∀k r:Nat,r<m.toNat->(bA m.toNat (br ws m.toNat) (M x.2.toNat) k r=true↔aR ws x ((r:Int),((x.2.toNat+k:Nat):Int))):=by
  intro k;induction k with
  | zero=>exact λr hr=>low x.2.toNat r (by omega) hr
  | succ k ih=>
   intro r hr;show g9 _ _ _ r=true↔_;rw[i7,show x.2.toNat+(k+1)=x.2.toNat+k+1 by omega,sR ok hx (by omega)];constructor
   ·rintro⟨i,hi,h1,h2⟩;exact⟨i,hi,(ih i hi).mp h1,h2⟩
   ·rintro⟨i,hi,h1,h2⟩;exact⟨i,hi,(ih i hi).mpr h1,h2⟩
 intro i r hr;unfold fF;by_cases hi:i<x.2.toNat
 ·rw[Ge hi];exact low i r (by omega) hr
 ·rw[Gb hi,high (i-x.2.toNat) r hr,show x.2.toNat+(i-x.2.toNat)=i by omega]
end
def uD(K:Fb):Sp:=λvs H Q _=>∃lq rs m F b N r,vs=[.ref lq,.int (b:Nat),.int (r:Nat)]/\Rows H lq rs m F/\rs.length=b+N/\1<=N/\b+N<=20000/\r<m/\bD (λi=>F i r) b N/\∀v (l d:Nat) H',Ext H H'->Least (λi=>F i r) d l->l<=b->d<=N->dz H' v l d (row (λi=>F i r) 0 l) (row (λi=>F i r) l d)->Q v H'
abbrev mw:Stmt:=stq 53
def xC:FnScope ["levels","base","room"] ["levels","base","room"] (aH mw):=⟨rfl,rfl,rfl,by decide +kernel,rfl,by decide +kernel,by decide +kernel⟩
def BS{P:Program}{w:World}{K:Fb}{mg:Str->Option Value}{base:Heap}(D:Dfn K mg "stair_of_room" mw ["levels","base","room"])(T:Blt mg)(C_stair_of_marks:Cal P w K mg base "stair_of_marks" 2 ["marks","base"] (wz K)):Cal P w K mg base "stair_of_room" 3 ["levels","base","room"] (uD K):=by
 have nd:=(xC).nd;refine D.ok xC (λvs H Q E h=>?_) (λX hX H vs Q E h=>?_)
 ·obtain⟨lq,rs,m,F,b,N,r,rfl,_⟩:=h;rfl
 ·obtain⟨f,cdv,A,outer,s,H0,E0,rfl,hr⟩:=hX;obtain⟨lq,rs,m,F,b,N,r,rfl,rows,hrl,hN,hbN,hr',hper,q⟩:=h;refine⟨_,(av (aF (aB C_stair_of_marks hr (aa (de ["level"] [2] (bW K (pv 0)) (λ_=>(aM (i:=0) (show(["level","room"]:List Str).Nodup from by decide +kernel) rfl (Or.inl rfl) (Or.inr rfl))) (λ_=>dR) (λ_=>(ao (aJ K) (pv 0) (pv 1) (λ_ _=>rfl)))) (aa (pv 1) af))))),?_⟩;walk_at"";refine bZ (ag.of rows.1) ?_;refine fD (xs:=List.map V.ref rs) (λi ys H'=>H'=H/\ys=aT i (λi=>F i r)) (FP (show(List.map V.ref rs).length<=20000 by rw[Ff];omega) (by decide)) ⟨rfl,rfl⟩ (λi ys H' _ h=>⟨by rw[h.1];exact ag.of rows.1,by rw[h.2,cV];exact FA _⟩) ?_ ?_
  ·rintro i v ys H1 hx ⟨rfl,rfl⟩;rw[Fh]at hx;obtain⟨a,ha,rfl⟩:=Fs.mp hx;have hrow:=rows.2 i a ha;walk_at"";refine aG ?_;walk_at"";refine aK (ag.of hrow) (ee (by omega) (by omega)) ?_;rw[Ft];refine⟨rfl,?_⟩;rw[jm]
  ·rintro ys H1 p9 ⟨hH,rfl⟩ hp9;subst hH;rw[Ff,hrl];have e1:=bq (o:=.lst (aT (b+N) λi=>F i r)) hp9;have h9:(upd H1 p9 (.lst (aT (b+N) λi=>F i r))) p9=_:=aL;generalize upd H1 p9 (.lst (aT (b+N) λi=>F i r))=H2 at e1 h9 ⊢;walk_at"";exact⟨p9,b,N,_,rfl,hN,hbN,h9,hper,λv l d H3 e3 hL hl hd hst=>q v l d H3 (e1.trans e3) hL hl hd hst⟩
def il(H:Hp)(vs:List V)(m:Int)(ws:List Way)(x:Bfs.Pl):Prop:=(vs.length:Int)=m/\∀(r:Nat) (v:V),vs[r]?=some v->∃(F:Nat->Bool) (l d:Nat),dz H v l d (row F 0 l) (row F l d)/\Least F d l/\1<=d/\l+d<=5200/\∀i:Nat,F i=true↔aR ws x ((r:Int),(i:Int))
def pM(K:Fb):Sp:=λvs H Q _=>∃vh m ws pa x,vs=[vh,.ref pa]/\bj H vh m ws/\HOuse m ws/\aw H pa x/\cY m x/\fm K/\Tbs K H/\∀l xs H',Et H H'->Tbs K H'->(∀o,H l=some o->∃ps,o=.tbl ps)->H' l=some (.lst xs)->il H' xs m ws x->Q (.ref l) H'
abbrev ni:Stmt:=stq 54
def um:FnScope ["house","place","told"] ["house","place"] (aH ni):=⟨rfl,rfl,rfl,by decide +kernel,rfl,by decide +kernel,by decide +kernel⟩
def zc{P:Program}{w:World}{K:Fb}{mg:Str->Option Value}{base:Heap}(D:Dfn K mg "forward" ni ["house","place"])(T:Blt mg)(C_stair_of_room:Cal P w K mg base "stair_of_room" 3 ["levels","base","room"] (uD K))(C_all_levels:Cal P w K mg base "all_levels" 9 ["house","place"] (w4 K))(C_refuse_bad_places:Cal P w K mg base "refuse_bad_places" 3 ["house","places"] (tZ K))(C_refuse_no_house:Cal P w K mg base "refuse_no_house" 6 ["thing"] (kJ K)):Cal P w K mg base "forward" 10 ["house","place"] (pM K):=by
 have nd:=(um).nd;refine D.ok um (λvs H Q E h=>?_) (λX hX H vs Q E h=>?_)
 ·obtain⟨vh,m,ws,pa,x,rfl,_⟩:=h;rfl
 ·obtain⟨f,cdv,A,outer,s,H0,E0,rfl,hr⟩:=hX;obtain⟨vh,m,ws,pa,x,rfl,hv,ok,hpx,ix,dis,htb,q⟩:=h;have m1:=ok.m1;have m12:=ok.m12;refine⟨_,(aq (bp (aB C_refuse_no_house hr (aa (pv 0) af)))
    (aq (bp (aB C_refuse_bad_places hr (aa (pv 0) (aa (bx (aa (pv 1) af)) af))))
    (aq (aE (i:=2) nd rfl (Or.inr rfl) (aB C_all_levels hr (aa (pv 0) (aa (pv 1) af))))
    (av (aF (de ["room"] [2] (cW rfl T.range_ (aa (ao (ay K) (pv 0) ae (λ_ _=>rfl)) af)) (λ_=>(aM (i:=0) (show(["room","told"]:List Str).Nodup from by decide +kernel) rfl (Or.inl rfl) (Or.inr rfl))) (λ_=>dR) (λ_=>(aB C_stair_of_room hr (aa (ao (ay K) (pv 1) ae (λ_ _=>rfl)) (aa (ao (ay K) (pv 1) ae (λ_ _=>rfl)) (aa (pv 0) af))))))))))),?_⟩
  walk_at"";refine⟨vh,m,ws,rfl,hv,ok,λH1 e1=>?_⟩;obtain⟨hp0,hq0,hvr,hh,_⟩:=id (hv.ext e1);subst hvr;walk_at"";refine aO λpl H2 e2 hpl _=>?_;have e02:=e1.trans e2;walk_at"";refine⟨hp0,.ref hq0,m,pl,[pa],[x],rfl,e2 _ _ hh,hpl,.cons (e02 _ _ hpx) .nil,λy hy=>by rw[Fq.mp hy];exact ix,?_⟩;walk_at"";refine⟨.ref hp0,m,ws,pa,x,rfl,hv.ext e02,ok,e02 _ _ hpx,ix,dis,htb.ext e02,λp lq rs b N M H3 e3 tb3 hp rows hrl hN hbN hper hM=>?_⟩;have hiff:=Ad ok.ok ⟨ix.1,ix.2.1,ix.2.2.1⟩ hM;generalize fF m.toNat (br ws m.toNat) x.2.toNat M=F at rows hper hiff;have hh3:H3 hp0=some (.tup [.int m,.ref hq0]):=e3 _ _ (e2 _ _ hh) (λps z=>by cases z);walk_at"";refine ax (ah.of hh3) (v:=.int m) rfl ?_;walk_at"";refine cR (by omega) ?_;refine fP (λi ys H'=>Ext H3 H'/\ys.length=i/\∀(r:Nat) (v:V),ys[r]?=some v->∃(F:Nat->Bool) (l d:Nat),dz H' v l d (row F 0 l) (row F l d)/\Least F d l/\1<=d/\l+d<=5200/\∀i:Nat,F i=true↔aR ws x ((r:Int),(i:Int))) (bL (by omega)) ⟨Ext.rfl' _,rfl,λr v h=>by simp at h⟩ (λi ys H' _ h=>Nat.le_of_eq h.2.1) ?_ ?_
  ·rintro i ys H4 hi ⟨e4,hyl,hys⟩;rw[show (0:Int)+(i:Int)=((i:Nat):Int) by omega];have hp4:=e4 _ _ hp;walk_at"";refine aG ?_;walk_at"";refine ax (ah.of hp4) (v:=.ref lq) rfl ?_;walk_at"";refine ax (ah.of hp4) (v:=.int (b:Nat)) rfl ?_;walk_at"";refine⟨lq,rs,m.toNat,F,b,N,i,rfl,rows.ext e4,hrl,hN,by omega,hi,hper i hi,λv l d H5 e5 hL hl hd hst=>?_⟩;refine⟨e4.trans e5,by rw[Fy,hyl];rfl,λr v' hv'=>?_⟩;by_cases hrl2:r<ys.length
   ·rw[FH hrl2]at hv';obtain⟨F',l',d',a1,a2⟩:=hys r v' hv';exact⟨F',l',d',a1.ext e5,a2⟩
   ·rw[FG (by omega)]at hv';have hz:r-ys.length=0:=by have:=(Fo.mp hv').1;simp at this;omega
    rw[hz]at hv';cases hv';have hri:r=i:=by omega
    subst hri;exact⟨λj=>F j r,l,d,hst,hL,hL.pos,by omega,λj=>hiff j r hi⟩
  ·rintro ys H4 p9 ⟨e4,hyl,hys⟩ hp9;have e5:=bq (o:=.lst ys) hp9;have e35:=e4.trans e5;walk_at"";refine q p9 ys _ ((e02.et.trans e3).trans e35.et) (tb3.ext e35) (λo ho=>Classical.byContradiction λz=>by have:=((e02.et.trans e3).trans e4.et) p9 o ho λps w=>z ⟨ps,w⟩;rw[hp9]at this;cases this) aL ⟨by omega,λr v hv=>?_⟩
   obtain⟨F',l',d',a1,a2⟩:=hys r v hv;exact⟨F',l',d',a1.ext e5,a2⟩
def xN{m:Int}{ws:List Way}(ok:∀w∈ws,w.Ok m){p r:Nat}(h:br ws m.toNat p r):p<m.toNat/\r<m.toNat:=by obtain⟨v,hv,hd,hroom,hk⟩:=h;have:=Kpt.lt ok hk;have r1:=(ok v hv).r1;have r0:=(ok v hv).r0;omega
def sD{m:Int}{ws:List Way}(ok:∀w∈ws,w.Ok m){x:Bfs.Pl}(hx:0<=x.1/\x.1<m/\0<=x.2):∀k r:Nat,r<m.toNat->(aR ws x ((r:Int),((x.2.toNat+k:Nat):Int))↔∃s,s<m.toNat/\aR ws x ((s:Int),x.2)/\Rnd.Wg (br ws m.toNat) k s r):=by
 intro k;induction k with
 | zero=>
  intro r hr;rw[show ((x.2.toNat+0:Nat):Int)=x.2 by omega];constructor
  ·exact λh=>⟨r,hr,h,.nil⟩
  ·rintro⟨s,_,h,w⟩;cases w;exact h
 | succ k ih=>
  intro r hr;rw[show x.2.toNat+(k+1)=x.2.toNat+k+1 by omega,sR ok hx (by omega)];constructor
  ·rintro⟨p,hp,h,hs⟩;obtain⟨s,h1,h2,h3⟩:=(ih p hp).mp h;exact⟨s,h1,h2,.snoc h3 hs⟩
  ·rintro⟨s,h1,h2,h3⟩;cases h3 with
   | @snoc _ _ p _ h3 hs=>
    have:=xN ok hs;exact⟨p,this.1,(ih p this.1).mpr ⟨s,h1,h2,h3⟩,hs⟩
def il.near{H:Hp}{xs:List V}{m:Int}{ws:List Way}{x:Bfs.Pl}(h:il H xs m ws x)(ok:HOuse m ws)(ix:cY m x):∃P,1<=P/\P<=81/\∀(r:Nat) (v:V),xs[r]?=some v->∃(F:Nat->Bool) (l d:Nat),dz H v l d (row F 0 l) (row F l d)/\Least F d l/\1<=d/\d ∣ P/\l<=1288/\∀i:Nat,F i=true↔aR ws x ((r:Int),(i:Int)):=by
 have m1:=ok.m1;have m12:=ok.m12;obtain⟨ix0,ix1,ix2,ix3⟩:=ix;have hn:m.toNat<=12:=by omega
 obtain⟨P,hP1,hP81,hP⟩:=Rnd.round (n:=m.toNat) (A:=br ws m.toNat) (λi j h=>xN ok.ok h) hn;have hnn:m.toNat*m.toNat<=12*12:=Nat.mul_le_mul hn hn;have hn1:m.toNat<=m.toNat*m.toNat:=Nat.le_mul_of_pos_right _ (by omega);refine⟨P,hP1,hP81,λr v hv=>?_⟩;obtain⟨F,l,d,hst,hL,hd,_,hF⟩:=h.2 r v hv;have hr:r<m.toNat:=by have:=(Fo.mp hv).1;have:=h.1;omega
 have per:bD F (x.2.toNat+288) P:=λy hy=>by
  obtain⟨k,rfl⟩:∃k,y=x.2.toNat+k:=⟨y-x.2.toNat,by omega⟩;rw[FU,hF,hF,show x.2.toNat+k+P=x.2.toNat+(k+P) by omega,sD ok.ok ⟨ix0,ix1,ix2⟩ _ r hr,sD ok.ok ⟨ix0,ix1,ix2⟩ _ r hr];constructor
  ·rintro⟨s,h1,h2,h3⟩;exact⟨s,h1,h2,hP s r (k+P) k h1 (by omega) (by omega) (Nat.add_mod_right k P) h3⟩
  ·rintro⟨s,h1,h2,h3⟩;exact⟨s,h1,h2,hP s r k (k+P) h1 (by omega) (by omega) (Nat.add_mod_right k P).symm h3⟩
 obtain⟨hdP,hl⟩:=Rnd.BP hL hP1 per;exact⟨F,l,d,hst,hL,hd,hdP,by omega,hF⟩
structure Gd(b s:Int)(o a:List Int):Prop where
 ok:Ok b s o a
 b3:b<=3000
 s8:s<=840
def wZ{lo hi x:Int}{r:List Int}:fL lo hi (x::r)↔lo<=x/\x<hi/\fL (x+1) hi r:=by
 constructor
 ·rintro⟨h1,h2⟩;obtain⟨p1,p2⟩:=List.pairwise_cons.mp h1;have hx:=h2 x Fm;exact⟨hx.1,hx.2,p2,λz hz=>⟨by have:=p1 z hz;omega,(h2 z (Fi _ hz)).2⟩⟩
 ·rintro⟨h1,h2,h3,h4⟩;refine⟨List.pairwise_cons.mpr ⟨λz hz=>by have:=h4 z hz;omega,h3⟩,λz hz=>?_⟩;rcases Fv.mp hz with rfl|hz
  ·exact⟨h1,h2⟩
  ·have:=h4 z hz;exact⟨by omega,this.2⟩
def wV(K:Fb):Sp:=λvs H Q _=>∃(p:Addr) (lo hi:Int) (xs:List Int),vs=[.ref p,.int lo,.int hi]/\H p=some (.tup (xs.map V.int))/\fL lo hi xs/\Q (.bl true) H
abbrev lb:Stmt:=stq 10
def xa:FnScope ["thing","low","end","lowest","number"] ["thing","low","end"] (aH lb):=⟨rfl,rfl,rfl,by decide +kernel,rfl,by decide +kernel,by decide +kernel⟩
def Dd{P:Program}{w:World}{K:Fb}{mg:Str->Option Value}{base:Heap}(D:Dfn K mg "is_rising_row" lb ["thing","low","end"])(T:Blt mg)(C_is_whole:Cal P w K mg base "is_whole" 1 ["thing"] (i5 K)):Cal P w K mg base "is_rising_row" 2 ["thing","low","end"] (wV K):=by
 have nd:=(xa).nd;refine D.ok xa (λvs H Q E h=>?_) (λX hX H vs Q E h=>?_)
 ·obtain⟨p,lo,hi,xs,rfl,_⟩:=h;rfl
 ·obtain⟨f,cdv,A,outer,s,H0,E0,rfl,hr⟩:=hX;obtain⟨p,lo,hi,xs,rfl,hp,hri,q⟩:=h;refine⟨_,(aq (bo (bY (bB (aX dJ rfl T.isinstance_ PyProof.Rows.boot_isinstance (aa (pv 0) (aa (dO (v:=.ty "tuple") rfl T.tuple_ PyProof.Rows.boot_tuple rfl) af))))) (av (aF bO)) aV)
    (aq (aE (i:=3) nd rfl (Or.inl rfl) (pv 1))
    (aq (bM PassesOwn.never rfl (iE K (pv 0)) (aM (i:=4) nd rfl (Or.inl rfl)) (aq (bo (PW.pt (cE (bY (bB (aB C_is_whole hr (aa (pv 4) af)))) (cE (aQ cZ (pv 4) (pv 3) (aN _)) (dj (aQ mO (pv 4) (pv 2) (aN _)))))) (av (aF bO)) aV)
    (av (aE (i:=3) nd rfl (Or.inl rfl) (aA aY (pv 4) ae)))))
    (av (aF bO))))),?_⟩
  walk_at"";refine dG (n:="tuple") (.inr ⟨rfl,_,hp⟩) (b:=true) rfl ?_;walk_at"";refine az ?_;walk_at"";refine iu (ah.of hp) ?_;refine yn (xs:=xs.map V.int) (λi σ H'=>H'=H/\∃lw w,σ=[some (.ref p),some (.int lo),some (.int hi),some (.int lw),w]/\fL lw hi (xs.drop i))
   ⟨rfl,lo,none,rfl,hri⟩ (λi σ H' _ h=>by rw[h.1];exact ah.of hp) ?_ ?_
  ·rintro i u σ H' hu ⟨rfl,lw,w,rfl,e⟩;obtain⟨x,rfl,hx⟩:=jl hu;have hd:xs.drop i=x::xs.drop (i+1):=by obtain⟨hi',rfl⟩:=Fo.mp hx;exact List.drop_eq_getElem_cons hi'
   rw[hd]at e;obtain⟨h1,h2,h3⟩:=wZ.mp e;walk_at"";refine⟨_,"int",rfl,rfl,?_⟩;walk_at"";refine az ?_;walk_at"";rw[F9 (show ¬x<lw by omega)];refine az ?_;walk_at"";rw[F9 (show ¬hi<=x by omega)];refine az ?_;walk_at"";exact⟨rfl,_,_,rfl,h3⟩
  ·rintro σ H' ⟨rfl,lw,w,rfl,_⟩;walk_at"";exact q
def vj(K:Fb):Sp:=λvs H Q _=>∃(b s:Int) (o a:List Int) (q r:Addr),vs=[.int b,.int s,.ref q,.ref r]/\H q=some (.tup (o.map V.int))/\H r=some (.tup (a.map V.int))/\Ok b s o a/\Q (.bl true) H
abbrev oh:Stmt:=stq 11
def wX:FnScope ["base","step","once","again"] ["base","step","once","again"] (aH oh):=⟨rfl,rfl,rfl,by decide +kernel,rfl,by decide +kernel,by decide +kernel⟩
def EG{P:Program}{w:World}{K:Fb}{mg:Str->Option Value}{base:Heap}(D:Dfn K mg "are_stair_places" oh ["base","step","once","again"])(T:Blt mg)(C_is_rising_row:Cal P w K mg base "is_rising_row" 2 ["thing","low","end"] (wV K))(C_is_whole:Cal P w K mg base "is_whole" 1 ["thing"] (i5 K)):Cal P w K mg base "are_stair_places" 3 ["base","step","once","again"] (vj K):=by
 have nd:=(wX).nd;refine D.ok wX (λvs H Q E h=>?_) (λX hX H vs Q E h=>?_)
 ·obtain⟨b,s,o,a,q,r,rfl,_⟩:=h;rfl
 ·obtain⟨f,cdv,A,outer,s,H0,E0,rfl,hr⟩:=hX;obtain⟨b,s',o,a,q',r,rfl,h2,h3,hok,q⟩:=h;have hb:=hok.hb;have hs:=hok.hs;refine⟨_,(aq (bo (PW.pt (cE (bY (bB (aB C_is_whole hr (aa (pv 0) af)))) (cE (bY (bB (aB C_is_whole hr (aa (pv 1) af)))) (cE (aQ cZ (pv 0) ae (aN _)) (dj (aQ cZ (pv 1) ae (aN _))))))) (av (aF bO)) aV)
    (av (aF (di (aB C_is_rising_row hr (aa (pv 2) (aa ae (aa (pv 0) af)))) (dN (aB C_is_rising_row hr (aa (pv 3) (aa (pv 0) (aa (aA aY (pv 0) (pv 1)) af))))))))),?_⟩
  walk_at"";refine⟨_,"int",rfl,rfl,?_⟩;walk_at"";refine az ?_;walk_at"";refine⟨_,"int",rfl,rfl,?_⟩;walk_at"";refine az ?_;walk_at"";rw[F9 (show ¬b<0 by omega)];refine az ?_;walk_at"";rw[F9 (show ¬s'<1 by omega)];refine az ?_;walk_at"";refine⟨q',_,_,o,rfl,h2,hok.ho,?_⟩;walk_at"";refine aG ?_;walk_at"";exact⟨r,_,_,a,rfl,h3,hok.ha,q⟩
def wx(K:Fb):Sp:=λvs H Q _=>∃v b s o a,vs=[v]/\dz H v b s o a/\Ok b s o a/\Q (.bl true) H
abbrev nS:Stmt:=stq 12
def uK:FnScope ["thing"] ["thing"] (aH nS):=⟨rfl,rfl,rfl,by decide +kernel,rfl,by decide +kernel,by decide +kernel⟩
def Cs{P:Program}{w:World}{K:Fb}{mg:Str->Option Value}{base:Heap}(D:Dfn K mg "is_stair" nS ["thing"])(T:Blt mg)(C_are_stair_places:Cal P w K mg base "are_stair_places" 3 ["base","step","once","again"] (vj K)):Cal P w K mg base "is_stair" 4 ["thing"] (wx K):=by
 have nd:=(uK).nd;refine D.ok uK (λvs H Q E h=>?_) (λX hX H vs Q E h=>?_)
 ·obtain⟨v,b,s,o,a,rfl,_⟩:=h;rfl
 ·obtain⟨f,cdv,A,outer,s,H0,E0,rfl,hr⟩:=hX;obtain⟨v,b,s',o,a,rfl,⟨p,q',r,rfl,h1,h2,h3⟩,hok,q⟩:=h;refine⟨_,(aq (bo (PW.pt (cE (bY (bB (aX dJ rfl T.isinstance_ PyProof.Rows.boot_isinstance (aa (pv 0) (aa (dO (v:=.ty "tuple") rfl T.tuple_ PyProof.Rows.boot_tuple rfl) af))))) (dj (aQ eM (aX (cQ K) rfl T.len_ PySem.boot_len (aa (pv 0) af)) ae (aN _))))) (av (aF bO)) aV)
    (av (aF (aB C_are_stair_places hr (aa (ao (ay K) (pv 0) ae (λ_ _=>rfl)) (aa (ao (ay K) (pv 0) ae (λ_ _=>rfl)) (aa (ao (ay K) (pv 0) ae (λ_ _=>rfl)) (aa (ao (ay K) (pv 0) ae (λ_ _=>rfl)) af)))))))),?_⟩
  walk_at"";refine dG (n:="tuple") (.inr ⟨rfl,_,h1⟩) (b:=true) rfl ?_;walk_at"";refine az ?_;walk_at"";refine gh (ah.of h1) ?_;walk_at"";refine az ?_;walk_at"";refine ax (ah.of h1) rfl ?_;walk_at"";refine ax (ah.of h1) rfl ?_;walk_at"";refine ax (ah.of h1) rfl ?_;walk_at"";refine ax (ah.of h1) rfl ?_;walk_at"";exact⟨b,s',o,a,q',r,rfl,h2,h3,hok,q⟩
def sX(K:Fb):Sp:=λvs H Q _=>∃v b s o a,vs=[v]/\dz H v b s o a/\Ok b s o a/\Q .non H
abbrev mR:Stmt:=stq 13
def xR:FnScope ["thing"] ["thing"] (aH mR):=⟨rfl,rfl,rfl,by decide +kernel,rfl,by decide +kernel,by decide +kernel⟩
def CA{P:Program}{w:World}{K:Fb}{mg:Str->Option Value}{base:Heap}(D:Dfn K mg "refuse_no_stair" mR ["thing"])(T:Blt mg)(C_is_stair:Cal P w K mg base "is_stair" 4 ["thing"] (wx K)):Cal P w K mg base "refuse_no_stair" 5 ["thing"] (sX K):=by
 have nd:=(xR).nd;refine D.ok xR (λvs H Q E h=>?_) (λX hX H vs Q E h=>?_)
 ·obtain⟨v,b,s,o,a,rfl,_⟩:=h;rfl
 ·obtain⟨f,cdv,A,outer,s,H0,E0,rfl,hr⟩:=hX;obtain⟨v,b,s',o,a,rfl,hv,hok,q⟩:=h;refine⟨_,(av (bo (bY (bB (aB C_is_stair hr (aa (pv 0) af)))) (av iB) aV)),?_⟩;walk_at"";refine⟨v,b,s',o,a,rfl,hv,hok,?_⟩;walk_at"";exact az q
def tj(K:Fb):Sp:=λvs H Q _=>∃v b s o a,vs=[v]/\dz H v b s o a/\b<=3000/\s<=840/\Q .non H
abbrev nj:Stmt:=stq 14
def uw:FnScope ["stair"] ["stair"] (aH nj):=⟨rfl,rfl,rfl,by decide +kernel,rfl,by decide +kernel,by decide +kernel⟩
def En{P:Program}{w:World}{K:Fb}{mg:Str->Option Value}{base:Heap}(D:Dfn K mg "refuse_great_stair" nj ["stair"])(T:Blt mg)(g_GREATEST_STEP:∃t,mg "GREATEST_STEP" = some (.int 840 t))(g_GREATEST_BASE:∃t,mg "GREATEST_BASE" = some (.int 3000 t)):Cal P w K mg base "refuse_great_stair" 1 ["stair"] (tj K):=by
 have nd:=(uw).nd;refine D.ok uw (λvs H Q E h=>?_) (λX hX H vs Q E h=>?_)
 ·obtain⟨v,b,s,o,a,rfl,_⟩:=h;rfl
 ·obtain⟨f,cdv,A,outer,s,H0,E0,rfl,hr⟩:=hX;obtain⟨t_GREATEST_STEP,c_GREATEST_STEP⟩:=g_GREATEST_STEP;obtain⟨t_GREATEST_BASE,c_GREATEST_BASE⟩:=g_GREATEST_BASE;obtain⟨v,b,s',o,a,rfl,⟨p,q',r,rfl,h1,h2,h3⟩,hb,hs,q⟩:=h;refine⟨_,(aq (bo (aQ fB (ao (ay K) (pv 0) ae (λ_ _=>rfl)) (jb (v:=.int 3000) rfl c_GREATEST_BASE ⟨_,rfl⟩) (aN _)) (av iB) aV)
    (av (bo (aQ fB (ao (ay K) (pv 0) ae (λ_ _=>rfl)) (jb (v:=.int 840) rfl c_GREATEST_STEP ⟨_,rfl⟩) (aN _)) (av iB) aV))),?_⟩
  walk_at"";refine ax (ah.of h1) rfl ?_;walk_at"";rw[F9 (show ¬3000<b by omega)];refine az ?_;walk_at"";refine ax (ah.of h1) rfl ?_;walk_at"";rw[F9 (show ¬840<s' by omega)];exact az q
def xH(K:Fb):Sp:=λvs H Q _=>∃v b s o a,vs=[v]/\dz H v b s o a/\Gd b s o a/\Q .non H
abbrev ph:Stmt:=stq 15
def rA:FnScope ["thing"] ["thing"] (aH ph):=⟨rfl,rfl,rfl,by decide +kernel,rfl,by decide +kernel,by decide +kernel⟩
def B6{P:Program}{w:World}{K:Fb}{mg:Str->Option Value}{base:Heap}(D:Dfn K mg "refuse_bad_stair" ph ["thing"])(T:Blt mg)(C_refuse_great_stair:Cal P w K mg base "refuse_great_stair" 1 ["stair"] (tj K))(C_refuse_no_stair:Cal P w K mg base "refuse_no_stair" 5 ["thing"] (sX K)):Cal P w K mg base "refuse_bad_stair" 6 ["thing"] (xH K):=by
 have nd:=(rA).nd;refine D.ok rA (λvs H Q E h=>?_) (λX hX H vs Q E h=>?_)
 ·obtain⟨v,b,s,o,a,rfl,_⟩:=h;rfl
 ·obtain⟨f,cdv,A,outer,s,H0,E0,rfl,hr⟩:=hX;obtain⟨v,b,s',o,a,rfl,hv,hg,q⟩:=h;refine⟨_,(aq (bp (aB C_refuse_no_stair hr (aa (pv 0) af)))
    (av (bp (aB C_refuse_great_stair hr (aa (pv 0) af))))),?_⟩
  walk_at"";refine⟨v,b,s',o,a,rfl,hv,hg.ok,?_⟩;walk_at"";exact⟨v,b,s',o,a,rfl,hv,hg.b3,hg.s8,q⟩
def oP(x:Int)(xs:List Int):iG (.int x) (xs.map V.int)=xs.contains x:=by
 unfold iG;rw[List.any_map,FU,FT,List.contains_iff_mem];constructor
 ·rintro⟨y,hy,e⟩;have e':(y == x)=true:=e;rw[←(by simpa using e':y=x)];exact hy
 ·intro hx;exact⟨x,hx,by show(x == x)=true;simp⟩
def lh(xs:List Int):(xs.map V.int).all eT=true:=by rw[List.all_map,FR];intro x _;rfl
def xA(K:Fb):Sp:=λvs H Q _=>∃v x b s o a,vs=[v,.int x]/\dz H v b s o a/\Gd b s o a/\Q (.bl (mem b s o a x)) H
abbrev mT:Stmt:=stq 18
def sP:FnScope ["stair","x","base"] ["stair","x"] (aH mT):=⟨rfl,rfl,rfl,by decide +kernel,rfl,by decide +kernel,by decide +kernel⟩
def BH{P:Program}{w:World}{K:Fb}{mg:Str->Option Value}{base:Heap}(D:Dfn K mg "holds" mT ["stair","x"])(T:Blt mg)(C_refuse_bad_stair:Cal P w K mg base "refuse_bad_stair" 6 ["thing"] (xH K)):Cal P w K mg base "holds" 7 ["stair","x"] (xA K):=by
 have nd:=(sP).nd;refine D.ok sP (λvs H Q E h=>?_) (λX hX H vs Q E h=>?_)
 ·obtain⟨v,x,b,s,o,a,rfl,_⟩:=h;rfl
 ·obtain⟨f,cdv,A,outer,s,H0,E0,rfl,hr⟩:=hX;obtain⟨v,x,b,s',o,a,rfl,hv,hg,q⟩:=h;have hs:=hg.ok.hs;refine⟨_,(aq (bp (aB C_refuse_bad_stair hr (aa (pv 0) af)))
    (aq (aE (i:=2) nd rfl (Or.inl rfl) (ao (ay K) (pv 0) ae (λ_ _=>rfl)))
    (aq (bo (aQ cZ (pv 1) (pv 2) (aN _)) (av (aF (dC (pF K) (pv 1) (ao (ay K) (pv 0) ae (λ_ _=>rfl)) (by with_unfolding_all rfl)))) aV)
    (av (aF (dC (pF K) (aA aY (pv 2) (aA cJ (aA dD (pv 1) (pv 2)) (ao (ay K) (pv 0) ae (λ_ _=>rfl)))) (ao (ay K) (pv 0) ae (λ_ _=>rfl)) (by with_unfolding_all rfl))))))),?_⟩
  walk_at"";refine⟨v,b,s',o,a,rfl,hv,hg,?_⟩;obtain⟨p,q',r,rfl,h1,h2,h3⟩:=hv;walk_at"";refine ax (ah.of h1) rfl ?_;walk_at"";by_cases hx:x<b
  ·rw[Ga hx];refine aG ?_;walk_at"";refine ax (ah.of h1) rfl ?_;walk_at"";refine m9 (.inr (ah.of h2)) rfl (lh o) ?_;rw[lO _ hx]at q;rw[oP];exact q
  ·rw[F9 hx];refine az ?_;walk_at"";refine ax (ah.of h1) rfl ?_;walk_at"";refine ax (ah.of h1) rfl ?_;walk_at"";refine m9 (.inr (ah.of h3)) rfl (lh a) ?_;rw[nH _ (by omega)]at q;rw[oP];exact q
def Dx{K:Fb}{a:Addr}{xs:List V}{g:TG}{tb:TS}{D:Ends}{σ:St}{H:Hp}(Pv:Nat->St->Hp->Prop)(h0:Pv 0 σ H)(hl:∀i σ H,i<=xs.length->Pv i σ H->ag K H a xs)
  (hs:∀i u σ H p H',xs[i]?=some u->Pv i σ H->Ext H H'->H' p=some (.tup [.int i,u])->H p=none->g (.ref p) σ H' λσ2 H2=>tb ⟨Pv (i+1),D.rt,D.nx,Pv (i+1)⟩ σ2 H2) (hd:∀σ H,Pv xs.length σ H->D.nx σ H):hV (jC K a) g tb D σ H:=by
 refine⟨λi m σ H=>m=xs.length-i/\i<=xs.length/\Pv i σ H,⟨xs.length,by simp,Nat.zero_le _,h0⟩,?_⟩;rintro i m σ H ⟨rfl,hi,p⟩;have qa:=hl i σ H hi p;by_cases hlt:i<xs.length
 ·refine .inr ⟨⟨xs,xs[i],qa,by simp[hlt]⟩,Pv (i+1),λσ' H' p'=>⟨xs.length-(i+1),by omega,rfl,hlt,p'⟩,λx H' y=>?_⟩;obtain⟨pp,u,rfl,hn,rfl,yu⟩:=y;exact hs i u σ H pp _ (yu.2 xs qa) p (bq hn) aL hn
 ·have e:i=xs.length:=by omega
  subst e;exact .inl ⟨⟨xs,qa,FA _⟩,hd σ H p⟩
def lV{nx:Bfs.Pl->Nat->Option Bfs.Pl}:∀(a b:List Nat) (x:Bfs.Pl),Bfs.gone (nx:=nx) x (a++b)=(Bfs.gone (nx:=nx) x a).bind λy=>Bfs.gone (nx:=nx) y b
 | [],b,x=>rfl
 | k::a,b,x=>by
  show(nx x k).bind (λy=>Bfs.gone (nx:=nx) y (a++b))=((nx x k).bind λy=>Bfs.gone (nx:=nx) y a).bind _;cases nx x k with
  | none=>rfl
  | some u=>exact lV a b u
def aS(nx:Bfs.Pl->Nat->Option Bfs.Pl)(x:Bfs.Pl)(ks:List Nat)(j:Nat):Bfs.Pl:=(Bfs.gone (nx:=nx) x (ks.take j)).getD (0,0)
def fZ{nx:Bfs.Pl->Nat->Option Bfs.Pl}{x g:Bfs.Pl}{ks:List Nat}(h:Bfs.gone (nx:=nx) x ks=some g)(j:Nat):Bfs.gone (nx:=nx) x (ks.take j)=some (aS nx x ks j)/\Bfs.gone (nx:=nx) (aS nx x ks j) (ks.drop j)=some g:=by
 have e:=lV (nx:=nx) (ks.take j) (ks.drop j) x;rw[List.take_append_drop,h]at e;obtain⟨y,hy,hg⟩:=Option.bind_eq_some_iff.mp e.symm;have:aS nx x ks j=y:=by unfold aS;rw[hy];rfl
 rw[this];exact⟨hy,hg⟩
def ik{nx:Bfs.Pl->Nat->Option Bfs.Pl}{x g:Bfs.Pl}{ks:List Nat}(h:Bfs.gone (nx:=nx) x ks=some g){j k:Nat}(hk:ks[j]?=some k):nx (aS nx x ks j) k=some (aS nx x ks (j+1)):=by
 obtain⟨h1,h2⟩:=fZ h j;have hjl:=(Fo.mp hk).1;have hdr:ks.drop j=k::ks.drop (j+1):=by rw[List.drop_eq_getElem_cons hjl];rw[Fg hjl]at hk;cases hk;rfl
 rw[hdr]at h2;obtain⟨z,hz,_⟩:=Option.bind_eq_some_iff.mp (show(nx (aS nx x ks j) k).bind _=some g from h2);have:aS nx x ks (j+1)=z:=by unfold aS;rw[show ks.take (j+1)=ks.take j++[k] by rw[List.take_succ,hk];rfl,Bfs.lE h1 hz];rfl
 rw[this];exact hz
def wA{nx:Bfs.Pl->Nat->Option Bfs.Pl}{x g:Bfs.Pl}{ks:List Nat}(h:Bfs.gone (nx:=nx) x ks=some g)(a i:Nat):aS nx (aS nx x ks a) (ks.drop a) i=aS nx x ks (a+i):=by show(Bfs.gone (nx:=nx) (aS nx x ks a) ((ks.drop a).take i)).getD (0,0)=(Bfs.gone (nx:=nx) x (ks.take (a+i))).getD (0,0);rw[List.take_add,lV,(fZ h a).1];rfl
def DB{nx:Bfs.Pl->Nat->Option Bfs.Pl}{x:Bfs.Pl}{ks:List Nat}{n i:Nat}(hi:i<=n):aS nx x (ks.take n) i=aS nx x ks i:=by unfold aS;rw[List.take_take,Nat.min_eq_left hi]
def xi{nx:Bfs.Pl->Nat->Option Bfs.Pl}{g:Bfs.Pl}:∀{ks:List Nat} {x:Bfs.Pl},Bfs.gone (nx:=nx) x ks=some g->trail nx x ks=(F8 (ks.length+1)).map (aS nx x ks)
 | [],x,h=>rfl
 | k::r,x,h=>by obtain⟨u,hu,hg⟩:=Option.bind_eq_some_iff.mp (show(nx x k).bind _=some g from h);rw[FJ,List.range_succ_eq_map,List.map_cons,List.map_map];show x::((nx x k).map λy=>trail nx y r).getD []=x::_;rw[hu];show x::trail nx u r=_;rw[xi hg];congr 1;apply List.map_congr_left;intro j _;show aS nx u r j=((nx x k).bind λy=>Bfs.gone (nx:=nx) y (r.take j)).getD (0,0);rw[hu];rfl
def j1{nx:Bfs.Pl->Nat->Option Bfs.Pl}{x g:Bfs.Pl}{ks:List Nat}(h:Bfs.gone (nx:=nx) x ks=some g){j:Nat}(hj:j<=ks.length):(trail nx x ks)[j]?=some (aS nx x ks j):=by rw[xi h,Fh,List.getElem?_range (by omega)];rfl
def o5{m T:Int}{ws:List Way}(ok:HOuse m ws){a b:Bfs.Pl}{k:Nat}(h:aI ws T a k=some b):b.2<=a.2+1/\a.2<=b.2+1/\∀w,ws[k]?=some w->w.deed = "zero"->a.2=0/\b.2=0:=by
 obtain⟨w,hw,hr,hs,ho,ht⟩:=fQ h;have hd:=(ok.ok w (Fp hw)).dd;have e:=nG hd hs;have r1:=sI w.deed;have r2:=wO w.deed;refine⟨by omega,by omega,λw' hw' hz=>?_⟩;rw[hw]at hw';cases hw';rw[hz,gn]at hs;by_cases hn:a.2=0
 ·rw[Ga hn]at hs;exact⟨hn,by rw[←FX hs];exact hn⟩
 ·rw[F9 hn]at hs;cases hs
def oO{h:Nat->Int}{n:Nat}{v:Int}(hs:∀t,t<n->h (t+1)<=h t+1)(hn:v<h n):∀d i,i+d=n->(∀t,i<=t->t<=n->h t≠v)->v<h i
 | 0,i,e,_=>by rw[show i=n by omega];exact hn
 | d+1,i,e,hno=>by have h1:=oO hs hn d (i+1) (by omega) λt a b=>hno t (by omega) b;have h2:=hs i (by omega);have h3:=hno i (by omega) (by omega);omega
def BM{h:Nat->Int}{n:Nat}{v:Int}(hs:∀t,t<n->h (t+1)<=h t+1)(h0:h 0<=v)(hn:v<=h n):∃i,i<=n/\h i=v:=by refine Classical.byContradiction λno=>?_;have hne:∀t,t<=n->h t≠v:=λt ht e=>no ⟨t,ht,e⟩;have:=oO (v:=v) hs (by have:=hne n (FA _);omega) n 0 (by omega) λt _ ht=>hne t ht;omega
def fG(h:Nat->Int)(n:Nat)(v:Int)(i:Nat):Prop:=i<=n/\h i=v/\∀t,i<t->t<=n->h t≠v
def fG.above{h:Nat->Int}{n i:Nat}{v:Int}(hs:∀t,t<n->h (t+1)<=h t+1)(L:fG h n v i)(hv:v<h n):∀t,i<t->t<=n->v<h t:=λt a b=>
 oO hs hv (n-t) t (by omega) λu c d=>L.2.2 u (by omega) d
def fG.lt{h:Nat->Int}{n i j:Nat}{v u:Int}(hs:∀t,t<n->h (t+1)<=h t+1)(L:fG h n v i)(M:fG h n u j)(huv:v<u)(hu:u<=h n):i<j:=by
 have e1:=L.2.1;have e2:=M.2.1;rcases Nat.lt_trichotomy i j with z|z|z
 ·exact z
 ·subst z;omega
 ·by_cases hq:u<h n
  ·have:=M.above hs hq i z L.1;omega
  ·have:=M.2.2 i z L.1;have hn:h n=u:=by omega
   have:j=n:=Classical.byContradiction λw=>M.2.2 n (by have:=M.1;omega) (FA _) hn;have:=L.1;omega
def iS(kvs:List (Key×V))(ps:List Bfs.Pl)(j:Nat):Prop:=∀(i:Nat) (p:Bfs.Pl),i<j->ps[i]?=some p->∃(i':Nat) (p':Bfs.Pl),i'<j/\ps[i']?=some p'/\p'.2=p.2/\aZ kvs (.inl p.2)=some (.int (i':Int))/\∀t q,i'<t->t<j->ps[t]?=some q->q.2≠p.2
def iS.add{kvs:List (Key×V)}{ps:List Bfs.Pl}{j:Nat}{p:Bfs.Pl}(h:iS kvs ps j)(hp:ps[j]?=some p):iS (putK kvs (.inl p.2) (.int (j:Int))) ps (j+1):=λi p1 hi hp1=>by
 by_cases e:p1.2=p.2
 ·refine⟨j,p,by omega,hp,e.symm,by rw[e,jQ,Ge rfl],λt q h1 h2=>by omega⟩
 ·have hij:i<j:=by
   rcases(show i<j\/i=j by omega)with z|z
   ·exact z
   ·subst z;rw[hp]at hp1;cases hp1;exact absurd rfl e
  obtain⟨i',p',h1,h2,h3,h4,h5⟩:=h i p1 hij hp1;refine⟨i',p',by omega,h2,h3,by rw[jQ,Gb (λz=>e (Sum.inl.inj z))];exact h4,λt q a b hq=>?_⟩;rcases(show t<j\/t=j by omega)with z|z
  ·exact h5 t q a z hq
  ·subst z;rw[hp]at hq;cases hq;exact λw=>e w.symm
def ua(K:Fb):Sp:=λvs H Q _=>∃(l:Addr) (as:List Addr) (ps:List Bfs.Pl),vs=[.ref l]/\H l=some (.lst (List.map V.ref as))/\Paired (aw H) as ps/\ps.length<=24013/\∀d kvs H',Ext H H'->H' d=some (.dK kvs)->iS kvs ps ps.length->Q (.ref d) H'
abbrev mW:Stmt:=stq 64
def xF:FnScope ["places","last","gone","met"] ["places"] (aH mW):=⟨rfl,rfl,rfl,by decide +kernel,rfl,by decide +kernel,by decide +kernel⟩
def yA{P:Program}{w:World}{K:Fb}{mg:Str->Option Value}{base:Heap}(D:Dfn K mg "last_met" mW ["places"])(T:Blt mg):Cal P w K mg base "last_met" 1 ["places"] (ua K):=by
 have nd:=(xF).nd;refine D.ok xF (λvs H Q E h=>?_) (λX hX H vs Q E h=>?_)
 ·obtain⟨l,as,ps,rfl,_⟩:=h;rfl
 ·obtain⟨f,cdv,A,outer,s,H0,E0,rfl,hr⟩:=hX;obtain⟨l,as,ps,rfl,hl,hp,hn,q⟩:=h;have hal:=Paired.length hp;refine⟨_,(@aq _ _ _ _ _ (@aE _ _ 1 _ _ _ _ nd rfl (Or.inl rfl) tW rfl (Or.inl rfl))
    (@aq _ _ _ _ _ (bM PassesOwn.never rfl (oF K rfl T.enumerate_ (@aa _ _ _ _ _ (pv 0) af rfl)) (dY (n:=2) K rfl (bE (aM (i:=2) nd rfl (Or.inl rfl)) (bE (aM (i:=3) nd rfl (Or.inl rfl)) dI))) (@av _ _ _ (kr (dw hr) (pv 1) (@ao _ _ _ _ _ _ _ (ay K) (pv 3) ae (λ_ _=>rfl)) (pv 2) rfl)))
    (@av _ _ _ (@aF _ _ _ _ (pv 1))))),?_⟩
  walk_at"";refine λd hdn=>?_;walk_at"";have e1:=bq (o:=.dK []) hdn;refine mI ?_;walk_at"";refine lL (ag.of (e1 _ _ hl)) ?_;refine Dx (xs:=List.map V.ref as) (λj σ H'=>∃kvs c1 c2,σ=[some (.ref l),some (.ref d),c1,c2]/\Ext H H'/\H' d=some (.dK kvs)/\kvs.length<=j/\iS kvs ps j) ⟨[],_,_,rfl,e1,aL,FA _,λi p h=>absurd h (Nat.not_lt_zero _)⟩ (λi σ H' _ h=>by obtain⟨_,_,_,_,e,_⟩:=h;exact ag.of (e _ _ hl)) ?_ ?_
  ·rintro j u σ H2 pp H3 hu ⟨kvs,c1,c2,rfl,e2,hd2,hk,hlm⟩ e3 hpp _;rw[Fh]at hu;obtain⟨b,hb,rfl⟩:=Fs.mp hu;obtain⟨p,hpj,hbp⟩:=fb hp hb;have hjl:=(Fo.mp hb).1;refine dU (ah.of hpp) rfl ?_;walk_at"";refine ax (ah.of ((e2.trans e3) _ _ hbp)) (v:=.int p.2) rfl ?_;refine⟨d,_,rfl,eJ.k (e3 _ _ hd2) (k:=.inl p.2) (dQ (by omega)),?_⟩;exact⟨_,_,_,rfl,cb (e2.trans e3) hdn,aL,FP (oo _ _ _) (by omega),hlm.add hpj⟩
  ·rintro σ H2 ⟨kvs,c1,c2,rfl,e2,hd2,hk,hlm⟩;rw[Ff,hal]at hlm;walk_at"";exact q d kvs H2 e2 hd2 hlm
structure Bg(kvs:List (Key×V))(rm:Nat->Int)(G:Nat->Nat)(c:Nat):Prop where
 yes:∀a,a<c->aZ kvs (.inl (rm (G a)))=some (.int (G a:Int))
 only:∀k v,aZ kvs k=some v->∃a,a<c/\k=.inl (rm (G a))/\v=.int (G a:Int)
 len:kvs.length=c
def Bg.add{kvs:List (Key×V)}{rm:Nat->Int}{G:Nat->Nat}{c:Nat}(h:Bg kvs rm G c)(hno:aZ kvs (.inl (rm (G c)))=none):Bg (putK kvs (.inl (rm (G c))) (.int (G c:Int))) rm G (c+1) where
 yes:=λa ha=>by
  rw[jQ];by_cases e:(Sum.inl (rm (G a)):Key)=.inl (rm (G c))
  ·rw[Ge e];rcases(show a<c\/a=c by omega)with z|z
   ·have:=h.yes a z;rw[e,hno]at this;cases this
   ·rw[z]
  ·rw[Gb e];rcases(show a<c\/a=c by omega)with z|z
   ·exact h.yes a z
   ·exact absurd (by rw[z]) e
 only:=λk v hv=>by
  rw[jQ]at hv;by_cases e:k=.inl (rm (G c))
  ·rw[Ge e]at hv;exact⟨c,by omega,e,(FX hv).symm⟩
  ·rw[Gb e]at hv;obtain⟨a,h1,h2⟩:=h.only k v hv;exact⟨a,by omega,h2⟩
 len:=by rw[oR _ hno,Fy,h.len];rfl
def Bg.few{kvs:List (Key×V)}{rm:Nat->Int}{G:Nat->Nat}{c n:Nat}(h:Bg kvs rm G c)(hG:∀a b,a<c->b<c->G a=G b->a=b)(hr:∀a,a<c->0<=rm (G a)/\rm (G a)<n):c<=n:=by
 have:=Bfs.gQ n ((F8 c).map λa=>(rm (G a)).toNat) (by
  unfold List.Nodup;rw[List.pairwise_map];refine List.Pairwise.imp_of_mem ?_ (List.pairwise_lt_range (n:=c));intro a b ha hb hab e;have ha:=List.mem_range.mp ha;have hb:=List.mem_range.mp hb;have h1:=hr a ha;have h2:=hr b hb;have e':rm (G a)=rm (G b):=by omega
  have y1:=h.yes a ha;rw[e',h.yes b hb]at y1;have:=hG b a hb ha (by have:=V.int.inj (FX y1);omega);omega) (λu hu=>by
  obtain⟨a,ha,rfl⟩:=List.mem_map.mp hu;have:=hr a (List.mem_range.mp ha);show(rm (G a)).toNat<n;omega)
 rw[Ff,List.length_range]at this;exact this
def iJ(m:Int)(ws:List Way)(x:Bfs.Pl)(as bs:List Nat):Prop:=∃(U:Int) (y z:Bfs.Pl),Bfs.gone (nx:=aI ws U) x as=some y/\Bfs.gone (nx:=aI ws U) y bs=some z/\z.1=y.1/\y.2<z.2/\0<bs.length/\(∀j,j<=bs.length->y.2<=(aS (aI ws U) y bs j).2)/\(∀k∈bs,∀w,ws[k]?=some w->w.deed≠"zero")/\((as.length+bs.length:Nat):Int)<=m*(x.2+m+m*m+1)
def vv{m U:Int}{ws:List Way}(ok:HOuse m ws){x:Bfs.Pl}(hx:bR m U x){n:Nat}{y:Bfs.Pl}(h:Bfs.Wk (aI ws U) x n y):bR m U y:=by
 induction h with
 | zero=>exact hx
 | succ _ hk ih=>exact nN ok ih.2.2.1 hk
def vA{m U:Int}{ws:List Way}(ok:HOuse m ws){x g:Bfs.Pl}{ks:List Nat}(hx:bR m U x)(h:Bfs.gone (nx:=aI ws U) x ks=some g):∀j,j<=ks.length->bR m U (aS (aI ws U) x ks j)
 | 0,_=>hx
 | j+1,hj=>nN ok (vA ok hx h j (by omega)).2.2.1 (ik h (Fg (by omega)))
def ze{m U:Int}{ws:List Way}(ok:HOuse m ws){x g:Bfs.Pl}{ks:List Nat}(hx:0<=x.2)(h:Bfs.gone (nx:=aI ws U) x ks=some g)(hg:g.2=x.2+m){a c i j:Nat}(hac:a<c)(hcm:(c:Int)<=m)
  (La:fG (λt=>(aS (aI ws U) x ks t).2) ks.length (x.2+(a:Int)) i) (Lc:fG (λt=>(aS (aI ws U) x ks t).2) ks.length (x.2+(c:Int)) j) (hr:(aS (aI ws U) x ks i).1=(aS (aI ws U) x ks j).1) (hn:(ks.length:Int)<=m*(x.2+m+m*m+1)) :
  i<j/\iJ m ws x (ks.take i) ((ks.drop i).take (j-i)):=by
 have hs:∀t,t<ks.length->(aS (aI ws U) x ks (t+1)).2<=(aS (aI ws U) x ks t).2+1:=λt ht=>(o5 ok (ik h (Fg ht))).1;have hend:(aS (aI ws U) x ks ks.length).2=x.2+m:=by have:=(fZ h ks.length).1;rw[FK,h]at this;rw[←FX this];exact hg
 have hij:i<j:=La.lt hs Lc (by omega) (by show _<=(aS (aI ws U) x ks ks.length).2;omega);have habove:=La.above hs (by show _<(aS (aI ws U) x ks ks.length).2;omega);have hjn:=Lc.1;have ea:(aS (aI ws U) x ks i).2=x.2+(a:Int):=La.2.1;have ec:(aS (aI ws U) x ks j).2=x.2+(c:Int):=Lc.2.1;obtain⟨g1,g2⟩:=fZ h i;have g3:=(fZ g2 (j-i)).1;rw[wA h,show i+(j-i)=j by omega]at g3;have hlen:((ks.drop i).take (j-i)).length=j-i:=by rw[F5,List.length_drop];omega
 refine⟨hij,U,_,_,g1,g3,hr.symm,by omega,by omega,λt ht=>?_,λk hk w hw hz=>?_,?_⟩
 ·rw[hlen]at ht;rw[DB ht,wA h,ea];rcases Nat.eq_zero_or_pos t with z|z
  ·subst z;show _<=(aS (aI ws U) x ks i).2;omega
  ·have:=habove (i+t) (by omega) (by omega);omega
 ·obtain⟨t,ht⟩:=List.mem_iff_getElem?.mp hk;have htl:=(Fo.mp ht).1;rw[List.getElem?_take_of_lt (by omega),List.getElem?_drop]at ht;have:=(o5 ok (ik h ht)).2.2 w hw hz;have:=habove (i+t+1) (by omega) (by omega);omega
 ·rw[hlen,F5];omega
def DK{xs:List V}{n:Nat}(hn:n<=xs.length):bV xs none (some (n:Int))=xs.take n:=by
 unfold bV;rw[HT.jU];have e:HT.aP xs.length xs.length (some (n:Int))=n:=by show(if(n:Int)<0 then((n:Int)+(xs.length:Int)).toNat else min (n:Int).toNat xs.length)=n;rw[Gb (by omega)];omega
 rw[e,List.drop_zero];simp
def zU{xs:List V}{a b:Nat}(hab:a<=b)(hn:b<=xs.length):bV xs (some (a:Int)) (some (b:Int))=(xs.drop a).take (b-a):=by
 unfold bV;have e:HT.aP xs.length xs.length (some (b:Int))=b:=by show(if(b:Int)<0 then((b:Int)+(xs.length:Int)).toNat else min (b:Int).toNat xs.length)=b;rw[Gb (by omega)];omega
 have e2:HT.aP xs.length 0 (some (a:Int))=a:=by show(if(a:Int)<0 then((a:Int)+(xs.length:Int)).toNat else min (a:Int).toNat xs.length)=a;rw[Gb (by omega)];omega
 rw[e,e2]
def wN(K:Fb):Sp:=λvs H Q _=>∃vh m ws pa ga x g,vs=[vh,.ref pa,.ref ga]/\bj H vh m ws/\HOuse m ws/\aw H pa x/\aw H ga g/\cY m x/\g.2=x.2+m/\(∃n,Bfs.cL (aI ws (cg m x g)) x n g)/\∀t l1 l2 as bs H',Ext H H'->H' t=some (.tup [.str "rises",.ref l1,.ref l2])->H' l1=some (.lst (bT as))->H' l2=some (.lst (bT bs))->iJ m ws x as bs->Q (.ref t) H'
abbrev ml:Stmt:=stq 65
def qT:FnScope ["house","place","goal","walk","places","last","begun","number","gone","first"] ["house","place","goal"] (aH ml):=⟨rfl,rfl,rfl,by decide +kernel,rfl,by decide +kernel,by decide +kernel⟩
def Ca{P:Program}{w:World}{K:Fb}{mg:Str->Option Value}{base:Heap}(D:Dfn K mg "rising_part" ml ["house","place","goal"])(T:Blt mg)(C_last_met:Cal P w K mg base "last_met" 1 ["places"] (ua K))(C_places_gone:Cal P w K mg base "places_gone" 3 ["house","place","walk"] (wQ K))(C_sought_walk:Cal P w K mg base "sought_walk" 4 ["house","place","goal"] (pS K)):Cal P w K mg base "rising_part" 5 ["house","place","goal"] (wN K):=by
 have nd:=(qT).nd;refine D.ok qT (λvs H Q E h=>?_) (λX hX H vs Q E h=>?_)
 ·obtain⟨vh,m,ws,pa,ga,x,g,rfl,_⟩:=h;rfl
 ·obtain⟨f,cdv,A,outer,s,H0,E0,rfl,hr⟩:=hX;obtain⟨vh,m,ws,pa,ga,x,g,rfl,hv,ok,hpx,hpg,ix,hgx,⟨n0,hD0⟩,q⟩:=h;have m1:=ok.m1;have m2:=ok.m12;obtain⟨x0,x1,x2,x3⟩:=id ix;refine⟨_,(@aq _ _ _ _ _ (@aE _ _ 3 _ _ _ _ nd rfl (Or.inl rfl) (aB C_sought_walk hr (@aa _ _ _ _ _ (pv 0) (@aa _ _ _ _ _ (pv 1) (@aa _ _ _ _ _ (pv 2) af rfl) rfl) rfl)) rfl (Or.inl rfl))
    (@aq _ _ _ _ _ (@aE _ _ 4 _ _ _ _ nd rfl (Or.inl rfl) (aB C_places_gone hr (@aa _ _ _ _ _ (pv 0) (@aa _ _ _ _ _ (pv 1) (@aa _ _ _ _ _ (pv 3) af rfl) rfl) rfl)) rfl (Or.inl rfl))
    (@aq _ _ _ _ _ (@aE _ _ 5 _ _ _ _ nd rfl (Or.inl rfl) (aB C_last_met hr (@aa _ _ _ _ _ (pv 4) af rfl)) rfl (Or.inl rfl))
    (@aq _ _ _ _ _ (@aE _ _ 6 _ _ _ _ nd rfl (Or.inl rfl) tW rfl (Or.inl rfl))
    (@aq _ _ _ _ _ (@aE _ _ 7 _ _ _ _ nd rfl (Or.inl rfl) (@ao _ _ _ _ _ _ _ (ay K) (pv 1) ae (λ_ _=>rfl)) rfl (Or.inl rfl))
    (@aq _ _ _ _ _ (@aE _ _ 8 _ _ _ _ nd rfl (Or.inl rfl) (iT (dw hr) (pv 5) (pv 7) (λ_ _=>rfl)) rfl (Or.inl rfl))
    (@aq _ _ _ _ _ (gq PassesOwn.never (jh (iO (dw hr) (@ao _ _ _ _ _ _ _ (ay K) (@ao _ _ _ _ _ _ _ (aJ K) (pv 4) (pv 8) (λ_ _=>rfl)) ae (λ_ _=>rfl)) (pv 6)) (by with_unfolding_all rfl)) (@aq _ _ _ _ _ (kr (dw hr) (pv 6) (@ao _ _ _ _ _ _ _ (ay K) (@ao _ _ _ _ _ _ _ (aJ K) (pv 4) (pv 8) (λ_ _=>rfl)) ae (λ_ _=>rfl)) (pv 8) rfl)
    (@aq _ _ _ _ _ (jt (i:=7) nd rfl (Or.inl rfl) ae jL)
    (@av _ _ _ (@aE _ _ 8 _ _ _ _ nd rfl (Or.inl rfl) (iT (dw hr) (pv 5) (pv 7) (λ_ _=>rfl)) rfl (Or.inl rfl))))))
    (@aq _ _ _ _ _ (@aE _ _ 9 _ _ _ _ nd rfl (Or.inl rfl) (iT (dw hr) (pv 6) (@ao _ _ _ _ _ _ _ (ay K) (@ao _ _ _ _ _ _ _ (aJ K) (pv 4) (pv 8) (λ_ _=>rfl)) ae (λ_ _=>rfl)) (λ_ _=>rfl)) rfl (Or.inl rfl))
    (@av _ _ _ (@aF _ _ _ _ (@bz _ _ _ _ _ (@aa _ _ _ _ _ aW (@aa _ _ _ _ _ (fY (gC K) (pv 3) gY (eX (pv 9))) (@aa _ _ _ _ _ (fY (gC K) (pv 3) (eX (pv 9)) (eX (pv 8))) af rfl) rfl) rfl)))))))))))),?_⟩
  walk_at"";refine⟨vh,m,ws,pa,ga,x,g,rfl,hv,ok,hpx,hpg,ix,by omega,λhno=>absurd hD0 (hno _),λn wl H1 ks hD hn e1 hln hwl hks hgo=>?_⟩;have hT0:=pX (m:=m) (x:=x) (g:=g) (by omega);have hT1:cg m x g=x.2+m+m*m:=by unfold cg;rw[Ge (by omega),hgx]
  have hfew:(n:Int)<=m*(cg m x g+1)-1:=Bfs.cL.few (by omega) (by omega) hD λk z hz=>vv ok ⟨x0,x1,x2,hT0.1⟩ hz;rw[hT1]at hfew;have hin:=vA ok ⟨x0,x1,x2,hT0.1⟩ hgo;generalize cg m x g=U at hgo hin;clear hT0 hT1 hD hD0;walk_at"";refine⟨vh,m,ws,pa,wl,U,x,g,ks,rfl,hv.ext e1,ok,e1 _ _ hpx,hwl,by omega,hgo,λpl H2 as e2 hpl hpd=>?_⟩;have htl:=jV hgo;walk_at"";refine⟨pl,as,_,rfl,hpl,hpd,by omega,λld lk H3 e3 hld hlm=>?_⟩;have hs:∀t,t<ks.length->(aS (aI ws U) x ks (t+1)).2<=(aS (aI ws U) x ks t).2+1:=λt ht=>(o5 ok (ik hgo (Fg ht))).1;have hend:(aS (aI ws U) x ks ks.length).2=x.2+m:=by have:=(fZ hgo ks.length).1;rw[FK,hgo]at this;rw[←FX this];exact hgx
  obtain⟨G,hG⟩:∃G:Nat->Nat,∀a:Nat,(a:Int)<=m->fG (λt=>(aS (aI ws U) x ks t).2) ks.length (x.2+(a:Int)) (G a)/\aZ lk (.inl (x.2+(a:Int)))=some (.int (G a:Int)):=by
   refine Classical.axiomOfChoice (r:=λ(a i:Nat)=>(a:Int)<=m->fG (λt=>(aS (aI ws U) x ks t).2) ks.length (x.2+(a:Int)) i/\aZ lk (.inl (x.2+(a:Int)))=some (.int (i:Int))) λa=>?_;by_cases ha:(a:Int)<=m
   ·obtain⟨i,hi,hie⟩:=BM (h:=λt=>(aS (aI ws U) x ks t).2) (v:=x.2+(a:Int)) hs (by show x.2<=_;omega) (by show _<=(aS (aI ws U) x ks ks.length).2;omega);obtain⟨i',p',h1,h2,h3,h4,h5⟩:=hlm i _ (by omega) (j1 hgo hi);have hie':(aS (aI ws U) x ks i).2=x.2+(a:Int):=hie;rw[j1 hgo (by omega)]at h2;cases h2;rw[hie']at h3 h4;exact⟨i',λ_=>⟨⟨by omega,h3,λt a1 a2=>by have:=h5 t _ a1 (by omega) (j1 hgo a2);rw[hie']at this;exact this⟩,h4⟩⟩
   ·exact⟨0,λz=>absurd z ha⟩
  have hpl3:=e3 _ _ hpl;have hwl3:=(e2.trans e3) _ _ hwl;have hat:∀a:Nat,(a:Int)<=m->∃b,as[G a]?=some b/\aw H3 b (aS (aI ws U) x ks (G a)):=λa ha=>by obtain⟨b,hb,hbp⟩:=oW hpd (j1 hgo (hG a ha).1.1);exact⟨b,hb,e3 _ _ hbp⟩
  have hpx3:aw H3 pa x:=(e1.trans (e2.trans e3)) _ _ hpx;clear hlm hpd hpl htl;walk_at"";refine λbg hbgn=>?_;have e4:=bq (o:=.dK []) hbgn;walk_at"";refine ax (ah.of (e4 _ _ hpx3)) (v:=.int x.2) rfl ?_;walk_at"";have hG0:=(hG 0 (by omega)).2;rw[show x.2+((0:Nat):Int)=x.2 by omega]at hG0;refine⟨ld,_,rfl,by rw[←hG0];exact cx.k (k:=.inl x.2) (e4 _ _ hld),?_⟩;walk_at"";refine fW (λM σ H'=>∃(c:Nat) (kvs:List (Key×V)),σ=[some vh,some (.ref pa),some (.ref ga),some (.ref wl),some (.ref pl),some (.ref ld),some (.ref bg),some (.int (x.2+(c:Int))),some (.int (G c:Int)),none]/\Ext H3 H'/\H' bg=some (.dK kvs)/\Bg kvs (λt=>(aS (aI ws U) x ks t).1) G c/\(c:Int)<=m/\m.toNat+1-c=M)
   (λσ H'=>∃(a c:Nat) (kvs:List (Key×V)),σ=[some vh,some (.ref pa),some (.ref ga),some (.ref wl),some (.ref pl),some (.ref ld),some (.ref bg),some (.int (x.2+(c:Int))),some (.int (G c:Int)),none]/\Ext H3 H'/\H' bg=some (.dK kvs)/\(c:Int)<=m/\a<c/\aZ kvs (.inl (aS (aI ws U) x ks (G c)).1)=some (.int (G a:Int))/\(aS (aI ws U) x ks (G a)).1=(aS (aI ws U) x ks (G c)).1) (m.toNat+1)
   ⟨0,[],by rw[show x.2+((0:Nat):Int)=x.2 by omega];rfl,e4,aL,⟨λa h=>absurd h (Nat.not_lt_zero _),λk v h=>(by cases h),rfl⟩,by omega,rfl⟩ ?_ ?_
  ·clear e4 hG0;rintro M σ H4 ⟨c,kvs,rfl,e4,hbg,hB,hcm,hM⟩;obtain⟨b,hb,hbp⟩:=hat c hcm;walk_at"";refine aK (ag.of (e4 _ _ hpl3)) (v:=.ref b) (cP (by rw[Fh,hb];rfl)) ?_;walk_at"";refine ax (ah.of (e4 _ _ hbp)) (v:=.int (aS (aI ws U) x ks (G c)).1) rfl ?_;walk_at"";refine⟨bg,_,rfl,cx.k hbg (k:=.inl (aS (aI ws U) x ks (G c)).1),?_⟩;cases hval:aZ kvs (.inl (aS (aI ws U) x ks (G c)).1)with
   | some v=>
    obtain⟨a,ha,hk,rfl⟩:=hB.only _ _ hval;refine rd_exb (az ?_);exact⟨a,c,kvs,rfl,e4,hbg,hcm,ha,hval,(Sum.inl.inj hk).symm⟩
   | none=>
    refine rd_exb (aG ⟨_,λ_ _ h=>h,?_⟩);have hB2:=hB.add hval;have hcm2:c+1<=m.toNat:=hB2.few (λa1 a2 h1 h2 e=>by
     have l1:=(hG a1 (by omega)).1.2.1;have l2:=(hG a2 (by omega)).1.2.1;rw[e]at l1;have:x.2+(a1:Int)=x.2+(a2:Int):=l1.symm.trans l2;omega) (λa1 h1=>by
     have:=hin (G a1) (hG a1 (by omega)).1.1;exact⟨this.1,by have:=this.2.1;omega⟩)
    walk_at"";refine aK (ag.of (e4 _ _ hpl3)) (v:=.ref b) (cP (by rw[Fh,hb];rfl)) ?_;walk_at"";refine ax (ah.of (e4 _ _ hbp)) (v:=.int (aS (aI ws U) x ks (G c)).1) rfl ?_;refine⟨bg,_,rfl,eJ.k hbg (k:=.inl (aS (aI ws U) x ks (G c)).1) (dQ (by have:=hB.len;omega)),?_⟩;have e5:=cb (o:=.dK (putK kvs (.inl (aS (aI ws U) x ks (G c)).1) (.int (G c:Int)))) e4 hbgn;walk_at"";have hGc:=(hG (c+1) (by omega)).2;refine⟨ld,_,rfl,by rw[show x.2+(c:Int)+1=x.2+((c+1:Nat):Int) by omega,←hGc];exact cx.k (k:=.inl (x.2+((c+1:Nat):Int))) (e5 _ _ hld),?_⟩;walk_at"";exact⟨_,by omega,c+1,_,by rw[show x.2+((c+1:Nat):Int)=x.2+(c:Int)+1 by omega];rfl,e5,aL,hB2,by omega,rfl⟩
  clear e4 hG0;rintro σ H4 ⟨a,c,kvs,rfl,e4,hbg,hcm,hac,hval,hrm⟩;obtain⟨b,hb,hbp⟩:=hat c hcm;obtain⟨hij,hris⟩:=ze ok x2 hgo hgx hac hcm (hG a (by omega)).1 (hG c hcm).1 hrm (by omega);have hcn:=(hG c hcm).1.1;walk_at"";refine aK (ag.of (e4 _ _ hpl3)) (v:=.ref b) (cP (by rw[Fh,hb];rfl)) ?_;walk_at"";refine ax (ah.of (e4 _ _ hbp)) (v:=.int (aS (aI ws U) x ks (G c)).1) rfl ?_;walk_at"";refine⟨bg,_,rfl,by rw[←hval];exact cx.k (k:=.inl (aS (aI ws U) x ks (G c)).1) hbg,?_⟩;walk_at"";refine gL (ag.of (e4 _ _ hwl3)) (cn λl1 H5 e5 hl1 _=>?_);rw[DK (by rw[Ff];omega),←List.map_take]at hl1;walk_at"";refine gL (ag.of (e5 _ _ (e4 _ _ hwl3))) (cn λl2 H6 e6 hl2 _=>?_);rw[zU (by omega) (by rw[Ff];omega),←List.map_drop,←List.map_take]at hl2;walk_at"";refine aO λt H7 e7 ht _=>?_;exact q t l1 l2 _ _ H7 (e1.trans (e2.trans (e3.trans (e4.trans (e5.trans (e6.trans e7)))))) ht ((e6.trans e7) _ _ hl1) (e7 _ _ hl2) hris
def mG{w:Way}(hd:b9 w.deed){n n':Int}:cD w.deed n=some n'↔cB w w.room n=true/\n'=n+rz w.deed:=by
 constructor
 ·intro h;refine⟨?_,nG hd h⟩;refine gG rfl ?_;rcases hd with e|e|e|e
  ·exact .inl e
  ·refine .inr (.inr (.inl ⟨e,?_⟩));rw[e,gH]at h;by_cases hn:0<n
   ·exact hn
   ·rw[F9 hn]at h;cases h
  ·exact .inr (.inl e)
  ·refine .inr (.inr (.inr ⟨e,?_⟩));rw[e,gn]at h;by_cases hn:n=0
   ·exact hn
   ·rw[F9 hn]at h;cases h
 ·rintro⟨h,rfl⟩;rcases fC hd h with⟨e,z⟩|⟨e,z⟩|⟨e,hn,z⟩|⟨e,hn,z⟩<;>rw[z,e]
  ·exact jx n
  ·rw[iY];congr 1;omega
  ·rw[gH,Ga hn,Ge rfl];rfl
  ·rw[gn,Ga hn,Ge rfl];congr 1;omega
def rB{m:Int}{ws:List Way}(ok:∀w∈ws,w.Ok m){U:Int}{a b:Bfs.Pl}(h:cX ws a b)(hU:b.2<=U):∃k,aI ws U a k=some b:=by obtain⟨w,hw,ho,rfl⟩:=h;obtain⟨k,hk⟩:=List.mem_iff_getElem?.mp hw;have hr:=gg ho;rw[←hr]at ho;refine⟨k,?_⟩;unfold aI;rw[hk,FN,Ge hr,(mG (ok w hw).dd).mpr ⟨ho,rfl⟩,FN,Ge hU]
def kX{m:Int}{ws:List Way}(ok:∀w∈ws,w.Ok m){U:Int}{a b:Bfs.Pl}{k:Nat}(h:aI ws U a k=some b):cX ws a b:=by obtain⟨w,h1,h2,h3,h4,_⟩:=fQ h;have hw:=Fp h1;have:=(mG (ok w hw).dd).mp h3;rw[h2]at this;exact⟨w,hw,this.1,Prod.ext h4 this.2⟩
def tE{m:Int}{ws:List Way}(ok:HOuse m ws){x g:Bfs.Pl}(ix:cY m x):aR ws x g↔∃n,Bfs.cL (aI ws (cg m x g)) x n g:=by
 have m1:=ok.m1;constructor
 ·rintro⟨n,h⟩;have hb0:x.2<=(if g.2>x.2 then g.2 else x.2)/\g.2<=(if g.2>x.2 then g.2 else x.2):=by split<;>constructor<;>omega
  obtain⟨n',hn',r'⟩:=Bfs.cut (S:=cX ws) (m:=m) (by omega) (λp q h=>by
    obtain⟨w,hw,ho,rfl⟩:=h;have r1:=sI w.deed;have r2:=wO w.deed;show p.2+rz w.deed<=p.2+1/\p.2<=p.2+rz w.deed+1;omega) (λp q c h hc h1 h2=>by
    obtain⟨w,hw,ho,rfl⟩:=h;refine⟨w,hw,gG (gg ho) ?_,Prod.ext rfl (by show p.2+rz w.deed-c=p.2-c+rz w.deed;omega)⟩;rcases fC (ok.ok w hw).dd ho with⟨e,z⟩|⟨e,z⟩|⟨e,hn,z⟩|⟨e,hn,z⟩
    ·exact .inl e
    ·exact .inr (.inl e)
    ·exact .inr (.inr (.inl ⟨e,by show 0<p.2-c;omega⟩))
    ·omega) (λp q h=>by
    obtain⟨w,hw,ho,rfl⟩:=h;exact⟨(ok.ok w hw).o0,(ok.ok w hw).o1⟩) (b:=if g.2>x.2 then g.2 else x.2) (Int.le_trans ix.2.2.1 hb0.1) n x g h ix.1 ix.2.1 hb0.1 hb0.2
  have wk:Bfs.Wk (aI ws (cg m x g)) x n' g:=r'.wk (λa c h=>rB ok.ok h.1 h.2);obtain⟨k,_,dk⟩:=Bfs.zm n' wk;exact⟨k,dk⟩
 ·rintro⟨n,d⟩;exact⟨n,d.1.rw.imp λa c h=>kX ok.ok h.choose_spec⟩
def il.gd{H:Hp}{xs:List V}{m:Int}{ws:List Way}{x:Bfs.Pl}(h:il H xs m ws x)(ok:HOuse m ws)(ix:cY m x):∀(r:Nat) (v:V),xs[r]?=some v->∃b s o a,dz H v b s o a/\Gd b s o a/\(∀n:Int,0<=n->(mem b s o a n=true↔aR ws x ((r:Int),n)))/\∀n:Int,n<0->mem b s o a n=false:=by
 obtain⟨P,hP1,hP81,hn⟩:=h.near ok ix;intro r v hv;obtain⟨F,l,d,hst,hL,hd,hdP,hl,hF⟩:=hn r v hv;have hdle:d<=P:=Nat.le_of_dvd (by omega) hdP;refine⟨_,_,_,_,hst,⟨xM F l d hd,by omega,by omega⟩,λn hn=>?_,λn hn=>?_⟩
 ·have e:=v7 hd hL.per n.toNat;rw[Fu hn]at e;rw[e,hF n.toNat,Fu hn]
 ·rw[lO _ (by omega),Bool.eq_false_iff];intro z;have:=fj.mp (List.contains_iff_mem.mp z);omega
def xV{m:Int}{ws:List Way}(ok:HOuse m ws){x:Bfs.Pl}(ix:cY m x)(hno:∀r:Int,0<=r->r<m->¬aR ws x (r,x.2+m)):∀(n:Nat) (y:Bfs.Pl),Bfs.Rw (cX ws) n x y->(0<=y.1/\y.1<m/\0<=y.2)/\y.2<x.2+m:=by
 intro n y h;have m1:=ok.m1;have:∀z:Bfs.Pl,Bfs.Rw (cX ws) n z y->z=x->(0<=y.1/\y.1<m/\0<=y.2)/\y.2<x.2+m:=by
  intro z h;induction h with
  | nil=>rintro rfl;exact⟨⟨ix.1,ix.2.1,ix.2.2.1⟩,by omega⟩
  | @snoc n z y y2 hw hs ih=>
   rintro rfl;obtain⟨⟨a0,a1,a2⟩,hlt⟩:=ih (by first|exact hw|exact ⟨_,hw⟩|skip) rfl;obtain⟨b0,b1,b2,b3,b4⟩:=eo ok.ok hs a2;refine⟨⟨b0,b1,b2⟩,?_⟩;rcases(show y2.2<z.2+m\/y2.2=z.2+m by omega)with q|q
   ·exact q
   ·exact absurd ⟨n+1,by rw[show (y2.1,z.2+m)=y2 from Prod.ext rfl q.symm];exact .snoc hw hs⟩ (hno y2.1 b0 b1)
 exact this x h rfl
def tI{F:Nat->Bool}{d l B:Nat}(hL:Least F d l)(hB:∀i,B<=i->F i=false):∀i,F i=true->i<l:=λi hi=>by refine Classical.byContradiction λz=>?_;have h1:=hL.pos;have h2:=hL.per.times B i (by omega);have h3:B<=B*d:=Nat.le_mul_of_pos_right B h1;rw[hB (i+B*d) (by omega),hi]at h2;cases h2
def rY(K:Fb):Sp:=λvs H Q _=>∃vh m ws pa x l xs,vs=[vh,.ref pa,.ref l]/\bj H vh m ws/\HOuse m ws/\aw H pa x/\cY m x/\H l=some (.lst xs)/\il H xs m ws x/\∀gl as H',Ext H H'->H' gl=some (.lst (List.map V.ref as))->(∀b∈as,∃r:Int,0<=r/\r<m/\aw H' b (r,x.2+m)/\aR ws x (r,x.2+m))->(as=[]->∀r:Nat,r<m.toNat->¬aR ws x ((r:Int),x.2+m))->Q (.ref gl) H'
abbrev mn:Stmt:=stq 66
def sF:FnScope ["house","place","stairs","number"] ["house","place","stairs"] (aH mn):=⟨rfl,rfl,rfl,by decide +kernel,rfl,by decide +kernel,by decide +kernel⟩
def DV{P:Program}{w:World}{K:Fb}{mg:Str->Option Value}{base:Heap}(D:Dfn K mg "unbounded_goals" mn ["house","place","stairs"])(T:Blt mg)(C_holds:Cal P w K mg base "holds" 7 ["stair","x"] (xA K)):Cal P w K mg base "unbounded_goals" 8 ["house","place","stairs"] (rY K):=by
 have nd:=(sF).nd;refine D.ok sF (λvs H Q E h=>?_) (λX hX H vs Q E h=>?_)
 ·obtain⟨vh,m,ws,pa,x,l,xs,rfl,_⟩:=h;rfl
 ·obtain⟨f,cdv,A,outer,s,H0,E0,rfl,hr⟩:=hX;obtain⟨vh,m,ws,pa,x,l,xs,rfl,hv,ok,hpx,ix,hl,fw,q⟩:=h;have m1:=ok.m1;have m2:=ok.m12;have x2:=ix.2.2.1;obtain⟨hh,t1,rfl,k1,k2⟩:=id hv;have hxl:=fw.1;have hgd:=fw.gd ok ix;refine⟨_,(@aq _ _ _ _ _ (@aE _ _ 3 _ _ _ _ nd rfl (Or.inr rfl) (aA aY (@ao _ _ _ _ _ _ _ (ay K) (pv 1) ae (λ_ _=>rfl)) (@ao _ _ _ _ _ _ _ (ay K) (pv 0) ae (λ_ _=>rfl))) rfl (Or.inl rfl))
    (@av _ _ _ (@aF _ _ _ _ (de ["room","stair"] [3] (oF K rfl T.enumerate_ (@aa _ _ _ _ _ (pv 2) af rfl)) (λ_=>(dY (n:=2) K rfl (bE (aM (i:=0) (show(["room","stair","number"]:List Str).Nodup from by decide +kernel) rfl (Or.inl rfl) (Or.inr rfl)) (bE (aM (i:=1) (show(["room","stair","number"]:List Str).Nodup from by decide +kernel) rfl (Or.inl rfl) (Or.inr rfl)) dI)))) (λ_=>(eF (bB (aB C_holds hr (@aa _ _ _ _ _ (pv 1) (@aa _ _ _ _ _ (pv 2) af rfl) rfl))))) (λ_=>(@bz _ _ _ _ _ (@aa _ _ _ _ _ (pv 0) (@aa _ _ _ _ _ (pv 2) af rfl) rfl))))))),?_⟩
  walk_at"";refine ax (ah.of hpx) (v:=.int x.2) rfl ?_;walk_at"";refine ax (ah.of k1) (v:=.int m) rfl ?_;walk_at"";refine mI ?_;walk_at"";refine lL (ag.of hl) ?_;refine sW (xs:=xs) (λi ys H'=>Ext H H'/\∃as,ys=List.map V.ref as/\as.length<=i/\(∀b∈as,∃r:Int,0<=r/\r<m/\aw H' b (r,x.2+m)/\aR ws x (r,x.2+m))/\(as=[]->∀r:Nat,r<i->¬aR ws x ((r:Int),x.2+m))) (bL (by omega)) ⟨Ext.rfl' _,[],rfl,FA _,λb h=>(nomatch h),λ_ r h=>absurd h (Nat.not_lt_zero _)⟩ (λi ys H' h=>⟨ag.of (h.1 _ _ hl),by obtain⟨_,as,rfl,h,_⟩:=h;rw[Ff];exact h⟩) ?_ ?_
  ·rintro i u ys H2 pp H3 hu ⟨e2,as,rfl,hal,hall,hnone⟩ e3 hpp _;obtain⟨b,s',o,a,hst,hg,h1,h2⟩:=hgd i u hu;have hi:=(Fo.mp hu).1;refine dU (ah.of hpp) rfl ?_;walk_at"";refine⟨u,x.2+m,b,s',o,a,rfl,hst.ext (e2.trans e3),hg,_,rfl,?_⟩;cases hm:mem b s' o a (x.2+m)with
   | true=>
    refine aG ?_;walk_at"";refine aO λnp H4 e4 hnp _=>?_;refine⟨e2.trans (e3.trans e4),as++[np],by rw[Fx];rfl,by rw[Fy];exact Nat.succ_le_succ hal,λc hc=>?_,λz=>by simp at z⟩;rcases FE.mp hc with z|z
    ·obtain⟨r,a1,a2,a3,a4⟩:=hall c z;exact⟨r,a1,a2,(e3.trans e4) _ _ a3,a4⟩
    ·rw[Fq.mp z];exact⟨(i:Int),by omega,by omega,hnp,(h1 _ (by omega)).mp hm⟩
   | false=>
    refine az ?_;refine⟨e2.trans e3,as,rfl,by omega,λc hc=>?_,λz r hr=>?_⟩
    ·obtain⟨r,a1,a2,a3,a4⟩:=hall c hc;exact⟨r,a1,a2,e3 _ _ a3,a4⟩
    ·rcases(show r<i\/r=i by omega)with w|w
     ·exact hnone z r w
     ·subst w;intro hr;rw[(h1 _ (by omega)).mpr hr]at hm;cases hm
  ·rintro ys H2 p9 ⟨e2,as,rfl,hal,hall,hnone⟩ hp9;refine q p9 as _ (e2.trans (bq hp9)) aL (λb hb=>?_) (λz r hr=>hnone z r (by omega));obtain⟨r,a1,a2,a3,a4⟩:=hall b hb;exact⟨r,a1,a2,(bq hp9) _ _ a3,a4⟩
def mj(K:Fb):Sp:=λvs H Q _=>∃vh m ws pa x,vs=[vh,.ref pa]/\bj H vh m ws/\HOuse m ws/\aw H pa x/\cY m x/\fm K/\Tbs K H ∧
 ((∃r:Int,aR ws x (r,x.2+m))->∀t l1 l2 as bs H',Et H H'->Tbs K H'->H' t=some (.tup [.str "rises",.ref l1,.ref l2])->H' l1=some (.lst (bT as))->H' l2=some (.lst (bT bs))->iJ m ws x as bs->Q (.ref t) H') ∧
 ((∀r:Int,0<=r->r<m->¬aR ws x (r,x.2+m))->∀t l N r U ks H',Et H H'->Tbs K H'->(∀o,H l=some o->∃ps,o=.tbl ps)->H' t=some (.tup [.str "most",.int N,.ref l])->H' l=some (.lst (bT ks))->Bfs.gone (nx:=aI ws U) x ks=some (r,N)->(ks.length:Int)<=m*(x.2+m+m*m+1)->(∀y,aR ws x y->y.2<=N)->aR ws x (r,N)->Q (.ref t) H')
abbrev oG:Stmt:=stq 67
def vE:FnScope ["house","place","stairs","goals","number","rooms"] ["house","place"] (aH oG):=⟨rfl,rfl,rfl,by decide +kernel,rfl,by decide +kernel,by decide +kernel⟩
def Bf{P:Program}{w:World}{K:Fb}{mg:Str->Option Value}{base:Heap}(D:Dfn K mg "greatest" oG ["house","place"])(T:Blt mg)(C_sought_walk:Cal P w K mg base "sought_walk" 4 ["house","place","goal"] (pS K))(C_rising_part:Cal P w K mg base "rising_part" 5 ["house","place","goal"] (wN K))(C_unbounded_goals:Cal P w K mg base "unbounded_goals" 8 ["house","place","stairs"] (rY K))(C_forward:Cal P w K mg base "forward" 10 ["house","place"] (pM K)):Cal P w K mg base "greatest" 11 ["house","place"] (mj K):=by
 have nd:=(vE).nd;refine D.ok vE (λvs H Q E h=>?_) (λX hX H vs Q E h=>?_)
 ·obtain⟨vh,m,ws,pa,x,rfl,_⟩:=h;rfl
 ·obtain⟨f,cdv,A,outer,s,H0,E0,rfl,hr⟩:=hX;obtain⟨vh,m,ws,pa,x,rfl,hv,ok,hpx,ix,dis,htb,q1,q2⟩:=h;have m1:=ok.m1;have m2:=ok.m12;obtain⟨x0,x1,x2,x3⟩:=id ix;refine⟨_,(@aq _ _ _ _ _ (@aE _ _ 2 _ _ _ _ nd rfl (Or.inl rfl) (aB C_forward hr (@aa _ _ _ _ _ (pv 0) (@aa _ _ _ _ _ (pv 1) af rfl) rfl)) rfl (Or.inl rfl))
    (@aq _ _ _ _ _ (@aE _ _ 3 _ _ _ _ nd rfl (Or.inl rfl) (aB C_unbounded_goals hr (@aa _ _ _ _ _ (pv 0) (@aa _ _ _ _ _ (pv 1) (@aa _ _ _ _ _ (pv 2) af rfl) rfl) rfl)) rfl (Or.inl rfl))
    (@aq _ _ _ _ _ (@bo _ _ _ _ _ _ _ _ (rg K (pv 3) (λ_=>rfl)) (@av _ _ _ (@aF _ _ _ _ (aB C_rising_part hr (@aa _ _ _ _ _ (pv 0) (@aa _ _ _ _ _ (pv 1) (@aa _ _ _ _ _ (@ao _ _ _ _ _ _ _ (aJ K) (pv 3) ae (λ_ _=>rfl)) af rfl) rfl) rfl)))) aV)
    (@aq _ _ _ _ _ (@aE _ _ 4 _ _ _ _ nd rfl (Or.inr rfl) (aX (ly K rfl) rfl T.max_ PyProof.Rows.boot_max (@aa _ _ _ _ _ (de ["stair"] [] (bW K (pv 2)) (λ_=>(aM (i:=0) (show(["stair"]:List Str).Nodup from by decide +kernel) rfl (Or.inl rfl) (Or.inr rfl))) (λ_=>(eF (rg K (@ao _ _ _ _ _ _ _ (ay K) (pv 0) ae (λ_ _=>rfl)) (λ_=>rfl)))) (λ_=>(aX (Dc K rfl) rfl T.max_ PyProof.Rows.boot_max (@aa _ _ _ _ _ (@ao _ _ _ _ _ _ _ (ay K) (pv 0) ae (λ_ _=>rfl)) af rfl)))) af rfl)) rfl (Or.inl rfl))
    (@aq _ _ _ _ _ (fV (i:=5) ["room","stair"] [4] nd rfl (Or.inl rfl) (oF K rfl T.enumerate_ (@aa _ _ _ _ _ (pv 2) af rfl)) (λ_=>(dY (n:=2) K rfl (bE (aM (i:=0) (show(["room","stair","number"]:List Str).Nodup from by decide +kernel) rfl (Or.inl rfl) (Or.inr rfl)) (bE (aM (i:=1) (show(["room","stair","number"]:List Str).Nodup from by decide +kernel) rfl (Or.inl rfl) (Or.inr rfl)) dI)))) (λ_=>(eF (aQ (pF K) (pv 2) (@ao _ _ _ _ _ _ _ (ay K) (pv 1) ae (λ_ _=>rfl)) (by with_unfolding_all rfl)))) (λ_=>(pv 0)))
    (@av _ _ _ (@aF _ _ _ _ (@bz _ _ _ _ _ (@aa _ _ _ _ _ aW (@aa _ _ _ _ _ (pv 4) (@aa _ _ _ _ _ (aB C_sought_walk hr (@aa _ _ _ _ _ (pv 0) (@aa _ _ _ _ _ (pv 1) (@aa _ _ _ _ _ (@bz _ _ _ _ _ (@aa _ _ _ _ _ (@ao _ _ _ _ _ _ _ (aJ K) (pv 5) ae (λ_ _=>rfl)) (@aa _ _ _ _ _ (pv 4) af rfl) rfl)) af rfl) rfl) rfl)) af rfl) rfl) rfl))))))))),?_⟩
  walk_at"";refine⟨vh,m,ws,pa,x,rfl,hv,ok,hpx,ix,dis,htb,λl xs H1 e1 tb1 hfr hl fw=>?_⟩;have hv1:=hv.et e1;have hx1:aw H1 pa x:=aw.et e1 hpx;walk_at"";refine⟨vh,m,ws,pa,x,l,xs,rfl,hv1,ok,hx1,ix,hl,fw,λgl as H2 e2 hgl hall hnone=>?_⟩;walk_at"";have hv2:=hv1.ext e2;have hx2:aw H2 pa x:=e2 _ _ hx1;cases as with
  | cons b as=>
   obtain⟨r,r0,r1,hb,hr⟩:=hall b Fm;refine⟨true,.inl ⟨_,ag.of hgl,rfl⟩,aG ?_⟩;walk_at"";refine aK (ag.of hgl) (v:=.ref b) (cP (j:=0) rfl) ?_;walk_at"";exact⟨vh,m,ws,pa,b,x,(r,x.2+m),rfl,hv2,ok,hx2,hb,ix,rfl,(tE ok ix).mp hr,λt l1 l2 as bs H3 e3 ht h1 h2 hris=>q1 ⟨r,hr⟩ t l1 l2 as bs H3 (e1.trans (e2.trans e3).et) (tb1.ext (e2.trans e3)) ht h1 h2 hris⟩
  | nil=>
   have hno:∀r:Int,0<=r->r<m->¬aR ws x (r,x.2+m):=λr r0 r1=>by have:=hnone rfl r.toNat (by omega);rw[Fu r0]at this;exact this
   have hlow:=xV ok ix hno;have hxl:=fw.1;have hst:∀(r:Nat) (v:V),xs[r]?=some v->∃(p:Addr) (l d:Nat) (qa ra:Addr) (F:Nat->Bool),v=.ref p/\H1 p=some (.tup [.int l,.int d,.ref qa,.ref ra])/\H1 qa=some (.tup ((row F 0 l).map V.int))/\(∀i:Nat,F i=true↔aR ws x ((r:Int),(i:Int)))/\∀i,F i=true->i<l:=λr v hv=>by obtain⟨F,l,d,⟨p,qa,ra,rfl,h1,h2,h3⟩,hL,hd,_,hF⟩:=fw.2 r v hv;refine⟨p,l,d,qa,ra,F,rfl,h1,h2,hF,tI (B:=(x.2+m).toNat) hL λi hi=>?_⟩;rw[Bool.eq_false_iff];intro z;obtain⟨n,hn⟩:=(hF i).mp z;have:=(hlow n _ hn).2;have:(i:Int)<x.2+m:=this;omega
   refine⟨false,.inl ⟨_,ag.of hgl,rfl⟩,az ?_⟩;have hl2:=e2 _ _ hl;walk_at"";refine bZ (ag.of hl2) ?_;refine fD (xs:=xs) (λi ys H'=>H'=H2/\∃ns:List Int,ys=ns.map V.int/\ns.length<=i/\(∀N∈ns,∃r:Nat,r<xs.length/\aR ws x ((r:Int),N))/\∀(r:Nat) (k:Nat),r<i->aR ws x ((r:Int),(k:Int))->∃N∈ns,(k:Int)<=N) (bL (by omega)) ⟨rfl,[],rfl,FA _,λN h=>(nomatch h),λr k h=>absurd h (Nat.not_lt_zero _)⟩ (λi ys H' hi h=>⟨by rw[h.1];exact ag.of hl2,by obtain⟨_,ns,rfl,h,_⟩:=h;rw[Ff];exact h⟩) ?_ ?_
   ·rintro i u ys H3 hu ⟨rfl,ns,rfl,hns,hN,hk⟩;obtain⟨p,lo,d,qa,ra,F,rfl,h1,h2,hF,hlo⟩:=hst i u hu;have hi:=(Fo.mp hu).1;walk_at"";refine ax (ah.of (e2 _ _ h1)) (v:=.ref qa) rfl ?_;have hnew:∀k:Nat,aR ws x ((i:Int),(k:Int))->(k:Int)∈row F 0 lo:=λk z=>by have:=(hF k).mpr z;exact fj.mpr ⟨by omega,by have:=hlo k this;omega,by rw[Ft];exact this⟩
    cases hrow:row F 0 lo with
    | nil=>
     refine⟨false,.inr (.inl ⟨_,ah.of (e2 _ _ h2),by rw[hrow];rfl⟩),az ?_⟩;refine⟨rfl,ns,rfl,by omega,hN,λr k hr z=>?_⟩;rcases(show r<i\/r=i by omega)with w|w
     ·exact hk r k w z
     ·subst w;have:=hnew k z;rw[hrow]at this;cases this
    | cons y0 ys0=>
     refine⟨true,.inr (.inl ⟨_,ah.of (e2 _ _ h2),by rw[hrow];rfl⟩),aG ?_⟩;walk_at"";refine ax (ah.of (e2 _ _ h1)) (v:=.ref qa) rfl ?_;walk_at"";refine As (ah.of (e2 _ _ h2)) (by rw[hrow];simp) λM hM hMa=>?_;obtain⟨M0,M1,M2⟩:=fj.mp hM;refine⟨rfl,ns++[M],by rw[Fx];rfl,by rw[Fy];exact Nat.succ_le_succ hns,λN hNn=>?_,λr k hr z=>?_⟩
     ·rcases FE.mp hNn with w|w
      ·exact hN N w
      ·rw[Fq.mp w];refine⟨i,hi,?_⟩;have:=(hF M.toNat).mp M2;rw[Fu (by omega)]at this;exact this
     ·rcases(show r<i\/r=i by omega)with w|w
      ·obtain⟨N,a1,a2⟩:=hk r k w z;exact⟨N,FZ _ a1,a2⟩
      ·subst w;exact⟨M,FY _ (Fq.mpr rfl),hMa _ (hnew k z)⟩
   rintro ys H3 p9 ⟨rfl,ns,rfl,hns,hN,hk⟩ hp9;have e3:=bq (o:=.lst (ns.map V.int)) hp9;have h9:(upd H3 p9 (.lst (ns.map V.int))) p9=some (.lst (ns.map V.int)):=aL;generalize upd H3 p9 (.lst (ns.map V.int))=H4 at e3 h9 ⊢;walk_at"";have hxx:((x.1.toNat:Int),(x.2.toNat:Int))=x:=Prod.ext (Fu x0) (Fu x2);obtain⟨N0,hN0,_⟩:=hk x.1.toNat x.2.toNat (by omega) (by rw[hxx];exact⟨0,.nil⟩);refine⟨p9,ns,rfl,ag.of h9,List.length_pos_of_mem hN0,λN hNm hNall=>?_⟩;obtain⟨r9,hr9,hrN⟩:=hN N hNm;obtain⟨n9,hn9⟩:=id hrN;obtain⟨⟨_,_,hN0'⟩,hNlt⟩:=hlow n9 _ hn9;have hN0'':0<=N:=hN0';have hNlt':N<x.2+m:=hNlt;have hup:∀y,aR ws x y->y.2<=N:=λy hy=>by obtain⟨n,hn⟩:=id hy;obtain⟨⟨y0,y1,y2⟩,_⟩:=hlow n y hn;obtain⟨N',a1,a2⟩:=hk y.1.toNat y.2.toNat (by omega) (by rw[Fu y0,Fu y2];exact hy);have:=hNall N' a1;omega
   have hl4:=e3 _ _ hl2;walk_at"";refine mI ?_;walk_at"";refine lL (ag.of hl4) ?_;refine sW (xs:=xs) (λi ys H'=>Ext H4 H'/\∃rs:List Int,ys=rs.map V.int/\rs.length<=i/\(∀r∈rs,aR ws x (r,N))/\(r9<i->rs≠[])) (bL (by omega)) ⟨Ext.rfl' _,[],rfl,FA _,λr h=>(nomatch h),λh=>absurd h (Nat.not_lt_zero _)⟩ (λi ys H' h=>⟨ag.of (h.1 _ _ hl4),by obtain⟨_,rs,rfl,h,_⟩:=h;rw[Ff];exact h⟩) ?_ ?_
   ·rintro i u ys H5 pp H6 hu ⟨e5,rs,rfl,hrs,hall,hne⟩ e6 hpp _;obtain⟨p,lo,d,qa,ra,F,rfl,h1,h2,hF,hlo⟩:=hst i u hu;have e16:=e2.trans (e3.trans (e5.trans e6));refine dU (ah.of hpp) rfl ?_;walk_at"";refine ax (ah.of (e16 _ _ h1)) (v:=.ref qa) rfl ?_;walk_at"";refine m9 (.inr (ah.of (e16 _ _ h2))) rfl (lh _) ?_;rw[oP];have hc:(row F 0 lo).contains N=true↔aR ws x ((i:Int),N):=by have hFN:=hF N.toNat;rw[Fu hN0'']at hFN;rw[List.contains_iff_mem,fj,←hFN];exact⟨λz=>z.2.2,λz=>⟨by omega,by have:=hlo _ z;omega,z⟩⟩
    cases hb:(row F 0 lo).contains N with
    | true=>
     refine rd_exb (aG ?_);walk_at"";refine⟨e5.trans e6,rs++[(i:Int)],by rw[Fx];rfl,by rw[Fy];exact Nat.succ_le_succ hrs,λr hr=>?_,λ_ z=>by simp at z⟩;rcases FE.mp hr with w|w
     ·exact hall r w
     ·rw[Fq.mp w];exact hc.mp hb
    | false=>
     refine rd_exb (az ?_);refine⟨e5.trans e6,rs,rfl,by omega,hall,λhr=>?_⟩;rcases(show r9<i\/r9=i by omega)with w|w
     ·exact hne w
     ·subst w;rw[hc.mpr hrN]at hb;cases hb
   rintro ys H5 p8 ⟨e5,rs,rfl,hrs,hall8,hne⟩ hp8;have e6:=e5.trans (bq (o:=.lst (rs.map V.int)) hp8);have h8:(upd H5 p8 (.lst (rs.map V.int))) p8=some (.lst (rs.map V.int)):=aL;generalize upd H5 p8 (.lst (rs.map V.int))=H6 at e6 h8 ⊢;obtain⟨r,rs,rfl⟩:=List.exists_cons_of_ne_nil (hne hr9);have hr:=hall8 r Fm;walk_at"";refine aK (ag.of h8) (v:=.int r) (cP (j:=0) rfl) ?_;walk_at"";refine aO λga H7 e7 hga _=>?_;have e27:=e3.trans (e6.trans e7);obtain⟨nD,hD⟩:=(tE ok ix).mp hr;walk_at"";refine⟨vh,m,ws,pa,ga,x,(r,N),rfl,hv2.ext e27,ok,e27 _ _ hx2,hga,ix,by show N<=1012;omega,λhno=>absurd hD (hno _),λn wl H8 ks hD hn e8 hln hwl hks hgo=>?_⟩;walk_at"";refine aO λt H9 e9 ht _=>?_;have hmm0:0<=m*m:=FL (by omega) (by omega);have hT0:=pX (m:=m) (x:=x) (g:=(r,N)) (by omega);have hT1:cg m x (r,N)<=x.2+m+m*m:=by show(if N>x.2 then N else x.2)+m*m<=_;split<;>omega
   have hfew:(n:Int)<=m*(cg m x (r,N)+1)-1:=Bfs.cL.few (by omega) (by omega) hD λk z hz=>vv ok ⟨x0,x1,x2,hT0.1⟩ hz;have hmul:m*(cg m x (r,N)+1)<=m*(x.2+m+m*m+1):=Int.mul_le_mul_of_nonneg_left (by omega) (by omega);refine q2 hno t wl N r _ ks H9 (e1.trans (e2.trans (e27.trans (e8.trans e9))).et) (tb1.ext (e2.trans (e27.trans (e8.trans e9)))) (λo ho=>?_) ht (e9 _ _ hwl) hgo (by omega) hup hr;refine Classical.byContradiction λz=>?_;have:=e27 _ _ (e2 _ _ (e1 _ _ ho (λps w=>z ⟨ps,w⟩)));rw[hln]at this;cases this
def pW{lo hi:Int}:∀{xs:List Int},fL lo hi xs->(xs.length:Int)<=max 0 (hi-lo)
 | [],_=>by simp;omega
 | x::r,h=>by obtain⟨h1,h2,h3⟩:=wZ.mp h;have:=pW h3;rw[FJ];omega
def Dg(xs:List V):bV xs (some 1) none=xs.drop 1:=by
 unfold bV;rw[HT.jU];have e:HT.aP xs.length 0 (some 1)=min 1 xs.length:=rfl;rw[e];rcases F2 xs.length 1 with h|h
 ·have:xs=[]:=List.eq_nil_of_length_eq_zero (by omega);subst this;rfl
 ·rw[Nat.min_eq_left h];exact List.take_of_length_le (by rw[List.length_drop];exact FA _)
def vZ(K:Fb):Sp:=λvs H Q _=>∃(p:Addr) (lo hi:Int) (xs:List Int),vs=[.ref p,.int lo,.int hi]/\H p=some (.tup (xs.map V.int))/\xs.length<=10000/\fL lo hi xs/\∀H',Ext H H'->Q (.bl true) H'
abbrev mN:Stmt:=stq 84
def sA:FnScope ["_law_row","_law_low","_law_high"] ["_law_row","_law_low","_law_high"] (aH mN):=⟨rfl,rfl,rfl,by decide +kernel,rfl,by decide +kernel,by decide +kernel⟩
def Dh{P:Program}{w:World}{K:Fb}{mg:Str->Option Value}{base:Heap}(D:Dfn K mg "_law_rises" mN ["_law_row","_law_low","_law_high"])(T:Blt mg)(C__law_whole:Cal P w K mg base "_law_whole" 1 ["_law_found"] (nI K)):Cal P w K mg base "_law_rises" 2 ["_law_row","_law_low","_law_high"] (vZ K):=by
 have nd:=(sA).nd;refine D.ok sA (λvs H Q E h=>?_) (λX hX H vs Q E h=>?_)
 ·obtain⟨p,lo,hi,xs,rfl,_⟩:=h;rfl
 ·obtain⟨f,cdv,A,outer,s,H0,E0,rfl,hr⟩:=hX;obtain⟨p,lo,hi,xs,rfl,hp,hl,hr',q⟩:=h;have hk:fi H (.ref p) "tuple":=.inr ⟨rfl,_,hp⟩;refine⟨_,(aq (bo (PW.pt (cE (bY (bB (aX dJ rfl T.isinstance_ PyProof.Rows.boot_isinstance (aa (pv 0) (aa (dO (v:=.ty "tuple") rfl T.tuple_ PyProof.Rows.boot_tuple rfl) af))))) (dj (bY (bB (aX (jj K rfl) rfl T.all_ PyProof.Rows.boot_all (aa (de ["_law_part"] [] (iE K (pv 0)) (λ_=>(aM (i:=0) (show(["_law_part"]:List Str).Nodup from by decide +kernel) rfl (Or.inl rfl) (Or.inr rfl))) (λ_=>dR) (λ_=>(aB C__law_whole hr (aa (pv 0) af)))) af))))))) (av (aF bO)) aV)
    (av (aF (di (aX (jj K rfl) rfl T.all_ PyProof.Rows.boot_all (aa (de ["_law_part"] [1,2] (iE K (pv 0)) (λ_=>(aM (i:=0) (show(["_law_part","_law_low","_law_high"]:List Str).Nodup from by decide +kernel) rfl (Or.inl rfl) (Or.inr rfl))) (λ_=>dR) (λ_=>(i8 f7 cZ (pv 1) (pv 0) (pv 2)))) af)) (dN (aX (jj K rfl) rfl T.all_ PyProof.Rows.boot_all (aa (de ["_law_one","_law_two"] [] (yz K rfl T.zip_ (aa (pv 0) (aa (fY Ei (pv 0) (eX ae) gY) af))) (λ_=>(dY (n:=2) K rfl (bE (aM (i:=0) (show(["_law_one","_law_two"]:List Str).Nodup from by decide +kernel) rfl (Or.inl rfl) (Or.inr rfl)) (bE (aM (i:=1) (show(["_law_one","_law_two"]:List Str).Nodup from by decide +kernel) rfl (Or.inl rfl) (Or.inr rfl)) dI)))) (λ_=>dR) (λ_=>(dC cZ (pv 0) (pv 1) (aN _)))) af))))))),?_⟩
  walk_at"";refine dG hk (b:=true) rfl ?_;walk_at"";refine az ?_;walk_at"";refine iu (ah.of hp) ?_;refine jG (xs:=xs.map V.int) (λi ys H'=>H'=H/\ys=(F0 i true).map V.bl) (bL (by rw[Ff];omega)) ⟨rfl,rfl⟩ ?_ ?_ ?_
  ·rintro i ys H' _ ⟨rfl,rfl⟩;exact⟨ah.of hp,by simp⟩
  ·rintro i v ys H' hi' ⟨rfl,rfl⟩;obtain⟨x,rfl,hx⟩:=jl hi';walk_at"";refine aG ?_;walk_at"";refine⟨_,rfl,rfl,?_⟩;rw[List.replicate_succ',Fx];rfl
  rintro ys H' p1 ⟨rfl,rfl⟩ hp1;have e1:Ext H' (upd H' p1 (.lst ((F0 (xs.map V.int).length true).map V.bl))):=bq hp1;have h1:(upd H' p1 (.lst ((F0 (xs.map V.int).length true).map V.bl))) p1=_:=aL;generalize upd H' p1 (.lst ((F0 (xs.map V.int).length true).map V.bl))=H1 at e1 h1;walk_at"";refine⟨p1,_,rfl,ag.of h1,?_⟩;rw[show (F0 (xs.map V.int).length true).all id=true by rw[FR];intro b hb;rw[List.eq_of_mem_replicate hb];rfl];walk_at"";refine az ?_;walk_at"";have hp':=e1 _ _ hp;refine iu (ah.of hp') ?_;refine jG (xs:=xs.map V.int) (λi ys H'=>H'=H1/\ys=(F0 i true).map V.bl) (bL (by rw[Ff];omega)) ⟨rfl,rfl⟩ ?_ ?_ ?_
  ·rintro i ys H' _ ⟨rfl,rfl⟩;exact⟨ah.of hp',by simp⟩
  ·rintro i v ys H' hi' ⟨rfl,rfl⟩;obtain⟨x,rfl,hx⟩:=jl hi';have hb:=hr'.2 x (Fp hx);walk_at"";refine aG ?_;walk_at"";rw[Ga hb.1];refine aG ?_;walk_at"";rw[Ga hb.2];refine⟨rfl,?_⟩;rw[List.replicate_succ',Fx];rfl
  rintro ys H2' p2 ⟨rfl,rfl⟩ hp2;have e2:Ext H2' (upd H2' p2 (.lst ((F0 (xs.map V.int).length true).map V.bl))):=bq hp2;have h2:(upd H2' p2 (.lst ((F0 (xs.map V.int).length true).map V.bl))) p2=_:=aL;generalize upd H2' p2 (.lst ((F0 (xs.map V.int).length true).map V.bl))=H2 at e2 h2;walk_at"";refine⟨p2,_,rfl,ag.of h2,?_⟩;rw[show (F0 (xs.map V.int).length true).all id=true by rw[FR];intro b hb;rw[List.eq_of_mem_replicate hb];rfl];walk_at"";refine aG ?_;walk_at"";have hp2':=e2 _ _ hp';refine BC hp2' λp3 H3 e3 h3=>?_;rw[Dg]at h3;walk_at"";refine EK (ah.of (e3 _ _ hp2')) (ah.of h3) ?_;refine zf (xs:=xs.map V.int) (ys:=(xs.map V.int).drop 1) (λi zs H'=>Ext H3 H'/\zs=(F0 i true).map V.bl) (bL (by rw[Ff];omega)) ⟨Ext.rfl' H3,rfl⟩ ?_ ?_ ?_
  ·rintro i zs H' ⟨e,rfl⟩;exact⟨ah.of (e _ _ (e3 _ _ hp2')),ah.of (e _ _ h3),by simp⟩
  ·rintro i u v zs H' p4 H4 hu hv ⟨e,rfl⟩ e4 h4 hn4;obtain⟨x,rfl,hx⟩:=jl hu;rw[←List.map_drop]at hv;obtain⟨y,rfl,hy⟩:=jl hv;have hlt:x<y:=by rw[List.getElem?_drop]at hy;obtain⟨g1,rfl⟩:=Fo.mp hx;obtain⟨g2,rfl⟩:=Fo.mp hy;exact List.pairwise_iff_getElem.mp hr'.1 i (1+i) g1 g2 (by omega)
   refine dU (ah.of h4) rfl ?_;walk_at"";refine aG ?_;walk_at"";rw[Ga hlt];refine⟨e.trans e4,?_⟩;rw[List.replicate_succ',Fx];rfl
  rintro zs H' p5 ⟨e,rfl⟩ hp5;walk_at"";refine⟨p5,_,rfl,ag.of aL,?_⟩;rw[show ∀n:Nat,(F0 n true).all id=true from λn=>by rw[FR];intro b hb;rw[List.eq_of_mem_replicate hb];rfl];exact q _ (e1.trans (e2.trans (e3.trans (e.trans (bq hp5)))))
structure Gx(b s:Int)(o a:List Int):Prop where
 ok:Ok b s o a
 bs:b+s<=10000
def Gx.lo{b s:Int}{o a:List Int}(g:Gx b s o a):o.length<=10000:=by have:=pW g.ok.ho;have:=g.bs;have:=g.ok.hb;have:=g.ok.hs;omega
def Gx.la{b s:Int}{o a:List Int}(g:Gx b s o a):a.length<=10000:=by have:=pW g.ok.ha;have:=g.bs;have:=g.ok.hs;have:=g.ok.hb;omega
def uh(K:Fb):Sp:=λvs H Q _=>∃v b s o a,vs=[v]/\dz H v b s o a/\Gx b s o a/\∀H',Ext H H'->Q (.bl true) H'
abbrev mK:Stmt:=stq 85
def tK:FnScope ["_law_found"] ["_law_found"] (aH mK):=⟨rfl,rfl,rfl,by decide +kernel,rfl,by decide +kernel,by decide +kernel⟩
def DQ{P:Program}{w:World}{K:Fb}{mg:Str->Option Value}{base:Heap}(D:Dfn K mg "_law_is_stair" mK ["_law_found"])(T:Blt mg)(C__law_rises:Cal P w K mg base "_law_rises" 2 ["_law_row","_law_low","_law_high"] (vZ K))(C__law_whole:Cal P w K mg base "_law_whole" 1 ["_law_found"] (nI K)):Cal P w K mg base "_law_is_stair" 3 ["_law_found"] (uh K):=by
 have nd:=(tK).nd;refine D.ok tK (λvs H Q E h=>?_) (λX hX H vs Q E h=>?_)
 ·obtain⟨v,b,s,o,a,rfl,_⟩:=h;rfl
 ·obtain⟨f,cdv,A,outer,s,H0,E0,rfl,hr⟩:=hX;obtain⟨v,b,s',o,a,rfl,⟨p,q',r,rfl,h1,h2,h3⟩,hg,q⟩:=h;have hb0:=hg.ok.hb;have hs0:=hg.ok.hs;have lo:=hg.lo;have la:=hg.la;have hk:fi H (.ref p) "tuple":=.inr ⟨rfl,_,h1⟩;refine⟨_,(aq (bo (PW.pt (cE (bY (bB (aX dJ rfl T.isinstance_ PyProof.Rows.boot_isinstance (aa (pv 0) (aa (dO (v:=.ty "tuple") rfl T.tuple_ PyProof.Rows.boot_tuple rfl) af))))) (dj (aQ eM (aX (cQ K) rfl T.len_ PySem.boot_len (aa (pv 0) af)) ae (aN _))))) (av (aF bO)) aV)
    (aq (bo (PW.pt (cE (bY (bB (aB C__law_whole hr (aa (ao (ay K) (pv 0) ae (λ_ _=>rfl)) af)))) (dj (bY (bB (aB C__law_whole hr (aa (ao (ay K) (pv 0) ae (λ_ _=>rfl)) af))))))) (av (aF bO)) aV)
    (aq (bo (PW.pt (cE (aQ cZ (ao (ay K) (pv 0) ae (λ_ _=>rfl)) ae (aN _)) (cE (aQ cZ (ao (ay K) (pv 0) ae (λ_ _=>rfl)) ae (aN _)) (dj (bY (bB (aB C__law_rises hr (aa (ao (ay K) (pv 0) ae (λ_ _=>rfl)) (aa ae (aa (ao (ay K) (pv 0) ae (λ_ _=>rfl)) af)))))))))) (av (aF bO)) aV)
    (av (aF (aB C__law_rises hr (aa (ao (ay K) (pv 0) ae (λ_ _=>rfl)) (aa (ao (ay K) (pv 0) ae (λ_ _=>rfl)) (aa (aA aY (ao (ay K) (pv 0) ae (λ_ _=>rfl)) (ao (ay K) (pv 0) ae (λ_ _=>rfl))) af))))))))),?_⟩
  walk_at"";refine dG hk (b:=true) rfl ?_;walk_at"";refine az ?_;walk_at"";refine gh (ah.of h1) ?_;walk_at"";refine az ?_;walk_at"";refine ax (ah.of h1) rfl ?_;walk_at"";refine⟨_,rfl,?_⟩;walk_at"";refine az ?_;walk_at"";refine ax (ah.of h1) rfl ?_;walk_at"";refine⟨_,rfl,?_⟩;walk_at"";refine az ?_;walk_at"";refine ax (ah.of h1) rfl ?_;walk_at"";rw[F9 (show ¬b<0 by omega)];refine az ?_;walk_at"";refine ax (ah.of h1) rfl ?_;walk_at"";rw[F9 (show ¬s'<1 by omega)];refine az ?_;walk_at"";refine ax (ah.of h1) rfl ?_;walk_at"";refine ax (ah.of h1) rfl ?_;walk_at"";refine⟨q',0,b,o,rfl,h2,by omega,hg.ok.ho,λH1 e1=>?_⟩;walk_at"";refine az ?_;walk_at"";refine ax (ah.of (e1 _ _ h1)) rfl ?_;walk_at"";refine ax (ah.of (e1 _ _ h1)) rfl ?_;walk_at"";refine ax (ah.of (e1 _ _ h1)) rfl ?_;walk_at"";refine ax (ah.of (e1 _ _ h1)) rfl ?_;walk_at"";refine⟨r,b,b+s',a,rfl,e1 _ _ h3,by omega,hg.ok.ha,λH2 e2=>?_⟩;exact q H2 (e1.trans e2)
def cM.put{K:Fb}{x q:Str}{line col:Nat}{H:Hp}{l:Addr}{xs ys:List V}(h:cM K x q line col H)(hl:H l=some (.lst xs)):cM K x q line col (upd H l (.lst ys)):=λc T ht=>by
 rcases h c T ht with h|⟨c',h1,h2⟩
 ·exact .inl (by rw[aC (cF h hl (by intro z;cases z))];exact h)
 ·exact .inr ⟨c',by rw[aC (cF h1 hl (by intro z;cases z))];exact h1,by rw[aC (cF h2 hl (by intro z;cases z))];exact h2⟩
def Tbs.put{K:Fb}{H:Hp}{l:Addr}{xs ys:List V}(h:Tbs K H)(hl:H l=some (.lst xs)):Tbs K (upd H l (.lst ys)):=⟨cM.put h.kept hl,cM.put h.low hl,cM.put h.risen hl⟩
def wB{H H':Hp}{l:Addr}{o':HO}(e:Et H H')(hfr:∀o,H l=some o->∃ps,o=.tbl ps):Et H (upd H' l o'):=λb o hb hn=>by
 rw[aC λz=>by subst z;obtain⟨ps,hps⟩:=hfr o hb;exact hn ps hps]
 exact e b o hb hn
def xY(K:Fb):Sp:=λvs H Q _=>∃c p,vs=[.int c,.int p]/\0<p/\∀n H',Ext H H'->0<=n->n<=1000->Q (.int n) H'
abbrev kQ:Stmt:=stq 78
def vR:FnScope ["_law_cell_here","_law_prime","_law_draws_here"] ["_law_cell_here","_law_prime"] (aH kQ):=⟨rfl,rfl,rfl,by decide +kernel,rfl,by decide +kernel,by decide +kernel⟩
def zA{P:Program}{w:World}{K:Fb}{mg:Str->Option Value}{base:Heap}(D:Dfn K mg "_law_number" kQ ["_law_cell_here","_law_prime"])(T:Blt mg)(C__law_draws:Cal P w K mg base "_law_draws" 2 ["_law_cell_here","_law_widths","_law_prime"] (fo K)):Cal P w K mg base "_law_number" 3 ["_law_cell_here","_law_prime"] (xY K):=by
 have nd:=(vR).nd;refine D.ok vR (λvs H Q E h=>?_) (λX hX H vs Q E h=>?_)
 ·obtain⟨c,p,rfl,_⟩:=h;rfl
 ·obtain⟨f,cdv,A,outer,s,H0,E0,rfl,hr⟩:=hX;obtain⟨c,p,rfl,hp,q⟩:=h;refine⟨_,(aq (aE (i:=2) nd rfl (Or.inl rfl) (aB C__law_draws hr (aa (pv 0) (aa (bx (iq (.c (.c (.c (.c .n)))))) (aa (pv 1) af)))))
    (aq (bo (aQ bJ (ao (aJ K) (pv 2) ae (λ_ _=>rfl)) ae (aN _)) (av (aF (ao (aJ K) (pv 2) ae (λ_ _=>rfl)))) aV)
    (aq (bo (aQ bJ (ao (aJ K) (pv 2) ae (λ_ _=>rfl)) ae (aN _)) (av (aF (ao (aJ K) (pv 2) ae (λ_ _=>rfl)))) aV)
    (av (aF (ao (aJ K) (pv 2) ae (λ_ _=>rfl))))))),?_⟩
  walk_at"";refine aO λw0 G1 f1 hw0 _=>?_;walk_at"";refine⟨c,w0,[8,13,201,1001],p,rfl,hw0,by decide,by decide,hp,λdq ds H1 e1 hd hdn hl hb=>?_⟩;have eH:Ext H H1:=f1.trans e1;obtain⟨d0,g0,_⟩:=cA hl hb 0 rfl;obtain⟨d1,g1,b10,b11⟩:=cA hl hb 1 rfl;obtain⟨d2,g2,b20,b21⟩:=cA hl hb 2 rfl;obtain⟨d3,g3,b30,b31⟩:=cA hl hb 3 rfl;walk_at"";refine aK (ag.of hd) g0 ?_;walk_at"";by_cases h7:d0=7
  ·rw[Ga h7];refine aG ?_;walk_at"";refine aK (ag.of hd) g3 ?_;exact q d3 H1 eH b30 (by omega)
  ·rw[F9 h7];refine az ?_;walk_at"";refine aK (ag.of hd) g0 ?_;walk_at"";by_cases h6:d0=6
   ·rw[Ga h6];refine aG ?_;walk_at"";refine aK (ag.of hd) g2 ?_;exact q d2 H1 eH b20 (by omega)
   ·rw[F9 h6];refine az ?_;walk_at"";refine aK (ag.of hd) g1 ?_;exact q d1 H1 eH b10 (by omega)
def u4(K:Fb):Sp:=λvs H Q _=>∃c p,vs=[.int c,.int p]/\0<p/\∀n H',Ext H H'->0<=n->n<=12->Q (.int n) H'
abbrev lX:Stmt:=stq 79
def xI:FnScope ["_law_cell_here","_law_prime"] ["_law_cell_here","_law_prime"] (aH lX):=⟨rfl,rfl,rfl,by decide +kernel,rfl,by decide +kernel,by decide +kernel⟩
def yV{P:Program}{w:World}{K:Fb}{mg:Str->Option Value}{base:Heap}(D:Dfn K mg "_law_small" lX ["_law_cell_here","_law_prime"])(T:Blt mg)(C__law_draws:Cal P w K mg base "_law_draws" 2 ["_law_cell_here","_law_widths","_law_prime"] (fo K)):Cal P w K mg base "_law_small" 3 ["_law_cell_here","_law_prime"] (u4 K):=by
 have nd:=(xI).nd;refine D.ok xI (λvs H Q E h=>?_) (λX hX H vs Q E h=>?_)
 ·obtain⟨c,p,rfl,_⟩:=h;rfl
 ·obtain⟨f,cdv,A,outer,s,H0,E0,rfl,hr⟩:=hX;obtain⟨c,p,rfl,hp,q⟩:=h;refine⟨_,(@av _ _ _ (@aF _ _ _ _ (@ao _ _ _ _ _ _ _ (aJ K) (aB C__law_draws hr (@aa _ _ _ _ _ (pv 0) (@aa _ _ _ _ _ (@bx _ _ _ _ (@aa _ _ _ _ _ ae af rfl)) (@aa _ _ _ _ _ (pv 1) af rfl) rfl) rfl)) ae (λ_ _=>rfl)))),?_⟩;walk_at"";refine aO λw0 G1 f1 hw0 _=>?_;walk_at"";refine⟨c,w0,[13],p,rfl,hw0,by decide,by decide,hp,λdq ds H1 e1 hd hdn hl hb=>?_⟩;obtain⟨d0,g0,b00,b01⟩:=cA hl hb 0 rfl;walk_at"";refine aK (ag.of hd) g0 ?_;exact q d0 H1 (f1.trans e1) b00 (by omega)
def Cv(H:Hp)(c:Addr)(v:V)(m:Int)(ws:List Way)(pa:Addr)(x:Bfs.Pl):Prop:=H c=some (.tup [v,.ref pa])/\bj H v m ws/\HOuse m ws/\aw H pa x/\cY m x/\x.2<=200
def qh(K:Fb):Sp:=λvs H Q _=>∃(a:Addr) (ns:List Int),vs=[.ref a]/\ag K H a (ns.map V.int)/\ns.length<=63/\∀c v m ws pa x H',Ext H H'->Cv H' c v m ws pa x->Q (.ref c) H'
abbrev oD:Stmt:=stq 86
def uU:FnScope ["_law_script","_law_house_here","_law_cell_here","_law_number_here"] ["_law_script"] (aH oD):=⟨rfl,rfl,rfl,by decide +kernel,rfl,by decide +kernel,by decide +kernel⟩
def BI{P:Program}{w:World}{K:Fb}{mg:Str->Option Value}{base:Heap}(D:Dfn K mg "_law_case" oD ["_law_script"])(T:Blt mg)(C__law_draws:Cal P w K mg base "_law_draws" 2 ["_law_cell_here","_law_widths","_law_prime"] (fo K))(C__law_cell:Cal P w K mg base "_law_cell" 1 ["_law_script","_law_k"] (wJ K))(C__law_number:Cal P w K mg base "_law_number" 3 ["_law_cell_here","_law_prime"] (xY K))(C__law_small:Cal P w K mg base "_law_small" 3 ["_law_cell_here","_law_prime"] (u4 K))(C__law_house:Cal P w K mg base "_law_house" 4 ["_law_cell_here","_law_prime"] (xO K)):Cal P w K mg base "_law_case" 5 ["_law_script"] (qh K):=by
 have nd:=(uU).nd;refine D.ok uU (λvs H Q E h=>?_) (λX hX H vs Q E h=>?_)
 ·obtain⟨a,ns,rfl,_⟩:=h;rfl
 ·obtain⟨f,cdv,A,outer,s,H0,E0,rfl,hr⟩:=hX;obtain⟨a,ns,rfl,ha,hl,q⟩:=h;refine⟨_,(@aq _ _ _ _ _ (@aE _ _ 1 _ _ _ _ nd rfl (Or.inl rfl) (aB C__law_house hr (@aa _ _ _ _ _ (aB C__law_cell hr (@aa _ _ _ _ _ (pv 0) (@aa _ _ _ _ _ ae af rfl) rfl)) (@aa _ _ _ _ _ ae af rfl) rfl)) rfl (Or.inl rfl))
    (@aq _ _ _ _ _ (@aE _ _ 2 _ _ _ _ nd rfl (Or.inl rfl) (aB C__law_cell hr (@aa _ _ _ _ _ (pv 0) (@aa _ _ _ _ _ ae af rfl) rfl)) rfl (Or.inl rfl))
    (@aq _ _ _ _ _ (@aE _ _ 3 _ _ _ _ nd rfl (Or.inl rfl) (aB C__law_small hr (@aa _ _ _ _ _ (pv 2) (@aa _ _ _ _ _ ae af rfl) rfl)) rfl (Or.inl rfl))
    (@aq _ _ _ _ _ (cU (aQ cZ (@ao _ _ _ _ _ _ _ (ay K) (pv 1) ae (λ_ _=>rfl)) ae (aN _)) (@av _ _ _ (@aE _ _ 3 _ _ _ _ nd rfl (Or.inl rfl) (aA cJ (aB C__law_number hr (@aa _ _ _ _ _ (pv 2) (@aa _ _ _ _ _ ae af rfl) rfl)) ae) rfl (Or.inl rfl))) aV)
    (@av _ _ _ (@aF _ _ _ _ (@bz _ _ _ _ _ (@aa _ _ _ _ _ (pv 1) (@aa _ _ _ _ _ (@bz _ _ _ _ _ (@aa _ _ _ _ _ (aA cJ (@ao _ _ _ _ _ _ _ (aJ K) (aB C__law_draws hr (@aa _ _ _ _ _ (aB C__law_cell hr (@aa _ _ _ _ _ (pv 0) (@aa _ _ _ _ _ ae af rfl) rfl)) (@aa _ _ _ _ _ (@bx _ _ _ _ (@aa _ _ _ _ _ ae af rfl)) (@aa _ _ _ _ _ ae af rfl) rfl) rfl)) ae (λ_ _=>rfl)) (@ao _ _ _ _ _ _ _ (ay K) (pv 1) ae (λ_ _=>rfl))) (@aa _ _ _ _ _ (pv 3) af rfl) rfl)) af rfl) rfl)))))))),?_⟩
  walk_at"";refine⟨a,ns,0,rfl,ha,hl,by decide,λz=>?_⟩;walk_at"";refine⟨z,_,rfl,by decide,λv m ws H1 e1 hv ok3=>?_⟩;have ok:=ok3.house;have m1:=ok.m1;have m2:=ok.m12;obtain⟨hh,t1,rfl,k1,k2⟩:=id hv;walk_at"";refine⟨a,ns,1,rfl,ha.ext e1,hl,by decide,λz2=>?_⟩;walk_at"";refine⟨z2,_,rfl,by decide,λn0 H2 e2 n00 n01=>?_⟩;walk_at"";refine gE (λσ H'=>∃n:Int,σ=[some (.ref a),some (.ref hh),some (.int z2),some (.int n)]/\Ext H1 H'/\0<=n/\n<=200) ?_ ?_
  ·walk_at"";refine ax (ah.of (e2 _ _ k1)) (v:=.int m) rfl ?_;walk_at"";by_cases h6:m<5
   ·rw[Ga h6];refine aG ?_;walk_at"";refine⟨z2,_,rfl,by decide,λn1 H3 e3 n10 n11=>?_⟩;walk_at""
    try refine rd_I (show(0:Int)<201 by decide) ?_
    walk_at"";have q0:=Int.emod_nonneg n1 (show(201:Int)≠0 by decide);have q1:=Int.emod_lt_of_pos n1 (show(0:Int)<201 by decide);exact⟨_,rfl,e2.trans e3,q0,by omega⟩
   ·rw[F9 h6];refine az ?_;walk_at"";exact⟨n0,rfl,e2,n00,by omega⟩
  rintro σ H3 ⟨n,rfl,e3,hn0,hn1⟩;walk_at"";refine⟨a,ns,2,rfl,ha.ext (e1.trans e3),hl,by decide,λz3=>?_⟩;walk_at"";refine aO λw0 H4 e4 hw0 _=>?_;walk_at"";refine⟨z3,w0,[12],_,rfl,hw0,by decide,by decide,by decide,λdq ds H5 e5 hd hdn hdl hb=>?_⟩;obtain⟨d0,g0,b00,b01⟩:=cA hdl hb 0 rfl;have e15:=e3.trans (e4.trans e5);walk_at"";refine aK (ag.of hd) g0 ?_;walk_at"";refine ax (ah.of (e15 _ _ k1)) (v:=.int m) rfl ?_
  try refine rd_I (show(0:Int)<m by omega) ?_
  walk_at"";refine aO λpa H6 e6 hpa _=>?_;walk_at"";refine aO λc H7 e7 hc _=>?_;exact q c _ m ws pa (d0 % m,n) H7 (e1.trans (e15.trans (e6.trans e7))) ⟨hc,hv.ext (e15.trans (e6.trans e7)),ok,e7 _ _ hpa,⟨Int.emod_nonneg _ (by omega),Int.emod_lt_of_pos _ (by omega),hn0,by show n<=1000;omega⟩,hn1⟩
def cz.et{H H':Hp}(e:Et H H'){c:Addr}{t:Int×Int×Int}(h:cz H c t):cz H' c t:=by obtain⟨d,h1,h2⟩:=h;exact⟨d,e _ _ h1 (λps z=>by cases z),e _ _ h2 (λps z=>by cases z)⟩
def Bh{m U:Int}{ws:List Way}(ok:HOuse m ws){x g:Bfs.Pl}{ks:List Nat}(h:Bfs.gone (nx:=aI ws U) x ks=some g):aR ws x g:=by
 have key:∀j,j<=ks.length->aR ws x (aS (aI ws U) x ks j):=by
  intro j;induction j with
  | zero=>exact λ_=>⟨0,.nil⟩
  | succ j ih=>exact λhj=>(ih (by omega)).trans (.one (kX ok.ok (ik h (Fg (by omega)))))
 have:=(fZ h ks.length).1;rw[FK,h]at this;rw[FX this];exact key _ (FA _)
def DS{m U:Int}{ws:List Way}(ok:HOuse m ws){y z:Bfs.Pl}{bs:List Nat}(h:Bfs.gone (nx:=aI ws U) y bs=some z)(hz:∀k∈bs,∀w,ws[k]?=some w->w.deed≠"zero"){c:Int}(hc:0<=c):aR ws (y.1,y.2+c) (z.1,z.2+c):=by
 have key:∀j,j<=bs.length->aR ws (y.1,y.2+c) ((aS (aI ws U) y bs j).1,(aS (aI ws U) y bs j).2+c):=by
  intro j;induction j with
  | zero=>exact λ_=>⟨0,.nil⟩
  | succ j ih=>
   intro hj;refine(ih (by omega)).trans (.one ?_);have hk:=Fg (show j<bs.length by omega);obtain⟨w,hw,hr,hs,ho,_⟩:=fQ (ik h hk);have hwm:=Fp hw;have okw:=ok.ok w hwm;obtain⟨hop,e⟩:=(mG okw.dd).mp hs;refine⟨w,hwm,?_,Prod.ext ho (by show _+c=_+c+rz w.deed;omega)⟩;rw[←hr];refine gG rfl ?_;rcases fC okw.dd hop with⟨e1,_⟩|⟨e1,_⟩|⟨e1,hn,_⟩|⟨e1,_,_⟩
   ·exact .inl e1
   ·exact .inr (.inl e1)
   ·exact .inr (.inr (.inl ⟨e1,by show 0<(aS (aI ws U) y bs j).2+c;omega⟩))
   ·exact absurd e1 (hz _ (FI _) w hw)
 have:=(fZ h bs.length).1;rw[FK,h]at this;rw[FX this];exact key _ (FA _)
def iJ.far{m:Int}{ws:List Way}(ok:HOuse m ws){x:Bfs.Pl}{as bs:List Nat}(h:iJ m ws x as bs):∃r:Int,∀B:Nat,∃i:Int,(B:Int)<=i/\aR ws x (r,i):=by
 obtain⟨U,y,z,g1,g2,hzy,hlt,_,hge,hz,_⟩:=h;refine⟨y.1,λB=>?_⟩;have key:∀k:Nat,aR ws x (y.1,y.2+(k:Int)*(z.2-y.2)):=by
  intro k;induction k with
  | zero=>
   rw[show y.2+((0:Nat):Int)*(z.2-y.2)=y.2 by simp];exact Bh ok g1
  | succ k ih=>
   have h0:0<=(k:Int)*(z.2-y.2):=FL (by omega) (by omega);have:=ih.trans (DS ok g2 hz h0);rw[hzy]at this;rw[show y.2+((k+1:Nat):Int)*(z.2-y.2)=z.2+(k:Int)*(z.2-y.2) by rw[Int.natCast_add,Int.add_mul];omega];exact this
 obtain⟨j,hj⟩:∃j:Nat,-y.2<=(j:Int):=⟨(-y.2).toNat,by omega⟩;refine⟨_,?_,key (B+j)⟩;have:((B+j:Nat):Int)*1<=((B+j:Nat):Int)*(z.2-y.2):=Int.mul_le_mul_of_nonneg_left (by omega) (by omega);omega
def DW{m:Int}{ws:List Way}(ok:HOuse m ws){x g:Bfs.Pl}(h:aR ws x g):g=x\/∃t∈cw ws x.1 x.2 ws.length,aR ws (t.2.1,t.2.2) g:=by
 obtain⟨n,h⟩:=h;induction h with
 | nil=>exact .inl rfl
 | @snoc n x y z hw hs ih=>
  rcases ih with rfl|⟨t,ht,hr⟩
  ·obtain⟨k,hk⟩:=rB ok.ok hs (Int.le_refl _);exact .inr ⟨_,(uR hk).1,⟨0,.nil⟩⟩
  ·exact .inr ⟨t,ht,hr.trans (.one hs)⟩
def E3{m:Int}{ws:List Way}(ok:HOuse m ws){x:Bfs.Pl}{t:Int×Int×Int}(h:t∈cw ws x.1 x.2 ws.length)(hx:0<=x.2):aR ws x (t.2.1,t.2.2)/\0<=t.2.1/\t.2.1<m/\0<=t.2.2/\t.2.2<=x.2+1:=by obtain⟨k,_,hk⟩:=y8 (T:=t.2.2) h (Int.le_refl _);have hs:=kX ok.ok hk;obtain⟨b0,b1,b2,b3,_⟩:=eo ok.ok hs hx;exact⟨.one hs,b0,b1,b2,b3⟩
def za{m n:Int}(m1:1<=m)(m2:m<=12)(n1:n<=200)(n0:0<=n):m*(n+m+m*m+1)<=20000:=by have hmm:m*m<=12*12:=Int.mul_le_mul m2 m2 (by omega) (by decide);have hmm0:0<=m*m:=FL (by omega) (by omega);have:=Int.mul_le_mul m2 (show n+m+m*m+1<=357 by omega) (by omega) (by decide);omega
def Ah{F:Nat->Bool}{d l:Nat}(hL:Least F d l)(h:0<(row F l d).length):∀B:Nat,∃k:Nat,B<=k/\F k=true:=λB=>by
 obtain⟨i,hi⟩:=List.exists_mem_of_length_pos h;obtain⟨h1,h2,h3⟩:=fj.mp hi;refine⟨i.toNat+B*d,?_,?_⟩
 ·have:=Nat.le_mul_of_pos_right B hL.pos;omega
 ·rw[hL.per.times B i.toNat (by omega)];exact h3
def EF{F:Nat->Bool}{d l:Nat}(hL:Least F d l)(h:¬0<(row F l d).length):∀k:Nat,F k=true->k<l:=λk hk=>by refine Classical.byContradiction λz=>?_;have e:=v7 hL.pos hL.per k;rw[nH _ (by omega),List.eq_nil_of_length_eq_zero (show(row F l d).length=0 by omega),hk]at e;cases e
def pq{m:Int}{ws:List Way}(ok:HOuse m ws){x:Bfs.Pl}(ix:cY m x){g:Bfs.Pl}(h:aR ws x g):0<=g.1/\g.1<m/\0<=g.2:=by
 obtain⟨n,h⟩:=h;have key:∀(n:Nat) (g:Bfs.Pl),Bfs.Rw (cX ws) n x g->0<=g.1/\g.1<m/\0<=g.2:=by
  intro n;induction n with
  | zero=>
   intro g h;cases h;exact⟨ix.1,ix.2.1,ix.2.2.1⟩
  | succ n ih=>
   intro g h;cases h with
   | @snoc _ _ z _ hw hs=>
    obtain⟨b0,b1,b2,_⟩:=eo ok.ok hs (ih z hw).2.2;exact⟨b0,b1,b2⟩
 exact key n g h
def yD{k:Nat}{c:Int}(h:(k:Int)<=c)(hc:c<=20000):k<=20000:=by omega
def EN(H H':Hp)(t:Addr)(m:Int)(ws:List Way)(x:Bfs.Pl):Prop:=((∃r:Int,aR ws x (r,x.2+m))/\∃l1 l2 as bs,H' t=some (.tup [.str "rises",.ref l1,.ref l2])/\iJ m ws x as bs) ∨
 ((∀r:Int,0<=r->r<m->¬aR ws x (r,x.2+m))/\∃l N r U ks,(∀o,H l=some o->∃ps,o=.tbl ps)/\H' t=some (.tup [.str "most",.int N,.ref l])/\H' l=some (.lst (bT ks))/\Bfs.gone (nx:=aI ws U) x ks=some (r,N)/\(ks.length:Int)<=m*(x.2+m+m*m+1)/\(∀y,aR ws x y->y.2<=N)/\aR ws x (r,N))
def Bb{K:Fb}{H:Hp}{Q:VK}{xe:XK}{v:V}{m:Int}{ws:List Way}{pa:Addr}{x:Bfs.Pl}(hv:bj H v m ws)(ok:HOuse m ws)(hpx:aw H pa x)(ix:cY m x)(dis:fm K)(tb:Tbs K H)(k:∀t H',Et H H'->Tbs K H'->EN H H' t m ws x->Q (.ref t) H'):mj K [v,.ref pa] H Q xe:=
 ⟨v,m,ws,pa,x,rfl,hv,ok,hpx,ix,dis,tb,λhex t l1 l2 as bs H2 e2 tb2 ht _ _ hris=>k t H2 e2 tb2 (.inl ⟨hex,l1,l2,as,bs,ht,hris⟩),λhno t l N r U ks H2 e2 tb2 hfr ht hwl hgo hks hup hr=>k t H2 e2 tb2 (.inr ⟨hno,l,N,r,U,ks,hfr,ht,hwl,hgo,hks,hup,hr⟩)⟩
def ky(K:Fb):Sp:=λvs H Q _=>∃(a:Addr) (ns:List Int),vs=[.ref a]/\ag K H a (ns.map V.int)/\ns.length<=63/\(∀y∈(["kept","low_levels","risen"]:List Str),∀c T,PySem.W.tabIn K y=some (c,T)->H T=some (.tbl #[]))/\fm K/\∀H',Q (.bl true) H'
abbrev ft:Stmt:=stq 87
def qG:FnScope ["_law_script","_law_house_here","_law_place","_law_found","_law_stairs","_law_due","_law_stair","_law_near","_law_k","_law_there","_law_told","_law_again","_law_gone_here"] ["_law_script"] (aH ft):=⟨rfl,rfl,rfl,by decide +kernel,rfl,by decide +kernel,by decide +kernel⟩
def yN{P:Program}{w:World}{K:Fb}{mg:Str->Option Value}{base:Heap}{f:Addr}{fd:FuncData}(F:Fun K "law" "law" ft f fd)(T:Blt mg)(C__law_gone:Cal P w K mg base "_law_gone" 2 ["_law_house_here","_law_place","_law_walk"] (sJ K))(C_greatest:Cal P w K mg base "greatest" 11 ["house","place"] (mj K))(C__law_behind:Cal P w K mg base "_law_behind" 1 ["_law_house_here","_law_place"] (oa K))(C__law_is_stair:Cal P w K mg base "_law_is_stair" 3 ["_law_found"] (uh K))(C_forward:Cal P w K mg base "forward" 10 ["house","place"] (pM K))(C__law_case:Cal P w K mg base "_law_case" 5 ["_law_script"] (qh K)):FnOk P w K mg base dX 12 f fd ["_law_script"] (ky K):=by
 have nd:=(qG).nd;refine F.ok qG (λvs H Q E h=>?_) (λcdv A outer s H vs Q E hr h=>?_)
 ·obtain⟨a,ns,rfl,_⟩:=h;rfl
 ·obtain⟨a,ns,rfl,ha,hl,hT,dis,q⟩:=h;have tab0:Tbs K H:=⟨λc T e=>.inl (hT _ (by simp) c T e),λc T e=>.inl (hT _ (by simp) c T e),λc T e=>.inl (hT _ (by simp) c T e)⟩;clear hT;refine⟨_,(@aq _ _ _ _ _ (@gU _ _ _ _ _ _ (aB C__law_case hr (@aa _ _ _ _ _ (pv 0) af rfl)) (dY (n:=2) K rfl (bE (aM (i:=1) nd rfl (Or.inl rfl)) (bE (aM (i:=2) nd rfl (Or.inl rfl)) dI))) rfl rfl rfl)
    (@aq _ _ _ _ _ (@aE _ _ 3 _ _ _ _ nd rfl (Or.inl rfl) (aB C_greatest hr (@aa _ _ _ _ _ (pv 1) (@aa _ _ _ _ _ (pv 2) af rfl) rfl)) rfl (Or.inl rfl))
    (@aq _ _ _ _ _ (@aE _ _ 4 _ _ _ _ nd rfl (Or.inl rfl) (aB C_forward hr (@aa _ _ _ _ _ (pv 1) (@aa _ _ _ _ _ (pv 2) af rfl) rfl)) rfl (Or.inl rfl))
    (@aq _ _ _ _ _ (@bo _ _ _ _ _ _ _ _ (PW.pt (cE (bY (bB (aX dJ rfl T.isinstance_ PyProof.Rows.boot_isinstance (@aa _ _ _ _ _ (pv 4) (@aa _ _ _ _ _ (dO (v:=.ty "list") rfl T.list_ PyProof.Rows.boot_list rfl) af rfl) rfl)))) (dj (bY (bB (aX (jj K rfl) rfl T.all_ PyProof.Rows.boot_all (@aa _ _ _ _ _ (de ["_law_stair"] [] (bW K (pv 4)) (λ_=>(aM (i:=0) (show(["_law_stair"]:List Str).Nodup from by decide +kernel) rfl (Or.inl rfl) (Or.inr rfl))) (λ_=>dR) (λ_=>(aB C__law_is_stair hr (@aa _ _ _ _ _ (pv 0) af rfl)))) af rfl))))))) (@av _ _ _ (@aF _ _ _ _ bO)) aV)
    (@aq _ _ _ _ _ (@bo _ _ _ _ _ _ _ _ (bB (aX (qH K rfl) rfl T.any_ PyProof.Rows.boot_any (@aa _ _ _ _ _ (de ["_law_stair"] [] (bW K (pv 4)) (λ_=>(aM (i:=0) (show(["_law_stair"]:List Str).Nodup from by decide +kernel) rfl (Or.inl rfl) (Or.inr rfl))) (λ_=>dR) (λ_=>(dC fB (aX (cQ K) rfl T.len_ PySem.boot_len (@aa _ _ _ _ _ (@ao _ _ _ _ _ _ _ (ay K) (pv 0) ae (λ_ _=>rfl)) af rfl)) ae (aN _)))) af rfl))) (@av _ _ _ (@aF _ _ _ _ (dC bJ (@ao _ _ _ _ _ _ _ (ay K) (pv 3) ae (λ_ _=>rfl)) aW (aN _)))) aV)
    (@aq _ _ _ _ _ (@aE _ _ 5 _ _ _ _ nd rfl (Or.inl rfl) ae rfl (Or.inl rfl))
    (@aq _ _ _ _ _ (bM PassesOwn.never rfl (bW K (pv 4)) (aM (i:=6) nd rfl (Or.inl rfl)) (@av _ _ _ (@aE _ _ 5 _ _ _ _ nd rfl (Or.inl rfl) (aX (ly K rfl) rfl T.max_ PyProof.Rows.boot_max (@aa _ _ _ _ _ (aA kE (@bx _ _ _ _ (@aa _ _ _ _ _ (pv 5) af rfl)) (iC (Be K) rfl T.list_ PyProof.Rows.boot_list (@aa _ _ _ _ _ (@ao _ _ _ _ _ _ _ (ay K) (pv 6) ae (λ_ _=>rfl)) af rfl))) af rfl)) rfl (Or.inl rfl))))
    (@aq _ _ _ _ _ (@bo _ _ _ _ _ _ _ _ (PW.pt (cE (aQ eM (@ao _ _ _ _ _ _ _ (ay K) (pv 3) ae (λ_ _=>rfl)) aW (aN _)) (dj (aQ eM (@ao _ _ _ _ _ _ _ (ay K) (pv 3) ae (λ_ _=>rfl)) (pv 5) (aN _))))) (@av _ _ _ (@aF _ _ _ _ bO)) aV)
    (@aq _ _ _ _ _ (@aE _ _ 7 _ _ _ _ nd rfl (Or.inl rfl) (@bx _ _ _ _ (@aa _ _ _ _ _ (@ao _ _ _ _ _ _ _ (ay K) (pv 2) ae (λ_ _=>rfl)) af rfl)) rfl (Or.inl rfl))
    (@aq _ _ _ _ _ (bM PassesOwn.never rfl (bW K (aB C__law_behind hr (@aa _ _ _ _ _ (pv 1) (@aa _ _ _ _ _ (pv 2) af rfl) rfl))) (dY (n:=2) K rfl (bE (aM (i:=8) nd rfl (Or.inl rfl)) (bE (aM (i:=9) nd rfl (Or.inl rfl)) dI))) (@av _ _ _ (cU (aQ f7 (@ao _ _ _ _ _ _ _ (ay K) (pv 9) ae (λ_ _=>rfl)) ae (aN _)) (@aq _ _ _ _ _ (@aE _ _ 10 _ _ _ _ nd rfl (Or.inl rfl) (aB C_greatest hr (@aa _ _ _ _ _ (pv 1) (@aa _ _ _ _ _ (pv 9) af rfl) rfl)) rfl (Or.inl rfl))
    (@aq _ _ _ _ _ (@bo _ _ _ _ _ _ _ _ (aQ eM (@ao _ _ _ _ _ _ _ (ay K) (pv 10) ae (λ_ _=>rfl)) aW (aN _)) (@av _ _ _ (@aF _ _ _ _ bO)) aV)
    (@av _ _ _ (bp (bF K Fn FC FD bN (pv 7) (@aa _ _ _ _ _ (@ao _ _ _ _ _ _ _ (ay K) (pv 10) ae (λ_ _=>rfl)) af rfl)))))) aV)))
    (@aq _ _ _ _ _ (@bo _ _ _ _ _ _ _ _ (PW.pt (fX (aQ cZ (@ao _ _ _ _ _ _ _ (ay K) (pv 2) ae (λ_ _=>rfl)) ae (aN _)) (gJ (aQ eM (aX (ly K rfl) rfl T.max_ PyProof.Rows.boot_max (@aa _ _ _ _ _ (pv 7) af rfl)) (pv 5) (aN _))))) (@av _ _ _ (@aF _ _ _ _ bO)) aV)
    (@aq _ _ _ _ _ (bp (bF K Fn FC FD bN (@ao _ _ _ _ _ _ _ (ay K) (pv 3) ae (λ_ _=>rfl)) (@aa _ _ _ _ _ ae af rfl)))
    (@aq _ _ _ _ _ (@aE _ _ 11 _ _ _ _ nd rfl (Or.inl rfl) (aB C_greatest hr (@aa _ _ _ _ _ (pv 1) (@aa _ _ _ _ _ (pv 2) af rfl) rfl)) rfl (Or.inl rfl))
    (@aq _ _ _ _ _ (@aE _ _ 12 _ _ _ _ nd rfl (Or.inl rfl) (aB C__law_gone hr (@aa _ _ _ _ _ (pv 1) (@aa _ _ _ _ _ (pv 2) (@aa _ _ _ _ _ (@ao _ _ _ _ _ _ _ (ay K) (pv 11) ae (λ_ _=>rfl)) af rfl) rfl) rfl)) rfl (Or.inl rfl))
    (@av _ _ _ (@aF _ _ _ _ (di (dC bJ (@ao _ _ _ _ _ _ _ (ay K) (pv 11) ae (λ_ _=>rfl)) aW (aN _)) (di (dC bJ (@ao _ _ _ _ _ _ _ (ay K) (pv 11) ae (λ_ _=>rfl)) (pv 5) (aN _)) (di (dC tU (pv 12) iN (aN _)) (dN (dC bJ (@ao _ _ _ _ _ _ _ (ay K) (@ao _ _ _ _ _ _ _ (aJ K) (pv 12) (fU fS ae) (λ_ _=>rfl)) ae (λ_ _=>rfl)) (pv 5) (aN _)))))))))))))))))))))),?_⟩
  walk_at"";refine⟨a,ns,rfl,ha,hl,λc v m ws pa x H1 e1 ⟨hc,hv,ok,hpx,ix,hsm⟩=>?_⟩;have m1:=ok.m1;have m2:=ok.m12;obtain⟨x0,x1,x2,x3⟩:=id ix;have hfew:∀k:Nat,(k:Int)<=m*(x.2+m+m*m+1)->k<=20000:=λk hk=>yD hk (za m1 m2 hsm x2);have tb1:=tab0.ext e1;clear tab0 e1 ha;walk_at"";refine dU (ah.of hc) rfl ?_;walk_at"";refine Bb hv ok hpx ix dis tb1 λt H2 e2 tb2 hgr=>?_;walk_at"";refine⟨v,m,ws,pa,x,rfl,hv.et e2,ok,aw.et e2 hpx,ix,dis,tb2,λsl xs H3 e3 tb3 _ hsl fw=>?_⟩;have hxl:=fw.1;walk_at"";refine dG (Bs hsl) (b:=true) rfl ?_;walk_at"";refine az ?_;walk_at"";refine bZ (ag.of hsl) ?_;refine fD (xs:=xs) (λi zs H'=>Ext H3 H'/\zs=(F0 i true).map V.bl) (bL (by omega)) ⟨Ext.rfl' _,rfl⟩ (λi ys H' hi h=>⟨ag.of (h.1 _ _ hsl),by rw[h.2];simp⟩) ?_ ?_
  ·rintro i u zs H4 hu ⟨e4,rfl⟩;obtain⟨F,lo,d,hst,hL,hd,hld,hF⟩:=fw.2 i u hu;walk_at"";refine aG ?_;walk_at"";refine⟨u,_,_,_,_,rfl,hst.ext e4,⟨xM F lo d hd,by omega⟩,λH5 e5=>?_⟩;refine⟨e4.trans e5,?_⟩;rw[List.replicate_succ',Fx];rfl
  rintro zs H4 p9 ⟨e4,rfl⟩ hp9;have e5:=e4.trans (bq (o:=.lst ((F0 xs.length true).map V.bl)) hp9);have h9:(upd H4 p9 (.lst ((F0 xs.length true).map V.bl))) p9=_:=aL;generalize upd H4 p9 (.lst ((F0 xs.length true).map V.bl))=H5 at e5 h9 ⊢;walk_at"";refine⟨p9,_,rfl,ag.of h9,?_⟩;rw[show (F0 xs.length true).all id=true by simp];walk_at"";refine az ?_;walk_at"";refine bZ (ag.of (e5 _ _ hsl)) ?_;refine fD (xs:=xs) (λi ys H'=>H'=H5/\∃bl:List Bool,ys=bl.map V.bl/\bl.length=i/\(bl.any id=false->∃B:Nat,∀r:Nat,r<i->∀k:Nat,aR ws x ((r:Int),(k:Int))->k<B)/\(bl.any id=true->∃r:Nat,∀B:Nat,∃k:Nat,B<=k/\aR ws x ((r:Int),(k:Int)))) (bL (by omega)) ⟨rfl,[],rfl,rfl,λ_=>⟨0,λr h=>absurd h (Nat.not_lt_zero _)⟩,λh=>(nomatch h)⟩ (λi ys H' hi h=>⟨by rw[h.1];exact ag.of (e5 _ _ hsl),by obtain⟨_,bl,rfl,h,_⟩:=h;rw[Ff,h];exact FA _⟩) ?_ ?_
  ·rintro i u ys H' hu ⟨rfl,bl,rfl,hbl,hF0,hT0⟩;obtain⟨F,lo,d,⟨p,qa,ra,rfl,s1,s2,s3⟩,hL,hd,hld,hF⟩:=fw.2 i u hu;walk_at"";refine aG ?_;walk_at"";refine ax (ah.of (e5 _ _ s1)) (v:=.ref ra) rfl ?_;walk_at"";refine gh (ah.of (e5 _ _ s3)) ?_;walk_at"";rw[Ff];by_cases hp:0<(row F lo d).length
   ·rw[Ga (show(0:Int)<((row F lo d).length:Nat) by omega)];refine⟨rfl,bl++[true],by rw[Fx];rfl,by rw[Fy,hbl];rfl,λz=>by simp at z,λ_=>⟨i,λB=>?_⟩⟩;obtain⟨k,k1,k2⟩:=Ah hL hp B;exact⟨k,k1,(hF k).mp k2⟩
   ·rw[F9 (show ¬(0:Int)<((row F lo d).length:Nat) by omega)];refine⟨rfl,bl++[false],by rw[Fx];rfl,by rw[Fy,hbl];rfl,λz=>?_,λz=>hT0 (by simpa using z)⟩;obtain⟨B,hB⟩:=hF0 (by simpa using z);refine⟨B+lo,λr hr k hk=>?_⟩;rcases Nat.lt_succ_iff_lt_or_eq.mp hr with w|w
    ·have:=hB r w k hk;omega
    ·subst w;have:=EF hL hp k ((hF k).mpr hk);omega
  rintro ys H' p8 ⟨rfl,bl,rfl,hbl,hF0,hT0⟩ hp8;have e6:=bq (o:=.lst (bl.map V.bl)) hp8;have h8:(upd H' p8 (.lst (bl.map V.bl))) p8=some (.lst (bl.map V.bl)):=aL;generalize upd H' p8 (.lst (bl.map V.bl))=H6 at e6 h8 ⊢;walk_at"";refine⟨p8,bl,rfl,ag.of h8,?_⟩;rcases hgr with⟨hex,l1,l2,as,bs,ht,hris⟩|⟨hno,l,N,r,U,ks,hfr,ht,hwl,hgo,hks,hup,hrN⟩
  ·have ht3:=e3 _ _ ht (λps z=>by cases z);have hany:bl.any id=true:=by refine Classical.byContradiction λz=>?_;obtain⟨B,hB⟩:=hF0 (by simpa using z);obtain⟨r,hr⟩:=hris.far ok;obtain⟨k,k1,k2⟩:=hr B;obtain⟨r0,r1,k0⟩:=pq ok ix k2;have r0':0<=r:=r0;have r1':r<m:=r1;have:=hB r.toNat (by omega) k.toNat (by rw[Fu r0',Fu (by omega)];exact k2);omega
   rw[hany];walk_at"";refine aG ?_;walk_at"";refine ax (ah.of ((e5.trans e6) _ _ ht3)) (v:=.str "rises") rfl ?_;walk_at"";refine cy ?_;rw[dE];exact q _
  ·have hk2:=hfew _ hks;clear hks;have hlow:=xV ok ix hno;have ht3:=e3 _ _ ht (λps z=>by cases z);have hany:bl.any id=false:=by rw[Bool.eq_false_iff];intro z;obtain⟨r,hr⟩:=hT0 z;obtain⟨k,k1,n,k2⟩:=hr (x.2+m).toNat;have:=(hlow n _ k2).2;have:(k:Int)<x.2+m:=this;omega
   rw[hany];walk_at"";refine az ?_;have hsl6:=(e5.trans e6) _ _ hsl;have e36:=e5.trans e6;clear hF0 hT0 hany h8 hbl e6 e5 hp8 h9;walk_at"";refine bZ (ag.of hsl6) ?_;refine forL (xs:=xs) (λi σ H'=>∃(D:Int) (c6:Option V),σ=[some (.ref a),some v,some (.ref pa),some (.ref t),some (.ref sl),some (.int D),c6,none,none,none,none,none,none]/\Ext H6 H'/\0<=D/\(∀r:Nat,r<i->∀k:Nat,aR ws x ((r:Int),(k:Int))->(k:Int)<=D)/\(D=0\/∃y,aR ws x y/\y.2=D)) ⟨0,_,rfl,Ext.rfl' _,Int.le_refl _,λr h=>absurd h (Nat.not_lt_zero _),.inl rfl⟩ (λi σ H' _ h=>by obtain⟨_,_,_,e,_⟩:=h;exact ag.of (e _ _ hsl6)) ?_ ?_
   ·rintro i u σ H7 hu ⟨D,c6,rfl,e7,hD0,hDall,hDy⟩;obtain⟨F,lo,d,⟨p,qa,ra,rfl,s1,s2,s3⟩,hL,hd,hld,hF⟩:=fw.2 i u hu;have e37:=e36.trans e7;walk_at"";refine aO λd1 H8 e8 hd1 _=>?_;walk_at"";refine ax (ah.of ((e37.trans e8) _ _ s1)) (v:=.ref qa) rfl ?_;walk_at"";refine EV (ah.of ((e37.trans e8) _ _ s2)) (cn λd2 H9 e9 hd2 _=>?_);have hrl:=mE F 0 lo;refine jT (e9 _ _ hd1) hd2 (Nat.le_of_lt (dQ (by rw[Ff];simp;omega))) (cn λd3 H10 e10 hd3 _=>?_);walk_at"";refine⟨d3,D::row F 0 lo,rfl,ag.of hd3,by simp,λM hM hMall=>?_⟩;walk_at"";refine⟨M,_,rfl,e7.trans (e8.trans (e9.trans e10)),Int.le_trans hD0 (hMall D Fm),λr hr k hk=>?_,?_⟩
    ·rcases Nat.lt_succ_iff_lt_or_eq.mp hr with w|w
     ·exact Int.le_trans (hDall r w k hk) (hMall D Fm)
     ·subst w;have hFk:=(hF k).mpr hk;have hlt:=tI (B:=(x.2+m).toNat) hL (λj hj=>by rw[Bool.eq_false_iff];intro z;obtain⟨n,hn⟩:=(hF j).mp z;have:=(hlow n _ hn).2;have:(j:Int)<x.2+m:=this;omega) k hFk
      exact hMall _ (Fi _ (fj.mpr ⟨by omega,by omega,by rw[Ft];exact hFk⟩))
    ·rcases Fv.mp hM with rfl|w
     ·exact hDy
     ·obtain⟨w1,w2,w3⟩:=fj.mp w;refine .inr ⟨((i:Int),M),?_,rfl⟩;have:=(hF M.toNat).mp w3;rw[Fu (by omega)]at this;exact this
   rintro σ H7 ⟨D,c6,rfl,e7,hD0,hDall,hDy⟩;obtain⟨rr0,rr1,rN0⟩:=pq ok ix hrN;have rr0':0<=r:=rr0;have rr1':r<m:=rr1;have rN0':0<=N:=rN0;obtain rfl:D=N:=by
    have a1:=hDall r.toNat (by omega) N.toNat (by rw[Fu rr0',Fu rN0'];exact hrN);rcases hDy with z|⟨y,hy,z⟩
    ·omega
    ·have:=hup y hy;omega
   clear hDall hDy;have e27:Et H2 H7:=e3.trans (e36.trans e7).et;have e17:=e2.trans e27;have ht7:=e27 _ _ ht (λps z=>by cases z);have hwl7:=e27 _ _ hwl (λps z=>by cases z);have hv7:=hv.et e17;have hx7:aw H7 pa x:=aw.et e17 hpx;have tb7:=tb3.ext (e36.trans e7);have hfr7:∀o,H1 l=some o->∃ps,o=.tbl ps:=hfr;clear hsl6 hsl fw e7 e36 e3 tb3 ht3 ht hwl e27 tb2 e4 hp9 hxl;walk_at"";refine ax (ah.of ht7) (v:=.str "most") rfl ?_;walk_at"";refine mD ?_;rw[dE];refine rd_exb (az ?_);walk_at"";refine ax (ah.of ht7) (v:=.int D) rfl ?_;walk_at"";rw[Ga (show D=D from rfl)];refine az ?_;walk_at"";refine ax (ah.of hx7) (v:=.int x.2) rfl ?_;walk_at"";refine aO λnr H8 e8 hnr hnrn=>?_;walk_at"";refine⟨v,m,ws,pa,x.1,x.2,rfl,hv7.ext e8,ok,e8 _ _ hx7,λbl H9 cs e9 hbln hbl hpd=>?_⟩;have hnb:nr≠bl:=λz=>by rw[←z,hnr]at hbln;cases hbln
   have hcl:=Paired.length hpd;have hbeh:=jH ws x.1 x.2 ws.length;have hfw:=ok.few;refine bZ (ag.of hbl) ?_;refine forL (xs:=List.map V.ref cs) (λi σ H'=>∃(ns:List Int) (c8 c9 c10:Option V),σ=[some (.ref a),some v,some (.ref pa),some (.ref t),some (.ref sl),some (.int D),c6,some (.ref nr),c8,c9,c10,none,none]/\Et H7 H'/\Tbs K H'/\H' bl=some (.lst (List.map V.ref cs))/\Paired (cz H') cs (cw ws x.1 x.2 ws.length)/\H' nr=some (.lst (ns.map V.int))/\ns.length=i+1/\x.2∈ns/\(∀n∈ns,n<=D)/\∀(j:Nat) (tt:Int×Int×Int),j<i->(cw ws x.1 x.2 ws.length)[j]?=some tt->∃n∈ns,∀y,aR ws (tt.2.1,tt.2.2) y->y.2<=n)
    ⟨[x.2],_,_,_,rfl,(e8.trans e9).et,tb7.ext (e8.trans e9),hbl,hpd,e9 _ _ hnr,rfl,Fq.mpr rfl,λn hn=>by rw[Fq.mp hn];exact hup x ⟨0,.nil⟩,λj tt h=>absurd h (Nat.not_lt_zero _)⟩ (λi σ H' _ h=>by obtain⟨_,_,_,_,_,_,_,h,_⟩:=h;exact ag.of h) ?_ ?_
   ·rintro i u σ H10 hu ⟨ns,c8,c9,c10,rfl,e10,tb10,hbl10,hpd10,hnr10,hns,hxn,hnle,hnall⟩;rw[Fh]at hu;obtain⟨cc,hcc,rfl⟩:=Fs.mp hu;obtain⟨tt,htt,dd,hc1,hd1⟩:=fb hpd10 hcc;have hil:=(Fo.mp hcc).1;obtain⟨hrt,t0,t1,t2,t3⟩:=E3 ok (Fp htt) x2;have it:cY m (tt.2.1,tt.2.2):=⟨t0,t1,t2,by show tt.2.2<=1000;omega⟩;refine dU (ah.of hc1) rfl ?_;walk_at"";refine gE (λσ H'=>∃(n:Int) (c10:Option V),σ=[some (.ref a),some v,some (.ref pa),some (.ref t),some (.ref sl),some (.int D),c6,some (.ref nr),some (.int tt.1),some (.ref dd),c10,none,none]/\Et H7 H'/\Tbs K H'/\H' bl=some (.lst (List.map V.ref cs))/\Paired (cz H') cs (cw ws x.1 x.2 ws.length)/\H' nr=some (.lst ((ns++[n]).map V.int))/\n<=D/\∀y,aR ws (tt.2.1,tt.2.2) y->y.2<=n) ?_ ?_
    ·walk_at"";refine ax (ah.of hd1) (v:=.int tt.2.2) rfl ?_;walk_at"";rw[Ga (show tt.2.2<=1000 by omega)];refine aG ?_;walk_at"";refine⟨v,m,ws,dd,(tt.2.1,tt.2.2),rfl,hv7.et e10,ok,hd1,it,dis,tb10,λ_ t9 l8 l9 as bs H11 e11 tb11 ht9 _ _ hris=>?_,λ_ t9 l9 N9 r9 U9 ks9 H11 e11 tb11 _ ht9 _ _ _ hup9 hr9=>?_⟩
     ·exfalso;obtain⟨r9,hr9⟩:=hris.far ok;obtain⟨k,k1,k2⟩:=hr9 (D.toNat+1);have:=hup _ (hrt.trans k2);have:k<=D:=this;omega
     ·walk_at"";refine ax (ah.of ht9) (v:=.str "most") rfl ?_;walk_at"";refine mD ?_;rw[dE];refine rd_exb (az ?_);have hnr11:=e11 _ _ hnr10 (λps z=>by cases z);have hbl11:=e11 _ _ hbl10 (λps z=>by cases z);walk_at"";refine⟨cN (ag.of hnr11),?_⟩;walk_at"";refine ax (ah.of ht9) (v:=.int N9) rfl ?_;walk_at"";refine bK hnr11 (dQ (by rw[Ff];omega)) ?_;refine⟨N9,_,rfl,wB (e10.trans e11) (λo ho=>by rw[hnrn]at ho;cases ho),tb11.put hnr11,by rw[aC hnb.symm];exact hbl11,pE (λ_ _ z=>(z.et e11).put hnr11) hpd10,by rw[aL,Fx];rfl,hup _ (hrt.trans hr9),hup9⟩
    ·rintro σ H11 ⟨n,c10',rfl,e11,tb11,hbl11,hpd11,hnr11,hnD,hny⟩;refine⟨ns++[n],_,_,_,rfl,e11,tb11,hbl11,hpd11,hnr11,by rw[Fy,hns];rfl,FZ _ hxn,λk hk=>?_,λj t' hj ht'=>?_⟩
     ·rcases FE.mp hk with w|w
      ·exact hnle k w
      ·rw[Fq.mp w];exact hnD
     ·rcases Nat.lt_succ_iff_lt_or_eq.mp hj with w|w
      ·obtain⟨k,k1,k2⟩:=hnall j t' w ht';exact⟨k,FZ _ k1,k2⟩
      ·subst w;rw[htt]at ht';cases ht';exact⟨n,FY _ (Fq.mpr rfl),hny⟩
   rintro σ H10 ⟨ns,c8,c9,c10,rfl,e10,tb10,_,_,hnr10,hns,hxn,hnle,hnall⟩;have hMN:∀M,M∈ns->(∀k,k∈ns->k<=M)->M=D:=λM hM hMall=>by
    have a1:=hnle M hM;rcases DW ok hrN with z|⟨tt,htm,hr⟩
    ·have z2:D=x.2:=congrArg Prod.snd z;have:=hMall x.2 hxn;omega
    ·obtain⟨j,hj⟩:=List.mem_iff_getElem?.mp htm;have hjl:=(Fo.mp hj).1;obtain⟨k,k1,k2⟩:=hnall j tt (by rw[Ff,hcl];exact hjl) hj;have b1:D<=k:=k2 _ hr;have:=hMall k k1;omega
   walk_at"";refine ax (ah.of (e10 _ _ hx7 (λps z=>by cases z))) (v:=.int x.2) rfl ?_;walk_at"";rw[Ga (show x.2<1000 by omega)];refine aG ?_;walk_at"";refine⟨nr,ns,rfl,ag.of hnr10,by omega,λM hM hMall=>?_⟩;walk_at"";rw[hMN M hM hMall,Ga (show D=D from rfl)];refine az ?_;have ht10:=e10 _ _ ht7 (λps z=>by cases z);have hwl10:=e10 _ _ hwl7 (λps z=>by cases z);have hv10:=hv7.et e10;have hx10:aw H10 pa x:=aw.et e10 hx7;walk_at"";refine ax (ah.of ht10) (v:=.ref l) rfl ?_;refine⟨cN (ag.of hwl10),?_⟩;walk_at"";refine bK hwl10 (dQ (by rw[Ff];omega)) ?_;have tb11:Tbs K (upd H10 l (.lst (bT ks++[V.int 0]))):=tb10.put hwl10;have e11:Et H1 (upd H10 l (.lst (bT ks++[V.int 0]))):=wB (e17.trans e10) hfr7;generalize upd H10 l (.lst (bT ks++[V.int 0]))=H11 at tb11 e11 ⊢;have hv11:=hv.et e11;have hx11:aw H11 pa x:=aw.et e11 hpx;walk_at"";refine⟨v,m,ws,pa,x,rfl,hv11,ok,hx11,ix,dis,tb11,λhex=>?_,λ_ t12 l12 N12 r12 U12 ks12 H12 e12 tb12 _ ht12 hwl12 hgo12 hks12 hup12 hr12=>?_⟩
   ·exfalso;obtain⟨r9,hr9⟩:=hex;obtain⟨r0,r1,_⟩:=pq ok ix hr9;exact hno r9 r0 r1 hr9
   obtain rfl:N12=D:=by have a1:N12<=D:=hup _ hr12;have a2:D<=N12:=hup12 _ hrN;omega
   have hv12:=hv11.et e12;have hx12:aw H12 pa x:=aw.et e12 hx11;walk_at"";refine ax (ah.of ht12) (v:=.ref l12) rfl ?_;walk_at"";refine⟨v,m,ws,pa,l12,U12,x,(r12,N12),ks12,rfl,hv12,ok,hx12,hwl12,FP (hfew _ hks12) (by decide),hgo12,λr2 H13 ds b e13 hr2 _ hb=>?_⟩;have ht13:=e13 _ _ ht12;walk_at"";refine ax (ah.of ht13) (v:=.str "most") rfl ?_;walk_at"";refine cy ?_;rw[dE];walk_at"";refine aG ?_;walk_at"";refine ax (ah.of ht13) (v:=.int N12) rfl ?_;walk_at"";rw[Ga (show N12=N12 from rfl)];refine aG ?_;walk_at"";refine⟨rfl,?_⟩;rw[F9 (show ¬(V.ref r2=V.non) by intro z;cases z)];walk_at"";refine aG ?_;walk_at"";refine aK (ag.of hr2) (v:=.ref b) (by rw[Fx];exact jE _ _) ?_;walk_at"";refine ax (ah.of hb) (v:=.int N12) rfl ?_;walk_at"";rw[Ga rfl];exact q _
abbrev Dq(K:Fb)(mg:Str->Option Value)(x:Str)(st:Stmt):Prop:=∃(f:Addr) (fd:FuncData),mg x=some (.ref f)/\Fun K x x st f fd
def dq{K:Fb}{h:Heap}{mg:Str->Option Value}(X:K.In h)(G:h.Ns mainGlobals mg){x:Str}{st:Stmt}{f:Addr}{od an:Option Addr}{sl:Array (Option Value)}{oc kV dc pm cd ct:Value}(a:PySem.W.nsIn K mainGlobals x=some (some (.ref f)))(l:K.lookup f=some ⟨oc,od,.func (PySem.W.fnOf x x (gm st) (eL st) (aH st) .none kV dc pm an cd ct),sl⟩)(c:PySem.W.codeIn K cd x=true)(k:PySem.W.keepIn K (.ref f)=true):Dq K mg x st:=⟨f,_,PySem.W.mg_of X G a,qN (st:=st) l c k⟩
abbrev bd(x:Str)(st:Stmt)(us:List Value)(r:List (Str×Value)):Prop:=∀(kV doc pm:Value) (an:Option Addr) (cdv ct:Value),bindArgs (PySem.W.fnOf x x (gm st) (eL st) (aH st) .none kV doc pm an cdv ct) ⟨us,[]⟩=pure r
def bX{K:Fb}{mg:Str->Option Value}{x:Str}{st:Stmt}(p0:Str)(d:Dq K mg x st)(h:∀u0,bd x st [u0] [(p0,u0)]):Dfn K mg x st [p0]:=let ⟨f,fd,a,F⟩:=d;⟨f,fd,a,F,F.binds (ps:=[p0]) λ_ _ _ _ _ _ us hl=>match us,hl with|[_],_=>h _ _ _ _ _ _ _⟩
def bS{K:Fb}{mg:Str->Option Value}{x:Str}{st:Stmt}(p0 p1:Str)(d:Dq K mg x st)(h:∀u0 u1,bd x st [u0,u1] [(p0,u0),(p1,u1)]):Dfn K mg x st [p0,p1]:=let ⟨f,fd,a,F⟩:=d;⟨f,fd,a,F,F.binds (ps:=[p0,p1]) λ_ _ _ _ _ _ us hl=>match us,hl with|[_,_],_=>h _ _ _ _ _ _ _ _⟩
def dF{K:Fb}{mg:Str->Option Value}{x:Str}{st:Stmt}(p0 p1 p2:Str)(d:Dq K mg x st)(h:∀u0 u1 u2,bd x st [u0,u1,u2] [(p0,u0),(p1,u1),(p2,u2)]):Dfn K mg x st [p0,p1,p2]:=let ⟨f,fd,a,F⟩:=d;⟨f,fd,a,F,F.binds (ps:=[p0,p1,p2]) λ_ _ _ _ _ _ us hl=>match us,hl with|[_,_,_],_=>h _ _ _ _ _ _ _ _ _⟩
def ya{K:Fb}{mg:Str->Option Value}{x:Str}{st:Stmt}(p0 p1 p2 p3:Str)(d:Dq K mg x st)(h:∀u0 u1 u2 u3,bd x st [u0,u1,u2,u3] [(p0,u0),(p1,u1),(p2,u2),(p3,u3)]):Dfn K mg x st [p0,p1,p2,p3]:=let ⟨f,fd,a,F⟩:=d;⟨f,fd,a,F,F.binds (ps:=[p0,p1,p2,p3]) λ_ _ _ _ _ _ us hl=>match us,hl with|[_,_,_,_],_=>h _ _ _ _ _ _ _ _ _ _⟩
def all_mk{l:PySem.W.OpenLaw}{w:World}{K:Fb}{h:Heap}{mg:Str->Option Value}{fa:Addr}(X:K.In h)(G:h.Ns mainGlobals mg)(hfa:mg "law" = some (.ref fa))
  (d0:Dq K mg "_law_behind" nJ)
  (d1:Dq K mg "_law_gone" mS)
  (d2:Dq K mg "walk_back" nz)
  (d3:Dq K mg "is_open" mC)
  (d4:Dq K mg "raised_by" pL)
  (d5:Dq K mg "led_to" kP)
  (d6:Dq K mg "counts_by_room" ng)
  (d7:Dq K mg "greatest_met" m5)
  (d8:Dq K mg "found_from" lM)
  (d9:Dq K mg "sought_walk" kU)
  (d10:Dq K mg "last_met" mW)
  (d11:Dq K mg "can_go" mz)
  (d12:Dq K mg "places_gone" o4)
  (d13:Dq K mg "rising_part" ml)
  (d14:Dq K mg "refuse_great_stair" nj)
  (d15:Dq K mg "is_whole" lx)
  (d16:Dq K mg "is_rising_row" lb)
  (d17:Dq K mg "are_stair_places" oh)
  (d18:Dq K mg "is_stair" nS)
  (d19:Dq K mg "refuse_no_stair" mR)
  (d20:Dq K mg "refuse_bad_stair" ph)
  (d21:Dq K mg "holds" mT)
  (d22:Dq K mg "unbounded_goals" mn)
  (d23:Dq K mg "least_step" mU)
  (d24:Dq K mg "stair_of_marks" nX)
  (d25:Dq K mg "stair_of_room" mw)
  (d26:Dq K mg "next_level" mQ)
  (d27:Dq K mg "reached" pV)
  (d28:Dq K mg "told_pairs" pQ)
  (d29:Dq K mg "add_arches" pY)
  (d30:Dq K mg "join_walks" kN)
  (d31:Dq K mg "ways_of_deed" mx)
  (d32:Dq K mg "beginning_table" pP)
  (d33:Dq K mg "kept_table" pT)
  (d34:Dq K mg "is_sign" lj)
  (d35:Dq K mg "is_deed" oT)
  (d36:Dq K mg "is_room" oJ)
  (d37:Dq K mg "is_way" oK)
  (d38:Dq K mg "are_ways" pJ)
  (d39:Dq K mg "is_house" lK)
  (d40:Dq K mg "refuse_no_house" pI)
  (d41:Dq K mg "kept" lr)
  (d42:Dq K mg "ways_by_room" oj)
  (d43:Dq K mg "led_to_from" lG)
  (d44:Dq K mg "low_beside" nK)
  (d45:Dq K mg "low_levels" me)
  (d46:Dq K mg "risen" oY)
  (d47:Dq K mg "all_levels" kO)
  (d48:Dq K mg "refuse_bad_places" pz)
  (d49:Dq K mg "forward" ni)
  (d50:Dq K mg "greatest" oG)
  (d51:Dq K mg "_law_whole" pG)
  (d52:Dq K mg "_law_rises" mN)
  (d53:Dq K mg "_law_is_stair" mK)
  (d54:Dq K mg "_law_mixed" pZ)
  (d55:Dq K mg "_law_draws" oA)
  (d56:Dq K mg "_law_cell" lA)
  (d57:Dq K mg "_law_number" kQ)
  (d58:Dq K mg "_law_small" lX)
  (d59:Dq K mg "_law_unlike" lR)
  (d60:Dq K mg "_law_drawn_house" oQ)
  (d61:Dq K mg "_law_gate_house" ma)
  (d62:Dq K mg "_law_ring_house" pK)
  (d63:Dq K mg "_law_spare" oE)
  (d64:Dq K mg "_law_house" kT)
  (d65:Dq K mg "_law_case" oD)
  {f66:Addr} {od66 an66:Option Addr} {sl66:Array (Option Value)} {oc66 kV66 dc66 pm66 cd66 ct66:Value} (a66:PySem.W.nsIn K mainGlobals "law" = some (some (.ref f66))) (l66:K.lookup f66=some ⟨oc66,od66,.func (PySem.W.fnOf "law" "law" (gm ft) (eL ft) (aH ft) .none kV66 dc66 pm66 an66 cd66 ct66),sl66⟩) (c66:PySem.W.codeIn K cd66 "law" = true) (k66:PySem.W.keepIn K (.ref f66)=true)
  (z0:PySem.W.nsIn K mainGlobals "len" = some none)
  (z1:PySem.W.nsIn K mainGlobals "isinstance" = some none)
  (z2:PySem.W.nsIn K mainGlobals "tuple" = some none)
  (z3:PySem.W.nsIn K mainGlobals "list" = some none)
  (z4:PySem.W.nsIn K mainGlobals "int" = some none)
  (z5:PySem.W.nsIn K mainGlobals "bool" = some none)
  (z6:PySem.W.nsIn K mainGlobals "range" = some none)
  (z7:PySem.W.nsIn K mainGlobals "zip" = some none)
  (z8:PySem.W.nsIn K mainGlobals "max" = some none)
  (z9:PySem.W.nsIn K mainGlobals "min" = some none)
  (z10:PySem.W.nsIn K mainGlobals "abs" = some none)
  (z11:PySem.W.nsIn K mainGlobals "all" = some none)
  (z12:PySem.W.nsIn K mainGlobals "enumerate" = some none)
  (z13:PySem.W.nsIn K mainGlobals "set" = some none)
  (z14:PySem.W.nsIn K mainGlobals "str" = some none)
  (z15:PySem.W.nsIn K mainGlobals "reversed" = some none)
  (z16:PySem.W.nsIn K mainGlobals "any" = some none)
  {t0:Tok} (v0:PySem.W.nsIn K mainGlobals "GREATEST_STEP" = some (some (.int 840 t0)))
  {t1:Tok} (v1:PySem.W.nsIn K mainGlobals "GREATEST_BASE" = some (some (.int 3000 t1)))
  {t2:Tok} (v2:PySem.W.nsIn K mainGlobals "GREATEST_WAYS" = some (some (.int 100 t2)))
  {t3:Tok} (v3:PySem.W.nsIn K mainGlobals "GREATEST_MANY" = some (some (.int 12 t3)))
  {t4:Tok} (v4:PySem.W.nsIn K mainGlobals "GREATEST_NUMBER" = some (some (.int 1000 t4)))
  {e0:Addr} {q0_0 u0_0 q0_1 u0_1 q0_2 u0_2 q0_3 u0_3:Tok} {ep0:Nat} (x0:PySem.W.nsIn K mainGlobals "RAISED" = some (some (.ref e0))) (y0:K.lookup e0=some (iI w [("up",q0_0,.int (1) u0_0),("down",q0_1,.int (-1) u0_1),("stay",q0_2,.int (0) u0_2),("zero",q0_3,.int (0) u0_3)] ep0)) (w0:(e0 == sysModules)=false)
  {e1:Addr} {q1_0 u1_0 q1_1 u1_1 q1_2 u1_2 q1_3 u1_3:Tok} {ep1:Nat} (x1:PySem.W.nsIn K mainGlobals "TURNED" = some (some (.ref e1))) (y1:K.lookup e1=some (iI w [("up",q1_0,.str "down" u1_0),("down",q1_1,.str "up" u1_1),("stay",q1_2,.str "stay" u1_2),("zero",q1_3,.str "zero" u1_3)] ep1)) (w1:(e1 == sysModules)=false)
  : ∃fd:FuncData,(∀(s:Shared) (v:Value),BindsTo s fd ⟨[v],[]⟩ [("_law_script",v)])/\∀base:Heap,K.In base->base.Ns mainGlobals mg->(∀y∈(["kept","low_levels","risen"]:List Str),∃c T,Tab K mg base y c T)->FnOk l.prog w K mg base dX 12 fa fd ["_law_script"] (ky K):=by
 have e:=hfa.symm.trans (PySem.W.mg_of X G a66);cases e;have T:Blt mg:=⟨PySem.W.mg_none_of X G z0,PySem.W.mg_none_of X G z1,PySem.W.mg_none_of X G z2,PySem.W.mg_none_of X G z3,PySem.W.mg_none_of X G z4,PySem.W.mg_none_of X G z5,PySem.W.mg_none_of X G z6,PySem.W.mg_none_of X G z7,PySem.W.mg_none_of X G z8,PySem.W.mg_none_of X G z9,PySem.W.mg_none_of X G z10,PySem.W.mg_none_of X G z11,PySem.W.mg_none_of X G z12,PySem.W.mg_none_of X G z13,PySem.W.mg_none_of X G z14,PySem.W.mg_none_of X G z15,PySem.W.mg_none_of X G z16⟩;have D0:=bS "_law_house_here" "_law_place" d0 λ_ _ _ _ _ _ _ _=>rfl;have D1:=dF "_law_house_here" "_law_place" "_law_walk" d1 λ_ _ _ _ _ _ _ _ _=>rfl;have D2:=bS "found" "goal" d2 λ_ _ _ _ _ _ _ _=>rfl;have D3:=bS "way" "place" d3 λ_ _ _ _ _ _ _ _=>rfl;have D4:=bX "way" d4 λ_ _ _ _ _ _ _=>rfl;have D5:=bS "way" "place" d5 λ_ _ _ _ _ _ _ _=>rfl;have D6:=bX "house" d6 λ_ _ _ _ _ _ _=>rfl;have D7:=dF "house" "place" "goal" d7 λ_ _ _ _ _ _ _ _ _=>rfl;have D8:=dF "house" "place" "goal" d8 λ_ _ _ _ _ _ _ _ _=>rfl;have D9:=dF "house" "place" "goal" d9 λ_ _ _ _ _ _ _ _ _=>rfl;have D10:=bX "places" d10 λ_ _ _ _ _ _ _=>rfl;have D11:=dF "house" "place" "count" d11 λ_ _ _ _ _ _ _ _ _=>rfl;have D12:=dF "house" "place" "walk" d12 λ_ _ _ _ _ _ _ _ _=>rfl;have D13:=dF "house" "place" "goal" d13 λ_ _ _ _ _ _ _ _ _=>rfl;have D14:=bX "stair" d14 λ_ _ _ _ _ _ _=>rfl;have D15:=bX "thing" d15 λ_ _ _ _ _ _ _=>rfl;have D16:=dF "thing" "low" "end" d16 λ_ _ _ _ _ _ _ _ _=>rfl;have D17:=ya "base" "step" "once" "again" d17 λ_ _ _ _ _ _ _ _ _ _=>rfl;have D18:=bX "thing" d18 λ_ _ _ _ _ _ _=>rfl;have D19:=bX "thing" d19 λ_ _ _ _ _ _ _=>rfl;have D20:=bX "thing" d20 λ_ _ _ _ _ _ _=>rfl;have D21:=bS "stair" "x" d21 λ_ _ _ _ _ _ _ _=>rfl;have D22:=dF "house" "place" "stairs" d22 λ_ _ _ _ _ _ _ _ _=>rfl;have D23:=bX "turn" d23 λ_ _ _ _ _ _ _=>rfl;have D24:=bS "marks" "base" d24 λ_ _ _ _ _ _ _ _=>rfl;have D25:=dF "levels" "base" "room" d25 λ_ _ _ _ _ _ _ _ _=>rfl;have D26:=bS "rises" "level" d26 λ_ _ _ _ _ _ _ _=>rfl;have D27:=bS "place" "beside" d27 λ_ _ _ _ _ _ _ _=>rfl;have D28:=bS "house" "choice" d28 λ_ _ _ _ _ _ _ _=>rfl;have D29:=dF "table" "ups" "downs" d29 λ_ _ _ _ _ _ _ _ _=>rfl;have D30:=bX "table" d30 λ_ _ _ _ _ _ _=>rfl;have D31:=bS "house" "deed" d31 λ_ _ _ _ _ _ _ _=>rfl;have D32:=bX "house" d32 λ_ _ _ _ _ _ _=>rfl;have D33:=bX "house" d33 λ_ _ _ _ _ _ _=>rfl;have D34:=bX "thing" d34 λ_ _ _ _ _ _ _=>rfl;have D35:=bX "thing" d35 λ_ _ _ _ _ _ _=>rfl;have D36:=bS "thing" "many" d36 λ_ _ _ _ _ _ _ _=>rfl;have D37:=bS "thing" "many" d37 λ_ _ _ _ _ _ _ _=>rfl;have D38:=bS "thing" "many" d38 λ_ _ _ _ _ _ _ _=>rfl;have D39:=bX "thing" d39 λ_ _ _ _ _ _ _=>rfl;have D40:=bX "thing" d40 λ_ _ _ _ _ _ _=>rfl;have D41:=bX "house" d41 λ_ _ _ _ _ _ _=>rfl;have D42:=bX "house" d42 λ_ _ _ _ _ _ _=>rfl;have D43:=bS "ways" "place" d43 λ_ _ _ _ _ _ _ _=>rfl;have D44:=ya "ways" "keeps" "top" "here" d44 λ_ _ _ _ _ _ _ _ _ _=>rfl;have D45:=bS "house" "place" d45 λ_ _ _ _ _ _ _ _=>rfl;have D46:=bX "house" d46 λ_ _ _ _ _ _ _=>rfl;have D47:=bS "house" "place" d47 λ_ _ _ _ _ _ _ _=>rfl;have D48:=bS "house" "places" d48 λ_ _ _ _ _ _ _ _=>rfl;have D49:=bS "house" "place" d49 λ_ _ _ _ _ _ _ _=>rfl;have D50:=bS "house" "place" d50 λ_ _ _ _ _ _ _ _=>rfl;have D51:=bX "_law_found" d51 λ_ _ _ _ _ _ _=>rfl;have D52:=dF "_law_row" "_law_low" "_law_high" d52 λ_ _ _ _ _ _ _ _ _=>rfl;have D53:=bX "_law_found" d53 λ_ _ _ _ _ _ _=>rfl;have D54:=dF "_law_cell_here" "_law_k" "_law_prime" d54 λ_ _ _ _ _ _ _ _ _=>rfl;have D55:=dF "_law_cell_here" "_law_widths" "_law_prime" d55 λ_ _ _ _ _ _ _ _ _=>rfl;have D56:=bS "_law_script" "_law_k" d56 λ_ _ _ _ _ _ _ _=>rfl;have D57:=bS "_law_cell_here" "_law_prime" d57 λ_ _ _ _ _ _ _ _=>rfl;have D58:=bS "_law_cell_here" "_law_prime" d58 λ_ _ _ _ _ _ _ _=>rfl;have D59:=bX "_law_ways" d59 λ_ _ _ _ _ _ _=>rfl;have D60:=bS "_law_cell_here" "_law_prime" d60 λ_ _ _ _ _ _ _ _=>rfl;have D61:=bS "_law_cell_here" "_law_prime" d61 λ_ _ _ _ _ _ _ _=>rfl;have D62:=bS "_law_cell_here" "_law_prime" d62 λ_ _ _ _ _ _ _ _=>rfl;have D63:=bS "_law_cell_here" "_law_width" d63 λ_ _ _ _ _ _ _ _=>rfl;have D64:=bS "_law_cell_here" "_law_prime" d64 λ_ _ _ _ _ _ _ _=>rfl;have D65:=bX "_law_script" d65 λ_ _ _ _ _ _ _=>rfl;refine⟨PySem.W.fnOf "law" "law" (gm ft) (eL ft) (aH ft) .none kV66 dc66 pm66 an66 cd66 ct66,λs v=>.of_eq rfl,λbase KB GB HB=>?_⟩;have C0:=@DZ l.prog w K mg base D0 T;have C1:=@EH l.prog w K mg base D1 T C0;have C2:=@Dt l.prog w K mg base D2 T;have C3:=@BR l.prog w K mg base D3 T;have C4:=@El l.prog w K mg base D4 T ⟨_,PySem.W.mg_of X G x0,DY y0 w0⟩;have C5:=@EE l.prog w K mg base D5 T C4;have C6:=@Ct l.prog w K mg base D6 T;have C7:=@zY l.prog w K mg base D7 T;have C8:=@Cj l.prog w K mg base D8 T C3 C5 C6 C7;have C9:=@Dp l.prog w K mg base D9 T C2 C8;have C10:=@yA l.prog w K mg base D10 T;have C11:=@Ae l.prog w K mg base D11 T C3;have C12:=@Ci l.prog w K mg base D12 T C5 C11;have C13:=@Ca l.prog w K mg base D13 T C10 C12 C9;have C14:=@En l.prog w K mg base D14 T ⟨_,PySem.W.mg_of X G v0⟩ ⟨_,PySem.W.mg_of X G v1⟩;have C15:=@y9 l.prog w K mg base D15 T;have C16:=@Dd l.prog w K mg base D16 T C15;have C17:=@EG l.prog w K mg base D17 T C16 C15;have C18:=@Cs l.prog w K mg base D18 T C17;have C19:=@CA l.prog w K mg base D19 T C18;have C20:=@B6 l.prog w K mg base D20 T C14 C19;have C21:=@BH l.prog w K mg base D21 T C20;have C22:=@DV l.prog w K mg base D22 T C21;have C23:=@E1 l.prog w K mg base D23 T;have C24:=@Di l.prog w K mg base D24 T C23;have C25:=@BS l.prog w K mg base D25 T C24;have C26:=@Ba l.prog w K mg base D26 T;have C27:=@Cr l.prog w K mg base D27 T;have C28:=@DC l.prog w K mg base D28 T;have C29:=@ER l.prog w K mg base D29 T;have C30:=@B7 l.prog w K mg base D30 T;have C31:=@Df l.prog w K mg base D31 T;have C32:=@DI l.prog w K mg base D32 T C31;have C33:=@EM l.prog w K mg base D33 T C29 C30 C31 C32;have C34:=@DE l.prog w K mg base D34 T;have C35:=@EU l.prog w K mg base D35 T ⟨_,PySem.W.mg_of X G x1,Bu y1 w1⟩;have C36:=@AF l.prog w K mg base D36 T C15;have C37:=@zL l.prog w K mg base D37 T C34 C35 C36;have C38:=@Bq l.prog w K mg base D38 T ⟨_,PySem.W.mg_of X G v2⟩ C37;have C39:=@EZ l.prog w K mg base D39 T ⟨_,PySem.W.mg_of X G v3⟩ C38 C15;have C40:=@B1 l.prog w K mg base D40 T C39;obtain⟨c419,T419,B41⟩:=HB "kept" (by simp);have C41:Cal l.prog w K mg base "kept" 7 ["house"] (oM K):=BE D41 T B41 C28 C33 C40;have C42:=@AG l.prog w K mg base D42 T;have C43:=@Aa l.prog w K mg base D43 T C3 C5;have C44:=@zQ l.prog w K mg base D44 T C43;obtain⟨c459,T459,B45⟩:=HB "low_levels" (by simp);have C45:Cal l.prog w K mg base "low_levels" 8 ["house","place"] (mM K):=AR D45 T B45 C27 C41 C42 C44;obtain⟨c469,T469,B46⟩:=HB "risen" (by simp);have C46:Cal l.prog w K mg base "risen" 7 ["house"] (kS K):=Ej D46 T B46 C28 C31 C33 C40;have C47:=@B3 l.prog w K mg base D47 T C26 C45 C46;have C48:=@yJ l.prog w K mg base D48 T ⟨_,PySem.W.mg_of X G v4⟩ C36;have C49:=@zc l.prog w K mg base D49 T C25 C47 C48 C40;have C50:=@Bf l.prog w K mg base D50 T C9 C13 C22 C49;have C51:=@zq l.prog w K mg base D51 T;have C52:=@Dh l.prog w K mg base D52 T C51;have C53:=@DQ l.prog w K mg base D53 T C52 C51;have C54:=@CZ l.prog w K mg base D54 T;have C55:=@Dk l.prog w K mg base D55 T C54;have C56:=@zj l.prog w K mg base D56 T;have C57:=@zA l.prog w K mg base D57 T C55;have C58:=@yV l.prog w K mg base D58 T C55;have C59:=@Cn l.prog w K mg base D59 T;have C60:=@zF l.prog w K mg base D60 T C59 C55;have C61:=@Bo l.prog w K mg base D61 T C59 C55;have C62:=@B2 l.prog w K mg base D62 T C55;have C63:=@Ab l.prog w K mg base D63 T;have C64:=@AJ l.prog w K mg base D64 T C60 C61 C62 C63 C55;have C65:=@BI l.prog w K mg base D65 T C55 C56 C57 C58 C64;exact yN (qN (st:=ft) l66 c66 k66) T C1 C50 C0 C53 C49 C65
def walk{l:PySem.W.OpenLaw}{q:Program}{loose:List Str}{XP:(Str->Option Value)->Heap->Prop}{YP:World->Heap->Prop}{d:DefRec}{K:Params->Fb}(hn:l.most=some 63)(hdf:d.params.defaults=[])
  (hY:∀(w:World) (h:Heap),YP w h->(K w.params).In h) (hK:∀w:World,PySem.W.noTabs (K w.params)=true) (hrec:∀y∈(["kept","low_levels","risen"]:List Str),((PyProof.Rows.recsOf q).find? (λe=>e.name == y)).isSome=true) (htab:∀(w:World),∀y∈(["kept","low_levels","risen"]:List Str),(PySem.W.tabIn (K w.params) y).isSome=true) (hdis:∀w:World,fm (K w.params))
  (F:∀(w:World) (mg:Str->Option Value) (fa:Addr) (h:Heap),(K w.params).In h->h.Ns mainGlobals mg->mg d.name=some (.ref fa) →
   ∃fd:FuncData,(∀(s:Shared) (u:Value),BindsTo s fd ⟨[u],[]⟩ [("_law_script",u)])/\∀base:Heap,(K w.params).In base->base.Ns mainGlobals mg->(∀y∈(["kept","low_levels","risen"]:List Str),∃c T,Tab (K w.params) mg base y c T)->FnOk l.prog w (K w.params) mg base dX 12 fa fd ["_law_script"] (ky (K w.params))) :
  PySem.W.WalkO q loose XP YP l.row.toRowW d [] (λf vs=>PySem.call f vs):=
 L2.CY (n:=63) (k:=12) (x:="_law_script") (sp:=λw=>ky (K w.params)) ["kept","low_levels","risen"] hn (by decide) hdf ⟨rfl,by decide,by decide⟩ hY hK hrec htab F λw H a ns hl hT hS=>⟨a,ns,rfl,hS,hl,hT,hdis w,λ_=>rfl⟩
end My
end
open PySem PySem.W PyProof.Rows
set_option maxRecDepth 100000 in
set_option maxHeartbeats 0 in
theorem PySem.Challenge.cw_stairrooms_k44_whole_greatest_and_forwar_holds : PySem.Challenge.rw_stairrooms_k44_whole_greatest_and_forwar.Holds := by
 refine My.top ?_
 k_fill
 refine My.walk (l := PySem.Challenge.rw_stairrooms_k44_whole_greatest_and_forwar) rfl rfl (λw h Y => PySem.W.km_in_of Y) (λw => by kernel_rfl) ?R (λw => ?Tb) (λw => My.ED (by kernel_rfl)) ?F
 case R => intro y hy; simp only [List.mem_cons, List.not_mem_nil, or_false] at hy; rcases hy with rfl|rfl|rfl <;> kernel_rfl
 case Tb => intro y hy; simp only [List.mem_cons, List.not_mem_nil, or_false] at hy; rcases hy with rfl|rfl|rfl <;> kernel_rfl
 case F =>
  intro w mg fa h KX G hmg;have q := @My.dq _ _ _ KX G
  refine' My.all_mk KX G hmg (q ?a0 ?l0 ?c0 ?k0) (q ?a1 ?l1 ?c1 ?k1) (q ?a2 ?l2 ?c2 ?k2) (q ?a3 ?l3 ?c3 ?k3) (q ?a4 ?l4 ?c4 ?k4) (q ?a5 ?l5 ?c5 ?k5) (q ?a6 ?l6 ?c6 ?k6) (q ?a7 ?l7 ?c7 ?k7) (q ?a8 ?l8 ?c8 ?k8) (q ?a9 ?l9 ?c9 ?k9) (q ?a10 ?l10 ?c10 ?k10) (q ?a11 ?l11 ?c11 ?k11) (q ?a12 ?l12 ?c12 ?k12) (q ?a13 ?l13 ?c13 ?k13) (q ?a14 ?l14 ?c14 ?k14) (q ?a15 ?l15 ?c15 ?k15) (q ?a16 ?l16 ?c16 ?k16) (q ?a17 ?l17 ?c17 ?k17) (q ?a18 ?l18 ?c18 ?k18) (q ?a19 ?l19 ?c19 ?k19) (q ?a20 ?l20 ?c20 ?k20) (q ?a21 ?l21 ?c21 ?k21) (q ?a22 ?l22 ?c22 ?k22) (q ?a23 ?l23 ?c23 ?k23) (q ?a24 ?l24 ?c24 ?k24) (q ?a25 ?l25 ?c25 ?k25) (q ?a26 ?l26 ?c26 ?k26) (q ?a27 ?l27 ?c27 ?k27) (q ?a28 ?l28 ?c28 ?k28) (q ?a29 ?l29 ?c29 ?k29) (q ?a30 ?l30 ?c30 ?k30) (q ?a31 ?l31 ?c31 ?k31) (q ?a32 ?l32 ?c32 ?k32) (q ?a33 ?l33 ?c33 ?k33) (q ?a34 ?l34 ?c34 ?k34) (q ?a35 ?l35 ?c35 ?k35) (q ?a36 ?l36 ?c36 ?k36) (q ?a37 ?l37 ?c37 ?k37) (q ?a38 ?l38 ?c38 ?k38) (q ?a39 ?l39 ?c39 ?k39) (q ?a40 ?l40 ?c40 ?k40) (q ?a41 ?l41 ?c41 ?k41) (q ?a42 ?l42 ?c42 ?k42) (q ?a43 ?l43 ?c43 ?k43) (q ?a44 ?l44 ?c44 ?k44) (q ?a45 ?l45 ?c45 ?k45) (q ?a46 ?l46 ?c46 ?k46) (q ?a47 ?l47 ?c47 ?k47) (q ?a48 ?l48 ?c48 ?k48) (q ?a49 ?l49 ?c49 ?k49) (q ?a50 ?l50 ?c50 ?k50) (q ?a51 ?l51 ?c51 ?k51) (q ?a52 ?l52 ?c52 ?k52) (q ?a53 ?l53 ?c53 ?k53) (q ?a54 ?l54 ?c54 ?k54) (q ?a55 ?l55 ?c55 ?k55) (q ?a56 ?l56 ?c56 ?k56) (q ?a57 ?l57 ?c57 ?k57) (q ?a58 ?l58 ?c58 ?k58) (q ?a59 ?l59 ?c59 ?k59) (q ?a60 ?l60 ?c60 ?k60) (q ?a61 ?l61 ?c61 ?k61) (q ?a62 ?l62 ?c62 ?k62) (q ?a63 ?l63 ?c63 ?k63) (q ?a64 ?l64 ?c64 ?k64) (q ?a65 ?l65 ?c65 ?k65) ?a66 ?l66 ?c66 ?k66 ?z0 ?z1 ?z2 ?z3 ?z4 ?z5 ?z6 ?z7 ?z8 ?z9 ?z10 ?z11 ?z12 ?z13 ?z14 ?z15 ?z16 ?v0 ?v1 ?v2 ?v3 ?v4 ?x0 ?y0 ?w0 ?x1 ?y1 ?w1
  case a0|l0|c0|k0|a1|l1|c1|k1|a2|l2|c2|k2|a3|l3|c3|k3|a4|l4|c4|k4|a5|l5|c5|k5|a6|l6|c6|k6|a7|l7|c7|k7|a8|l8|c8|k8|a9|l9|c9|k9|a10|l10|c10|k10|a11|l11|c11|k11|a12|l12|c12|k12|a13|l13|c13|k13|a14|l14|c14|k14|a15|l15|c15|k15|a16|l16|c16|k16|a17|l17|c17|k17|a18|l18|c18|k18|a19|l19|c19|k19|a20|l20|c20|k20|a21|l21|c21|k21|a22|l22|c22|k22|a23|l23|c23|k23|a24|l24|c24|k24|a25|l25|c25|k25|a26|l26|c26|k26|a27|l27|c27|k27|a28|l28|c28|k28|a29|l29|c29|k29|a30|l30|c30|k30|a31|l31|c31|k31|a32|l32|c32|k32|a33|l33|c33|k33|a34|l34|c34|k34|a35|l35|c35|k35|a36|l36|c36|k36|a37|l37|c37|k37|a38|l38|c38|k38|a39|l39|c39|k39|a40|l40|c40|k40|a41|l41|c41|k41|a42|l42|c42|k42|a43|l43|c43|k43|a44|l44|c44|k44|a45|l45|c45|k45|a46|l46|c46|k46|a47|l47|c47|k47|a48|l48|c48|k48|a49|l49|c49|k49|a50|l50|c50|k50|a51|l51|c51|k51|a52|l52|c52|k52|a53|l53|c53|k53|a54|l54|c54|k54|a55|l55|c55|k55|a56|l56|c56|k56|a57|l57|c57|k57|a58|l58|c58|k58|a59|l59|c59|k59|a60|l60|c60|k60|a61|l61|c61|k61|a62|l62|c62|k62|a63|l63|c63|k63|a64|l64|c64|k64|a65|l65|c65|k65|a66|l66|c66|k66|z0|z1|z2|z3|z4|z5|z6|z7|z8|z9|z10|z11|z12|z13|z14|z15|z16|v0|v1|v2|v3|v4=>k_is
  (case x0 => k_is); (case y0 => k_is); (case w0 => first|rfl|k_is)
  (case x1 => k_is); (case y1 => k_is); (case w1 => first|rfl|k_is)
