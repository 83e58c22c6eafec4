import PyProof.Rows.All
import Wide.All
import OpenK.AllK
import Wide.FinOn
import Lean
import PyProof.EqAt
import PyProof.EqKinds
import PyProof.TupleCall
import KE.KLam
import PySem.Challenge.RW_stairrooms_k34_whole_answer
set_option Elab.async false
namespace PySem.W.Fast
def tw271136489686330245:=0
def tw13920694703044094573:=0
def tw16690535407809468760:=0
def tw14600637656281939426:=0
def tw14321698047820721372:=0
def tw9478813727029378433:=0
def tw15830674291869637329:=0
def tw5321472790868126018:=0
def tw11258306804293243132:=0
def tw7470063493387704245:=0
def tw15125771261956903258:=0
def tw9583254098639418403:=0
def tw10044013261082468525:=0
def tw3544651915260091173:=0
def tw15269425654929456476:=0
def tw9723682578460620891:=0
def tw17856860822835476330:=0
def tw8039774922555296384:=0
def tw5581349078452510653:=0
def tw1548055713940827444:=0
def tw9601680054663184376:=0
def tw3674714176635118919:=0
def tw8604979696160575008:=0
def tw10166892954511498249:=0
def tw2686718004561559855:=0
def tw12683310795314169836:=0
def tw4918694162171632466:=0
def tw16408023001231065620:=0
def tw3501889831259424984:=0
def tw16645757649517396401:=0
def tw13921919005729749812:=0
def tw6584469308530667732:=0
def tw12390782021942118942:=0
def tw8238774592813339674:=0
def tw14318957944991924802:=0
def tw2648121624305032702:=0
def tw9456409991113330330:=0
def tw8744267035563872481:=0
def tw15829181571673270705:=0
def tw13956058649364723422:=0
def tw8340926499216404060:=0
def tw1751447207448873119:=0
def tw2567624805475646970:=0
def tw17389396115470475288:=0
def tw18027755133952139252:=0
def tw12267426498645269554:=0
def tw14832175709080873599:=0
def tw8185630143887121337:=0
def tw800831887125934919:=0
def tw17258839070269863901:=0
def tw11655376856063916228:=0
def tw7980446502605500991:=0
def tw705330452703051597:=0
def tw5213485622955226937:=0
def tw447717403241242290:=0
def tw16235577574615639896:=0
def tw12664327836493813462:=0
def tw9642658117253805749:=0
def tw17571631200592639834:=0
def tw17357414001117552268:=0
def tw16029895960380650870:=0
def tw11198388801270196117:=0
def tw1057306937073154610:=0
def tw7176572640101177836:=0
def tw5824247625822886979:=0
def tw4997450903056089975:=0
def tw2904058922640873309:=0
def tw17234483976792478675:=0
def tw15529604674929473973:=0
def tw14109453767193502313:=0
def tw13587432420489492189:=0
def tw1271555132174418337:=0
def tw7258929849126983957:=0
def tw439055297870408345:=0
def tw3161077796674850459:=0
def tw3015604971527890583:=0
def tw18101583386606535240:=0
def tw1735571389945239771:=0
def tw16761591470956491853:=0
def tw11408623696531555632:=0
def tw11030641428109492703:=0
def tw8186763794367992775:=0
def tw7750769465160294860:=0
def tw6181847661251503008:=0
def tw512557566824241540:=0
def tw1754243070517289278:=0
def tw17375602352810135561:=0
def tw16291882091215157828:=0
def tw15170883547044141151:=0
def tw15104015179872336855:=0
def tw14977234088687162302:=0
def tw12441502783428931068:=0
def tw8755266905418455375:=0
def tw3823650005643028596:=0
def tw2355404199824840798:=0
def tw16988158499489311127:=0
def tw16843462989757039891:=0
def tw16826725409987885975:=0
def tw13888251672469135178:=0
def tw13786455662358949411:=0
def tw12124443520851957044:=0
def tw8229460734390689525:=0
def tw8089249423132065445:=0
def tw6393150591798677637:=0
def tw5708804837514111757:=0
def tw5190860397250508396:=0
def tw4307926830116509514:=0
def tw2342838551658309370:=0
def tw16632375998614247822:=0
def tw14635225500592789833:=0
def tw13501672401922333513:=0
def tw13185835248587936794:=0
def tw12323772569751236006:=0
def tw119674054762100072:=0
def tw10118012357411222232:=0
def tw9878173891806150429:=0
def tw9085195453500331236:=0
def tw7240639191980452486:=0
def tw684117499851941213:=0
def tw6714801024506940561:=0
def tw6266016949813577251:=0
def tw4672492687276399408:=0
def tw3924725502804413793:=0
def tw179189376934874584:=0
def tw17843169823834903998:=0
def tw17104333970416622323:=0
def tw16964212798373946863:=0
def tw15853727897521883275:=0
def tw15142431143280010732:=0
def tw14321144422957734134:=0
def tw12951820434879171755:=0
def tw12249993202121903794:=0
def tw11701492411309977178:=0
def tw10276969695076772373:=0
def tw902582806634263858:=0
def tw6329672369177362234:=0
def tw6178244272827954729:=0
def tw6130821448147606368:=0
def tw4817981600543833687:=0
def tw4074507585887532813:=0
def tw17908656721387608039:=0
def tw16176690743668362219:=0
def tw15729792075999087868:=0
def tw15660991250957307376:=0
def tw15524740491475941218:=0
def tw15083788939570734299:=0
def tw1460478622569836974:=0
def tw12878273097781070547:=0
def tw9867131338692390694:=0
def tw9281662355237421915:=0
def tw8247069255634196442:=0
def tw7341270039093922885:=0
def tw7134983793405793177:=0
def tw7115244209674446852:=0
def tw5819105399919881484:=0
def tw5442971307982108685:=0
def tw5140171473248983199:=0
def tw4532786408525356839:=0
def tw4355615645706949100:=0
def tw3866599564448483793:=0
def tw3830783680494933951:=0
def tw18038851775406917655:=0
def tw18032779900021213040:=0
def tw17729564300890611173:=0
def tw17716863462265859512:=0
def tw17065142239566038489:=0
def tw1703860651114587486:=0
def tw16980547499210933930:=0
def tw16743919102785911483:=0
def tw16702496124019576060:=0
def tw1629198167979442983:=0
def tw16283258727396688951:=0
def tw16245695487900975421:=0
def tw1612923964453859806:=0
def tw15834326765199268030:=0
def tw14775263502782431712:=0
def tw14670137783204244808:=0
def tw14397947794671477899:=0
def tw1428814744893504695:=0
def tw14221475358252599964:=0
def tw13135487405686255751:=0
def tw13055914441102849027:=0
def tw12632963454795662708:=0
def tw12357872333080808881:=0
def tw12296552071639831032:=0
def tw11846370373574997029:=0
def tw11787554532782738252:=0
def tw11339562753883754242:=0
def tw1069010634818593453:=0
def tw7848866751621661257:=0
def tw762384175361060421:=0
def tw6744984778823417519:=0
def tw6252878086273825581:=0
def tw5425565988235752197:=0
def tw5010354932100547165:=0
def tw4801039527111802282:=0
def tw4202673366249849491:=0
def tw193794278739742225:=0
def tw18127141830633905074:=0
def tw17843839365795533554:=0
def tw17329969520162680104:=0
def tw16949064816178058999:=0
def tw15860708213811878519:=0
def tw13298203722689827917:=0
def tw12585790354688115527:=0
def tw119775208399524090:=0
def tw11506949944486722818:=0
def tw10095913671755900038:=0
def tw9936902662144560194:=0
def tw9816307224394526710:=0
def tw8035931760809384120:=0
def tw7904445426397662059:=0
def tw7539763571100840771:=0
def tw6350474685870504171:=0
def tw5766181095882713430:=0
def tw4769826392853288355:=0
def tw4566636315000093172:=0
def tw3566807236516140644:=0
def tw3436359320994789115:=0
def tw3104486758596841148:=0
def tw2773274263299585572:=0
def tw1897875410602398997:=0
def tw18207201711260066481:=0
def tw17584191335013195612:=0
def tw16868688195037900307:=0
def tw16622475990643145580:=0
def tw16526325248041854055:=0
def tw16164986634524919498:=0
def tw15968237232650601322:=0
def tw1492062709326496596:=0
def tw14550693921475344484:=0
def tw12678953225602555564:=0
def tw10932722520931459696:=0
def tw8770029601138628478:=0
def tw7175792842613744815:=0
def tw6743822951217308217:=0
def tw6658185936689682968:=0
def tw6093179522131556990:=0
def tw3008007984704827758:=0
def tw2168224380260717174:=0
def tw16477329177891185698:=0
def tw16180315334032665911:=0
def tw15414259988211055499:=0
def tw13647187277582396961:=0
def tw13587954947775276195:=0
def tw13392218115919352882:=0
def tw12261729195969336472:=0
def tw9930359092145622687:=0
def tw976709547398631384:=0
def tw9623524494010043433:=0
def tw9467629813166748578:=0
def tw931510637493425866:=0
def tw9119751986894142981:=0
def tw8863156965792605256:=0
def tw8783073200307453229:=0
def tw8722415481117505015:=0
def tw8562296191053873827:=0
def tw847593159352496057:=0
def tw8388858425438247444:=0
def tw8385567426930851361:=0
def tw7956301941440062040:=0
def tw7937346951877118417:=0
def tw7863108119856694670:=0
def tw7693350481814642131:=0
def tw7627118995241731642:=0
def tw7074213860272172147:=0
def tw6878535200312667207:=0
def tw6690677384477064843:=0
def tw616448412817755167:=0
def tw6121026886529796221:=0
def tw6008010531490865865:=0
def tw5643517080389645038:=0
def tw5581984692328104656:=0
def tw4933930183700603765:=0
def tw4869967250276580588:=0
def tw477595423994022719:=0
def tw4169430970946328830:=0
def tw3975676623463710300:=0
def tw3941131271490555836:=0
def tw3773624442522805073:=0
def tw3760063030202703356:=0
def tw3725507860900426652:=0
def tw3711776433476670718:=0
def tw3624387153200950280:=0
def tw3258786278723069861:=0
def tw3220723017206680370:=0
def tw3096949930750721708:=0
def tw1980078614172103820:=0
def tw18406689318668271181:=0
def tw18334927389422029420:=0
def tw17994301212061070119:=0
def tw17990003072128590093:=0
def tw17925923492730016652:=0
def tw17868647176945168147:=0
def tw17831088686795452451:=0
def tw17723765623042550390:=0
def tw176977295656723065:=0
def tw17652695096001567504:=0
def tw17644514534155135092:=0
def tw17628590533929976792:=0
def tw17423125552162021742:=0
def tw17405974757215459542:=0
def tw17405045028177135956:=0
def tw17260584022165661726:=0
def tw17238752558760652402:=0
def tw17018876735161736770:=0
def tw17002439396945247550:=0
def tw16840622159041910090:=0
def tw16821967185522334815:=0
def tw1682181479755940848:=0
def tw16801269517542960672:=0
def tw16661212229125270991:=0
def tw16575673167688372683:=0
def tw16503717402094505217:=0
def tw16080655234471338842:=0
def tw15924826414491783191:=0
def tw15856698116174445793:=0
def tw1564093576101422265:=0
def tw15565656631415577005:=0
def tw1536147683505774889:=0
def tw15291515778787918541:=0
def tw15266785391687444539:=0
def tw14882510809304047780:=0
def tw14849095896601040367:=0
def tw14560837491469231475:=0
def tw14429984225472846677:=0
def tw14324394720252608761:=0
def tw13847991401066540787:=0
def tw13817142068744991791:=0
def tw13809386149585982481:=0
def tw13769731409856085057:=0
def tw13752025206567590305:=0
def tw13385619842731796546:=0
def tw1304240117979556626:=0
def tw13021086612755893400:=0
def tw12996499756298277263:=0
def tw12340981958623863397:=0
def tw11801650391622900179:=0
def tw11788803944947964044:=0
def tw11644868132232139897:=0
def tw11469663846147530161:=0
def tw11137535781475439334:=0
def tw11083616581157620123:=0
def tw11040902395418374828:=0
def tw10785498421680218836:=0
def tw10785159265526997160:=0
def tw10769681086646498438:=0
def tw10698238366409207256:=0
def tw10602856759635532317:=0
def tw1059446635175154315:=0
def tw10500720501580190231:=0
def tw10150324261921262226:=0
def tw10121643642846045468:=0
def tw9602979466950630956:=0
def tw912290570786946579:=0
def tw8777541643666118068:=0
def tw8572175281459272771:=0
def tw8568187914498332850:=0
def tw8444893750286939596:=0
def tw8125407811402774585:=0
def tw7552210041123771490:=0
def tw684210181549580303:=0
def tw6340304130596135008:=0
def tw6158425238486604569:=0
def tw5168400519034163868:=0
def tw5096499008420852698:=0
def tw3797301031838899788:=0
def tw3612554134655720397:=0
def tw3465091326942903629:=0
def tw3121732170634265723:=0
def tw2093290091728733057:=0
def tw17795394019121955329:=0
def tw16221219022901355867:=0
def tw16219145617115034907:=0
def tw15945904282836308387:=0
def tw15186367229040268510:=0
def tw1488474676173749703:=0
def tw14415884991196681418:=0
def tw13746588304753895505:=0
def tw11858878876565515630:=0
def tw11551815002882820457:=0
def tw10424792985553544811:=0
def tw10275949009854564666:=0
def tw10154314827766144001:=0
def tw10017577030591726147:=0
def tw9834661911540460081:=0
def tw974001917477778970:=0
def tw9590536906216307355:=0
def tw9254883793231693245:=0
def tw9248597171148506525:=0
def tw9002392303285804385:=0
def tw8938549127931359579:=0
def tw8708482821940700748:=0
def tw8521597775319928436:=0
def tw8487562230406468105:=0
def tw8420131052260663755:=0
def tw8377945894465552080:=0
def tw8338600121835276020:=0
def tw8037652997034423971:=0
def tw7897135418779063302:=0
def tw7875707854763748492:=0
def tw7616961570073629773:=0
def tw7574902415414485744:=0
def tw7393957277229836691:=0
def tw7259079589770855615:=0
def tw720755081136891062:=0
def tw6942357351460751399:=0
def tw6780223440767404674:=0
def tw6692137819554114951:=0
def tw6583481740336291847:=0
def tw6429728187070590260:=0
def tw6406724726538629663:=0
def tw621812022307901172:=0
def tw6169767553621521813:=0
def tw6034192224097964318:=0
def tw5994711959094706394:=0
def tw5950158449063615346:=0
def tw5920227957080817638:=0
def tw590611807225418770:=0
def tw5821001088122574322:=0
def tw5717963241065829162:=0
def tw5533809914848052129:=0
def tw5430882940802126740:=0
def tw5350998768358884751:=0
def tw5295854211047901153:=0
def tw5051596291613938045:=0
def tw5019332986140449700:=0
def tw4992925186480290751:=0
def tw4926171350198008544:=0
def tw4855646995411632120:=0
def tw450187942056410602:=0
def tw4337561567144917162:=0
def tw4256779784062091372:=0
def tw4237640369940289380:=0
def tw4138905410403352593:=0
def tw397431815971221653:=0
def tw3855077825024126993:=0
def tw3415376743198261602:=0
def tw3299272117925849540:=0
def tw3154977719449785152:=0
def tw3093781508513788219:=0
def tw3017139974649574989:=0
def tw2904033067149887106:=0
def tw2800321189394573348:=0
def tw2780415966309772251:=0
def tw2696157109874119690:=0
def tw2651210568008831048:=0
def tw2520694231678862498:=0
def tw2448602276733661166:=0
def tw2308842233520690658:=0
def tw2265299691495554755:=0
def tw2248526150547823735:=0
def tw2217001567337907910:=0
def tw2187499721780371684:=0
def tw2064118905727727203:=0
def tw2045930578084102194:=0
def tw2020109458520273824:=0
def tw1921160878016633958:=0
def tw1901317781093569649:=0
def tw1856151083423349262:=0
def tw18324572440802094995:=0
def tw18189657841938801392:=0
def tw1818218476948158209:=0
def tw18159918767601648018:=0
def tw18133197322224867361:=0
def tw18066811921283522515:=0
def tw17949153669898374660:=0
def tw17939888687896264705:=0
def tw17928405464846012575:=0
def tw17915051066750267265:=0
def tw17694846207451314135:=0
def tw17690871460500525271:=0
def tw17645572048654386869:=0
def tw17438179399263098937:=0
def tw17218974888202052536:=0
def tw17076493798685594974:=0
def tw17029066052626920852:=0
def tw16924412733494049589:=0
def tw1691102865124860179:=0
def tw16618134895088991800:=0
def tw16507177298177948937:=0
def tw16469943266984779137:=0
def tw1637453852661378490:=0
def tw1599608497217551579:=0
def tw15963830579283735448:=0
def tw15831574140416324556:=0
def tw15732654264858244716:=0
def tw15641575440650329080:=0
def tw15641155157065175805:=0
def tw15159215201983465910:=0
def tw15003257448840769609:=0
def tw1488503510874697304:=0
def tw14876317631354250296:=0
def tw14870940994311712039:=0
def tw14836224472968703893:=0
def tw14800109303040266240:=0
def tw14793259975867257014:=0
def tw1465564398378206461:=0
def tw14585778381282314952:=0
def tw14322595565739780087:=0
def tw14292392306617517729:=0
def tw13841191037290658594:=0
def tw1382559312744143635:=0
def tw13820470126673855253:=0
def tw13788262537284159298:=0
def tw13679643304169797691:=0
def tw13580389790971816817:=0
def tw13140385074510843379:=0
def tw12840604464936152123:=0
def tw1283506980011859969:=0
def tw12725217407329787103:=0
def tw12650994420537281789:=0
def tw11985937269989024962:=0
def tw11971130579796114034:=0
def tw11892039915525360660:=0
def tw11872690636868124001:=0
def tw11687504721054253588:=0
def tw11665305186481523908:=0
def tw11646379141798419536:=0
def tw11605670760853518920:=0
def tw11560677996495128784:=0
def tw11383850339681254435:=0
def tw11365700717142005424:=0
def tw11364142691922409913:=0
def tw11362101791794971524:=0
def tw11304072722765767021:=0
def tw11296645311156999791:=0
def tw11282886037220131173:=0
def tw11166862733661299840:=0
def tw11029396596865941829:=0
def tw10897373541712964772:=0
def tw10846541316933110243:=0
def tw10787819557663234410:=0
def tw10548826715568245312:=0
def tw10263077061500514125:=0
def tw10241033358962818077:=0
def tw10053539800044614232:=0
def tw1004593339420490729:=0
def tw10035081181641441020:=0
end PySem.W.Fast
section
open PySem PySem.W PyProof.Rows
set_option maxRecDepth 100000 in
set_option maxHeartbeats 0 in
open_top My.top for PySem.Challenge.rw_stairrooms_k34_whole_answer
end
set_option linter.all false
set_option maxRecDepth 100000
set_option maxHeartbeats 4000000
open PySem renaming Value->Va,Addr->Vb,Shared->Vc,Program->Vd,World->Ve,wpAny->Vf,model->Vg,Heap->Vh,Around->Vi,mainGlobals->Vj,Expr->Vk,FuncData->Vl,Str->Vm
open Option renaming some->Vn,none->Vo
open PySem renaming wpAny_bind->Em,wpAny_pure->En,wpAny_setState_of->Fm,wpAny_callSpecial?_slot->Fn
open PySem.W renaming Frag->Eo
open PySem.Heap renaming get?_push_of_some->Ep,get?_push_size->Er,lt_size->Es
open List renaming length_map->Ew,getElem?_eq_getElem->Ex,getElem?_map->Ey,mem_cons_of_mem->Ez,size_toArray->EB,mem_cons_self->EC,getElem?_eq_some_iff->EE,mem_of_getElem?->EF,mem_singleton->EG,mem_cons->EK,map_append->EM,length_append->EN,mem_append->EU,getElem?_append_right->EV,getElem?_append_left->EW,getElem_mem->EX,length_cons->EY,take_length->EZ,not_mem_nil->E5,all_eq_true->E6,any_eq_true->E7,mem_append_right->Fd,mem_append_left->Fe,replicate->Ff,getElem?_of_mem->Fi,lookup_cons->Fj,length_take->Fl,range->Fo
open Array renaming length_toList->EA
open PySem.F renaming plainAttrs_list->ED,slot_list_append->ES,type_list_append->ET
open Option renaming map_eq_some_iff->EH,bind_some->E2
open Int renaming toNat_natCast->EI,toNat_of_nonneg->EJ,mul_nonneg->E1
open Bool renaming false_ne_true->EL,eq_iff_iff->E8,and_eq_true->E9,false_eq_true->Fg
open Nat renaming ne_of_lt->EO,le_refl->ER,lt_of_lt_of_le->E3,le_trans->E4,lt_or_ge->Fh
open PySem.Str renaming ofString->Fb
open Option.some renaming inj->Fc
abbrev Fp:=@decide_eq_false
abbrev Fq:=@decide_eq_true
abbrev Fs:=@if_neg
abbrev Ft:=@if_pos
noncomputable section
namespace L2
open PySem PySem.Spec PyProof.Rows
abbrev Key:=Sum Int Vm
def iG:Key->Va->Bool
 | .inl k,v=>Value.isInt k v
 | .inr x,v=>Value.isStrOf x v
def BD(w:Ve):Key->Int
 | .inl k=>hashInt k
 | .inr x=>hashStr w x
def gh:∀{k:Key} {v:Va},iG k v=true->(∃i t,k=Sum.inl i/\v=Value.int i t)\/(∃x t,k=Sum.inr x/\v=Value.str x t)
 | .inl i,v,h=>by obtain⟨t,e⟩:=Value.isInt_shape (k:=i) (v:=v) h;exact .inl ⟨i,t,rfl,e⟩
 | .inr x,v,h=>by obtain⟨t,e⟩:=Value.isStrOf_shape (x:=x) (v:=v) h;exact .inr ⟨x,t,rfl,e⟩
def ye(i:Int)(t:Tok):iG (.inl i) (.int i t)=true:=by simp[iG,Value.isInt]
def Dm(x:Vm)(t:Tok):iG (.inr x) (.str x t)=true:=by simp[iG,Value.isStrOf]
def zO(a b:Int):decide ((Sum.inl a:Key)=Sum.inl b)=(a == b):=by
 by_cases e:a=b
 .subst e;simp
 .have h:¬(Sum.inl a:Key)=Sum.inl b:=λq=>e (Sum.inl.inj q);rw[Fp h];exact(beq_eq_false_iff_ne.mpr e).symm
def zj(a b:Vm):decide ((Sum.inr a:Key)=Sum.inr b)=decide (a=b):=by
 by_cases e:a=b
 .subst e;simp
 .have h:¬(Sum.inr a:Key)=Sum.inr b:=λq=>e (Sum.inr.inj q);rw[Fp h,Fp e]
def yI(a:Int)(b:Vm):decide ((Sum.inl a:Key)=Sum.inr b)=false:=Fp (λq=>nomatch q)
def Ed(a:Vm)(b:Int):decide ((Sum.inr a:Key)=Sum.inl b)=false:=Fp (λq=>nomatch q)
def cU(prog:Vd)(w:Ve):PySem.KeyKind prog w Key where
 is:=iG
 hash:=BD w
 inj:=λv a b ha hb=>by
  rcases gh ha with⟨i,t,rfl,rfl⟩|⟨x,t,rfl,rfl⟩
  .rcases gh hb with⟨j,u,rfl,e⟩|⟨y,u,rfl,e⟩
   .injection e with c _;rw[c]
   .exact nomatch e
  .rcases gh hb with⟨j,u,rfl,e⟩|⟨y,u,rfl,e⟩
   .exact nomatch e
   .injection e with c _;rw[c]
 byValue:=λk v h=>by rcases gh h with⟨i,t,rfl,rfl⟩|⟨x,t,rfl,rfl⟩<;>rfl
 pyHash:=λd h=>by
  rcases gh d with⟨i,t,rfl,rfl⟩|⟨x,t,rfl,rfl⟩
  .exact wpAny_pyHash_int h
  .exact wpAny_pyHash_str h
 eqBool:=λg d h=>by
  rcases gh g with⟨i,t,rfl,rfl⟩|⟨x,t,rfl,rfl⟩
  .rcases gh d with⟨j,u,rfl,rfl⟩|⟨y,u,rfl,rfl⟩
   .rw[zO]at h;exact wpAny_eqBool_int h
   .rw[yI]at h;exact SeqAt.EqAt.int_str i t y u _ _ _ _ h
  .rcases gh d with⟨j,u,rfl,rfl⟩|⟨y,u,rfl,rfl⟩
   .rw[Ed]at h;exact SeqAt.EqAt.str_int x t j u _ _ _ _ h
   .rw[zj]at h;exact wpAny_eqBool_str h
 «strs»:=λk x t v h=>by
  rcases gh h with⟨i,u,rfl,e⟩|⟨y,u,rfl,e⟩
  .exact nomatch e
  .injection e with c _
   subst c;cases v<;>rfl
def zX(prog:Vd)(w:Ve)(i:Int)(t:Tok):(cU prog w).is (.inl i) (.int i t)=true:=ye i t
def nW(prog:Vd)(w:Ve)(x:Vm)(t:Tok):(cU prog w).is (.inr x) (.str x t)=true:=Dm x t
inductive V where
 | non|bl (b:Bool)|int (i:Int)|str (x:Vm)|byt (b:Array UInt8)|flt (b:UInt64)|ref (a:Vb)|ty (n:String)
 deriving DecidableEq
def RelV:V->Va->Prop
 | .non,u=>u=Value.none
 | .bl b,u=>u=Value.bool b
 | .int i,u=>∃t,u=Value.int i t
 | .str x,u=>∃t,u=Value.str x t
 | .byt b,u=>∃t,u=Value.bytes b t
 | .flt b,u=>∃t,u=Value.float b t
 | .ref a,u=>u=Value.ref a
 | .ty n,u=>u=Value.type n
abbrev Vals:List V->List Va->Prop:=Paired RelV
theorem Vals.length{xs:List V}{us:List Va}(r:Vals xs us):xs.length=us.length:=Paired.length r
theorem Vals.get:∀{xs:List V} {us:List Va} {i:Nat} {x:V},Vals xs us->xs[i]?=Vn x->∃u,us[i]?=Vn u/\RelV x u
 | _,_,_,_,.nil,e=>by simp at e
 | _,_,0,_,.cons r _,e=>by simp at e;subst e;exact⟨_,rfl,r⟩
 | _,_,i+1,x,.cons _ t,e=>by obtain⟨u,h1,h2⟩:=Vals.get (i:=i) (x:=x) t (by simpa using e);exact⟨u,by simpa using h1,h2⟩
theorem Vals.set{x:V}{u:Va}(r:RelV x u):∀{xs:List V} {us:List Va} (i:Nat),Vals xs us->Vals (xs.set i x) (us.set i u)
 | _,_,_,.nil=>.nil
 | _,_,0,.cons _ t=>.cons r t
 | _,_,i+1,.cons q t=>.cons q (Vals.set r i t)
theorem Vals.append:∀{xs ys:List V} {us ws:List Va},Vals xs us->Vals ys ws->Vals (xs++ys) (us++ws)
 | _,_,_,_,.nil,s=>s
 | _,_,_,_,.cons r t,s=>.cons r (Vals.append t s)
theorem Vals.take:∀{xs:List V} {us:List Va} (n:Nat),Vals xs us->Vals (xs.take n) (us.take n)
 | _,_,0,_=>.nil
 | _,_,_+1,.nil=>.nil
 | _,_,n+1,.cons r t=>.cons r (Vals.take n t)
theorem Vals.drop:∀{xs:List V} {us:List Va} (n:Nat),Vals xs us->Vals (xs.drop n) (us.drop n)
 | _,_,0,r=>r
 | _,_,_+1,.nil=>.nil
 | _,_,n+1,.cons _ t=>Vals.drop n t
def fj:Option V->Option Va->Prop
 | some v,Vn u=>RelV v u
 | none,Vo=>True
 | _,_=>False
def KV{κ:Type}:List (κ×V)->List (κ×Va)->Prop:=Paired λ(p:κ×V) (q:κ×Va)=>p.1=q.1/\RelV p.2 q.2
def kV:Key->V
 | .inl i=>.int i
 | .inr x=>.str x
inductive HO where
 | lst (xs:List V)
 | tup (xs:List V)
 | dK (kvs:List (Key×V))|dT (kvs:List (List Key×V))
 | set (S:Int->Bool) (n:Nat)
 | ins (C dx:Vb) (fs:List (Vm×V))
 | own (x:Vb)
 | xd (fs:List (Vm×V))
 | met (f x:Vb)
 | rng (lo hi:Int)
 | frz (o:Obj) (u:HO)
 | tbl (ps:Array Va)
 | ext (φ:Vh->Prop)
abbrev Hp:=Vb->Option HO
def upd(H:Hp)(a:Vb)(o:HO):Hp:=λb=>if b=a then Vn o else H b
def aK{H:Hp}{a:Vb}{o:HO}:upd H a o a=Vn o:=by unfold upd;rw[Ft rfl]
def aF{H:Hp}{a b:Vb}{o:HO}(h:b≠a):upd H a o b=H b:=by unfold upd;rw[Fs h]
def bZ{H:Hp}{a b:Vb}{o u:HO}(h:H a=Vn o)(h':H b=Vn u)(d:o≠u):a≠b:=by intro e;subst e;rw[h]at h';exact d (Fc h')
def b0{H:Hp}{a b:Vb}{o:HO}(h:H a=Vn o)(h':H b=Vo):a≠b:=by intro e;subst e;rw[h]at h';cases h'
section
variable (P:Vd) (w:Ve)
def bC(H:Hp)(h:Vh)(a:Vb):HO->Prop
 | .lst xs=>xs.length<=sizeLine/\∃(b:List Va) (n:Nat),Vals xs b/\h.get? a=Vn { cls:=.type "list",data:=.seq b.toArray n }
 | .tup xs=>xs.length<=sizeLine/\∃b:List Va,Vals xs b/\IsTup h a b.toArray
 | .dK kvs=>kvs.length<=sizeLine/\(a == sysModules)=false/\∃vs,KV kvs vs/\h.DictOf (cU P w) a vs
 | .dT kvs=>kvs.length<=sizeLine/\(a == sysModules)=false/\∃xs:List (List Key×Vb×Va),
   Paired (λ(p:List Key×V) (q:List Key×Vb×Va)=>p.1=q.1/\H q.2.1=Vn (.tup (p.1.map kV))/\RelV p.2 q.2.2) kvs xs ∧
   ∃o es ep,h.get? a=Vn o/\o.ExactDict/\o.data=.dict es ep/\es.toList=xs.map (entryOfKey (tupleKind (cU P w)))/\(xs.map (·.1)).Nodup
 | .set S n=>h.SetOf (intKind P w) a S n
 | .ins C dx fs=>H dx=Vn (.own a)/\fs.length<=1000/\dx≠a/\h.get? a=Vn (PySem.W.instObj C dx) ∧
   ∃mA,h.Ns1 dx mA/\(∀f,fj (fs.lookup f) (mA f))/\PySem.Within mA (fs.map (·.1))
 | .own _=>∃o,h.get? a=Vn o
 | .xd fs=>∃mA,h.Ns1 a mA/\∀f,fj (fs.lookup f) (mA f)
 | .rng lo hi=>∃t u v,h.get? a=Vn { cls:=.type "range",data:=.fields #[.int lo t,.int hi u,.int 1 v] }
 | .frz o u=>h.get? a=Vn o/\bC H h a u
 | .tbl ps=>h.get? a=Vn { cls:=.none,data:=.fields ps }
 | .met f x=>h.get? a=Vn (PySem.W.methodObj (.ref f) (.ref x))
 | .ext φ=>φ h/\(∃o,h.get? a=Vn o)/\∀h1 h2:Vh,φ h1->(∀o,h1.get? a=Vn o->h2.get? a=Vn o)->φ h2
def bq(H:Hp)(h:Vh):Prop:=∀a o,H a=Vn o->bC P w H h a o
end
section
variable {P:Vd} {w:Ve} {H H':Hp} {h h':Vh} {a:Vb} {o:HO}
theorem bC.lt(x:bC P w H h a o):a<h.objs.size:=by
 cases o with
 | lst xs=>obtain⟨_,_,_,_,e⟩:=x;exact Es e
 | tup xs=>obtain⟨_,_,_,p⟩:=x;exact p.lt
 | dK kvs=>obtain⟨_,_,_,_,o,_,_,e,_⟩:=x;exact Es e
 | dT kvs=>obtain⟨_,_,_,_,o,_,_,e,_⟩:=x;exact Es e
 | set S n=>obtain⟨o,_,_,_,e,_⟩:=x;exact Es e
 | ins C dx fs=>obtain⟨_,_,_,e,_⟩:=x;exact Es e
 | own y=>obtain⟨_,e⟩:=x;exact Es e
 | xd fs=>obtain⟨_,⟨_,_,_,e,_⟩,_⟩:=x;exact Es e
 | rng lo hi=>obtain⟨_,_,_,e⟩:=x;exact Es e
 | frz b u=>obtain⟨e,_⟩:=x;exact Es e
 | tbl ps=>exact Es (show h.get? a=Vn _ from x)
 | met f y=>exact Es (show h.get? a=Vn _ from x)
 | ext φ=>obtain⟨_,⟨_,e⟩,_⟩:=x;exact Es e
theorem Paired.mapP{α β:Type}{F G:α->β->Prop}:∀{l₁:List α} {l₂:List β},Paired F l₁ l₂->(∀a b,F a b->G a b)->Paired G l₁ l₂
 | _,_,.nil,_=>.nil
 | _,_,.cons r t,f=>.cons (f _ _ r) (Paired.mapP t f)
def Paired.imp'{α β:Type}{F G:α->β->Prop}(f:∀a b,F a b->G a b){l₁:List α}{l₂:List β}(r:Paired F l₁ l₂):Paired G l₁ l₂:=Paired.mapP r f
def bC.stay(x:bC P w H h a o)(k:∀b u,(b=a\/H b=Vn (.own a))->h.get? b=Vn u->h'.get? b=Vn u)
  (ho:∀b,H b=Vn (.own a)->H' b=Vn (.own a)) (j:∀b xs,H b=Vn (.tup xs)->H' b=Vn (.tup xs)):bC P w H' h' a o:=by
 induction o with
 | lst xs=>obtain⟨z,i,n,r,e⟩:=x;exact⟨z,i,n,r,k _ _ (.inl rfl) e⟩
 | tup xs=>obtain⟨z,i,r,g,e,c⟩:=x;exact⟨z,i,r,g,k _ _ (.inl rfl) e,c⟩
 | dK kvs=>obtain⟨z,y,vs,r,g,es,ep,e,c⟩:=x;exact⟨z,y,vs,r,g,es,ep,k _ _ (.inl rfl) e,c⟩
 | dT kvs=>
  obtain⟨z,y,xs,r,g,es,ep,e,c⟩:=x;exact⟨z,y,xs,Paired.mapP r λp q z=>⟨z.1,j _ _ z.2.1,z.2.2⟩,g,es,ep,k _ _ (.inl rfl) e,c⟩
 | set S n=>obtain⟨g,es,ep,t,e,c⟩:=x;exact⟨g,es,ep,t,k _ _ (.inl rfl) e,c⟩
 | ins C dx fs=>
  obtain⟨d,z,ne,e,mA,⟨od,es,ep,l,c⟩,r⟩:=x;exact⟨ho _ d,z,ne,k _ _ (.inl rfl) e,mA,⟨od,es,ep,k _ _ (.inr d) l,c⟩,r⟩
 | own y=>obtain⟨g,e⟩:=x;exact⟨g,k _ _ (.inl rfl) e⟩
 | xd fs=>obtain⟨mA,⟨od,es,ep,e,c⟩,r⟩:=x;exact⟨mA,⟨od,es,ep,k _ _ (.inl rfl) e,c⟩,r⟩
 | rng lo hi=>obtain⟨t,u,v,e⟩:=x;exact⟨t,u,v,k _ _ (.inl rfl) e⟩
 | frz g u m=>obtain⟨e,q⟩:=x;exact⟨k _ _ (.inl rfl) e,m q⟩
 | tbl ps=>
  have e:h.get? a=Vn { cls:=.none,data:=.fields ps }:=x;show h'.get? a=Vn { cls:=.none,data:=.fields ps };exact k a _ (.inl rfl) e
 | met f y=>
  have e:h.get? a=Vn (PySem.W.methodObj (.ref f) (.ref y)):=x;show h'.get? a=Vn (PySem.W.methodObj (.ref f) (.ref y));exact k a _ (.inl rfl) e
 | ext φ=>obtain⟨p,⟨o,e⟩,st⟩:=x;exact⟨st _ _ p λo q=>k _ _ (.inl rfl) q,⟨o,k _ _ (.inl rfl) e⟩,st⟩
theorem bq.lt(x:bq P w H h)(e:H a=Vn o):a<h.objs.size:=(x a o e).lt
def bq.fresh(x:bq P w H h)(e:h.objs.size<=a):H a=Vo:=by
 cases q:H a with
 | none=>rfl
 | some u=>exact absurd (E3 (x.lt q) e) (Nat.lt_irrefl _)
def bq.kept(x:bq P w H h)(k:∀b u,h.get? b=Vn u->h'.get? b=Vn u):bq P w H h':=λa o e=>
 (x a o e).stay (λb u _ q=>k b u q) (λ_ q=>q) λ_ _ q=>q
def bq.laid(x:bq P w H h)(k:∀b u,h.get? b=Vn u->h'.get? b=Vn u)(g:h.objs.size<=a)(new:bC P w (upd H a o) h' a o):bq P w (upd H a o) h':=λb u e=>by
 have d:=x.fresh g;by_cases hb:b=a
 .subst hb;rw[aK]at e;cases e;exact new
 .rw[aF hb]at e;exact(x b u e).stay (λc v _ q=>k c v q) (λc q=>by rw[aF (b0 q d)];exact q) λc xs q=>by rw[aF (b0 q d)];exact q
end
def Rd(H:Hp)(a:Vb)(u:HO):Prop:=H a=Vn u\/∃o,H a=Vn (.frz o u)
def Rd.ok{P:Vd}{w:Ve}{H:Hp}{h:Vh}{a:Vb}{u:HO}(r:Rd H a u)(x:bq P w H h):bC P w H h a u:=by
 rcases r with r|⟨o,r⟩
 .exact x a u r
 .obtain⟨_,q⟩:=x a _ r;exact q
def jE:Option HO->Prop
 | some (.lst _)=>True
 | some (.dK _)=>True
 | some (.dT _)=>True
 | some (.set _ _)=>True
 | some (.ins _ _ _)=>True
 | some (.ext _)=>True
 | _=>False
section
variable {P:Vd} {w:Ve} {H:Hp} {h h':Vh} {x e:Vb} {o':HO}
def bq.write(ok:bq P w H h)(d:jE (H x))(j:e=x\/H e=Vn (.own x))(k:∀b u,b≠e->h.get? b=Vn u->h'.get? b=Vn u)(i:∃u,h'.get? e=Vn u)
  (new:bC P w (upd H x o') h' x o'):bq P w (upd H x o') h':=λb u q=>by
 have nown:∀c y,H c=Vn (.own y)->c≠x:=λc y r z=>by subst z;rw[r]at d;exact d
 have ntup:∀c xs,H c=Vn (.tup xs)->c≠x:=λc xs r z=>by subst z;rw[r]at d;exact d
 by_cases hb:b=x
 .subst hb;rw[aK]at q;cases q;exact new
 .rw[aF hb]at q;by_cases a:b=e
  .have l:H b=Vn (.own x):=by
    rcases j with z|z
    .exact absurd (a.trans z) hb
    .rw[a];exact z
   rw[q]at l;cases l;obtain⟨v,m⟩:=i;exact⟨v,by rw[a];exact m⟩
  .refine(ok b u q).stay (λc v g r=>k c v ?_ r) (λc r=>by rw[aF (nown c b r)];exact r) λc xs r=>by rw[aF (ntup c xs r)];exact r
   rcases g with rfl|g
   .exact a
   .rintro rfl;rcases j with z|z
    .exact nown c b g z
    .rw[g]at z;cases z;exact hb rfl
end
structure Un(fs ex:List Vb)(H H':Hp)(h h':Vh):Prop where
 keep:∀b o,h.get? b=Vn o->H b=Vo->b∉fs->b∉ex->h'.get? b=Vn o
 slot:∀b o,h.get? b=Vn o->H b=Vo->b∈fs->b∉ex->∃sl,h'.get? b=Vn { o with slots:=sl }
 free:∀b o,h.get? b=Vn o->H b=Vo->b∉ex->H' b=Vo
 there:∀b o,h.get? b=Vn o->b∉ex->∃o',h'.get? b=Vn o'
 tups:∀b xs,H b=Vn (.tup xs)->H' b=Vn (.tup xs)
 frzs:∀b o u,H b=Vn (.frz o u)->H' b=Vn (.frz o u)
 tbls:∀b ps,H b=Vn (.tbl ps)->∃more,H' b=Vn (.tbl (ps++more))
section
variable {fs fs' ex ex':List Vb} {H H1 H2:Hp} {h h1 h2 h':Vh} {a x e:Vb} {o:HO}
def Un.any(u:Un fs ex H H1 h h1){b:Vb}{a:Obj}(q:h.get? b=Vn a)(n:H b=Vo)(c:b∉ex):∃sl,h1.get? b=Vn { a with slots:=sl }:=by
 by_cases hb:b∈fs
 .exact u.slot b a q n hb c
 .exact⟨a.slots,u.keep b a q n hb c⟩
def Un.kept(k:∀b u,h.get? b=Vn u->h'.get? b=Vn u):Un fs ex H H h h':=
 ⟨λb a q _ _ _=>k b a q,λb a q _ _ _=>⟨a.slots,k b a q⟩,λ_ _ _ n _=>n,λb a q _=>⟨a,k b a q⟩,λ_ _ q=>q,λ_ _ _ q=>q,λ_ ps q=>⟨#[],by rw[q];simp⟩⟩
def Un.refl:Un fs ex H H h h:=Un.kept λ_ _ q=>q
def Un.laid(k:∀b u,h.get? b=Vn u->h'.get? b=Vn u)(d:h.objs.size<=a)(c:H a=Vo):Un fs ex H (upd H a o) h h' where
 keep:=λb u q _ _ _=>k b u q
 slot:=λb u q _ _ _=>⟨u.slots,k b u q⟩
 free:=λb u q n _=>by rw[aF (EO (E3 (Es q) d))];exact n
 there:=λb u q _=>⟨u,k b u q⟩
 tups:=λb xs q=>by rw[aF (b0 q c)];exact q
 frzs:=λb u xs q=>by rw[aF (b0 q c)];exact q
 tbls:=λb ps q=>⟨#[],by rw[aF (b0 q c),q];simp⟩
def Un.write(c:jE (H x))(j:e=x\/H e=Vn (.own x))(k:∀b u,b≠e->h.get? b=Vn u->h'.get? b=Vn u)(d:∃u,h'.get? e=Vn u):Un fs ex H (upd H x o) h h':=by
 have i:∀b,H b=Vo->b≠x:=λb n z=>by subst z;rw[n]at c;exact c
 have hb:∀b,H b=Vo->b≠e:=λb n z=>by
  subst z;rcases j with r|r
  .exact i b n r
  .rw[n]at r;cases r
 have g:∀b u,H b=Vn u->¬jE (Vn u)->b≠x:=λb u q nm z=>by subst z;rw[q]at c;exact nm c
 refine⟨λb u q n _ _=>k b u (hb b n) q,λb u q n _ _=>⟨u.slots,k b u (hb b n) q⟩,λb u q n _=>by rw[aF (i b n)];exact n,λb u q _=>?_,
  λb xs q=>by rw[aF (g b _ q λz=>z)];exact q,λb u xs q=>by rw[aF (g b _ q λz=>z)];exact q,λb ps q=>⟨#[],by rw[aF (g b _ q λz=>z),q];simp⟩⟩
 by_cases a:b=e
 .subst a;exact d
 .exact⟨u,k b u a q⟩
end
def kP(h:Vh)(H:Hp):List Vb:=(Fo h.objs.size).filter λa=>(H a).isSome
def fP(h:Vh)(H:Hp):Vh:=PySem.W.hideAll h (kP h H)
def Cg(h:Vh)(H:Hp):(fP h H).objs.size=h.objs.size:=PySem.W.hideAll_size _ _
def ki{h:Vh}{H:Hp}{b:Vb}{o:Obj}(e:h.get? b=Vn o)(n:H b=Vo):(fP h H).get? b=Vn o:=
 PySem.W.hideAll_get _ e λa=>by have q:(H b).isSome=true:=(List.mem_filter.mp a).2;rw[n]at q;simp at q
def C8{h:Vh}{H:Hp}{b:Vb}{o:Obj}(e:(fP h H).get? b=Vn o):h.get? b=Vn o/\H b=Vo:=by
 have e':h.get? b=Vn o:=PySem.W.of_hideAll (kP h H) e;refine⟨e',?_⟩;cases q:H b with
 | none=>rfl
 | some x=>
  have a:b∈kP h H:=List.mem_filter.mpr ⟨List.mem_range.mpr (Es e'),by simp[q]⟩;have z:(fP h H).get? b=Vo:=PySem.W.hideAll_none (kP h H) a;rw[z]at e;cases e
structure Mod(K:Eo)(mg:Vm->Option Va)(base:Vh):Prop where
 kin:K.In base
 glob:base.Ns Vj mg
 blt:∃mb,base.Ns builtinsNs mb/\∀x:Vm,x≠"__name__"->mb x=bootBuiltins x
 nolimit:base.NoLimit
structure Cx where
 prog:Vd
 w:Ve
 K:Eo
 mg:Vm->Option Va
 base:Vh
 A:Vi
 N:List Vm
 s₀:Vc
 H₀:Hp
 env:Env
 outer:List Env
 stack:List Env
 ex:List Vb
 fn:Vm->Bool
 calm:Bool
 pn:List (Vb×Obj)
 xe:Va->Vc->Prop
variable {a tg:Vk}{t' n:Nat}{ch fp:List Vb}{M:Model}{A:Vi}{E:Va->Vc->Prop}{v:V}{u:Va}{s:Vc}{pins:List (Vb×Obj)}{H:Hp}{P:Vd}{w:Ve}{h:Vh}{us:List Va}
def dH(l:List Env):List Vb:=l.filterMap (·.frame)
abbrev Cx.fs(X:Cx):List Vb:=dH X.outer
def lG(sc:Scope)(x:Vm):Prop:=sc.names.lookup x=Vn .local\/sc.names.lookup x=Vn .cell\/sc.names.lookup x=Vn .free
def Loc(sc:Scope)(x:Vm):Prop:=sc.names.lookup x=Vn .local\/sc.names.lookup x=Vn .cell
def Look(env:Env)(h:Vh)(m:Vm->Option Va)(x:Vm)(u:Va):Prop:=
 (env.kindOf x=Vn .local/\m x=Vn u)\/((env.kindOf x=Vn .cell\/env.kindOf x=Vn .free)/\∃c,env.cells.lookup x=Vn c/\h.IsCell c (Vn u))
structure Cx.Ok(X:Cx):Prop where
 mod:Mod X.K X.mg X.base
 kind:X.env.scope.kind=.function
 glob:X.env.globals=Vj
 blt:X.env.builtins=builtinsNs
 above:X.s₀.heap.objs.size<=X.env.locals
 inj:∀x y c,X.env.cells.lookup x=Vn c->X.env.cells.lookup y=Vn c->x=y
 has:∀x,(X.env.kindOf x=Vn .cell\/X.env.kindOf x=Vn .free)->∃c,X.env.cells.lookup x=Vn c
 cab:∀x c,X.fn x=true->X.env.cells.lookup x=Vn c->X.s₀.heap.objs.size<=c
 hd:X.calm=true->X.A.handled=Vo
 frames:X.A.frames=Vn X.stack
 stk:X.stack=X.outer\/(X.stack=X.env::X.outer/\X.env.frame=Vn X.env.locals)
 exf:∀b∈X.ex,b≠X.env.locals/\∀x c,X.env.cells.lookup x=Vn c->c≠b
 bs:∀b o,X.base.get? b=Vn o->X.s₀.heap.get? b=Vn o/\X.H₀ b=Vo
 bsz:X.base.objs.size<=X.s₀.heap.objs.size
 noex:∀b o,X.base.get? b=Vn o->b∉X.ex
 exfs:∀b∈X.ex,b∉X.fs
 funs:X.s₀.heap.FunFrames X.base X.outer
 frf:∀b∈X.fs,X.H₀ b=Vo
structure Inv(X:Cx)(pins:List (Vb×Obj))(σ:List (Option V))(H:Hp)(s:Vc):Prop where
 ok:X.Ok
 os:s.os=X.s₀.os
 bare:AllBare s.gens
 base:Un X.fs X.ex X.H₀ H X.s₀.heap s.heap
 loc:∃m,s.heap.Ns X.env.locals m/\∀(i:Nat) (x:Vm) (v:V),X.N[i]?=Vn x->σ[i]?=Vn (Vn v)->lG X.env.scope x->∃u,RelV v u/\Look X.env s.heap m x u
 cell:∀x c,X.env.cells.lookup x=Vn c->∃v,s.heap.IsCell c v
 free:H X.env.locals=Vo
 freeC:∀x c,X.env.cells.lookup x=Vn c->H c=Vo
 pin:∀p∈X.pn++pins,s.heap.get? p.1=Vn p.2/\H p.1=Vo/\p.1≠X.env.locals/\p.1∉X.fs/\∀v,p.2.data≠.cell v
 hok:bq X.prog X.w H s.heap
 len:σ.length=X.N.length
section
variable {X:Cx} {pins:List (Vb×Obj)} {σ:List (Option V)} {H H':Hp} {s:Vc} {h':Vh}
def Cx.Ok.nofr(ok:X.Ok){b:Vb}{o:Obj}(e:X.base.get? b=Vn o):b∉X.fs:=λhb=>by have:=(ok.funs.mem hb).1;rw[e]at this;cases this
theorem Inv.bs(I:Inv X pins σ H s):∀b o,X.base.get? b=Vn o->s.heap.get? b=Vn o/\H b=Vo:=λb o e=>
 ⟨I.base.keep b o (I.ok.bs b o e).1 (I.ok.bs b o e).2 (I.ok.nofr e) (I.ok.noex b o e),I.base.free b o (I.ok.bs b o e).1 (I.ok.bs b o e).2 (I.ok.noex b o e)⟩
def Inv.bk(I:Inv X pins σ H s):∀b o,X.base.get? b=Vn o->s.heap.get? b=Vn o:=λb o e=>(I.bs b o e).1
theorem Inv.mod(I:Inv X pins σ H s):Mod X.K X.mg X.base:=I.ok.mod
def Inv.kIn(I:Inv X pins σ H s):X.K.In s.heap:=I.ok.mod.kin.keeps I.bk
theorem Inv.lt(I:Inv X pins σ H s):X.env.locals<s.heap.objs.size:=let ⟨_,hn,_⟩:=I.loc;hn.lt
def Inv.sz(I:Inv X pins σ H s):X.s₀.heap.objs.size<=s.heap.objs.size:=E4 I.ok.above (Nat.le_of_lt I.lt)
def Inv.nofs(I:Inv X pins σ H s){a:Vb}(h:s.heap.objs.size<=a):a∉X.fs:=λhb=>by obtain⟨_,o,ho,_⟩:=I.ok.funs.mem hb;exact absurd (E3 (Es ho) (E4 I.sz h)) (Nat.lt_irrefl _)
def Inv.cne(I:Inv X pins σ H s):∀x c,X.env.cells.lookup x=Vn c->c≠X.env.locals:=λx c e z=>by obtain⟨v,o,ho,hd⟩:=I.cell x c e;obtain⟨m,⟨o',es,ep,a,b,_⟩,_⟩:=I.loc;rw[z,a]at ho;cases ho;rw[b]at hd;cases hd
theorem Inv.funs(I:Inv X pins σ H s):s.heap.FunFrames X.base X.outer:=by
 have all:∀(l:List Env),(∀b∈dH l,b∈X.fs)->X.s₀.heap.FunFrames X.base l->s.heap.FunFrames X.base l:=by
  intro l;induction l with
  | nil=>intro _ _;trivial
  | cons env r d=>
   intro hs g;obtain⟨h,⟨L,o,a,i,ho,hd⟩,j⟩:=g;have c:L∈X.fs:=hs L (by unfold dH;rw[List.filterMap_cons,a];exact EC);obtain⟨sl,e⟩:=I.base.slot L o ho (I.ok.frf L c) c λz=>I.ok.exfs L z c;exact⟨h,⟨L,_,a,i,e,hd⟩,d (λb hb=>hs b (by unfold dH;rw[List.filterMap_cons,a];exact Ez _ hb)) j⟩
 exact all X.outer (λ_ hb=>hb) I.ok.funs
theorem Inv.stack(I:Inv X pins σ H s):s.heap.FunFrames X.base X.stack:=by
 rcases I.ok.stk with e|⟨e,a⟩
 .rw[e];exact I.funs
 .rw[e];obtain⟨m,b,_⟩:=I.loc;refine .cons (by rw[I.ok.kind];decide) a b ?_ I.funs;exact Heap.get?_none_of_le (E4 I.ok.bsz I.ok.above)
def Inv.stkSub(I:Inv X pins σ H s):∀b∈dH X.stack,b∈X.env.locals::X.fs:=λb hb=>by
 rcases I.ok.stk with e|⟨e,a⟩
 .rw[e]at hb;exact Ez _ hb
 .rw[e]at hb;unfold dH at hb;rw[List.filterMap_cons,a]at hb;exact hb
def Inv.stkFree(I:Inv X pins σ H s):∀b∈dH X.stack,H b=Vo:=λb hb=>by
 rcases EK.mp (I.stkSub b hb)with e|hb
 .rw[e];exact I.free
 .obtain⟨_,o,ho,_⟩:=I.ok.funs.mem hb;exact I.base.free b o ho (I.ok.frf b hb) λz=>I.ok.exfs b z hb
def Inv.step{g':Array GenState}{t':Nat}{d':Drawn}(I:Inv X pins σ H s)
  (hch:∀b∈ch,(b∈X.ex\/X.s₀.heap.objs.size<=b)/\b≠X.env.locals/\(∀x c,X.env.cells.lookup x=Vn c->c≠b)/\∀p∈X.pn++pins,p.1≠b)
  (keep:∀b o,b≠X.env.locals->b∉X.fs->b∉ch->s.heap.get? b=Vn o->H b=Vo->h'.get? b=Vn o)
  (slot:∀b o,b≠X.env.locals->b∈X.fs->b∉ch->s.heap.get? b=Vn o->H b=Vo->∃sl,h'.get? b=Vn { o with slots:=sl }) (free:∀b o,b∉ch->s.heap.get? b=Vn o->H b=Vo->H' b=Vo)
  (there:∀b o,b∉ch->s.heap.get? b=Vn o->∃o',h'.get? b=Vn o')
  (tups:∀b xs,H b=Vn (.tup xs)->H' b=Vn (.tup xs)) (frzs:∀b o u,H b=Vn (.frz o u)->H' b=Vn (.frz o u)) (tbls:∀b ps,H b=Vn (.tbl ps)->∃more,H' b=Vn (.tbl (ps++more)))
  (ns:∀m,s.heap.Ns X.env.locals m->h'.Ns X.env.locals m) (hok:bq X.prog X.w H' h') (E:AllBare g') :
  Inv X pins σ H' { s with heap:=h',gens:=g',drawn:=d',toks:=t' }:=by
 have neL:∀b o,X.s₀.heap.get? b=Vn o->b≠X.env.locals:=λb o e=>EO (E3 (Es e) I.ok.above);have neC:∀b o,X.s₀.heap.get? b=Vn o->b∉X.ex->b∉ch:=λb o e a hb=>by
  rcases(hch b hb).1 with z|z
  .exact a z
  .exact absurd (E3 (Es e) z) (Nat.lt_irrefl _)
 have cellK:∀x c,X.env.cells.lookup x=Vn c->∀v,s.heap.IsCell c v->h'.IsCell c v:=λx c e v ⟨o,ho,hd⟩=>by
  have g:c∉ch:=λz=>(hch c z).2.2.1 x c e rfl;by_cases A:c∈X.fs
  .obtain⟨sl,q⟩:=slot c o (I.cne x c e) A g ho (I.freeC x c e);exact⟨_,q,hd⟩
  .exact⟨o,keep c o (I.cne x c e) A g ho (I.freeC x c e),hd⟩
 refine⟨I.ok,I.os,E,⟨λb o e n hb a=>?_,λb o e n hb a=>?_,λb o e n a=>?_,λb o e a=>?_,λb xs e=>tups b xs (I.base.tups b xs e),λb o xs e=>frzs b o xs (I.base.frzs b o xs e),λb ps e=>?_⟩,?_,λx c e=>?_,?_,λx c e=>?_,λp B=>?_,hok,I.len⟩
 .exact keep b o (neL b o e) hb (neC b o e a) (I.base.keep b o e n hb a) (I.base.free b o e n a)
 .obtain⟨sl,h⟩:=I.base.slot b o e n hb a;obtain⟨y,j⟩:=slot b _ (neL b o e) hb (neC b o e a) h (I.base.free b o e n a);exact⟨y,j⟩
 .obtain⟨o',h⟩:=I.base.there b o e a;exact free b o' (neC b o e a) h (I.base.free b o e n a)
 .obtain⟨o',h⟩:=I.base.there b o e a;exact there b o' (neC b o e a) h
 .obtain⟨m1,h⟩:=I.base.tbls b ps e;obtain⟨F,j⟩:=tbls b _ h;exact⟨m1++F,by rw[j,Array.append_assoc]⟩
 .obtain⟨m,G,J⟩:=I.loc;refine⟨m,ns m G,λi x v h j L=>?_⟩;obtain⟨u,r,l⟩:=J i x v h j L;refine⟨u,r,?_⟩;rcases l with l|⟨k,c,e,z⟩
  .exact .inl l
  .exact .inr ⟨k,c,e,cellK x c e _ z⟩
 .obtain⟨v,z⟩:=I.cell x c e;exact⟨v,cellK x c e v z⟩
 .obtain⟨m,⟨o,_,_,ho,_⟩,_⟩:=I.loc;exact free _ o (λz=>(hch _ z).2.1 rfl) ho I.free
 .obtain⟨v,o,ho,hd⟩:=I.cell x c e;exact free c o (λz=>(hch c z).2.2.1 x c e rfl) ho (I.freeC x c e)
 .obtain⟨e,n,ne,C,d⟩:=I.pin p B;have g:p.1∉ch:=λz=>(hch p.1 z).2.2.2 p B rfl;exact⟨keep p.1 p.2 ne C g e n,free p.1 p.2 g e n,ne,C,d⟩
def Inv.un{t':Nat}(I:Inv X pins σ H s)(u:Un X.fs [] H H' s.heap h')(hok:bq X.prog X.w H' h'):Inv X pins σ H' { s with heap:=h',toks:=t' }:=by
 obtain⟨m,⟨o,es,ep,ho,r⟩,_⟩:=id I.loc;obtain⟨sl,g⟩:=u.any ho I.free (by simp);exact I.step (g':=s.gens) (d':=s.drawn) (ch:=[]) (λ_ z=>nomatch z) (λb o _ hb _ e n=>u.keep b o e n hb (by simp)) (λb o _ hb _ e n=>u.slot b o e n hb (by simp)) (λb o _ e n=>u.free b o e n (by simp)) (λb o _ e=>u.there b o e (by simp)) u.tups u.frzs u.tbls (λj h=>by obtain⟨o',c,d,a,i⟩:=h;rw[ho]at a;cases a;exact⟨_,c,d,g,i⟩) hok I.bare
def Inv.call{g':Array GenState}{t':Nat}{d':Drawn}(I:Inv X pins σ H s)(u:Un (dH X.stack) ch H H' s.heap h')(hok:bq X.prog X.w H' h')(j:AllBare g')
  (hch:∀b∈ch,(b∈X.ex\/X.s₀.heap.objs.size<=b)/\b≠X.env.locals/\(∀x c,X.env.cells.lookup x=Vn c->c≠b)/\∀p∈X.pn++pins,p.1≠b) :
  Inv X pins σ H' { s with heap:=h',gens:=g',drawn:=d',toks:=t' }:=by
 obtain⟨m,⟨o,es,ep,ho,r⟩,_⟩:=id I.loc;obtain⟨sl,g⟩:=u.any ho I.free λz=>(hch _ z).2.1 rfl;exact I.step (ch:=ch) hch (λb o g hb a e n=>u.keep b o e n (λz=>(EK.mp (I.stkSub b z)).elim g hb) a) (λb o _ _ a e n=>u.any e n a) (λb o a e n=>u.free b o e n a) (λb o a e=>u.there b o e a) u.tups u.frzs u.tbls (λq k=>by obtain⟨o',h,i,d,l⟩:=k;rw[ho]at d;cases d;exact⟨_,h,i,g,l⟩) hok j
def Inv.turned{t':Nat}{it:Vb}(I:Inv X pins σ H s)(k:∀b o,b≠it->s.heap.get? b=Vn o->h'.get? b=Vn o)(h:H it=Vo)(g:it≠X.env.locals)
  (h1:it∈X.ex\/X.s₀.heap.objs.size<=it) (h2:∀x c,X.env.cells.lookup x=Vn c->c≠it) (i:∀p∈X.pn++pins,p.1≠it):Inv X pins σ H { s with heap:=h',toks:=t' }:=by
 have d:∀b u,H b=Vn u->b≠it:=λb u e z=>by rw[z,h]at e;cases e
 refine I.step (g':=s.gens) (d':=s.drawn) (ch:=[it]) (λb hb=>?_) (λb o _ _ a e _=>k b o (λz=>a (by simp[z])) e) (λb o _ _ a e _=>⟨o.slots,k b o (λz=>a (by simp[z])) e⟩) (λ_ _ _ _ n=>n)
  (λb o a e=>⟨o,k b o (λz=>a (by simp[z])) e⟩) (λ_ _ e=>e) (λ_ _ _ e=>e) (λb ps e=>⟨#[],by rw[e];simp⟩) (λm j=>?_) (λb u e=>?_) I.bare
 .have e:b=it:=by simpa using hb
  subst e;exact⟨h1,g,h2,i⟩
 .obtain⟨o,es,ep,ho,r⟩:=j;exact⟨o,es,ep,k _ o (Ne.symm g) ho,r⟩
 .refine(I.hok b u e).stay (λc v a q=>k c v ?_ q) (λ_ q=>q) λ_ _ q=>q;rcases a with z|z
  .rw[z];exact d b u e
  .exact d c _ z
def Inv.tok(I:Inv X pins σ H s)(t:Nat):Inv X pins σ H { s with toks:=t }:=I.un (h':=s.heap) (t':=t) Un.refl I.hok
theorem Inv.kept{t':Nat}(I:Inv X pins σ H s)(k:∀b u,s.heap.get? b=Vn u->h'.get? b=Vn u):Inv X pins σ H { s with heap:=h',toks:=t' }:=I.un (Un.kept k) (I.hok.kept k)
theorem Inv.laid{a:Vb}{o:HO}{t':Nat}(I:Inv X pins σ H s)(k:∀b u,s.heap.get? b=Vn u->h'.get? b=Vn u)(c:s.heap.objs.size<=a)(new:bC X.prog X.w (upd H a o) h' a o):
  Inv X pins σ (upd H a o) { s with heap:=h',toks:=t' }:=I.un (Un.laid k c (I.hok.fresh c)) (I.hok.laid k c new)
theorem Inv.write{x e:Vb}{o:HO}{t':Nat}(I:Inv X pins σ H s)(c:jE (H x))(d:e=x\/H e=Vn (.own x))(k:∀b u,b≠e->s.heap.get? b=Vn u->h'.get? b=Vn u)(a:∃u,h'.get? e=Vn u)
  (new:bC X.prog X.w (upd H x o) h' x o):Inv X pins σ (upd H x o) { s with heap:=h',toks:=t' }:=I.un (Un.write c d k a) (I.hok.write c d k a new)
def Inv.pins_of{a:List (Vb×Obj)}(I:Inv X pins σ H s)(h:∀p∈a,s.heap.get? p.1=Vn p.2/\H p.1=Vo/\p.1≠X.env.locals/\p.1∉X.fs/\∀v,p.2.data≠.cell v):Inv X a σ H s:=
 ⟨I.ok,I.os,I.bare,I.base,I.loc,I.cell,I.free,I.freeC,λp b=>(EU.mp b).elim (λz=>I.pin p (Fe _ z)) (h p),I.hok,I.len⟩
def uU{N:List Vm}(c:N.Nodup){i j:Nat}{x:Vm}(a:N[i]?=Vn x)(b:N[j]?=Vn x):i=j:=by obtain⟨h1,d⟩:=EE.mp a;obtain⟨h2,e⟩:=EE.mp b;exact(List.getElem_inj c).mp (d.trans e.symm)
def oN{M:Model}{A:Vi}{E:Va->Vc->Prop}{i:Nat}{x:Vm}{Q:Unit->Vc->Prop}(I:Inv X pins σ H s)(hN:X.N.Nodup)(hi:X.N[i]?=Vn x)(B:Loc X.env.scope x)(r:RelV v u)
  (h:∀s',Inv X pins (σ.set i (Vn v)) H s'->(∃a,Heap.SameBut a s.heap s'.heap/\(a=X.env.locals\/X.env.cells.lookup x=Vn a))->Q () s') (hf:X.fn x=true\/X.env.scope.names.lookup x=Vn .local:=by first|exact .inl rfl|exact .inr rfl|assumption):Vf M A (storeName X.env x u) Q E s:=by
 obtain⟨m,W,hl⟩:=id I.loc;have O:(X.env.scope.kind == .class || (X.env.scope.kind == .module && X.env.locals != X.env.globals))=false:=by rw[I.ok.kind];rfl
 have G:i<σ.length:=by rw[I.len];exact(EE.mp hi).1
 have cne:=I.cne;have tracked:∀{a:Vb} {h':Vh},(∃o,s.heap.get? a=Vn o/\H a=Vo)->Heap.SameBut a s.heap h'->bq X.prog X.w H h':=λ{a h'} ha hs b ob e=>by
  obtain⟨_,_,C⟩:=ha;refine(I.hok b ob e).stay (λc U l q=>(hs.2 c ?_).trans q) (λ_ q=>q) λ_ _ q=>q;rintro rfl;rcases l with rfl|l
  .rw[C]at e;cases e
  .rw[C]at l;cases l
 rcases B with J|J
 .refine wpAny_storeName_local J W (λh' Y hs=>?_) O;obtain⟨oL,_,_,Z,_⟩:=id W;refine h _ ⟨I.ok,I.os,I.bare,⟨λb o e n hb B=>?_,λb o e n hb B=>?_,I.base.free,λb o e B=>?_,I.base.tups,I.base.frzs,I.base.tbls⟩,⟨_,Y,λj y v' g F e3=>?_⟩,λy c e=>?_,I.free,I.freeC,λp hp=>?_,tracked ⟨oL,Z,I.free⟩ hs,by simpa using I.len⟩ ⟨_,hs,.inl rfl⟩
  .exact(hs.2 b (EO (E3 (Es e) I.ok.above))).trans (I.base.keep b o e n hb B)
  .obtain⟨sl,g⟩:=I.base.slot b o e n hb B;exact⟨sl,(hs.2 b (EO (E3 (Es e) I.ok.above))).trans g⟩
  .obtain⟨o',g⟩:=I.base.there b o e B;exact⟨o',(hs.2 b (EO (E3 (Es e) I.ok.above))).trans g⟩
  .by_cases L:j=i
   .subst L;rw[hi]at g;cases g;rw[List.getElem?_set_self G]at F;cases F;exact⟨u,r,.inl ⟨J,by simp⟩⟩
   .rw[List.getElem?_set_ne (Ne.symm L)]at F;obtain⟨u',r',q⟩:=hl j y v' g F e3;refine⟨u',r',?_⟩;rcases q with⟨k,e⟩|⟨k,c,e,z⟩
    .refine .inl ⟨k,?_⟩;have:y≠x:=λe=>L (uU hN g (e ▸ hi));simp[this,e]
    .exact .inr ⟨k,c,e,z.sameBut hs (cne y c e)⟩
  .obtain⟨U,z⟩:=I.cell y c e;exact⟨U,z.sameBut hs (cne y c e)⟩
  .obtain⟨e,n,ne,nf,d⟩:=I.pin p hp;exact⟨(hs.2 p.1 ne).trans e,n,ne,nf,d⟩
 .have hfn:X.fn x=true:=by
   rcases hf with z|z
   .exact z
   .rw[z]at J;cases J
  obtain⟨c,l⟩:=I.ok.has x (.inl J);obtain⟨U,z⟩:=I.cell x c l;refine wpAny_storeName_cell I.ok.kind J l z (λh' P hs=>?_);obtain⟨oc,R,S⟩:=id z;refine h { s with heap:=h' } ⟨I.ok,I.os,I.bare,⟨λb o e n hb B=>?_,λb o e n hb B=>?_,I.base.free,λb o e B=>?_,I.base.tups,I.base.frzs,I.base.tbls⟩,⟨m,W.sameBut hs (Ne.symm (cne x c l)),λj y v' g F e3=>?_⟩,λy c' e=>?_,I.free,I.freeC,λp hp=>?_,tracked ⟨oc,R,I.freeC x c l⟩ hs,by simpa using I.len⟩ ⟨c,hs,.inr l⟩
  .exact(hs.2 b (EO (E3 (Es e) (I.ok.cab x c hfn l)))).trans (I.base.keep b o e n hb B)
  .obtain⟨sl,g⟩:=I.base.slot b o e n hb B;exact⟨sl,(hs.2 b (EO (E3 (Es e) (I.ok.cab x c hfn l)))).trans g⟩
  .obtain⟨o',g⟩:=I.base.there b o e B;exact⟨o',(hs.2 b (EO (E3 (Es e) (I.ok.cab x c hfn l)))).trans g⟩
  .by_cases L:j=i
   .subst L;rw[hi]at g;cases g;rw[List.getElem?_set_self G]at F;cases F;exact⟨u,r,.inr ⟨.inl J,c,l,P⟩⟩
   .rw[List.getElem?_set_ne (Ne.symm L)]at F;obtain⟨u',r',q⟩:=hl j y v' g F e3;refine⟨u',r',?_⟩;rcases q with q|⟨k,c',e,z'⟩
    .exact .inl q
    .refine .inr ⟨k,c',e,z'.sameBut hs ?_⟩;rintro rfl;exact L (uU hN g (I.ok.inj _ _ _ e l ▸ hi))
  .by_cases T:c'=c
   .subst T;exact⟨_,P⟩
   .obtain⟨w2,z2⟩:=I.cell y c' e;exact⟨w2,z2.sameBut hs T⟩
  .obtain⟨e,n,ne,nf,d⟩:=I.pin p hp;refine⟨(hs.2 p.1 ?_).trans e,n,ne,nf,d⟩;intro q;rw[q,R]at e;have q':oc=p.2:=Fc e;exact d U (by rw[<-q'];exact S)
def jr{M:Model}{A:Vi}{E:Va->Vc->Prop}{i:Nat}{x:Vm}{Q:Unit->Vc->Prop}(I:Inv X pins σ H s)(a:X.N.Nodup)(hi:X.N[i]?=Vn x)(b:Loc X.env.scope x)(r:RelV v u)
  (h:∀s',Inv X pins (σ.set i (Vn v)) H s'->Q () s') (c:X.fn x=true\/X.env.scope.names.lookup x=Vn .local:=by first|exact .inl rfl|exact .inr rfl|assumption):Vf M A (storeName X.env x u) Q E s:=
 oN I a hi b r (λs' d _=>h s' d) c
def Inv.call'{s':Vc}(I:Inv X pins σ H s)(ho:s'.os=s.os)(u:Un (dH X.stack) ch H H' s.heap s'.heap)(hok:bq X.prog X.w H' s'.heap)(a:AllBare s'.gens)
  (hch:∀b∈ch,(b∈X.ex\/X.s₀.heap.objs.size<=b)/\b≠X.env.locals/\(∀x c,X.env.cells.lookup x=Vn c->c≠b)/\∀p∈X.pn++pins,p.1≠b):Inv X pins σ H' s':=by
 obtain⟨h',g',d',t',o'⟩:=s';have e:o'=s.os:=ho;subst e;exact I.call (g':=g') (t':=t') (d':=d') u hok a hch
end
abbrev XK:=Va->Option Vb->Hp->Prop
abbrev St:=List (Option V)
abbrev VK:=V->Hp->Prop
abbrev TE:=St->Hp->VK->Prop
abbrev TT:=St->Hp->(Bool->Hp->Prop)->Prop
abbrev TA:=St->Hp->(List V->Hp->Prop)->Prop
structure Ends where
 nx:St->Hp->Prop
 rt:VK
 bk:St->Hp->Prop:=λ_ _=>False
 ct:St->Hp->Prop:=λ_ _=>False
abbrev TS:=Ends->St->Hp->Prop
def EP(X:Cx)(pins:List (Vb×Obj))(σ:St)(Q:VK)(u:Va)(s':Vc):Prop:=∃v H',Inv X pins σ H' s'/\RelV v u/\Q v H'
def TP(X:Cx)(pins:List (Vb×Obj))(σ:St)(Q:Bool->Hp->Prop)(b:Bool)(s':Vc):Prop:=∃H',Inv X pins σ H' s'/\Q b H'
def AP(X:Cx)(pins:List (Vb×Obj))(σ:St)(Q:List V->Hp->Prop)(us:List Va)(s':Vc):Prop:=∃vs H',Inv X pins σ H' s'/\Vals vs us/\Q vs H'
def SP(X:Cx)(pins:List (Vb×Obj))(D:Ends)(f:Flow)(s':Vc):Prop:=
 match f with
 | .next=>∃a H',Inv X pins a H' s'/\D.nx a H'
 | .brk=>∃a H',Inv X pins a H' s'/\D.bk a H'
 | .cont=>∃a H',Inv X pins a H' s'/\D.ct a H'
 | .ret u=>∃v a H',Inv X pins a H' s'/\RelV v u/\D.rt v H'
def PE(X:Cx)(e:Vk)(t:TE):Prop:=
 ∀(pins:List (Vb×Obj)) (s:Vc) (σ:St) (H:Hp) (Q:VK),Inv X pins σ H s->t σ H Q->Vf (Vg X.prog X.w) X.A (eval e X.env) (EP X pins σ Q) X.xe s
def PT(X:Cx)(e:Vk)(t:TT):Prop:=
 ∀(pins:List (Vb×Obj)) (s:Vc) (σ:St) (H:Hp) (Q:Bool->Hp->Prop),Inv X pins σ H s->t σ H Q->Vf (Vg X.prog X.w) X.A (isTrue e X.env (eval e X.env)) (TP X pins σ Q) X.xe s
def PW(X:Cx)(e:Vk)(t:TT):Prop:=
 ∀(whole:Sem Va) (pins:List (Vb×Obj)) (s:Vc) (σ:St) (H:Hp) (Q:Bool->Hp->Prop),Inv X pins σ H s->t σ H Q->Vf (Vg X.prog X.w) X.A (isTrue e X.env whole) (TP X pins σ Q) X.xe s
def PW.pt{X:Cx}{e:Vk}{t:TT}(h:PW X e t):PT X e t:=h _
def PA(X:Cx)(es:List Vk)(t:TA):Prop:=
 ∀(pos:Pos) (pins:List (Vb×Obj)) (s:Vc) (σ:St) (H:Hp) (Q:List V->Hp->Prop),Inv X pins σ H s->t σ H Q->Vf (Vg X.prog X.w) X.A (spliced (backTo pos (starEach es X.env))) (AP X pins σ Q) X.xe s
def PS(X:Cx)(st:Stmt)(t:TS):Prop:=
 ∀(pins:List (Vb×Obj)) (s:Vc) (σ:St) (H:Hp) (D:Ends),Inv X pins σ H s->t D σ H->Vf (Vg X.prog X.w) X.A (exec st X.env) (SP X pins D) X.xe s
def cR(X:Cx)(st:List Stmt)(t:TS):Prop:=
 ∀(pins:List (Vb×Obj)) (s:Vc) (σ:St) (H:Hp) (D:Ends),Inv X pins σ H s->t D σ H->Vf (Vg X.prog X.w) X.A (execs st X.env) (SP X pins D) X.xe s
def aH{α:Type}{t:Sem α}{Q b:α->Vc->Prop}(h:Vf M A t Q E s)(c:∀a s,Q a s->b a s):Vf M A t b E s:=wpAny_mono h c λ_ _ x=>x
section
variable {X:Cx}
def bin{b:Vk}{ta tb:TE}(ha:PE X a ta)(hb:PE X b tb){σ:St}{R:V->V->Hp->Prop}(I:Inv X pins σ H s)(h:ta σ H λx H1=>tb σ H1 λy H2=>R x y H2)
  {α:Type} {Q:α->Vc->Prop} {f:Va->Va->Sem α}
  (e:∀v u s2 x y H2,Inv X pins σ H2 s2->RelV x v->RelV y u->R x y H2->Vf (Vg X.prog X.w) X.A (f v u) Q X.xe s2) :
  Vf (Vg X.prog X.w) X.A (eval a X.env) (λv c=>Vf (Vg X.prog X.w) X.A (eval b X.env) (λu d=>Vf (Vg X.prog X.w) X.A (f v u) Q X.xe d) X.xe c) X.xe s:=by
 refine aH (ha pins s σ H _ I h) λv s1 ⟨x,H1,g,r1,i⟩=>?_;refine aH (hb pins s1 σ H1 _ g i) λu s2 ⟨y,H2,j,k,l⟩=>?_;exact e v u s2 x y H2 j r1 k l
def nG(i:Nat):TE:=λσ H Q=>∃v,σ[i]?=Vn (Vn v)/\Q v H
def tC(v:V):TE:=λ_ H Q=>Q v H
def A5{i:Nat}{x:Vm}{pos:Pos}(j:X.N[i]?=Vn x)(k:lG X.env.scope x)(hd:(x == ("__debug__":Vm))=false:=by decide)(d:(x == ("__classdict__":Vm))=false:=by decide):PE X (.Name x pos) (nG i):=by
 intro pins s σ H Q I h;obtain⟨v,e,h⟩:=h;obtain⟨m,n,o⟩:=I.loc;obtain⟨u,r,l⟩:=o i x v j e k;have fin:EP X pins σ Q u s:=⟨v,H,I,r,h⟩;rcases l with⟨b,p⟩|⟨b,c,g,a⟩
 .exact wpAny_Name (wpAny_loadName_local I.ok.kind b n p fin) hd
 .rcases b with b|b
  .exact wpAny_Name (wpAny_loadName_cell I.ok.kind b g a fin) hd
  .exact wpAny_Name (wpAny_loadName_free I.ok.kind b g a fin d) hd
def af{i j pos}:PE X (.Constant (.int i) j pos) (tC (.int i)):=λ_ _ _ H _ I h=>wpAny_Constant_int ⟨.int i,H,I.tok _,⟨_,rfl⟩,h⟩
def a7{b j pos}:PE X (.Constant (.bool b) j pos) (tC (.bl b)):=λ_ _ _ H _ I h=>Constant_bool ⟨.bl b,H,I,rfl,h⟩
def jg{j pos}:PE X (.Constant .none j pos) (tC .non):=λ_ _ _ H _ I h=>Constant_none ⟨.non,H,I,rfl,h⟩
def aU{x j pos}:PE X (.Constant (.str x) j pos) (tC (.str x)):=λ_ _ _ H _ I h=>Calls.Constant_str ⟨.str x,H,I.tok _,⟨_,rfl⟩,h⟩
def Gl(X:Cx)(x:Vm):Prop:=X.env.kindOf x=Vn .globalImplicit
def jT{E:Va->Vc->Prop}{σ:St}{x:Vm}{pos:Pos}{Q:Va->Vc->Prop}(I:Inv X pins σ H s)(a:Gl X x)(b:X.mg x=Vn u)(h:Q u s)
  (hd:(x == ("__debug__":Vm))=false:=by decide):Vf (Vg X.prog X.w) X.A (eval (.Name x pos) X.env) Q E s:=
 Calls.Name_function_global I.ok.kind a (Calls.loadGlobal_global (by rw[I.ok.glob];exact I.mod.glob.keeps I.bk) b h) hd
def fQ{E:Va->Vc->Prop}{σ:St}{x:Vm}{pos:Pos}{Q:Va->Vc->Prop}(I:Inv X pins σ H s)(a:Gl X x)(b:X.mg x=Vo)(c:bootBuiltins x=Vn u)(h:Q u s)
  (d:x≠"__name__":=by decide) (hd:(x == ("__debug__":Vm))=false:=by decide):Vf (Vg X.prog X.w) X.A (eval (.Name x pos) X.env) Q E s:=by
 obtain⟨mb,h1,h2⟩:=I.mod.blt;exact Calls.Name_function_global I.ok.kind a (Calls.loadGlobal_builtin (by rw[I.ok.glob];exact I.mod.glob.keeps I.bk) b (by rw[I.ok.blt];exact h1.keeps I.bk) ((h2 x d).trans c) h) hd
def gL{x:Vm}{pos:Pos}(a:Gl X x)(b:X.mg x=Vn u)(r:RelV v u)(hd:(x == ("__debug__":Vm))=false:=by decide):PE X (.Name x pos) (tC v):=
 λ_ _ _ H _ I h=>jT I a b ⟨v,H,I,r,h⟩ hd
def dh{x:Vm}{pos:Pos}(a:Gl X x)(b:X.mg x=Vo)(c:bootBuiltins x=Vn u)(r:RelV v u)(d:x≠"__name__":=by decide)(hd:(x == ("__debug__":Vm))=false:=by decide):PE X (.Name x pos) (tC v):=
 λ_ _ _ H _ I h=>fQ I a b c ⟨v,H,I,r,h⟩ d hd
variable {a b:Vk} {ta tb:TE} {pos:Pos}
def PC(X:Cx)(op:CmpOp)(a b:Vk)(t:TE):Prop:=
 ∀(pins:List (Vb×Obj)) (s:Vc) (σ:St) (H:Hp) (Q:VK),Inv X pins σ H s->t σ H Q ->
  Vf (Vg X.prog X.w) X.A (eval a X.env) (λv c=>Vf (Vg X.prog X.w) X.A (eval b X.env) (λu d=>Vf (Vg X.prog X.w) X.A (compareOp op v u) (EP X pins σ Q) X.xe d) X.xe c) X.xe s
def tB(t:TE):TT:=λσ H Q=>t σ H λx H1=>∃c,x=.bl c/\Q c H1
def CV{op:CmpOp}{t:TE}(h:PC X op a b t)(h1:behindInMarks op b=false:=by first|exact nobehind _ (by decide) (by decide)|rfl):PE X (.Compare a [op] [b] pos) t:=λpins s σ H Q I c=>wpAny_Compare1 (h pins s σ H Q I c) h1
def iO{op:CmpOp}{t:TE}(h:PC X op a b t)(h1:behindInMarks op b=false:=by first|exact nobehind _ (by decide) (by decide)|rfl):PT X (.Compare a [op] [b] pos) (tB t):=by intro pins s σ H Q I e;refine wpAny_isTrue_Compare1 (aH (h pins s σ H _ I e) λv s1 h1=>aH h1 λu s2 h2=>aH h2 λc j ⟨x,H1,g,r1,i⟩=>?_) h1;obtain⟨d,rfl,q⟩:=i;cases r1;exact wpAny_truthy_bool ⟨H1,g,q⟩
def a0{e:Vk}{t:TE}(h:PE X e t)(a:∀whole,isTrue e X.env whole=(do let v <-whole;standAt e.pos;holding [v] (truthy v)):=by intro _;rfl):PT X e (tB t):=by intro pins s σ H Q I b;refine isTrue_plain (aH (h pins s σ H _ I b) λv s1 ⟨x,H1,c,r1,g⟩=>?_) (a _);obtain⟨d,rfl,q⟩:=g;cases r1;exact wpAny_truthy_bool ⟨H1,c,q⟩
variable {tA tB':TT} {rest:List Vk}
def ua(t u:TT):TT:=λσ H Q=>t σ H λc H1=>if c=true then u σ H1 Q else Q false H1
def pF(t u:TT):TT:=λσ H Q=>t σ H λc H1=>if c=true then Q true H1 else u σ H1 Q
def uR(t:TT):TT:=λσ H Q=>t σ H λc H1=>Q (!c) H1
def fS(ha:PT X a tA):PW X (.BoolOp .And [a] pos) tA:=by
 intro b pins s σ H Q I h;refine isTrue_and (aH (ha pins s σ H Q I h) λc s1 e=>?_);cases c with
 | true=>exact isTrue_and_nil e
 | false=>exact e
def b9(ha:PT X a tA):PW X (.BoolOp .Or [a] pos) tA:=by
 intro b pins s σ H Q I h;refine isTrue_or (aH (ha pins s σ H Q I h) λc s1 e=>?_);cases c with
 | false=>exact isTrue_or_nil e
 | true=>exact e
def eT(ha:PT X a tA)(hb:PW X (.BoolOp .And (b::rest) pos) tB'):PW X (.BoolOp .And (a::b::rest) pos) (ua tA tB'):=by
 intro g pins s σ H Q I h;refine isTrue_and (aH (ha pins s σ H _ I h) λc s1 ⟨H1,d,e⟩=>?_);cases c with
 | true=>exact hb g pins s1 σ H1 Q d e
 | false=>exact⟨H1,d,e⟩
def bJ(ha:PT X a tA)(hb:PW X (.BoolOp .Or (b::rest) pos) tB'):PW X (.BoolOp .Or (a::b::rest) pos) (pF tA tB'):=by
 intro g pins s σ H Q I h;refine isTrue_or (aH (ha pins s σ H _ I h) λc s1 ⟨H1,d,e⟩=>?_);cases c with
 | true=>exact⟨H1,d,e⟩
 | false=>exact hb g pins s1 σ H1 Q d e
def bB(ha:PT X a tA):PT X (.UnaryOp .Not a pos) (uR tA):=by intro pins s σ H Q I h;exact isTrue_not (ha pins s σ H (λc H1=>Q (!c) H1) I h)
def ue(ta tb:TE):TE:=λσ H Q=>ta σ H λx H1=>∃c,x=.bl c/\if c=true then tb σ H1 Q else Q (.bl false) H1
def tE(ta tb:TE):TE:=λσ H Q=>ta σ H λx H1=>∃c,x=.bl c/\if c=true then Q (.bl true) H1 else tb σ H1 Q
def qx(ta:TE):TE:=λσ H Q=>ta σ H λx H1=>∃c,x=.bl c/\Q (.bl (!c)) H1
def cQ{op}{t:TE}(h:PE X a t):PE X (.BoolOp op [a] pos) t:=λpins s σ H Q I b=>BoolOp_one (h pins s σ H Q I b)
def cG(ha:PE X a ta)(hb:PE X (.BoolOp .And (b::rest) pos) tb):PE X (.BoolOp .And (a::b::rest) pos) (ue ta tb):=by
 intro pins s σ H Q I h;refine BoolOp_and (aH (ha pins s σ H _ I h) λv s1 ⟨x,H1,e,r1,d⟩=>?_);obtain⟨c,rfl,d⟩:=d;cases r1;refine wpAny_truthy_bool ?_;cases c with
 | true=>exact hb pins s1 σ H1 Q e d
 | false=>exact⟨.bl false,H1,e,rfl,d⟩
def pQ(ha:PE X a ta)(hb:PE X (.BoolOp .Or (b::rest) pos) tb):PE X (.BoolOp .Or (a::b::rest) pos) (tE ta tb):=by
 intro pins s σ H Q I h;refine BoolOp_or (aH (ha pins s σ H _ I h) λv s1 ⟨x,H1,e,r1,d⟩=>?_);obtain⟨c,rfl,d⟩:=d;cases r1;refine wpAny_truthy_bool ?_;cases c with
 | false=>exact hb pins s1 σ H1 Q e d
 | true=>exact⟨.bl true,H1,e,rfl,d⟩
def iF(ha:PE X a ta):PE X (.UnaryOp .Not a pos) (qx ta):=by intro pins s σ H Q I h;refine UnaryOp_ (aH (ha pins s σ H _ I h) λv s1 ⟨x,H1,d,r1,b⟩=>?_);obtain⟨c,rfl,b⟩:=b;cases r1;exact not_of (wpAny_truthy_bool ⟨.bl (!c),H1,d,rfl,b⟩)
end
def ag(K:Eo)(H:Hp)(a:Vb)(xs:List V):Prop:=
 Rd H a (.lst xs) ∨
  ∃(o:Obj) (b:Array Va) (n:Nat),K.lookup a=Vn o/\o.cls=.type "list"/\o.dict=Vo/\o.data=.seq b n/\b.size<=sizeLine/\Vals xs b.toList
def ah(K:Eo)(H:Hp)(a:Vb)(xs:List V):Prop:=
 Rd H a (.tup xs) ∨
  ∃(o:Obj) (b:Array Va) (n:Nat),K.lookup a=Vn o/\o.cls=.type "tuple"/\o.data=.seq b n/\b.size<=sizeLine/\Vals xs b.toList
def yh:Va->Option V
 | .none=>Vn .non
 | .bool b=>Vn (.bl b)
 | .int i _=>Vn (.int i)
 | .str x _=>Vn (.str x)
 | .bytes b _=>Vn (.byt b)
 | .float b _=>Vn (.flt b)
 | .ref a=>Vn (.ref a)
 | .type n=>Vn (.ty n)
 | _=>Vo
def RelV.abs{x:V}(r:RelV x u):yh u=Vn x:=by
 cases x with
 | non=>cases r;rfl
 | bl _=>cases r;rfl
 | int _=>obtain⟨t,rfl⟩:=r;rfl
 | str _=>obtain⟨t,rfl⟩:=r;rfl
 | byt _=>obtain⟨t,rfl⟩:=r;rfl
 | flt _=>obtain⟨t,rfl⟩:=r;rfl
 | ref _=>cases r;rfl
 | ty _=>cases r;rfl
def RelV.inj{x y:V}(r:RelV x u)(q:RelV y u):x=y:=Fc (r.abs.symm.trans q.abs)
theorem Vals.inj:∀{xs ys:List V} {us:List Va},Vals xs us->Vals ys us->xs=ys
 | _,_,_,.nil,.nil=>rfl
 | _,_,_,.cons r t,.cons a t'=>by rw[r.inj a,Vals.inj t t']
section
variable {X:Cx} {pins:List (Vb×Obj)} {σ:St} {H:Hp} {s:Vc} {a:Vb} {xs ys:List V}
def ag.of{K:Eo}(h:H a=Vn (.lst xs)):ag K H a xs:=.inl (.inl h)
def ah.of{K:Eo}(h:H a=Vn (.tup xs)):ah K H a xs:=.inl (.inl h)
theorem Inv.list(I:Inv X pins σ H s)(h:ag X.K H a xs):∃b:List Va,Vals xs b/\PlainL s.heap a b.toArray/\xs.length<=sizeLine:=by
 rcases h with h|⟨o,b,n,c,d,hd,hs,g,r⟩
 .obtain⟨z,b,n,r,e⟩:=h.ok I.hok;exact⟨b,r,⟨_,n,e,rfl,rfl,rfl⟩,z⟩
 .refine⟨b.toList,r,⟨o,n,I.kIn a o c,d,hd,by simpa using hs⟩,?_⟩;have e:=r.length;simp only[EA]at e;lia
theorem Inv.tuple(I:Inv X pins σ H s)(h:ah X.K H a xs):∃b:List Va,Vals xs b/\IsTup s.heap a b.toArray/\xs.length<=sizeLine:=by
 rcases h with h|⟨o,b,n,c,d,hs,g,r⟩
 .obtain⟨z,b,r,p⟩:=h.ok I.hok;exact⟨b,r,p,z⟩
 .refine⟨b.toList,r,⟨o,I.kIn a o c,d,n,by simpa using hs⟩,?_⟩;have e:=r.length;simp only[EA]at e;lia
def Inv.list_inj(I:Inv X pins σ H s)(h:ag X.K H a xs)(h':ag X.K H a ys):xs=ys:=by
 obtain⟨c,r,⟨o,n,e,_,_,d⟩,_⟩:=I.list h;obtain⟨b,i,⟨o',k,e',_,_,g⟩,_⟩:=I.list h';rw[e]at e';cases e';rw[d]at g;injection g with j _;have:c=b:=by simpa using congrArg Array.toList j
 subst this;exact r.inj i
def Inv.tuple_inj(I:Inv X pins σ H s)(h:ah X.K H a xs)(h':ah X.K H a ys):xs=ys:=by
 obtain⟨c,r,⟨o,e,_,n,d⟩,_⟩:=I.tuple h;obtain⟨b,i,⟨o',e',_,k,g⟩,_⟩:=I.tuple h';rw[e]at e';cases e';rw[d]at g;injection g with j _;have:c=b:=by simpa using congrArg Array.toList j
 subst this;exact r.inj i
end
abbrev Cx.wish(X:Cx)(E:Va->Vc->Prop):Cx:={ X with xe:=E }
abbrev Cx.nox(X:Cx):Cx:=X.wish λ_ _=>False
theorem Cx.Ok.wish{X:Cx}(ok:X.Ok)(E:Va->Vc->Prop):(X.wish E).Ok:=
 ⟨ok.mod,ok.kind,ok.glob,ok.blt,ok.above,ok.inj,ok.has,ok.cab,ok.hd,ok.frames,ok.stk,ok.exf,ok.bs,ok.bsz,ok.noex,ok.exfs,ok.funs,ok.frf⟩
def Cx.Ok.unwish{X:Cx}(ok:(X.wish E).Ok):X.Ok:=
 ⟨ok.mod,ok.kind,ok.glob,ok.blt,ok.above,ok.inj,ok.has,ok.cab,ok.hd,ok.frames,ok.stk,ok.exf,ok.bs,ok.bsz,ok.noex,ok.exfs,ok.funs,ok.frf⟩
section
variable {X:Cx} {pins:List (Vb×Obj)} {σ:St} {H:Hp} {s:Vc} {E:Va->Vc->Prop}
theorem Inv.wish(I:Inv X pins σ H s)(E:Va->Vc->Prop):Inv (X.wish E) pins σ H s:=⟨I.ok.wish E,I.os,I.bare,I.base,I.loc,I.cell,I.free,I.freeC,I.pin,I.hok,I.len⟩
theorem Inv.unwish(I:Inv (X.wish E) pins σ H s):Inv X pins σ H s:=⟨I.ok.unwish,I.os,I.bare,I.base,I.loc,I.cell,I.free,I.freeC,I.pin,I.hok,I.len⟩
theorem SP.unwish{D:Ends}{f:Flow}{s':Vc}(h:SP (X.wish E) pins D f s'):SP X pins D f s':=by
 cases f with
 | next=>obtain⟨a,H',I,q⟩:=h;exact⟨a,H',I.unwish,q⟩
 | brk=>obtain⟨a,H',I,q⟩:=h;exact⟨a,H',I.unwish,q⟩
 | cont=>obtain⟨a,H',I,q⟩:=h;exact⟨a,H',I.unwish,q⟩
 | ret u=>obtain⟨v,a,H',I,r,q⟩:=h;exact⟨v,a,H',I.unwish,r,q⟩
theorem cR.nox{st:List Stmt}{t:TS}(h:cR X.nox st t):cR X st t:=λpins s σ H D I a=>
 wpAny_mono (h pins s σ H D (I.wish _) a) (λ_ _ q=>q.unwish) λ_ _ z=>False.elim z
end
section
variable {X:Cx} {st:Stmt} {rest:List Stmt} {t u:TS} {e:Vk} {te:TE} {pos:Pos}
def vL:TS:=λD σ H=>D.nx σ H
def wJ(t u:TS):TS:=λD σ H=>t { D with nx:=u D } σ H
def aQ:cR X [] vL:=λ_ _ σ H _ I h=>wpAny_execs_nil ⟨σ,H,I,h⟩
def av(h1:PS X st t)(h2:cR X rest u):cR X (st::rest) (wJ t u):=by
 intro pins s σ H D I h;refine wpAny_execs_cons (aH (h1 pins s σ H { D with nx:=u D } I h) λf s1 q=>?_);cases f with
 | next=>
  obtain⟨a,H',b,q⟩:=q;exact h2 pins s1 a H' D b q
 | ret v=>exact q
 | brk=>exact q
 | cont=>exact q
def aw(h1:PS X st t):cR X [st] t:=by
 intro pins s σ H D I h;refine wpAny_execs_cons (aH (h1 pins s σ H D I h) λf s1 q=>?_);cases f with
 | next=>exact wpAny_execs_nil q
 | ret v=>exact q
 | brk=>exact q
 | cont=>exact q
def Inv.quiet{σ:St}(I:Inv X pins σ H s):interactive X.env=false:=by simp[interactive,I.ok.kind]
def qe(te:TE):TS:=λD σ H=>te σ H λ_ H1=>D.nx σ H1
def bj(a:PE X e te)(hs:swapsWith e Vo pos.line X.env=pure false:=by rfl):PS X (.Expr e pos) (qe te):=by intro pins s σ H D I h;exact wpAny_Expr_any (aH (a pins s σ H _ I h) λv s1 ⟨x,H1,b,r1,c⟩=>⟨σ,H1,b,c⟩) I.quiet hs
def wY(te:TE):TS:=λD σ H=>te σ H D.rt
def aD(a:PE X e te):PS X (.Return (Vn e) pos) (wY te):=by intro pins s σ H D I h;exact wpAny_Return_some (aH (a pins s σ H _ I h) λv s1 ⟨x,H1,b,r1,c⟩=>⟨x,σ,H1,b,r1,c⟩)
def oW(c:TT)(t u:TS):TS:=λD σ H=>c σ H λb H1=>if b=true then t D σ H1 else u D σ H1
def aY{c:Vk}{a b:List Stmt}{tc:TT}(i:PT X c tc)(ha:cR X a t)(hb:cR X b u):PS X (.If c a b pos) (oW tc t u):=by
 intro pins s σ H D I h;refine wpAny_If (aH (i pins s σ H _ I h) λd s1 ⟨H1,e,g⟩=>?_);cases d with
 | true=>exact ha pins s1 σ H1 D e g
 | false=>exact hb pins s1 σ H1 D e g
def Bg:TS:=λ_ _ _=>False
def i9:PS X st Bg:=λ_ _ _ _ _ _ h=>h.elim
end
abbrev TG:=V->St->Hp->(St->Hp->Prop)->Prop
abbrev eE:=List V->St->Hp->(St->Hp->Prop)->Prop
def PG(X:Cx)(target:Vk)(t:TG):Prop:=
 ∀(pins:List (Vb×Obj)) (s:Vc) (σ:St) (H:Hp) (v:V) (u:Va) (Q:St->Hp->Prop),Inv X pins σ H s->RelV v u->t v σ H Q ->
  Vf (Vg X.prog X.w) X.A (assign target X.env u) (λ_ s'=>∃a H',Inv X pins a H' s'/\Q a H') X.xe s
def i8(X:Cx)(ts:List Vk)(t:eE):Prop:=
 ∀(pins:List (Vb×Obj)) (s:Vc) (σ:St) (H:Hp) (vs:List V) (us:List Va) (Q:St->Hp->Prop),Inv X pins σ H s->Vals vs us->t vs σ H Q ->
  Vf (Vg X.prog X.w) X.A (assignInOrder ((assignEach ts X.env).map (·.2)) us) (λ_ s'=>∃a H',Inv X pins a H' s'/\Q a H') X.xe s
abbrev lx:=V->V->V->Hp->(Hp->Prop)->Prop
def wH(X:Cx)(t:lx):Prop:=
 ∀(pins:List (Vb×Obj)) (s:Vc) (σ:St) (H:Hp) (o i v:V) (a b u:Va) (Q:Hp->Prop),Inv X pins σ H s->RelV o a->RelV i b->RelV v u->t o i v H Q ->
  Vf (Vg X.prog X.w) X.A (setItem a b u) (λ_ s'=>∃H',Inv X pins σ H' s'/\Q H') X.xe s
abbrev jz:=V->V->Hp->VK->Prop
def mL(X:Cx)(op:Operator)(t:jz):Prop:=
 ∀(pins:List (Vb×Obj)) (s:Vc) (σ:St) (H:Hp) (x y:V) (v u:Va) (Q:VK),Inv X pins σ H s->RelV x v->RelV y u->t x y H Q ->
  Vf (Vg X.prog X.w) X.A (inplaceOp op v u) (EP X pins σ Q) X.xe s
section
variable {X:Cx} {pos:Pos}
def jM(i:Nat):TG:=λv σ H Q=>Q (σ.set i (Vn v)) H
def aI{i:Nat}{x:Vm}(a:X.N.Nodup)(hi:X.N[i]?=Vn x)(b:Loc X.env.scope x)(c:X.fn x=true\/X.env.scope.names.lookup x=Vn .local:=by first|exact .inl rfl|exact .inr rfl|assumption):PG X (.Name x pos) (jM i):=by intro pins s σ H v u Q I r h;exact wpAny_assign_Name (jr I a hi b r (λs' d=>⟨_,H,d,h⟩) c)
def vn:eE:=λvs σ H Q=>vs=[]/\Q σ H
def rP(t:TG)(u:eE):eE:=λvs σ H Q=>∃v r,vs=v::r/\t v σ H λa H'=>u r a H' Q
def eA:i8 X [] vn:=by intro pins s σ H vs us Q I r h;obtain⟨e,h⟩:=h;subst e;cases r;exact assignInOrder_nil ⟨σ,H,I,h⟩
def br{e:Vk}{es:List Vk}{t:TG}{u:eE}(h1:PG X e t)(h2:i8 X es u)
  (hs:(assignEach (e::es) X.env).map (·.2)=assign e X.env::(assignEach es X.env).map (·.2):=by rfl):i8 X (e::es) (rP t u):=by
 intro pins s σ H vs us Q I r h;obtain⟨v,i,b,h⟩:=h;subst b;cases r with
 | cons r c=>
  rw[hs];refine assignInOrder_cons (aH (h1 pins s σ H _ _ _ I r h) λ_ s1 ⟨a,H1,d,g⟩=>?_);exact h2 pins s1 a H1 _ _ Q d c g
def nT(K:Eo)(n:Nat)(t:eE):TG:=λv σ H Q=>∃a xs,v=.ref a/\ah K H a xs/\xs.length=n/\t xs σ H Q
def zh{es:List Vk}{k:Nat}{t:eE}(i:X.calm=true)(h:i8 X es t)
  (j:(assignEach es X.env).length=n:=by rfl) (c:(assignEach es X.env).findIdx? (·.1)=Vo:=by rfl):PG X (.Tuple es k pos) (nT X.K n t):=by
 intro pins s σ H v u Q I r d;obtain⟨a,xs,l,m,p,d⟩:=d;subst l;cases r;obtain⟨q,g,w,z⟩:=I.tuple m;refine assign_Tuple_tuple (I.ok.hd i) w (by simp[j,<-p,g.length]) c λh' x=>?_;have y:Inv X pins σ H { s with heap:=h' }:=I.kept (t':=s.toks) λb o e=>x b o (EO (Es e)) e;exact h pins _ σ H xs _ Q y (by simpa using g) d
def pX(to a:TE)(t:lx):TG:=λv σ H Q=>to σ H λo H1=>a σ H1 λi H2=>t o i v H2 λb=>Q σ b
def f7{o i:Vk}{to c:TE}{t:lx}(ho:PE X o to)(hi:PE X i c)(hs:wH X t)
  (ha:∀v,assign (.Subscript o i pos) X.env v=(do
   let a <-holding [v] (eval o X.env);let b <-holding [v,a] (eval i X.env)
   standAt pos
   holding [v,a,b] (setItem a b v)
   release [v,a,b] []):=by intro _;rfl):PG X (.Subscript o i pos) (pX to c t):=by
 intro pins s σ H v u Q I r h;rw[ha];refine Em (wpAny_holding (aH (ho pins s σ H _ I h) λa s1 ⟨x,H1,d,r1,e⟩=>?_));refine Em (wpAny_holding (aH (hi pins s1 σ H1 _ d e) λb s2 ⟨y,H2,g,j,k⟩=>?_));refine Em (wpAny_standAt (Em (wpAny_holding (aH (hs pins s2 σ H2 x y v a b u _ g r1 j r k) λ_ p ⟨l,m,n⟩=>?_))));exact wpAny_release ⟨σ,l,m,n⟩
def kf(te:TE)(g:TG):TS:=λD σ H=>te σ H λx H1=>g x σ H1 D.nx
def eM{tg e:Vk}{te:TE}{g:TG}(a:PE X e te)(b:PG X tg g)(hs:swapsWithSole [tg] e pos.line X.env=pure false:=by rfl)(c:swappedStores [tg] e X.env=pure Vo:=by rfl)
  (h1:(assignEach [tg] X.env).map (·.2)=[assign tg X.env]:=by rfl):PS X (.Assign [tg] e pos) (kf te g):=by
 intro pins s σ H D I h;refine wpAny_Assign_stores (aH (a pins s σ H _ I h) λv s1 ⟨x,H1,d,r1,i⟩=>?_) hs c;rw[h1];exact aH (b pins s1 σ H1 x v _ d r1 i) λ_ s2 q=>q
def aG{i:Nat}{x:Vm}{e:Vk}{te:TE}{pos':Pos}(a:X.N.Nodup)(hi:X.N[i]?=Vn x)(b:Loc X.env.scope x)(c:PE X e te)(hs:swapsWith e (Vn (.Name x pos')) pos.line X.env=pure false:=by rfl)(d:X.fn x=true\/X.env.scope.names.lookup x=Vn .local:=by first|exact .inl rfl|exact .inr rfl|assumption):
  PS X (.Assign [.Name x pos'] e pos) (kf te (jM i)):=by
 intro pins s σ H D I h;refine wpAny_Assign_Name (aH (c pins s σ H _ I h) λv s1 ⟨y,H1,g,r1,j⟩=>?_) hs;exact jr g a hi b r1 (λs2 k=>⟨_,H1,k,j⟩) d
def u9(i j:Nat)(ta:TA):TS:=λD σ H=>ta σ H λvs H1=>∃v w,vs=[v,w]/\D.nx ((σ.set i (Vn v)).set j (Vn w)) H1
def uh{i j:Nat}{x y:Vm}{b:Vk}{ta:TA}{g py pt:Pos}{kt k2 pt2}(C:X.calm=true)(r:X.N.Nodup)(hi:X.N[i]?=Vn x)(E:X.N[j]?=Vn y)(k:i≠j)
  (u:X.env.scope.names.lookup x=Vn .local) (z:X.env.scope.names.lookup y=Vn .local) (ha:PA X [a,b] ta)
  (F:swappedStores [.Tuple [.Name x g,.Name y py] kt pt] (.Tuple [a,b] k2 pt2) X.env=pure (Vn [x,y]))
  (hs:swapsWithSole [.Tuple [.Name x g,.Name y py] kt pt] (.Tuple [a,b] k2 pt2) pos.line X.env=pure false:=by rfl) :
  PS X (.Assign [.Tuple [.Name x g,.Name y py] kt pt] (.Tuple [a,b] k2 pt2) pos) (u9 i j ta):=by
 intro pins s σ H D I h;rw[exec_Assign_arm];refine Em (wpAny_standAt ?_);rw[hs];refine Em (En ?_);rw[Fs (by decide)];refine Em (Tuple_ (aH (ha _ pins s σ H _ I h) λus s1 ⟨vs,H1,G,r1,l⟩=>?_));obtain⟨v,w,J,l⟩:=l;subst J;obtain⟨c,d,rfl,L,m⟩:∃c d,us=[c,d]/\RelV v c/\RelV w d:=by
  cases r1 with
  | cons p q=>
   cases q with
   | cons M O=>
    cases O;exact⟨_,_,rfl,p,M⟩
 refine wpAny_newObj_type ?_ (by show 2<=sizeLine;decide);have P:Inv X pins σ H1 { s1 with heap:=s1.heap.push { cls:=.type "tuple",data:=.seq [c,d].toArray } }:=G.kept (t':=s1.toks) λb o e=>Ep _ e;rw[F];refine Em (En ?_);show Vf (Vg X.prog X.w) X.A (do rule "assign.swapped-stores";let items <-unpackItems (.ref s1.heap.objs.size) 2 none;assignInOrder [λv=>bindName X.env y v,λv=>bindName X.env x v] items.reverse;pure Flow.next) _ _ _;refine Em (wpAny_rule (Em (unpackItems_tuple (items:=#[c,d]) (I.ok.hd C) (IsTup.new s1.heap _) λh' n=>?_)));have Q:=P.kept (h':=h') (t':=s1.toks) λb o e=>n b o (EO (Es e)) e;show Vf _ _ (assignInOrder [λv=>bindName X.env y v,λv=>bindName X.env x v] [d,c] >>= λ_=>pure Flow.next) _ _ _;refine Em (assignInOrder_cons (wpAny_bindName (jr Q r E (.inl z) m (λs2 R=>?_) (.inr z))));refine assignInOrder_cons (wpAny_bindName (jr R r hi (.inl u) L (λS B=>assignInOrder_nil (En ?_)) (.inr u)));rw[List.set_comm _ _ (Ne.symm k)]at B;exact⟨_,H1,B,l⟩
def ug(i:Nat)(te:TE)(a:jz):TS:=λD σ H=>∃x,σ[i]?=Vn (Vn x)/\te σ H λy H1=>a x y H1 λz H2=>D.nx (σ.set i (Vn z)) H2
def kh{i:Nat}{x:Vm}{e:Vk}{te:TE}{op:Operator}{o:jz}{pos':Pos}(p:X.N.Nodup)(hi:X.N[i]?=Vn x)(j:Loc X.env.scope x)(q:PE X e te)(ho:mL X op o)(B:X.fn x=true\/X.env.scope.names.lookup x=Vn .local:=by first|exact .inl rfl|exact .inr rfl|assumption):
  PS X (.AugAssign (.Name x pos') op e pos) (ug i te o):=by
 intro pins s σ H D I h;obtain⟨v,C,h⟩:=h;obtain⟨m,E,F⟩:=I.loc;have n:lG X.env.scope x:=by rcases j with k|k;exact .inl k;exact .inr (.inl k)
 obtain⟨u,r,l⟩:=F i x v hi C n;refine wpAny_AugAssign_Name ?_;have go:Vf (Vg X.prog X.w) X.A (eval e X.env) (λw d=>Vf (Vg X.prog X.w) X.A (inplaceOp op u w) (λr g=>Vf (Vg X.prog X.w) X.A (storeName X.env x r) (λ_=>SP X pins D .next) X.xe g) X.xe d) X.xe s:=by refine aH (q pins s σ H _ I h) λw s1 ⟨y,H1,G,r1,J⟩=>?_;refine aH (ho pins s1 σ H1 v y u w _ G r r1 J) λz s2 ⟨S,H2,L,M,O⟩=>?_;exact jr L p hi j M (λT P=>⟨_,H2,P,O⟩) B
 rcases l with⟨a,Q⟩|⟨a,c,R,b⟩
 .exact wpAny_loadName_local I.ok.kind a E Q go
 .rcases a with a|a
  .exact wpAny_loadName_cell I.ok.kind a R b go
  .rcases j with k|k
   .have:X.env.scope.names.lookup x=Vn .free:=a;rw[k]at this;cases this
   .have:X.env.scope.names.lookup x=Vn .free:=a;rw[k]at this;cases this
def mX(f:Int->Int->Int):jz:=λx y H Q=>∃i j,x=.int i/\y=.int j/\Q (.int (f i j)) H
def mU:mL X .Add (mX λi j=>i+j):=by intro pins s σ H x y v u Q I r1 a h;obtain⟨i,j,b,c,q⟩:=h;subst b;subst c;obtain⟨t,rfl⟩:=r1;obtain⟨d,rfl⟩:=a;exact iadd_int ⟨.int _,H,I.tok _,⟨_,rfl⟩,q⟩
def yj:mL X .Sub (mX λi j=>i-j):=by intro pins s σ H x y v u Q I r1 a h;obtain⟨i,j,b,c,q⟩:=h;subst b;subst c;obtain⟨t,rfl⟩:=r1;obtain⟨d,rfl⟩:=a;exact isub_int ⟨.int _,H,I.tok _,⟨_,rfl⟩,q⟩
def Ea(c:TT)(tb:TS):TS:=λD σ H=>∃W:Nat->St->Hp->Prop,(∃m,W m σ H)/\∀m σ H,W m σ H ->
 c σ H λb H1=>if b=true then ∃N:St->Hp->Prop,(∀a H',N a H'->∃d,d<m/\W d a H')/\tb { D with nx:=N,ct:=N,bk:=D.nx } σ H1 else D.nx σ H1
def CB{c:Vk}{body:List Stmt}{tc:TT}{tb:TS}(q:PassesOwn (Vg X.prog X.w) X.A X.env X.xe)(x:PT X c tc)(hb:cR X body tb):PS X (.While c body [] pos) (Ea tc tb):=by
 intro pins s σ H D I h;obtain⟨W,⟨y,z⟩,turn⟩:=h;refine wpAny_While (codeAny_whileLoop (λn s'=>∃e H',Inv X pins e H' s'/\W n e H') ?_ y ⟨σ,H,I,z⟩);rintro n s1 ⟨d,H1,B,C⟩;refine wpAny_passesOwn q (aH (x pins s1 d H1 _ B (turn n d H1 C)) λb s2 ⟨H2,r,i⟩=>?_);cases b with
 | true=>
  obtain⟨N,u,i⟩:=i;rw[Ft rfl];refine wpAny_passesOwn q (aH (hb pins s2 d H2 _ r i) λf E j=>?_);cases f with
  | next=>
   obtain⟨a,g,k,l⟩:=j;obtain⟨m,o,p⟩:=u a g l;exact⟨m,o,a,g,k,p⟩
  | cont=>
   obtain⟨a,g,k,l⟩:=j;obtain⟨m,o,p⟩:=u a g l;exact⟨m,o,a,g,k,p⟩
  | brk=>exact j
  | ret v=>exact j
 | false=>
  rw[Fs EL];exact wpAny_execs_nil ⟨d,H2,r,i⟩
end
structure It where
 go:Nat->Hp->Prop
 yld:Nat->Hp->V->Hp->Prop
 stop:Nat->Hp->Prop
def cE(X:Cx)(pins:List (Vb×Obj))(H:Hp)(b:Vb):Prop:=
 H b=Vo/\b≠X.env.locals/\b∉X.fs/\(b∈X.ex\/X.s₀.heap.objs.size<=b)/\(∀x c,X.env.cells.lookup x=Vn c->c≠b)/\∀p∈X.pn++pins,p.1≠b
def Inv.fpOk{X:Cx}{σ:St}{H':Hp}{b:Vb}(I:Inv X pins σ H s)(hb:s.heap.objs.size<=b)(a:H' b=Vo):cE X pins H' b:=by
 refine⟨a,Nat.ne_of_gt (E3 I.lt hb),I.nofs hb,.inr (E4 I.sz hb),λx c e z=>?_,λp d z=>?_⟩
 .obtain⟨v,q⟩:=I.cell x c e;exact absurd (E3 q.lt (by rw[z];exact hb)) (Nat.lt_irrefl _)
 .exact absurd (E3 (Es (I.pin p d).1) (by rw[z];exact hb)) (Nat.lt_irrefl _)
structure Turn(P:Vd)(w:Ve)(K:Eo)(tg:Vk)(J:It)(fp:List Vb)(it:Vb)(tn:Nat->Vh->Prop):Prop where
 mem:it∈fp
 obj:∀i h,tn i h->∀b∈fp,∃o,h.get? b=Vn o/\∀v,o.data≠.cell v
 keep:∀i h h',tn i h->(∀b∈fp,∀o,h.get? b=Vn o->h'.get? b=Vn o)->tn i h'
 item:∀(X:Cx),X.prog=P->X.w=w->X.K=K->X.calm=true->∀(i:Nat) (pins:List (Vb×Obj)) (s:Vc) (σ:St) (H:Hp) (E:Va->Vc->Prop),Inv X pins σ H s->(∀b∈fp,cE X pins H b)->tn i s.heap->J.go i H ->
  Vf (Vg P w) X.A (pyNext (.ref it)) (λr s1=>∃u,r=Vn u ∧
   Vf (Vg P w) X.A (letOwnedTupleGo tg (.ref it) u) (λ_ s2=>∃x H',Inv X pins σ H' s2/\RelV x u/\J.yld i H x H'/\tn (i+1) s2.heap/\∀b∈fp,H' b=Vo) E s1) E s
 done:∀(X:Cx),X.prog=P->X.w=w->X.K=K->X.calm=true->∀(i:Nat) (pins:List (Vb×Obj)) (s:Vc) (σ:St) (H:Hp) (E:Va->Vc->Prop),Inv X pins σ H s->(∀b∈fp,cE X pins H b)->tn i s.heap->J.stop i H ->
  Vf (Vg P w) X.A (pyNext (.ref it)) (λr s1=>r=Vo/\Inv X pins σ H s1) E s
 self:∀(A:Vi) (i:Nat) (s:Vc) (Q:Va->Vc->Prop) (E:Va->Vc->Prop),tn i s.heap->Q (.ref it) s->Vf (Vg P w) A (pyIter (.ref it)) Q E s
abbrev TI:=St->Hp->(It->Hp->Prop)->Prop
def nX(X:Cx)(pins:List (Vb×Obj))(σ:St)(tg:Vk)(R:It->Hp->Prop)(a:Va)(s2:Vc):Prop:=
 ∃(it:Vb) (fp:List Vb) (tn:Nat->Vh->Prop) (J:It) (H':Hp),a=.ref it/\Inv X pins σ H' s2/\Turn X.prog X.w X.K tg J fp it tn/\tn 0 s2.heap/\(∀b∈fp,cE X pins H' b)/\R J H'
def PI(X:Cx)(tg iter:Vk)(a:TI):Prop:=
 ∀(pins:List (Vb×Obj)) (s:Vc) (σ:St) (H:Hp) (R:It->Hp->Prop),Inv X pins σ H s->a σ H R ->
  Vf (Vg X.prog X.w) X.A (eval iter X.env) (λv s1=>Vf (Vg X.prog X.w) X.A (pyIter v) (nX X pins σ tg R) X.xe s1) X.xe s
def kX {M : Model} {A : Vi} {E : Va -> Vc -> Prop} {s : Vc} {tg : Vk} {it : Vb} {u : Va} {o : Obj} {n : String} {vs : Array Va} {Q : Unit -> Vc -> Prop} (ho : s.heap.get? it = Vn o) (b : o.cls = .type n) (hd : o.data = .fields vs)
    (c : ["enumerate", "zip", "dict_itemiterator", "dict_reverseitemiterator", "odict_iterator", "itertools.zip_longest", "itertools.pairwise"].contains n = false) (a : Q () s) : Vf M A (letOwnedTupleGo tg (.ref it) u) Q E s := by
  unfold letOwnedTupleGo;cases tg <;> first
    | exact En a
    | (cases u <;> first
        | exact En a
        | (refine Em (wpAny_load ho ?_)
           rw [b, hd];show Vf M A (if (["enumerate", "zip", "dict_itemiterator", "dict_reverseitemiterator", "odict_iterator", "itertools.zip_longest", "itertools.pairwise"].contains n && vs[0]? == Vn (rawInt _)) = true then _ else _) Q E s;rw [Fs (by intro h; rw [c, Bool.false_and] at h; cases h)];exact En a))
def dJ(K:Eo)(a:Vb):It:=
 ⟨λi H=>∃xs x,ag K H a xs/\xs[i]?=Vn x,λi H x H'=>H'=H/\∀xs,ag K H a xs->xs[i]?=Vn x,λi H=>∃xs,ag K H a xs/\xs.length<=i⟩
def cZ(K:Eo)(a:Vb):It:=
 ⟨λi H=>∃xs x,ah K H a xs/\xs[i]?=Vn x,λi H x H'=>H'=H/\∀xs,ah K H a xs->xs[i]?=Vn x,λi H=>∃xs,ah K H a xs/\xs.length<=i⟩
def eI(lo:Int)(n:Nat):It:=⟨λi _=>i<n,λi H x H'=>H'=H/\x=.int (lo+i),λi _=>n<=i⟩
theorem Dd{K:Eo}(a it:Vb):Turn P w K tg (dJ K a) [it] it (λi h=>h.IsListIter it a i) where
 mem:=by simp
 obj:=λi h st b hb=>by
  have e:b=it:=by simpa using hb
  subst e;obtain⟨o,e,c,d⟩:=st;exact⟨o,e,λv z=>by rw[d]at z;cases z⟩
 keep:=λi h h' st k=>st.at λo e=>k it (by simp) o e
 item:=by intro X m n q M i pins s σ H E I j st r;subst m n q;obtain⟨xs,x,l,y⟩:=r;obtain⟨A,B,p,N⟩:=I.list l;obtain⟨u,O,Q⟩:=B.get y;obtain⟨C,F,R,G,J,L⟩:=j it (by simp);refine wpAny_pyNext_list_item st p.isList (x:=u) (by simpa using O) λh' g S=>?_;have T:Inv X pins σ H { s with heap:=h' }:=I.turned (t':=s.toks) (λb o hb e=>(S.2 b hb).trans e) C F G J L;obtain⟨o,e,c,d⟩:=id g;exact⟨u,rfl,kX (s:={ s with heap:=h' }) e c d (by decide) ⟨x,H,T,Q,⟨rfl,λys U=>by rw[I.list_inj U l];exact y⟩,g,λb hb=>(j b hb).1⟩⟩
 done:=by intro X m n q M i pins s σ H E I j st r;subst m n q;obtain⟨xs,l,y⟩:=r;obtain⟨A,B,p,N⟩:=I.list l;obtain⟨C,F,R,G,J,L⟩:=j it (by simp);have Y:=B.length;exact wpAny_pyNext_list_end (I.ok.hd M) st p.isList (by simp;lia) λh' W=>⟨rfl,I.turned (t':=s.toks) (λb o hb e=>W b o hb e) C F G J L⟩
 self:=λ_ _ _ _ _ st h=>wpAny_pyIter_listiter st h
theorem CD{K:Eo}(a it:Vb):Turn P w K tg (cZ K a) [it] it (λi h=>h.IsTupleIter it a i) where
 mem:=by simp
 obj:=λi h st b hb=>by
  have e:b=it:=by simpa using hb
  subst e;obtain⟨o,e,c,d⟩:=st;exact⟨o,e,λv z=>by rw[d]at z;cases z⟩
 keep:=λi h h' st k=>st.at λo e=>k it (by simp) o e
 item:=by intro X n q r M i pins s σ H E I l st y;subst n q r;obtain⟨xs,x,m,A⟩:=y;obtain⟨g,B,p,N⟩:=I.tuple m;obtain⟨u,O,Q⟩:=B.get A;obtain⟨C,F,R,G,J,L⟩:=l it (by simp);refine wpAny_pyNext_tuple_item st (show s.heap.IsTuple a g.toArray from p) (x:=u) (by simpa using O) λh' j S=>?_;have T:Inv X pins σ H { s with heap:=h' }:=I.turned (t':=s.toks) (λb o hb e=>(S.2 b hb).trans e) C F G J L;obtain⟨o,e,c,d⟩:=id j;exact⟨u,rfl,kX (s:={ s with heap:=h' }) e c d (by decide) ⟨x,H,T,Q,⟨rfl,λys U=>by rw[I.tuple_inj U m];exact A⟩,j,λb hb=>(l b hb).1⟩⟩
 done:=by intro X n q r M i pins s σ H E I l st y;subst n q r;obtain⟨xs,m,A⟩:=y;obtain⟨g,B,p,N⟩:=I.tuple m;obtain⟨C,F,R,G,J,L⟩:=l it (by simp);have Y:=B.length;exact wpAny_pyNext_tuple_end (I.ok.hd M) st (show s.heap.IsTuple a g.toArray from p) (by simp;lia) λh' W=>⟨rfl,I.turned (t':=s.toks) (λb o hb e=>W b o hb e) C F G J L⟩
 self:=λ_ _ _ _ _ st h=>wpAny_pyIter_tupleiter st h
theorem Ck{K:Eo}(it:Vb)(lo:Int)(n:Nat):Turn P w K tg (eI lo n) [it] it (λi h=>IsRangeIter h it (lo+(i:Nat)*1) ((n:Int)-(i:Nat)) 1) where
 mem:=by simp
 obj:=λi h st b hb=>by
  have e:b=it:=by simpa using hb
  subst e;exact⟨_,st,λv z=>by have y:Data.fields _=Data.cell v:=z;cases y⟩
 keep:=λi h h' st k=>k it (by simp) _ st
 item:=by intro X d g j l i pins s σ H E I c st m;subst d g j;obtain⟨p,q,A,r,u,x⟩:=c it (by simp);have W:=Walks.range (prog:=X.prog) (w:=X.w) (I.ok.hd l) it lo 1 n;refine W.item i s _ _ m st λv h' tk B a C=>?_;obtain⟨t,rfl⟩:=B;have F:Inv X pins σ H { s with heap:=h',toks:=tk }:=I.turned (λb o hb e=>C b o (by simpa using hb) e) p q r u x;refine⟨_,rfl,kX (s:={ s with heap:=h',toks:=tk }) (n:="range_iterator") a rfl rfl (by decide) ⟨.int (lo+i),H,F,⟨t,?_⟩,⟨rfl,rfl⟩,a,λb hb=>(c b hb).1⟩⟩;rw[Int.mul_one]
 done:=by intro X d g j l i pins s σ H E I c st m;subst d g j;obtain⟨p,q,A,r,u,x⟩:=c it (by simp);exact wpAny_pyNext_range_end (I.ok.hd l) st (by have:n<=i:=m;lia) λh' G=>⟨rfl,I.turned (t':=s.toks) (λb o hb e=>G b o hb e) p q r u x⟩
 self:=λ_ _ _ _ _ st h=>wpAny_pyIter_rangeiter st h
section
variable {X:Cx} {tg:Vk}
def nO(K:Eo)(tl:TE):TI:=λσ H R=>tl σ H λx H1=>∃a,x=.ref a/\(∃xs,ag K H1 a xs)/\R (dJ K a) H1
def m8(K:Eo)(tl:TE):TI:=λσ H R=>tl σ H λx H1=>∃a,x=.ref a/\(∃xs,ah K H1 a xs)/\R (cZ K a) H1
def Cc{l:Vk}{tl:TE}(d:PE X l tl):PI X tg l (nO X.K tl):=by
 intro pins s σ H R I h;refine aH (d pins s σ H _ I h) λv s1 ⟨x,H1,c,r1,g⟩=>?_;obtain⟨a,e,⟨xs,i⟩,q⟩:=g;subst e;cases r1;obtain⟨j,k,p,m⟩:=c.list i;refine wpAny_pyIter_list p.isList ?_;refine⟨s1.heap.objs.size,[s1.heap.objs.size],_,_,H1,rfl,c.kept (t':=s1.toks) λb o e=>Ep _ e,Dd a _,⟨_,Er _ rfl,rfl,rfl⟩,λb hb=>?_,q⟩;have e:b=s1.heap.objs.size:=by simpa using hb
 subst e;exact c.fpOk (ER _) (c.hok.fresh (ER _))
def zg{l:Vk}{tl:TE}(g:PE X l tl):PI X tg l (m8 X.K tl):=by
 intro pins s σ H R I h;refine aH (g pins s σ H _ I h) λv s1 ⟨x,H1,c,r1,i⟩=>?_;obtain⟨a,e,⟨xs,j⟩,q⟩:=i;subst e;cases r1;obtain⟨d,k,p,m⟩:=c.tuple j;refine wpAny_pyIter_tuple (show s1.heap.IsTuple a d.toArray from p) ?_;refine⟨s1.heap.objs.size,[s1.heap.objs.size],_,_,H1,rfl,c.kept (t':=s1.toks) λb o e=>Ep _ e,CD a _,⟨_,Er _ rfl,rfl,rfl⟩,λb hb=>?_,q⟩;have e:b=s1.heap.objs.size:=by simpa using hb
 subst e;exact c.fpOk (ER _) (c.hok.fresh (ER _))
theorem qF{σ:St}{R:It->Hp->Prop}{lo hi:Int}{t u v:Tok}{tk:Nat}(I:Inv X pins σ H s)(h1:-(2 ^ 62)<=lo)(h2:lo<2 ^ 62)(c:-(2 ^ 62)<=hi)(d:hi<2 ^ 62)
  (q:R (eI lo (hi-lo).toNat) H):Vf (Vg X.prog X.w) X.A (pyIter (.ref s.heap.objs.size)) (nX X pins σ tg R) E { s with heap:=s.heap.push { cls:=.type "range",data:=.fields #[.int lo t,.int hi u,.int 1 v] },toks:=tk }:=by
 refine wpAny_pyIter_range (IsRange.new ..) (small_one h1 h2 c d) ?_;have a:Inv X pins σ H { s with heap:=s.heap.push { cls:=.type "range",data:=.fields #[.int lo t,.int hi u,.int 1 v] },toks:=tk }:=I.kept λb o e=>Ep _ e;refine⟨(s.heap.push { cls:=.type "range",data:=.fields #[.int lo t,.int hi u,.int 1 v] }).objs.size,[(s.heap.push { cls:=.type "range",data:=.fields #[.int lo t,.int hi u,.int 1 v] }).objs.size],_,_,H,rfl,
  a.kept (t':=tk) λb o e=>Ep _ e,Ck _ lo (hi-lo).toNat,?_,λb hb=>?_,q⟩
 .have g:lo+((0:Nat):Int)*1=lo:=by simp
  have h:(((hi-lo).toNat:Nat):Int)-((0:Nat):Int)=Builtin.Range.rangeSize lo hi 1:=by rw[rangeSize_one];split<;>lia
  show IsRangeIter _ _ (lo+((0:Nat):Int)*1) ((((hi-lo).toNat:Nat):Int)-((0:Nat):Int)) 1;rw[g,h];exact Er _ rfl
 .have e:b=(s.heap.push { cls:=.type "range",data:=.fields #[.int lo t,.int hi u,.int 1 v] }).objs.size:=by simpa using hb
  subst e;exact a.fpOk (ER _) (a.hok.fresh (ER _))
def wR(ta:TA):TI:=λσ H R=>ta σ H λvs H1=>∃j:Int,vs=[.int j]/\-(2 ^ 62)<=j/\j<2 ^ 62/\R (eI 0 j.toNat) H1
def rT(ta:TA):TI:=λσ H R=>ta σ H λvs H1=>∃i j:Int,vs=[.int i,.int j]/\(-(2 ^ 62)<=i/\i<2 ^ 62/\-(2 ^ 62)<=j/\j<2 ^ 62)/\R (eI i (j-i).toNat) H1
theorem cM{ta:TA}{p pos:Pos}(c:Gl X "range")(d:X.mg "range" = Vo)(ha:PA X [a] ta)(hs:starEach [a] X.env=[(false,eval a X.env)]:=by rfl):PI X tg (.Call (.Name "range" p) [a] [] pos) (wR ta):=by
 intro pins s σ H R I h;refine Call_ (fQ I c d boot_range (PyProof.Rows.callWith_type1 (aH (ha pos pins s σ H _ I h) λus s1 ⟨vs,H1,g,r1,b⟩=>?_) hs rfl));obtain⟨j,e,b,i,q⟩:=b;subst e;cases r1 with
 | cons r k=>
  cases k;obtain⟨t,rfl⟩:=r;exact call_range_1 (qF g (by lia) (by lia) b i (by simpa using q))
def Dv{b:Vk}{ta:TA}{p pos:Pos}(k:Gl X "range")(l:X.mg "range" = Vo)(ha:PA X [a,b] ta)(hs:starEach [a,b] X.env=[(false,eval a X.env),(false,eval b X.env)]:=by rfl)(c:starEach [b] X.env=[(false,eval b X.env)]:=by rfl):
  PI X tg (.Call (.Name "range" p) [a,b] [] pos) (rT ta):=by
 intro pins s σ H R I h;refine Call_ (fQ I k l boot_range (PyProof.Rows.callWith_type1 (aH (ha pos pins s σ H _ I h) λus s1 ⟨vs,H1,m,r1,d⟩=>?_) (by rw[hs,c]) (by rw[c];rfl)));obtain⟨i,j,e,⟨d,n,o,u⟩,q⟩:=d;subst e;cases r1 with
 | cons r g=>
  cases g with
  | cons v g=>
   cases g;obtain⟨t,rfl⟩:=r;obtain⟨w,rfl⟩:=v;exact call_range_2 (qF m d n o u q)
def tK(d:TI)(g:TG)(tb:TS):TS:=λD σ H=>d σ H λJ H1=>∃W:Nat->Nat->St->Hp->Prop,(∃m,W 0 m σ H1)/\∀i m σ H,W i m σ H ->
 (J.stop i H/\D.nx σ H)\/(J.go i H/\∃N:St->Hp->Prop,(∀a H',N a H'->∃c,c<m/\W (i+1) c a H')/\∀x H',J.yld i H x H'->g x σ H' λb H2=>tb { D with nx:=N,ct:=N,bk:=D.nx } b H2)
def gW(fp:List Vb)(h:Vh):List (Vb×Obj):=fp.filterMap λb=>(h.get? b).map λo=>(b,o)
def mG{b:Vb}{o:Obj}(hb:b∈fp)(e:h.get? b=Vn o):(b,o)∈gW fp h:=List.mem_filterMap.mpr ⟨b,hb,by rw[e];rfl⟩
def sV{p:Vb×Obj}(a:p∈gW fp h):p.1∈fp/\h.get? p.1=Vn p.2:=by
 obtain⟨b,hb,e⟩:=List.mem_filterMap.mp a;cases q:h.get? b with
 | none=>rw[q]at e;cases e
 | some o=>
  rw[q]at e;have e':(b,o)=p:=Fc e;subst e';exact⟨hb,q⟩
def Inv.pinned{σ:St}(I:Inv X pins σ H s)(a:∀b∈fp,cE X pins H b)(ho:∀b∈fp,∃o,s.heap.get? b=Vn o/\∀v,o.data≠.cell v):Inv X (pins++gW fp s.heap) σ H s:=
 I.pins_of λp c=>(EU.mp c).elim (λz=>I.pin p (Fd _ z)) λz=>by obtain⟨hb,e⟩:=sV z;obtain⟨g,h,i,_⟩:=a p.1 hb;obtain⟨o,e',d⟩:=ho p.1 hb;rw[e]at e';cases e';exact⟨e,g,h,i,d⟩
def Inv.unpinned{a:List (Vb×Obj)}{σ:St}(I:Inv X (pins++a) σ H s):Inv X pins σ H s:=I.pins_of λp b=>I.pin p (Fd _ (Fe _ b))
def bt{iter:Vk}{body:List Stmt}{Q:TI}{g:TG}{tb:TS}{pos:Pos}(y:PassesOwn (Vg X.prog X.w) X.A X.env X.xe)(R:X.calm=true)(hi:PI X tg iter Q)(hg:PG X tg g)(hb:cR X body tb)
  (hs:∀x,foldedSetIterable iter X.env x=pure x:=by intro _;rfl):PS X (.For tg iter body [] pos) (tK Q g tb):=by
 intro pins s σ H D I h;refine wpAny_For (aH (hi pins s σ H _ I h) λv s1 h1=>aH h1 λa1 s2 h2=>?_) hs;obtain⟨it,fp,tn,J,H2,e,I2,T,F,S,W,⟨m0,w0⟩,turn⟩:=h2;subst e;have stat:∀{H':Hp},(∀b∈fp,H' b=Vo)->∀b∈fp,cE X pins H' b:=λhn b hb=>⟨hn b hb,(S b hb).2⟩;refine codeAny_forLoop_any (λn s'=>∃i c H',Inv X pins c H' s'/\tn i s'.heap/\(∀b∈fp,H' b=Vo)/\W i n c H') ?_ m0 ⟨0,σ,H2,I2,F,λb hb=>(S b hb).1,w0⟩;rintro n U ⟨i,j,E,Y,z,B,w3⟩;rcases turn i n j E w3 with⟨stop,qn⟩|⟨go,N,hN,step⟩
 .refine wpAny_passesOwn y (aH (T.done X rfl rfl rfl R i pins U j E X.xe Y (stat B) z stop) λr s4 ⟨G,I4⟩=>?_);subst G;exact wpAny_execs_nil ⟨j,E,I4,qn⟩
 .refine wpAny_passesOwn y (aH (T.item X rfl rfl rfl R i pins U j E X.xe Y (stat B) z go) λr s4 ⟨u,G,h4⟩=>?_);subst G;refine wpAny_passesOwn y (aH h4 λ_ Z ⟨x,H5,I5,r5,y5,q,L⟩=>?_);have M:=I5.pinned (stat L) (T.obj _ _ q);refine wpAny_passesOwn y (aH (hg _ Z j H5 x u _ M r5 (step x H5 y5)) λ_ s6 ⟨O,H6,I6,q6⟩=>?_);refine wpAny_passesOwn y (aH (hb _ s6 O H6 _ I6 q6) λf P p=>?_);have again:∀{a:St} {k:Hp},Inv X (pins++gW fp Z.heap) a k P->N a k->∃m,m<n/\∃i c H',Inv X pins c H' P/\tn i P.heap/\(∀b∈fp,H' b=Vo)/\W i m c H':=λ{a k} l C=>by obtain⟨m',hm,w7⟩:=hN a k C;refine⟨m',hm,i+1,a,k,l.unpinned,T.keep _ _ _ q λb hb o e=>(l.pin (b,o) (Fd _ (Fd _ (mG hb e)))).1,λb hb=>?_,w7⟩;obtain⟨o,e,d⟩:=T.obj _ _ q b hb;exact(l.pin (b,o) (Fd _ (Fd _ (mG hb e)))).2.1
  cases f with
  | next=>obtain⟨a,k,l,C⟩:=p;exact again l C
  | cont=>obtain⟨a,k,l,C⟩:=p;exact again l C
  | brk=>obtain⟨a,k,l,p⟩:=p;exact⟨a,k,l.unpinned,p⟩
  | ret v=>obtain⟨x7,a,k,l,r7,p⟩:=p;exact⟨x7,a,k,l.unpinned,r7,p⟩
end
theorem Bl{K:Eo}{a:Vb}{xs:List V}{g:TG}{tb:TS}{D:Ends}{σ:St}(Pv:Nat->St->Hp->Prop)(h:Pv 0 σ H)(j:∀i σ H,i<=xs.length->Pv i σ H->ag K H a xs)
  (hs:∀i x σ H,xs[i]?=Vn x->Pv i σ H->g x σ H λb H2=>tb { D with nx:=Pv (i+1),ct:=Pv (i+1),bk:=D.nx } b H2) (hd:∀σ H,Pv xs.length σ H->D.nx σ H) :
  ∃W:Nat->Nat->St->Hp->Prop,(∃m,W 0 m σ H)/\∀i m σ H,W i m σ H ->
   ((dJ K a).stop i H/\D.nx σ H)\/((dJ K a).go i H/\∃N:St->Hp->Prop,(∀c H',N c H'->∃d,d<m/\W (i+1) d c H')/\∀x H',(dJ K a).yld i H x H'->g x σ H' λb H2=>tb { D with nx:=N,ct:=N,bk:=D.nx } b H2):=by
 refine⟨λi m σ H=>m=xs.length-i/\i<=xs.length/\Pv i σ H,⟨xs.length,by simp,Nat.zero_le _,h⟩,?_⟩;rintro i m σ H ⟨rfl,hi,p⟩;have q:=j i σ H hi p;by_cases hlt:i<xs.length
 .refine .inr ⟨⟨xs,xs[i],q,by simp[hlt]⟩,Pv (i+1),λc H' k=>⟨xs.length-(i+1),by lia,rfl,hlt,k⟩,λx H' y=>?_⟩;obtain⟨e,y⟩:=y;subst e;exact hs i x σ _ (y xs q) p
 .have e:i=xs.length:=by lia
  subst e;exact .inl ⟨⟨xs,q,ER _⟩,hd σ H p⟩
theorem Be{K:Eo}{a:Vb}{xs:List V}{g:TG}{tb:TS}{D:Ends}{σ:St}(Pv:Nat->St->Hp->Prop)(h:Pv 0 σ H)(j:∀i σ H,i<=xs.length->Pv i σ H->ah K H a xs)
  (hs:∀i x σ H,xs[i]?=Vn x->Pv i σ H->g x σ H λb H2=>tb { D with nx:=Pv (i+1),ct:=Pv (i+1),bk:=D.nx } b H2) (hd:∀σ H,Pv xs.length σ H->D.nx σ H) :
  ∃W:Nat->Nat->St->Hp->Prop,(∃m,W 0 m σ H)/\∀i m σ H,W i m σ H ->
   ((cZ K a).stop i H/\D.nx σ H)\/((cZ K a).go i H/\∃N:St->Hp->Prop,(∀c H',N c H'->∃d,d<m/\W (i+1) d c H')/\∀x H',(cZ K a).yld i H x H'->g x σ H' λb H2=>tb { D with nx:=N,ct:=N,bk:=D.nx } b H2):=by
 refine⟨λi m σ H=>m=xs.length-i/\i<=xs.length/\Pv i σ H,⟨xs.length,by simp,Nat.zero_le _,h⟩,?_⟩;rintro i m σ H ⟨rfl,hi,p⟩;have q:=j i σ H hi p;by_cases hlt:i<xs.length
 .refine .inr ⟨⟨xs,xs[i],q,by simp[hlt]⟩,Pv (i+1),λc H' k=>⟨xs.length-(i+1),by lia,rfl,hlt,k⟩,λx H' y=>?_⟩;obtain⟨e,y⟩:=y;subst e;exact hs i x σ _ (y xs q) p
 .have e:i=xs.length:=by lia
  subst e;exact .inl ⟨⟨xs,q,ER _⟩,hd σ H p⟩
theorem yb{lo:Int}{g:TG}{tb:TS}{D:Ends}{σ:St}(Pv:Nat->St->Hp->Prop)(d:Pv 0 σ H)
  (hs:∀i σ H,i<n->Pv i σ H->g (.int (lo+i)) σ H λa H2=>tb { D with nx:=Pv (i+1),ct:=Pv (i+1),bk:=D.nx } a H2) (hd:∀σ H,Pv n σ H->D.nx σ H) :
  ∃W:Nat->Nat->St->Hp->Prop,(∃m,W 0 m σ H)/\∀i m σ H,W i m σ H ->
   ((eI lo n).stop i H/\D.nx σ H)\/((eI lo n).go i H/\∃N:St->Hp->Prop,(∀b H',N b H'->∃c,c<m/\W (i+1) c b H')/\∀x H',(eI lo n).yld i H x H'->g x σ H' λa H2=>tb { D with nx:=N,ct:=N,bk:=D.nx } a H2):=by
 refine⟨λi m σ H=>m=n-i/\i<=n/\Pv i σ H,⟨n,by simp,Nat.zero_le _,d⟩,?_⟩;rintro i m σ H ⟨rfl,hi,p⟩;by_cases hlt:i<n
 .refine .inr ⟨hlt,Pv (i+1),λb H' h=>⟨n-(i+1),by lia,rfl,hlt,h⟩,λx H' y=>?_⟩;obtain⟨e,y⟩:=y;subst e y;exact hs i σ _ hlt p
 .have e:i=n:=by lia
  subst e;exact .inl ⟨ER _,hd σ H p⟩
abbrev R2:=V->V->Hp->VK->Prop
def bF(X:Cx)(f:Va->Va->Sem Va)(r:R2):Prop:=
 ∀(pins:List (Vb×Obj)) (s:Vc) (σ:St) (H:Hp) (x y:V) (v u:Va) (Q:VK),Inv X pins σ H s->RelV x v->RelV y u->r x y H Q ->
  Vf (Vg X.prog X.w) X.A (f v u) (EP X pins σ Q) X.xe s
def mV(X:Cx)(f:Va->Sem Va)(r:V->Hp->VK->Prop):Prop:=
 ∀(pins:List (Vb×Obj)) (s:Vc) (σ:St) (H:Hp) (x:V) (v:Va) (Q:VK),Inv X pins σ H s->RelV x v->r x H Q ->
  Vf (Vg X.prog X.w) X.A (f v) (EP X pins σ Q) X.xe s
def cB(X:Cx)(f:Va)(r:List V->Hp->VK->Prop):Prop:=
 ∀(pins:List (Vb×Obj)) (s:Vc) (σ:St) (H:Hp) (xs:List V) (us:List Va) (Q:VK),Inv X pins σ H s->Vals xs us->r xs H Q ->
  Vf (Vg X.prog X.w) X.A (call f us) (EP X pins σ Q) X.xe s
def iQ(r:R2)(ta tb:TE):TE:=λσ H Q=>ta σ H λx H1=>tb σ H1 λy H2=>r x y H2 Q
def tT(r:V->Hp->VK->Prop)(ta:TE):TE:=λσ H Q=>ta σ H λx H1=>r x H1 Q
def rI(C:Int->Int->Prop)(g:Int->Int->V):R2:=λx y H Q=>∃i j,x=.int i/\y=.int j/\C i j/\Q (g i j) H
def gD(g:Int->Int->V):R2:=λx y H Q=>∃i j,x=.int i/\y=.int j/\Q (g i j) H
def rU(g:Int->V):V->Hp->VK->Prop:=λx H Q=>∃i,x=.int i/\Q (g i) H
section
variable {X:Cx} {a b c:Vk} {ta tb tc:TE} {pos:Pos}
def l3(ha:PE X a ta)(hb:PE X b tb){σ:St}{R:V->V->Hp->Prop}(I:Inv X pins σ H s)
  (h:ta σ H λx H1=>tb σ H1 λy H2=>R x y H2) {Q:Va->Vc->Prop} {f:Va->Va->Sem Va}
  (e:∀v u s2 x y H2,Inv X pins σ H2 s2->RelV x v->RelV y u->R x y H2->Vf (Vg X.prog X.w) X.A (f v u) Q X.xe s2) :
  Vf (Vg X.prog X.w) X.A (eval a X.env) (λv c=>Vf (Vg X.prog X.w) X.A (eval b X.env) (λu d=>Vf (Vg X.prog X.w) X.A (f v u) Q X.xe d) X.xe c) X.xe s:=by
 refine aH (ha pins s σ H _ I h) λv s1 ⟨x,H1,g,r1,i⟩=>?_;refine aH (hb pins s1 σ H1 _ g i) λu s2 ⟨y,H2,j,k,l⟩=>?_;exact e v u s2 x y H2 j r1 k l
def aA{op:Operator}{r:R2}(ho:bF X (binaryOp op) r)(ha:PE X a ta)(hb:PE X b tb):PE X (.BinOp a op b pos) (iQ r ta tb):=by intro pins s σ H Q I h;exact wpAny_BinOp (l3 ha hb I h λv u s2 x y H2 c d e q=>ho pins s2 σ H2 x y v u Q c d e q)
def gR{op:UnaryOp}{r:V->Hp->VK->Prop}(ho:mV X (unaryOp op) r)(ha:PE X a ta):PE X (.UnaryOp op a pos) (tT r ta):=by intro pins s σ H Q I h;exact UnaryOp_ (aH (ha pins s σ H _ I h) λv s1 ⟨x,H1,b,r1,c⟩=>ho pins s1 σ H1 x v Q b r1 c)
def lE{f:Va->Va->Sem Va}{C:Int->Int->Prop}{g:Int->Int->Int}
  (rule:∀(i j:Int) (t u:Tok) (s:Vc) (Q:Va->Vc->Prop) (E:Va->Vc->Prop),C i j->Q (.int (g i j) s.toks) { s with toks:=s.toks+1 }->Vf (Vg X.prog X.w) X.A (f (.int i t) (.int j u)) Q E s) :
  bF X f (rI C λi j=>.int (g i j)):=by
 intro pins s σ H x y v u Q I a b h;obtain⟨i,j,rfl,rfl,c,q⟩:=h;obtain⟨t,rfl⟩:=a;obtain⟨d,rfl⟩:=b;exact rule i j t d s _ _ c ⟨.int (g i j),H,I.tok _,⟨_,rfl⟩,q⟩
def rL{f:Va->Va->Sem Va}{g:Int->Int->Int}
  (rule:∀(i j:Int) (t u:Tok) (s:Vc) (Q:Va->Vc->Prop) (E:Va->Vc->Prop),Q (.int (g i j) s.toks) { s with toks:=s.toks+1 }->Vf (Vg X.prog X.w) X.A (f (.int i t) (.int j u)) Q E s) :
  bF X f (gD λi j=>.int (g i j)):=by
 intro pins s σ H x y v u Q I a b h;obtain⟨i,j,rfl,rfl,q⟩:=h;obtain⟨t,rfl⟩:=a;obtain⟨c,rfl⟩:=b;exact rule i j t c s _ _ ⟨.int (g i j),H,I.tok _,⟨_,rfl⟩,q⟩
def k9{f:Va->Va->Sem Va}{g:Int->Int->Bool}
  (rule:∀(i j:Int) (t u:Tok) (s:Vc) (Q:Va->Vc->Prop) (E:Va->Vc->Prop),Q (.bool (g i j)) s->Vf (Vg X.prog X.w) X.A (f (.int i t) (.int j u)) Q E s) :
  bF X f (gD λi j=>.bl (g i j)):=by
 intro pins s σ H x y v u Q I a b h;obtain⟨i,j,rfl,rfl,q⟩:=h;obtain⟨t,rfl⟩:=a;obtain⟨c,rfl⟩:=b;exact rule i j t c s _ _ ⟨.bl (g i j),H,I,rfl,q⟩
def uY(i j:Int):Prop:=0<=j/\j<=1000000/\i.natAbs<2 ^ 64
def jm(i j:Int):Prop:=(-(2 ^ 64)<i/\i<2 ^ 64)\/(-(2 ^ 64)<j/\j<2 ^ 64)
def jm.ok{i j:Int}(h:jm i j):IntMulOk i j:=by
 rcases h with⟨h1,h2⟩|⟨h1,h2⟩
 .exact .of_left (intBits_le_64 h1 h2)
 .exact .of_right (intBits_le_64 h1 h2)
def aV:bF X (binaryOp .Add) (gD λi j=>.int (i+j)):=rL λ_ _ _ _ _ _ _ q=>add_int q
def de:bF X (binaryOp .Sub) (gD λi j=>.int (i-j)):=rL λ_ _ _ _ _ _ _ q=>sub_int q
def eJ:bF X (binaryOp .Mult) (rI jm λi j=>.int (i*j)):=lE λ_ _ _ _ _ _ _ a q=>mul_int q a.ok
theorem cw:bF X (binaryOp .Mod) (rI (λ_ j=>0<j) λi j=>.int (i % j)):=lE λi j _ _ _ _ _ a q=>by have h1:(0:Int)<j:=a;exact mod_int' (by lia) (by rw[Int.fmod_eq_emod_of_nonneg i (by lia)];exact q)
def jw:bF X (binaryOp .Pow) (rI uY λi j=>.int (i ^ j.toNat)):=lE λ_ _ _ _ _ _ _ a q=>pow_int_small a.1 a.2.1 a.2.2 q
def xX{f:Va->Sem Va}{g:Int->Int}
  (rule:∀(i:Int) (t:Tok) (s:Vc) (Q:Va->Vc->Prop) (E:Va->Vc->Prop),Q (.int (g i) s.toks) { s with toks:=s.toks+1 }->Vf (Vg X.prog X.w) X.A (f (.int i t)) Q E s) :
  mV X f (rU λi=>.int (g i)):=by
 intro pins s σ H x v Q I a h;obtain⟨i,rfl,q⟩:=h;obtain⟨t,rfl⟩:=a;exact rule i t s _ _ ⟨.int (g i),H,I.tok _,⟨_,rfl⟩,q⟩
def gY:mV X (unaryOp .USub) (rU λi=>.int (-i)):=xX λ_ _ _ _ _ q=>neg_int q
end
def uK:V->V->Bool
 | .non,.non=>true|.non,.int _=>true|.int _,.non=>true|.non,.bl _=>true|.bl _,.non=>true|.non,.str _=>true|.str _,.non=>true
 | .int _,.int _=>true|.bl _,.bl _=>true|.str _,.str _=>true|.byt _,.byt _=>true
 | .int _,.str _=>true|.str _,.int _=>true|.bl _,.str _=>true|.str _,.bl _=>true
 | _,_=>false
def kZ:R2:=λx y H Q=>uK x y=true/\Q (.bl (decide (x=y))) H
def nh:R2:=λx y H Q=>uK x y=true/\Q (.bl (!decide (x=y))) H
def rB{i j:Int}:decide (V.int i=V.int j)=(i == j):=by rw[E8];simp
def mR{i j:Bool}:decide (V.bl i=V.bl j)=(i == j):=by rw[E8];simp
def jA{i j:Vm}:decide (V.str i=V.str j)=(i == j):=by rw[E8];simp
def v7{i j:Array UInt8}:decide (V.byt i=V.byt j)=(i.toList == j.toList):=by rw[E8];cases i;cases j;simp
section
variable {X:Cx} {a b c:Vk} {ta tb tc:TE} {pos:Pos}
def bE{σ:St}{Q:VK}{k a:Bool}(I:Inv X pins σ H s)(q:Q (.bl k) H)(e:k=a):EP X pins σ Q (.bool a) s:=by subst e;exact⟨.bl k,H,I,rfl,q⟩
def bH:bF X (compareOp .Eq) kZ:=by
 intro pins s σ H x y v u Q I c a h;obtain⟨hs,q⟩:=h;cases x with
 | non=>
  cases c;cases y with
  | non=>cases a;exact PySem.EqNone.eq_none_none (bE I q (by simp))
  | bl j=>cases a;exact PySem.EqNone.eq_none_bool (bE I q (by simp))
  | int j=>obtain⟨b,rfl⟩:=a;exact PySem.EqNone.eq_none_int (bE I q (by simp))
  | str j=>obtain⟨b,rfl⟩:=a;exact PySem.EqNone.eq_none_str (bE I q (by simp))
  | _=>exact absurd (show false=true from hs) EL
 | bl i=>
  cases c;cases y with
  | non=>cases a;exact PySem.EqNone.eq_bool_none (bE I q (by simp))
  | bl j=>cases a;exact eq_bool (bE I q mR)
  | str j=>obtain⟨b,rfl⟩:=a;exact PySem.EqMixed.eq_bool_str (bE I q (by simp))
  | _=>exact absurd (show false=true from hs) EL
 | int i=>
  obtain⟨t,rfl⟩:=c;cases y with
  | non=>cases a;exact PySem.EqNone.eq_int_none (bE I q (by simp))
  | int j=>obtain⟨b,rfl⟩:=a;exact eq_int (bE I q rB)
  | str j=>obtain⟨b,rfl⟩:=a;exact PySem.EqMixed.eq_int_str (bE I q (by simp))
  | _=>exact absurd (show false=true from hs) EL
 | str i=>
  obtain⟨t,rfl⟩:=c;cases y with
  | non=>cases a;exact PySem.EqNone.eq_str_none (bE I q (by simp))
  | bl j=>cases a;exact PySem.EqMixed.eq_str_bool (bE I q (by simp))
  | int j=>obtain⟨b,rfl⟩:=a;exact PySem.EqMixed.eq_str_int (bE I q (by simp))
  | str j=>obtain⟨b,rfl⟩:=a;exact eq_str (bE I q jA)
  | _=>exact absurd (show false=true from hs) EL
 | byt i=>
  obtain⟨t,rfl⟩:=c;cases y with
  | byt j=>obtain⟨b,rfl⟩:=a;exact PySem.W.eq_bytes (bE I q v7)
  | _=>exact absurd (show false=true from hs) EL
 | _=>cases y<;>exact absurd (show false=true from hs) EL
def dY:bF X (compareOp .NotEq) nh:=by
 intro pins s σ H x y v u Q I c a h;obtain⟨hs,q⟩:=h;cases x with
 | non=>
  cases c;cases y with
  | non=>cases a;exact PySem.EqNone.ne_none_none (bE I q (by simp))
  | bl j=>cases a;exact PySem.EqNone.ne_none_bool (bE I q (by simp))
  | int j=>obtain⟨b,rfl⟩:=a;exact PySem.EqNone.ne_none_int (bE I q (by simp))
  | str j=>obtain⟨b,rfl⟩:=a;exact PySem.EqNone.ne_none_str (bE I q (by simp))
  | _=>exact absurd (show false=true from hs) EL
 | bl i=>
  cases c;cases y with
  | non=>cases a;exact PySem.EqNone.ne_bool_none (bE I q (by simp))
  | bl j=>cases a;exact ne_bool (bE I q (congrArg not mR))
  | str j=>obtain⟨b,rfl⟩:=a;exact PySem.EqMixed.ne_bool_str (bE I q (by simp))
  | _=>exact absurd (show false=true from hs) EL
 | int i=>
  obtain⟨t,rfl⟩:=c;cases y with
  | non=>cases a;exact PySem.EqNone.ne_int_none (bE I q (by simp))
  | int j=>obtain⟨b,rfl⟩:=a;exact ne_int (bE I q (congrArg not rB))
  | str j=>obtain⟨b,rfl⟩:=a;exact PySem.EqMixed.ne_int_str (bE I q (by simp))
  | _=>exact absurd (show false=true from hs) EL
 | str i=>
  obtain⟨t,rfl⟩:=c;cases y with
  | non=>cases a;exact PySem.EqNone.ne_str_none (bE I q (by simp))
  | bl j=>cases a;exact PySem.EqMixed.ne_str_bool (bE I q (by simp))
  | int j=>obtain⟨b,rfl⟩:=a;exact PySem.EqMixed.ne_str_int (bE I q (by simp))
  | str j=>obtain⟨b,rfl⟩:=a;exact ne_str (bE I q (congrArg not jA))
  | _=>exact absurd (show false=true from hs) EL
 | byt i=>
  obtain⟨t,rfl⟩:=c;cases y with
  | byt j=>obtain⟨b,rfl⟩:=a;exact PySem.W.ne_bytes (bE I q (congrArg not v7))
  | _=>exact absurd (show false=true from hs) EL
 | _=>cases y<;>exact absurd (show false=true from hs) EL
def dj:bF X (compareOp .Lt) (gD λi j=>.bl (decide (i<j))):=k9 λ_ _ _ _ _ _ _ q=>lt_int q
def fu:bF X (compareOp .LtE) (gD λi j=>.bl (decide (i<=j))):=k9 λ_ _ _ _ _ _ _ q=>le_int q
def eB:bF X (compareOp .Gt) (gD λi j=>.bl (decide (j<i))):=k9 λ_ _ _ _ _ _ _ q=>gt_int q
def lK:bF X (compareOp .GtE) (gD λi j=>.bl (decide (j<=i))):=k9 λ_ _ _ _ _ _ _ q=>ge_int q
def AK:bF X (compareOp .Is) (λx y H Q=>y=.non/\Q (.bl (decide (x=.non))) H):=by
 intro pins s σ H x y v u Q I a b h;obtain⟨rfl,q⟩:=h;cases b;refine is_none_gen (bE I q ?_);cases x<;>first
  | (cases a;rfl)
  | (obtain⟨t,rfl⟩:=a;rfl)
def wC:bF X (compareOp .IsNot) (λx y H Q=>y=.non/\Q (.bl (!decide (x=.non))) H):=by
 intro pins s σ H x y v u Q I a b h;obtain⟨rfl,q⟩:=h;cases b;refine isnot_none_gen (bE I q ?_);cases x<;>first
  | (cases a;rfl)
  | (obtain⟨t,rfl⟩:=a;rfl)
def aJ(b:Vk){op:CmpOp}(h:op≠.In:=by decide)(h2:op≠.NotIn:=by decide):behindInMarks op b=false:=by
 have a:(op == CmpOp.In)=false:=by cases op<;>first|rfl|exact absurd rfl h
 have c:(op == CmpOp.NotIn)=false:=by cases op<;>first|rfl|exact absurd rfl h2
 cases b<;>simp[behindInMarks,a,c]
def cY{op:CmpOp}{r:R2}(ho:bF X (compareOp op) r)(ha:PE X a ta)(hb:PE X b tb)(c:behindInMarks op b=false):PE X (.Compare a [op] [b] pos) (iQ r ta tb):=by intro pins s σ H Q I h;exact wpAny_Compare1 (l3 ha hb I h λv u s2 x y H2 d e g q=>ho pins s2 σ H2 x y v u Q d e g q) c
def uW(t:TE):TT:=λσ H Q=>t σ H λx H'=>∃k,x=.bl k/\Q k H'
def aN{op:CmpOp}{r:R2}(ho:bF X (compareOp op) r)(ha:PE X a ta)(hb:PE X b tb)(d:behindInMarks op b=false):PT X (.Compare a [op] [b] pos) (uW (iQ r ta tb)):=by
 intro pins s σ H Q I h;refine wpAny_isTrue_Compare1 (aH (ha pins s σ H _ I h) λv s1 ⟨x,H1,g,r1,i⟩=>aH (hb pins s1 σ H1 _ g i) λu s2 ⟨y,H2,j,l,m⟩=>
  aH (ho pins s2 σ H2 x y v u _ j r1 l m) λc w ⟨z,n,o,p,k,e,q⟩=>?_) d
 subst e;cases p;exact wpAny_truthy_bool ⟨n,o,q⟩
def rK(r b:R2)(ta tb tc:TE):TE:=λσ H Q=>ta σ H λx H1=>tb σ H1 λy H2=>r x y H2 λz a=>∃k,z=.bl k ∧
 (if k=true then tc σ a λc d=>b y c d Q else Q (.bl false) a)
def jN{op g:CmpOp}{r j:R2}(ho:bF X (compareOp op) r)(i:bF X (compareOp g) j)(ha:PE X a ta)(hb:PE X b tb)(p:PE X c tc)
  (q:lastMarks [op,g] [b,c]=false:=by with_unfolding_all rfl):PE X (.Compare a [op,g] [b,c] pos) (rK r j ta tb tc):=by
 intro pins s σ H Q I h;refine Compare_chain (aH (ha pins s σ H _ I h) λv s1 ⟨x,H1,w,r1,A⟩=>chain_link (aH (hb pins s1 σ H1 _ w A) λu s2 ⟨y,H2,B,l,C⟩=>
  aH (ho pins s2 σ H2 x y v u _ B r1 l C) λd E ⟨z,m,n,F,k,e,o⟩=>?_)) q
 subst e;cases F;refine wpAny_truthy_bool ?_;cases k with
 | false=>exact ite_ff ⟨.bl false,m,n,rfl,o⟩
 | true=>exact ite_tt (chain_last (aH (p pins E σ m _ n o) λG J ⟨L,M,N,O,P⟩=>i pins J σ M y L u G Q N l O P))
def jh:(sizeLine:Nat)<2 ^ 63:=by rw[sizeLine_eq];decide
def vals1{x:V}(r:Vals [x] us):∃u,us=[u]/\RelV x u:=by
 cases r with
 | cons r1 a=>cases a;exact⟨_,rfl,r1⟩
def vals2{x y:V}(r:Vals [x,y] us):∃u a,us=[u,a]/\RelV x u/\RelV y a:=by
 cases r with
 | cons r1 b=>
  cases b with
  | cons c d=>cases d;exact⟨_,_,rfl,r1,c⟩
def xP(b:X.calm=true):cB X (.builtin "max") (λxs H Q=>∃i j,xs=[.int i,.int j]/\Q (.int (if j>i then j else i)) H):=by
 intro pins s σ H xs us Q I r h;obtain⟨i,j,rfl,q⟩:=h;obtain⟨u,c,rfl,⟨t,rfl⟩,⟨d,rfl⟩⟩:=vals2 r;refine max_two_ints (I.ok.hd b) λh' tk k=>⟨_,H,I.kept k,?_,q⟩;by_cases a:j>i
 .rw[Ft a,Ft a];exact⟨_,rfl⟩
 .rw[Fs a,Fs a];exact⟨_,rfl⟩
def DO:cB X (.type "int") (λxs H Q=>(∃i,xs=[.int i]/\Q (.int i) H)\/∃k,xs=[.bl k]/\Q (.int (if k then 1 else 0)) H):=by
 intro pins s σ H xs us Q I r h;rcases h with⟨i,rfl,q⟩|⟨k,rfl,q⟩
 .obtain⟨u,rfl,t,rfl⟩:=vals1 r;exact call_int_int ⟨.int i,H,I,⟨_,rfl⟩,q⟩
 .obtain⟨u,rfl,r1⟩:=vals1 r;cases r1;exact call_int_bool ⟨.int (if k then 1 else 0),H,I.tok _,⟨_,rfl⟩,q⟩
end
structure ObjM(h:Vh)(x dx C:Vb)(mA:Vm->Option Va):Prop where
 obj:h.get? x=Vn (PySem.W.instObj C dx)
 ns:h.Ns1 dx mA
 ne:dx≠x
def yw{dx:Vb}{mA:Vm->Option Va}(n:h.Ns1 dx mA):∃od,h.get? dx=Vn od/\∀name,PySem.W.lookIn name od=Vn (mA name):=by
 obtain⟨o,es,ep,ho,hd,c,_,d⟩:=n;refine⟨o,ho,λname=>?_⟩;have e:=d name;unfold nsFind findBy at e;rw[<-Array.find?_toList]at e;unfold PySem.W.lookIn;rw[hd];dsimp only;split
 .rename_i y q;rw[q]at e;exact congrArg Vn e
 .rename_i q;rw[q]at e;have a:es.toList.any (·.refKey)=false:=by rw[List.any_eq_false];intro y g;obtain⟨z,t,b⟩:=c y (Array.mem_toList_iff.mp g);simp[DictEntry.refKey,b]
  have i:¬es.toList.any (·.refKey)=true:=by rw[a];exact EL
  rw[Fs i];exact congrArg Vn e
def ObjM.look{x dx C:Vb}{mA:Vm->Option Va}(I:ObjM h x dx C mA):∃od,PySem.W.InstAt h x (PySem.W.instObj C dx) C (Vn od)/\∀name,PySem.W.lookIn name od=Vn (mA name):=
 let ⟨od,ho,hl⟩:=yw I.ns
 ⟨od,⟨I.obj,rfl,rfl,ho⟩,hl⟩
def fj.some_of{o:Option Va}(r:fj (Vn v) o):∃u,o=Vn u/\RelV v u:=by
 cases o with
 | none=>exact(show False from r).elim
 | some u=>exact⟨u,rfl,r⟩
section
variable {P:Vd} {w:Ve} {H H':Hp} {h h':Vh} {a C dx:Vb} {fs fs':List (Vm×V)}
def Eg(hok:bq P w H h)(e:H a=Vn (.ins C dx fs)):∃mA,ObjM h a dx C mA/\(∀f,fj (fs.lookup f) (mA f))/\PySem.Within mA (fs.map (·.1))/\fs.length<=1000/\H dx=Vn (.own a):=by obtain⟨d,z,ne,b,mA,n,r,q⟩:=(show bC P w H h a (.ins C dx fs)from hok a _ e);exact⟨mA,⟨b,n,ne⟩,r,q,z,d⟩
end
structure Cls(K:Eo)(C:Vb):Prop where
 pg:PySem.W.plainGet K C Str.empty=true
 hd:PySem.W.hasDictIn K C=true
 po:PySem.W.plainOver K C=true
 sa:PySem.W.findIn K (.ref C) "__setattr__" = Vn (Vn (.builtin "object.__setattr__"))
def Cls.get{K:Eo}{C:Vb}(c:Cls K C)(f:Vm):PySem.W.plainGet K C f=true:=c.pg
section
variable {X:Cx} {pins:List (Vb×Obj)} {σ:St} {H:Hp} {s:Vc} {A:Vi} {E:Va->Vc->Prop} {Q:Va->Vc->Prop} {c:Va} {b:Bool}
inductive TyOf(K:Eo)(H:Hp):V->Va->Prop where
 | non:TyOf K H .non (.type "NoneType")
 | bl (x:Bool):TyOf K H (.bl x) (.type "bool")
 | int (i:Int):TyOf K H (.int i) (.type "int")
 | str (x:Vm):TyOf K H (.str x) (.type "str")
 | flt (x:UInt64):TyOf K H (.flt x) (.type "float")
 | lst {a:Vb} {xs:List V} (e:H a=Vn (.lst xs)):TyOf K H (.ref a) (.type "list")
 | frz {a:Vb} {o:Obj} {xs:List V} (e:H a=Vn (.frz o (.lst xs))):TyOf K H (.ref a) (.type "list")
 | tup {a:Vb} {xs:List V} (e:H a=Vn (.tup xs)):TyOf K H (.ref a) (.type "tuple")
 | dK {a:Vb} {kvs:List (Key×V)} (e:H a=Vn (.dK kvs)):TyOf K H (.ref a) (.type "dict")
 | dT {a:Vb} {kvs:List (List Key×V)} (e:H a=Vn (.dT kvs)):TyOf K H (.ref a) (.type "dict")
 | ins {a C dx:Vb} {fs:List (Vm×V)} (e:H a=Vn (.ins C dx fs)) (cl:Cls K C) (ha:PySem.W.findIn K (.ref C) "__class__" = Vn (Vn (.builtin "object.__class__")))
   (c:PySem.W.specialIn K (.builtin "object.__class__") "__get__" = Vn (Vn (.builtin "getset_descriptor.__get__"))) (b:PySem.W.takesIn K (.builtin "object.__class__")=Vn true)
   (d:PySem.W.mroIn K C (.type "object")=Vn true):TyOf K H (.ref a) (.ref C)
def AA{x:V}{t:Va}(I:Inv X pins σ H s)(d:RelV x u)(ty:TyOf X.K H x t)(e:PySem.W.kitOne X.K t c=Vn b)(h:∀tk,Q (.bool b) { s with toks:=tk }):
  Vf (Vg X.prog X.w) A (call (.builtin "isinstance") [u,c]) Q E s:=by
 cases ty with
 | non=>cases(show u=Value.none from d);exact PySem.W.kia_one PySem.W.kitx_none I.kIn True.intro e (λz=>nomatch z) h
 | bl y=>cases(show u=Value.bool y from d);exact PySem.W.kia_one PySem.W.kitx_bool I.kIn True.intro e (λz=>nomatch z) h
 | int i=>obtain⟨t,q⟩:=(show ∃t,u=Value.int i t from d);cases q;exact PySem.W.kia_one PySem.W.kitx_int I.kIn True.intro e (λz=>nomatch z) h
 | str y=>obtain⟨t,q⟩:=(show ∃t,u=Value.str y t from d);cases q;exact PySem.W.kia_one PySem.W.kitx_str I.kIn True.intro e (λz=>nomatch z) h
 | flt y=>obtain⟨t,q⟩:=(show ∃t,u=Value.float y t from d);cases q;exact PySem.W.kia_one PySem.W.kitx_float I.kIn True.intro e (λz=>nomatch z) h
 | @lst a xs g=>
  cases(show u=Value.ref a from d);obtain⟨_,_,n,_,h1⟩:=(show bC X.prog X.w H s.heap a (.lst xs)from I.hok a _ g);exact PySem.W.kia_one PySem.W.kitx_list I.kIn ⟨_,h1,rfl⟩ e (λz=>nomatch z) h
 | @frz a k xs g=>
  cases(show u=Value.ref a from d);obtain⟨_,_,_,n,_,h1⟩:=(show bC X.prog X.w H s.heap a (.frz k (.lst xs))from I.hok a _ g);exact PySem.W.kia_one PySem.W.kitx_list I.kIn ⟨_,h1,rfl⟩ e (λz=>nomatch z) h
 | @tup a xs g=>
  cases(show u=Value.ref a from d);obtain⟨_,_,_,p⟩:=(show bC X.prog X.w H s.heap a (.tup xs)from I.hok a _ g);obtain⟨o,h1,h2,_⟩:=p;exact PySem.W.kia_one PySem.W.kitx_tuple I.kIn ⟨o,h1,h2⟩ e (λz=>nomatch z) h
 | @dK a kvs g=>
  cases(show u=Value.ref a from d);obtain⟨_,_,vs,_,p⟩:=(show bC X.prog X.w H s.heap a (.dK kvs)from I.hok a _ g);obtain⟨o,es,ep,h1,h2,_⟩:=p;exact PySem.W.kia_one PySem.W.kitx_dict I.kIn ⟨o,h1,h2.1⟩ e (λz=>nomatch z) h
 | @dT a kvs g=>
  cases(show u=Value.ref a from d);obtain⟨_,_,xs,_,o,es,ep,h1,h2,_⟩:=(show bC X.prog X.w H s.heap a (.dT kvs)from I.hok a _ g);exact PySem.W.kia_one PySem.W.kitx_dict I.kIn ⟨o,h1,h2.1⟩ e (λz=>nomatch z) h
 | @ins a C dx fs g cl ha l j m=>
  cases(show u=Value.ref a from d);obtain⟨mA,O,_⟩:=Eg I.hok g;obtain⟨od,J,_⟩:=O.look;exact PySem.W.kia_one (PySem.W.kitx_own (cl.get _) cl.hd ha l j m) I.kIn J e (λz=>nomatch z) h
end
structure Room(k:Nat)(A:Vi):Prop where
 hd:A.handled=Vo
 dp:A.depth+3*k+5<recursionLimit
 un:A.units+16*k+200<cLine
theorem Room.mono{j k:Nat}(r:Room k A)(h:j<=k):Room j A:=⟨r.hd,by have:=r.dp;lia,by have:=r.un;lia⟩
theorem Room.deeper{k:Nat}{A:Vi}(r:Room (k+1) A)(env:Env):Room k (A.deeper env):=
 ⟨r.hd,by have:=r.dp;show A.depth+1+3*k+5<_;lia,by have:=r.un;show A.units+3+16*k+200<_;lia⟩
theorem Room.depth{k:Nat}{A:Vi}(r:Room k A):A.depth<recursionLimit:=by have:=r.dp;lia
theorem Room.units{k:Nat}{A:Vi}(r:Room k A):A.units+64<cLine:=by have:=r.un;lia
def mP:TA:=λ_ H Q=>Q [] H
def kS(ta:TE)(tr:TA):TA:=λσ H Q=>ta σ H λx H1=>tr σ H1 λxs H2=>Q (x::xs) H2
section
variable {X:Cx} {e:Vk} {es:List Vk} {te:TE} {t:TA} {pos:Pos}
def aa:PA X [] mP:=λ_ _ _ _ H Q I h=>Calls.spliced_nil ⟨[],H,I,.nil,h⟩
def ae(ha:PE X e te)(a:PA X es t)(hs:starEach (e::es) X.env=(false,eval e X.env)::starEach es X.env:=by rfl):PA X (e::es) (kS te t):=by intro pos pins s σ H Q I h;rw[hs];show Vf _ _ (spliced ((false,eval e X.env)::backTo pos (starEach es X.env))) _ _ s;refine Calls.spliced_cons (aH (ha pins s σ H _ I h) λu s1 ⟨x,H1,b,r1,c⟩=>?_);exact aH (a pos pins s1 σ H1 _ b c) λus s2 ⟨xs,H2,d,g,i⟩=>⟨x::xs,H2,d,.cons r1 g,i⟩
def mZ(t:TA):TE:=λσ H Q=>t σ H λxs H1=>xs.length<=sizeLine/\∀p,H1 p=Vo->Q (.ref p) (upd H1 p (.tup xs))
def qI(t:TA):TE:=λσ H Q=>t σ H λxs H1=>xs.length<=sizeLine/\∀p,H1 p=Vo->Q (.ref p) (upd H1 p (.lst xs))
def bG{x1}(h:PA X es t):PE X (.Tuple es x1 pos) (mZ t):=by intro pins s σ H Q I c;refine wpAny_Tuple_spliced (aH (h pos pins s σ H _ I c) λus s1 ⟨xs,H1,a,r,z,q⟩=>⟨by rw[<-r.length];exact z,?_⟩);have d:H1 s1.heap.objs.size=none:=a.hok.fresh (ER _);refine⟨.ref s1.heap.objs.size,upd H1 s1.heap.objs.size (.tup xs),a.laid (t':=s1.toks) (λb u e=>Ep _ e) (ER _) ?_,rfl,q _ d⟩;exact⟨z,us,r,⟨_,Er _ rfl,rfl,_,rfl⟩⟩
def bp(h:PA X es t):PE X (.List es pos) (qI t):=by intro pins s σ H Q I c;refine wpAny_List_spliced (aH (h pos pins s σ H _ I c) λus s1 ⟨xs,H1,a,r,z,q⟩=>⟨by rw[<-r.length];exact z,?_⟩);have d:H1 s1.heap.objs.size=none:=a.hok.fresh (ER _);refine⟨.ref s1.heap.objs.size,upd H1 s1.heap.objs.size (.lst xs),a.laid (t':=s1.toks) (λb u e=>Ep _ e) (ER _) ?_,rfl,q _ d⟩;exact⟨z,us,0,r,Er _ rfl⟩
end
abbrev Sp:=List V->Hp->VK->XK->Prop
abbrev gm:=List Env->Hp->Vc->XK->Va->Vc->Prop
structure Env0(P:Vd)(w:Ve)(K:Eo)(mg:Vm->Option Va)(base:Vh)(A:Vi)(outer:List Env)(s:Vc)(H:Hp):Prop where
 frames:A.frames=Vn outer
 mod:Mod K mg base
 bs:∀b o,base.get? b=Vn o->s.heap.get? b=Vn o/\H b=Vo
 bsz:base.objs.size<=s.heap.objs.size
 funs:s.heap.FunFrames base outer
 frf:∀b∈dH outer,H b=Vo
 hok:bq P w H s.heap
 bare:AllBare s.gens
def CE(outer:List Env)(P:Vd)(w:Ve)(H:Hp)(s:Vc)(Q:VK)(u:Va)(s':Vc):Prop:=
 ∃v H',s'.os=s.os/\AllBare s'.gens/\Un (dH outer) [] H H' s.heap s'.heap/\bq P w H' s'.heap/\RelV v u/\Q v H'
def CR(CX:gm)(outer:List Env)(P:Vd)(w:Ve)(H:Hp)(s:Vc)(Q:VK)(E:XK)(r:Result)(s':Vc):Prop:=
 match r with
 | .ok (.ret u)=>CE outer P w H s Q u s'
 | .ok _=>False
 | .error e=>CX outer H s E e s'
structure FnOk(P:Vd)(w:Ve)(K:Eo)(mg:Vm->Option Va)(base:Vh)(CX:gm)(k:Nat)(f:Vb)(fd:Vl)(ps:List Vm)(sp:Sp):Prop where
 len:∀vs H Q E,sp vs H Q E->vs.length=ps.length
 run:∀(A:Vi) (outer:List Env) (s:Vc) (H:Hp) (args:Args) (us:List Va) (vs:List V) (Q:VK) (E:XK),Room k A->Env0 P w K mg base A outer s H->BindsTo s fd args (ps.zip us)->Vals vs us->sp vs H Q E ->
  codeAny (Vg P w) A (.call (.ref f) args) (CR CX outer P w H s Q E) s
section
variable {X:Cx} {pins:List (Vb×Obj)} {σ:St} {H:Hp} {s s':Vc}
def Inv.env0(I:Inv X pins σ H s):Env0 X.prog X.w X.K X.mg X.base X.A X.stack s H:=
 ⟨I.ok.frames,I.ok.mod,I.bs,E4 I.ok.bsz I.sz,I.stack,I.stkFree,I.hok,I.bare⟩
def Inv.after{Q:VK}(I:Inv X pins σ H s)(h:CE X.stack X.prog X.w H s Q u s'):EP X pins σ Q u s':=by obtain⟨v,H',os,bare,un,hok,r,q⟩:=h;obtain⟨c,g,d,t,a⟩:=s';obtain rfl:a=s.os:=os;exact⟨v,H',I.call (h':=c) (g':=g) (d':=d) (t':=t) (ch:=[]) un hok bare (λb z=>absurd z (by simp)),r,q⟩
end
def lN(sp:Sp)(dvs:List V)(E:XK)(t:TA):TE:=λσ H Q=>t σ H λvs H1=>sp (vs++dvs) H1 Q E
def Binds(K:Eo)(fd:Vl)(ps:List Vm)(ds:List Va):Prop:=
 ∀(s:Vc) (us:List Va),K.In s.heap->(us++ds).length=ps.length->BindsTo s fd ⟨us,[]⟩ (ps.zip (us++ds))
def Binds.all{K:Eo}{fd:Vl}{ps:List Vm}(h:∀us:List Va,us.length=ps.length->bindArgs fd ⟨us,[]⟩=pure (ps.zip us)):Binds K fd ps []:=λs us _ a=>by rw[List.append_nil]at a ⊢;exact .of_eq (h us a)
def Passes(CX:gm)(X:Cx)(E:XK):Prop:=∀(pins:List (Vb×Obj)) (σ:St) (H:Hp) (s:Vc) (e:Va) (s':Vc),Inv X pins σ H s->CX X.stack H s E e s'->X.xe e s'
section
variable {X:Cx} {CX:gm} {k:Nat} {f C:Vb} {fd:Vl} {ps:List Vm} {sp:Sp} {dvs:List V} {ds:List Va} {E:XK} {x m:Vm} {p pos apos:Pos} {e o:Vk} {es:List Vk} {ta:TE} {t:TA}
def B2{σ:St}{Q:VK}{vs:List V}(F:FnOk X.prog X.w X.K X.mg X.base CX k f fd ps sp)(c:Room k X.A)(hb:Binds X.K fd ps ds)(hd:Vals dvs ds)(d:Passes CX X E)
  (I:Inv X pins σ H s) (r:Vals vs us) (h:sp (vs++dvs) H Q E):Vf (Vg X.prog X.w) X.A (call (.ref f) us) (EP X pins σ Q) X.xe s:=by
 have b:Vals (vs++dvs) (us++ds):=r.append hd;have g:(us++ds).length=ps.length:=by rw[<-b.length];exact F.len _ _ _ _ h
 refine wpAny_call (codeAny_mono (F.run X.A X.stack s H ⟨us,[]⟩ (us++ds) (vs++dvs) Q E c I.env0 (hb s us I.kIn g) b h) λr s' a=>?_);cases r with
 | error e=>exact d pins σ H s e s' I a
 | ok fl=>
  cases fl with
  | ret u=>exact I.after a
  | next=>exact False.elim a
  | brk=>exact False.elim a
  | cont=>exact False.elim a
def xV(F:FnOk X.prog X.w X.K X.mg X.base CX k f fd ps sp)(d:Room k X.A)(g:Gl X x)(i:X.mg x=Vn (.ref f))(j:PySem.W.keepIn X.K (.ref f)=true)(hb:Binds X.K fd ps ds)(hd:Vals dvs ds)(l:Passes CX X E)
  (ha:PA X (e::es) t) (a:(x == ("__debug__":Vm))=false:=by decide) (m:starEach (e::es) X.env=(false,eval e X.env)::starEach es X.env:=by rfl) (b:(backTo pos (starEach es X.env)).any (·.1)=false:=by rfl) :
  PE X (.Call (.Name x p) (e::es) [] pos) (lN sp dvs E t):=by
 intro pins s σ H Q I h;refine wpAny_Call_Name_kw (jT I g i ?_ a);refine PySem.W.callWith_K (h₀:=X.base) I.ok.mod.kin j (aH (ha pos pins s σ H _ I h) λus s1 ⟨vs,H1,c,r,q⟩=>⟨c.kIn,?_⟩) m b;exact B2 F d hb hd l c r q
end
structure FnScope(N P:List Vm)(sc:Scope):Prop where
 kind:sc.kind=.function
 co:sc.isCoroutine=false
 gen:sc.isGenerator=false
 nd:N.Nodup
 pre:N.take P.length=P
 par:∀x∈P,sc.names.lookup x=Vn .local\/sc.names.lookup x=Vn .cell
 nofree:∀y∈sc.names,y.2≠.free
theorem qp{kindOf:Vm->Option NameKind}{x:Vm}:∀{binds:List (Vm×Va)} {m:Vm->Option Va},(∀v,(x,v)∉binds)->bindL kindOf binds m x=m x
 | [],_,_=>rfl
 | (n,v)::r,m,h=>by
  unfold bindL;rw[qp λw a=>h w (Ez _ a)];split
  .have:x≠n:=by rintro rfl;exact h v EC
   simp[this]
  .rfl
theorem uJ{kindOf:Vm->Option NameKind}{x:Vm}:∀{binds:List (Vm×Va)} {m:Vm->Option Va},(∀v,(x,v)∉binds)->bindC kindOf binds m x=m x
 | [],_,_=>rfl
 | (n,v)::r,m,h=>by
  unfold bindC;rw[uJ λw a=>h w (Ez _ a)];split
  .rfl
  .have:x≠n:=by rintro rfl;exact h v EC
   simp[this]
theorem mx{kindOf:Vm->Option NameKind}{x:Vm}{v:Va}:∀{P:List Vm} {vs:List Va} {i:Nat} {m:Vm->Option Va},P.Nodup->P[i]?=Vn x->vs[i]?=Vn v->kindOf x=Vn .local ->
  bindL kindOf (P.zip vs) m x=Vn v
 | [],_,_,_,_,h,_,_=>by simp at h
 | _::_,[],_,_,_,_,h,_=>by simp at h
 | p::P,w::vs,0,m,nd,h1,h2,a=>by simp at h1 h2;subst h1;subst h2;show bindL kindOf ((p,w)::P.zip vs) m p=_;unfold bindL;rw[qp λv b=>(List.nodup_cons.mp nd).1 (List.of_mem_zip b).1,Ft a];simp
 | p::P,w::vs,i+1,m,nd,h1,h2,a=>by show bindL kindOf ((p,w)::P.zip vs) m x=_;unfold bindL;exact mx (i:=i) (List.nodup_cons.mp nd).2 (by simpa using h1) (by simpa using h2) a
theorem mS{kindOf:Vm->Option NameKind}{x:Vm}{v:Va}:∀{P:List Vm} {vs:List Va} {i:Nat} {m:Vm->Option Va},P.Nodup->P[i]?=Vn x->vs[i]?=Vn v->kindOf x≠Vn .local ->
  bindC kindOf (P.zip vs) m x=Vn v
 | [],_,_,_,_,h,_,_=>by simp at h
 | _::_,[],_,_,_,_,h,_=>by simp at h
 | p::P,w::vs,0,m,nd,h1,h2,a=>by simp at h1 h2;subst h1;subst h2;show bindC kindOf ((p,w)::P.zip vs) m p=_;unfold bindC;rw[uJ λv b=>(List.nodup_cons.mp nd).1 (List.of_mem_zip b).1,Fs a];simp
 | p::P,w::vs,i+1,m,nd,h1,h2,a=>by show bindC kindOf ((p,w)::P.zip vs) m x=_;unfold bindC;exact mS (i:=i) (List.nodup_cons.mp nd).2 (by simpa using h1) (by simpa using h2) a
def start(N:List Vm)(vs:List V):St:=vs.map Vn++Ff (N.length-vs.length) Vo
def eX(CX:gm)(P:Vd)(w:Ve)(K:Eo)(mg:Vm->Option Va)(base:Vh)(N:List Vm)(qual:Vm)(scope:Scope)(f:Vb)(cd:Va)(A:Vi)(outer:List Env)(s:Vc)(H:Hp)(E:XK):Cx where
 prog:=P
 w:=w
 K:=K
 mg:=mg
 base:=base
 A:=A.deeper (envOfC qual scope s.heap.objs.size f cd)
 N:=N
 s₀:=s
 H₀:=H
 env:=envOfC qual scope s.heap.objs.size f cd
 outer:=outer
 stack:=envOfC qual scope s.heap.objs.size f cd::outer
 ex:=[]
 calm:=true
 fn:=λ_=>true
 pn:=[]
 xe:=λe s'=>Vf (Vg P w) (A.deeper (envOfC qual scope s.heap.objs.size f cd)) (leaving (envOfC qual scope s.heap.objs.size f cd) e) (λ_ a=>CX outer H s E e a) (λe' a=>CX outer H s E e' a) s'
def pI{sc:Scope}{x:Vm}(h:sc.names.lookup x=Vn .cell):∃c,(cellsFrom n sc.names []).lookup x=Vn c:=by have q:=PySem.W.cellsFrom_some sc.names n [] (.inl h);exact Option.isSome_iff_exists.mp q
theorem Aa{CX:gm}{K:Eo}{mg:Vm->Option Va}{base:Vh}{N ps:List Vm}{qual:Vm}{scope:Scope}{f:Vb}{cd:Va}{outer:List Env}{s1:Vc}{E:XK}{vs:List V}
  (S:FnScope N ps scope) (hd:A.handled=Vo) (d:Env0 P w K mg base A outer s H) (F:vs.length=ps.length) (r:Vals vs us)
  (x:InCallC s s.heap.objs.size (bindL (envOfC qual scope s.heap.objs.size f cd).kindOf (ps.zip us) λ_=>Vo) (cellsFrom (s.heap.objs.size+1) scope.names []) (bindC (envOfC qual scope s.heap.objs.size f cd).kindOf (ps.zip us) λ_=>Vo) s1) :
  Inv (eX CX P w K mg base N qual scope f cd A outer s H E) [] (start N vs) H s1:=by
 have B:ps.length<=N.length:=by have:=congrArg List.length S.pre;rw[Fl]at this;lia
 obtain⟨h1,tk,rfl,m⟩:=x.done;have noA:∀b:Vb,b∉(eX CX P w K mg base N qual scope f cd A outer s H E).ex:=λb z=>absurd (show b∈([]:List Vb)from z) (by simp);refine⟨⟨d.mod,S.kind,rfl,rfl,ER _,λy z c h1 h2=>?_,λy g=>?_,λy c _ h=>?_,λ_=>hd,Around.frames_deeper d.frames,.inr ⟨rfl,rfl⟩,λb z=>absurd z (noA b),d.bs,d.bsz,λb _ _=>noA b,λb z=>absurd z (noA b),d.funs,d.frf⟩,
  rfl,d.bare,Un.kept m,⟨_,x.toInCall.ns,λi y v h1 h2 G=>?_⟩,λy c h=>⟨_,x.cell y c h⟩,d.hok.fresh (ER _),λy c h=>?_,λp j=>absurd (show p∈([]:List (Vb×Obj))from j) (by simp),d.hok.kept m,?_⟩
 .exact name_of_addr x.apart (PySem.mem_of_lookup h1) (PySem.mem_of_lookup h2)
 .have g:scope.names.lookup y=Vn .cell\/scope.names.lookup y=Vn .free:=g;rcases g with g|g
  .exact pI g
  .exact absurd rfl (S.nofree _ (PySem.mem_of_lookup g))
 .exact Nat.le_of_lt (x.above y c (PySem.mem_of_lookup h))
 .have hi:i<vs.length:=by
   unfold start at h2;by_cases hi:i<vs.length
   .exact hi
   .rw[EV (by simpa using hi)]at h2;rw[List.getElem?_replicate]at h2;split at h2<;>cases h2
  have ha:vs[i]?=Vn v:=by
   unfold start at h2;rw[EW (by simpa using hi),Ey]at h2;cases e:vs[i]? with
   | none=>rw[e]at h2;cases h2
   | some a=>rw[e]at h2;cases h2;rfl
  obtain⟨u,o,C⟩:=r.get ha;have j:ps[i]?=some y:=by rw[<-S.pre,List.getElem?_take_of_lt (by lia)];exact h1
  have l:ps.Nodup:=by rw[<-S.pre];exact S.nd.sublist (List.take_sublist _ _)
  refine⟨u,C,?_⟩;rcases S.par y (EF j)with k|k
  .exact .inl ⟨k,mx l j o k⟩
  .obtain⟨c,e⟩:=pI (n:=s.heap.objs.size+1) k;refine .inr ⟨.inl k,c,e,?_⟩;have q:=x.cell y c e;rw[mS l j o (by show scope.names.lookup y≠_;rw[k];decide)]at q;exact q
 .exact d.hok.fresh (Nat.le_of_lt (x.above y c (PySem.mem_of_lookup h)))
 .unfold start;show _=N.length;rw[EN,Ew,List.length_replicate];lia
def wK{CX:gm}{K:Eo}{mg:Vm->Option Va}{base:Vh}{k:Nat}{f:Vb}{name qual:Vm}{params:Arguments}{body:List Stmt}{scope:Scope}{j kV doc pm cdv ct oc:Va}{an od:Option Vb}
  {osl:Array (Option Va)} {N ps:List Vm} {sp:Sp} (m:K.lookup f=Vn ⟨oc,od,.func (PySem.W.fnOf name qual params body scope j kV doc pm an cdv ct),osl⟩) (g:PySem.W.codeIn K cdv qual=true) (S:FnScope N ps scope)
  (len:∀vs H Q E,sp vs H Q E->vs.length=ps.length)
  (c:∀(A:Vi) (outer:List Env) (s:Vc) (H:Hp) (vs:List V) (Q:VK) (E:XK),Room k (A.deeper (envOfC qual scope s.heap.objs.size f cdv))->sp vs H Q E ->
   ∃t,cR (eX CX P w K mg base N qual scope f cdv A outer s H E) body t/\t { nx:=λ_ H'=>Q .non H',rt:=Q } (start N vs) H) :
  FnOk P w K mg base CX (k+1) f (PySem.W.fnOf name qual params body scope j kV doc pm an cdv ct) ps sp:=by
 refine⟨len,λA outer s H args us vs Q E h d hb r hsp=>?_⟩;have p:=len _ _ _ _ hsp;have l:K.In s.heap:=d.mod.kin.keeps λb o e=>(d.bs b o e).1;have lim:s.heap.NoLimit:=d.mod.nolimit.keeps λb o e=>(d.bs b o e).1;have hkind:∀y∈ps.zip us,scope.names.lookup y.1=Vn .local\/(scope.names.lookup y.1=Vn .cell/\((cellsFrom (s.heap.objs.size+1) scope.names []).lookup y.1).isSome=true):=λ⟨n,v⟩ z=>by
  rcases S.par n (List.of_mem_zip z).1 with q|q
  .exact .inl q
  .exact .inr ⟨q,PySem.W.cellsFrom_some _ _ _ (.inl q)⟩
 refine codeAny_call_function h.depth (l _ _ m) rfl S.co S.gen rfl (PySem.W.codeRec_of l g) (hb _ _ _ _ ?_);refine wpAny_newFunctionEnv_cells S.kind hkind λenv B s1 x=>?_;subst B;refine⟨lim.keeps x.toInCall.keep,codeAny_func ?_⟩;obtain⟨t,C,F⟩:=c A outer s H vs Q E (h.deeper _) hsp;have I:Inv (eX CX P w K mg base N qual scope f cdv A outer s H E) [] (start N vs) H s1:=Aa S h.hd d p r x;refine wpAny_mono (C [] s1 (start N vs) H _ I F) (λfl s' hs=>?_) λe s' hs=>hs;have fin:∀{a:St} {H':Hp} {v:V} {u:Va},Inv (eX CX P w K mg base N qual scope f cdv A outer s H E) [] a H' s'->RelV v u->Q v H'->CE outer P w H s Q u s':=
  λ{a H' v u} J i q=>⟨v,H',J.os,J.bare,J.base,J.hok,i,q⟩
 cases fl with
 | ret u=>
  obtain⟨v,a,H',J,i,q⟩:=hs;exact fin J i q
 | next=>
  obtain⟨a,H',J,q⟩:=hs;exact fin (v:=V.non) (u:=Value.none) J rfl q
 | brk=>
  obtain⟨_,_,_,q⟩:=hs;exact False.elim q
 | cont=>
  obtain⟨_,_,_,q⟩:=hs;exact False.elim q
section
variable {X:Cx} {x:Vm} {p pos:Pos} {e:Vk} {es:List Vk} {t:TA} {id T:String} {r:List V->Hp->VK->Prop}
def kI(r:List V->Hp->VK->Prop)(t:TA):TE:=λσ H Q=>t σ H λvs H1=>r vs H1 Q
def aS(c:cB X (.builtin id) r)(d:Gl X x)(g:X.mg x=Vo)(i:bootBuiltins x=Vn (.builtin id))(ha:PA X (e::es) t)(j:x≠"__name__":=by decide)(a:(x == ("__debug__":Vm))=false:=by decide)
  (k:starEach (e::es) X.env=(false,eval e X.env)::starEach es X.env:=by rfl) (b:(backTo pos (starEach es X.env)).any (·.1)=false:=by rfl):PE X (.Call (.Name x p) (e::es) [] pos) (kI r t):=by
 intro pins s σ H Q I h;refine wpAny_Call_Name_kw (fQ I d g i ?_ j a);exact PyProof.Rows.callWith_builtin1 (aH (ha pos pins s σ H _ I h) λus s1 ⟨vs,H1,l,r1,m⟩=>c pins s1 σ H1 vs us Q l r1 m) k b
def ic(c:cB X (.type T) r)(d:Gl X x)(g:X.mg x=Vo)(i:bootBuiltins x=Vn (.type T))(ha:PA X (e::es) t)(j:x≠"__name__":=by decide)(a:(x == ("__debug__":Vm))=false:=by decide)
  (k:starEach (e::es) X.env=(false,eval e X.env)::starEach es X.env:=by rfl) (b:(backTo pos (starEach es X.env)).any (·.1)=false:=by rfl):PE X (.Call (.Name x p) (e::es) [] pos) (kI r t):=by
 intro pins s σ H Q I h;refine wpAny_Call_Name_kw (fQ I d g i ?_ j a);exact PyProof.Rows.callWith_type1 (aH (ha pos pins s σ H _ I h) λus s1 ⟨vs,H1,l,r1,m⟩=>c pins s1 σ H1 vs us Q l r1 m) k b
end
end L2
variable {v:L2.V}{sl a c l i1 i2:Vb}{hi:Option Int}{n t' d B kk ep m low L:Nat}{items ys:Array Va}{Q E:Va->Vc->Prop}{xs:List L2.V}{pins:List (Vb×Obj)}{σ:L2.St}{H H':L2.Hp}{s:Vc}{p:Vm×NameKind}{A:Vi}{u pm:Va}{T:String}{h h' base:Vh}{loose N ps own:List Vm}{X:L2.Cx}{qual:Vm}{fd:Vl}{sp:L2.Sp}{env:Env}{sc out scope:Scope}{prog P:Vd}{w:Ve}{R:L2.It->L2.Hp->Prop}{elt iter tg body:Vk}{ifs elts:List Vk}{cells cl:List (Vm×Vb)}{js:List Nat}{fp:List Vb}{g:L2.TG}{tc:L2.TT}{neg:Bool}{o:Obj}{mg:Vm->Option Va}{kvs:List (List Key×L2.V)}{us:List Va}{td tv:L2.TE}{params:Arguments}
namespace HT
open PySem PyProof.Rows
section
open PySem.SeqAt
open PySem.AutoSeq1 (wpAny_loadPart')
open PySem.MeetsSeq PySem.MeetsSeq2 PySem.MeetsSeq3
end
section
variable {prog:Vd} {w:Ve} {A:Vi} {E:Va->Vc->Prop} {s:Vc}
def aR(n d:Nat):Option Int->Nat
 | none=>d
 | some v=>if v<0 then(v+(n:Int)).toNat else min v.toNat n
def l5(n d:Nat):aR n d Vo=d:=rfl
theorem uG(n d k:Nat):aR n d (Vn (k:Int))=min k n:=by show(if(k:Int)<0 then((k:Int)+(n:Int)).toNat else min (k:Int).toNat n)=min k n;rw[Fs (by lia),EI]
theorem CP(n d:Nat)(hd:d<=n)(o:Option Int):aR n d o<=n:=by
 cases o with
 | none=>exact hd
 | some v=>
  show(if v<0 then(v+(n:Int)).toNat else min v.toNat n)<=n;by_cases a:v<0
  .rw[Ft a];lia
  .rw[Fs a];exact Nat.min_le_right _ _
theorem u5(v:Int)(n d:Nat):(if v<0 then max (v+(n:Int)) 0 else min v (n:Int))=((aR n d (Vn v):Nat):Int):=by
 show(if v<0 then max (v+(n:Int)) 0 else min v (n:Int))=(((if v<0 then(v+(n:Int)).toNat else min v.toNat n):Nat):Int);by_cases a:v<0
 .simp only[Ft a];lia
 .simp only[Fs a];lia
theorem AD(lo hi:Option Int)(n:Nat):Builtin.Slice.sliceAdjust lo hi 1 (n:Int)=(((aR n 0 lo:Nat):Int),((aR n n hi:Nat):Int)):=by
 have h1:¬((1:Int)<0):=by lia
 unfold Builtin.Slice.sliceAdjust;simp only[h1,if_false];refine Prod.ext ?_ ?_
 .cases lo with
  | none=>rfl
  | some v=>exact u5 v n 0
 .cases hi with
  | none=>rfl
  | some v=>exact u5 v n n
theorem zd(i j:Nat):Builtin.Slice.slicePlaces (i:Int) (j:Int) 1=j-i:=by
 unfold Builtin.Slice.slicePlaces;have h1:(1:Int)>0:=by lia
 simp only[h1,if_true,Int.ediv_one];split<;>lia
def rh{v:Va}{o:Option Int}{Q:Option Int->Vc->Prop}(p:IsPart v o)(h:Q o s):Vf (Vg prog w) A (Builtin.Slice.slicePartIndex v) Q E s:=by
 cases p with
 | none=>exact slicePart_none h
 | int i t=>exact slicePart_int h
def oX{b c:Va}{lo:Option Int}{Q:Int×Int×Nat->Vc->Prop}(hs:s.heap.IsSliceOf sl b c .none)(d:IsPart b lo)(pu:IsPart c hi)
  (h:Q (((aR n 0 lo:Nat):Int),1,aR n n hi-aR n 0 lo) s):Vf (Vg prog w) A (Builtin.Slice.sliceApplied (.ref sl) (pure (n:Int))) Q E s:=by
 obtain⟨os,a,e,hds⟩:=id hs;unfold Builtin.Slice.sliceApplied Builtin.Slice.sliceFields;refine Em (Em (wpAny_field a hds (x:=b) rfl (Em (wpAny_field a hds (x:=c) rfl (Em (wpAny_field a hds (x:=.none) rfl (En ?_)))))));refine Em (slicePart_none ?_);show Vf _ _ (if((1:Int) == 0)=true then _ else _) _ _ s;rw[Fs (by decide)];refine Em (rh d (Em (rh pu (Em (En ?_)))));show Vf _ _ (match Builtin.Slice.sliceAdjust lo hi 1 (n:Int)with|(lo,hi)=>pure (lo,(1:Int),Builtin.Slice.slicePlaces lo hi 1)) _ _ s;rw[AD lo hi n];show Vf _ _ (pure (((aR n 0 lo:Nat):Int),(1:Int),Builtin.Slice.slicePlaces ((aR n 0 lo:Nat):Int) ((aR n n hi:Nat):Int) 1)) _ _ s;rw[zd];exact En h
theorem ya(xs:Array Va)(i k:Nat):((Fo k).filterMap λ(m:Nat)=>xs[((i:Int)+(m:Int)*1).toNat]?).toArray=((xs.toList.drop i).take k).toArray:=by
 have e:(λ(m:Nat)=>xs[((i:Int)+(m:Int)*1).toNat]?)=λm=>xs[i+m]?:=by
  funext m;have:((i:Int)+(m:Int)*1).toNat=i+m:=by lia
  rw[this]
 rw[e];have:=pick_run xs i k;rw[List.filterMap_map]at this;have a:((λx=>xs[x]?)∘λx=>i+x)=λm=>xs[i+m]?:=rfl;rw[a]at this;rw[this]
def A1{t:Vb}{i j:Va}{lo:Option Int}(b:IsTup s.heap t items)(hs:s.heap.IsSliceOf sl i j .none)(k:IsPart i lo)(pu:IsPart j hi)
  (l:¬(aR items.size 0 lo=0/\aR items.size items.size hi=items.size))
  (h:Q (.ref s.heap.objs.size) { s with heap:=s.heap.push { cls:=.type "tuple",data:=.seq ((items.toList.drop (aR items.size 0 lo)).take (aR items.size items.size hi-aR items.size 0 lo)).toArray } })
  (hsz:items.size<=sizeLine):Vf (Vg prog w) A (getItem (.ref t) (.ref sl)) Q E s:=by
 have a:sizeOk (.seq ((items.toList.drop (aR items.size 0 lo)).take (aR items.size items.size hi-aR items.size 0 lo)).toArray):=by show((items.toList.drop (aR items.size 0 lo)).take (aR items.size items.size hi-aR items.size 0 lo)).toArray.size<=sizeLine;rw[EB,Fl,List.length_drop,EA];omega
 have n:aR items.size items.size hi<=items.size:=CP _ _ (ER _) hi;obtain⟨os,c,d,hds⟩:=id hs;have e:s.TypeIs (.ref sl) "slice":=⟨os,c,d⟩;unfold getItem
 try with_reducible refine wpAny_holding ?_
 first|refine Em (En ?_)|skip
 refine Em (wpAny_sequenceKey b.typeIs (by decide) ?_);refine Em (Fn (name:=Fb "__getitem__") b.typeIs PyProof.Rows.slot_tuple_getitem
  (wpAny_call_entry PyProof.Rows.slot_tuple_getitem b.typeIs entry_tuple_getitem ?_ (args_tuple_getitem _ _)))
 show Vf _ _ (Builtin.Tuple.tupleItemsOf (.ref t) >>= _) _ _ s;refine Em (tupleItemsOf_ b ?_);refine Em (wpAny_typeOf e ?_);rw[Ft (by decide)];refine Em (oX hs k pu ?_);have g:¬((((aR items.size 0 lo:Nat):Int) == 0 && (1:Int) == 1 && (aR items.size items.size hi-aR items.size 0 lo) == items.size)=true):=by intro q;rw[E9,E9]at q;have o:((aR items.size 0 lo:Nat):Int)=0:=eq_of_beq q.1.1;have p:aR items.size items.size hi-aR items.size 0 lo=items.size:=eq_of_beq q.2;exact l ⟨by omega,by omega⟩
 show Vf _ _ (if(((aR items.size 0 lo:Nat):Int) == 0 && (1:Int) == 1 && (aR items.size items.size hi-aR items.size 0 lo) == items.size)=true then _ else _) _ _ s;rw[Fs g,ya]
 first
  | exact Em (m:=Builtin.Tuple.tupleExact _) (wpAny_newObj_type (En ⟨_,rfl,En h⟩) a)
  | exact Em (m:=Builtin.Tuple.tupleExact _) (wpAny_newObj_type (Em (En (En ⟨_,rfl,En h⟩))) a)
  | exact Em (Em (m:=Builtin.Tuple.tupleExact _) (wpAny_newObj_type (En (En ⟨_,rfl,En h⟩)) a))
  | exact Em (Em (m:=Builtin.Tuple.tupleExact _) (wpAny_newObj_type (En ⟨_,rfl,En h⟩) a))
end
end HT
namespace L2
open PySem PySem.Spec PyProof.Rows
abbrev TO:=St->Hp->(Option Int->Hp->Prop)->Prop
def PO(X:Cx)(e:Option Vk)(t:TO):Prop:=
 ∀(pins:List (Vb×Obj)) (s:Vc) (σ:St) (H:Hp) (Q:Option Int->Hp->Prop),Inv X pins σ H s->t σ H Q ->
  Vf (Vg X.prog X.w) X.A (evalPart e X.env) (λu s'=>∃o H',Inv X pins σ H' s'/\IsPart u o/\Q o H') X.xe s
def wA:TO:=λ_ H Q=>Q Vo H
def sQ(t:TE):TO:=λσ H Q=>t σ H λx H1=>∃i,x=.int i/\Q (Vn i) H1
def intsAre_of{ns:List Int}:∀{us:List Va},Vals (ns.map V.int) us->IntsAre us ns:=by
 induction ns with
 | nil=>intro us r;rw[List.map_nil]at r;cases r;exact .nil
 | cons n ns a=>
  intro us r;rw[List.map_cons]at r;cases r with
  | cons r1 b=>
   obtain⟨t,e⟩:=r1;subst e;exact .cons n t (a b)
section
variable {X:Cx} {e:Vk} {te:TE} {lo hi:Option Vk} {tl th:TO} {pos p2:Pos}
def ib:PO X Vo wA:=by intro pins s σ H Q I h;rw[evalPart_none];exact En ⟨Vo,H,I,.none,h⟩
def fV(h:PE X e te):PO X (Vn e) (sQ te):=by intro pins s σ H Q I a;rw[evalPart_some];refine aH (h pins s σ H _ I a) λu s1 ⟨x,H1,b,r1,c⟩=>?_;obtain⟨i,rfl,q⟩:=c;obtain⟨t,rfl⟩:=r1;exact⟨Vn i,H1,b,.int i t,q⟩
def jJ(X:Cx)(r:V->Option Int->Option Int->Hp->VK->Prop):Prop:=
 ∀(pins:List (Vb×Obj)) (s:Vc) (σ:St) (H:Hp) (x:V) (v a b:Va) (lo hi:Option Int) (sl:Vb) (Q:VK),Inv X pins σ H s->RelV x v->s.heap.IsSliceOf sl a b .none->IsPart a lo->IsPart b hi->r x lo hi H Q ->
  ∃T id,typeLookup (.type T) "__getitem__" = pure (Vn (.builtin id))/\s.TypeIs v T/\Vf (Vg X.prog X.w) X.A (getItem v (.ref sl)) (EP X pins σ Q) X.xe s
def uV(r:V->Option Int->Option Int->Hp->VK->Prop)(te:TE)(tl th:TO):TE:=λσ H Q=>te σ H λx H1=>tl σ H1 λl H2=>th σ H2 λu a=>r x l u a Q
def gU{r:V->Option Int->Option Int->Hp->VK->Prop}(i:jJ X r)(j:PE X e te)(k:PO X lo tl)(m:PO X hi th):PE X (.Subscript e (.Slice lo hi Vo p2) pos) (uV r te tl th):=by intro pins s σ H Q I h;refine Subscript_ (aH (j pins s σ H _ I h) λv s1 ⟨x,H1,n,r1,o⟩=>?_);refine wpAny_Slice (aH (k pins s1 σ H1 _ n o) λc s2 ⟨l,H2,p,y,z⟩=>aH (m pins s2 σ H2 _ p z) λd a ⟨u,g,B,pu,C⟩=>?_);rw[evalPart_none];refine En ?_;have E:Inv X pins σ g { a with heap:=a.heap.push { cls:=.type "slice",data:=.fields #[c,d,.none] } }:=B.kept (t':=a.toks) λb L q=>Ep _ q;obtain⟨T,id,F,G,J⟩:=i pins { a with heap:=a.heap.push { cls:=.type "slice",data:=.fields #[c,d,.none] } } σ g x v c d l u a.heap.objs.size Q E r1 (Heap.IsSliceOf.new ..) y pu C;show Vf (Vg X.prog X.w) X.A (subscriptTail e (.Slice lo hi Vo p2) v (.ref a.heap.objs.size)) (EP X pins σ Q) X.xe { a with heap:=a.heap.push { cls:=.type "slice",data:=.fields #[c,d,.none] } };exact tail_any (ops:=[.ref a.heap.objs.size,v]) G F J (by with_unfolding_all rfl)
def cH(xs:List V)(lo hi:Option Int):List V:=(xs.drop (HT.aR xs.length 0 lo)).take (HT.aR xs.length xs.length hi-HT.aR xs.length 0 lo)
theorem uS(xs:List V)(lo hi:Option Int):(cH xs lo hi).length<=xs.length:=by unfold cH;rw[Fl,List.length_drop];lia
def zr(K:Eo):V->Option Int->Option Int->Hp->VK->Prop:=λx lo hi H Q=>∃a xs,x=.ref a/\ah K H a xs ∧
 ¬(HT.aR xs.length 0 lo=0/\HT.aR xs.length xs.length hi=xs.length)/\∀p,H p=Vo->Q (.ref p) (upd H p (.tup (cH xs lo hi)))
def B8:jJ X (zr X.K):=by
 intro pins s σ H x v l m lo hi sl Q I g hs i pu h;obtain⟨a,xs,rfl,j,k,q⟩:=h;cases g;obtain⟨c,r,d,e⟩:=I.tuple j;have hlen:c.toArray.size=xs.length:=by rw[EB];exact r.length.symm
 refine⟨"tuple",_,PyProof.Rows.slot_tuple_getitem.lookup,d.typeIs,?_⟩;refine HT.A1 d hs i pu (by rw[hlen];exact k) ?_ (by rw[hlen];exact e);rw[hlen];refine⟨.ref s.heap.objs.size,_,I.laid (t':=s.toks) (o:=.tup (cH xs lo hi)) (λb n q=>Ep _ q) (ER _) ?_,rfl,q _ (I.hok.fresh (ER _))⟩;exact⟨E4 (uS xs lo hi) e,_,(r.drop (HT.aR xs.length 0 lo)).take (HT.aR xs.length xs.length hi-HT.aR xs.length 0 lo),IsTup.new _ _⟩
end
def eL(n:Nat)(i:Int):Option Nat:=if 0<=i then(if i<n then Vn i.toNat else Vo)else if -(n:Int)<=i then Vn (i+n).toNat else Vo
def bx{α:Type}(xs:List α)(i:Int):Option α:=(eL xs.length i).bind λj=>xs[j]?
theorem vw{i:Int}{j:Nat}(h:eL n i=Vn j):seqIndex? i n=Vn j/\j<n/\-(n:Int)<=i/\i<n:=by
 unfold eL at h;by_cases a:0<=i
 .rw[Ft a]at h;by_cases h1:i<n
  .rw[Ft h1]at h;have e:i.toNat=j:=Fc h;exact⟨by rw[seqIndex_of a h1,e],by lia,by lia,h1⟩
  .rw[Fs h1]at h;cases h
 .rw[Fs a]at h;by_cases h1:-(n:Int)<=i
  .rw[Ft h1]at h;have e:(i+n).toNat=j:=Fc h;exact⟨by rw[seqIndex_neg (by lia) h1,e],by lia,h1,by lia⟩
  .rw[Fs h1]at h;cases h
def og{α:Type}{xs:List α}{i:Int}{v:α}(h:bx xs i=Vn v):∃j,seqIndex? i xs.length=Vn j/\xs[j]?=Vn v/\j<xs.length/\-(xs.length:Int)<=i/\i<xs.length:=by
 unfold bx at h;cases e:eL xs.length i with
 | none=>rw[e]at h;cases h
 | some j=>
  rw[e]at h;obtain⟨h1,h2,a,b⟩:=vw e;exact⟨j,h1,h,h2,a,b⟩
theorem eY{α:Type}{xs:List α}{j:Nat}{v:α}(h:xs[j]?=Vn v):bx xs (j:Int)=Vn v:=by
 have a:j<xs.length:=(EE.mp h).1;have e:eL xs.length (j:Int)=Vn j:=by unfold eL;rw[Ft (by lia),Ft (by lia)];simp
 unfold bx;rw[e];exact h
theorem vm{α:Type}(xs:List α)(v:α):bx (xs++[v]) (-1)=Vn v:=by
 have a:(xs++[v]).length=xs.length+1:=by simp
 have e:eL (xs++[v]).length (-1)=Vn xs.length:=by unfold eL;rw[a,Fs (by decide),Ft (by lia)];congr 1;lia
 unfold bx;rw[e];show(xs++[v])[xs.length]?=Vn v;simp
def BG(b:Vk):Prop:=∀o i,subscripted b false o i=operate [o,i] (getItem o i)
def iE(X:Cx)(r:R2):Prop:=
 ∀(value slice:Vk) (pins:List (Vb×Obj)) (s:Vc) (σ:St) (H:Hp) (x y:V) (v u:Va) (Q:VK),Inv X pins σ H s->RelV x v->RelV y u->r x y H Q ->
  subscripted slice false v u=operate [v,u] (getItem v u)->Vf (Vg X.prog X.w) X.A (subscriptTail value slice v u) (EP X pins σ Q) X.xe s
def m7(X:Cx)(id:String)(r:V->List V->Hp->VK->Prop):Prop:=
 ∀(pins:List (Vb×Obj)) (s:Vc) (σ:St) (H:Hp) (x:V) (xs:List V) (v:Va) (us:List Va) (Q:VK),Inv X pins σ H s->RelV x v->Vals xs us->r x xs H Q ->
  Vf (Vg X.prog X.w) X.A (call (.builtin id) (v::us)) (EP X pins σ Q) X.xe s
section
variable {X:Cx} {a b:Vk} {ta tb:TE} {pos:Pos}
def ao{r:R2}(c:iE X r)(ha:PE X a ta)(hb:PE X b tb)(hs:BG b):PE X (.Subscript a b pos) (iQ r ta tb):=by intro pins s σ H Q I h;exact Subscript_ (l3 ha hb I h λv u s2 x y H2 d e g q=>c a b pins s2 σ H2 x y v u Q d e g q (hs _ _))
def mj(K:Eo):R2:=λx y H Q=>∃p xs i v,x=.ref p/\y=.int i/\ag K H p xs/\bx xs i=Vn v/\Q v H
def lW(K:Eo):R2:=λx y H Q=>∃p xs i v,x=.ref p/\y=.int i/\ah K H p xs/\bx xs i=Vn v/\Q v H
def B1:R2:=λx y H Q=>∃z i c,x=.str z/\y=.int i/\z.length<=sizeLine/\bx z.cps.toList i=Vn c/\Q (.str ⟨#[c]⟩) H
theorem xF:iE X (mj X.K):=by
 intro value slice pins s σ H x y v u Q I k l h hs;obtain⟨p,xs,i,z,rfl,rfl,m,n,q⟩:=h;cases k;obtain⟨t,rfl⟩:=l;obtain⟨a,r,b,C⟩:=I.list m;obtain⟨j,h1,h2,E,o,A⟩:=og n;obtain⟨w,e,c⟩:=r.get h2;have B:=r.length;have F:=jh;have fin:EP X pins σ Q w s:=⟨z,H,I,c,q⟩;by_cases g:0<=i
 .have d:i.toNat=j:=by rw[seqIndex_of g A]at h1;exact Fc h1
  exact item_listR b.isList g (by lia) (by rw[d];simpa using e) fin hs
 .have d:(i+(a.toArray.size:Int)).toNat=j:=by rw[seqIndex_neg (by lia) o]at h1;rw[EB,<-B];exact Fc h1
  exact subscriptTail_builtinR (x:=w) b.isList.typeIs slot_list_getitem.lookup
   (wpAny_getItem_list_neg (Q:=λr s'=>r=w/\EP X pins σ Q r s') b.isList (by lia) (by rw[EB]<;>lia) (by lia) (by rw[d];simpa using e) ⟨rfl,fin⟩) hs
theorem CK:iE X (lW X.K):=by
 intro value slice pins s σ H x y v u Q I c d h hs;obtain⟨p,xs,i,z,rfl,rfl,e,g,q⟩:=h;cases c;obtain⟨t,rfl⟩:=d;obtain⟨k,r,b,n⟩:=I.tuple e;obtain⟨j,h1,h2,o,A,B⟩:=og g;obtain⟨w,l,a⟩:=r.get h2;have m:=r.length;have C:=jh;have fin:EP X pins σ Q w s:=⟨z,H,I,a,q⟩;exact subscriptTail_builtinR (x:=w) b.typeIs slot_tuple_getitem.lookup
  (getItem_tuple (j:=j) (Q:=λr s'=>r=w/\EP X pins σ Q r s') b (by lia) (by lia) (by rw[EB,<-m];exact h1) (by simpa using l) ⟨rfl,fin⟩) hs
theorem wg:iE X B1:=by
 intro value slice pins s σ H x y v u Q I a b h hs;obtain⟨z,i,c,rfl,rfl,n,d,q⟩:=h;obtain⟨t,rfl⟩:=a;obtain⟨o,rfl⟩:=b;obtain⟨j,h1,h2,p,e,g⟩:=og d;have k:z.cps.toList.length=z.length:=by simp[Str.length]
 rw[k]at h1 e g;have r:=jh;exact tail_any (typeIs_str s z t) slot_str_getitem.lookup (getItem_str (c:=c) (by have l:decide (i < -(2 ^ 63:Int))=false:=Fp (by lia);have m:decide (i ≥ 2 ^ 63)=false:=Fp (by lia);rw[l,m,Bool.or_false]) (by rw[h1];simpa using h2) ⟨.str ⟨#[c]⟩,H,I.tok _,⟨_,rfl⟩,q⟩) hs
def yH(a:List Va)(n j:Nat)(u:Va):Obj.mapSeq (·.setIfInBounds j u) { cls:=.type "list",data:=.seq a.toArray n }={ cls:=.type "list",data:=.seq (a.set j u).toArray n }:=by simp[Obj.mapSeq]
theorem Inv.lst{pins:List (Vb×Obj)}{σ:St}{H:Hp}{s:Vc}{p:Vb}{xs:List V}(I:Inv X pins σ H s)(h:H p=Vn (.lst xs)):
  ∃(a:List Va) (n:Nat),Vals xs a/\s.heap.get? p=Vn { cls:=.type "list",data:=.seq a.toArray n }/\xs.length<=sizeLine:=by
 obtain⟨z,a,n,r,e⟩:=I.hok p _ h;exact⟨a,n,r,e,z⟩
def Inv.lstUpd{p:Vb}{ys:List V}{a its':List Va}{n c:Nat}{f:Obj->Obj}(I:Inv X pins σ H s)(h:H p=Vn (.lst xs))
  (ho:s.heap.get? p=Vn { cls:=.type "list",data:=.seq a.toArray n }) (d:f { cls:=.type "list",data:=.seq a.toArray n }={ cls:=.type "list",data:=.seq its'.toArray c }) (r:Vals ys its') (g:ys.length<=sizeLine) (t:Nat) :
  Inv X pins σ (upd H p (.lst ys)) { s with heap:=s.heap.update p f,toks:=t }:=by
 have e:(s.heap.update p f).get? p=Vn { cls:=.type "list",data:=.seq its'.toArray c }:=by rw[Heap.get?_update_self f ho (by rw[d]<;>rfl),d]
 refine I.write (x:=p) (e:=p) (by rw[h];trivial) (.inl rfl) (λb u hb q=>(Heap.get?_update_other _ _ (Ne.symm hb)).trans q) ⟨_,e⟩ ?_;exact⟨g,its',c,r,e⟩
def uT:V->V->V->Hp->(Hp->Prop)->Prop:=λo i v H Q=>∃p xs k j,o=.ref p/\i=.int k/\H p=Vn (.lst xs)/\eL xs.length k=Vn j/\Q (upd H p (.lst (xs.set j v)))
theorem set_list:wH X uT:=by
 intro pins s σ H o i v B C u Q I w x y h;obtain⟨p,xs,k,j,rfl,rfl,d,z,q⟩:=h;cases w;obtain⟨t,rfl⟩:=x;obtain⟨a,n,r,ho,A⟩:=I.lst d;obtain⟨h1,h2,e,g⟩:=vw z;have b:=r.length;have E:=jh;have l:Inv X pins σ (upd H p (.lst (xs.set j v))) { s with heap:=s.heap.update p (Obj.mapSeq (·.setIfInBounds j u)) }:=
  I.lstUpd d ho (yH a n j u) (r.set y j) (by rw[List.length_set];exact A) s.toks
 by_cases m:0<=k
 .have c:k.toNat=j:=by rw[seqIndex_of m g]at h1;exact Fc h1
  exact PySem.W.ki_setAt ho m (by lia) (by rw[EB,<-b];exact g) (by rw[c];exact⟨_,l,q⟩)
 .have c:(k+(a.toArray.size:Int)).toNat=j:=by rw[seqIndex_neg (by lia) e]at h1;rw[EB,<-b];exact Fc h1
  exact PySem.W.ki_setBack ho (by lia) (by rw[EB,<-b];exact e) (by lia) (by rw[c];exact⟨_,l,q⟩)
theorem DF(lo hi:Option Int)(n:Nat):(sliceBounds lo hi Vo n).1=((HT.aR n 0 lo:Nat):Int)/\(sliceBounds lo hi Vo n).2.1=((HT.aR n n hi:Nat):Int)/\(sliceBounds lo hi Vo n).2.2=1:=by
 refine⟨?_,?_,rfl⟩
 .cases lo with
  | none=>simp[sliceBounds,HT.aR]
  | some i=>
   simp only[sliceBounds,HT.aR,Option.getD_none,show (1:Int)>0 by decide,if_true];by_cases h:i<0
   .simp only[h,if_true]<;>lia
   .simp only[h,if_false]<;>lia
 .cases hi with
  | none=>simp[sliceBounds,HT.aR]
  | some i=>
   simp only[sliceBounds,HT.aR,Option.getD_none,show (1:Int)>0 by decide,if_true];by_cases h:i<0
   .simp only[h,if_true]<;>lia
   .simp only[h,if_false]<;>lia
def yq(a:List Va)(lo hi:Option Int):slicePick a.toArray lo hi Vo=((a.drop (HT.aR a.length 0 lo)).take (HT.aR a.length a.length hi-HT.aR a.length 0 lo)).toArray:=by obtain⟨h1,h2,b⟩:=DF lo hi a.toArray.size;unfold slicePick;rw[h1,h2,b];simp only[sliceRange_one,pick_run,EB]<;>rfl
def n5(K:Eo):V->Option Int->Option Int->Hp->VK->Prop:=λx lo hi H Q=>∃a xs,x=.ref a/\ag K H a xs/\∀p,H p=Vo->Q (.ref p) (upd H p (.lst (cH xs lo hi)))
theorem yR:jJ X (n5 X.K):=by intro pins s σ H x v k l lo hi sl Q I d hs e pu h;obtain⟨a,xs,rfl,g,q⟩:=h;cases d;obtain⟨i,r,c,j⟩:=I.list g;have hlen:=r.length;refine⟨"list",_,slot_list_getitem.lookup,c.isList.typeIs,?_⟩;refine wpAny_getItem_list_slice c.isList hs e pu .none (by simp) ?_ (by rw[EB]<;>lia);rw[yq,<-hlen];refine⟨.ref s.heap.objs.size,_,I.laid (t':=s.toks) (o:=.lst (cH xs lo hi)) (λb m q=>Ep _ q) (ER _) ?_,rfl,q _ (I.hok.fresh (ER _))⟩;exact⟨E4 (uS xs lo hi) j,_,0,(r.drop (HT.aR xs.length 0 lo)).take (HT.aR xs.length xs.length hi-HT.aR xs.length 0 lo),Er _ rfl⟩
def fH:V->Bool
 | .non=>true
 | .bl _=>true
 | .int _=>true
 | .str _=>true
 | _=>false
def hG:V->V->Bool
 | .non,.non=>true
 | .bl a,.bl b=>a == b
 | .bl a,.int b=>(if a then 1 else 0) == b
 | .int a,.bl b=>a == (if b then 1 else 0)
 | .int a,.int b=>a == b
 | .str a,.str b=>a == b
 | _,_=>false
def Cp{y x:V}{v:Va}(e:RelV y u)(c:RelV x v)(h:fH y=true)(g:fH x=true):SeqAt.EqAt A s u v (hG y x):=by
 cases y with
 | non=>
  cases e;cases x with
  | non=>cases c;exact SeqAt.EqAt.same _
  | bl b=>cases c;exact SeqAt.EqAt.none_bool b
  | int b=>obtain⟨t,rfl⟩:=c;exact SeqAt.EqAt.none_int b t
  | str b=>obtain⟨t,rfl⟩:=c;exact SeqAt.EqAt.none_str b t
  | _=>exact absurd (show false=true from g) EL
 | bl a=>
  cases e;cases x with
  | non=>cases c;exact SeqAt.EqAt.bool_none a
  | bl b=>cases c;exact SeqAt.EqAt.bool_bool a b
  | int b=>obtain⟨t,rfl⟩:=c;exact SeqAt.EqAt.bool_int a b t
  | str b=>obtain⟨t,rfl⟩:=c;exact SeqAt.EqAt.bool_str a b t
  | _=>exact absurd (show false=true from g) EL
 | int a=>
  obtain⟨d,rfl⟩:=e;cases x with
  | non=>cases c;exact SeqAt.EqAt.int_none a d
  | bl b=>cases c;exact SeqAt.EqAt.int_bool a d b
  | int b=>obtain⟨t,rfl⟩:=c;exact SeqAt.EqAt.int_int a d b t
  | str b=>obtain⟨t,rfl⟩:=c;exact SeqAt.EqAt.int_str a d b t
  | _=>exact absurd (show false=true from g) EL
 | str a=>
  obtain⟨d,rfl⟩:=e;cases x with
  | non=>cases c;exact SeqAt.EqAt.str_none a d
  | bl b=>cases c;exact SeqAt.EqAt.str_bool a d b
  | int b=>obtain⟨t,rfl⟩:=c;exact SeqAt.EqAt.str_int a d b t
  | str b=>obtain⟨t,rfl⟩:=c;exact SeqAt.EqAt.str_str a d b t
  | _=>exact absurd (show false=true from g) EL
 | _=>exact absurd (show false=true from h) EL
def fZ(x:V)(u:Va):Bool:=match u with
 | .none=>hG .non x
 | .bool b=>hG (.bl b) x
 | .int i _=>hG (.int i) x
 | .str z _=>hG (.str z) x
 | _=>false
def qR{x y:V}(r:RelV y u)(f:fH y=true):fZ x u=hG y x:=by
 cases y with
 | non=>cases r;rfl
 | bl b=>cases r;rfl
 | int i=>obtain⟨t,rfl⟩:=r;rfl
 | str z=>obtain⟨t,rfl⟩:=r;rfl
 | _=>exact absurd (show false=true from f) EL
theorem mr{x:V}:∀{xs:List V} {us:List Va},Vals xs us->xs.all fH=true->us.any (fZ x)=xs.any λy=>hG y x
 | _,_,.nil,_=>rfl
 | y::xs,u::us,.cons r t,f=>by rw[List.all_cons,E9]at f;rw[List.any_cons,List.any_cons,qR r f.1,mr t f.2]
theorem mO{A:Vi}{s:Vc}{x:V}{v:Va}(b:RelV x v)(c:fH x=true):∀{xs:List V} {us:List Va},Vals xs us->xs.all fH=true->∀u∈us,SeqAt.EqAt A s u v (fZ x u)
 | _,_,.nil,_=>λu a=>by cases a
 | y::xs,u::us,.cons r t,f=>λd a=>by
  rw[List.all_cons,E9]at f;rcases EK.mp a with rfl|a
  .rw[qR r f.1];exact Cp r b f.1 c
  .exact mO b c t f.2 d a
def jc(x:V)(xs:List V):Bool:=xs.any λy=>hG y x
def lZ(K:Eo)(neg:Bool):R2:=λx y H Q=>∃p xs,y=.ref p/\(ag K H p xs\/ah K H p xs)/\fH x=true/\xs.all fH=true/\Q (.bl (if neg then !jc x xs else jc x xs)) H
def zA:bF X (compareOp .In) (lZ X.K false):=by
 intro pins s σ H x y v u Q I e i h;obtain⟨p,xs,rfl,b,g,fs,q⟩:=h;cases i;rcases b with b|b
 .obtain⟨a,r,c,j⟩:=I.list b;refine SeqAt.in_listAt (fZ x) c.isList (λw d=>mO e g r fs w (by simpa using d)) ⟨.bl _,H,I,rfl,?_⟩;rw[show a.toArray.any (fZ x)=a.any (fZ x) by simp,mr r fs];exact q
 .obtain⟨a,r,c,j⟩:=I.tuple b;refine SeqAt.in_tupleAt (fZ x) c (λw d=>mO e g r fs w (by simpa using d)) ⟨.bl _,H,I,rfl,?_⟩;rw[show a.toArray.any (fZ x)=a.any (fZ x) by simp,mr r fs];exact q
theorem CM:cB X (.builtin "len") (λxs H Q=>∃p ys,xs=[.ref p]/\(ag X.K H p ys\/ah X.K H p ys)/\Q (.int ys.length) H):=by
 intro pins s σ H xs us Q I r h;obtain⟨p,ys,rfl,a,q⟩:=h;obtain⟨u,rfl,e⟩:=vals1 r;cases e;have i:=jh;rcases a with a|a
 .obtain⟨b,c,d,g⟩:=I.list a;have hlen:=c.length;exact Calls.call_len_list d.isList (by simp only[EB]<;>lia) ⟨.int ys.length,H,I.tok _,⟨s.toks+1,by rw[EB,hlen]⟩,q⟩
 .obtain⟨b,c,d,g⟩:=I.tuple a;have hlen:=c.length;exact len_tuple d (by simp only[EB]<;>lia) ⟨.int ys.length,H,I.tok _,⟨s.toks+1,by rw[EB,hlen]⟩,q⟩
theorem CN:cB X (.builtin "len") (λxs H Q=>∃z,xs=[.str z]/\z.length<=sizeLine/\Q (.int z.length) H):=by intro pins s σ H xs us Q I r h;obtain⟨z,rfl,a,q⟩:=h;obtain⟨u,rfl,t,rfl⟩:=vals1 r;have b:=jh;exact len_str (by lia) ⟨.int z.length,H,I.tok _,⟨_,rfl⟩,q⟩
theorem Cz:cB X (.type "tuple") (λxs H Q=>∃p ys,xs=[.ref p]/\((ag X.K H p ys/\∀l,H l=Vo->Q (.ref l) (upd H l (.tup ys)))\/(ah X.K H p ys/\Q (.ref p) H))):=by
 intro pins s σ H xs us Q I r h;obtain⟨p,ys,rfl,h⟩:=h;obtain⟨u,rfl,k⟩:=vals1 r;cases k;rcases h with⟨c,q⟩|⟨c,q⟩
 .obtain⟨a,d,g,i⟩:=I.list c;have hlen:=d.length;refine call_tuple_list g.isList (λh' kp=>?_) (by simp only[EB]<;>lia);have j:Inv X pins σ H { s with heap:=h' }:=I.kept (t':=s.toks) kp;have m:Inv X pins σ (upd H h'.objs.size (.tup ys)) { s with heap:=h'.push { cls:=.type "tuple",data:=.seq a.toArray } }:=
   j.laid (t':=s.toks) (λb o e=>Ep _ e) (ER _) (show bC X.prog X.w _ _ _ (.tup ys)from⟨i,a,d,IsTup.new _ _⟩)
  exact⟨.ref h'.objs.size,_,m,rfl,q _ (j.hok.fresh (ER _))⟩
 .obtain⟨a,d,g,i⟩:=I.tuple c;exact call_tuple_same g ⟨.ref p,H,I,rfl,q⟩
def iS(K:Eo)(T:String)(x:V)(H:Hp):Prop:=match x with
 | .str _=>T = "str"
 | .int _=>T = "int"
 | .ref p=>(T = "list"/\∃xs,ag K H p xs)\/(T = "tuple"/\∃o,K.lookup p=Vn o/\o.cls=.type "tuple"/\o.dict=Vo) ∨
   (T = "dict"/\((∃kvs,H p=Vn (.dK kvs))\/∃kvs,H p=Vn (.dT kvs)))\/(T = "set"/\∃S n,H p=Vn (.set S n))
 | _=>False
def CI{x:V}{v:Va}(I:Inv X pins σ H s)(r:RelV x v)(ty:iS X.K T x H):
  s.TypeIs v T/\∀a,v=.ref a->∃g,s.heap.get? a=Vn g/\g.dict=Vo:=by
 cases x with
 | str z=>
  obtain⟨t,rfl⟩:=r;cases(show T = "str" from ty);exact⟨typeIs_str s z t,λ_ e=>nomatch e⟩
 | int i=>
  obtain⟨t,rfl⟩:=r;cases(show T = "int" from ty);exact⟨typeIs_int s i t,λ_ e=>nomatch e⟩
 | ref p=>
  cases r;rcases ty with⟨rfl,xs,j⟩|⟨rfl,o,b,k,hd⟩|⟨rfl,b⟩|⟨rfl,S,n,b⟩
  .obtain⟨l,_,h,_⟩:=I.list j;refine⟨h.isList.typeIs,λa e=>?_⟩;cases e;obtain⟨o,n,e,c,hd,_⟩:=h;exact⟨o,e,hd⟩
  .refine⟨⟨o,I.kIn p o b,k⟩,λa e=>?_⟩;cases e;exact⟨o,I.kIn _ o b,hd⟩
  .have z:∃o,s.heap.get? p=Vn o/\o.ExactDict:=by
    rcases b with⟨kvs,b⟩|⟨kvs,b⟩
    .obtain⟨_,_,_,_,o,_,_,e,ex,_⟩:=I.hok p _ b;exact⟨o,e,ex⟩
    .obtain⟨_,_,_,_,o,_,_,e,ex,_⟩:=I.hok p _ b;exact⟨o,e,ex⟩
   obtain⟨o,e,ex⟩:=z;refine⟨⟨o,e,ex.1⟩,λa d=>?_⟩;cases d;exact⟨o,e,ex.2.1⟩
  .obtain⟨o,_,_,_,e,ex,_⟩:=I.hok p _ b;refine⟨⟨o,e,ex.1⟩,λa d=>?_⟩;cases d;exact⟨o,e,ex.2.1⟩
 | _=>exact False.elim ty
def nI(K:Eo)(T:String)(r:V->List V->Hp->VK->Prop)(to:TE)(t:TA):TE:=λσ H Q=>to σ H λx H1=>iS K T x H1/\t σ H1 λxs H2=>r x xs H2 Q
variable {o e:Vk} {es:List Vk} {to:TE} {t:TA} {name:Vm} {apos cpos:Pos} {T id:String} {r:V->List V->Hp->VK->Prop}
def yZ(j:PlainAttrs T)(slot:Slot T name id)(g:typeOf (.builtin id)=pure (.type "method_descriptor"))(k:m7 X id r)(ho:PE X o to)(ha:PA X (e::es) t)
  (b:attributeBase o name X.env (eval o X.env)=eval o X.env:=by rfl)
  (d:((backTo cpos (starEach (e::es) X.env)).all (λx=>!x.1) && (backToKw cpos (keywordEach [] X.env)).all (λx=>x.1.isSome)
   && decide ((e::es).length+([]:List Keyword).length+(if([]:List Keyword).isEmpty then 0 else 1)<30))=true:=by rfl)
  (c:(apos.endLine == cpos.line)=true:=by rfl) (hs:starEach (e::es) X.env=(false,eval e X.env)::starEach es X.env:=by rfl) (a:(backTo cpos (starEach es X.env)).any (·.1)=false:=by rfl) :
  PE X (.Call (.Attribute o name apos) (e::es) [] cpos) (nI X.K T r to t):=by
 intro pins s σ H Q I h;refine wpAny_Call_method_late b d c rfl (aH (ho pins s σ H _ I h) λv s1 ⟨x,H1,i,r1,ty,l⟩=>?_);obtain⟨h1,h2⟩:=CI i r1 ty;refine⟨T,id,j,slot,g,h1,h2,?_⟩;have hA:=ha cpos pins s1 σ H1 _ i l;rw[hs]at hA ⊢;refine Calls.callWith_builtin (by show(false || (backTo cpos (starEach es X.env)).any (·.1))=false;rw[a]<;>rfl) (Calls.evalArgs_plain ?_);exact aH hA λus s2 ⟨vs,H2,m,n,p⟩=>k pins s2 σ H2 x vs v us Q m r1 n p
end
def r9(X:Cx)(id:String)(r:V->List V->Hp->VK->Prop):Prop:=
 ∀(pins:List (Vb×Obj)) (s:Vc) (σ:St) (H:Hp) (x:V) (xs:List V) (v:Va) (us:List Va) (Q:VK),Inv X pins σ H s->RelV x v->Vals xs us->r x xs H Q ->
  Vf (Vg X.prog X.w) X.A (call (.builtin id) (v::us)) (EP X pins σ Q) X.xe s
def Vals.one:∀{x:V} {us:List Va},Vals [x] us->∃u,us=[u]/\RelV x u:=vals1
theorem Vals.rep{xs:List V}{us:List Va}(h:Vals xs us):∀k:Nat,Vals (Ff k xs).flatten (Ff k us).flatten
 | 0=>.nil
 | k+1=>by rw[List.replicate_succ,List.replicate_succ,List.flatten_cons,List.flatten_cons];exact Vals.append h (Vals.rep h k)
theorem foldl_rep(a:List Va):∀(k:Nat) (acc:List Va),
  List.foldl (λb c=>b++c) acc.toArray (Ff k a.toArray)=(acc++(Ff k a).flatten).toArray
 | 0,acc=>by simp
 | k+1,acc=>by
  have e:acc.toArray++a.toArray=(acc++a).toArray:=by simp
  have d:(acc++a)++(Ff k a).flatten=acc++(Ff (k+1) a).flatten:=by rw[List.replicate_succ,List.flatten_cons,List.append_assoc]
  rw[<-d,<-foldl_rep a k (acc++a),<-e,List.replicate_succ,List.foldl_cons]
section
variable {X:Cx} {pins:List (Vb×Obj)} {σ:St} {H:Hp} {s:Vc} {l b:Vb} {xs ys zs:List V}
def Inv.lset{a its':List Va}{n:Nat}{f:Array Va->Array Va}{t':Nat}(I:Inv X pins σ H s)(b:H l=Vn (.lst xs))
  (e:s.heap.get? l=Vn { cls:=.type "list",data:=.seq a.toArray n }) (c:f a.toArray=its'.toArray) (d:Vals ys its') (g:ys.length<=sizeLine) :
  Inv X pins σ (upd H l (.lst ys)) { s with heap:=s.heap.update l (Obj.mapSeq f),toks:=t' }:=by
 have q:=PySem.IsL.update e f;rw[c]at q;refine I.write (x:=l) (e:=l) (by rw[b];exact trivial) (.inl rfl) (λi u hb h=>(Heap.get?_update_other s.heap (Obj.mapSeq f) (Ne.symm hb)).trans h) ⟨_,q⟩ ?_;exact⟨g,its',_,d,q⟩
def Inv.lnew{a:List Va}{t':Nat}(I:Inv X pins σ H s)(b:Vals ys a)(c:ys.length<=sizeLine):
  Inv X pins σ (upd H s.heap.objs.size (.lst ys)) { s with heap:=s.heap.push { cls:=.type "list",data:=.seq a.toArray },toks:=t' }:=
 I.laid (λ_ _ q=>Ep _ q) (ER _) ⟨c,a,0,b,Er _ rfl⟩
theorem Inv.fresh(I:Inv X pins σ H s):H s.heap.objs.size=Vo:=I.hok.fresh (ER _)
def Inv.lstM(I:Inv X pins σ H s)(b:H l=Vn (.lst xs)):xs.length<=sizeLine/\∃(a:List Va) (n:Nat),Vals xs a/\xs.length=a.length/\s.heap.get? l=Vn { cls:=.type "list",data:=.seq a.toArray n }:=by obtain⟨z,a,n,r,e⟩:=I.hok l _ b;exact⟨z,a,n,r,r.length,e⟩
theorem wU(h:n<=sizeLine):Builtin.List.listTooLong n=false:=by unfold Builtin.List.listTooLong;exact Fp (by lia)
end
section
variable {X:Cx}
def uA:V->List V->Hp->VK->Prop:=λx vs H Q=>∃l xs y,x=.ref l/\vs=[y]/\H l=Vn (.lst xs)/\xs.length<sizeLine/\Q .non (upd H l (.lst (xs++[y])))
theorem bR:r9 X "list.append" uA:=by intro pins s σ H x vs v us Q I c d h;obtain⟨l,xs,y,rfl,rfl,b,i,q⟩:=h;cases c;obtain⟨u,rfl,g⟩:=d.one;obtain⟨z,a,n,r,j,e⟩:=I.lstM b;refine call_meets F.slot_list_append ⟨_,e,rfl⟩ F.entry_list_append (F.args_list_append_2 _ _) (PySem.list_append l a.toArray n u (by rw[EB];lia)) ⟨e,?_⟩;refine⟨.non,_,I.lset (its':=a++[u]) b e (by simp) (r.append (.cons g .nil)) ?_,rfl,q⟩;rw[EN,List.length_singleton];lia
def Dy:V->List V->Hp->VK->Prop:=λx vs H Q=>∃l b xs zs,x=.ref l/\vs=[.ref b]/\H l=Vn (.lst xs)/\H b=Vn (.lst zs)/\xs.length+zs.length<=sizeLine/\Q .non (upd H l (.lst (xs++zs)))
theorem AN:r9 X "list.extend" Dy:=by
 intro pins s σ H x vs v us Q I j k h;obtain⟨l,b,xs,zs,rfl,rfl,i,m,B,q⟩:=h;cases j;obtain⟨u,rfl,o⟩:=k.one;cases o;obtain⟨z,c,n,r,C,e⟩:=I.lstM i;obtain⟨E,a,p,w,y,A⟩:=I.lstM m;have g:c.toArray.size+a.toArray.size<=sizeLine:=by rw[EB,EB];lia
 have d:¬(!c.toArray.isEmpty && Builtin.List.listTooLong (c.toArray.size+a.toArray.size))=true:=by rw[wU g,Bool.and_false];exact EL
 refine call_meets F.slot_list_extend ⟨_,e,rfl⟩ F.entry_list_extend (F.args_list_extend_2 _ _)
  (AutoSeq1.list_extend_list_list_0 l c.toArray n b a.toArray p d (by rw[EB];lia) (by lia)) ⟨e,A,?_⟩
 refine⟨.non,_,I.lset (its':=c++a) i e (by simp) (r.append w) ?_,rfl,q⟩;rw[EN];lia
def pf:R2:=λx y H Q=>∃l b xs zs,x=.ref l/\y=.ref b/\H l=Vn (.lst xs)/\H b=Vn (.lst zs)/\xs.length+zs.length<=sizeLine/\∀p,H p=Vo->Q (.ref p) (upd H p (.lst (xs++zs)))
theorem mQ:bF X (binaryOp .Add) pf:=by
 intro pins s σ H x y v u Q I d g h;obtain⟨l,b,xs,zs,rfl,rfl,i,j,w,q⟩:=h;cases d;cases g;obtain⟨z,c,n,r,A,e⟩:=I.lstM i;obtain⟨B,a,C,k,m,o⟩:=I.lstM j;refine PySem.P.add_list e o ?_ (by rw[EB,EB];lia);have p:c.toArray++a.toArray=(c++a).toArray:=by simp
 rw[p];exact⟨.ref _,_,I.lnew (t':=s.toks) (r.append k) (by rw[EN];lia),rfl,q _ I.fresh⟩
def pB:R2:=λx y H Q=>∃l k xs,x=.ref l/\y=.int k/\H l=Vn (.lst xs)/\-(2 ^ 63)<=k/\k<2 ^ 63/\xs.length*k.toNat<=sizeLine ∧
 ∀p,H p=Vo->Q (.ref p) (upd H p (.lst (Ff k.toNat xs).flatten))
def len_rep{α:Type}(xs:List α)(k:Nat):(Ff k xs).flatten.length=k*xs.length:=by
 induction k with
 | zero=>simp
 | succ k a=>rw[List.replicate_succ,List.flatten_cons,EN,a,Nat.succ_mul,Nat.add_comm]
theorem jG:bF X (binaryOp .Mult) pB:=by
 intro pins s σ H x y v u Q I w A h;obtain⟨l,k,xs,rfl,rfl,B,h1,h2,p,q⟩:=h;cases w;obtain⟨t,rfl⟩:=A;obtain⟨z,b,n,r,C,e⟩:=I.lstM B;have hlen:b.toArray.size*k.toNat<=sizeLine:=by rw[EB,<-C];exact p
 have d:¬b.toArray.size*k.toNat>(2 ^ 63-1) / 8:=by
  have:(sizeLine:Nat)<=(2 ^ 63-1) / 8:=by decide
  lia
 have g:¬(!Builtin.List.listFitsIndex k)=true:=by rw[fitsIndex_both h1 h2];exact EL
 have c:¬Builtin.List.listTooLong (b.toArray.size*k.toNat)=true:=by rw[wU hlen];exact EL
 have i:List.foldl (λj o=>j++o) #[] (Ff (if b.toArray.isEmpty=true then 0 else k.toNat) b.toArray)=(Ff k.toNat b).flatten.toArray:=by
  have E:∀m:Nat,List.foldl (λj o=>j++o) #[] (Ff m b.toArray)=(Ff m b).flatten.toArray:=λm=>by have:=foldl_rep b m [];rw[List.nil_append]at this;exact this
  rw[E];cases b with
  | nil=>simp
  | cons a G=>rw[Fs (by simp)]
 refine wpAny_binaryOp_repeat_ref (T:="list") (U:="int") (by decide) ⟨_,e,rfl⟩ (λs'=>typeIs_int s' k t) noFill_list_mul F.fills_int_mul F.slot_int_rmul repeat_list F.slot_int_index.lookup
  (call_meets F.slot_int_rmul (typeIs_int s k t) F.entry_int_rmul (F.args_int_rmul_2 _ _) (int___rmul___int_list k t l b.toArray n)
   ⟨e,rfl,⟨_,e,rfl⟩,call_meets F.slot_list_mul ⟨_,e,rfl⟩ F.entry_list_mul (F.args_list_mul_2 _ _) (AutoListH.list___mul___list_int_3 l b.toArray n k t g d c) ⟨e,?_⟩⟩)
 rw[i];exact⟨.ref _,_,I.lnew (t':=s.toks) (r.rep k.toNat) (by rw[len_rep,Nat.mul_comm];exact p),rfl,q _ I.fresh⟩
end
end L2
namespace Att
open PySem PySem.W PySem.Calls PyProof.Rows
def zP{P:Params}:∀(ns:List Int) (vs:List Va),WellAll P h vs (ns.map WData.int)->IntsAre vs ns:=by
 intro ns;induction ns with
 | nil=>
  intro vs w;rw[List.map_nil]at w;cases w;exact .nil
 | cons n ns c=>
  intro vs w;rw[List.map_cons]at w;cases w with
  | cons a b=>
   cases a;exact .cons _ _ (c _ b)
def xl{l:OpenLaw}(k:l.most=Vn n){P:Params}{args:List WData}{vals:List Va}
  (b:l.row.toRowW.claim.pre args=true) (g:WellAll P h vals args) :
  ∃a vs ns,vals=[Value.ref a]/\args=[WData.list (ns.map WData.int)]/\h.get? a=Vn { cls:=.type "list",data:=.seq vs.toArray }/\IntsAre vs ns/\ns.length<=n:=by
 have i:WShape.hasAll [] args [.list .int]=true:=(pre_splitW b).1;have j:l.pre.holds [] { args:=args }=true:=(pre_splitW b).2;obtain⟨d,r,rfl,h1,h2⟩:=hasAllW_cons i;obtain rfl:=hasAllW_nil h2;obtain⟨xs,rfl,m⟩:=hasW_list h1;obtain⟨ns,rfl⟩:=items_int m;have hlen:ns.length<=n:=by
  unfold OpenLaw.pre at j;have c:(WTm.not (.lt (.lit (.int (n:Int))) (.len (.arg 0)))).holds [] { args:=[.list (ns.map .int)] }=true:=by have c:=(holds_andW j).1;rw[k]at c;exact c
  have e:=condW_of c (w_not (w_lt w_lit (w_len_list (w_arg rfl))));rw[Ew]at e;refine Nat.le_of_not_lt λq=>?_;have o:(n:Int)<((ns.length:Nat):Int):=by omega
  first
   | (rw[Fq o]at e;exact absurd e (by decide))
   | (simp at e;omega)
 cases g with
 | cons p s=>
  cases s;cases p with
  | list ho hall=>exact⟨_,_,ns,rfl,rfl,ho,zP ns _ hall,hlen⟩
def xk(l:OpenLaw)(args:List WData):l.row.toRowW.claim.post args (.bool true) args=true:=
 postW_of (r:=l.row.toRowW) (X:=(true == true))
  (show WShape.has [] (.bool true) .bool=true by first|rfl|decide|simp [WShape.has,WShape.arms,WShape.armsAll])
  (show(WTm.eq .res (.lit (.bool true))).value [] { args:=args,res:=Vn (.bool true),after:=args }=Vn (.bool (true == true))from w_eq_bool (w_res rfl) w_lit) rfl
def Bd{l:OpenLaw}{q:Vd}{m:(Vm->Option Va)->Vh->Prop}{p:Ve->Vh->Prop}{d:DefRec}
  (v:l.most=Vn n) (h:d.params.defaults=[])
  (call:∀(w:Ve) (s₀ b:Vc) (mg mb:Vm->Option Va) (c:Vb) (o:Obj) (pm cd doc:Va) (a:Vb) (vs:List Va) (ns:List Int),
   Ground q loose [] m w s₀ mg mb b.heap->p w b.heap ->
   b.heap.get? c=Vn o->o.data=.func (docDef d.name d.params d.body d.scope pm cd doc)->b.heap.CodeRec cd d.name->mg d.name=Vn (.ref c) ->
   b.heap.get? a=Vn { cls:=.type "list",data:=.seq vs.toArray }->IntsAre vs ns->ns.length<=n->b.gens = #[] ->
   codeAny (Vg l.prog w) callerA (.call (.ref c) ⟨[.ref a],[]⟩) (λr s'=>r=.ok (.ret (.bool true))/\OldK b.heap s'.heap/\s'.os=b.os/\AllBare s'.gens) b) :
  WalkO q loose m p l.row.toRowW d [] (λf vs=>PySem.call f vs):=by
 intro w s₀ b mg mb G Y c o pm cd doc x kV ho hd i s j y args vals as e u z k A;obtain rfl:x=.none:=Dflts.none s h;obtain rfl:kV=.none:=Dflts.noKw s;obtain⟨a,vs,ns,rfl,rfl,g,hints,hlen⟩:=xl v e k;refine enter_call (codeAny_mono (call w s₀ b mg mb c o pm cd doc a vs ns G Y ho (fd_plain hd) i j g hints hlen y) λr s' B=>?_);obtain⟨rfl,h2,C,E⟩:=B;exact⟨.inl ⟨.bool true,.bool true,[],rfl,λ_=>rfl,.bool true,xk l _,λ_=>⟨List.Pairwise.nil,λ_ F=>(nomatch F)⟩⟩,h2,C,E⟩
end Att
namespace L2
open PySem PySem.Spec PyProof.Rows
theorem tD:∀{vs:List Va} {ns:List Int},IntsAre vs ns->Vals (ns.map V.int) vs
 | _,_,.nil=>.nil
 | _,_,.cons n t h=>.cons ⟨t,rfl⟩ (tD h)
def gQ(s:Stmt):Arguments:=match s with
 | .FunctionDef _ a _ _ _ _ _ _ _ _=>a
 | _=>{ posonlyargs:=[],args:=[],vararg:=Vo,kwonlyargs:=[],kw_defaults:=[],kwarg:=Vo,defaults:=[] }
def eD(s:Stmt):List Stmt:=match s with
 | .FunctionDef _ _ b _ _ _ _ _ _ _=>b
 | _=>[]
def cx(s:Stmt):Scope:=match s with
 | .FunctionDef _ _ _ _ _ _ sc _ _ _=>sc
 | _=>{ kind:=.function,names:=[],isGenerator:=false,isCoroutine:=false }
abbrev dv:gm:=λ_ _ _ _ _ _=>False
abbrev E0:XK:=λ_ _ _=>False
def Dt:Passes dv X E0:=λ_ _ _ _ _ _ _ h=>h.elim
structure Fun(K:Eo)(x qual:Vm)(st:Stmt)(f:Vb)(fd:Vl):Prop where
 ex:∃(oc:Va) (od:Option Vb) (kV doc pm:Va) (an:Option Vb) (cdv ct:Va) (osl:Array (Option Va)),
  fd=PySem.W.fnOf x qual (gQ st) (eD st) (cx st) .none kV doc pm an cdv ct/\K.lookup f=Vn ⟨oc,od,.func fd,osl⟩/\PySem.W.codeIn K cdv qual=true
 kp:PySem.W.keepIn K (.ref f)=true
section
variable {P:Vd} {w:Ve} {K:Eo} {mg:Vm->Option Va} {base:Vh}
def Fun.ok{x:Vm}{st:Stmt}{f:Vb}{k:Nat}(F:Fun K x qual st f fd)(S:FnScope N ps (cx st))(len:∀vs H Q E,sp vs H Q E->vs.length=ps.length)
  (a:∀(cdv:Va) (A:Vi) (outer:List Env) (s:Vc) (H:Hp) (vs:List V) (Q:VK) (E:XK),Room k (A.deeper (envOfC qual (cx st) s.heap.objs.size f cdv))->sp vs H Q E ->
   ∃t,cR (eX dv P w K mg base N qual (cx st) f cdv A outer s H E).nox (eD st) t/\t { nx:=λ_ H'=>Q .non H',rt:=Q } (start N vs) H):FnOk P w K mg base dv (k+1) f fd ps sp:=by
 obtain⟨oc,od,kV,doc,pm,an,cdv,ct,osl,rfl,c,b⟩:=F.ex;refine wK c b S len λA outer s H vs Q E d hsp=>?_;obtain⟨t,h,q⟩:=a cdv A outer s H vs Q E d hsp;exact⟨t,h.nox,q⟩
def Fun.binds{x:Vm}{st:Stmt}{f:Vb}(F:Fun K x qual st f fd)
  (h:∀(kV doc pm:Va) (an:Option Vb) (cdv ct:Va) (us:List Va),us.length=ps.length->bindArgs (PySem.W.fnOf x qual (gQ st) (eD st) (cx st) .none kV doc pm an cdv ct) ⟨us,[]⟩=pure (ps.zip us)):Binds K fd ps []:=by
 obtain⟨oc,od,kV,doc,pm,an,cdv,ct,osl,rfl,b,a⟩:=F.ex;exact .all (h kV doc pm an cdv ct)
def oJ{x:Vm}{st:Stmt}{f:Vb}{oc:Va}{od an:Option Vb}{osl:Array (Option Va)}{kV doc cdv ct:Va}(l:K.lookup f=Vn ⟨oc,od,.func (PySem.W.fnOf x qual (gQ st) (eD st) (cx st) .none kV doc pm an cdv ct),osl⟩)
  (c:PySem.W.codeIn K cdv qual=true) (k:PySem.W.keepIn K (.ref f)=true):Fun K x qual st f (PySem.W.fnOf x qual (gQ st) (eD st) (cx st) .none kV doc pm an cdv ct):=⟨⟨oc,od,kV,doc,pm,an,cdv,ct,osl,rfl,l,c⟩,k⟩
end
def dM{k:Nat}(a:Room k A):A.units+1<cLine:=Nat.lt_of_le_of_lt (Nat.add_le_add_left (by decide:1<=64) _) a.units
section
variable {X:Cx}
def pv(i:Nat){x:Vm}{pos:Pos}(b:X.N[i]?=Vn x:=by rfl)(c:lG X.env.scope x:=by first|exact Or.inl rfl|exact Or.inr (Or.inl rfl)|exact Or.inr (Or.inr rfl))(hd:(x == ("__debug__":Vm))=false:=by decide)
  (a:(x == ("__classdict__":Vm))=false:=by decide):PE X (.Name x pos) (nG i):=A5 b c hd a
end
def ax{A B:Prop}(h:B):if false=true then A else B:=by rw[Fs EL];exact h
def aC{A B:Prop}(h:A):if true=true then A else B:=by rw[Ft rfl];exact h
def gH{c A B:Prop}[Decidable c](h1:c->A)(h2:¬c->B):if c then A else B:=by
 by_cases h:c
 .rw[Ft h];exact h1 h
 .rw[Fs h];exact h2 h
structure Blk where
 s:Vc
 H:Hp
 fp:List Vb
 C:Vb
def dA(names:List (Vm×NameKind))(cells:List (Vm×Vb)):List (Vm×Vb):=
 names.foldl (λacc p=>if p.2 == .free then(p.1,(cells.lookup p.1).getD 0)::acc else acc) []
def CL(sc out:Scope):Bool:=sc.names.all λp=>p.2 != .cell && (p.2 != .local || sc.names.lookup p.1 == Vn .local) && (p.2 != .free || out.names.lookup p.1 == Vn .cell || out.names.lookup p.1 == Vn .free)
def kO(sc:Scope)(N:List Vm)(js:List Nat):Bool:=js.all λj=>decide (j<N.length) && (sc.names.lookup (N.getD j "") == Vn .free)
def dD(n:Nat)(js:List Nat)(σ:St):St:=Ff n Vo++js.map λj=>(σ[j]?).join
theorem kN(cells:List (Vm×Vb)):∀(names:List (Vm×NameKind)) (acc:List (Vm×Vb)) (x:Vm) (c:Vb),
  (names.foldl (λacc p=>if p.2 == .free then(p.1,(cells.lookup p.1).getD 0)::acc else acc) acc).lookup x=Vn c ->
  ((x,NameKind.free)∈names/\c=(cells.lookup x).getD 0)\/acc.lookup x=Vn c
 | [],acc,x,c,h=>.inr h
 | (n,k)::r,acc,x,c,h=>by
  rw[List.foldl_cons]at h;rcases kN cells r _ x c h with⟨h1,h2⟩|h1
  .exact .inl ⟨Ez _ h1,h2⟩
  .cases a:(k == NameKind.free)with
   | false=>
    simp only[a]at h1;exact .inr h1
   | true=>
    simp only[a,if_true]at h1;rw[Fj]at h1;cases b:(x == n)with
    | false=>rw[b]at h1;exact .inr h1
    | true=>
     rw[b]at h1;have d:x=n:=by simpa using b
     have e:k=.free:=by simpa using a
     subst d e;exact .inl ⟨EC,(Fc h1).symm⟩
theorem wy(cells:List (Vm×Vb)):∀(names:List (Vm×NameKind)) (acc:List (Vm×Vb)) (x:Vm),
  ((x,NameKind.free)∈names\/(acc.lookup x).isSome=true)->((names.foldl (λacc p=>if p.2 == .free then(p.1,(cells.lookup p.1).getD 0)::acc else acc) acc).lookup x).isSome=true
 | [],acc,x,h=>by
  rcases h with h|h
  .simp at h
  .exact h
 | (n,k)::r,acc,x,h=>by
  rw[List.foldl_cons];apply wy cells r;rcases h with h|h
  .rcases EK.mp h with e|h
   .right;cases e;simp[Fj]
   .exact .inl h
  .right;cases a:(k == NameKind.free)with
   | false=>simpa[a]using h
   | true=>
    simp only[a,if_true,Fj];cases b:(x == n)with
    | true=>rfl
    | false=>exact h
def nU(h:∀p∈sc.names,p.2=.free->∃c,env.cells.lookup p.1=Vn c):closureFor sc env=pure (dA sc.names env.cells):=by
 have go:∀(names:List (Vm×NameKind)) (acc:List (Vm×Vb)),(∀p∈names,p.2=NameKind.free->∃c,env.cells.lookup p.1=Vn c) ->
   (forIn names acc λ(p:Vm×NameKind) (r:List (Vm×Vb))=>(match p with|(name,kind)=>if(kind == NameKind.free)=true then do let c <-cellOf env name;pure (ForInStep.yield ((name,c)::r))else pure (ForInStep.yield r):Sem _)) =
   pure (names.foldl (λacc p=>if p.2 == .free then(p.1,(env.cells.lookup p.1).getD 0)::acc else acc) acc):=by
  intro names;induction names with
  | nil=>intro acc _;rfl
  | cons p r i=>
   intro acc a;obtain⟨n,k⟩:=p;rw[List.forIn_cons,List.foldl_cons];cases b:(k == NameKind.free)with
   | false=>
    simp only[b,Fg,if_false];exact i acc λq d=>a q (Ez _ d)
   | true=>
    obtain⟨c,j⟩:=a (n,k) EC (by simpa using b);have e:cellOf env n=pure c:=by unfold cellOf;rw[show env.cells.lookup n=Vn c from j]
    simp only[b,if_true,e];have g:env.cells.lookup n=Vn c:=j;rw[g];exact i _ λq d=>a q (Ez _ d)
 unfold closureFor dA;have:=go sc.names [] h;simp only[this];rfl
def jx(X:Cx)(ifs:List Vk)(t:TT):Prop:=
 ∀(pins:List (Vb×Obj)) (s:Vc) (σ:St) (H:Hp) (Q:Bool->Hp->Prop),Inv X pins σ H s->t σ H Q ->
  Vf (Vg X.prog X.w) X.A (forIn ifs true λc r=>if r=true then do let ok <-isTrue c X.env (eval c X.env);pure (ForInStep.yield ok)else pure (ForInStep.yield r)) (TP X pins σ Q) X.xe s
def vB:TT:=λ_ H Q=>Q true H
def cz:jx X [] vB:=λ_ _ _ H _ I h=>wpAny_tests_nil ⟨H,I,h⟩
def gj{c:Vk}{t:TT}(h:PT X c t):jx X [c] t:=λpins s σ H Q I a=>wpAny_tests_one (h pins s σ H Q I a)
def xr{R:Result->Vc->Prop}{j:Vc}{elt a iter:Vk}{ifs:List Vk}{sc:Scope}{ps:Pos}{b acc:Va}{ce:Env}(d:Nat->Vc->Prop)
  (step:∀k t,d k t->Vf (Vg prog w) A (pyNext b) (λgot g=>
   match got with
   | none=>R (.ok .next) g
   | some u=>Vf (Vg prog w) A (letOwnedTupleGo a b u) (λ_ l=>Vf (Vg prog w) A (assign a ce u) (λ_ n=>
     Vf (Vg prog w) A (forIn ifs true λc r=>if r=true then do let ok <-isTrue c ce (eval c ce);pure (ForInStep.yield ok)else pure (ForInStep.yield r)) (λyes i=>
      if yes=true then Vf (Vg prog w) A (eval elt ce) (λval o=>Vf (Vg prog w) A (call (.builtin "list.append") [acc,val]) (λ_ p=>∃m,m<k/\d m p) (λ_ _=>False) o) (λ_ _=>False) i
      else ∃m,m<k/\d m i) (λ_ _=>False) n) (λ_ _=>False) l) (λ_ _=>False) g) (λ_ _=>False) t)
  (k0:Nat) (start:d k0 j):codeAny (Vg prog w) A (.compLoop (.ListComp elt [⟨a,iter,ifs,0⟩] sc ps) 0 b acc ce) R j:=by
 refine codeAny_loop rfl d (λk t s=>?turn) k0 start
 case turn=>
  have nox:∀{α:Type} {m:Sem α} {Q:α->Vc->Prop} {E:Va->Vc->Prop} {z:Vc},Vf (Vg prog w) A m Q (λ_ _=>False) z->Vf (Vg prog w) A m Q E z:=λh=>wpAny_mono h (λ_ _ q=>q) λ_ _ f=>f.elim;show Vf _ A ((compTurn (.ListComp elt [⟨a,iter,ifs,0⟩] sc ps) 0 b acc ce).onRaise (λx=>do noteFrame x ce;theTreesLotGoes x)) _ _ t;apply wpAny_noted;rw[compTurn_list];refine Em (wpAny_standAt (Em (nox (wpAny_mono (step k t s) (λgot g h1=>?_) λ_ _ f=>f))));cases got with
  | none=>exact En h1
  | some u=>
   refine Em (nox (wpAny_mono h1 (λ_ l h2=>?_) λ_ _ f=>f));refine Em (nox (wpAny_mono h2 (λ_ n v=>?_) λ_ _ f=>f));refine Em (nox (wpAny_mono v (λyes i e=>?_) λ_ _ f=>f));cases yes with
   | false=>
    rw[Fs EL]at e;exact En ⟨rfl,e⟩
   | true=>
    rw[Ft rfl]at e;refine Em (Em (nox (wpAny_mono e (λval o y=>?_) λ_ _ f=>f)));exact Em (nox (wpAny_mono y (λ_ p B=>En (En ⟨rfl,B⟩)) λ_ _ f=>f))
section
variable {X:Cx} {pins:List (Vb×Obj)} {σ:St} {H:Hp} {s:Vc}
def fi(a:List Va)(n:Nat):Obj:={ cls:=.type "list",data:=.seq a.toArray n }
def El(h:CL sc out=true)(a:p∈sc.names)(b:p.2=.free):out.names.lookup p.1=Vn .cell\/out.names.lookup p.1=Vn .free:=by have:=E6.mp h p a;simp only[b,E9,Bool.or_eq_true,beq_iff_eq,bne_iff_ne,ne_eq,not_true,false_or]at this;exact this.2
theorem lj{sc:Scope}{env:Env}{x:Vm}:∀{names:List (Vm×NameKind)} {k:NameKind},(names.map λ(p:Vm×NameKind)=>match p with|(n,k)=>if(k == NameKind.free && env.scope.kind == .function && env.kindOf n == Vn .cell)then(n,NameKind.cell)else(n,k)).lookup x=Vn k ->
  ∃c,names.lookup x=Vn c/\(c=k\/(c=.free/\k=.cell))
 | [],_,h=>by simp at h
 | (n,q)::r,k,h=>by
  rw[List.map_cons]at h;rw[Fj];cases b:(x == n)with
  | true=>
   refine⟨q,rfl,?_⟩;by_cases a:(q == NameKind.free && env.scope.kind == .function && env.kindOf n == Vn .cell)=true
   .simp only[a,if_true,Fj,b]at h;right;simp only[E9,beq_iff_eq]at a;exact⟨a.1.1,(Fc h).symm⟩
   .left;have h2:List.lookup x ((n,q)::(r.map λ(p:Vm×NameKind)=>match p with|(n,k)=>if(k == NameKind.free && env.scope.kind == .function && env.kindOf n == Vn .cell)then(n,NameKind.cell)else(n,k)))=Vn k:=by have d:=h;dsimp only at d;rw[Fs a]at d;exact d
    rw[Fj,b]at h2;exact Fc h2
  | false=>
   have:List.lookup x (r.map λ(p:Vm×NameKind)=>match p with|(n,k)=>if(k == NameKind.free && env.scope.kind == .function && env.kindOf n == Vn .cell)then(n,NameKind.cell)else(n,k))=Vn k:=by
    by_cases a:(q == NameKind.free && env.scope.kind == .function && env.kindOf n == Vn .cell)=true
    .simpa only[a,if_true,Fj,b]using h
    .dsimp only at h;rw[Fs a,Fj,b]at h;exact h
   exact lj (sc:=sc) this
def iX{names:List (Vm×NameKind)}{x:Vm}{k:NameKind}(h:names.lookup x=Vn k):(x,k)∈names:=PySem.mem_of_lookup h
def wI{x:Vm}(h:(x,NameKind.free)∈sc.names):∃c,(dA sc.names cells).lookup x=Vn c:=
 Option.isSome_iff_exists.mp (wy cells sc.names [] x (.inl h))
def Inv.stk_lt(I:Inv X pins σ H s){b:Vb}(hb:b∈dH X.stack):b<s.heap.objs.size:=by
 rcases EK.mp (I.stkSub b hb)with e|h
 .rw[e];exact I.lt
 .obtain⟨_,o,ho,_⟩:=I.ok.funs.mem h;exact E3 (Es ho) I.sz
def Inv.cell_lt(I:Inv X pins σ H s){x:Vm}(h:X.env.cells.lookup x=Vn c):c<s.heap.objs.size:=by obtain⟨v,q⟩:=I.cell x c h;exact q.lt
def Inv.pin_lt(I:Inv X pins σ H s){p:Vb×Obj}(h:p∈X.pn++pins):p.1<s.heap.objs.size:=Es (I.pin p h).1
theorem ph{i:Nat}(h:(dD n js σ)[i]?=Vn (Vn v)):∃k j,i=n+k/\js[k]?=Vn j/\σ[j]?=Vn (Vn v):=by
 unfold dD at h;by_cases hi:i<n
 .rw[EW (by simpa using hi),List.getElem?_replicate]at h;split at h<;>cases h
 .rw[EV (by simpa using Nat.le_of_not_lt hi),List.length_replicate,Ey]at h;cases e:js[i-n]? with
  | none=>rw[e]at h;cases h
  | some j=>
   rw[e]at h;refine⟨i-n,j,by lia,e,?_⟩;have h':(σ[j]?).join=Vn v:=by simpa using h
   cases q:σ[j]? with
   | none=>rw[q]at h';cases h'
   | some o=>
    rw[q]at h';have:o=Vn v:=h';rw[this]
def ip(J:It)(n:Nat)(js:List Nat)(g:TG)(tc:TT)(te:TE)(σ:St)(H:Hp)(Q:VK):Prop:=
 ∃W:Nat->Nat->List V->Hp->Prop,(∃m,W 0 m [] H)/\∀i m ys H',W i m ys H' ->
  (J.stop i H'/\∀p,H' p=Vo->Q (.ref p) (upd H' p (.lst ys))) ∨
  (J.go i H'/\ys.length<sizeLine/\∃N:List V->Hp->Prop,(∀a H2,N a H2->∃d,d<m/\W (i+1) d a H2)/\∀x H2,J.yld i H' x H2->g x (dD n js σ) H2 λc h=>tc c h λb e=>
   if b=true then te c e λv j=>N (ys++[v]) j else N ys e)
def mM(n:Nat)(js:List Nat)(a:TI)(g:TG)(tc:TT)(te:TE):TE:=λσ H Q=>a σ H λJ H1=>ip J n js g tc te σ H1 Q
structure TurnAt(X:Cx)(tg:Vk)(J:It)(fp:List Vb)(it:Vb)(tn:Nat->Vh->Prop):Prop where
 obj:∀i h,tn i h->∀b∈fp,∃o,h.get? b=Vn o/\∀v,o.data≠.cell v
 keep:∀i h h',tn i h->(∀b∈fp,∀o,h.get? b=Vn o->h'.get? b=Vn o)->tn i h'
 item:∀(i:Nat) (pins:List (Vb×Obj)) (s:Vc) (σ:St) (H:Hp) (E:Va->Vc->Prop),Inv X pins σ H s->(∀b∈fp,cE X pins H b)->tn i s.heap->J.go i H ->
  Vf (Vg X.prog X.w) X.A (pyNext (.ref it)) (λr s1=>∃u,r=Vn u ∧
   Vf (Vg X.prog X.w) X.A (letOwnedTupleGo tg (.ref it) u) (λ_ s2=>∃x H',Inv X pins σ H' s2/\RelV x u/\J.yld i H x H'/\tn (i+1) s2.heap/\∀b∈fp,H' b=Vo) E s1) E s
 done:∀(i:Nat) (pins:List (Vb×Obj)) (s:Vc) (σ:St) (H:Hp) (E:Va->Vc->Prop),Inv X pins σ H s->(∀b∈fp,cE X pins H b)->tn i s.heap->J.stop i H ->
  Vf (Vg X.prog X.w) X.A (pyNext (.ref it)) (λr s1=>r=Vo/\Inv X pins σ H s1) E s
 self:∀(A:Vi) (i:Nat) (s:Vc) (Q:Va->Vc->Prop) (E:Va->Vc->Prop),tn i s.heap->Q (.ref it) s->Vf (Vg X.prog X.w) A (pyIter (.ref it)) Q E s
def Turn.at_{Y:Cx}{J:It}{it:Vb}{tn:Nat->Vh->Prop}(T:Turn Y.prog Y.w Y.K tg J fp it tn)(a:Y.calm=true):TurnAt Y tg J fp it tn:=⟨T.obj,T.keep,T.item Y rfl rfl rfl a,T.done Y rfl rfl rfl a,T.self⟩
end
theorem dP{K:Eo}{te:TE}{Q:VK}(Pv:Nat->List V->Hp->Prop)(u:xs.length<=sizeLine)(j:Pv 0 [] H)(k:∀i ys H,i<=xs.length->Pv i ys H->ag K H a xs/\ys.length<=i)
  (hs:∀i x ys H,xs[i]?=Vn x->Pv i ys H->g x (dD n js σ) H λc l=>tc c l λb h=>if b=true then te c h λv o=>Pv (i+1) (ys++[v]) o else Pv (i+1) ys h)
  (hd:∀ys H p,Pv xs.length ys H->H p=Vo->Q (.ref p) (upd H p (.lst ys))):ip (dJ K a) n js g tc te σ H Q:=by
 refine⟨λi m ys H=>m=xs.length-i/\i<=xs.length/\Pv i ys H,⟨xs.length,by simp,Nat.zero_le _,j⟩,?_⟩;rintro i m ys H ⟨rfl,hi,p⟩;have q:=k i ys H hi p;by_cases hlt:i<xs.length
 .refine .inr ⟨⟨xs,xs[i],q.1,by simp[hlt]⟩,by have:=q.2;lia,Pv (i+1),λr H' d=>⟨xs.length-(i+1),by lia,rfl,hlt,d⟩,λx H' y=>?_⟩;obtain⟨e,y⟩:=y;subst e;exact hs i x ys _ (y xs q.1) p
 .have e:i=xs.length:=by lia
  subst e;exact .inl ⟨⟨xs,q.1,ER _⟩,λd s=>hd ys H d p s⟩
theorem jv{K:Eo}{te:TE}{Q:VK}(Pv:Nat->List V->Hp->Prop)(u:xs.length<=sizeLine)(j:Pv 0 [] H)(k:∀i ys H,i<=xs.length->Pv i ys H->ah K H a xs/\ys.length<=i)
  (hs:∀i x ys H,xs[i]?=Vn x->Pv i ys H->g x (dD n js σ) H λc l=>tc c l λb h=>if b=true then te c h λv o=>Pv (i+1) (ys++[v]) o else Pv (i+1) ys h)
  (hd:∀ys H p,Pv xs.length ys H->H p=Vo->Q (.ref p) (upd H p (.lst ys))):ip (cZ K a) n js g tc te σ H Q:=by
 refine⟨λi m ys H=>m=xs.length-i/\i<=xs.length/\Pv i ys H,⟨xs.length,by simp,Nat.zero_le _,j⟩,?_⟩;rintro i m ys H ⟨rfl,hi,p⟩;have q:=k i ys H hi p;by_cases hlt:i<xs.length
 .refine .inr ⟨⟨xs,xs[i],q.1,by simp[hlt]⟩,by have:=q.2;lia,Pv (i+1),λr H' d=>⟨xs.length-(i+1),by lia,rfl,hlt,d⟩,λx H' y=>?_⟩;obtain⟨e,y⟩:=y;subst e;exact hs i x ys _ (y xs q.1) p
 .have e:i=xs.length:=by lia
  subst e;exact .inl ⟨⟨xs,q.1,ER _⟩,λd s=>hd ys H d p s⟩
theorem gG{lo:Int}{N:Nat}{te:TE}{Q:VK}(Pv:Nat->List V->Hp->Prop)(s:N<=sizeLine)(h:Pv 0 [] H)(j:∀i ys H,i<=N->Pv i ys H->ys.length<=i)
  (hs:∀i ys H,i<N->Pv i ys H->g (.int (lo+i)) (dD n js σ) H λa k=>tc a k λb d=>if b=true then te a d λv l=>Pv (i+1) (ys++[v]) l else Pv (i+1) ys d)
  (hd:∀ys H p,Pv N ys H->H p=Vo->Q (.ref p) (upd H p (.lst ys))):ip (eI lo N) n js g tc te σ H Q:=by
 refine⟨λi m ys H=>m=N-i/\i<=N/\Pv i ys H,⟨N,by simp,Nat.zero_le _,h⟩,?_⟩;rintro i m ys H ⟨rfl,hi,p⟩;have q:=j i ys H hi p;by_cases hlt:i<N
 .refine .inr ⟨hlt,by lia,Pv (i+1),λo H' c=>⟨N-(i+1),by lia,rfl,hlt,c⟩,λx H' y=>?_⟩;obtain⟨e,y⟩:=y;subst e y;exact hs i ys _ hlt p
 .have e:i=N:=by lia
  subst e;exact .inl ⟨ER _,λc r=>hd ys H c p r⟩
structure Cal(P:Vd)(w:Ve)(K:Eo)(mg:Vm->Option Va)(base:Vh)(x:Vm)(k:Nat)(ps:List Vm)(sp:Sp):Prop where
 ex:∃(f:Vb) (fd:Vl),mg x=Vn (.ref f)/\PySem.W.keepIn K (.ref f)=true/\Binds K fd ps []/\FnOk P w K mg base dv k f fd ps sp
structure Dfn(K:Eo)(mg:Vm->Option Va)(x:Vm)(st:Stmt)(ps:List Vm):Prop where
 ex:∃(f:Vb) (fd:Vl),mg x=Vn (.ref f)/\Fun K x x st f fd/\Binds K fd ps []
section
variable {P:Vd} {w:Ve} {K:Eo} {mg:Vm->Option Va} {base:Vh}
theorem Dfn.ok{x:Vm}{st:Stmt}{N ps:List Vm}{k:Nat}{sp:Sp}(D:Dfn K mg x st ps)(S:FnScope N ps (cx st))(len:∀vs H Q E,sp vs H Q E->vs.length=ps.length)
  (a:∀(X:Cx) (d:∃f cdv A outer s H E,X=(eX dv P w K mg base N x (cx st) f cdv A outer s H E).nox/\Room k X.A) (H:Hp) (vs:List V) (Q:VK) (E:XK),sp vs H Q E ->
   ∃t,cR X (eD st) t/\t { nx:=λ_ H'=>Q .non H',rt:=Q } (start N vs) H):Cal P w K mg base x (k+1) ps sp:=by
 obtain⟨f,fd,b,F,hb⟩:=D.ex;exact⟨f,fd,b,F.kp,hb,F.ok S len λcdv A outer s H vs Q E c h=>a _ ⟨f,cdv,A,outer,s,H,E,rfl,c⟩ H vs Q E h⟩
end
section
variable {X:Cx}
def aB{x:Vm}{k j:Nat}{e:Vk}{es:List Vk}{t:TA}{p pos:Pos}(C:Cal X.prog X.w X.K X.mg X.base x j ps sp)(d:Room k X.A)(ha:PA X (e::es) t)(a:j<=k:=by decide)(g:Gl X x:=by rfl)(b:(x == ("__debug__":Vm))=false:=by decide)
  (h:starEach (e::es) X.env=(false,eval e X.env)::starEach es X.env:=by rfl) (c:(backTo pos (starEach es X.env)).any (·.1)=false:=by rfl) :
  PE X (.Call (.Name x p) (e::es) [] pos) (lN sp [] E0 t):=by
 obtain⟨f,fd,i,l,hb,F⟩:=C.ex;exact xV F (d.mono a) g i l hb .nil Dt ha b h c
theorem me:bF X (binaryOp .FloorDiv) (rI (λ_ j=>0<j/\j<2 ^ 64) λi j=>.int (i / j)):=lE λi j _ _ _ _ _ b q=>by
 have h1:(0:Int)<j:=b.1;have h2:j<2 ^ 64:=b.2;refine floordiv_int (by omega) (by rw[Int.fdiv_eq_ediv_of_nonneg i (by omega)];exact q) (.inl (PyProof.noPylong_of_log2 ?_));have c:j.natAbs≠0:=by omega
 have a:j.natAbs<2 ^ 64:=by omega
 have:=(Nat.log2_lt c).mpr a;lia
def fJ(H:Hp):V->String->Prop
 | .non,n=>n = "NoneType"
 | .bl _,n=>n = "bool"
 | .int _,n=>n = "int"
 | .str _,n=>n = "str"
 | .ref a,n=>(n = "list"/\∃xs,H a=Vn (.lst xs))\/(n = "tuple"/\∃xs,H a=Vn (.tup xs))
 | _,_=>False
def fJ.ty{K:Eo}{x:V}{n:String}(h:fJ H x n):TyOf K H x (.type n):=by
 cases x with
 | non=>cases(show n = "NoneType" from h);exact .non
 | bl b=>cases(show n = "bool" from h);exact .bl b
 | int i=>cases(show n = "int" from h);exact .int i
 | str z=>cases(show n = "str" from h);exact .str z
 | ref a=>
  rcases h with⟨rfl,xs,e⟩|⟨rfl,xs,e⟩
  .exact .lst e
  .exact .tup e
 | _=>exact False.elim h
def iB(a b c d e:Bool):String->Option Bool
 | "tuple"=>Vn a|"int"=>Vn b|"bool"=>Vn c|"list"=>Vn d|"str"=>Vn e|_=>Vo
def iP:String->String->Option Bool
 | "NoneType"=>iB false false false false false
 | "bool"=>iB false true true false false
 | "int"=>iB false true false false false
 | "str"=>iB false false false false true
 | "list"=>iB false false false true false
 | "tuple"=>iB true false false false false
 | _=>λ_=>Vo
def A2{K:Eo}{n:String}{b:Bool}(h:iP n T=Vn b):PySem.W.kitOne K (.type n) (.type T)=Vn b:=by
 unfold iP at h;split at h<;>first
  | (unfold iB at h;split at h<;>first|(cases h;kernel_rfl)|cases h)
  | cases h
def rm:List V->Hp->VK->Prop:=λxs H Q=>∃x n T b,xs=[x,.ty T]/\fJ H x n/\iP n T=Vn b/\Q (.bl b) H
def c8:cB X (.builtin "isinstance") rm:=by intro pins s σ H xs us Q I r h;obtain⟨x,n,T,b,rfl,a,hb,q⟩:=h;obtain⟨u,c,rfl,r1,d⟩:=vals2 r;cases(show c=Value.type T from d);exact AA I r1 a.ty (A2 hb) λtk=>⟨.bl b,H,I.tok tk,rfl,q⟩
def Dn:bF X (compareOp .Is) (λx y H Q=>∃a b,x=.bl a/\y=.bl b/\Q (.bl (a == b)) H):=by intro pins s σ H x y v u Q I c d h;obtain⟨a,b,rfl,rfl,q⟩:=h;cases c;cases d;exact wpAny_is_plain rfl (bE I q (by cases a<;>cases b<;>rfl))
def gX(lo c:Int)(n:Nat):It:=⟨λi _=>i<n,λi H x H'=>H'=H/\x=.int (lo+i*c),λi _=>n<=i⟩
theorem BQ{K:Eo}(it:Vb)(lo c:Int)(n:Nat):Turn P w K tg (gX lo c n) [it] it (λi h=>IsRangeIter h it (lo+(i:Nat)*c) ((n:Int)-(i:Nat)) c) where
 mem:=by simp
 obj:=λi h st b hb=>by
  have e:b=it:=by simpa using hb
  subst e;exact⟨_,st,λv z=>by have A:Data.fields _=Data.cell v:=z;cases A⟩
 keep:=λi h h' st k=>k it (by simp) _ st
 item:=by intro X g j l m i pins s σ H E I d st p;subst g j l;obtain⟨q,r,B,u,x,y⟩:=d it (by simp);have W:=Walks.range (prog:=X.prog) (w:=X.w) (I.ok.hd m) it lo c n;refine W.item i s _ _ p st λv h' tk C a F=>?_;obtain⟨t,rfl⟩:=C;have G:Inv X pins σ H { s with heap:=h',toks:=tk }:=I.turned (λb o hb e=>F b o (by simpa using hb) e) q r u x y;exact⟨_,rfl,kX (s:={ s with heap:=h',toks:=tk }) (n:="range_iterator") a rfl rfl (by decide) ⟨.int (lo+i*c),H,G,⟨t,rfl⟩,⟨rfl,rfl⟩,a,λb hb=>(d b hb).1⟩⟩
 done:=by intro X g j l m i pins s σ H E I d st p;subst g j l;obtain⟨q,r,B,u,x,y⟩:=d it (by simp);exact wpAny_pyNext_range_end (I.ok.hd m) st (by have:n<=i:=p;lia) λh' J=>⟨rfl,I.turned (t':=s.toks) (λb o hb e=>J b o hb e) q r u x y⟩
 self:=λ_ _ _ _ _ st h=>wpAny_pyIter_rangeiter st h
def je(i j c:Int):Prop:=(-(2 ^ 40)<=i/\i<2 ^ 40)/\(-(2 ^ 40)<=j/\j<2 ^ 40)/\(-(2 ^ 29)<c/\c<2 ^ 29)/\c≠0
def eV(i j c:Int):Nat:=if 0<c then(if i<j then((j-i-1) / c+1).toNat else 0)else(if j<i then((i-j-1) / (-c)+1).toNat else 0)
theorem Cn(i j c:Int)(a:c≠0):Builtin.Range.rangeSize i j c=(eV i j c:Nat):=by
 unfold Builtin.Range.rangeSize eV;by_cases h:0<c
 .rw[Ft h,Ft h];by_cases h2:i<j
  .rw[Ft h2,Ft h2];have:0<=(j-i-1) / c:=Int.ediv_nonneg (by lia) (by lia);omega
  .rw[Fs h2,Fs h2];rfl
 .rw[Fs h,Fs h];by_cases h2:j<i
  .rw[Ft (show i>j from h2),Ft h2];have:0<=(i-j-1) / (-c):=Int.ediv_nonneg (by lia) (by lia);omega
  .rw[Fs (show ¬i>j from h2),Fs h2];rfl
theorem yW{i j c:Int}(h:je i j c):Builtin.Range.small i j c=true:=by
 obtain⟨⟨h1,h2⟩,⟨e,g⟩,⟨k,l⟩,m⟩:=h;have hb:Builtin.Range.rangeSize i j c<=2 ^ 42/\0<=Builtin.Range.rangeSize i j c:=by
  unfold Builtin.Range.rangeSize;by_cases a:c>0
  .rw[Ft a];by_cases h':i<j
   .rw[Ft h'];have b:(j-i-1) / c<=j-i-1:=Int.ediv_le_self _ (by lia);have d:0<=(j-i-1) / c:=Int.ediv_nonneg (by lia) (by lia);lia
   .rw[Fs h'];lia
  .rw[Fs a];by_cases h':i>j
   .rw[Ft h'];have b:(i-j-1) / (-c)<=i-j-1:=Int.ediv_le_self _ (by lia);have d:0<=(i-j-1) / (-c):=Int.ediv_nonneg (by lia) (by lia);lia
   .rw[Fs h'];lia
 unfold Builtin.Range.small;generalize Builtin.Range.rangeSize i j c=z at hb ⊢;have f:∀x:Int,-(2 ^ 62)<=x->x<2 ^ 62->Builtin.Range.rangeFitsLong x=true:=λx h1 h2=>by unfold Builtin.Range.rangeFitsLong;rw[Fq (show -(2 ^ 63)<=x by lia),Fq (show x<2 ^ 63 by lia)];rfl
 rw[f i (by lia) (by lia),f j (by lia) (by lia),f c (by lia) (by lia),f z (by lia) (by lia)];by_cases a:c>0
 .rw[Ft a,f (j+(c-1)) (by lia) (by lia),Bool.or_true];rfl
 .rw[Fs a,f (j+(c+1)) (by lia) (by lia),Bool.or_true];rfl
def sP(ta:TA):TI:=λσ H R=>ta σ H λvs H1=>∃i j c:Int,vs=[.int i,.int j,.int c]/\je i j c/\R (gX i c (eV i j c)) H1
def DR{tg a b c:Vk}{ta:TA}{p pos:Pos}(v:Gl X "range")(w:X.mg "range" = Vo)(ha:PA X [a,b,c] ta)(hs:starEach [a,b,c] X.env=[(false,eval a X.env),(false,eval b X.env),(false,eval c X.env)]:=by rfl)
  (g:starEach [b,c] X.env=[(false,eval b X.env),(false,eval c X.env)]:=by rfl) :
  PI X tg (.Call (.Name "range" p) [a,b,c] [] pos) (sP ta):=by
 intro pins s σ H R I h;refine Call_ (fQ I v w boot_range (PyProof.Rows.callWith_type1 (aH (ha pos pins s σ H _ I h) λus s1 ⟨vs,H1,x,r1,y⟩=>?_) (by rw[hs,g]) (by rw[g];rfl)));obtain⟨i,j,c,e,d,q⟩:=y;subst e;cases r1 with
 | cons r k=>
  cases k with
  | cons z k=>
   cases k with
   | cons l k=>
    cases k;obtain⟨t,rfl⟩:=r;obtain⟨t',rfl⟩:=z;obtain⟨m,rfl⟩:=l;have u:c≠0:=d.2.2.2;have A:c.natAbs<1073741824:=by have:=d.2.2.1;omega
    refine call_range_3 u ?_ (.inl (PyProof.noPylong_small A));refine wpAny_pyIter_range (IsRange.new ..) (yW d) ?_;have n:Inv X pins σ H1 { s1 with heap:=s1.heap.push { cls:=.type "range",data:=.fields #[.int i t,.int j t',.int c m] },toks:=s1.toks }:=x.kept λb o e=>Ep _ e;refine⟨_,[_],_,_,H1,rfl,n.kept (t':=s1.toks) λb o e=>Ep _ e,BQ _ i c (eV i j c),?_,λb hb=>?_,q⟩
    .show IsRangeIter _ _ (i+((0:Nat):Int)*c) (((eV i j c:Nat):Int)-((0:Nat):Int)) c;rw[show i+((0:Nat):Int)*c=i by simp,show ((eV i j c:Nat):Int)-((0:Nat):Int)=Builtin.Range.rangeSize i j c by rw[Cn i j c u];simp];exact Er _ rfl
    .have e:=EG.mp hb;subst e;exact n.fpOk (ER _) (n.hok.fresh (ER _))
theorem zW{lo c:Int}{tb:TS}{D:Ends}(Pv:Nat->St->Hp->Prop)(h:Pv 0 σ H)
  (hs:∀i σ H,i<n->Pv i σ H->g (.int (lo+i*c)) σ H λa H2=>tb { D with nx:=Pv (i+1),ct:=Pv (i+1),bk:=D.nx } a H2) (hd:∀σ H,Pv n σ H->D.nx σ H) :
  ∃W:Nat->Nat->St->Hp->Prop,(∃m,W 0 m σ H)/\∀i m σ H,W i m σ H ->
   ((gX lo c n).stop i H/\D.nx σ H)\/((gX lo c n).go i H/\∃N:St->Hp->Prop,(∀b H',N b H'->∃d,d<m/\W (i+1) d b H')/\∀x H',(gX lo c n).yld i H x H'->g x σ H' λa H2=>tb { D with nx:=N,ct:=N,bk:=D.nx } a H2):=by
 refine⟨λi m σ H=>m=n-i/\i<=n/\Pv i σ H,⟨n,by simp,Nat.zero_le _,h⟩,?_⟩;rintro i m σ H ⟨rfl,hi,p⟩;by_cases hlt:i<n
 .refine .inr ⟨hlt,Pv (i+1),λb H' j=>⟨n-(i+1),by lia,rfl,hlt,j⟩,λx H' y=>?_⟩;obtain⟨e,y⟩:=y;subst e y;exact hs i σ _ hlt p
 .have e:i=n:=by lia
  subst e;exact .inl ⟨ER _,hd σ H p⟩
def pY(K:Eo):List V->Hp->VK->Prop:=λxs H Q=>∃(p:Vb) (ns:List Int),xs=[.ref p]/\ag K H p (ns.map V.int)/\0<ns.length/\∀M,M∈ns->(∀a,a∈ns->a<=M)->Q (.int M) H
def Az(l:X.calm=true):cB X (.builtin "max") (pY X.K):=by
 intro pins s σ H xs us Q I r h;obtain⟨p,ns,rfl,m,B,q⟩:=h;obtain⟨u,rfl,n⟩:=vals1 r;cases n;obtain⟨c,o,v,d⟩:=I.list m;have i1:IntsAre c ns:=intsAre_of o;obtain⟨a,i⟩:=i1.allInts.items;have e:ns=a.toList.map (·.1):=(i1.numsOf.symm.trans (by rw[<-i])).trans (nums_intItems a);have g:a.toList.length=a.size:=EA;have ln:ns.length=a.size:=by rw[e,Ew,g]
 have w:s.heap.IsList p (intItems a):=i ▸ v.isList;refine max_intList (I.ok.hd l) w (by omega) λbest h' tk b kept=>?_;obtain⟨tok,x⟩:=intItems_at b;subst x;have am:=argBest_gt (numAt a) (a.size-1);refine⟨.int _,H,I.kept kept,⟨tok,rfl⟩,q _ ?_ λz d=>?_⟩
 .rw[e];have:=am.1;rw[numAt_eq];exact getD_mem (by rw[Ew,g];omega)
 .rw[e]at d;obtain⟨k,j,y⟩:=mem_getD d;subst y;have A:k<a.size:=by rw[Ew,g]at j;exact j
  have:=am.2 k (by omega);rw[numAt_eq]at this;exact this
def lH(K:Eo):List V->Hp->VK->Prop:=λxs H Q=>∃p ys,xs=[.ref p]/\(ag K H p ys\/ah K H p ys)/\Q (.int ys.length) H
def An:cB X (.builtin "len") (lH X.K):=CM
def oA(K:Eo):List V->Hp->VK->Prop:=λxs H Q=>∃p ys,xs=[.ref p]/\((ag K H p ys/\∀l,H l=Vo->Q (.ref l) (upd H l (.tup ys)))\/(ah K H p ys/\Q (.ref p) H))
def Ec:cB X (.type "tuple") (oA X.K):=Cz
def qC:List V->Hp->VK->Prop:=λxs H Q=>(∃i,xs=[.int i]/\Q (.int i) H)\/∃k,xs=[.bl k]/\Q (.int (if k then 1 else 0)) H
def Ak:cB X (.type "int") qC:=DO
def rS:List V->Hp->VK->Prop:=λxs H Q=>∃i j,xs=[.int i,.int j]/\Q (.int (if j>i then j else i)) H
def jC(a:X.calm=true):cB X (.builtin "max") rS:=xP a
end
def Ext(H H':Hp):Prop:=∀b o,H b=Vn o->H' b=Vn o
def Ext.rfl'(H:Hp):Ext H H:=λ_ _ h=>h
def Ext.trans{H1 H2:Hp}(a:Ext H H1)(b:Ext H1 H2):Ext H H2:=λx o h=>b x o (a x o h)
theorem Ext.none{H H':Hp}(e:Ext H H'){l:Vb}(h:H' l=Option.none):H l=Option.none:=by
 cases q:H l with
 | none=>rfl
 | some o=>rw[e l o q]at h;cases h
section
variable {X:Cx} (K:Eo)
def aM(h:X.K=K:=by rfl):iE X (mj K):=by subst h;exact xF
def az(h:X.K=K:=by rfl):iE X (lW K):=by subst h;exact CK
def iw(h:X.K=K:=by rfl):jJ X (n5 K):=by subst h;exact yR
def kn(h:X.K=K:=by rfl):bF X (compareOp .In) (lZ K false):=by subst h;exact zA
def cq(h:X.K=K:=by rfl):cB X (.builtin "len") (lH K):=by subst h;exact An
def kU(h:X.K=K:=by rfl):cB X (.type "tuple") (oA K):=by subst h;exact Ec
def mH(a:X.calm=true)(h:X.K=K:=by rfl):cB X (.builtin "max") (pY K):=by subst h;exact Az a
def bP{l:Vk}{tl:TE}(a:PE X l tl)(h:X.K=K:=by rfl):PI X tg l (nO K tl):=by subst h;exact Cc a
def eZ{l:Vk}{tl:TE}(a:PE X l tl)(h:X.K=K:=by rfl):PI X tg l (m8 K tl):=by subst h;exact zg a
def fh{es:List Vk}{k:Nat}{t:eE}{pos:Pos}(b:X.calm=true)(c:i8 X es t)(h:X.K=K:=by rfl)
  (d:(assignEach es X.env).length=n:=by rfl) (a:(assignEach es X.env).findIdx? (·.1)=Vo:=by rfl):PG X (.Tuple es k pos) (nT K n t):=by subst h;exact zh b c d a
def bL{o e:Vk}{es:List Vk}{to:TE}{t:TA}{name:Vm}{apos cpos:Pos}{id:String}{r:V->List V->Hp->VK->Prop}(i:PlainAttrs T)(slot:Slot T name id)(g:typeOf (.builtin id)=pure (.type "method_descriptor"))(j:m7 X id r)(ho:PE X o to)(ha:PA X (e::es) t)(h:X.K=K:=by rfl)
  (b:attributeBase o name X.env (eval o X.env)=eval o X.env:=by rfl)
  (d:((backTo cpos (starEach (e::es) X.env)).all (λx=>!x.1) && (backToKw cpos (keywordEach [] X.env)).all (λx=>x.1.isSome)
   && decide ((e::es).length+([]:List Keyword).length+(if([]:List Keyword).isEmpty then 0 else 1)<30))=true:=by rfl)
  (c:(apos.endLine == cpos.line)=true:=by rfl) (hs:starEach (e::es) X.env=(false,eval e X.env)::starEach es X.env:=by rfl) (a:(backTo cpos (starEach es X.env)).any (·.1)=false:=by rfl) :
  PE X (.Call (.Attribute o name apos) (e::es) [] cpos) (nI K T r to t):=by subst h;exact yZ i slot g j ho ha b d c hs a
end
def uf(ns:List Int):TA:=λ_ H Q=>Q (ns.map V.int) H
inductive IntsE:List Vk->List Int->Prop
 | n:IntsE [] []
 | c {i j pos es ns}:IntsE es ns->IntsE (.Constant (.int i) j pos::es) (i::ns)
def i6{es:List Vk}{ns:List Int}(h:IntsE es ns):PA X es (uf ns):=by
 induction h with
 | n=>exact aa
 | @c i j pos es ns _ a=>
  intro p pins s σ H Q I b;exact ae (e:=.Constant (.int i) j pos) af a rfl p pins s σ H Q I b
def rd_ints{ns:List Int}{R:List V->Hp->Prop}(h:R (ns.map V.int) H):uf ns σ H R:=h
def nH(c:TT)(t u:TS):TS:=λD σ H=>∃R:St->Hp->Prop,(c σ H λb H1=>if b=true then t { D with nx:=R } σ H1 else u { D with nx:=R } σ H1)/\∀a H',R a H'->D.nx a H'
def cJ{c:Vk}{a b:List Stmt}{t u:TS}{pos:Pos}(e:PT X c tc)(ha:cR X a t)(hb:cR X b u):PS X (.If c a b pos) (nH tc t u):=by
 intro pins s σ H D I h;obtain⟨R,h,g⟩:=h;refine aH (aY e ha hb pins s σ H { D with nx:=R } I h) λf s1 q=>?_;cases f with
 | next=>
  obtain⟨d,H',i,q⟩:=q;exact⟨d,H',i,g d H' q⟩
 | ret v=>exact q
 | brk=>exact q
 | cont=>exact q
def we(K:Eo):V->Hp->(It->Hp->Prop)->Prop:=λx H R=>∃a,x=.ref a/\(∃xs,ag K H a xs)/\R (dJ K a) H
def qm(K:Eo):V->Hp->(It->Hp->Prop)->Prop:=λx H R=>∃a,x=.ref a/\(∃xs,ah K H a xs)/\R (cZ K a) H
def tY:List V->Hp->(It->Hp->Prop)->Prop:=λvs H R=>∃j:Int,vs=[.int j]/\-(2 ^ 62)<=j/\j<2 ^ 62/\R (eI 0 j.toNat) H
def tu:List V->Hp->(It->Hp->Prop)->Prop:=λvs H R=>∃i j:Int,vs=[.int i,.int j]/\(-(2 ^ 62)<=i/\i<2 ^ 62/\-(2 ^ 62)<=j/\j<2 ^ 62)/\R (eI i (j-i).toNat) H
def s9:List V->Hp->(It->Hp->Prop)->Prop:=λvs H R=>∃i j c:Int,vs=[.int i,.int j,.int c]/\je i j c/\R (gX i c (eV i j c)) H
def iW(J:It)(g:TG)(tb:TS)(D:Ends)(σ:St)(H:Hp):Prop:=∃W:Nat->Nat->St->Hp->Prop,(∃m,W 0 m σ H)/\∀i m σ H,W i m σ H ->
 (J.stop i H/\D.nx σ H)\/(J.go i H/\∃N:St->Hp->Prop,(∀a H',N a H'->∃c,c<m/\W (i+1) c a H')/\∀x H',J.yld i H x H'->g x σ H' λb H2=>tb { D with nx:=N,ct:=N,bk:=D.nx } b H2)
def forL{K:Eo}{tb:TS}{D:Ends}(Pv:Nat->St->Hp->Prop)(c:Pv 0 σ H)(d:∀i σ H,i<=xs.length->Pv i σ H->ag K H a xs)
  (hs:∀i x σ H,xs[i]?=Vn x->Pv i σ H->g x σ H λb H2=>tb ⟨Pv (i+1),D.rt,D.nx,Pv (i+1)⟩ b H2) (hd:∀σ H,Pv xs.length σ H->D.nx σ H):iW (dJ K a) g tb D σ H:=Bl Pv c d hs hd
def iz{K:Eo}{tb:TS}{D:Ends}(Pv:Nat->St->Hp->Prop)(c:Pv 0 σ H)(d:∀i σ H,i<=xs.length->Pv i σ H->ah K H a xs)
  (hs:∀i x σ H,xs[i]?=Vn x->Pv i σ H->g x σ H λb H2=>tb ⟨Pv (i+1),D.rt,D.nx,Pv (i+1)⟩ b H2) (hd:∀σ H,Pv xs.length σ H->D.nx σ H):iW (cZ K a) g tb D σ H:=Be Pv c d hs hd
def forR{lo:Int}{tb:TS}{D:Ends}(Pv:Nat->St->Hp->Prop)(b:Pv 0 σ H)
  (hs:∀i σ H,i<n->Pv i σ H->g (.int (lo+i)) σ H λa H2=>tb ⟨Pv (i+1),D.rt,D.nx,Pv (i+1)⟩ a H2) (hd:∀σ H,Pv n σ H->D.nx σ H):iW (eI lo n) g tb D σ H:=yb Pv b hs hd
def AV{lo c:Int}{tb:TS}{D:Ends}(Pv:Nat->St->Hp->Prop)(b:Pv 0 σ H)
  (hs:∀i σ H,i<n->Pv i σ H->g (.int (lo+i*c)) σ H λa H2=>tb ⟨Pv (i+1),D.rt,D.nx,Pv (i+1)⟩ a H2) (hd:∀σ H,Pv n σ H->D.nx σ H):iW (gX lo c n) g tb D σ H:=zW Pv b hs hd
def fX(H:Hp)(o:HO)(R:VK):Prop:=∀p,H p=Vo->R (.ref p) (upd H p o)
section
variable {K:Eo} {D:Ends} {σ:St} {H:Hp} {Q:VK} {ta tb tc te:TE} {t u:TS} {c c':TT}
def rd_seq(h:t ⟨u D,D.rt,D.bk,D.ct⟩ σ H):wJ t u D σ H:=h
def rd_next(h:D.nx σ H):vL D σ H:=h
def rd_ret(h:te σ H D.rt):wY te D σ H:=h
def rd_asg(h:te σ H λx H1=>g x σ H1 D.nx):kf te g D σ H:=h
def rd_drop(h:te σ H λ_ H1=>D.nx σ H1):qe te D σ H:=h
def rd_ifS(h:c σ H λb H1=>if b=true then t D σ H1 else u D σ H1):oW c t u D σ H:=h
def gN(R:St->Hp->Prop)(h:c σ H λb H1=>if b=true then t ⟨R,D.rt,D.bk,D.ct⟩ σ H1 else u ⟨R,D.rt,D.bk,D.ct⟩ σ H1)(k:∀a H',R a H'->D.nx a H'):nH c t u D σ H:=⟨R,h,k⟩
def cD(h:c σ H λb H1=>if b=true then t D σ H1 else u D σ H1):nH c t u D σ H:=⟨D.nx,h,λ_ _ h=>h⟩
def rd_name{i:Nat}{R:St->Hp->Prop}(h:R (σ.set i (Vn v)) H):jM i v σ H R:=h
def rd_var{i:Nat}(e:σ[i]?=Vn (Vn v))(h:Q v H):nG i σ H Q:=⟨v,e,h⟩
def rd_c(h:Q v H):tC v σ H Q:=h
def rd_op{r:R2}(h:ta σ H λx H1=>tb σ H1 λy H2=>r x y H2 Q):iQ r ta tb σ H Q:=h
def rd_un{r:V->Hp->VK->Prop}(h:ta σ H λx H1=>r x H1 Q):tT r ta σ H Q:=h
def rd_CB{r:List V->Hp->VK->Prop}{a:TA}(h:a σ H λvs H1=>r vs H1 Q):kI r a σ H Q:=h
def rd_cons{a:TA}{R:List V->Hp->Prop}(h:ta σ H λx H1=>a σ H1 λxs H2=>R (x::xs) H2):kS ta a σ H R:=h
def rd_nil{R:List V->Hp->Prop}(h:R [] H):mP σ H R:=h
def rd_test{R:Bool->Hp->Prop}(h:te σ H λx H'=>∃k,x=.bl k/\R k H'):uW te σ H R:=h
def rd_B{R:Bool->Hp->Prop}(h:te σ H λx H'=>∃k,x=.bl k/\R k H'):tB te σ H R:=h
def rd_exb{b:Bool}{R:Bool->Prop}(h:R b):∃k,V.bl b=V.bl k/\R k:=⟨b,rfl,h⟩
def rd_not{R:Bool->Hp->Prop}(h:c σ H λb H1=>R (!b) H1):uR c σ H R:=h
def rd_and{R:Bool->Hp->Prop}(h:c σ H λb H1=>if b=true then c' σ H1 R else R false H1):ua c c' σ H R:=h
def rd_or{R:Bool->Hp->Prop}(h:c σ H λb H1=>if b=true then R true H1 else c' σ H1 R):pF c c' σ H R:=h
def rd_andV(h:ta σ H λx H1=>∃k,x=.bl k/\if k=true then tb σ H1 Q else Q (.bl false) H1):ue ta tb σ H Q:=h
def rd_orV(h:ta σ H λx H1=>∃k,x=.bl k/\if k=true then Q (.bl true) H1 else tb σ H1 Q):tE ta tb σ H Q:=h
def rd_notV(h:ta σ H λx H1=>∃k,x=.bl k/\Q (.bl (!k)) H1):qx ta σ H Q:=h
def rd_yes{R:Bool->Hp->Prop}(h:R true H):vB σ H R:=h
def rd_I0{g:Int->Int->V}{i j:Int}(h:Q (g i j) H):gD g (.int i) (.int j) H Q:=⟨i,j,rfl,rfl,h⟩
def rd_I{C:Int->Int->Prop}{g:Int->Int->V}{i j:Int}(a:C i j)(h:Q (g i j) H):rI C g (.int i) (.int j) H Q:=⟨i,j,rfl,rfl,a,h⟩
def rd_U{g:Int->V}{i:Int}(h:Q (g i) H):rU g (.int i) H Q:=⟨i,rfl,h⟩
def rd_EqI{i j:Int}(h:Q (.bl (decide (i=j))) H):kZ (.int i) (.int j) H Q:=⟨rfl,by
 have e:decide (V.int i=V.int j)=decide (i=j):=by rw[E8];simp
 rw[e];exact h⟩
def rd_NeI{i j:Int}(h:Q (.bl (!decide (i=j))) H):nh (.int i) (.int j) H Q:=⟨rfl,by
 have e:decide (V.int i=V.int j)=decide (i=j):=by rw[E8];simp
 rw[e];exact h⟩
def rd_EqB{i j:Bool}(h:Q (.bl (i == j)) H):kZ (.bl i) (.bl j) H Q:=⟨rfl,by rw[mR];exact h⟩
def aL{p:Vb}{i:Int}(e:ag K H p xs)(a:bx xs i=Vn v)(h:Q v H):mj K (.ref p) (.int i) H Q:=⟨p,xs,i,v,rfl,rfl,e,a,h⟩
def ay{p:Vb}{i:Int}(e:ah K H p xs)(a:bx xs i=Vn v)(h:Q v H):lW K (.ref p) (.int i) H Q:=⟨p,xs,i,v,rfl,rfl,e,a,h⟩
def dU{p:Vb}(e:ag K H p xs)(h:Q (.int xs.length) H):lH K [.ref p] H Q:=⟨p,xs,rfl,.inl e,h⟩
def gK{p:Vb}(e:ah K H p xs)(h:Q (.int xs.length) H):lH K [.ref p] H Q:=⟨p,xs,rfl,.inr e,h⟩
def kG{p:Vb}(e:ag K H p xs)(h:fX H (.tup xs) Q):oA K [.ref p] H Q:=⟨p,xs,rfl,.inl ⟨e,h⟩⟩
def cS{x:V}{n:String}{b:Bool}(a:fJ H x n)(hb:iP n T=Vn b)(h:Q (.bl b) H):rm [x,.ty T] H Q:=⟨x,n,T,b,rfl,a,hb,h⟩
def rd_intB{k:Bool}(h:Q (.int (if k then 1 else 0)) H):qC [.bl k] H Q:=.inr ⟨k,rfl,h⟩
def rd_max2{i j:Int}(h:Q (.int (if j>i then j else i)) H):rS [.int i,.int j] H Q:=⟨i,j,rfl,h⟩
def rd_call{a:TA}{E:XK}(h:a σ H λvs H1=>sp (vs++[]) H1 Q E):lN sp [] E a σ H Q:=h
def rd_BM{r:V->List V->Hp->VK->Prop}{a:TA}(h:te σ H λx H1=>iS K T x H1/\a σ H1 λxs H2=>r x xs H2 Q):nI K T r te a σ H Q:=h
def rd_tup{a:TA}(h:a σ H λxs H1=>xs.length<=sizeLine/\fX H1 (.tup xs) Q):mZ a σ H Q:=h
def rd_lst{a:TA}(h:a σ H λxs H1=>xs.length<=sizeLine/\fX H1 (.lst xs) Q):qI a σ H Q:=h
def rd_sl{r:V->Option Int->Option Int->Hp->VK->Prop}{tl th:TO}(h:te σ H λx H1=>tl σ H1 λl H2=>th σ H2 λv a=>r x l v a Q):uV r te tl th σ H Q:=h
def rd_noPart{R:Option Int->Hp->Prop}(h:R Vo H):wA σ H R:=h
def rd_part{R:Option Int->Hp->Prop}(h:te σ H λx H1=>∃i,x=.int i/\R (Vn i) H1):sQ te σ H R:=h
def rd_exi{i:Int}{R:Int->Prop}(h:R i):∃k,V.int i=V.int k/\R k:=⟨i,rfl,h⟩
def rd_chain{r a:R2}(h:ta σ H λx H1=>tb σ H1 λy H2=>r x y H2 λz b=>∃k,z=.bl k/\(if k=true then tc σ b λc d=>a y c d Q else Q (.bl false) b)):rK r a ta tb tc σ H Q:=h
def rd_comp{a:TI}(h:a σ H λJ H1=>ip J n js g c te σ H1 Q):mM n js a g c te σ H Q:=h
def rd_iL(h:te σ H λx H1=>we K x H1 R):nO K te σ H R:=h
def rd_iT(h:te σ H λx H1=>qm K x H1 R):m8 K te σ H R:=h
def bO{p:Vb}(e:ag K H p xs)(h:R (dJ K p) H):we K (.ref p) H R:=⟨p,rfl,⟨xs,e⟩,h⟩
def eR{p:Vb}(e:ah K H p xs)(h:R (cZ K p) H):qm K (.ref p) H R:=⟨p,rfl,⟨xs,e⟩,h⟩
def rd_i1{a:TA}(h:a σ H λvs H1=>tY vs H1 R):wR a σ H R:=h
def cN{j:Int}(h1:-(2 ^ 62)<=j/\j<2 ^ 62)(h:R (eI 0 j.toNat) H):tY [.int j] H R:=⟨j,rfl,h1.1,h1.2,h⟩
def rd_i2{a:TA}(h:a σ H λvs H1=>tu vs H1 R):rT a σ H R:=h
def BA{i j:Int}(h1:-(2 ^ 62)<=i/\i<2 ^ 62/\-(2 ^ 62)<=j/\j<2 ^ 62)(h:R (eI i (j-i).toNat) H):tu [.int i,.int j] H R:=⟨i,j,rfl,h1,h⟩
def rd_i3{a:TA}(h:a σ H λvs H1=>s9 vs H1 R):sP a σ H R:=h
def Ba{i j c:Int}(h1:je i j c)(h:R (gX i c (eV i j c)) H):s9 [.int i,.int j,.int c] H R:=⟨i,j,c,rfl,h1,h⟩
def rd_for{a:TI}(h:a σ H λJ H1=>iW J g t D σ H1):tK a g t D σ H:=h
def bN{y:V}(e:H l=Vn (.lst xs))(a:xs.length<sizeLine)(h:Q .non (upd H l (.lst (xs++[y])))):uA (.ref l) [y] H Q:=⟨l,xs,y,rfl,rfl,e,a,h⟩
def df{p:Vb}(e:ag K H p xs):iS K "list" (.ref p) H:=.inl ⟨rfl,xs,e⟩
def rd_sub{to a:TE}{w:lx}{R:St->Hp->Prop}(h:to σ H λo H1=>a σ H1 λi H2=>w o i v H2 λb=>R σ b):pX to a w v σ H R:=h
def gJ{p:Vb}{k:Int}{j:Nat}{R:Hp->Prop}(e:H p=Vn (.lst xs))(a:eL xs.length k=Vn j)(h:R (upd H p (.lst (xs.set j v)))):uT (.ref p) (.int k) v H R:=⟨p,xs,k,j,rfl,rfl,e,a,h⟩
def eS{g:eE}{R:St->Hp->Prop}(e:ah K H a xs)(b:xs.length=n)(h:g xs σ H R):nT K n g (.ref a) σ H R:=⟨a,xs,rfl,e,b,h⟩
def rd_gcons{b:eE}{r:List V}{R:St->Hp->Prop}(h:g v σ H λa H'=>b r a H' R):rP g b (v::r) σ H R:=⟨v,r,rfl,h⟩
def rd_gnil{R:St->Hp->Prop}(h:R σ H):vn [] σ H R:=⟨rfl,h⟩
def ou{b:Vb}{zs:List V}(a:H l=Vn (.lst xs))(c:H b=Vn (.lst zs))(d:xs.length+zs.length<=sizeLine)(h:fX H (.lst (xs++zs)) Q):pf (.ref l) (.ref b) H Q:=⟨l,b,xs,zs,rfl,rfl,a,c,d,h⟩
theorem j2{k:Int}(e:H l=Vn (.lst xs))(b:0<=k/\k<10 ^ 6)(a:xs.length*k.toNat<=sizeLine)(h:fX H (.lst (Ff k.toNat xs).flatten) Q):pB (.ref l) (.int k) H Q:=
 ⟨l,k,xs,rfl,rfl,e,by lia,by lia,a,h⟩
def ij{lo:Option Int}(e:ag K H a xs)(h:fX H (.lst (cH xs lo hi)) Q):n5 K (.ref a) lo hi H Q:=⟨a,xs,rfl,e,h⟩
def lJ{x:V}{p:Vb}(e:ag K H p xs\/ah K H p xs)(f:fH x=true)(fs:xs.all fH=true)(h:Q (.bl (if neg then !jc x xs else jc x xs)) H):lZ K neg x (.ref p) H Q:=⟨p,xs,rfl,e,f,fs,h⟩
def cF{o:HO}{R:VK}(h:∀p H',Ext H H'->H' p=Vn o->H p=Vo->R (.ref p) H'):fX H o R:=λp a=>
 h p _ (λb u e=>by rw[aF (b0 e a)];exact e) aK a
def a8{p:Vb}{o:HO}(a:H p=Vo):Ext H (upd H p o):=λb u e=>by rw[aF (b0 e a)];exact e
def ag.ext{p:Vb}(e:Ext H H')(h:ag K H p xs):ag K H' p xs:=by
 rcases h with(h|⟨o,h⟩)|h
 .exact .inl (.inl (e _ _ h))
 .exact .inl (.inr ⟨o,e _ _ h⟩)
 .exact .inr h
end
def dZ{α:Type}{xs:List α}{i:Int}{v:α}(a:0<=i)(h:xs[i.toNat]?=Vn v):bx xs i=Vn v:=by
 have:=eY h
 rwa [EJ a]at this
def gy{i:Int}(a:0<=i)(h:i<n):eL n i=Vn i.toNat:=by unfold eL;rw[Ft a,Ft h]
def eO:V->PyData->Prop
 | .non,.none=>True
 | .bl b,.bool c=>b=c
 | .int i,.int j=>i=j
 | .str x,.str y=>x=y/\(PyData.str y).canLay0=true
 | _,_=>False
def aX(H:Hp):Nat->V->PyData->Prop
 | 0,x,d=>eO x d
 | n+1,x,d=>eO x d\/∃a xs ds,x=.ref a/\((H a=Vn (.tup xs)/\d=.tuple ds)\/(H a=Vn (.lst xs)/\d=.list ds))/\Paired (aX H n) xs ds
section
variable {X:Cx} {pins:List (Vb×Obj)} {σ:St} {H:Hp} {s:Vc}
def eO.reads{x:V}{d:PyData}(h:eO x d)(r:RelV x u):∃as,Reads s.heap u d as:=by
 cases x with
 | non=>cases d<;>first|exact False.elim h|(cases r;exact⟨_,.none⟩)
 | bl b=>cases d<;>first|exact False.elim h|(cases(show b=_ from h);cases r;exact⟨_,.bool _⟩)
 | int i=>cases d<;>first|exact False.elim h|(cases(show i=_ from h);obtain⟨t,rfl⟩:=r;exact⟨_,.int _ t⟩)
 | str z=>cases d<;>first|exact False.elim h|(cases(show z=_/\_ from h).1;obtain⟨t,rfl⟩:=r;exact⟨_,.str _ t⟩)
 | _=>cases d<;>exact False.elim h
def eO.lay{x:V}{d:PyData}(h:eO x d):d.canLay0=true/\d.depth=0:=by cases x<;>cases d<;>first|exact False.elim h|exact ⟨rfl,rfl⟩|exact ⟨h.2,rfl⟩
theorem nF{R:V->PyData->Prop}(a:∀{x:V} {d:PyData} {u:Va},R x d->RelV x u->∃as,Reads s.heap u d as):∀{xs:List V} {ds:List PyData} {us:List Va},Paired R xs ds->Vals xs us->∃as,ReadsAll s.heap us ds as
 | _,_,_,.nil,.nil=>⟨_,.nil⟩
 | _,_,_,.cons h t,.cons r rt=>by obtain⟨as,ha⟩:=a h r;obtain⟨bs,hb⟩:=nF a t rt;exact⟨_,.cons ha hb⟩
theorem aX.reads(I:Inv X pins σ H s):∀(n:Nat) {x:V} {d:PyData} {u:Va},aX H n x d->RelV x u->∃as,Reads s.heap u d as
 | 0,_,_,_,h,r=>eO.reads h r
 | n+1,x,d,u,h,r=>by
  rcases h with h|⟨a,xs,ds,rfl,i,g⟩
  .exact eO.reads h r
  .cases r;rcases i with⟨e,rfl⟩|⟨e,rfl⟩
   .obtain⟨b,c,⟨o,ho,j,k,hd⟩,_⟩:=I.tuple (ah.of e);obtain⟨as,ha⟩:=nF (λ{x d u}=>aX.reads I n) g c;exact⟨_,.tuple ho j hd (by simpa using ha)⟩
   .obtain⟨b,k,c,ho,_⟩:=I.lst e;obtain⟨as,ha⟩:=nF (λ{x d u}=>aX.reads I n) g c;exact⟨_,.list ho rfl rfl (by simpa using ha)⟩
theorem jZ{R:V->PyData->Prop}{m:Nat}(a:∀{x:V} {d:PyData},R x d->d.canLay0=true/\d.depth<=m):∀{xs:List V} {ds:List PyData},Paired R xs ds->PyData.canLayAll0 ds=true/\PyData.depthAll ds<=m
 | _,_,.nil=>⟨rfl,Nat.zero_le _⟩
 | _,_,.cons h t=>by
  obtain⟨h1,h2⟩:=a h;obtain⟨b,c⟩:=jZ a t;refine⟨?_,?_⟩
  .simp only[PyData.canLayAll0,h1,b,Bool.and_self]
  .simp only[PyData.depthAll];exact Nat.max_le.mpr ⟨h2,c⟩
theorem aX.lay:∀(n:Nat) {x:V} {d:PyData},aX H n x d->d.canLay0=true/\d.depth<=n
 | 0,_,_,h=>⟨(eO.lay h).1,Nat.le_of_eq (eO.lay h).2⟩
 | n+1,x,d,h=>by
  rcases h with h|⟨a,xs,ds,rfl,b,c⟩
  .exact⟨(eO.lay h).1,by rw[(eO.lay h).2];exact Nat.zero_le _⟩
  .obtain⟨h1,h2⟩:=jZ (λ{x d}=>aX.lay n) c;rcases b with⟨e,rfl⟩|⟨e,rfl⟩
   .exact⟨h1,Nat.succ_le_succ h2⟩
   .exact⟨h1,Nat.succ_le_succ h2⟩
def pM(neg:Bool):R2:=λx y H Q=>∃n m d e,aX H n x d/\aX H m y e/\n<=50/\Q (.bl (if neg then !PyData.eqv d e else PyData.eqv d e)) H
theorem zR{k:Nat}(b:Room k X.A):bF X (compareOp .Eq) (pM false):=by intro pins s σ H x y v u Q I c g h;obtain⟨n,m,d,e,h1,h2,i,q⟩:=h;obtain⟨as,j⟩:=aX.reads I n h1 c;obtain⟨bs,l⟩:=aX.reads I m h2 g;have a:=aX.lay n h1;have o:=aX.lay m h2;have p:=b.units;have r:min d.depth e.depth<=50:=E4 (Nat.min_le_left _ _) (E4 a.2 i);exact SeqAt.compareEq_reads j l a.1 o.1 (by lia) ⟨.bl _,H,I,rfl,q⟩
theorem uo{k:Nat}(b:Room k X.A):bF X (compareOp .NotEq) (pM true):=by intro pins s σ H x y v u Q I c g h;obtain⟨n,m,d,e,h1,h2,i,q⟩:=h;obtain⟨as,j⟩:=aX.reads I n h1 c;obtain⟨bs,l⟩:=aX.reads I m h2 g;have a:=aX.lay n h1;have o:=aX.lay m h2;have p:=b.units;have r:min d.depth e.depth<=50:=E4 (Nat.min_le_left _ _) (E4 a.2 i);exact SeqAt.compareNe_reads j l a.1 o.1 (by lia) ⟨.bl _,H,I,rfl,q⟩
end
def Bm(K:Eo):List V->Hp->VK->Prop:=λxs H Q=>∃(p:Vb) (bs:List Bool),xs=[.ref p]/\ag K H p (bs.map V.bl)/\Q (.bl (bs.all id)) H
theorem mI:∀{bs:List Bool} {us:List Va},Vals (bs.map V.bl) us->us=bs.map Value.bool
 | [],_,r=>by cases r;rfl
 | b::bs,_,r=>by
  cases r with
  | cons r t=>cases r;rw[mI t];rfl
def all_range(bs:List Bool):((Fo bs.length).all λi=>bs.getD i false)=bs.all id:=by
 rw[E8,E6,E6];constructor
 .intro h b hb;obtain⟨i,hi,e⟩:=List.mem_iff_getElem.mp hb;have:=h i (List.mem_range.mpr hi);rw[List.getD_eq_getElem?_getD,Ex hi]at this;rw[<-e];exact this
 .intro h i hi;have a:=List.mem_range.mp hi;rw[List.getD_eq_getElem?_getD,Ex a];exact h _ (EX a)
def ie(K:Eo)(x:X.calm=true)(y:X.K=K:=by rfl):cB X (.builtin "all") (Bm K):=by
 subst y;intro pins s σ H xs us Q I r h;obtain⟨p,bs,rfl,z,q⟩:=h;obtain⟨u,rfl,B⟩:=vals1 r;cases B;obtain⟨d,l,g,S⟩:=I.list z;have C:=mI l;have hne:p≠s.heap.objs.size:=EO (by obtain⟨o,n,e,_⟩:=g;exact Es e);refine call_all_walk (wpAny_pyIter_list g.isList ?_);have E:Inv X pins σ H { s with heap:=s.heap.push { cls:=.type "list_iterator",data:=.fields #[.ref p,.int 0 0] } }:=I.kept (t':=s.toks) λb o e=>Ep _ e;have F:=I.fpOk (H':=H) (ER s.heap.objs.size) I.fresh;refine⟨s.heap.objs.size,_,_,_,_,_,(λi=>bs.getD i false),rfl,Walks.list (A:=X.A.in1) (I.ok.hd x) _ p hne d.toArray,⟨⟨_,Er _ rfl,rfl,rfl⟩,?_⟩,?_,λh' tk G=>?_⟩
 .exact g.isList.push _
 .intro i v s' J T m L;rw[C]at m;have a:(bs.map Value.bool)[i]?=Vn v:=by simpa using m
  rw[Ey]at a;cases j:bs[i]? with
  | none=>rw[j]at a;cases a
  | some b=>
   rw[j]at a;cases a;have k:bs.getD i false=b:=by rw[List.getD_eq_getElem?_getD,j];rfl
   have c:J (bs.getD i false) s':=L;rw[k]at c;exact wpAny_truthy_bool c
 .obtain⟨M,N,U,O,P,R⟩:=F;have w:=l.length;rw[Ew]at w;refine⟨.bl (bs.all id),H,E.turned (it:=s.heap.objs.size) (λb o hb e=>G b o (by simpa using hb) e) M N O P R,?_,q⟩;show Value.bool _=Value.bool _;rw[EB,<-w,all_range]
def q9(c:TT)(tb:TS):TS:=λD σ H=>∃(W:Nat->St->Hp->Prop) (R:St->Hp->Prop),(∃m,W m σ H)/\(∀m σ H,W m σ H ->
 c σ H λb H1=>if b=true then ∃N:St->Hp->Prop,(∀a H',N a H'->∃d,d<m/\W d a H')/\tb ⟨N,D.rt,R,N⟩ σ H1 else R σ H1)/\∀σ H,R σ H->D.nx σ H
def fA{pos:Pos}{c:Vk}{body:List Stmt}{tb:TS}(b:PassesOwn (Vg X.prog X.w) X.A X.env X.xe)(d:PT X c tc)(hb:cR X body tb):PS X (.While c body [] pos) (q9 tc tb):=by
 intro pins s σ H D I h;obtain⟨W,R,e,hs,g⟩:=h;refine aH (CB b d hb pins s σ H { D with nx:=R } I ⟨W,e,hs⟩) λf s1 q=>?_;cases f with
 | next=>
  obtain⟨a,H',i,q⟩:=q;exact⟨a,H',i,g a H' q⟩
 | ret v=>exact q
 | brk=>exact q
 | cont=>exact q
section
variable {D:Ends} {σ:St} {H:Hp} {Q:VK} {te:TE} {t:TS} {c:TT}
def fo(W:Nat->St->Hp->Prop)(R:St->Hp->Prop)(m:Nat)(e:W m σ H)(hs:∀m σ H,W m σ H->c σ H λb H1=>if b=true then ∃N:St->Hp->Prop,(∀a H',N a H'->∃d,d<m/\W d a H')/\t ⟨N,D.rt,R,N⟩ σ H1 else R σ H1)(k:∀σ H,R σ H->D.nx σ H):q9 c t D σ H:=⟨W,R,⟨m,e⟩,hs,k⟩
def rd_aug{i:Nat}{a:jz}{x:V}(e:σ[i]?=Vn (Vn x))(h:te σ H λy H1=>a x y H1 λz H2=>D.nx (σ.set i (Vn z)) H2):ug i te a D σ H:=⟨x,e,h⟩
def rd_ipI{f:Int->Int->Int}{i j:Int}(h:Q (.int (f i j)) H):mX f (.int i) (.int j) H Q:=⟨i,j,rfl,rfl,h⟩
end
section
variable {prog:Vd} {w:Ve} {A:Vi} {E:Va->Vc->Prop} {s:Vc}
def wq{it t:Vb}{i:Nat}{x:Va}(c:s.heap.IsTupleIter it t i)(gt:s.heap.IsTuple t ys)(d:ys[i]?=Vn x)
  (q:∀h',h'.IsTupleIter it t (i+1)->Heap.SameBut it s.heap h'->Q x { s with heap:=h' }):Vf (Vg prog w) A (Builtin.SmallTypes.nextOf (.ref it)) Q E s:=by
 obtain⟨u,b,e,a⟩:=id c;obtain⟨v,g,_,k,h⟩:=gt;unfold Builtin.SmallTypes.nextOf;refine Em (Fn (name:=Fb "__next__") c.typeIs F.slot_tuple_iterator_next (wpAny_call_entry F.slot_tuple_iterator_next c.typeIs F.entry_tuple_iterator_next ?_ (F.args_tuple_iterator_next_1 _)));show Vf _ _ (field (Value.ref it) 0 >>= _) _ _ s;refine Em (wpAny_field b a (x:=Value.ref t) rfl ?_);show Vf _ _ (if(Value.ref t == Value.none)=true then _ else _) _ _ s;rw[Fs (show ¬(Value.ref t == Value.none)=true from EL)];show Vf _ _ (field (Value.ref it) 1 >>= _) _ _ s;refine Em (wpAny_field b a (x:=Value.int i 0) rfl ?_);show Vf _ _ (seqItems? (Value.ref t) >>= _) _ _ s;refine Em (wpAny_seqItems g h ?_);simp only[EI,d];refine Em (wpAny_setField b a (by simp) (En ⟨x,rfl,En (q _ ?_ (Heap.SameBut.update ..))⟩));exact⟨_,Heap.get?_update_self _ b (Obj.isFreed_of_fields (Obj.data_mapFields a _)),(Obj.cls_mapFields ..).trans e,by rw[Obj.data_mapFields a];simp[rawInt]⟩
def lU{it t:Vb}{i:Nat}{Q:Va->Vc->Prop}(hA:A.handled=Vo)(b:s.heap.IsTupleIter it t i)(gt:s.heap.IsTuple t ys)(g:ys[i]?=Vo)
  (q:∀h' e,Heap.ExtBut it s.heap h'->(∃o,h'.get? e=Vn o/\o.cls=.type "StopIteration")->E (.ref e) { s with heap:=h' }):Vf (Vg prog w) A (Builtin.SmallTypes.nextOf (.ref it)) Q E s:=by
 obtain⟨u,c,l,d⟩:=id b;obtain⟨v,h,_,k,j⟩:=gt;unfold Builtin.SmallTypes.nextOf;refine Em (Fn (name:=Fb "__next__") b.typeIs F.slot_tuple_iterator_next (wpAny_call_entry F.slot_tuple_iterator_next b.typeIs F.entry_tuple_iterator_next ?_ (F.args_tuple_iterator_next_1 _)));show Vf _ _ (field (Value.ref it) 0 >>= _) _ _ s;refine Em (wpAny_field c d (x:=Value.ref t) rfl ?_);show Vf _ _ (if(Value.ref t == Value.none)=true then _ else _) _ _ s;rw[Fs (show ¬(Value.ref t == Value.none)=true from EL)];show Vf _ _ (field (Value.ref it) 1 >>= _) _ _ s;refine Em (wpAny_field c d (x:=Value.int i 0) rfl ?_);show Vf _ _ (seqItems? (Value.ref t) >>= _) _ _ s;refine Em (wpAny_seqItems h j ?_);simp only[EI,g];refine Em (wpAny_rule (Em (wpAny_setField c d (by simp) ?_)));show Vf _ _ (newExc (Value.type "StopIteration") [] >>= _) _ _ _;refine Em ?_;simp only[newExc,newTuple];refine Em (wpAny_newObj_type (hd:=by size_fits) ?_);refine Em (m:=firstArgMember _ _) (wpAny_of_eq (a:=Value.none) (by first|rfl|(unfold firstArgMember;rfl)) ?_);refine wpAny_newObj_type (hd:=by size_fits) ?_;simp only[raiseNew];refine Em (wpAny_handled ?_)
 first|rw [show Around.handled A.in1=Vo from hA]|rw [hA]
 refine Em (En (wpAny_throw ?_));exact q _ _ (((Heap.SameBut.update ..).extBut.push _).push _) ⟨_,Er _ rfl,rfl⟩
end
structure Sub(P:Vd)(w:Ve)(K:Eo)(J:It)(it:Vb)(tn:Nat->Vh->Prop):Prop where
 obj:∀i h,tn i h->∃o,h.get? it=Vn o/\∀v,o.data≠.cell v
 keep:∀i h h',tn i h->(∀o,h.get? it=Vn o->h'.get? it=Vn o)->tn i h'
 item:∀(X:Cx),X.prog=P->X.w=w->X.K=K->∀(A:Vi) (i:Nat) (pins:List (Vb×Obj)) (s:Vc) (σ:St) (H:Hp) (Q:Va->Vc->Prop) (E:Va->Vc->Prop),Inv X pins σ H s->cE X pins H it->tn i s.heap->J.go i H ->
  (∀x u h',Inv X pins σ H { s with heap:=h' }->RelV x u->J.yld i H x H->tn (i+1) h'->Heap.SameBut it s.heap h'->Q u { s with heap:=h' })->Vf (Vg P w) A (Builtin.SmallTypes.nextOf (.ref it)) Q E s
 done:∀(X:Cx),X.prog=P->X.w=w->X.K=K->∀(A:Vi),A.handled=Vo->∀(i:Nat) (pins:List (Vb×Obj)) (s:Vc) (σ:St) (H:Hp) (Q:Va->Vc->Prop) (E:Va->Vc->Prop),Inv X pins σ H s->cE X pins H it->tn i s.heap->J.stop i H ->
  (∀h' e,Heap.ExtBut it s.heap h'->(∃o,h'.get? e=Vn o/\o.cls=.type "StopIteration")->E (.ref e) { s with heap:=h' })->Vf (Vg P w) A (Builtin.SmallTypes.nextOf (.ref it)) Q E s
theorem tX{K:Eo}(a it:Vb):Sub P w K (dJ K a) it (λi h=>h.IsListIter it a i) where
 obj:=λi h st=>by obtain⟨o,e,c,d⟩:=st;exact⟨o,e,λv z=>by rw[d]at z;cases z⟩
 keep:=λi h h' st k=>st.at k
 item:=by intro X j l m A i pins s σ H Q E I C st n G;subst j l m;obtain⟨xs,x,g,q⟩:=n;obtain⟨r,y,p,J⟩:=I.list g;obtain⟨u,L,M⟩:=y.get q;obtain⟨N,O,Y,R,S,T⟩:=C;exact wpAny_nextOf_list_item st p.isList (x:=u) (by simpa using L) λh' B F=>G x u h' (I.turned (t':=s.toks) (it:=it) (λb o hb e=>(F.2 b hb).trans e) N O R S T) M ⟨rfl,λys U=>by rw[I.list_inj U g];exact q⟩ B F
 done:=by intro X j l m A hA i pins s σ H Q E I C st n W;subst j l m;obtain⟨xs,g,q⟩:=n;obtain⟨r,y,p,J⟩:=I.list g;have Z:=y.length;exact wpAny_nextOf_list_end hA st p.isList (by simp;lia) W
theorem rO{K:Eo}(a it:Vb):Sub P w K (cZ K a) it (λi h=>h.IsTupleIter it a i) where
 obj:=λi h st=>by obtain⟨o,e,c,d⟩:=st;exact⟨o,e,λv z=>by rw[d]at z;cases z⟩
 keep:=λi h h' st k=>st.at k
 item:=by intro X l m n A i pins s σ H Q E I C st q G;subst l m n;obtain⟨xs,x,j,r⟩:=q;obtain⟨g,y,p,J⟩:=I.tuple j;obtain⟨u,L,M⟩:=y.get r;obtain⟨N,O,Y,R,S,T⟩:=C;exact wq st (show s.heap.IsTuple a g.toArray from p) (x:=u) (by simpa using L) λh' B F=>G x u h' (I.turned (t':=s.toks) (it:=it) (λb o hb e=>(F.2 b hb).trans e) N O R S T) M ⟨rfl,λys U=>by rw[I.tuple_inj U j];exact r⟩ B F
 done:=by intro X l m n A hA i pins s σ H Q E I C st q W;subst l m n;obtain⟨xs,j,r⟩:=q;obtain⟨g,y,p,J⟩:=I.tuple j;have Z:=y.length;exact lU hA st (show s.heap.IsTuple a g.toArray from p) (by simp;lia) W
def hJ(a b:It):It:=⟨λi H=>a.go i H/\b.go i H,λi H x H'=>∃p u v,x=.ref p/\H p=Vo/\H'=upd H p (.tup [u,v])/\a.yld i H u H/\b.yld i H v H,λi H=>a.stop i H\/(a.go i H/\b.stop i H)⟩
structure Apart(z TI TO i1 i2:Vb):Prop where
 a:TI≠z
 b:TO≠z
 c:i1≠z
 d:i2≠z
 e:TI≠TO
 f:TI≠i1
 g:TI≠i2
 h:TO≠i1
 i:TO≠i2
 j:i1≠i2
section
variable {X:Cx} {pins:List (Vb×Obj)} {σ:St} {H:Hp} {s:Vc}
def Inv.same{it:Vb}{k:Vh}(I:Inv X pins σ H { s with heap:=k })(f:cE X pins H it)(b:Heap.ExtBut it k h'):Inv X pins σ H { s with heap:=h' }:=by obtain⟨a,d,j,g,h,i⟩:=f;exact Inv.turned (s:={ s with heap:=k }) (t':=s.toks) (it:=it) I (λc o hb e=>b c o hb e) a d g h i
def C4{J1 J2:It}{z TI TO:Vb}{R S:Nat->Vh->Prop}{A:Vi}{E:Va->Vc->Prop}{a b:Va}{i:Nat}{Q:Va->Vc->Prop}(F:Sub X.prog X.w X.K J1 i1 R)(T:Sub X.prog X.w X.K J2 i2 S)(N:Apart z TI TO i1 i2)
  (I:Inv X pins σ H s) (U:∀b∈[z,TI,TO,i1,i2],cE X pins H b) (J:IsZip s.heap z TI TO .none) (gI:IsPair s.heap TI (.ref i1) (.ref i2)) (gO:IsPair s.heap TO a b) (g1:R i s.heap) (g2:S i s.heap) (a1:J1.go i H) (go2:J2.go i H)
  (q:∀x y h',Inv X pins σ (upd H s.heap.objs.size (.tup [x,y])) { s with heap:=h' }->J1.yld i H x H->J2.yld i H y H->IsZip h' z TI TO (rawInt s.heap.objs.size)->IsPair h' TI (.ref i1) (.ref i2)->(∃a b,IsPair h' TO a b)->R (i+1) h'->S (i+1) h'->Q (.ref s.heap.objs.size) { s with heap:=h' }) :
  Vf (Vg X.prog X.w) A (Builtin.«zip.__next__» ⟨[.ref z],[]⟩) (λfin s'=>∃v,fin=.done (.ret v)/\Q v s') E s:=by
 have fz:=U z (by simp);have fO:=U TO (by simp);have f1:=U i1 (by simp);have f2:=U i2 (by simp);show Vf _ _ (field (Value.ref z) 2 >>= _) _ _ _;refine Em (wpAny_field J rfl (x:=Value.bool false) rfl ?_);show Vf _ _ (field (Value.ref z) 3 >>= _) _ _ _;refine Em (wpAny_field J rfl (x:=Value.ref TI) rfl ?_);refine Em (wpAny_seqItems gI rfl ?_);show Vf _ _ (Builtin.SmallTypes.ownedTupleIsFree (Value.ref z) >>= _) _ _ _;refine Em ?_;unfold Builtin.SmallTypes.ownedTupleIsFree;refine Em (wpAny_field J rfl (x:=Value.none) rfl (En ?_));simp only[if_true];refine Em (wpAny_rule ?_);refine Em (wpAny_field J rfl (x:=Value.ref TO) rfl ?_);refine Em (wpAny_setField_rec J (by simp) λk1 p m=>?_)
 replace p:IsZip k1 z TI TO .ellipsis:=p
 have s1:=m.1
 replace m:=m.extBut
 have I1:Inv X pins σ H { s with heap:=k1 }:=Inv.same (show Inv X pins σ H { s with heap:=s.heap }from I) fz m;refine Em ?_;simp only[List.zipIdx_cons,List.zipIdx_nil,List.forIn_cons,List.forIn_nil];refine Em (Em (wpAny_onRaise ?_));show Vf _ _ (Builtin.SmallTypes.nextOf (Value.ref i1) >>= _) _ _ _;refine Em (F.item X rfl rfl rfl _ i pins _ σ H _ _ I1 f1 (F.keep i _ _ g1 λo e=>m _ _ N.c e) a1 λx G k2 I2 rx yx a2 r=>En ?_)
 replace I2:Inv X pins σ H { s with heap:=k2 }:=I2
 have s2:=r.1
 replace r:=r.extBut
 have L:IsPair k2 TO a b:=r _ _ N.h (m _ _ N.b gO);refine Em (wpAny_seqItems L rfl ?_);refine Em (wpAny_updateSeq_pair L λk3 u b3=>?_)
 replace u:IsPair k3 TO G b:=u
 have s3:=b3.1
 replace b3:=b3.extBut
 have I3:Inv X pins σ H { s with heap:=k3 }:=Inv.same I2 fO b3;refine Em (wpAny_letGo (En ?_));refine Em (Em (wpAny_onRaise ?_));show Vf _ _ (Builtin.SmallTypes.nextOf (Value.ref i2) >>= _) _ _ _;refine Em (T.item X rfl rfl rfl _ i pins _ σ H _ _ I3 f2 (T.keep i _ _ g2 λo e=>b3 _ _ (Ne.symm N.i) (r _ _ (Ne.symm N.j) (m _ _ N.d e))) go2 λy W k4 I4 ry yy a3 B=>En ?_)
 replace I4:Inv X pins σ H { s with heap:=k4 }:=I4
 have s4:=B.1
 replace B:=B.extBut
 have M:IsPair k4 TO G b:=B _ _ N.i u;refine Em (wpAny_seqItems M rfl ?_);refine Em (wpAny_updateSeq_pair M λk5 k n=>?_)
 replace k:IsPair k5 TO G W:=k
 have s5:=n.1
 replace n:=n.extBut
 have I5:Inv X pins σ H { s with heap:=k5 }:=Inv.same I4 fO n;refine Em (wpAny_letGo (En (En ?_)));refine Em (wpAny_seqItems k rfl ?_);refine Em (wpAny_newTuple ?_);have sz:k5.objs.size=s.heap.objs.size:=by rw[s5,s4,s3,s2,s1]
 have O:IsZip k5 z TI TO .ellipsis:=n _ _ (Ne.symm N.b) (B _ _ (Ne.symm N.d) (b3 _ _ (Ne.symm N.b) (r _ _ (Ne.symm N.c) p)));have a4:IsPair k5 TI (.ref i1) (.ref i2):=n _ _ N.e (B _ _ N.g (b3 _ _ N.e (r _ _ N.f (m _ _ N.a gI))));have a5:R (i+1) k5:=F.keep _ _ _ (F.keep _ _ _ (F.keep _ _ _ a2 λo e=>b3 _ _ (Ne.symm N.h) e) λo e=>B _ _ N.j e) λo e=>n _ _ (Ne.symm N.h) e;have a6:S (i+1) k5:=T.keep _ _ _ a3 λo e=>n _ _ (Ne.symm N.i) e;have lz:z<k5.objs.size:=Es O;have I6:Inv X pins σ (upd H k5.objs.size (.tup [x,y])) { s with heap:=k5.push { cls:=.type "tuple",data:=.seq #[G,W] } }:=
  I5.laid (t':=s.toks) (o:=.tup [x,y]) (λb ob e=>Ep _ e) (ER _) ⟨by show 2<=sizeLine;decide,[G,W],.cons rx (.cons ry .nil),IsTup.new _ _⟩
 have P:cE X pins (upd H k5.objs.size (.tup [x,y])) z:=by obtain⟨c0,c1,c2,c3,c4,c5⟩:=fz;exact⟨by rw[aF (EO lz)];exact c0,c1,c2,c3,c4,c5⟩
 show Vf _ _ (Builtin.SmallTypes.ownedTupleHandOut (Value.ref z) (Value.ref k5.objs.size) >>= _) _ _ _;refine Em ?_;unfold Builtin.SmallTypes.ownedTupleHandOut;have ab:IsZip (k5.push { cls:=.type "tuple",data:=.seq #[G,W] }) z TI TO .ellipsis:=Ep _ O;refine Em (wpAny_setField_rec ab (by simp) λk7 C Y=>?_)
 replace C:IsZip k7 z TI TO (rawInt k5.objs.size):=C
 replace Y:=Y.extBut
 have I7:Inv X pins σ (upd H k5.objs.size (.tup [x,y])) { s with heap:=k7 }:=Inv.same I6 P Y;refine wpAny_setField_rec C (by simp) λZ l b8=>?_
 replace l:IsZip Z z TI TO (rawInt k5.objs.size):=l
 replace b8:=b8.extBut
 have I8:Inv X pins σ (upd H k5.objs.size (.tup [x,y])) { s with heap:=Z }:=Inv.same I7 P b8;have up:∀b o,b≠z->k5.get? b=Vn o->Z.get? b=Vn o:=λb o ne e=>b8 _ _ ne (Y _ _ ne (Ep _ e));rw[sz]at I8 l;refine En ⟨_,rfl,?_⟩;show Q (.ref k5.objs.size) _;rw[sz];exact q x y Z I8 yx yy l (up _ _ N.a a4) ⟨_,_,up _ _ N.b k⟩ (F.keep _ _ _ a5 λo e=>up _ o N.c e) (T.keep _ _ _ a6 λo e=>up _ o N.d e)
def C6{F R:It}{z TI TO:Vb}{G S:Nat->Vh->Prop}{E:Va->Vc->Prop}{a b:Va}{i:Nat}{Q:Fin->Vc->Prop}(hA:A.handled=Vo)(J:Sub X.prog X.w X.K F i1 G)(T:Sub X.prog X.w X.K R i2 S)(N:Apart z TI TO i1 i2)
  (I:Inv X pins σ H s) (C:∀b∈[z,TI,TO,i1,i2],cE X pins H b) (p:IsZip s.heap z TI TO .none) (gI:IsPair s.heap TI (.ref i1) (.ref i2)) (gO:IsPair s.heap TO a b) (g1:G i s.heap) (g2:S i s.heap) (st:F.stop i H\/(F.go i H/\R.stop i H))
  (q:∀h' e,Inv X pins σ H { s with heap:=h' }->(∃o,h'.get? e=Vn o/\o.cls=.type "StopIteration")->E (.ref e) { s with heap:=h' }) :
  Vf (Vg X.prog X.w) A (Builtin.«zip.__next__» ⟨[.ref z],[]⟩) Q E s:=by
 have L:=C z (by simp);have fO:=C TO (by simp);have M:=C i1 (by simp);have U:=C i2 (by simp);show Vf _ _ (field (Value.ref z) 2 >>= _) _ _ _;refine Em (wpAny_field p rfl (x:=Value.bool false) rfl ?_);show Vf _ _ (field (Value.ref z) 3 >>= _) _ _ _;refine Em (wpAny_field p rfl (x:=Value.ref TI) rfl ?_);refine Em (wpAny_seqItems gI rfl ?_);show Vf _ _ (Builtin.SmallTypes.ownedTupleIsFree (Value.ref z) >>= _) _ _ _;refine Em ?_;unfold Builtin.SmallTypes.ownedTupleIsFree;refine Em (wpAny_field p rfl (x:=Value.none) rfl (En ?_));simp only[if_true];refine Em (wpAny_rule ?_);refine Em (wpAny_field p rfl (x:=Value.ref TO) rfl ?_);refine Em (wpAny_setField_rec p (by simp) λk1 l n=>?_)
 replace l:IsZip k1 z TI TO .ellipsis:=l
 replace n:=n.extBut
 have O:Inv X pins σ H { s with heap:=k1 }:=Inv.same (show Inv X pins σ H { s with heap:=s.heap }from I) L n;refine Em ?_;simp only[List.zipIdx_cons,List.zipIdx_nil,List.forIn_cons,List.forIn_nil];refine Em (Em (wpAny_onRaise ?_));show Vf _ _ (Builtin.SmallTypes.nextOf (Value.ref i1) >>= _) _ _ _;have r:G i k1:=J.keep i _ _ g1 λo e=>n _ _ N.c e;rcases st with st|⟨go,st⟩
 .refine Em (J.done X rfl rfl rfl _ hA i pins _ σ H _ _ O M r st λk2 e m P=>?_);obtain⟨oe,g,k⟩:=P;have u:IsZip k2 z TI TO .ellipsis:=m _ _ (Ne.symm N.c) l;have v:Inv X pins σ H { s with heap:=k2 }:=Inv.same O M m;have ne:e≠z:=λx=>by subst x;rw[u]at g;cases g;simp at k
  exact wpAny_setField_rec u (by simp) λk3 _ b3=>q k3 e (Inv.same v L b3.extBut) ⟨oe,b3.extBut _ _ ne g,k⟩
 .refine Em (J.item X rfl rfl rfl _ i pins _ σ H _ _ O M r go λx ux k2 v rx yx a1 m=>En ?_)
  replace v:Inv X pins σ H { s with heap:=k2 }:=v
  replace m:=m.extBut
  have y:IsPair k2 TO a b:=m _ _ N.h (n _ _ N.b gO);refine Em (wpAny_seqItems y rfl ?_);refine Em (wpAny_updateSeq_pair y λk3 a2 b3=>?_)
  replace b3:=b3.extBut
  have W:Inv X pins σ H { s with heap:=k3 }:=Inv.same v fO b3;refine Em (wpAny_letGo (En ?_));refine Em (Em (wpAny_onRaise ?_));show Vf _ _ (Builtin.SmallTypes.nextOf (Value.ref i2) >>= _) _ _ _;refine Em (T.done X rfl rfl rfl _ hA i pins _ σ H _ _ W U (T.keep i _ _ g2 λo e=>b3 _ _ (Ne.symm N.i) (m _ _ (Ne.symm N.j) (n _ _ N.d e))) st λY e Z P=>?_);obtain⟨oe,g,k⟩:=P;have B:IsZip Y z TI TO .ellipsis:=Z _ _ (Ne.symm N.d) (b3 _ _ (Ne.symm N.b) (m _ _ (Ne.symm N.c) l));have I4:Inv X pins σ H { s with heap:=Y }:=Inv.same W U Z;have ne:e≠z:=λx=>by subst x;rw[B]at g;cases g;simp at k
  exact wpAny_setField_rec B (by simp) λk5 _ b5=>q k5 e (Inv.same I4 L b5.extBut) ⟨oe,b5.extBut _ _ ne g,k⟩
end
def A3{K:Eo}{ps:Pos}{U W:It}{z TI TO:Vb}{Y Z:Nat->Vh->Prop}(q:Sub P w K U i1 Y)(r:Sub P w K W i2 Z)(N:Apart z TI TO i1 i2):
  Turn P w K (.Tuple elts kk ps) (hJ U W) [z,TI,TO,i1,i2] z (λi h=>IsZip h z TI TO .none/\IsPair h TI (.ref i1) (.ref i2)/\(∃a b,IsPair h TO a b)/\Y i h/\Z i h) where
 mem:=by simp
 obj:=λi h st b hb=>by
  obtain⟨g,j,⟨a,c,l⟩,m,n⟩:=st;simp only[EK,E5,or_false]at hb;rcases hb with rfl|rfl|rfl|rfl|rfl
  .exact⟨_,g,λv e=>by cases(show Data.fields _=Data.cell v from e)⟩
  .exact⟨_,j,λv e=>by cases(show Data.seq _ _=Data.cell v from e)⟩
  .exact⟨_,l,λv e=>by cases(show Data.seq _ _=Data.cell v from e)⟩
  .exact q.obj _ _ m
  .exact r.obj _ _ n
 keep:=λi h h' st k=>by obtain⟨g,j,⟨a,c,l⟩,m,n⟩:=st;exact⟨k z (by simp) _ g,k TI (by simp) _ j,⟨a,c,k TO (by simp) _ l⟩,q.keep _ _ _ m λo e=>k i1 (by simp) o e,r.keep _ _ _ n λo e=>k i2 (by simp) o e⟩
 item:=by
  intro X C G J hc i pins s σ H E I u st B;subst C G J;obtain⟨g,j,⟨a,c,l⟩,m,n⟩:=st;have A:s.TypeIs (.ref z) "zip":=⟨_,g,rfl⟩;unfold pyNext;refine Em (wpAny_attempt (Fn (name:=Fb "__next__") A F.slot_zip_next (wpAny_call_entry F.slot_zip_next A F.entry_zip_next
   (C4 q r N I u g j l m n B.1 B.2 λx y h' L yx yy M O p Q R=>En ⟨_,rfl,?_⟩) (F.args_zip_next_1 _))))
  have lt:∀b∈[z,TI,TO,i1,i2],b≠s.heap.objs.size:=λb hb=>by
   obtain⟨f0,f1,f2,f3,f4,f5⟩:=u b hb;simp only[EK,E5,or_false]at hb;rcases hb with rfl|rfl|rfl|rfl|rfl
   .exact EO (Es g)
   .exact EO (Es j)
   .exact EO (Es l)
   .obtain⟨o,e,_⟩:=q.obj _ _ m;exact EO (Es e)
   .obtain⟨o,e,_⟩:=r.obj _ _ n;exact EO (Es e)
  have fz:cE X pins (upd H s.heap.objs.size (.tup [x,y])) z:=by obtain⟨c0,c1,c2,c3,c4,c5⟩:=u z (by simp);exact⟨by rw[aF (lt z (by simp))];exact c0,c1,c2,c3,c4,c5⟩
  obtain⟨a',c',p⟩:=p;refine wpAny_letOwnedTupleGo_zip (s:={ s with heap:=h' }) M λk gk bk=>?_;refine⟨.ref s.heap.objs.size,upd H s.heap.objs.size (.tup [x,y]),Inv.same L fz bk.extBut,rfl,⟨_,x,y,rfl,I.hok.fresh (ER _),rfl,yx,yy⟩,
   ⟨gk,bk.extBut _ _ N.a O,⟨_,_,bk.extBut _ _ N.b p⟩,q.keep _ _ _ Q λo e=>bk.extBut _ _ N.c e,r.keep _ _ _ R λo e=>bk.extBut _ _ N.d e⟩,λb hb=>?_⟩
  rw[aF (lt b hb)];exact(u b hb).1
 done:=by
  intro X C G J hc i pins s σ H E I u st B;subst C G J;obtain⟨g,j,⟨a,c,l⟩,m,n⟩:=st;have A:s.TypeIs (.ref z) "zip":=⟨_,g,rfl⟩;unfold pyNext;refine Em (wpAny_attempt (Fn (name:=Fb "__next__") A F.slot_zip_next (wpAny_call_entry F.slot_zip_next A F.entry_zip_next
   (C6 (I.ok.hd hc) q r N I u g j l m n B λh' e L he=>?_) (F.args_zip_next_1 _))))
  obtain⟨o,ho,S⟩:=he;refine Em (wpAny_isInstance (s:={ s with heap:=h' }) (T:="StopIteration") (b:=true) ⟨o,ho,S⟩ isSubtype_stop ?_);exact En ⟨rfl,L⟩
 self:=λ_ _ _ _ _ st h=>wpAny_pyIter_zip st.1 h
abbrev ke(h:Vh)(a:Vb):Vh:=h.push { cls:=.type "tuple_iterator",data:=.fields #[.ref a,.int 0 0] }
abbrev lh(h:Vh)(a b:Vb):Vh:=(ke h a).push { cls:=.type "tuple_iterator",data:=.fields #[.ref b,.int 0 0] }
abbrev kC(h:Vh)(a b:Vb):Vh:=(lh h a b).push { cls:=.type "tuple",data:=.seq #[.ref h.objs.size,.ref (ke h a).objs.size] }
abbrev kc(h:Vh)(a b:Vb):Vh:=(kC h a b).push { cls:=.type "tuple",data:=.seq #[.none,.none] }
abbrev ja(h:Vh)(a b:Vb):Vh:=(kc h a b).push { cls:=.type "zip",data:=.fields #[.none,.bool false,.bool false,.ref (lh h a b).objs.size,.ref (kC h a b).objs.size] }
def Cb(a b:Vb)(xs ys:Array Va):Meets (Builtin.«zip.__new__» ⟨[.type "zip",.ref a,.ref b],[]⟩) (λ_ R s=>s.heap.IsTuple a xs/\s.heap.IsTuple b ys/\R (.ok (.ret (.ref (kc s.heap a b).objs.size))) { s with heap:=ja s.heap a b }):=
 .of_wp λprog w A R s q=>by
  obtain⟨c,g,d,tk,os⟩:=s;obtain⟨ga,h,q⟩:=q;have e:=sub_zip;have i:Heap.IsTuple (Shared.heap ⟨c,g,d,tk,os⟩) a xs:=ga;have j:Heap.IsTuple (Shared.heap ⟨c.push { cls:=.type "tuple_iterator",data:=.fields #[.ref a,.int 0 0] },g,d,tk,os⟩) b ys:=Heap.IsTuple.push h _
  wp_walk using wpAny_pyIter_tuple i,wpAny_pyIter_tuple j
  exact⟨_,rfl,q⟩
def Au{prog:Vd}{w:Ve}{A:Vi}{E:Va->Vc->Prop}{b:Vb}{xs:Array Va}(ga:s.heap.IsTuple a xs)(j:s.heap.IsTuple b ys)
  (q:∀h',IsZip h' (s.heap.objs.size+4) (s.heap.objs.size+2) (s.heap.objs.size+3) .none->IsPair h' (s.heap.objs.size+2) (.ref s.heap.objs.size) (.ref (s.heap.objs.size+1))->IsPair h' (s.heap.objs.size+3) .none .none ->
   h'.IsTupleIter s.heap.objs.size a 0->h'.IsTupleIter (s.heap.objs.size+1) b 0->(∀c o,s.heap.get? c=Vn o->h'.get? c=Vn o)->Q (.ref (s.heap.objs.size+4)) { s with heap:=h' }) :
  Vf (Vg prog w) A (call (.type "zip") [.ref a,.ref b]) Q E s:=by
 refine callType_new F.called_zip (by decide) (F.typeCall_zip_2 _ _) (F.newCall_zip_2 _ _) (λk=>F.args_object_init_3 k _ _) F.entry_zip_new (Cb a b xs ys) ⟨ga,j,?_⟩;have d:(ke s.heap a).objs.size=s.heap.objs.size+1:=Heap.size_push ..;have e:(lh s.heap a b).objs.size=s.heap.objs.size+2:=by rw[Heap.size_push,d]
 have g:(kC s.heap a b).objs.size=s.heap.objs.size+3:=by rw[Heap.size_push,e]
 have h:(kc s.heap a b).objs.size=s.heap.objs.size+4:=by rw[Heap.size_push,g]
 have k5:(ja s.heap a b).get? (kc s.heap a b).objs.size=Vn _:=Er _ rfl;have i:(ja s.heap a b).get? (kC s.heap a b).objs.size=Vn _:=Ep _ (Er _ rfl);have k3:(ja s.heap a b).get? (lh s.heap a b).objs.size=Vn _:=Ep _ (Ep _ (Er _ rfl));have k2:(ja s.heap a b).get? (ke s.heap a).objs.size=Vn _:=Ep _ (Ep _ (Ep _ (Er _ rfl)));have k1:(ja s.heap a b).get? s.heap.objs.size=Vn _:=Ep _ (Ep _ (Ep _ (Ep _ (Er _ rfl))));show _/\_;rw[e,g,h]at k5;rw[d,e]at k3;rw[g]at i;rw[d]at k2;rw[h];exact⟨⟨_,k5,rfl⟩,q _ k5 k3 i ⟨_,k1,rfl,rfl⟩ ⟨_,k2,rfl,rfl⟩ λc o x=>Ep _ (Ep _ (Ep _ (Ep _ (Ep _ x))))⟩
section
variable {K:Eo} {σ:St} {H:Hp} {Q:VK}
def kg(K:Eo):List V->Hp->(It->Hp->Prop)->Prop:=λvs H R=>∃a b xs ys,vs=[.ref a,.ref b]/\((ah K H a xs/\ah K H b ys/\R (hJ (cZ K a) (cZ K b)) H)\/(ag K H a xs/\ag K H b ys/\R (hJ (dJ K a) (dJ K b)) H))
def pT(K:Eo)(ta:TA):TI:=λσ H R=>ta σ H λvs H1=>kg K vs H1 R
theorem uv{ps:Pos}(K:Eo){a b:Vk}{ta:TA}{p pos:Pos}(M:Gl X "zip")(O:X.mg "zip" = Vo)(ha:PA X [a,b] ta)(P:X.K=K:=by rfl)(hs:starEach [a,b] X.env=[(false,eval a X.env),(false,eval b X.env)]:=by rfl)(j:starEach [b] X.env=[(false,eval b X.env)]:=by rfl):
  PI X (.Tuple elts kk ps) (.Call (.Name "zip" p) [a,b] [] pos) (pT K ta):=by
 subst P;intro pins s σ H R I h;refine Call_ (fQ I M O PyProof.Rows.boot_zip (PyProof.Rows.callWith_type1 (aH (ha pos pins s σ H _ I h) λus s1 ⟨vs,H1,g,r1,z⟩=>?_) (by rw[hs,j]) (by rw[j];rfl)));obtain⟨l,m,xs,ys,e,z⟩:=z;subst e;cases r1 with
 | cons r B=>
  cases B with
  | cons Q B=>
   cases B;cases r;cases Q;have mk:∀{C E:It} {F G:Nat->Vh->Prop},Sub X.prog X.w X.K C s1.heap.objs.size F->Sub X.prog X.w X.K E (s1.heap.objs.size+1) G->∀h',IsZip h' (s1.heap.objs.size+4) (s1.heap.objs.size+2) (s1.heap.objs.size+3) .none->IsPair h' (s1.heap.objs.size+2) (.ref s1.heap.objs.size) (.ref (s1.heap.objs.size+1)) ->
     IsPair h' (s1.heap.objs.size+3) .none .none->F 0 h'->G 0 h'->(∀c o,s1.heap.get? c=Vn o->h'.get? c=Vn o)->R (hJ C E) H1->Vf (Vg X.prog X.w) X.A (pyIter (.ref (s1.heap.objs.size+4))) (nX X pins σ (.Tuple elts kk ps) R) X.xe { s1 with heap:=h' }:=by
    intro C E F G S T h' i n u v x k q;refine wpAny_pyIter_zip (s:={ s1 with heap:=h' }) i ?_;have N:Apart (s1.heap.objs.size+4) (s1.heap.objs.size+2) (s1.heap.objs.size+3) s1.heap.objs.size (s1.heap.objs.size+1):=by constructor<;>(intro h;have h':@Eq Nat _ _:=h;lia)
    refine⟨s1.heap.objs.size+4,[s1.heap.objs.size+4,s1.heap.objs.size+2,s1.heap.objs.size+3,s1.heap.objs.size,s1.heap.objs.size+1],_,_,H1,rfl,g.kept (t':=s1.toks) k,A3 S T N,⟨i,n,⟨_,_,u⟩,v,x⟩,λb hb=>?_,q⟩;have le:@LE.le Nat _ s1.heap.objs.size b:=by
     simp only[EK,E5,or_false]at hb;rcases hb with rfl|rfl|rfl|rfl|rfl
     .exact Nat.le_add_right _ _
     .exact Nat.le_add_right _ _
     .exact Nat.le_add_right _ _
     .exact ER _
     .exact Nat.le_add_right _ _
    exact g.fpOk le (g.hok.fresh le)
   rcases z with⟨ga,J,q⟩|⟨ga,J,q⟩
   .obtain⟨y,_,L,_⟩:=g.tuple ga;obtain⟨d,_,p2,_⟩:=g.tuple J;exact Au (show s1.heap.IsTuple l y.toArray from L) (show s1.heap.IsTuple m d.toArray from p2) λh' i n u v x k=>mk (rO l _) (rO m _) h' i n u v x k q
   .obtain⟨y,_,L,_⟩:=g.list ga;obtain⟨d,_,p2,_⟩:=g.list J;exact call_zip_2 L.isList p2.isList λh' i n u v x _ k=>mk (tX l _) (tX m _) h' i n u v x k q
def rd_zip{a:TA}(h:a σ H λvs H1=>kg K vs H1 R):pT K a σ H R:=h
def BZ{b:Vb}{ys:List V}(ha:ah K H a xs)(hb:ah K H b ys)(h:R (hJ (cZ K a) (cZ K b)) H):kg K [.ref a,.ref b] H R:=⟨a,b,xs,ys,rfl,.inl ⟨ha,hb,h⟩⟩
def Bp{b:Vb}{ys:List V}(ha:ag K H a xs)(hb:ag K H b ys)(h:R (hJ (dJ K a) (dJ K b)) H):kg K [.ref a,.ref b] H R:=⟨a,b,xs,ys,rfl,.inr ⟨ha,hb,h⟩⟩
theorem Ef{b:Vb}{ys:List V}{te:TE}(Pv:Nat->List V->Hp->Prop)(G:xs.length<=sizeLine)(q:Pv 0 [] H)(r:∀i zs H,Pv i zs H->ah K H a xs/\ah K H b ys/\zs.length<=i)
  (hs:∀i u v zs H p H',xs[i]?=Vn u->ys[i]?=Vn v->Pv i zs H->Ext H H'->H' p=Vn (.tup [u,v])->H p=Vo->g (.ref p) (dD n js σ) H' λc s=>tc c s λb l=>if b=true then te c l λv w=>Pv (i+1) (zs++[v]) w else Pv (i+1) zs l)
  (hd:∀zs H p,Pv (min xs.length ys.length) zs H->H p=Vo->Q (.ref p) (upd H p (.lst zs))):ip (hJ (cZ K a) (cZ K b)) n js g tc te σ H Q:=by
 refine⟨λi m zs H=>m=min xs.length ys.length-i/\i<=min xs.length ys.length/\Pv i zs H,⟨min xs.length ys.length,by simp,Nat.zero_le _,q⟩,?_⟩;rintro i m zs H ⟨rfl,hi,p⟩;obtain⟨d,j,I⟩:=r i zs H p;by_cases hlt:i<min xs.length ys.length
 .have z:i<xs.length:=by omega
  have A:i<ys.length:=by omega
  refine .inr ⟨⟨⟨xs,xs[i],d,by simp[z]⟩,⟨ys,ys[i],j,by simp[A]⟩⟩,by lia,Pv (i+1),λB H' k=>⟨min xs.length ys.length-(i+1),by omega,rfl,hlt,k⟩,λx H' y=>?_⟩;obtain⟨pp,u,v,rfl,o,rfl,C,E⟩:=y;exact hs i u v zs H pp _ (C.2 xs d) (E.2 ys j) p (a8 o) aK o
 .have e:i=min xs.length ys.length:=by lia
  refine .inl ⟨?_,λk F=>hd zs H k (e ▸ p) F⟩;by_cases h:xs.length<=i
  .exact .inl ⟨xs,d,h⟩
  .exact .inr ⟨⟨xs,xs[i]'(by omega),d,Ex (by omega)⟩,⟨ys,j,by lia⟩⟩
theorem BY{b:Vb}{ys:List V}{te:TE}(Pv:Nat->List V->Hp->Prop)(G:xs.length<=sizeLine)(q:Pv 0 [] H)(r:∀i zs H,Pv i zs H->ag K H a xs/\ag K H b ys/\zs.length<=i)
  (hs:∀i u v zs H p H',xs[i]?=Vn u->ys[i]?=Vn v->Pv i zs H->Ext H H'->H' p=Vn (.tup [u,v])->H p=Vo->g (.ref p) (dD n js σ) H' λc s=>tc c s λb l=>if b=true then te c l λv w=>Pv (i+1) (zs++[v]) w else Pv (i+1) zs l)
  (hd:∀zs H p,Pv (min xs.length ys.length) zs H->H p=Vo->Q (.ref p) (upd H p (.lst zs))):ip (hJ (dJ K a) (dJ K b)) n js g tc te σ H Q:=by
 refine⟨λi m zs H=>m=min xs.length ys.length-i/\i<=min xs.length ys.length/\Pv i zs H,⟨min xs.length ys.length,by simp,Nat.zero_le _,q⟩,?_⟩;rintro i m zs H ⟨rfl,hi,p⟩;obtain⟨d,j,I⟩:=r i zs H p;by_cases hlt:i<min xs.length ys.length
 .have z:i<xs.length:=by omega
  have A:i<ys.length:=by omega
  refine .inr ⟨⟨⟨xs,xs[i],d,by simp[z]⟩,⟨ys,ys[i],j,by simp[A]⟩⟩,by lia,Pv (i+1),λB H' k=>⟨min xs.length ys.length-(i+1),by omega,rfl,hlt,k⟩,λx H' y=>?_⟩;obtain⟨pp,u,v,rfl,o,rfl,C,E⟩:=y;exact hs i u v zs H pp _ (C.2 xs d) (E.2 ys j) p (a8 o) aK o
 .have e:i=min xs.length ys.length:=by lia
  refine .inl ⟨?_,λk F=>hd zs H k (e ▸ p) F⟩;by_cases h:xs.length<=i
  .exact .inl ⟨xs,d,h⟩
  .exact .inr ⟨⟨xs,xs[i]'(by lia),d,Ex (by lia)⟩,⟨ys,j,by lia⟩⟩
end
def AM{t:Vb}{a b:Va}{lo:Option Int}(gt:IsTup s.heap t ys)(c:s.heap.IsSliceOf sl a b .none)(e:IsPart a lo)(pu:IsPart b hi)
  (d:HT.aR ys.size 0 lo=0/\HT.aR ys.size ys.size hi=ys.size) (q:Q (.ref t) s):Vf (Vg prog w) A (getItem (.ref t) (.ref sl)) Q E s:=by
 obtain⟨u,g,h,j⟩:=id c;have i:s.TypeIs (.ref sl) "slice":=⟨u,g,h⟩;unfold getItem
 try with_reducible refine wpAny_holding ?_
 first|refine Em (En ?_)|skip
 refine Em (wpAny_sequenceKey gt.typeIs (by decide) ?_);refine Em (Fn (name:=Fb "__getitem__") gt.typeIs PyProof.Rows.slot_tuple_getitem (wpAny_call_entry PyProof.Rows.slot_tuple_getitem gt.typeIs entry_tuple_getitem ?_ (args_tuple_getitem _ _)));show Vf _ _ (Builtin.Tuple.tupleItemsOf (Value.ref t) >>= _) _ _ s;refine Em (tupleItemsOf_ gt ?_);refine Em (wpAny_typeOf i ?_);rw[Ft (by decide)];refine Em (HT.oX c e pu ?_);show Vf _ _ (if(((HT.aR ys.size 0 lo:Nat):Int) == 0 && (1:Int) == 1 && (HT.aR ys.size ys.size hi-HT.aR ys.size 0 lo) == ys.size)=true then _ else _) _ _ s;rw[Ft (by rw[d.1,d.2];simp)];show Vf _ _ (Builtin.Tuple.tupleIsExact (Value.ref t) >>= _) _ _ s;unfold Builtin.Tuple.tupleIsExact;refine Em (Em (wpAny_typeOf gt.typeIs (En ?_)));rw[Ft (by decide)];refine Em (wpAny_rule ?_);exact En ⟨_,rfl,En q⟩
def tm:V->Option Int->Option Int->Hp->VK->Prop:=λx lo hi H Q=>∃a xs,x=.ref a/\H a=Vn (.tup xs)/\∀p H',Ext H H'->H' p=Vn (.tup (cH xs lo hi))->Q (.ref p) H'
def xH:jJ X tm:=by
 intro pins s σ H x v j k lo hi sl Q I e hs g pu h;obtain⟨a,xs,rfl,c,q⟩:=h;by_cases b:HT.aR xs.length 0 lo=0/\HT.aR xs.length xs.length hi=xs.length
 .cases e;obtain⟨d,r,i,m⟩:=I.tuple (ah.of c);have hlen:d.toArray.size=xs.length:=by rw[EB];exact r.length.symm
  refine⟨"tuple",_,PyProof.Rows.slot_tuple_getitem.lookup,i.typeIs,?_⟩;refine AM i hs g pu (by rw[hlen];exact b) ⟨.ref a,H,I,rfl,q a H (Ext.rfl' H) ?_⟩;have:cH xs lo hi=xs:=by unfold cH;rw[b.1,b.2,List.drop_zero,Nat.sub_zero,EZ]
  rw[this];exact c
 .exact B8 pins s σ H (.ref a) v j k lo hi sl Q I e hs g pu ⟨a,xs,rfl,ah.of c,b,λp l=>q p _ (a8 l) aK⟩
def DW{Q:VK}{lo:Option Int}(e:H a=Vn (.tup xs))(h:∀p H',Ext H H'->H' p=Vn (.tup (cH xs lo hi))->Q (.ref p) H'):tm (.ref a) lo hi H Q:=⟨a,xs,rfl,e,h⟩
mutual
inductive LitE:Vk->TE->Prop
 | non {j pos}:LitE (.Constant .none j pos) (tC .non)
 | bl {b j pos}:LitE (.Constant (.bool b) j pos) (tC (.bl b))
 | int {i j pos}:LitE (.Constant (.int i) j pos) (tC (.int i))
 | str {x j pos}:LitE (.Constant (.str x) j pos) (tC (.str x))
 | tup {es ta k pos}:LitsE es ta->LitE (.Tuple es k pos) (mZ ta)
inductive LitsE:List Vk->TA->Prop
 | nil:LitsE [] mP
 | cons {e te es ta}:LitE e te->LitsE es ta->LitsE (e::es) (kS te ta)
end
def gq(c:Vb)(q:Vm):HO:=.ext λh=>h.CodeRec (.ref c) q
def xA{q:Vm}(r:h.CodeRec (.ref c) q):bC P w H h c (gq c q):=by
 refine⟨r,?_,λh1 h2 r1 k=>?_⟩
 .obtain⟨c',o,vs,t,e,g,_⟩:=r;cases e;exact⟨o,g⟩
 .obtain⟨c',o,vs,t,e,g,d⟩:=r1;cases e;exact⟨c,o,vs,t,rfl,k o g,d⟩
structure Tab(K:Eo)(mg:Vm->Option Va)(base:Vh)(x:Vm)(c T:Vb):Prop where
 tin:PySem.W.tabIn K x=Vn (c,T)
 hd:PySem.W.CodeHd base c T
 blt:base.BuiltinsAt mg T
 gl:Vj≠T
 kin:K.In base
 ns:base.Ns Vj mg
section
variable {P:Vd} {w:Ve} {K:Eo} {mg:Vm->Option Va} {base:Vh}
def yo{x:Vm}{T f:Vb}(a:PySem.W.tabIn K x=Vn (c,T))(e:K.In base)(G:base.Ns Vj mg)(g:mg x=Vn (.ref f))(h:K.lookup f=Vn o)(hd:o.data=.func fd):fd.code=.ref c:=by
 unfold PySem.W.tabIn at a;split at a
 .rename_i f' hf;have d:=PySem.W.mg_of e G hf;rw[g]at d;cases d;split at a
  .rename_i b;rw[h]at b;cases b;cases hd;split at a
   .rename_i c2 hc;split at a
    .split at a
     .cases a;exact hc
     .cases a
    .cases a
   .cases a
  .cases a
 .cases a
def Dfn.okL{x:Vm}{st:Stmt}{k:Nat}{T:Vb}(D:Dfn K mg x st ps)(B:Tab K mg base x c T)(S:FnScope N ps (cx st))(len:∀vs H Q E,sp vs H Q E->vs.length=ps.length)
  (a:∀(X:Cx) (j:∃f A outer s H E,X=(eX dv P w K mg base N x (cx st) f (.ref c) A outer s H E).nox/\Room k X.A) (H:Hp) (vs:List V) (Q:VK) (E:XK),sp vs H Q E ->
   ∃t,cR X (eD st) t/\t { nx:=λ_ H'=>Q .non H',rt:=Q } (start N vs) H):Cal P w K mg base x (k+1) ps sp:=by
 obtain⟨f,fd,d,F,hb⟩:=D.ex;refine⟨f,fd,d,F.kp,hb,?_⟩;obtain⟨oc,od,kV,doc,pm,an,cdv,ct,osl,rfl,g,b⟩:=F.ex;have e:cdv=.ref c:=yo B.tin B.kin B.ns d g rfl;subst e;refine wK g b S len λA outer s H vs Q E i hsp=>?_;obtain⟨t,h,q⟩:=a _ ⟨f,A,outer,s,H,E,rfl,i⟩ H vs Q E hsp;exact⟨t,h.nox,q⟩
end
def oU(tabs:List (Vb×Vb))(H:Hp):Prop:=∀q∈tabs,H q.2=Vn (.tbl #[])
def DT{P:Vd}{w:Ve}{K:Eo}{mb:Vm->Option Va}{k:Nat}{S:Vb}{fd:Vl}{x:Vm}{sp:Sp}{c:Vc}{vs:List Va}{ns:List Int}{tabs:List (Vb×Vb)}
  (T:K.In c.heap) (hK:PySem.W.noTabs K=true) (p:PySem.W.TabsAt tabs c.heap) (y:c.heap.Ns Vj mg) (hb:c.heap.Ns builtinsNs mb) (U:∀x:Vm,x≠"__name__"->mb x=bootBuiltins x) (L:c.heap.NoLimit)
  (X:∃bm A,mg "__builtins__" = Vn (.ref bm)/\bm≠builtinsNs/\c.heap.get? bm=Vn A/\A.cls=.type "module"/\A.dict=Vn builtinsNs/\A.data=.plain) (hg:c.gens = #[])
  (ha:c.heap.get? a=Vn { cls:=.type "list",data:=.seq vs.toArray }) (hi:IntsAre vs ns) (hl:ns.length<=sizeLine) (hr:Room k callerA)
  (F:∀base:Vh,K.In base->base.Ns Vj mg->(∀q∈tabs,PySem.W.CodeHd base q.1 q.2/\base.BuiltinsAt mg q.2/\Vj≠q.2)->FnOk P w K mg base dv k S fd [x] sp) (hbind:∀(s:Vc) (u:Va),BindsTo s fd ⟨[u],[]⟩ [(x,u)])
  (hsp:∀H:Hp,oU tabs H->ag K H a (ns.map V.int)->sp [.ref a] H (λv _=>v=.bl true) λ_ _ _=>False) :
  codeAny (Vg P w) callerA (.call (.ref S) ⟨[.ref a],[]⟩) (λr s'=>r=.ok (.ret (.bool true))/\OldK c.heap s'.heap/\s'.os=c.os/\AllBare s'.gens) c:=by
 have rv:=tD hi;have M:=hi.length;have na:∀q∈tabs,a≠q.2:=λq i z=>by have:=(p q i).2;rw[<-z,ha]at this;cases this
 have noT:∀{b:Vb} {o:Obj},c.heap.get? b=Vn o->o≠PySem.W.tabObj #[]->b∉tabs.map (·.2):=λ{b o} e n j=>by obtain⟨q,i,rfl⟩:=List.mem_map.mp j;have:=(p q i).2;rw[e]at this;exact n (Fc this)
 have core:∀H:Hp,oU tabs H->ag K H a (ns.map V.int)->bq P w H c.heap->(∀b,H b≠Vo->b=a\/b∈tabs.map (·.2))->(H a≠Vo->K.lookup a=Vo/\∃o xs,H a=Vn (.frz o (.lst xs))) ->
   codeAny (Vg P w) callerA (.call (.ref S) ⟨[.ref a],[]⟩) (λr s'=>r=.ok (.ret (.bool true))/\OldK c.heap s'.heap/\s'.os=c.os/\AllBare s'.gens) c:=by
  intro H hO hS hok hA hKa;have free:∀{b:Vb} {o:Obj},c.heap.get? b=Vn o->o≠PySem.W.tabObj #[]->b≠a->H b=Vo:=λ{b o} e n nb=>by
   cases q:H b with
   | none=>rfl
   | some u=>
    rcases hA b (by rw[q];simp)with z|z
    .exact absurd z nb
    .exact absurd z (noT e n)
  have nsK:∀{b:Vb} {m:Vm->Option Va},c.heap.Ns b m->(fP c.heap H).Ns b m:=λ{b m} ⟨o,es,ep,e,d,r⟩=>⟨o,es,ep,ki e (free e (λz=>by rw[z]at d;cases d) λz=>by rw[z,ha]at e;cases e;cases(show Data.seq vs.toArray _=Data.dict es ep from d)),d,r⟩;have N:K.In (fP c.heap H):=λb o e=>ki (T b o e) (by
   by_cases z:b=a
   .subst z;cases q:H b with
    | none=>rfl
    | some u=>
     have:=(hKa (by rw[q];simp)).1;rw[this]at e;cases e
   .refine free (T b o e) (λG=>?_) z;have h2:=E6.mp hK (b,o) (PySem.W.mem_of_lookupK e);subst G;exact absurd (show false=true from h2) EL)
  have hM:Mod K mg (fP c.heap H):=⟨N,nsK y,⟨mb,nsK hb,U⟩,let ⟨mc,h1,h2⟩:=L;⟨mc,nsK h1,h2⟩⟩;have e0:Env0 P w K mg (fP c.heap H) callerA [] c H:=⟨rfl,hM,λb o e=>C8 e,Nat.le_of_eq (Cg _ _),trivial,λb hb=>absurd (show b∈([]:List Vb)from hb) (by simp),hok,.of_eq hg⟩;have I:∀q∈tabs,PySem.W.CodeHd (fP c.heap H) q.1 q.2/\(fP c.heap H).BuiltinsAt mg q.2/\Vj≠q.2:=λq i=>by
   refine⟨?_,?_,?_⟩
   .obtain⟨o,us,file,tf,flags,tg,Y,text,tt,e,Q,r⟩:=(p q i).1;exact⟨o,us,file,tf,flags,tg,Y,text,tt,ki e (free e (λz=>by rw[z]at Q;cases Q) λz=>by rw[z,ha]at e;cases e;simp at Q),Q,r⟩
   .obtain⟨bm,A,a1,a2,J,O,a5⟩:=X;refine⟨bm,A,a1,a2,λz=>?_,λz=>?_,ki J (free J (λz=>by rw[z]at O;cases O) λz=>by rw[z,ha]at J;cases J;simp at O),O,a5⟩
    .obtain⟨o,es,ep,e,d,_⟩:=y;rw[<-z,J]at e;cases e;rw[a5.2]at d;cases d
    .have:=(p q i).2;rw[<-z,J]at this;cases this;cases O
   .intro z;obtain⟨o,es,ep,e,d,_⟩:=y;have:=(p q i).2;rw[<-z,e]at this;cases this;cases d
  refine codeAny_mono ((F _ N (nsK y) I).run callerA [] c H ⟨[.ref a],[]⟩ [.ref a] [.ref a] _ _ hr e0 (hbind c (.ref a)) (.cons rfl .nil) (hsp H hO hS)) λr s' h=>?_;cases r with
  | error e=>exact False.elim h
  | ok fl=>
   cases fl with
   | next=>exact False.elim h
   | brk=>exact False.elim h
   | cont=>exact False.elim h
   | ret u=>
    obtain⟨v,H',os,bare,un,hok',r',q⟩:=h;have q':v=.bl true:=q;subst q';obtain rfl:u=Value.bool true:=r';have keep:∀b o,c.heap.get? b=Vn o->b∉tabs.map (·.2)->s'.heap.get? b=Vn o:=λb o e nt=>by
     cases q:H b with
     | none=>exact un.keep b o e q (by intro z;exact absurd (show b∈([]:List Vb)from z) (by simp)) (by simp)
     | some u=>
      rcases hA b (by rw[q];simp)with z|z
      .subst z;obtain⟨_,A,xs,z⟩:=hKa (by rw[q];simp);have G:=un.frzs b A _ z;obtain⟨e1,_⟩:=hok b _ z;obtain⟨R,_⟩:=hok' b _ G;rw[e]at e1;cases e1;exact R
      .exact absurd z nt
    have grown:∀q∈tabs,∃more,s'.heap.get? q.2=Vn (PySem.W.tabObj (#[]++more)):=λq i=>by obtain⟨more,e⟩:=un.tbls q.2 _ (hO q i);exact⟨more,hok' q.2 _ e⟩
    refine⟨rfl,⟨λb o e=>?_,λb o e=>?_⟩,os,bare⟩
    .by_cases j:b∈tabs.map (·.2)
     .obtain⟨q,i,rfl⟩:=List.mem_map.mp j;obtain⟨more,g⟩:=grown q i;have R:=(p q i).2;rw[e]at R;cases R;exact .inr (.inl ⟨((p q i).1.tab (p q i).2).isCodeTable,rfl,#[],more,rfl,g⟩)
     .exact .inl (keep b o e j)
    .by_cases j:b∈tabs.map (·.2)
     .obtain⟨q,i,rfl⟩:=List.mem_map.mp j;obtain⟨more,g⟩:=grown q i;exact⟨_,g⟩
     .exact⟨o,keep b o e j⟩
 have B:∀(H:Hp) b,b∈tabs.map (·.2)->bC P w H c.heap b (.tbl #[]):=λH b j=>by obtain⟨q,i,rfl⟩:=List.mem_map.mp j;exact(p q i).2
 cases Z:K.lookup a with
 | some o=>
  have e:=T a o Z;rw[ha]at e;cases e;have at_:∀b,(if b∈tabs.map (·.2)then Vn (HO.tbl #[])else Vo)=(Vo:Option HO)\/b∈tabs.map (·.2):=λb=>by
   by_cases hb:b∈tabs.map (·.2)
   .exact .inr hb
   .exact .inl (Fs hb)
  have C:a∉tabs.map (·.2):=λj=>by obtain⟨q,i,e⟩:=List.mem_map.mp j;exact na q i e.symm
  refine core (λb=>if b∈tabs.map (·.2)then Vn (.tbl #[])else Vo) (λq i=>Ft (List.mem_map.mpr ⟨q,i,rfl⟩)) (.inr ⟨_,vs.toArray,_,Z,rfl,rfl,rfl,by rw[EB,M];exact hl,by simpa using rv⟩) (λb u z=>?_) (λb z=>?_) λz=>absurd (Fs C) z
  .by_cases hb:b∈tabs.map (·.2)
   .have E:=(Ft hb).symm.trans z;cases E;exact B _ b hb
   .have E:=(Fs hb).symm.trans z;cases E
  .rcases at_ b with h|h
   .exact absurd h z
   .exact .inr h
 | none=>
  have C:a∉tabs.map (·.2):=λj=>by obtain⟨q,i,e⟩:=List.mem_map.mp j;exact na q i e.symm
  refine core (λb=>if b=a then Vn (.frz { cls:=.type "list",data:=.seq vs.toArray } (.lst (ns.map V.int)))else if b∈tabs.map (·.2)then Vn (.tbl #[])else Vo) (λq i=>?_) (.inl (.inr ⟨{ cls:=.type "list",data:=.seq vs.toArray },Ft rfl⟩)) (λb u z=>?_) (λb z=>?_) λ_=>⟨Z,_,_,Ft rfl⟩
  .show(if q.2=a then _ else _)=_;rw[Fs (Ne.symm (na q i)),Ft (List.mem_map.mpr ⟨q,i,rfl⟩)]
  .by_cases hb:b=a
   .have E:=(Ft hb).symm.trans z;cases E;subst hb;exact⟨ha,by rw[Ew];exact hl,vs,_,rv,ha⟩
   .have E:=(Fs hb).symm.trans z;by_cases l:b∈tabs.map (·.2)
    .have G:=(Ft l).symm.trans E;cases G;exact B _ b l
    .have G:=(Fs l).symm.trans E;cases G
  .by_cases hb:b=a
   .exact .inl hb
   .by_cases l:b∈tabs.map (·.2)
    .exact .inr l
    .exact absurd ((Fs hb).trans (Fs l)) z
section
variable {prog:Vd} {w:Ve} {A:Vi} {E:Va->Vc->Prop}
theorem ub{it l:Vb}{ys:Array Va}(ne:l≠it):∀(n i:Nat) (s:Vc) (Q:List Va->Vc->Prop),s.heap.IsListIter it l i->s.heap.IsList l ys->i+n<=ys.size ->
  (∀h',h'.IsListIter it l (i+n)->Heap.SameBut it s.heap h'->Q ((ys.toList.drop i).take n) { s with heap:=h' })->Vf (Vg prog w) A (draw (.ref it) n) Q E s
 | 0,i,s,Q,a,_,_,q=>by show Vf _ _ (pure []) Q E s;exact En (by simpa using q s.heap a (Heap.SameBut.refl ..))
 | n+1,i,s,Q,a,gl,le,q=>by
  have lt:i<ys.size:=by lia
  show Vf _ _ (pyNext (Value.ref it) >>= _) Q E s;refine Em (wpAny_pyNext_list_item a gl (x:=ys[i]) (by simp[lt]) λk1 c b=>?_);refine Em (wpAny_holding (ub ne n (i+1) _ _ c (gl.extBut b.extBut ne) (by lia) λk2 d g=>En ?_));have e:ys.toList.drop i=ys[i]::ys.toList.drop (i+1):=by simp[List.drop_eq_getElem_cons,lt]
  have:=q k2 (by rw[show i+(n+1)=i+1+n by lia];exact d) (b.trans g);rw[e,List.take_succ_cons]at this;exact this
theorem ze{Q:List Va->Vc->Prop}(hA:A.handled=Vo)(gl:s.heap.IsList l ys)
  (q:∀h',Heap.ExtBut s.heap.objs.size s.heap h'->Q ys.toList { s with heap:=h' }):Vf (Vg prog w) A (unpackItems (.ref l) ys.size Vo) Q E s:=by
 have lt:l≠s.heap.objs.size:=by obtain⟨o,e,_⟩:=gl;exact EO (Es e)
 unfold unpackItems;refine Em ?_;unfold notIterableAtAll;refine Em (wpAny_specialOf gl.typeIs slot_list_iter.lookup ?_);refine En ?_;simp only[Fg,if_false];refine Em (wpAny_holding (wpAny_pyIter_list gl ?_));refine Em (wpAny_holding (ub lt ys.size 0 _ _ ⟨_,Er _ rfl,rfl,rfl⟩ (gl.push _) (by lia) λk1 c a=>?_));rw[show List.take ys.size (List.drop 0 ys.toList)=ys.toList by rw[List.drop_zero];exact List.take_of_length_le (by simp),Fs (by simp)];refine Em (wpAny_holding (wpAny_pyNext_list_end hA c ((gl.push _).extBut a.extBut lt) (by simp) λk2 d=>?_));simp only[Option.isSome_none,Fg,if_false];exact En (q k2 λb o nb e=>d b o nb (a.extBut b o nb (Ep _ e)))
def CY{es:List Vk}{k:Nat}{pos:Pos}{Q:Unit->Vc->Prop}(hA:A.handled=Vo)(gl:s.heap.IsList l ys)(b:(assignEach es env).length=ys.size)(a:(assignEach es env).findIdx? (·.1)=Vo)
  (h:∀h',Heap.ExtBut s.heap.objs.size s.heap h'->Vf (Vg prog w) A (assignInOrder ((assignEach es env).map (·.2)) ys.toList) Q E { s with heap:=h' }):Vf (Vg prog w) A (assign (.Tuple es k pos) env (.ref l)) Q E s:=by
 rw[arm_assign_Tuple];refine Em (wpAny_standAt ?_);unfold unpack;rw[b,a];exact Em (wpAny_holding (ze hA gl h))
end
section
variable {X:Cx} {pos:Pos}
def vF(K:Eo)(n:Nat)(t:eE):TG:=λv σ H Q=>∃a xs,v=.ref a/\ag K H a xs/\xs.length=n/\t xs σ H Q
def sU{es:List Vk}{k:Nat}{t:eE}(K:Eo)(i:X.calm=true)(h:i8 X es t)(j:X.K=K:=by rfl)
  (l:(assignEach es X.env).length=n:=by rfl) (c:(assignEach es X.env).findIdx? (·.1)=Vo:=by rfl):PG X (.Tuple es k pos) (vF K n t):=by
 subst j;intro pins s σ H v u Q I r d;obtain⟨a,xs,m,p,q,d⟩:=d;subst m;cases r;obtain⟨w,g,x,A⟩:=I.list p;refine CY (I.ok.hd i) x.isList (by simp[l,<-q,g.length]) c λh' y=>?_;have z:Inv X pins σ H { s with heap:=h' }:=I.kept (t':=s.toks) λb o e=>y b o (EO (Es e)) e;exact h pins _ σ H xs _ Q z (by simpa using g) d
end
def w5{K:Eo}{g:eE}{R:St->Hp->Prop}(e:ag K H a xs)(b:xs.length=n)(h:g xs σ H R):vF K n g (.ref a) σ H R:=⟨a,xs,rfl,e,b,h⟩
def rd_par{i j:Nat}{ta:TA}{D:Ends}(h:ta σ H λvs H1=>∃v w,vs=[v,w]/\D.nx ((σ.set i (Vn v)).set j (Vn w)) H1):u9 i j ta D σ H:=h
def rd_par2{w:V}{R:V->V->Prop}(h:R v w):∃a b,[v,w]=[a,b]/\R a b:=⟨v,w,rfl,h⟩
def Et(H H':Hp):Prop:=∀b o,H b=Vn o->(∀ps,o≠.tbl ps)->H' b=Vn o
def Ext.et(e:Ext H H'):Et H H':=λb o h _=>e b o h
def Et.trans{H1 H2:Hp}(a:Et H H1)(b:Et H1 H2):Et H H2:=λx o h n=>b x o (a x o h n) n
def eC(K:Eo)(x q:Vm)(line col:Nat)(H:Hp):Prop:=∀c T,PySem.W.tabIn K x=Vn (c,T) ->
 H T=Vn (.tbl #[])\/∃c',H T=Vn (.tbl #[rawInt line,rawInt col,.ref c'])/\H c'=Vn (gq c' q)
def eC.ext{K:Eo}{x q:Vm}{line col:Nat}(e:Ext H H')(h:eC K x q line col H):eC K x q line col H':=λc T a=>by
 rcases h c T a with h|⟨c',h1,h2⟩
 .exact .inl (e _ _ h)
 .exact .inr ⟨c',e _ _ h1,e _ _ h2⟩
section
variable {κ:Type} [DecidableEq κ]
def bV(kvs:List (κ×V))(k:κ):Option V:=(kvs.find? λkv=>decide (kv.1=k)).map (·.2)
def putK(kvs:List (κ×V))(k:κ)(v:V):List (κ×V):=
 if(kvs.any λkv=>decide (kv.1=k))=true then kvs.map (λkv=>if kv.1=k then(kv.1,v)else kv)else kvs++[(k,v)]
def kK{p:κ×V}{r:List (κ×V)}{k:κ}(e:p.1=k):bV (p::r) k=Vn p.2:=by simp[bV,List.find?_cons,e]
def jP{p:κ×V}{r:List (κ×V)}{k:κ}(e:¬p.1=k):bV (p::r) k=bV r k:=by simp[bV,List.find?_cons,e]
theorem oy(k:κ):∀kvs:List (κ×V),(kvs.any λkv=>decide (kv.1=k))=(bV kvs k).isSome
 | []=>rfl
 | p::r=>by
  rw[List.any_cons];by_cases e:p.1=k
  .simp only[kK e,Fq e,Bool.true_or,Option.isSome_some]
  .rw[jP e,Fp e,Bool.false_or];exact oy k r
theorem vg(kvs:List (κ×V))(k:κ)(v:V):(putK kvs k v).length<=kvs.length+1:=by
 unfold putK;split
 .rw[Ew];lia
 .rw[EN,EY,List.length_nil];lia
def lQ{kvs:List (κ×V)}{k:κ}(v:V)(h:bV kvs k=Vo):putK kvs k v=kvs++[(k,v)]:=by unfold putK;rw[oy,h];exact Fs (by decide)
def fj.isSome_eq{o:Option V}{u:Option Va}(r:fj o u):o.isSome=u.isSome:=by
 cases o with
 | none=>cases u with
  | none=>rfl
  | some _=>exact(show False from r).elim
 | some _=>cases u with
  | none=>exact(show False from r).elim
  | some _=>rfl
def KV.val{kvs:List (κ×V)}{vs:List (κ×Va)}(r:KV kvs vs)(k:κ):fj (bV kvs k) (valueAt vs k):=by
 unfold KV at r;induction r with
 | nil=>exact True.intro
 | @cons p q ps qs h t a=>
  obtain⟨h1,h2⟩:=h;by_cases e:p.1=k
  .have e':q.1=k:=h1.symm.trans e;have b:valueAt (q::qs) k=Vn q.2:=by simp[valueAt,List.find?_cons,e']
   rw[kK e,b];exact h2
  .have e':¬q.1=k:=λz=>e (h1.trans z);have b:valueAt (q::qs) k=valueAt qs k:=by simp[valueAt,List.find?_cons,e']
   rw[jP e,b];exact a
theorem KV.any{kvs:List (κ×V)}{vs:List (κ×Va)}(r:KV kvs vs)(k:κ):(kvs.any λkv=>decide (kv.1=k))=vs.any λkv=>decide (kv.1=k):=by
 unfold KV at r;induction r with
 | nil=>rfl
 | cons h t a=>rw[List.any_cons,List.any_cons,a,h.1]
def KV.repl{kvs:List (κ×V)}{vs:List (κ×Va)}(r:KV kvs vs)(k:κ){y:V}(a:RelV y u):
  KV (kvs.map λkv=>if kv.1=k then(kv.1,y)else kv) (vs.map λkv=>if kv.1=k then(kv.1,u)else kv):=by
 unfold KV at r ⊢;induction r with
 | nil=>exact .nil
 | @cons p q ps qs h t b=>
  rw[List.map_cons,List.map_cons];refine .cons ?_ b;obtain⟨h1,h2⟩:=h;by_cases e:p.1=k
  .rw[Ft e,Ft (h1.symm.trans e)];exact⟨h1,a⟩
  .rw[Fs e,Fs (λz=>e (h1.trans z))];exact⟨h1,h2⟩
def KV.put{kvs:List (κ×V)}{vs:List (κ×Va)}(r:KV kvs vs)(k:κ){y:V}(a:RelV y u):KV (putK kvs k y) (stored vs k u):=by
 unfold putK stored;rw[r.any k];by_cases e:(vs.any λkv=>decide (kv.1=k))=true
 .rw[Ft e,Ft e];exact r.repl k a
 .rw[Fs e,Fs e];exact Paired.snoc r ⟨rfl,a⟩
def KV.keys{kvs:List (κ×V)}{vs:List (κ×Va)}(r:KV kvs vs):kvs.map (·.1)=vs.map (·.1):=by
 unfold KV at r;induction r with
 | nil=>rfl
 | cons h t a=>rw[List.map_cons,List.map_cons,a,h.1]
theorem KV.length{kvs:List (κ×V)}{vs:List (κ×Va)}(r:KV kvs vs):kvs.length=vs.length:=Paired.length r
end
def iV{k:Key}(r:RelV (kV k) u):(cU P w).is k u=true:=by
 cases k with
 | inl i=>obtain⟨t,e⟩:=(show ∃t,u=Value.int i t from r);subst e;exact zX P w i t
 | inr x=>obtain⟨t,e⟩:=(show ∃t,u=Value.str x t from r);subst e;exact nW P w x t
theorem m6{P:Vd}{w:Ve}:∀{ks:List Key} {us:List Va},Vals (ks.map kV) us->ItemsAre (cU P w) ks us
 | [],_,r=>by rw[List.map_nil]at r;cases r;exact .nil
 | k::ks,_,r=>by
  rw[List.map_cons]at r;cases r with
  | cons h t=>exact .cons (iV h) (m6 t)
abbrev KT(H:Hp):List (List Key×V)->List (List Key×Vb×Va)->Prop:=Paired λp q=>p.1=q.1/\H q.2.1=Vn (.tup (p.1.map kV))/\RelV p.2 q.2.2
def KT.val{xs:List (List Key×Vb×Va)}(r:KT H kvs xs)(k:List Key):fj (bV kvs k) ((atKey xs k).map (·.2)):=by
 induction r with
 | nil=>exact True.intro
 | @cons p q ps qs h t a=>
  obtain⟨h1,_,h2⟩:=h;by_cases e:p.1=k
  .have e':q.1=k:=h1.symm.trans e;have b:atKey (q::qs) k=Vn q.2:=by simp[atKey,List.find?_cons,e']
   rw[kK e,b];exact h2
  .have e':¬q.1=k:=λz=>e (h1.trans z);have b:atKey (q::qs) k=atKey qs k:=by simp[atKey,List.find?_cons,e']
   rw[jP e,b];exact a
def KT.repl{xs:List (List Key×Vb×Va)}(r:KT H kvs xs)(k:List Key){y:V}(a:RelV y u):
  KT H (kvs.map λkv=>if kv.1=k then(kv.1,y)else kv) (xs.map (putAt k u)):=by
 induction r with
 | nil=>exact .nil
 | @cons p q ps qs h t b=>
  rw[List.map_cons,List.map_cons];refine .cons ?_ b;obtain⟨h1,h2,c⟩:=h;unfold putAt;by_cases e:p.1=k
  .rw[Ft e,Ft (h1.symm.trans e)];exact⟨h1,h2,a⟩
  .rw[Fs e,Fs (λz=>e (h1.trans z))];exact⟨h1,h2,c⟩
def KT.put{xs:List (List Key×Vb×Va)}(r:KT H kvs xs)(k:List Key){b:Vb}{y:V}(hb:H b=Vn (.tup (k.map kV)))(a:RelV y u):
  KT H (putK kvs k y) (storedH xs k b u):=by
 have e:(kvs.any λkv=>decide (kv.1=k))=(atKey xs k).isSome:=by rw[oy,(r.val k).isSome_eq,Option.isSome_map]
 unfold putK storedH;rw[e];by_cases q:(atKey xs k).isSome=true
 .rw[Ft q,Ft q];exact r.repl k a
 .rw[Fs q,Fs q];exact Paired.snoc r ⟨rfl,hb,a⟩
def KT.keeps{xs:List (List Key×Vb×Va)}(r:KT H kvs xs)(a:∀b ys,H b=Vn (.tup ys)->H' b=Vn (.tup ys)):KT H' kvs xs:=
 Paired.mapP r λ_ _ z=>⟨z.1,a _ _ z.2.1,z.2.2⟩
section
variable {P:Vd} {w:Ve} {H:Hp} {h:Vh} {a:Vb}
def vb{u:HO}(ok:bq P w H h)(e:Rd H a u):bC P w H h a u:=e.ok ok
def lC{kvs:List (Key×V)}(ok:bq P w H h)(e:Rd H a (.dK kvs)):kvs.length<=sizeLine/\(a == sysModules)=false/\∃vs,KV kvs vs/\h.DictOf (cU P w) a vs:=
 show bC P w H h a (.dK kvs)from vb ok e
def yF{kvs:List (Key×V)}(ok:bq P w H h)(e:H a=Vn (.dK kvs)):kvs.length<=sizeLine/\(a == sysModules)=false/\∃vs,KV kvs vs/\h.DictOf (cU P w) a vs:=lC ok (.inl e)
def jY{ks:List Key}(ok:bq P w H h)(e:H a=Vn (.tup (ks.map kV))):(tupleKind (cU P w)).is h ks a:=by obtain⟨_,b,r,o,h1,h2,n,c⟩:=(show bC P w H h a (.tup (ks.map kV))from ok a _ e);exact⟨o,b.toArray,n,h1,h2,c,by simpa using m6 r⟩
def lB(ok:bq P w H h)(e:Rd H a (.dT kvs)):kvs.length<=sizeLine/\(a == sysModules)=false ∧
  ∃xs,KT H kvs xs/\h.DictOfH (tupleKind (cU P w)) a xs:=by
 obtain⟨z,y,xs,r,o,es,ep,h1,h2,d,g,i⟩:=(show bC P w H h a (.dT kvs)from vb ok e);refine⟨z,y,xs,r,o,es,ep,h1,h2,d,g,λx b=>?_,i⟩;have all:∀{l:List (List Key×V)} {m:List (List Key×Vb×Va)},KT H l m->∀x∈m,(tupleKind (cU P w)).is h x.1 x.2.1:=by
  intro l m q;induction q with
  | nil=>intro x b;exact nomatch b
  | @cons p q ps qs c t j=>
   intro x b;rcases EK.mp b with e|b
   .subst e;exact jY ok (by rw[<-c.1];exact c.2.1)
   .exact j x b
 exact all r x b
def sE(ok:bq P w H h)(e:H a=Vn (.dT kvs)):kvs.length<=sizeLine/\(a == sysModules)=false ∧
  ∃xs,KT H kvs xs/\h.DictOfH (tupleKind (cU P w)) a xs:=lB ok (.inl e)
end
def cP(H:Hp)(a:Vb)(y:V)(r:Option V):Prop:=
 (∃kvs k,Rd H a (.dK kvs)/\y=kV k/\r=bV kvs k)\/∃kvs k b,Rd H a (.dT kvs)/\y=.ref b/\H b=Vn (.tup (k.map kV))/\r=bV kvs k
def g7(H:Hp)(a:Vb)(y v:V)(H':Hp):Prop:=
 (∃kvs k,H a=Vn (.dK kvs)/\y=kV k/\kvs.length<sizeLine/\H'=upd H a (.dK (putK kvs k v))) ∨
 ∃kvs k b,H a=Vn (.dT kvs)/\y=.ref b/\H b=Vn (.tup (k.map kV))/\kvs.length<sizeLine/\H'=upd H a (.dT (putK kvs k v))
def cP.t{b:Vb}{k:List Key}(e:H a=Vn (.dT kvs))(c:H b=Vn (.tup (k.map kV))):cP H a (.ref b) (bV kvs k):=.inr ⟨kvs,k,b,.inl e,rfl,c,rfl⟩
def g7.t{b:Vb}{k:List Key}(e:H a=Vn (.dT kvs))(c:H b=Vn (.tup (k.map kV)))(d:kvs.length<sizeLine):
  g7 H a (.ref b) v (upd H a (.dT (putK kvs k v))):=.inr ⟨kvs,k,b,e,rfl,c,d,rfl⟩
section
variable {X:Cx} {pins:List (Vb×Obj)} {σ:St} {H:Hp} {s:Vc} {a:Vb} {y v:V} {u r:Va} {o:Option V} {A:Vi} {E:Va->Vc->Prop}
def Inv.big(I:Inv X pins σ H s):sysModules<s.heap.objs.size:=by have h:Vj<s.heap.objs.size:=(I.mod.glob.keeps I.bk).lt;exact Nat.lt_trans (by decide) h
def Ar(q:A.units+1<cLine)(I:Inv X pins σ H s)(g:cP H a y (Vn v))(n:RelV y u)(h:∀d s',Inv X pins σ H s'->RelV v d->Q d s'):
  Vf (Vg X.prog X.w) A (getItem (.ref a) u) Q E s:=by
 rcases g with⟨kvs,k,e,i,l⟩|⟨kvs,k,b,e,i,r,l⟩
 .subst i;obtain⟨z,hd,vs,rel,dd⟩:=lC I.hok e;obtain⟨d,j,c⟩:=fj.some_of (v:=v) (o:=valueAt vs k) (by rw[l];exact rel.val k);exact wpAny_getItem_of (iV n) dd.mapOf j (h d _ (I.tok _) c)
 .subst i;cases(show u=Value.ref b from n);obtain⟨z,hd,xs,rel,dd⟩:=lB I.hok e;obtain⟨d,j,c⟩:=fj.some_of (v:=v) (o:=(atKey xs k).map (·.2)) (by rw[l];exact rel.val k);obtain⟨p,x,m⟩:=EH.mp j;refine wpAny_getItem_heap (tupleKind_room_in1 q) (jY I.hok r) dd x ?_;rw[m];exact h d _ (I.tok _) c
def Bc(i:A.units+1<cLine)(I:Inv X pins σ H s)(g:cP H a y o)(d:RelV y u)(h:∀s',Inv X pins σ H s'->Q (.bool (!o.isSome)) s'):
  Vf (Vg X.prog X.w) A (compareOp .NotIn u (.ref a)) Q E s:=by
 rcases g with⟨kvs,k,e,c,l⟩|⟨kvs,k,b,e,c,j,l⟩
 .subst c;obtain⟨z,hd,vs,rel,dd⟩:=lC I.hok e;refine wpAny_notIn_of (iV d) hd dd.mapOf ?_;rw[<-(rel.val k).isSome_eq,<-l];exact h _ (I.tok _)
 .subst c;cases(show u=Value.ref b from d);obtain⟨z,hd,xs,rel,dd⟩:=lB I.hok e;refine wpAny_notIn_heap (tupleKind_room_in1 i) (jY I.hok j) hd dd ?_;have q:=(rel.val k).isSome_eq;rw[Option.isSome_map]at q;rw[<-q,<-l];exact h _ (I.tok _)
def n8{t':Nat}{c:HO}(I:Inv X pins σ H s)(d:jE (H a))(hs:Heap.SameBut a s.heap h')(g:∃q,h'.get? a=Vn q)(new:bC X.prog X.w (upd H a c) h' a c):
  Inv X pins σ (upd H a c) { s with heap:=h',toks:=t' }:=
 I.write (x:=a) (e:=a) d (.inl rfl) (λb q hb z=>(hs.2 b hb).trans z) g new
def yD{kvs:List (Key×V)}{vs:List (Key×Va)}(z:kvs.length<=sizeLine)(hd:(a == sysModules)=false)(rel:KV kvs vs)(dd:h'.DictOf (cU P w) a vs):
  bC P w H' h' a (.dK kvs):=⟨z,hd,vs,rel,dd⟩
theorem Ci{Q:Unit->Vc->Prop}(F:A.units+1<cLine)(I:Inv X pins σ H s)(g:g7 H a y v H')(p:RelV y u)(x:RelV v r)(h:∀s',Inv X pins σ H' s'->Q () s'):
  Vf (Vg X.prog X.w) A (setItem (.ref a) u r) Q E s:=by
 rcases g with⟨kvs,k,e,j,l,m⟩|⟨kvs,k,b,e,j,B,l,m⟩
 .subst j m;obtain⟨z,hd,vs,rel,dd⟩:=yF I.hok e;have n:vs.length<=sizeLine:=by rw[<-rel.length];exact z
  have o:(putK kvs k v).length<=sizeLine:=by have:=vg kvs k v;lia
  refine wpAny_setItem_pairs (hsz:=n) (iV p) dd λh' d hs=>h _ ?_;have G:∃q,h'.get? a=Vn q:=let ⟨q,_,_,i,_⟩:=d;⟨q,i⟩;exact n8 I (by rw[e];exact True.intro) hs G (yD o hd (rel.put k x) d)
 .subst j m;cases(show u=Value.ref b from p);obtain⟨z,hd,xs,rel,dd⟩:=sE I.hok e;have n:xs.length<=sizeLine:=by rw[<-Paired.length rel];exact z
  have o:(putK kvs k v).length<=sizeLine:=by have:=vg kvs k v;lia
  refine wpAny_setItem_heap (hsz:=n) (tupleKind_room_in1 F) (jY I.hok B) dd λh' d hs=>h _ ?_;obtain⟨q,es,ep,i,h2,J,L,_,M⟩:=d;refine n8 I (by rw[e];exact True.intro) hs ⟨q,i⟩ ⟨o,hd,_,(rel.put k B x).keeps λc ys C=>?_,q,es,ep,i,h2,J,L,M⟩;rw[aF (bZ C e (λz=>nomatch z))];exact C
end
def lT(i:Vk):Prop:=∀a b,subscripted i false a b=operate [a,b] (getItem a b)
def sW{value slice:Vk}{pos:Pos}{id:String}
  (k:typeLookup (.type T) "__getitem__" = pure (Vn (.builtin id))) (hs:lT slice)
  (h:Vf (Vg prog w) A (eval value env) (λo c=>Vf (Vg prog w) A (eval slice env) (λi a=>a.TypeIs o T/\Vf (Vg prog w) A (getItem o i) Q E a) E c) E s) :
  Vf (Vg prog w) A (eval (.Subscript value slice pos) env) Q E s:=by
 refine Subscript_ (wpAny_mono h (λo c e=>wpAny_mono e (λi a b=>?_) λ_ _ x=>x) λ_ _ x=>x);obtain⟨j,b⟩:=b;unfold subscriptTail;refine Em ?_;rw[getitemInPython_of_ne j.not_modules];refine Em (wpAny_specialOf j k ?_);have fin:Vf (Vg prog w) A (subscripted slice false o i) (λr d=>Vf (Vg prog w) A (letTemporaryGo value o r >>= λ_=>pure r) Q E d) E a:=by rw[hs o i];exact wpAny_operating (wpAny_mono b (λr d g=>Em (wpAny_letTemporaryGo (En g))) λ_ _ x=>x)
 first
  | exact En (Em fin)
  | exact Em (En (Em fin))
  | exact Em fin
def Dk{y:V}{o:Option V}(I:Inv X pins σ H s)(g:cP H a y o):s.TypeIs (.ref a) "dict":=by
 rcases g with⟨kvs,k,e,_,_⟩|⟨kvs,k,b,e,_,_,_⟩
 .obtain⟨_,_,vs,_,dd⟩:=lC I.hok e;exact dd.typeIs
 .obtain⟨_,_,xs,_,dd⟩:=lB I.hok e;exact dd.typeIs
def o6(td ty:TE):TE:=λσ H Q=>td σ H λx H1=>ty σ H1 λy H2=>∃a v,x=.ref a/\cP H2 a y (Vn v)/\Q v H2
def sN(ty td:TE):TE:=λσ H Q=>ty σ H λy H1=>td σ H1 λx H2=>∃a o,x=.ref a/\cP H2 a y o/\Q (.bl (!o.isSome)) H2
def oG(td ty tv:TE):TS:=λD σ H=>tv σ H λv H1=>td σ H1 λx H2=>ty σ H2 λy c=>∃a b,x=.ref a/\g7 c a y v b/\D.nx σ b
section
variable {X:Cx} {o i e value:Vk} {pos pos' tpos:Pos} {td ty tv:TE}
def ko(d:X.A.units+1<cLine)(ho:PE X o td)(hi:PE X i ty)(hs:lT i):PE X (.Subscript o i pos) (o6 td ty):=by intro pins s σ H Q I h;refine sW PySem.F.slot_dict_getitem.lookup hs (aH (ho pins s σ H _ I h) λu s1 ⟨x,H1,e,j,k⟩=>aH (hi pins s1 σ H1 _ e k) λp s2 ⟨y,H2,c,l,a,v,ex,g,m⟩=>?_);subst ex;obtain rfl:u=Value.ref a:=j;exact⟨Dk c g,Ar d c g l λq r n b=>⟨v,H2,n,b,m⟩⟩
def iH(b:X.A.units+1<cLine)(hi:PE X i ty)(ho:PE X o td):PC X .NotIn i o (sN ty td):=by intro pins s σ H Q I h;refine aH (hi pins s σ H _ I h) λp s1 ⟨y,H1,c,d,e⟩=>aH (ho pins s1 σ H1 _ c e) λu s2 ⟨x,H2,j,k,a,l,ex,g,m⟩=>?_;subst ex;obtain rfl:u=Value.ref a:=k;exact Bc b j g d λq n=>⟨.bl (!l.isSome),H2,n,rfl,m⟩
def mw(b:X.A.units+1<cLine)(ho:PE X o td)(hi:PE X i ty)(c:PE X value tv)(hs:swapsWith value (Vn (.Subscript o i pos')) pos.line X.env=pure false):
  PS X (.Assign [.Subscript o i pos'] value pos) (oG td ty tv):=by
 intro pins s σ H D I h;refine wpAny_Assign_Subscript (aH (c pins s σ H _ I h) λr s1 ⟨v,H1,d,e,j⟩=>aH (ho pins s1 σ H1 _ d j) λu s2 ⟨x,H2,k,l,m⟩=>aH (hi pins s2 σ H2 _ k m) λB C ⟨y,E,n,p,a,q,ex,g,w⟩=>?_) hs;subst ex;obtain rfl:u=Value.ref a:=l;exact Ci b n g p e λF z=>⟨σ,q,z,w⟩
end
def xt(h:Vh)(hb:sysModules<h.objs.size):bC P w H (h.push { cls:=.type "dict",data:=.dict #[] }) h.objs.size (.dT []):=
 ⟨Nat.zero_le _,beq_eq_false_iff_ne.mpr (Ne.symm (EO hb)),[],.nil,_,#[],0,Er _ rfl,⟨rfl,rfl,rfl⟩,rfl,rfl,List.nodup_nil⟩
end L2
namespace Tb
open PySem
end Tb
namespace Tb
open PySem
def kr{xs:Array Nat}(h:xs.toList.Pairwise (· < ·)){a b x y:Nat}(ha:xs[a]?=Vn x)(hb:xs[b]?=Vn y)(hab:a<b):x<y:=by obtain⟨h1,c⟩:=Array.getElem?_eq_some_iff.mp ha;obtain⟨h2,d⟩:=Array.getElem?_eq_some_iff.mp hb;have:=List.pairwise_iff_getElem.mp h a b (by simpa using h1) (by simpa using h2) hab;simp only[Array.getElem_toList]at this;rw[c,d]at this;exact this
theorem nE(xs:Array Nat)(j:Nat)(hs:xs.toList.Pairwise (· < ·)):∀fuel lo hi,hi-lo<=fuel->lo<=hi->hi<=xs.size->(∀k x,k<lo->xs[k]?=Vn x->x<j)->(∀k x,hi<=k->xs[k]?=Vn x->j<=x) ->
  SetTable.below.go xs j fuel lo hi<=xs.size/\(∀k x,k<SetTable.below.go xs j fuel lo hi->xs[k]?=Vn x->x<j)/\(∀k x,SetTable.below.go xs j fuel lo hi<=k->xs[k]?=Vn x->j<=x)
 | 0,lo,hi,h1,h2,c,d,e=>by
  have:lo=hi:=by lia
  subst this;exact⟨c,d,e⟩
 | fuel+1,lo,hi,h1,h2,c,d,e=>by
  unfold SetTable.below.go;by_cases hlt:lo<hi
  .rw[Ft hlt];dsimp only;have h:(lo+hi) / 2<xs.size:=by lia
   have em:xs[(lo+hi) / 2]?=Vn xs[(lo+hi) / 2]:=getElem?_pos xs _ h;have i:xs.getD ((lo+hi) / 2) j=xs[(lo+hi) / 2]:=by rw[Array.getD_eq_getD_getElem?,em];rfl
   rw[i];by_cases g:xs[(lo+hi) / 2]<j
   .rw[Ft g];refine nE xs j hs fuel _ _ (by lia) (by lia) c (λk x l b=>?_) e;rcases Fh k ((lo+hi) / 2)with a|a
    .have:=kr hs b em a;lia
    .have:k=(lo+hi) / 2:=by lia
     subst this;rw[em]at b;cases b;exact g
   .rw[Fs g];refine nE xs j hs fuel _ _ (by lia) (by lia) (by lia) d (λk x l b=>?_);rcases Fh ((lo+hi) / 2) k with a|a
    .have:=kr hs em b a;lia
    .have:k=(lo+hi) / 2:=by lia
     subst this;rw[em]at b;cases b;lia
  .rw[Fs hlt];have:lo=hi:=by lia
   subst this;exact⟨c,d,e⟩
theorem kx{xs:Array Nat}(hs:xs.toList.Pairwise (· < ·))(j:Nat):SetTable.below xs j<=xs.size/\(∀k x,k<SetTable.below xs j->xs[k]?=Vn x->x<j)/\(∀k x,SetTable.below xs j<=k->xs[k]?=Vn x->j<=x):=
 nE xs j hs xs.size 0 xs.size (by lia) (Nat.zero_le _) (ER _) (λk x a=>by lia) (λk x a e=>by have:=(Array.getElem?_eq_some_iff.mp e).1;lia)
theorem slot_mem{t:SetTable}(hs:t.place.toList.Pairwise (· < ·)){j i:Nat}(h:t.place[i]?=Vn j):t.slot j=.live i:=by
 obtain⟨h1,h2,d⟩:=kx hs j;have e:SetTable.below t.place j=i:=by
  have hi:=(Array.getElem?_eq_some_iff.mp h).1;rcases Fh i (SetTable.below t.place j)with a|a
  .have:=h2 i j a h;lia
  .rcases Fh (SetTable.below t.place j) i with b|b
   .have c:t.place[SetTable.below t.place j]?=Vn t.place[SetTable.below t.place j]:=getElem?_pos t.place _ (by omega);have g:=d _ _ (ER _) c;have k:=kr hs c h b;lia
   .omega
 unfold SetTable.slot;dsimp only;rw[e,h,Ft (beq_self_eq_true _)]
def xY{α:Type}(xs:Array α)(p:Nat)(x:α):(SetTable.insertAt xs p x).toList=xs.toList.take p++(x::xs.toList.drop p):=by unfold SetTable.insertAt;rw[Array.toList_append,Array.toList_push,Array.toList_extract,Array.toList_extract];show List.take (p-0) (xs.toList.drop 0)++[x]++List.take (xs.size-p) (xs.toList.drop p)=_;rw[List.take_of_length_le (l:=xs.toList.drop p) (by rw[List.length_drop,EA];exact ER _),List.append_assoc];rfl
theorem AZ{xs:Array Nat}(hs:xs.toList.Pairwise (· < ·)){j:Nat}(h:j∉xs.toList):(SetTable.insertAt xs (SetTable.below xs j) j).toList.Pairwise (· < ·):=by
 obtain⟨h1,h2,i⟩:=kx hs j;rw[xY];have a:=hs;rw[<-List.take_append_drop (SetTable.below xs j) xs.toList,List.pairwise_append]at a;rw[List.pairwise_append,List.pairwise_cons];refine⟨a.1,⟨λy b=>?_,a.2.1⟩,λx g y b=>?_⟩
 .obtain⟨k,c,e⟩:=List.mem_iff_getElem.mp b;rw[List.length_drop,EA]at c;rw[List.getElem_drop,Array.getElem_toList]at e;have ex:xs[SetTable.below xs j+k]?=Vn y:=by rw[getElem?_pos xs _ (by lia),e]
  have:=i _ _ (by lia) ex;have ne:y≠j:=λz=>h (by rw[<-z];exact Array.mem_toList_iff.mpr (Array.mem_of_getElem? ex));lia
 .have d:x<j:=by obtain⟨k,c,e⟩:=List.mem_iff_getElem.mp g;rw[Fl,EA]at c;rw[List.getElem_take,Array.getElem_toList]at e;exact h2 k x (by lia) (by rw[getElem?_pos xs _ (by lia),e])
  rcases EK.mp b with rfl|b
  .exact d
  .exact a.2.2 x g y b
def xB{t:SetTable}(hs:t.place.toList.Pairwise (· < ·)){j:Nat}(h:j∈t.place.toList):∃i,t.slot j=.live i/\t.place[i]?=Vn j:=by obtain⟨i,hi⟩:=Fi h;rw[Array.getElem?_toList]at hi;exact⟨i,slot_mem hs hi,hi⟩
def DP{t:SetTable}(hs:t.place.toList.Pairwise (· < ·)){j:Nat}(h:t.slot j=.empty):j∉t.place.toList:=λa=>by obtain⟨i,e,_⟩:=xB hs a;rw[h]at e;cases e
theorem nK{α:Type}(es:Array α):∀(l:List Nat),(∀i∈l,i<es.size)->∀n:Nat,(l.filterMap (es[·]?))[n]?=(l[n]?).bind (es[·]?)
 | [],_,n=>by simp
 | x::l,h,n=>by
  have a:=h x EC;have e:(x::l).filterMap (es[·]?)=es[x]::l.filterMap (es[·]?):=by rw[List.filterMap_cons];simp[a]
  rw[e];cases n with
  | zero=>simp[a]
  | succ n=>simpa using nK es l (λi hi=>h i (Ez _ hi)) n
end Tb
namespace L2
open PySem PySem.Spec PyProof.Rows
section
variable {P:Vd} {w:Ve} {A:Vi} {E:Va->Vc->Prop} {s:Vc}
abbrev cO(led:Bool):Obj:={ cls:=.type "set",dict:=Vo,data:=.set #[] 0 (.fresh 0 0 led) }
end
namespace SF
def Bt:entryFor table "set.__iter__" = Vn Builtin.«frozenset.__iter__»:=entryFor_alias (id':="frozenset.__iter__") (by kernel_rfl) rfl (by decide +kernel) (by kernel_rfl)
def B7(a:Va):argsOk "set.__iter__" ⟨[a],[]⟩:=by unfold argsOk;kernel_rfl
def slot_next:Slot "set_iterator" "__next__" "set_iterator.__next__":=
 .of (owner:="set_iterator") (n:="__next__") (by rw[typeLookup_type,builtinLookup_eq_fast];kernel_rfl) (by decide +kernel) (by decide +kernel) (by decide +kernel)
  (by first|exact .inl (by decide +kernel)|exact .inr (by decide +kernel)) (by rw[isSubtype_type];kernel_rfl)
def entry_next:entryFor table "set_iterator.__next__" = Vn Builtin.«set_iterator.__next__»:=entryFor_of_fast (by kernel_rfl)
def args_next(a:Va):argsOk "set_iterator.__next__" ⟨[a],[]⟩:=by unfold argsOk;kernel_rfl
def qZ:Slot "set_iterator" "__iter__" "set_iterator.__iter__":=
 .of (owner:="set_iterator") (n:="__iter__") (by rw[typeLookup_type,builtinLookup_eq_fast];kernel_rfl) (by decide +kernel) (by decide +kernel) (by decide +kernel)
  (by first|exact .inl (by decide +kernel)|exact .inr (by decide +kernel)) (by rw[isSubtype_type];kernel_rfl)
def Dx:entryFor table "set_iterator.__iter__" = Vn Builtin.«dict_keyiterator.__iter__»:=entryFor_alias (id':="dict_keyiterator.__iter__") (by kernel_rfl) rfl (by decide +kernel) (by kernel_rfl)
def yB(a:Va):argsOk "set_iterator.__iter__" ⟨[a],[]⟩:=by unfold argsOk;kernel_rfl
end SF
section
variable {P:Vd} {w:Ve} {A:Vi} {E:Va->Vc->Prop} {s:Vc}
def DS{Q:Nat->Vc->Prop}(a:n≠0)(h:∀i d,i<n->Q i { s with drawn:=d }):Vf (Vg P w) A (choose .order n) Q E s:=λc p b=>by unfold choose;rw[Sem.wp_choose];exact⟨a,by rw[Sem.wp_pure];exact h _ _ (Nat.mod_lt _ (Nat.pos_of_ne_zero a))⟩
theorem mF{α:Type}:∀{l:List α} {i:Nat} (h:i<l.length),(l[i]::l.eraseIdx i).Perm l
 | [],i,h=>by cases h
 | x::l,0,h=>.refl _
 | x::l,i+1,h=>by have:=mF (l:=l) (i:=i) (Nat.lt_of_succ_lt_succ h);exact(List.Perm.swap _ _ _).trans (this.cons x)
theorem wM{α:Type}:∀(n:Nat) (xs:List α) (s:Vc) {Q:List α->Vc->Prop},n=xs.length->(∀ys d,ys.Perm xs->Q ys { s with drawn:=d })->Vf (Vg P w) A (drawOrder n xs) Q E s
 | 0,xs,s,Q,a,h=>by obtain rfl:=List.length_eq_zero_iff.mp a.symm;unfold drawOrder;exact En (h [] s.drawn (.refl _))
 | n+1,[],s,Q,a,h=>by cases a
 | n+1,x::xs,s,Q,a,h=>by unfold drawOrder;refine Em (DS (by simp) λi d hi=>?_);have e:(x::xs)[i]?=some (x::xs)[i]:=Ex hi;rw[e];dsimp only;refine Em (wM n _ { s with drawn:=d } (by rw[List.length_eraseIdx_of_lt hi,<-a];rfl) λys b c=>En (h _ b ?_));exact(List.Perm.cons _ c).trans (mF hi)
theorem rN{α:Type}(next:Nat->Nat):∀(fuel k:Nat) (left:List α) (out:Array α),fuel=left.length->(pickOrder.go next fuel k left out).toList.Perm (out.toList++left)
 | 0,k,left,out,h=>by obtain rfl:=List.length_eq_zero_iff.mp h.symm;unfold pickOrder.go;rw[List.append_nil]
 | fuel+1,k,left,out,h=>by
  unfold pickOrder.go;have hlt:next k % left.length<left.length:=Nat.mod_lt _ (by lia)
  rw[Ex hlt];dsimp only;refine(rN next fuel (k+1) _ _ (by rw[List.length_eraseIdx_of_lt hlt];lia)).trans ?_;rw[Array.toList_push,List.append_assoc];exact(mF hlt).append_left _
def j7{α:Type}(next:Nat->Nat)(xs:Array α):(pickOrder next xs).toList.Perm xs.toList:=by
 have:=rN next xs.size 0 xs.toList #[] (by simp)
 rw[List.nil_append]at this;exact this
abbrev cg(a:Vb)(first:Va)(i n ep:Nat):Obj:={ cls:=.type "set_iterator",data:=.fields #[first,rawInt i,.ref a,rawInt n,rawInt ep] }
def lX{it:Vb}{h1:Vh}{Q:Option Va->Vc->Prop}(c:A.handled=Vo)(d:Heap.ExtBut it s.heap h1)(g:∀h',Heap.ExtBut it s.heap h'->Q Vo { s with heap:=h' }):
  Vf (Vg P w) A.in1 (newExc (.type "StopIteration") [] >>= raiseNew) (λr s'=>∃v,r=Fin.done (.ret v)/\Vf (Vg P w) A (pure (some v)) Q E s') (λe s'=>Vf (Vg P w) A (do if <-isInstance e (.type "StopIteration")then pure none else throw e) Q E s') { s with heap:=h1 }:=by
 refine Em ?_;simp only[newExc,newTuple];refine Em (wpAny_newObj_type ?_ (by size_fits));refine Em (m:=firstArgMember _ _) (wpAny_of_eq (a:=Value.none) (by first|rfl|(simp only[firstArgMember];rfl)) ?_);refine wpAny_newObj_type ?_ (by size_fits);simp only[raiseNew];refine Em (wpAny_handled ?_);rw[show A.in1.handled=Vo from c];refine Em (En (wpAny_throw ?_));refine Em (wpAny_isInstance (T:="StopIteration") (b:=true) ⟨_,Er _ rfl,rfl⟩ isSubtype_stop ?_);exact En (g _ ((d.push _).push _))
def iJ{it:Vb}{first x:Va}{i k:Nat}{f':Array Va}(ho:h.get? it=Vn (cg a first i n ep))(b:(#[first,rawInt i,.ref a,rawInt n,rawInt ep]:Array Va).setIfInBounds k x=f'):
  (h.update it (Obj.mapFields (·.setIfInBounds k x))).get? it=Vn { cls:=.type "set_iterator",data:=.fields f' }:=by
 have:=Heap.get?_update_self (Obj.mapFields (·.setIfInBounds k x)) ho (Obj.isFreed_of_fields (Obj.data_mapFields rfl _));rw[this,<-b];rfl
def xU{it:Vb}{i:Nat}{es:Array (Int×Va)}{t:SetTable}{Q:Option Va->Vc->Prop}(e:w.params.followText "set-order" = true)(hit:s.heap.get? it=Vn (cg a (rawInt 0) i es.size ep))(ho:s.heap.get? a=Vn o)(hd:o.data=.set es ep t)(c:t.fits es.size=true)
  {x:Int×Va} (g:(pickOrder (w.params.setOrder a ep) es)[i]?=Vn x) (h:∀h',h'.get? it=Vn (cg a (rawInt 0) (i+1) es.size ep)->Heap.SameBut it s.heap h'->Q (Vn x.2) { s with heap:=h' }):Vf (Vg P w) A (pyNext (.ref it)) Q E s:=by
 have T:s.TypeIs (.ref it) "set_iterator":=⟨_,hit,rfl⟩;unfold pyNext;refine Em (wpAny_attempt (Fn (name:=Fb "__next__") T SF.slot_next (wpAny_call_entry SF.slot_next T SF.entry_next ?_ (SF.args_next _))));show Vf _ _ (fieldsOf (.ref it) >>= _) _ _ s;refine Em (wpAny_fieldsOf hit rfl ?_);show Vf _ _ (setEntries a >>= _) _ _ s;unfold setEntries;refine Em (Em (Fm ho hd c (En ?_)));rw[Fs (by simp)];show Vf _ _ (setNext a 0 _ _ >>= _) _ _ s;unfold setNext;refine Em (Em (Fm ho hd c ?_));dsimp only;unfold setsByText;refine Em (Em (wpAny_askSetting (En ?_)));rw[show (Vg P w).w.params.followText "set-order" = true from e];simp only[if_true];rw[Fs (by simp)];unfold setWalk;refine Em (Em (Fm ho hd c ?_));dsimp only;unfold setsByText;refine Em (Em (wpAny_askSetting (En ?_)));rw[show (Vg P w).w.params.followText "set-order" = true from e];simp only[if_true];refine Em (wpAny_askSetting (En ?_));rw[EI];have d:(pickOrder ((Vg P w).w.params.setOrder a ep) es)[i]?=Vn x:=g;rw[d];refine En ?_;dsimp only[Option.map_some,Option.map_none];refine Em (wpAny_setField hit rfl (by simp) ?_);have j:=iJ (k:=0) (x:=rawInt (0:Nat)) hit rfl;have b:(s.heap.update it (Obj.mapFields (·.setIfInBounds 0 (rawInt (0:Nat))))).get? it=Vn (cg a (rawInt 0) i es.size ep):=j;refine Em (wpAny_setField (s:={ s with heap:=s.heap.update it (Obj.mapFields (·.setIfInBounds 0 (rawInt (0:Nat)))) }) b rfl (by simp) ?_);have l:=iJ (k:=1) (x:=rawInt ((i:Int)+1)) b rfl;refine En ⟨_,rfl,En (h _ ?_ ((Heap.SameBut.update ..).trans (Heap.SameBut.update ..)))⟩;exact l
def Ac{it:Vb}{i:Nat}{es:Array (Int×Va)}{t:SetTable}{Q:Option Va->Vc->Prop}(e:A.handled=Vo)(d:w.params.followText "set-order" = true)(hit:s.heap.get? it=Vn (cg a (rawInt 0) i es.size ep))(ho:s.heap.get? a=Vn o)(hd:o.data=.set es ep t)(b:t.fits es.size=true)
  (g:(pickOrder (w.params.setOrder a ep) es)[i]?=Vo) (h:∀h',Heap.ExtBut it s.heap h'->Q Vo { s with heap:=h' }):Vf (Vg P w) A (pyNext (.ref it)) Q E s:=by
 have T:s.TypeIs (.ref it) "set_iterator":=⟨_,hit,rfl⟩;unfold pyNext;refine Em (wpAny_attempt (Fn (name:=Fb "__next__") T SF.slot_next (wpAny_call_entry SF.slot_next T SF.entry_next ?_ (SF.args_next _))));show Vf _ _ (fieldsOf (.ref it) >>= _) _ _ s;refine Em (wpAny_fieldsOf hit rfl ?_);show Vf _ _ (setEntries a >>= _) _ _ s;unfold setEntries;refine Em (Em (Fm ho hd b (En ?_)));rw[Fs (by simp)];show Vf _ _ (setNext a 0 _ _ >>= _) _ _ s;unfold setNext;refine Em (Em (Fm ho hd b ?_));dsimp only;unfold setsByText;refine Em (Em (wpAny_askSetting (En ?_)));rw[show (Vg P w).w.params.followText "set-order" = true from d];simp only[if_true];rw[Fs (by simp)];unfold setWalk;refine Em (Em (Fm ho hd b ?_));dsimp only;unfold setsByText;refine Em (Em (wpAny_askSetting (En ?_)));rw[show (Vg P w).w.params.followText "set-order" = true from d];simp only[if_true];refine Em (wpAny_askSetting (En ?_));rw[EI];have c:(pickOrder ((Vg P w).w.params.setOrder a ep) es)[i]?=Vo:=g;rw[c];refine En ?_;dsimp only[Option.map_some,Option.map_none];refine Em (wpAny_setField hit rfl (by simp) ?_);exact lX (s:=s) (it:=it) e (Heap.SameBut.update ..).extBut h
def xp{it:Vb}{i:Nat}{es:Array (Int×Va)}{t:SetTable}{Q:Option Va->Vc->Prop}{b:Vb}{ys:List Nat}(c:s.heap.get? b=Vn (seqObj "tuple" (ys.map λ(i:Nat)=>rawInt i).toArray 0))(hit:s.heap.get? it=Vn (cg a (.ref b) i es.size ep))(ho:s.heap.get? a=Vn o)(hd:o.data=.set es ep t)(e:t.fits es.size=true)
  {y:Nat} {x:Int×Va} (g:ys[i]?=Vn y) (h:es[y]?=Vn x) (j:∀h',h'.get? it=Vn (cg a (.ref b) (i+1) es.size ep)->Heap.SameBut it s.heap h'->Q (Vn x.2) { s with heap:=h' }):Vf (Vg P w) A (pyNext (.ref it)) Q E s:=by
 have T:s.TypeIs (.ref it) "set_iterator":=⟨_,hit,rfl⟩;unfold pyNext;refine Em (wpAny_attempt (Fn (name:=Fb "__next__") T SF.slot_next (wpAny_call_entry SF.slot_next T SF.entry_next ?_ (SF.args_next _))));show Vf _ _ (fieldsOf (.ref it) >>= _) _ _ s;refine Em (wpAny_fieldsOf hit rfl ?_);show Vf _ _ (setEntries a >>= _) _ _ s;unfold setEntries;refine Em (Em (Fm ho hd e (En ?_)));rw[Fs (by simp)];show Vf _ _ (seqItems? (.ref b) >>= _) _ _ s;refine Em (wpAny_seqItems c rfl ?_);dsimp only;rw[EI];have d:((ys.map λ(i:Nat)=>rawInt i).toArray:Array Va)[i]?=Vn (rawInt y):=by rw[List.getElem?_toArray,Ey,g];rfl
 rw[d];show Vf _ _ (setNextDrawn a _ _ >>= _) _ _ s;unfold setNextDrawn;refine Em (Em (Fm ho hd e ?_));dsimp only;rw[Fs (by simp)];simp only[EI];rw[h];refine En ?_;refine Em (wpAny_setField hit rfl (by simp) ?_);have l:=iJ (k:=1) (x:=rawInt ((i:Int)+1)) hit rfl;exact En ⟨_,rfl,En (j _ l (Heap.SameBut.update ..))⟩
def zl{it:Vb}{i:Nat}{es:Array (Int×Va)}{t:SetTable}{Q:Option Va->Vc->Prop}{b:Vb}{ys:List Nat}(g:A.handled=Vo)(c:s.heap.get? b=Vn (seqObj "tuple" (ys.map λ(i:Nat)=>rawInt i).toArray 0))(hit:s.heap.get? it=Vn (cg a (.ref b) i es.size ep))(ho:s.heap.get? a=Vn o)(hd:o.data=.set es ep t)(h:t.fits es.size=true)
  (j:ys[i]?=Vo) (l:∀h',Heap.ExtBut it s.heap h'->Q Vo { s with heap:=h' }):Vf (Vg P w) A (pyNext (.ref it)) Q E s:=by
 have T:s.TypeIs (.ref it) "set_iterator":=⟨_,hit,rfl⟩;unfold pyNext;refine Em (wpAny_attempt (Fn (name:=Fb "__next__") T SF.slot_next (wpAny_call_entry SF.slot_next T SF.entry_next ?_ (SF.args_next _))));show Vf _ _ (fieldsOf (.ref it) >>= _) _ _ s;refine Em (wpAny_fieldsOf hit rfl ?_);show Vf _ _ (setEntries a >>= _) _ _ s;unfold setEntries;refine Em (Em (Fm ho hd h (En ?_)));rw[Fs (by simp)];show Vf _ _ (seqItems? (.ref b) >>= _) _ _ s;refine Em (wpAny_seqItems c rfl ?_);dsimp only;rw[EI];have d:((ys.map λ(i:Nat)=>rawInt i).toArray:Array Va)[i]?=Vo:=by rw[List.getElem?_toArray,Ey,j];rfl
 rw[d];refine Em (wpAny_setField hit rfl (by simp) ?_);have m:=iJ (k:=0) (x:=rawInt 0) hit rfl;have e:(s.heap.update it (Obj.mapFields (·.setIfInBounds 0 (rawInt 0)))).get? it=Vn (cg a (rawInt 0) i es.size ep):=m;refine Em (wpAny_setField (s:={ s with heap:=s.heap.update it (Obj.mapFields (·.setIfInBounds 0 (rawInt 0))) }) e rfl (by simp) ?_);exact lX (s:=s) (it:=it) g ((Heap.SameBut.update ..).trans (Heap.SameBut.update ..)).extBut l
def oB{it:Vb}{first:Va}{i:Nat}(hit:s.heap.get? it=Vn (cg a first i n ep))(h:Q (.ref it) s):Vf (Vg P w) A (pyIter (.ref it)) Q E s:=by have T:s.TypeIs (.ref it) "set_iterator":=⟨_,hit,rfl⟩;refine wpAny_pyIter_slot T SF.qZ (wpAny_call_entry SF.qZ T SF.Dx ?_ (SF.yB _));show Vf _ _ (ret (.ref it)) _ _ s;exact En ⟨_,rfl,"set_iterator",_,T,SF.slot_next.lookup,h⟩
theorem zF(p:A.handled=Vo)(j:w.params.followText "set-order" = true)(I a:Vb)(hne:a≠I){es:Array (Int×Va)}{t:SetTable}(hd:o.data=.set es ep t)(k:t.fits es.size=true):
  Walks P w A I [I,a] [I] es.size (λi v=>∃x,(pickOrder (w.params.setOrder a ep) es)[i]?=Vn x/\v=x.2) (λi h=>h.get? I=Vn (cg a (rawInt 0) i es.size ep)/\h.get? a=Vn o) where
 sub:=λb hb=>by simp at hb;simp[hb]
 frame:=λ_ _ _ st l=>⟨l I (by simp) _ st.1,l a (by simp) _ st.2⟩
 item:=λi s Q E hi st c=>by
  have q:(pickOrder (w.params.setOrder a ep) es).size=es.size:=by rw[<-EA,(j7 _ es).length_eq,EA]
  have m:=getElem?_pos (pickOrder (w.params.setOrder a ep) es) i (by lia);refine xU j st.1 st.2 hd k m λh' d n=>?_;exact c _ h' s.toks ⟨_,m,rfl⟩ ⟨d,(n.2 a hne).trans st.2⟩ λb o hb e=>n.extBut b o (λh=>hb (by simp[h])) e
 done:=λs Q E st c=>by
  have q:(pickOrder (w.params.setOrder a ep) es).size=es.size:=by rw[<-EA,(j7 _ es).length_eq,EA]
  exact Ac p j st.1 st.2 hd k (Array.getElem?_eq_none (by lia)) λh' g=>c h' s.toks λb o hb e=>g b o (λh=>hb (by simp[h])) e
 self:=λ_ _ _ _ st c=>oB st.1 c
theorem BS(z:A.handled=Vo)(I a c:Vb)(hne:a≠I)(d:c≠I){es:Array (Int×Va)}{t:SetTable}{ys:List Nat}(hd:o.data=.set es ep t)(r:t.fits es.size=true)(m:ys.Perm (Fo es.size)):
  Walks P w A I [I,a,c] [I] es.size (λi v=>∃y x,ys[i]?=Vn y/\es[y]?=Vn x/\v=x.2) (λi h=>h.get? I=Vn (cg a (.ref c) i es.size ep)/\h.get? a=Vn o/\h.get? c=Vn (seqObj "tuple" (ys.map λ(i:Nat)=>rawInt i).toArray 0)) where
 sub:=λb hb=>by simp at hb;simp[hb]
 frame:=λ_ _ _ st n=>⟨n I (by simp) _ st.1,n a (by simp) _ st.2.1,n c (by simp) _ st.2.2⟩
 item:=λi s Q E hi st g=>by
  have B:ys.length=es.size:=by rw[m.length_eq,List.length_range]
  have j:=Ex (l:=ys) (i:=i) (by omega);have hlt:ys[i]<es.size:=List.mem_range.mp (m.mem_iff.mp (EX (by lia)));have u:=getElem?_pos es ys[i] hlt;refine xp st.2.2 st.1 st.2.1 hd r j u λh' k p=>?_;exact g _ h' s.toks ⟨_,_,j,u,rfl⟩ ⟨k,(p.2 a hne).trans st.2.1,(p.2 c d).trans st.2.2⟩ λb o hb e=>p.extBut b o (λh=>hb (by simp[h])) e
 done:=λs Q E st g=>by
  have B:ys.length=es.size:=by rw[m.length_eq,List.length_range]
  exact zl z st.2.2 st.1 st.2.1 hd r (List.getElem?_eq_none (by lia)) λh' q=>g h' s.toks λb o hb e=>q b o (λh=>hb (by simp[h])) e
 self:=λ_ _ _ _ st g=>oB st.1 g
end
end L2
namespace PyProof.Rows
open PySem
end PyProof.Rows
namespace L2
open PySem PySem.Spec PyProof.Rows
section
variable {P:Vd} {w:Ve} {A:Vi} {E:Va->Vc->Prop} {s:Vc}
def CF:Slot "set" "__len__" "set.__len__":=
 .of (owner:="set") (n:="__len__") (by rw[typeLookup_type,builtinLookup_eq_fast];kernel_rfl) (by decide +kernel) (by decide +kernel) (by decide +kernel)
  (by first|exact .inl (by decide +kernel)|exact .inr (by decide +kernel)) (by rw[isSubtype_type];kernel_rfl)
def sub_set_set:isSubtype (.type "set") (.type "set")=pure true:=by rw[isSubtype_type];kernel_rfl
def split_len:splitId "set.__len__" = Vn ("set","__len__"):=by kernel_rfl
def xR{Q:Bool->Vc->Prop}(T:s.TypeIs (.ref a) "set")(h:Q false s):Vf (Vg P w) A (Builtin.List.listLengthHint (.ref a)) Q E s:=by unfold Builtin.List.listLengthHint;refine Em (wpAny_specialOf T CF.lookup ?_);dsimp only;rw[split_len];dsimp only;refine Em (wpAny_isInstance (T:="set") (b:=true) T sub_set_set ?_);simp only[Bool.not_true,Fg,if_false];rw[Ft (by first|rfl|decide +kernel|kernel_rfl)];refine Em (wpAny_typeOf T ?_);exact En h
end
section
variable {X:Cx} {pins:List (Vb×Obj)} {σ:St} {H:Hp} {s:Vc}
def Inv.dr(I:Inv X pins σ H s)(d:Drawn):Inv X pins σ H { s with drawn:=d }:=⟨I.ok,I.os,I.bare,I.base,I.loc,I.cell,I.free,I.freeC,I.pin,I.hok,I.len⟩
def Inv.turnedNew{L:List Vb}{o:HO}{t':Nat}(I:Inv X pins σ H s)(k:∀b u,b∉L->s.heap.get? b=Vn u->h'.get? b=Vn u)(f:∀b∈L,cE X pins H b)
  (new:bC X.prog X.w (upd H s.heap.objs.size o) h' s.heap.objs.size o):Inv X pins σ (upd H s.heap.objs.size o) { s with heap:=h',toks:=t' }:=by
 have d:H s.heap.objs.size=Vo:=I.hok.fresh (ER _);have nin:∀b u,H b=Vn u->b∉L:=λb u e z=>by rw[(f b z).1]at e;cases e
 have up:∀b u,H b=Vn u->upd H s.heap.objs.size o b=Vn u:=λb u e=>by rw[aF (b0 e d)];exact e
 refine I.step (g':=s.gens) (d':=s.drawn) (ch:=L) (λb hb=>?_) (λb u _ _ a e _=>k b u a e) (λb u _ _ a e _=>⟨u.slots,k b u a e⟩) (λb u _ e n=>?_) (λb u a e=>⟨u,k b u a e⟩) (λb xs e=>up b _ e) (λb u v e=>up b _ e) (λb ps e=>⟨#[],by rw[up b _ e];simp⟩) (λm g=>?_) (λb u e=>?_) I.bare
 .obtain⟨x,h,y,i,j,l⟩:=f b hb;exact⟨i,h,j,l⟩
 .rw[aF (EO (Es e))];exact n
 .obtain⟨u,es,ep,p,r⟩:=g;exact⟨u,es,ep,k _ u (λz=>(f _ z).2.1 rfl) p,r⟩
 .by_cases hb:b=s.heap.objs.size
  .subst hb;rw[aK]at e;cases e;exact new
  .rw[aF hb]at e;refine(I.hok b u e).stay (λc v a q=>k c v ?_ q) (λc q=>up c _ q) λc xs q=>up c _ q;rcases a with z|z
   .rw[z];exact nin b u e
   .exact nin c _ z
end
def DX(hA:A.handled=Vo)(it t:Vb)(ne:t≠it)(ys:Array Va):Draws P w A it [it,t] ys.size (λi v=>ys[i]?=Vn v) (λi h=>h.IsTupleIter it t i/\h.IsTuple t ys) where
 live:=λi h st=>by obtain⟨⟨o,ho,_⟩,_⟩:=st;exact⟨o,ho⟩
 frame:=λi h h' st k=>by obtain⟨⟨o,ho,r⟩,⟨u,a,q⟩⟩:=st;exact⟨⟨o,k it (by simp) o ho,r⟩,⟨u,k t (by simp) u a,q⟩⟩
 item:=λi s Q E hi st c=>wq st.1 st.2 (x:=ys[i]) (by simp[hi]) λh' d b=>c _ h' s.toks (by simp[hi]) ⟨d,by obtain⟨u,a,q⟩:=st.2;exact⟨u,(b.2 t ne).trans a,q⟩⟩ b
 done:=λs Q E st e=>lU hA st.1 st.2 (by simp) e
abbrev kq(h:Vh)(a:Vb):Vh:=h.push { cls:=.type "tuple_iterator",data:=.fields #[.ref a,.int 0 0] }
abbrev nS(h:Vh)(a:Vb):Vh:=(kq h a).push { cls:=.type "enumerate",data:=.fields #[.none,.bool false,.ref h.objs.size,rawInt 0,.none,.none] }
open AutoSeq1 (wpAny_loadPart')in
def Ay(a:Vb)(ys:Array Va)(j:Obj):Meets (Builtin.«enumerate.__new__» ⟨[.type "enumerate",.ref a],[]⟩) (λ_ R s=>s.heap.get? a=Vn j/\s.heap.IsTuple a ys/\R (.ok (.ret (.ref (kq s.heap a).objs.size))) { s with heap:=nS s.heap a }):=
 .of_wp λprog w A R s q=>by
  obtain⟨k,g,d,tk,os⟩:=s;obtain⟨ga,gt,q⟩:=q;have b:=sub_enumerate;obtain⟨o,go,e,n,h⟩:=id gt;obtain⟨l,m,p,sl⟩:=o;simp only at e h;subst e h;have i:Heap.IsTuple (Shared.heap ⟨k,g,d,tk,os⟩) a ys:=gt
  wp_walk using wpAny_loadPart' go
  refine wpAny_stack_any λst=>En ?_;split
  .rename_i c _ _ _ _ _;cases(c == Value.type "enumerate")<;>(wp_walk using wpAny_loadPart' go,wpAny_pyIter_tuple i;exact⟨_,rfl,q⟩)
  .wp_walk using wpAny_loadPart' go,wpAny_pyIter_tuple i
   exact⟨_,rfl,q⟩
def xW{prog:Vd}{w:Ve}{A:Vi}{E:Va->Vc->Prop}(gt:s.heap.IsTuple a ys)
  (q:∀h',IsEnum h' (s.heap.objs.size+1) s.heap.objs.size 0 .none->h'.IsTupleIter s.heap.objs.size a 0->(∀c o,s.heap.get? c=Vn o->h'.get? c=Vn o)->Q (.ref (s.heap.objs.size+1)) { s with heap:=h' }) :
  Vf (Vg prog w) A (call (.type "enumerate") [.ref a]) Q E s:=by
 obtain⟨o,go,r⟩:=id gt;refine callType_new F.called_enumerate (by decide) (F.typeCall_enumerate_1 _) (F.newCall_enumerate_1 _) (λb=>F.args_object_init_2 b _) F.entry_enumerate_new (Ay a ys o) ⟨go,gt,?_⟩;have d:(kq s.heap a).objs.size=s.heap.objs.size+1:=Heap.size_push ..;have k2:(nS s.heap a).get? (kq s.heap a).objs.size=Vn _:=Er _ rfl;have k1:(nS s.heap a).get? s.heap.objs.size=Vn _:=Ep _ (Er _ rfl);show _/\_;rw[d]at k2 ⊢;exact⟨⟨_,k2,rfl⟩,q _ k2 ⟨_,k1,rfl,rfl⟩ λc o x=>Ep _ (Ep _ x)⟩
def iC(K:Eo)(a:Vb):It:=⟨(cZ K a).go,λi H x H'=>∃p v,x=.ref p/\H p=Vo/\H'=upd H p (.tup [.int i,v])/\(cZ K a).yld i H v H,(cZ K a).stop⟩
theorem D5{K:Eo}{ps:Pos}(a e it:Vb)(ne:e≠it):Turn P w K (.Tuple elts kk ps) (iC K a) [e,it] e (λi h=>(∃old,IsEnum h e it i old)/\h.IsTupleIter it a i) where
 mem:=by simp
 obj:=λi h st b hb=>by
  obtain⟨⟨old,ge⟩,o,go,gc,gd⟩:=st;rcases EK.mp hb with rfl|hb
  .exact⟨_,ge,λv z=>by cases(show Data.fields _=Data.cell v from z)⟩
  .cases EG.mp hb;exact⟨o,go,λv z=>by rw[gd]at z;cases z⟩
 keep:=λi h h' st k=>by obtain⟨⟨old,ge⟩,g⟩:=st;exact⟨⟨old,k e (by simp) _ ge⟩,g.at λo z=>k it (by simp) o z⟩
 item:=by
  intro X n r B C i pins s σ H E I j st G;subst n r B;obtain⟨⟨old,ge⟩,g⟩:=st;obtain⟨xs,x,l,J⟩:=G;obtain⟨c,M,p,hz⟩:=I.tuple l;obtain⟨u,Z,ru⟩:=M.get J;have hi:i<c.toArray.size:=by have:=(EE.mp Z).1;simpa using this
  have hA:X.A.in1.handled=Vo:=I.ok.hd C;have N:a≠it:=λz=>by obtain⟨o,ho,hcl,_⟩:=p;obtain⟨o',O,d,_⟩:=g;rw[z,O]at ho;cases ho;rw[hcl]at d;exact absurd (Value.type.inj d) (by decide)
  have Q:e∉[it,a]:=λz=>by
   rcases EK.mp z with z|z
   .exact ne z
   .cases EG.mp z;obtain⟨o,ho,hcl,_⟩:=p;rw[ge]at ho;cases ho;exact absurd (Value.type.inj hcl) (by decide)
  refine wpAny_pyNext_enum_itemD (DX hA it a N c.toArray) ge ⟨g,show s.heap.IsTuple a c.toArray from p⟩ hi ne Q λy h' tk hy R gs m gz gk=>⟨_,rfl,?_⟩;have ey:y=u:=by
   have:c[i]?=Vn y:=by simpa using hy
   rw[Z]at this;exact(Fc this).symm
  subst ey;have lt:∀b∈[e,it],b≠s.heap.objs.size:=λb hb=>by
   rcases EK.mp hb with rfl|hb
   .exact EO (Es ge)
   .cases EG.mp hb;obtain⟨o,ho,_⟩:=g;exact EO (Es ho)
  have I1:Inv X pins σ (upd H s.heap.objs.size (.tup [.int i,x])) { s with heap:=h',toks:=tk+1 }:=
   Inv.turnedNew (L:=[e,it]) I (λb o hb z=>gk b o (λq=>hb (by simp[q])) (λq=>hb (by simp[q])) z) j ⟨by show 2<=sizeLine;decide,[.int i tk,y],.cons ⟨tk,rfl⟩ (.cons ru .nil),⟨_,m,rfl,_,rfl⟩⟩
  have fe:cE X pins (upd H s.heap.objs.size (.tup [.int i,x])) e:=by obtain⟨c0,c1,c2,c3,c4,c5⟩:=j e (by simp);exact⟨by rw[aF (lt e (by simp))];exact c0,c1,c2,c3,c4,c5⟩
  refine wpAny_letOwnedTupleGo_enum (s:={ s with heap:=h',toks:=tk+1 }) R λk S bk=>?_;refine⟨.ref s.heap.objs.size,upd H s.heap.objs.size (.tup [.int i,x]),Inv.same (s:={ s with heap:=h',toks:=tk+1 }) (k:=h') I1 fe bk.extBut,rfl,⟨_,x,rfl,I.hok.fresh (ER _),rfl,rfl,λzs U=>by rw[I.tuple_inj U l];exact J⟩,⟨⟨y,by simpa using S⟩,gs.1.at λo z=>bk.extBut it o (Ne.symm ne) z⟩,λb hb=>?_⟩;rw[aF (lt b hb)];exact(j b hb).1
 done:=by intro X n r B C i pins s σ H E I j st G;subst n r B;obtain⟨⟨old,ge⟩,g⟩:=st;obtain⟨xs,l,J⟩:=G;obtain⟨c,M,p,hz⟩:=I.tuple l;have hA:X.A.in1.handled=Vo:=I.ok.hd C;have m:s.TypeIs (.ref e) "enumerate":=⟨_,ge,rfl⟩;have hl:=M.length;unfold pyNext;refine Em (wpAny_attempt (Fn (name:=Fb "__next__") m F.slot_enumerate_next (wpAny_call_entry F.slot_enumerate_next m F.entry_enumerate_next ?_ (F.args_enumerate_next_1 _))));show Vf _ _ (field (Value.ref e) 2 >>= _) _ _ _;refine Em (wpAny_field ge rfl (x:=Value.ref it) rfl ?_);refine Em (lU hA g (show s.heap.IsTuple a c.toArray from p) (by simp;lia) λh' x he W=>?_);obtain⟨o,ho,Y⟩:=W;refine Em (wpAny_isInstance (s:={ s with heap:=h' }) (T:="StopIteration") (b:=true) ⟨o,ho,Y⟩ isSubtype_stop ?_);exact En ⟨rfl,Inv.same (k:=s.heap) I (j it (by simp)) he⟩
 self:=λ_ _ _ _ _ st h=>by obtain⟨⟨old,ge⟩,_⟩:=st;exact wpAny_pyIter_enum ge h
section
variable {K:Eo} {σ:St} {H:Hp} {Q:VK}
def oh(K:Eo):List V->Hp->(It->Hp->Prop)->Prop:=λvs H R=>∃a xs,vs=[.ref a]/\ah K H a xs/\R (iC K a) H
def sY(K:Eo)(ta:TA):TI:=λσ H R=>ta σ H λvs H1=>oh K vs H1 R
theorem pN{ps:Pos}(K:Eo){a:Vk}{ta:TA}{p pos:Pos}(g:Gl X "enumerate")(i:X.mg "enumerate" = Vo)(ha:PA X [a] ta)(j:X.K=K:=by rfl)(hs:starEach [a] X.env=[(false,eval a X.env)]:=by rfl):
  PI X (.Tuple elts kk ps) (.Call (.Name "enumerate" p) [a] [] pos) (sY K ta):=by
 subst j;intro pins s σ H R I h;refine Call_ (fQ I g i PyProof.Rows.boot_enumerate (PyProof.Rows.callWith_type1 (aH (ha pos pins s σ H _ I h) λus s1 ⟨vs,H1,c,r1,m⟩=>?_) (by rw[hs];rfl) rfl));obtain⟨l,xs,e,n,q⟩:=m;subst e;obtain⟨u,rfl,o⟩:=vals1 r1;cases o;obtain⟨d,_,r,_⟩:=c.tuple n;refine xW (show s1.heap.IsTuple l d.toArray from r) λh' ge v k=>?_;refine wpAny_pyIter_enum (s:={ s1 with heap:=h' }) ge ?_;refine⟨s1.heap.objs.size+1,[s1.heap.objs.size+1,s1.heap.objs.size],_,_,H1,rfl,c.kept (t':=s1.toks) k,D5 l (s1.heap.objs.size+1) s1.heap.objs.size (λz=>by have w:@Eq Nat _ _:=z;lia),⟨⟨_,ge⟩,v⟩,λb hb=>?_,q⟩;have le:@LE.le Nat _ s1.heap.objs.size b:=by
  rcases EK.mp hb with rfl|hb
  .exact Nat.le_add_right _ _
  .cases EG.mp hb;exact ER _
 exact c.fpOk le (c.hok.fresh le)
def rd_enum{a:TA}(h:a σ H λvs H1=>oh K vs H1 R):sY K a σ H R:=h
def u4(ha:ah K H a xs)(h:R (iC K a) H):oh K [.ref a] H R:=⟨a,xs,rfl,ha,h⟩
theorem DA{tb:TS}{D:Ends}(Pv:Nat->St->Hp->Prop)(k:Pv 0 σ H)(l:∀i σ H,i<=xs.length->Pv i σ H->ah K H a xs)
  (hs:∀i u σ H p H',xs[i]?=Vn u->Pv i σ H->Ext H H'->H' p=Vn (.tup [.int i,u])->H p=Vo->g (.ref p) σ H' λb H2=>tb { D with nx:=Pv (i+1),ct:=Pv (i+1),bk:=D.nx } b H2) (hd:∀σ H,Pv xs.length σ H->D.nx σ H) :
  ∃W:Nat->Nat->St->Hp->Prop,(∃m,W 0 m σ H)/\∀i m σ H,W i m σ H ->
   ((iC K a).stop i H/\D.nx σ H)\/((iC K a).go i H/\∃N:St->Hp->Prop,(∀c H',N c H'->∃h,h<m/\W (i+1) h c H')/\∀x H',(iC K a).yld i H x H'->g x σ H' λb H2=>tb { D with nx:=N,ct:=N,bk:=D.nx } b H2):=by
 refine⟨λi m σ H=>m=xs.length-i/\i<=xs.length/\Pv i σ H,⟨xs.length,by simp,Nat.zero_le _,k⟩,?_⟩;rintro i m σ H ⟨rfl,hi,p⟩;have d:=l i σ H hi p;by_cases hlt:i<xs.length
 .refine .inr ⟨⟨xs,xs[i],d,by simp[hlt]⟩,Pv (i+1),λc H' n=>⟨xs.length-(i+1),by lia,rfl,hlt,n⟩,λx H' y=>?_⟩;obtain⟨pp,u,rfl,j,rfl,o⟩:=y;exact hs i u σ H pp _ (o.2 xs d) p (a8 j) aK j
 .have e:i=xs.length:=by lia
  subst e;exact .inl ⟨⟨xs,d,ER _⟩,hd σ H p⟩
end
section
variable {X:Cx}
def md(neg:Bool):R2:=λx y H Q=>∃n p xs d ds,aX H n x d/\y=.ref p/\H p=Vn (.lst xs)/\Paired (aX H n) xs ds/\n<=50/\Q (.bl (if neg then !(ds.any λe=>PyData.eqv e d)else ds.any λe=>PyData.eqv e d)) H
theorem Ek{k:Nat}(c:Room k X.A):bF X (compareOp .In) (md false):=by intro pins s σ H x y v u Q I e g h;obtain⟨n,p,xs,d,ds,h1,rfl,h2,a,i,q⟩:=h;have j:aX H (n+1) (.ref p) (.list ds):=.inr ⟨p,xs,ds,rfl,.inr ⟨h2,rfl⟩,a⟩;obtain⟨as,l⟩:=aX.reads I n h1 e;obtain⟨bs,m⟩:=aX.reads I (n+1) j g;have b:=aX.lay n h1;have o:=jZ (λ{x d}=>aX.lay (H:=H) n) a;have r:=c.units;have w:min (PyData.depthAll ds) d.depth<=50:=E4 (Nat.min_le_right _ _) (E4 b.2 i);exact SeqAt.in_list_reads m l o.1 b.1 (by lia) ⟨.bl _,H,I,rfl,q⟩
theorem wV{k:Nat}(c:Room k X.A):bF X (compareOp .NotIn) (md true):=by intro pins s σ H x y v u Q I e g h;obtain⟨n,p,xs,d,ds,h1,rfl,h2,a,i,q⟩:=h;have j:aX H (n+1) (.ref p) (.list ds):=.inr ⟨p,xs,ds,rfl,.inr ⟨h2,rfl⟩,a⟩;obtain⟨as,l⟩:=aX.reads I n h1 e;obtain⟨bs,m⟩:=aX.reads I (n+1) j g;have b:=aX.lay n h1;have o:=jZ (λ{x d}=>aX.lay (H:=H) n) a;have r:=c.units;have w:min (PyData.depthAll ds) d.depth<=50:=E4 (Nat.min_le_right _ _) (E4 b.2 i);exact SeqAt.notIn_list_reads m l o.1 b.1 (by lia) ⟨.bl _,H,I,rfl,q⟩
def rA{x:V}{p:Vb}{d:PyData}{ds:List PyData}{Q:VK}(h1:aX H n x d)(h2:H p=Vn (.lst xs))(a:Paired (aX H n) xs ds)(b:n<=50)(q:Q (.bl (if neg then !(ds.any λe=>PyData.eqv e d)else ds.any λe=>PyData.eqv e d)) H):md neg x (.ref p) H Q:=
 ⟨n,p,xs,d,ds,h1,rfl,h2,a,b,q⟩
end
abbrev Row3:=Vm×Tok×Va
def lb(w:Ve)(e:Row3):DictEntry:=⟨PyData.keyHash w.params e.1,.str e.1 e.2.1,e.2.2⟩
def jf(w:Ve)(l:List Row3)(ep:Nat):Obj:={ cls:=.type "dict",dict:=Vo,data:=.dict (l.map (lb w)).toArray ep,slots:=#[] }
structure GDict(w:Ve)(K:Eo)(a:Vb)(kvs:List (Key×V)):Prop where
 has:∃l ep,K.lookup a=Vn (jf w l ep)/\KV kvs (l.map λe=>((Sum.inr e.1:Key),e.2.2))
 nd:(kvs.map (·.1)).Nodup
 sm:(a == sysModules)=false
theorem uX{P:Vd}{w:Ve}:∀l:List Row3,Pairs (cU P w) (l.map (lb w)) (l.map λe=>((Sum.inr e.1:Key),e.2.2))
 | []=>.nil
 | e::l=>.cons (nW P w e.1 e.2.1) rfl (uX l)
def Dh(l:List Row3):KeysOf (cU P w) (l.map (lb w)).toArray:=λe b=>by
 have a:e∈l.map (lb w):=by simpa using b
 obtain⟨x,_,rfl⟩:=List.mem_map.mp a;exact⟨.inr x.1,nW P w x.1 x.2.1,rfl⟩
def GDict.at{kvs:List (Key×V)}(D:GDict X.w X.K a kvs)(I:Inv X pins σ H s):∃vs,KV kvs vs/\s.heap.DictOf (cU X.prog X.w) a vs:=by obtain⟨l,ep,b,r⟩:=D.has;refine⟨_,r,jf X.w l ep,_,ep,I.kIn _ _ b,⟨rfl,rfl,rfl⟩,rfl,Dh l,uX l,?_⟩;rw[<-r.keys];exact D.nd
section
variable {X:Cx} {x:Vm} {a:Vb} {kvs:List (Key×V)} {i:Vk} {ty:TE} {p pos:Pos}
def qV(kvs:List (Key×V))(ty:TE):TE:=λσ H Q=>ty σ H λy H1=>∃k v,y=kV k/\bV kvs k=Vn v/\Q v H1
def wF(neg:Bool)(kvs:List (Key×V))(ty:TE):TE:=λσ H Q=>ty σ H λy H1=>∃k,y=kV k/\Q (.bl (if neg then !(bV kvs k).isSome else(bV kvs k).isSome)) H1
def A6(d:Gl X x)(e:X.mg x=some (.ref a))(D:GDict X.w X.K a kvs)(hi:PE X i ty)(hs:lT i)(hd:(x == ("__debug__":Vm))=false:=by decide):PE X (.Subscript (.Name x p) i pos) (qV kvs ty):=by intro pins s σ H Q I h;refine sW PySem.F.slot_dict_getitem.lookup hs (jT I d e (aH (hi pins s σ H _ I h) λn s2 ⟨y,H2,c,g,k,v,j,l,q⟩=>?_) hd);subst j;obtain⟨vs,rel,dd⟩:=D.at c;obtain⟨r,m,b⟩:=fj.some_of (v:=v) (o:=valueAt vs k) (by rw[<-l];exact rel.val k);exact⟨dd.typeIs,wpAny_getItem_of (iV g) dd.mapOf m ⟨v,H2,c.tok _,b,q⟩⟩
def xZ(c:Gl X x)(d:X.mg x=some (.ref a))(D:GDict X.w X.K a kvs)(hi:PE X i ty)(hd:(x == ("__debug__":Vm))=false:=by decide):PC X .In i (.Name x p) (wF false kvs ty):=by intro pins s σ H Q I h;refine aH (hi pins s σ H _ I h) λj s1 ⟨y,H1,b,e,k,g,q⟩=>jT b c d ?_ hd;subst g;obtain⟨vs,rel,dd⟩:=D.at b;refine wpAny_in_of (iV e) D.sm dd.mapOf ?_;rw[<-(rel.val k).isSome_eq];exact⟨.bl (bV kvs k).isSome,H1,b.tok _,rfl,q⟩
def rd_gget{Q:VK}(h:ty σ H λy H1=>∃k v,y=kV k/\bV kvs k=Vn v/\Q v H1):qV kvs ty σ H Q:=h
def rd_gin{Q:VK}(h:ty σ H λy H1=>∃k,y=kV k/\Q (.bl (if neg then !(bV kvs k).isSome else(bV kvs k).isSome)) H1):wF neg kvs ty σ H Q:=h
def CA{R:V->Prop}{z:Vm}(a:bV kvs (.inr z)=Vn v)(h:R v):∃k v,V.str z=kV k/\bV kvs k=Vn v/\R v:=⟨.inr z,v,rfl,a,h⟩
def oR:R2:=λx y H Q=>∃a b,x=.str a/\y=.str b/\Q (.bl (!decide (b.cps.toList<a.cps.toList))) H
def qA:bF X (compareOp .LtE) oR:=by intro pins s σ H x y v u Q I c d h;obtain⟨a,b,rfl,rfl,q⟩:=h;obtain⟨t,rfl⟩:=c;obtain⟨e,rfl⟩:=d;exact PySem.P.le_str ⟨.bl _,H,I,rfl,q⟩
def rd_leS{a b:Vm}{Q:VK}(h:Q (.bl (!decide (b.cps.toList<a.cps.toList))) H):oR (.str a) (.str b) H Q:=⟨a,b,rfl,rfl,h⟩
theorem nz{α β:Type}{f g:α->Option β}:∀{l:List α},(∀x∈l,f x=g x)->l.filterMap f=l.filterMap g
 | [],_=>rfl
 | x::l,h=>by rw[List.filterMap_cons,List.filterMap_cons,h x EC,nz λy a=>h y (Ez _ a)]
theorem zL(n:Nat)(xs:List Va)(h:xs.length=n):(Fo n).filterMap (λi:Nat=>xs[((n:Int)-1+(i:Int)*(-1)).toNat]?)=xs.reverse:=by
 refine List.ext_getElem? λi=>?_;have e:(Fo n).filterMap (λi:Nat=>xs[((n:Int)-1+(i:Int)*(-1)).toNat]?)=(Fo n).map (λi:Nat=>xs.reverse.getD i .none):=by
  rw[<-List.filterMap_eq_map];refine nz λi hi=>?_;have hi:=List.mem_range.mp hi;have:((n:Int)-1+(i:Int)*(-1)).toNat=n-1-i:=by lia
  rw[this,Function.comp_apply,List.getD_eq_getElem?_getD,List.getElem?_reverse (by lia),h,Ex (show n-1-i<xs.length by omega)];rfl
 rw[e,Ey];by_cases hi:i<n
 .rw[Ex (by simpa using hi),Ex (by simpa[h]using hi)];simp[List.getD_eq_getElem?_getD,h,hi]
 .rw[List.getElem?_eq_none (by simpa using hi),List.getElem?_eq_none (by simpa[h]using hi)];rfl
theorem Eh(a:List Va):slicePick a.toArray Vo Vo (Vn (-1))=a.reverse.toArray:=by
 unfold slicePick;have e:sliceBounds Vo Vo (Vn (-1)) a.toArray.size=((a.length:Int)-1,-1,-1):=by unfold sliceBounds;simp
 rw[e];refine congrArg List.toArray ?_;rw[<-zL a.length a rfl];unfold sliceRange;simp only;rw[Fs (by decide),List.filterMap_map];have b:(if(a.length:Int)-1 > -1 then((a.length:Int)-1 - -1 - -1-1) / - -1 else 0).toNat=a.length:=by rw[show (- -1:Int)=1 by decide,Int.ediv_one];split<;>lia
 rw[b];refine nz λi hi=>?_;rw[Function.comp_apply,show (a.length:Int)-1 + -1*(i:Int)=(a.length:Int)-1+(i:Int) * -1 by lia];simp
def Vals.rev(r:Vals xs us):Vals xs.reverse us.reverse:=by
 induction r with
 | nil=>exact .nil
 | cons h t a=>
  rw[List.reverse_cons,List.reverse_cons];exact Vals.append a (.cons h .nil)
def jy(K:Eo):V->Hp->VK->Prop:=λx H Q=>∃a xs,x=.ref a/\ag K H a xs/\fX H (.lst xs.reverse) Q
def uL(K:Eo)(te:TE)(ts:TO):TE:=λσ H Q=>te σ H λx H1=>ts σ H1 λk H2=>k=Vn (-1)/\jy K x H2 Q
theorem zG{e st:Vk}{te:TE}{ts:TO}{p2:Pos}(K:Eo)(g:PE X e te)(hs:PO X (Vn st) ts)(j:X.K=K:=by rfl):PE X (.Subscript e (.Slice Vo Vo (Vn st) p2) pos) (uL K te ts):=by
 subst j;intro pins s σ H Q I h;refine Subscript_ (aH (g pins s σ H _ I h) λv s1 ⟨x,H1,l,r1,m⟩=>?_);refine wpAny_Slice ?_;rw[evalPart_none];refine En (En ?_);refine aH (hs pins s1 σ H1 _ l m) λvs s2 ⟨k,H2,n,p,u⟩=>?_;obtain⟨rfl,a,xs,rfl,y,q⟩:=u;cases p with
 | int i tk=>
 cases r1;have c:Inv X pins σ H2 { s2 with heap:=s2.heap.push { cls:=.type "slice",data:=.fields #[.none,.none,.int (-1) tk] } }:=n.kept (t':=s2.toks) λb z q=>Ep _ q;obtain⟨B,r,d,C⟩:=c.list y;have hlen:=r.length;show Vf (Vg X.prog X.w) X.A (subscriptTail e (.Slice Vo Vo (Vn st) p2) (.ref a) (.ref s2.heap.objs.size)) (EP X pins σ Q) X.xe { s2 with heap:=s2.heap.push { cls:=.type "slice",data:=.fields #[.none,.none,.int (-1) tk] } };refine tail_any (ops:=[.ref a,.ref s2.heap.objs.size]) d.isList.typeIs slot_list_getitem.lookup (wpAny_getItem_list_slice d.isList (Heap.IsSliceOf.new ..) .none .none (.int (-1) tk) (by decide) ?_ (by rw[EB];lia)) (by with_unfolding_all rfl);rw[Eh];exact⟨.ref _,_,c.laid (t':=s2.toks) (o:=.lst xs.reverse) (λb z e=>Ep _ e) (ER _) ⟨by rw[List.length_reverse];exact C,_,0,r.rev,Er _ rfl⟩,rfl,q _ (c.hok.fresh (ER _))⟩
def rd_revL{K:Eo}{te:TE}{ts:TO}{Q:VK}(h:te σ H λx H1=>ts σ H1 λk H2=>k=Vn (-1)/\jy K x H2 Q):uL K te ts σ H Q:=h
def qT{K:Eo}{Q:VK}(e:ag K H a xs)(h:fX H (.lst xs.reverse) Q):jy K (.ref a) H Q:=⟨a,xs,rfl,e,h⟩
def rd_dget{Q:VK}(h:td σ H λx H1=>ty σ H1 λy H2=>∃a v,x=.ref a/\cP H2 a y (Vn v)/\Q v H2):o6 td ty σ H Q:=h
end
def zY:typeLookup (.type "list_reverseiterator") "__len__" = pure Vo:=by rw[typeLookup_type,builtinLookup_eq_fast];kernel_rfl
def AL:typeLookup (.type "list_reverseiterator") "__length_hint__" = pure (Vn (.builtin "list_reverseiterator.__length_hint__")):=by rw[typeLookup_type,builtinLookup_eq_fast];kernel_rfl
section
variable {prog:Vd} {w:Ve} {A:Vi} {E:Va->Vc->Prop} {s:Vc} {r d:Vb}
def B0{Q:Bool->Vc->Prop}(c:s.TypeIs (.ref r) "list_reverseiterator")(h:Q false s):Vf (Vg prog w) A (Builtin.List.listLengthHint (.ref r)) Q E s:=by
 unfold Builtin.List.listLengthHint;refine Em (wpAny_specialOf c zY ?_);show Vf _ _ (specialOf (Value.ref r) (Fb "__length_hint__") >>= _) _ _ _;refine Em (wpAny_specialOf c AL ?_);generalize a:("list_reverseiterator.__length_hint__":String)=id0
 wp_delta
 rw[show splitId id0=Vn ("list_reverseiterator","__length_hint__")from by subst a;decide +kernel];subst a;refine Em (wpAny_isInstance (T:="list_reverseiterator") (b:=true) c (by rw[isSubtype_type];kernel_rfl) ?_);refine wpAny_ite_split (λhab=>absurd hab (by decide)) (λ_=>?_);refine wpAny_ite_split (λ_=>?_) (λhab=>absurd (by decide +kernel) hab);refine wpAny_ite_split (λhab=>absurd hab (by decide +kernel)) (λ_=>?_);exact En h
theorem B3{R:Result->Vc->Prop}(p:A.handled=Vo)(hne:d≠r)(hit:s.heap.IsRevIter r d ((items.size:Int)-1))(q:s.heap.IsList d items)(S:Vb)(g:S≠r)(j:S≠d)(res:Va)(c:Nat)(u:s.heap.get? S=Vn { cls:=.type "list",data:=.seq #[] c })
  (x:∀h' tk a c',(∀b o,b≠S->b≠r->s.heap.get? b=Vn o->h'.get? b=Vn o)->h'.get? S=Vn { cls:=.type "list",dict:=Vo,data:=.seq a c',slots:=#[] }->ItemsOf (λi v=>items[items.size-1-i]?=Vn v) a items.size->R (.ok (.ret res)) { s with heap:=h',toks:=tk }) (y:items.size<=sizeLine) :
  Vf (Vg prog w) A.in1 (Builtin.List.listExtendWith (.ref S) (.ref r) res)
   (λfin s'=>match fin with|.done f=>R (.ok f) s'|.again c'=>c'.quiet=true/\codeAny (Vg prog w) A c' R s') (λe s'=>R (.error e) s') s:=by
 have k:S∉[r,d]:=by simp only[EK,E5,or_false,not_or];exact⟨g,j⟩
 have W:=Walks.listRev (prog:=prog) (w:=w) (A:=A.in1) p r d hne items;have st:0<=items.size/\s.heap.IsRevIter r d ((items.size:Int)-1-((0:Nat):Int))/\s.heap.IsList d items:=⟨Nat.zero_le _,by rw[show (items.size:Int)-1-((0:Nat):Int)=(items.size:Int)-1 by lia];exact hit,q⟩;unfold Builtin.List.listExtendWith;refine Em (wpAny_typeOf (T:="list_reverseiterator") hit.typeIs ?_);have h1:Builtin.List.listSameRef (.ref S) (.ref r)=false:=by simp[Builtin.List.listSameRef,g]
 have h2:(Value.type "list_reverseiterator" == Value.type "list")=false:=by decide
 have z:(Value.type "list_reverseiterator" == Value.type "tuple")=false:=by decide
 simp only[h1,h2,z,Bool.or_false,Fg,if_false];refine Em (W.self 0 _ _ _ st ?_);refine Em (wpAny_holding (B0 hit.typeIs ?_));refine wpAny_ite_split (λhab=>absurd hab (by decide +kernel)) (λ_=>?_);refine En ⟨plainId_quiet PySem.F.plain_extend_loop _,?_⟩;refine codeAny_extend_loopS W.toS y S k res items.size 0 s #[] c rfl (Nat.zero_le _) st u (ItemsOf.nil _) λs' a c' n l h=>?_;rw[Moved.eq_with n];refine x s'.heap s'.toks a c' (λb o hb m e=>n.heap b o (λhmem=>?_) e) l h;rcases EK.mp hmem with e'|hmem
 .exact hb e'
 .exact m (EG.mp hmem)
def xn{R:Result->Vc->Prop}(n:A.handled=Vo)(hne:d≠r)(hit:s.heap.IsRevIter r d ((items.size:Int)-1))(p:s.heap.IsList d items)(S:Vb)(g:S≠r)(h:S≠d)(k:s.heap.get? S=Vn { cls:=.type "list",data:=.seq #[] })
  (q:∀h' tk a c',(∀b o,b≠S->b≠r->s.heap.get? b=Vn o->h'.get? b=Vn o)->h'.get? S=Vn { cls:=.type "list",dict:=Vo,data:=.seq a c',slots:=#[] }->ItemsOf (λi v=>items[items.size-1-i]?=Vn v) a items.size->R (.ok (.ret .none)) { s with heap:=h',toks:=tk }) (u:items.size<=sizeLine) :
  Vf (Vg prog w) A.in1 (Builtin.«list.__init__» ⟨[.ref S,.ref r],[]⟩)
   (λfin s'=>match fin with|.done f=>R (.ok f) s'|.again c'=>c'.quiet=true/\codeAny (Vg prog w) A c' R s') (λe s'=>R (.error e) s') s:=by
 show Vf _ _ (do let old <-Builtin.List.listItems (.ref S);Builtin.List.listUpdate (.ref S) (λ_=>#[]);letGo old.toList.reverse;Builtin.List.listExtendWith (.ref S) (.ref r) .none) _ _ s;refine Em ?_;unfold Builtin.List.listItems;refine Em (wpAny_seqItems k rfl (En ?_));show Vf _ _ (updateSeq S (λ_=>#[]) >>= λ_=>letGo (#[]:Array Va).toList.reverse >>= λ_=>Builtin.List.listExtendWith (.ref S) (.ref r) .none) _ _ s;refine Em (wpAny_updateSeq k rfl ?_);have c:=Heap.get?_update_self (Obj.mapSeq (λ_=>(#[]:Array Va))) k rfl;have oth:∀b o,b≠S->s.heap.get? b=some o->(s.heap.update S (Obj.mapSeq (λ_=>(#[]:Array Va)))).get? b=some o:=
  λb o hb e=>(Heap.get?_update_other _ _ (Ne.symm hb)).trans e
 refine Em (wpAny_letGo ?_);refine B3 n hne (hit.at λo e=>oth _ _ g.symm e) (p.at λo e=>oth _ _ h.symm e) S g h .none _ c (λh' tk a c' x l j=>?_) u;exact q h' tk a c' (λb o hb m e=>x b o hb m (oth b o hb e)) l j
def AH{Q:Va->Vc->Prop}(m:A.handled=Vo)(hne:d≠r)(hit:s.heap.IsRevIter r d ((items.size:Int)-1))(k:s.heap.IsList d items)(n:items.size<=sizeLine)
  (p:∀h' tk a c',(∀b o,b≠r->s.heap.get? b=Vn o->h'.get? b=Vn o)->h'.get? s.heap.objs.size=Vn { cls:=.type "list",dict:=Vo,data:=.seq a c',slots:=#[] }->ItemsOf (λi v=>items[items.size-1-i]?=Vn v) a items.size->Q (.ref s.heap.objs.size) { s with heap:=h',toks:=tk }) :
  Vf (Vg prog w) A (call (.type "list") [.ref r]) Q E s:=by
 refine callType_codes (Q₁:=λobj c=>obj=.ref s.heap.objs.size/\c={ s with heap:=s.heap.push { cls:=.type "list",data:=.seq #[] } }) PySem.F.called_list (PySem.F.typeCall_list_1 _) PySem.F.entry_list_init
  (code_list_new _ ⟨rfl,rfl⟩) λobj c g=>?_
 obtain⟨rfl,rfl⟩:=g;have l:(s.heap.push { cls:=.type "list",data:=.seq #[] }).get? s.heap.objs.size=Vn { cls:=.type "list",data:=.seq #[] }:=Er _ rfl;have q:r<s.heap.objs.size:=let ⟨o,ho,_⟩:=hit;Es ho;have u:d<s.heap.objs.size:=let ⟨o,ho,_⟩:=k;Es ho;refine⟨⟨_,l,rfl⟩,PySem.F.args_list_init_2 _ _,xn (A:=A.in1) m hne (hit.at λo e=>Ep _ e) (k.at λo e=>Ep _ e) _ (Nat.ne_of_gt q) (Nat.ne_of_gt u) l (λh' tk a c' x j h=>?_) n⟩;exact⟨rfl,p h' tk a c' (λb o hb e=>x b o (EO (Es e)) hb (Ep _ e)) j h⟩
end
theorem Aj{a:List Va}{acc:Array Va}(h:ItemsOf (λi v=>a.toArray[a.toArray.size-1-i]?=Vn v) acc a.toArray.size):acc=a.reverse.toArray:=by
 have h1:acc.size=a.length:=h.1.trans EB;have h2:=h.2;refine Array.ext_getElem? λi=>?_;by_cases hi:i<acc.size
 .have b:=h2 i acc[i] (Array.getElem?_eq_getElem hi);rw[Array.getElem?_eq_getElem hi,<-b,List.getElem?_toArray,List.getElem?_toArray,EB,List.getElem?_reverse (by lia)]
 .rw[Array.getElem?_eq_none (by lia),List.getElem?_toArray,List.getElem?_eq_none (by rw[List.length_reverse];lia)]
section
variable {X:Cx}
def pR(K:Eo)(te:TE):TE:=λσ H Q=>te σ H λx H1=>jy K x H1 Q
theorem yQ{e:Vk}{te:TE}{p p2 pos c:Pos}(K:Eo)(z:X.calm=true)(A:Gl X "list")(B:X.mg "list" = Vo)(l:Gl X "reversed")(m:X.mg "reversed" = Vo)(C:PE X e te)(E:X.K=K:=by rfl)
  (h1:starEach [e] X.env=(false,eval e X.env)::starEach [] X.env:=by rfl)
  (h2:starEach [.Call (.Name "reversed" p2) [e] [] c] X.env=(false,eval (.Call (.Name "reversed" p2) [e] [] c) X.env)::starEach [] X.env:=by rfl) :
  PE X (.Call (.Name "list" p) [.Call (.Name "reversed" p2) [e] [] c] [] pos) (pR K te):=by
 subst E;intro pins s σ H Q I h;refine wpAny_Call_Name_kw (fQ I A B PyProof.Rows.boot_list ?_ (by decide) (by decide));refine PyProof.Rows.callWith_type1 ?_ h2 rfl;rw[h2];show Vf _ _ (spliced ((false,eval (.Call (.Name "reversed" p2) [e] [] c) X.env)::backTo pos (starEach [] X.env))) _ _ s;refine Calls.spliced_cons ?_;refine wpAny_Call_Name_kw (fQ I l m PyProof.Rows.boot_reversed ?_ (by decide) (by decide));refine PyProof.Rows.callWith_type1 ?_ h1 rfl;rw[h1];show Vf _ _ (spliced ((false,eval e X.env)::backTo c (starEach [] X.env))) _ _ s;refine Calls.spliced_cons (aH (C pins s σ H _ I h) λu s1 ⟨x,H1,k,r1,F⟩=>?_);refine Calls.spliced_nil ?_;obtain⟨a,xs,rfl,G,q⟩:=F;cases r1;obtain⟨g,r,n,J⟩:=k.list G;have hlen:=r.length;refine call_reversed_list n.isList ?_;refine Calls.spliced_nil ?_;have la:a<s1.heap.objs.size:=let ⟨o,ho,_⟩:=n.isList;Es ho;have v:(s1.heap.push (revObj a ((g.toArray.size:Int)-1))).objs.size=s1.heap.objs.size+1:=Heap.size_push ..;refine AH (items:=g.toArray) (d:=a) (r:=s1.heap.objs.size) (k.ok.hd z) (EO la) ⟨_,Er _ rfl,rfl,rfl⟩ (n.isList.at λo e=>Ep _ e) (by rw[EB];lia) λh' tk y c' L i j=>?_;have w:∀b o,s1.heap.get? b=Vn o->h'.get? b=Vn o:=λb o e=>L b o (EO (Es e)) (Ep _ e);have hle:s1.heap.objs.size<=(s1.heap.push (revObj a ((g.toArray.size:Int)-1))).objs.size:=by rw[v];exact Nat.le_succ _
 rw[Aj j]at i;exact⟨.ref _,_,k.laid (t':=tk) (o:=.lst xs.reverse) w hle ⟨by rw[List.length_reverse];exact J,_,c',r.rev,i⟩,rfl,q _ (k.hok.fresh hle)⟩
def w4(tk tv:TE):TE:=λσ H Q=>∀p,H p=Vo->tk σ (upd H p (.dT [])) λx H1=>tv σ H1 λv H2=>∃b k,x=.ref b/\H2 b=Vn (.tup (List.map kV k))/\H2 p=Vn (.dT [])/\Q (.ref p) (upd H2 p (.dT [(k,v)]))
def m3{i ev:Vk}{tk:TE}{pos:Pos}(m:X.A.units+1<cLine)(n:PE X i tk)(p:PE X ev tv):PE X (.Dict [Vn i] [ev] pos) (w4 tk tv):=by
 intro pins s σ H Q I q;have r:=I.hok.fresh (ER s.heap.objs.size);have d:=I.laid (a:=s.heap.objs.size) (o:=.dT []) (h':=s.heap.push { cls:=.type "dict",data:=.dict #[] }) (t':=s.toks) (λ_ _ q=>Ep _ q) (ER _) (xt s.heap I.big);refine wpAny_Dict_any rfl rfl (by simp) (by simp) ?_;refine pairTrees_cons_walk (aH (n pins _ σ _ _ d (q _ r)) λu s1 ⟨x,H1,d,y,B⟩=>aH (p pins s1 σ H1 _ d B) λN s2 ⟨v,H2,g,C,E⟩=>pairTrees_nil_walk ?_);obtain⟨b,k,rfl,hb,e,F⟩:=E;cases(show u=Value.ref b from y);obtain⟨z,hd,xs,rel,dd⟩:=sE g.hok e;have G:xs.length<=sizeLine:=by rw[<-Paired.length rel];exact Nat.zero_le _
 unfold storeAll;rw[List.forIn_cons];refine Em (Em (wpAny_dictSet_heap (hsz:=G) (show(tupleKind (cU X.prog X.w)).room X.A from Nat.lt_of_succ_lt m) (jY g.hok hb) dd λh' h hs=>En ?_));dsimp only;rw[List.forIn_nil];refine En ⟨.ref s.heap.objs.size,_,?_,rfl,F⟩;obtain⟨q,es,ep,j,h2,J,L,_,M⟩:=h;refine n8 g (by rw[e];exact True.intro) hs ⟨q,j⟩ ⟨by rw[sizeLine_eq];simp,hd,_,(rel.put k hb C).keeps λc ys l=>?_,q,es,ep,j,h2,J,L,M⟩;rw[aF (bZ l e (λz=>nomatch z))];exact l
def rd_lrev{K:Eo}{te:TE}{Q:VK}(h:te σ H λx H1=>jy K x H1 Q):pR K te σ H Q:=h
def rd_disp1{tk:TE}{Q:VK}(h:∀p,H p=Vo->tk σ (upd H p (.dT [])) λx H1=>tv σ H1 λv H2=>∃b k,x=.ref b/\H2 b=Vn (.tup (List.map kV k))/\H2 p=Vn (.dT [])/\Q (.ref p) (upd H2 p (.dT [(k,v)]))):w4 tk tv σ H Q:=h
def rd_dnin{ty:TE}{Q:VK}(h:ty σ H λy H1=>td σ H1 λx H2=>∃a o,x=.ref a/\cP H2 a y o/\Q (.bl (!o.isSome)) H2):sN ty td σ H Q:=h
def rd_dput{ty:TE}{D:Ends}(h:tv σ H λv H1=>td σ H1 λx H2=>ty σ H2 λy c=>∃a b,x=.ref a/\g7 c a y v b/\D.nx σ b):oG td ty tv D σ H:=h
end
def CZ(K:Eo):List V->Hp->VK->Prop:=λxs H Q=>∃(p:Vb) (bs:List Bool),xs=[.ref p]/\ag K H p (bs.map V.bl)/\Q (.bl (bs.any id)) H
def any_range(bs:List Bool):((Fo bs.length).any λi=>bs.getD i false)=bs.any id:=by
 rw[E8,E7,E7];constructor
 .rintro⟨i,hi,h⟩;have a:=List.mem_range.mp hi;rw[List.getD_eq_getElem?_getD,Ex a]at h;exact⟨_,EX a,h⟩
 .rintro⟨b,hb,h⟩;obtain⟨i,hi,e⟩:=List.mem_iff_getElem.mp hb;refine⟨i,List.mem_range.mpr hi,?_⟩;rw[List.getD_eq_getElem?_getD,Ex hi,e];exact h
def lM(K:Eo)(x:X.calm=true)(y:X.K=K:=by rfl):cB X (.builtin "any") (CZ K):=by
 subst y;intro pins s σ H xs us Q I r h;obtain⟨p,bs,rfl,z,q⟩:=h;obtain⟨u,rfl,B⟩:=vals1 r;cases B;obtain⟨d,l,g,S⟩:=I.list z;have C:=mI l;have hne:p≠s.heap.objs.size:=EO (by obtain⟨o,n,e,_⟩:=g;exact Es e);refine call_any_walk (wpAny_pyIter_list g.isList ?_);have E:Inv X pins σ H { s with heap:=s.heap.push { cls:=.type "list_iterator",data:=.fields #[.ref p,.int 0 0] } }:=I.kept (t':=s.toks) λb o e=>Ep _ e;have F:=I.fpOk (H':=H) (ER s.heap.objs.size) I.fresh;refine⟨s.heap.objs.size,_,_,_,_,_,(λi=>bs.getD i false),rfl,Walks.list (A:=X.A.in1) (I.ok.hd x) _ p hne d.toArray,⟨⟨_,Er _ rfl,rfl,rfl⟩,?_⟩,?_,λh' tk G=>?_⟩
 .exact g.isList.push _
 .intro i v s' J T m L;rw[C]at m;have a:(bs.map Value.bool)[i]?=Vn v:=by simpa using m
  rw[Ey]at a;cases j:bs[i]? with
  | none=>rw[j]at a;cases a
  | some b=>
   rw[j]at a;cases a;have k:bs.getD i false=b:=by rw[List.getD_eq_getElem?_getD,j];rfl
   have c:J (bs.getD i false) s':=L;rw[k]at c;exact wpAny_truthy_bool c
 .obtain⟨M,N,U,O,P,R⟩:=F;have w:=l.length;rw[Ew]at w;refine⟨.bl (bs.any id),H,E.turned (it:=s.heap.objs.size) (λb o hb e=>G b o (by simpa using hb) e) M N O P R,?_,q⟩;show Value.bool _=Value.bool _;rw[EB,<-w,any_range]
abbrev dI(w:Ve):Bool:=!w.params.followText "set-order"
def Ab(t:SetTable)(es:Array (Int×Va))(h:Int)(x:Va):(layNew t es h x).2.1.led=t.led:=by
 unfold layNew;split
 .show((t.put _).1.orStandIn _).led=t.led;unfold SetTable.orStandIn;split<;>rfl
 .rfl
def A9{mask finger moves:Nat}{led plain:Bool}{hs:Array Int}{t:SetTable}{o:Array Nat}(h:SetTable.laid mask finger moves led plain hs=Vn (t,o)):t.led=led/\t.plain=plain:=by
 unfold SetTable.laid at h;cases e:SetTable.layClean mask hs with
 | none=>rw[e]at h;cases h
 | some a=>
  rw[e]at h;cases h;exact⟨rfl,rfl⟩
def xo(t:SetTable)(es:Array (Int×Va))(n:Nat):(relayAll t es n).2.1.led=t.led/\(t.plain=false->(relayAll t es n).2.1.plain=false):=by
 unfold relayAll;split
 .rename_i t' o e;have:=A9 e;dsimp only;split
  .exact⟨this.1,λh=>this.2.trans h⟩
  .exact⟨rfl,λ_=>rfl⟩
 .exact⟨rfl,λ_=>rfl⟩
section
variable {P:Vd} {w:Ve} {A:Vi} {E:Va->Vc->Prop} {s:Vc}
def CW(a:Va){Q₁:Va->Vc->Prop}(h:Q₁ (.ref s.heap.objs.size) { s with heap:=s.heap.push (cO (dI w)) }):
  codeAny (Vg P w) A (.call (.builtin "set.__new__") ⟨[.type "set",a],[]⟩) (wants Q₁ E) s:=by
 refine codeAny_of_tree ?_;show Vf _ A.in1 (do checkBuiltinCall "set.__new__" ⟨[.type "set",a],[]⟩;again (.builtin "set.__new__" ⟨[.type "set",a],[]⟩)) _ _ s;refine Em (wpAny_of_eq (F.newCall_set_1 a) (En ⟨plainId_quiet F.plain_set_new _,codeAny_builtin F.entry_set_new ?_⟩));rw[Around.under_plainId F.plain_set_new _];unfold Builtin.«set.__new__» Builtin.Frozenset.newClass;have b:=sub_set_self;obtain⟨c,g,d,tk,os⟩:=s;dsimp only
 wp_walk
 refine wpAny_askSetting (En ?_);dsimp only;simp only[newObj];refine Em (wpAny_alloc (En ?_));exact En h
def pA(k:Int)(tk:Tok):(PySem.intKind P w).is k (.int k tk)=true:=by show Value.isInt k (.int k tk)=true;simp[Value.isInt]
end
theorem vQ:∀{vs:List Va} {zs:List Int},IntsAre vs zs->∀(i:Nat) (v:Va),vs[i]?=Vn v->∃z t,v=.int z t/\zs[i]?=Vn z
 | _,_,.nil,i,v,h=>by simp at h
 | _,_,.cons z t _,0,v,h=>by cases h;exact⟨z,t,rfl,rfl⟩
 | _,_,.cons z t r,i+1,v,h=>vQ r i v h
def zm{D ds:List Int}(hd:D.Nodup)(hs:∀k∈D,k∈ds)(b:ds.length=D.length):ds.Perm D:=by
 induction D generalizing ds with
 | nil=>
  rw[List.length_nil,List.length_eq_zero_iff]at b;subst b;exact .refl _
 | cons d D g=>
  have c:=hs d EC;have h:=List.perm_cons_erase c;have a:=List.nodup_cons.mp hd;refine h.trans ((g a.2 (λk e=>?_) ?_).cons d)
  .refine(List.mem_erase_of_ne ?_).mpr (hs k (Ez _ e));rintro rfl;exact a.1 e
  .rw[List.length_erase_of_mem c,b];rfl
section
variable {P:Vd} {w:Ve} {A:Vi} {E:Va->Vc->Prop} {s:Vc}
theorem sM:∀{l:List (Int×Va)},ElemsOf (PySem.intKind P w) l->∃ds,IntsAre (l.map (·.2)) ds/\∀e∈l,∀k,(PySem.intKind P w).is k e.2=true->k∈ds
 | [],_=>⟨[],.nil,λe g=>by cases g⟩
 | e::l,h=>by
  obtain⟨ds,h1,h2⟩:=sM (l:=l) λx b=>h x (Ez _ b);obtain⟨⟨k,i,_⟩,_⟩:=h e EC;obtain⟨t,c⟩:=Value.isInt_shape (k:=k) i;refine⟨k::ds,?_,λx b d a=>?_⟩
  .rw[List.map_cons,c];exact .cons k t h1
  .rcases EK.mp b with rfl|b
   .rw[c]at a;obtain⟨u,j⟩:=Value.isInt_shape (k:=d) (v:=.int k t) a;cases j;exact EC
   .exact Ez _ (h2 x b d a)
end
theorem vo:∀{us:List Va} {zs:List Int},IntsAre us zs->Vals (zs.map V.int) us
 | _,_,.nil=>.nil
 | _,_,.cons z t r=>.cons ⟨t,rfl⟩ (vo r)
theorem ik{x:Vm}{c:Vb}:∀(names:List (Vm×NameKind)) (n:Nat) (acc:List (Vm×Vb)),(cellsFrom n names acc).lookup x=Vn c->acc.lookup x=Vn c\/(n<=c/\(x,NameKind.cell)∈names)
 | [],_,_,h=>.inl h
 | (y,k)::r,n,acc,h=>by
  unfold cellsFrom at h;by_cases a:(k == NameKind.cell)=true
  .rw[Ft a]at h;have b:k=.cell:=by simpa using a
   subst b;rcases ik r (n+1) ((y,n)::acc) h with h|⟨h1,h2⟩
   .rw[Fj]at h;cases hb:x == y with
    | true=>
     rw[hb]at h;cases h;rw[beq_iff_eq.mp hb];exact .inr ⟨ER _,EC⟩
    | false=>rw[hb]at h;exact .inl h
   .exact .inr ⟨Nat.le_of_succ_le h1,Ez _ h2⟩
  .rw[Fs a]at h;rcases ik r n acc h with h|⟨h1,h2⟩
   .exact .inl h
   .exact .inr ⟨h1,Ez _ h2⟩
theorem lF{x y:Vm}{c:Vb}:∀(names:List (Vm×NameKind)) (n:Nat) (acc:List (Vm×Vb)),(∀x c,acc.lookup x=Vn c->@LT.lt Nat _ c n)->(∀x y c,acc.lookup x=Vn c->acc.lookup y=Vn c->x=y)->(cellsFrom n names acc).lookup x=Vn c->(cellsFrom n names acc).lookup y=Vn c->x=y
 | [],_,_,_,hi,h1,h2=>hi _ _ _ h1 h2
 | (z,k)::r,n,acc,hb,hi,h1,h2=>by
  unfold cellsFrom at h1 h2;by_cases d:(k == NameKind.cell)=true
  .rw[Ft d]at h1 h2;refine lF r (n+1) ((z,n)::acc) (λx c h=>?_) (λx y c h1 h2=>?_) h1 h2
   .rw[Fj]at h;cases e:x == z with
    | true=>rw[e]at h;cases h;exact Nat.lt_succ_self _
    | false=>rw[e]at h;exact Nat.lt_succ_of_lt (hb x c h)
   .rw[Fj]at h1 h2;cases b:x == z with
    | true=>
     rw[b]at h1;cases h1;cases a:y == z with
     | true=>rw[beq_iff_eq.mp b,beq_iff_eq.mp a]
     | false=>rw[a]at h2;exact absurd (hb _ _ h2) (Nat.lt_irrefl _)
    | false=>
     rw[b]at h1;cases a:y == z with
     | true=>rw[a]at h2;cases h2;exact absurd (hb _ _ h1) (Nat.lt_irrefl _)
     | false=>rw[a]at h2;exact hi _ _ _ h1 h2
  .rw[Fs d]at h1 h2;exact lF r n acc hb hi h1 h2
theorem lY{x:Vm}{c:Vb}:∀(names:List (Vm×NameKind)) (h:Vh) (acc:List (Vm×Vb)),(cellsFrom h.objs.size names acc).lookup x=Vn c->acc.lookup x=Vn c\/(pushCells h names).IsCell c Vo
 | [],_,_,e=>.inl e
 | (y,k)::r,h,acc,e=>by
  unfold cellsFrom at e;unfold pushCells;by_cases a:(k == NameKind.cell)=true
  .rw[Ft a]at e ⊢;rw[<-Heap.size_push h { cls:=.type "cell",data:=.cell none }]at e;rcases lY r (h.push { cls:=.type "cell",data:=.cell none }) ((y,h.objs.size)::acc) e with e|e
   .rw[Fj]at e;cases hb:x == y with
    | true=>
     rw[hb]at e;cases e;exact .inr ⟨_,pushCells_keeps _ _ _ _ (Er _ rfl),rfl⟩
    | false=>rw[hb]at e;exact .inl e
   .exact .inr e
  .rw[Fs a]at e ⊢;exact lY r h acc e
section
variable {M:Model} {A:Vi} {E:Va->Vc->Prop} {s:Vc}
def Di{globals:Vb}{closure:List (Vm×Vb)}{func:Option Vb}{code:Va}{outer:Env}{builtins:Vb}{Q:Env->Vc->Prop}
  (b:Q (newEnv scope s.heap.objs.size globals (cellsFrom (s.heap.objs.size+1) scope.names closure) qual func code (Vn outer) builtins) { s with heap:=pushCells (s.heap.push { cls:=.type "dict",data:=.dict #[] }) scope.names }) :
  Vf M A (newFunctionEnv scope globals closure [] qual func code (Vn outer) builtins) Q E s:=by
 simp only[newFunctionEnv,Option.isSome_some,if_true];refine Em (wpAny_alloc ?_);refine Em (wpAny_layCells _ (λname kind cells=>by cases a:kind == NameKind.cell<;>simp[a]) _ _ _ _ ?_);rw[show ({ s with heap:=s.heap.push { cls:=.type "dict",data:=.dict #[] } }:Vc).heap.objs.size=s.heap.objs.size+1 from Heap.size_push ..];refine Em ?_;rw[List.forIn_nil];exact En (En b)
end
def iu(X:Cx)(sc:Scope)(C:Vb):List (Vm×Vb):=cellsFrom (Nat.succ C) sc.names (dA sc.names X.env.cells)
def cX(X:Cx)(sc:Scope)(own:List Vm)(js:List Nat)(z:Blk):Cx where
 prog:=X.prog
 w:=X.w
 K:=X.K
 mg:=X.mg
 base:=X.base
 A:=X.A
 N:=own++js.map λj=>X.N.getD j ""
 s₀:=z.s
 H₀:=z.H
 env:=compEnvC sc (iu X sc z.C) z.C X.env
 outer:=X.stack
 stack:=X.stack
 ex:=z.fp
 fn:=λx=>sc.names.lookup x == Vn .cell
 calm:=X.calm
 pn:=[]
 xe:=λ_ _=>False
def eP(sc out:Scope):Bool:=sc.names.all λp=>(p.2 != .cell || sc.names.lookup p.1 == Vn .cell) && (p.2 != .local || sc.names.lookup p.1 == Vn .local) && (p.2 != .free || out.names.lookup p.1 == Vn .cell || out.names.lookup p.1 == Vn .free) && (p.2 != .free || sc.names.lookup p.1 == Vn .free)
def kY(h:eP sc out=true)(a:p∈sc.names)(b:p.2=.free):out.names.lookup p.1=Vn .cell\/out.names.lookup p.1=Vn .free:=by have:=E6.mp h p a;simp[b]at this;exact this.1
def Cq(h:eP sc out=true){x:Vm}(a:(x,NameKind.free)∈sc.names)(h2:sc.names.lookup x=Vn .cell):False:=by have:=E6.mp h _ a;simp[h2]at this
def AU(h:eP sc out=true)(a:p∈sc.names)(b:p.2=.cell):sc.names.lookup p.1=Vn .cell:=by have:=E6.mp h p a;simp[b]at this;exact this
def uB(h:eP sc out=true)(a:p∈sc.names)(b:p.2=.local):sc.names.lookup p.1=Vn .local:=by have:=E6.mp h p a;simp[b]at this;exact this
section
variable {X:Cx} {pins:List (Vb×Obj)} {σ:St} {H:Hp} {s:Vc}
def jV(ok:X.Ok)(hb:eP sc X.env.scope=true){x:Vm}(h:(dA sc.names X.env.cells).lookup x=Vn c):X.env.cells.lookup x=Vn c:=by
 rcases kN X.env.cells sc.names [] x c h with⟨h1,h2⟩|h1
 .obtain⟨d,hd⟩:=ok.has x (kY hb h1 rfl);rw[hd]at h2 ⊢;rw[h2];rfl
 .simp at h1
def iL(ok:X.Ok)(hb:eP sc X.env.scope=true){C:Vb}{x:Vm}(h:(iu X sc C).lookup x=Vn c):X.env.cells.lookup x=Vn c\/(@LT.lt Nat _ C c/\sc.names.lookup x=Vn .cell):=by
 rcases ik _ _ _ h with h|⟨h1,h2⟩
 .exact .inl (jV ok hb h)
 .exact .inr ⟨h1,AU hb h2 rfl⟩
def lR{x:Vm}{C:Vb}(h:(x,NameKind.free)∈sc.names):∃c,(iu X sc C).lookup x=Vn c:=by obtain⟨c,a⟩:=wI (cells:=X.env.cells) h;exact Option.isSome_iff_exists.mp (PySem.W.cellsFrom_some sc.names _ _ (.inr (by rw[a];rfl)))
def DC(I:Inv X pins σ H s)(hb:eP sc X.env.scope=true){x:Vm}(h:(dA sc.names X.env.cells).lookup x=Vn c):@LT.lt Nat _ c s.heap.objs.size:=I.cell_lt (jV I.ok hb h)
def Cj(I:Inv X pins σ H s){C:Nat}(n:sc.kind=.function)(hb:eP sc X.env.scope=true)
  (hfp:∀b∈fp,cE X pins H b) (d:s.heap.objs.size<=C) (hlt:∀b∈fp,b<s.heap.objs.size):(cX X sc own js ⟨s,H,fp,C⟩).Ok where
 mod:=I.ok.mod
 kind:=n
 glob:=I.ok.glob
 blt:=I.ok.blt
 above:=d
 inj:=λx y c h1 h2=>lF sc.names _ _ (λx c e=>Nat.lt_succ_of_le (E4 (Nat.le_of_lt (DC I hb e)) d)) (λx y c g p=>I.ok.inj x y c (jV I.ok hb g) (jV I.ok hb p)) h1 h2
 has:=λx i=>by
  have j:(relabel sc X.env).names.lookup x=Vn .cell\/(relabel sc X.env).names.lookup x=Vn .free:=i;have go:∀k,(relabel sc X.env).names.lookup x=Vn k->(k=.cell\/k=.free)->∃c,(iu X sc C).lookup x=Vn c:=λk h l=>by
   obtain⟨r,h1,h2⟩:=lj (sc:=sc) (env:=X.env) h;have m:=iX h1;rcases h2 with h2|⟨h2,_⟩
   .subst h2;rcases l with e|e
    .rw[e]at h1;exact Option.isSome_iff_exists.mp (PySem.W.cellsFrom_some sc.names _ _ (.inl h1))
    .rw[e]at m;exact lR m
   .rw[h2]at m;exact lR m
  rcases j with h|h
  .exact go _ h (.inl rfl)
  .exact go _ h (.inr rfl)
 cab:=λx c h e=>by
  have i:sc.names.lookup x=Vn .cell:=by simpa[cX]using h
  have e':(iu X sc C).lookup x=Vn c:=e;rcases ik _ _ _ e' with g|⟨g,_⟩
  .rcases kN X.env.cells sc.names [] x c g with⟨h1,_⟩|h1
   .exact(Cq hb h1 i).elim
   .simp at h1
  .exact E4 d (Nat.le_of_succ_le g)
 hd:=I.ok.hd
 frames:=I.ok.frames
 stk:=.inl rfl
 exf:=λb a=>⟨EO (E3 (hlt b a) d),λx c e=>by
  rcases iL I.ok hb (C:=C) e with e|⟨e,_⟩
  .exact(hfp b a).2.2.2.2.1 x c e
  .exact Nat.ne_of_gt (Nat.lt_trans (E3 (hlt b a) d) e)⟩
 bs:=I.bs
 bsz:=E4 I.ok.bsz I.sz
 noex:=λb o e a=>by
  rcases(hfp b a).2.2.2.1 with z|z
  .exact I.ok.noex b o e z
  .exact absurd (E3 (Es e) (E4 I.ok.bsz z)) (Nat.lt_irrefl _)
 exfs:=λb a q=>by
  rcases EK.mp (I.stkSub b q)with e|h
  .exact(hfp b a).2.1 e
  .exact(hfp b a).2.2.1 h
 funs:=I.stack
 frf:=I.stkFree
theorem DV(I:Inv X pins σ H s){C D:Nat}{h1:Vh}{tk:Nat}{m:Vm->Option Va}(Q:sc.kind=.function)(hb:eP sc X.env.scope=true)(R:kO sc X.N js=true)
  (hfp:∀b∈fp,cE X pins H b) (hlt:∀b∈fp,b<s.heap.objs.size) (hD:D=s.heap.objs.size) (hC:C=s.heap.objs.size+1) (old:∀b o,s.heap.get? b=Vn o->h1.get? b=Vn o)
  (B:h1.get? D=Vn o) (E:∀v,o.data≠.cell v) (S:h1.Ns C m) (hcl:∀x c,(iu X sc C).lookup x=Vn c->(dA sc.names X.env.cells).lookup x=Vn c\/h1.IsCell c Vo) :
  Inv (cX X sc own js ⟨s,H,fp,C⟩) [(D,o)] (dD own.length js σ) H { s with heap:=h1,toks:=tk } where
 ok:=Cj I Q hb hfp (show @LE.le Nat _ s.heap.objs.size C by lia) hlt
 os:=rfl
 bare:=I.bare
 base:=Un.kept old
 loc:=by
  refine⟨m,S,λi x v T U W=>?_⟩;obtain⟨k,j,rfl,O,es⟩:=ph U;have y:(own++js.map λj=>X.N.getD j "")[own.length+k]?=Vn x:=T;rw[EV (by lia),Nat.add_sub_cancel_left,Ey,O]at y;have ex:X.N.getD j "" = x:=by simpa using y
  have h:=E6.mp R j (EF O);simp only[E9,decide_eq_true_eq,beq_iff_eq]at h;have F:X.N[j]?=some x:=by rw[<-ex,List.getD_eq_getElem?_getD,Ex h.1];rfl
  have a:sc.names.lookup x=some .free:=by rw[<-ex];exact h.2
  have hmem:=iX a;have g:=kY hb hmem rfl;obtain⟨m0,Y,G⟩:=I.loc;obtain⟨u,r,l⟩:=G j x v F es (by rcases g with z|z;exact .inr (.inl z);exact .inr (.inr z));refine⟨u,r,?_⟩;obtain⟨c,P⟩:=lR (X:=X) (C:=C) hmem;have J:X.env.cells.lookup x=Vn c:=by
   rcases iL I.ok hb P with e|⟨_,e⟩
   .exact e
   .rw[a]at e;cases e
  have n:s.heap.IsCell c (Vn u):=by
   rcases l with⟨z,_⟩|⟨_,c',e',q⟩
   .have Z:X.env.scope.names.lookup x=Vn .local:=z;rcases g with w|w<;>(rw[Z]at w;cases w)
   .rw[J]at e';cases e';exact q
  have d:h1.IsCell c (Vn u):=by obtain⟨oc,ho,hd⟩:=n;exact⟨oc,old c oc ho,hd⟩
  right;refine⟨?_,c,P,d⟩;have L:(relabel sc X.env).names.lookup x=Vn .local\/(relabel sc X.env).names.lookup x=Vn .cell\/(relabel sc X.env).names.lookup x=Vn .free:=W;rcases L with z|z
  .obtain⟨k',M,A⟩:=lj (sc:=sc) (env:=X.env) z;rw[a]at M;rcases A with A|⟨_,A⟩
   .rw[A]at M;cases M
   .cases A
  .exact z
 cell:=λx c e=>by
  rcases hcl x c e with e|e
  .obtain⟨v,oc,ho,hd⟩:=I.cell x c (jV I.ok hb e);exact⟨v,oc,old c oc ho,hd⟩
  .exact⟨Vo,e⟩
 free:=I.hok.fresh (show @LE.le Nat _ s.heap.objs.size C by lia)
 freeC:=λx c e=>by
  rcases iL I.ok hb (C:=C) e with e|⟨e,_⟩
  .exact I.freeC x c e
  .exact I.hok.fresh (show @LE.le Nat _ s.heap.objs.size c by lia)
 pin:=λp hp=>by
  have e:p=(D,o):=by simpa[cX]using hp
  subst e;refine⟨B,I.hok.fresh (show @LE.le Nat _ s.heap.objs.size D by lia),?_,λz=>?_,E⟩
  .exact EO (show @LT.lt Nat _ D C by lia)
  .have h9:@LT.lt Nat _ D s.heap.objs.size:=I.stk_lt (b:=D) z;lia
 hok:=I.hok.kept old
 len:=by show(dD own.length js σ).length=(own++js.map λj=>X.N.getD j "").length;simp[dD]
theorem rE{pos:Pos}{te:TE}{J:It}{it:Vb}{tn:Nat->Vh->Prop}{RR:Va->Vb->Result->Vc->Prop}{E:Va->Vc->Prop}
  {Q:VK} {W:Nat->Nat->List V->Hp->Prop} (hk:sc.kind=.function) (hb:eP sc X.env.scope=true) (hj:kO sc X.N js=true)
  (hg:∀C,PG (cX X sc own js ⟨s,H,fp,C⟩) tg g) (ht:∀C,jx (cX X sc own js ⟨s,H,fp,C⟩) ifs tc) (he:∀C,PE (cX X sc own js ⟨s,H,fp,C⟩) elt te)
  (I:Inv X pins σ H s) (T:∀C,TurnAt (cX X sc own js ⟨s,H,fp,C⟩) tg J fp it tn) (st:tn 0 s.heap) (hfp:∀b∈fp,cE X pins H b) (w0:∃m,W 0 m [] H)
  (turn:∀i m ys H',W i m ys H'->(J.stop i H'/\∀p,H' p=Vo->Q (.ref p) (upd H' p (.lst ys))) ∨
   (J.go i H'/\ys.length<sizeLine/\∃N:List V->Hp->Prop,(∀ys' H2,N ys' H2->∃m',m'<m/\W (i+1) m' ys' H2)/\∀x H2,J.yld i H' x H2->g x (dD own.length js σ) H2 λak O=>tc ak O λb H4=>
    if b=true then te ak H4 λv H5=>N (ys++[v]) H5 else N ys H4))
  (fin:∀D C s' ys H',H' D=Vo->Inv X pins σ (upd H' D (.lst ys)) s'->cE X pins (upd H' D (.lst ys)) C->(∃m,s'.heap.Ns C m)->s.heap.objs.size<=C->Q (.ref D) (upd H' D (.lst ys))->RR (.ref D) C (.ok .next) s') :
  Vf (Vg X.prog X.w) X.A (newList []) (λacc L=>Vf (Vg X.prog X.w) X.A (newFunctionEnv sc X.env.globals (dA sc.names X.env.cells) [] X.env.qual Vo .none (Vn X.env)) (λa4 am=>
   codeAny (Vg X.prog X.w) X.A (.compStart (.ListComp elt [⟨tg,iter,ifs,0⟩] sc pos) 0 (.ref it) acc { a4 with scope:=relabel sc X.env }) (RR acc a4.locals) am) E L) E s:=by
 have hlt:∀b∈fp,b<s.heap.objs.size:=λb l=>by obtain⟨o,e,_⟩:=(T 0).obj 0 s.heap st b l;exact Es e
 refine wpAny_newObj_type (Di ?_);dsimp only;generalize a6:s.heap.push { cls:=.type "list",dict:=none,data:=.seq ([]:List Va).toArray }=H2 at *;have ba:H2.objs.size=s.heap.objs.size+1:=by rw[<-a6,Heap.size_push]
 have Z:(pushCells (H2.push { cls:=.type "dict",data:=.dict #[] }) sc.names).Ns H2.objs.size (λ_=>none):=(Heap.Ns.new H2 (.type "dict")).keeps (pushCells_keeps _ _);have a1:∀x c,(iu X sc H2.objs.size).lookup x=some c->(dA sc.names X.env.cells).lookup x=some c\/(pushCells (H2.push { cls:=.type "dict",data:=.dict #[] }) sc.names).IsCell c none:=λx c e=>by have e':(cellsFrom (H2.objs.size+1) sc.names (dA sc.names X.env.cells)).lookup x=some c:=e;rw[<-Heap.size_push H2 { cls:=.type "dict",data:=.dict #[] }]at e';exact lY _ _ _ e'
 have old:∀b o,s.heap.get? b=Vn o->(pushCells (H2.push { cls:=.type "dict",data:=.dict #[] }) sc.names).get? b=Vn o:=λb o e=>pushCells_keeps _ _ b o (Ep _ (a6 ▸ Ep _ e));have bb:(pushCells (H2.push { cls:=.type "dict",data:=.dict #[] }) sc.names).get? s.heap.objs.size=Vn (fi [] 0):=pushCells_keeps _ _ _ _ (Ep _ (a6 ▸ Er _ rfl));generalize pushCells (H2.push { cls:=.type "dict",data:=.dict #[] }) sc.names=G at *;generalize c3:H2.objs.size=C at *;have below:∀b:Nat,b<s.heap.objs.size->b≠C:=λb l=>by lia
 generalize a2:s.heap.objs.size=D at *;let Y:Cx:=cX X sc own js ⟨s,H,fp,C⟩;have J0:Inv Y [(D,fi [] 0)] (dD own.length js σ) H { s with heap:=G }:=
  DV I hk hb hj hfp (by rw[a2];exact hlt) a2.symm (by rw[a2];exact ba) old bb (λv z=>by cases z) Z a1
 have ab:@Ne Nat D C:=by lia
 have statF:∀{P':List (Vb×Obj)} {H':Hp},(∀b∈fp,H' b=Vo)->(∀p∈P',p.1∉fp)->∀b∈fp,cE Y P' H' b:=λ{P' H'} hn M b l=>by
  obtain⟨f0,f1,f2,f3,f4,f5⟩:=hfp b l;refine⟨hn b l,λz=>below b (hlt b l) z,λz=>?_,.inl l,λx c e=>?_,λp ac z=>?_⟩
  .rcases EK.mp (I.stkSub b z)with e|h
   .exact f1 e
   .exact f2 h
  .rcases iL I.ok hb (C:=C) e with e|⟨e,_⟩
   .exact f4 x c e
   .have h9:@LT.lt Nat _ b s.heap.objs.size:=by rw[a2];exact hlt b l
    exact Nat.ne_of_gt (show @LT.lt Nat _ b c by lia)
  .have:p∈P':=by simpa[Y,cX]using ac
   exact M p this (by rw[z];exact l)
 have an:D∉fp:=λz=>by have h9:@LT.lt Nat _ D D:=hlt D z;lia
 have ap:tn 0 G:=(T 0).keep 0 s.heap G st λb _ o e=>old b o e;have loop:∀L:Vc,L={ s with heap:=G } ->
   codeAny (Vg X.prog X.w) X.A (.compLoop (.ListComp elt [⟨tg,iter,ifs,0⟩] sc pos) 0 (.ref it) (.ref D) Y.env) (RR (.ref D) C) L:=by
  rintro L rfl;obtain⟨m0,w0⟩:=w0;refine xr (λn s'=>∃i ys y q H',Inv Y [(D,fi y q)] (dD own.length js σ) H' s'/\Vals ys y/\ys.length<=sizeLine/\tn i s'.heap/\(∀b∈fp,H' b=Vo)/\W i n ys H') ?_ m0
   ⟨0,[],[],0,H,J0,.nil,Nat.zero_le _,ap,λb l=>(hfp b l).1,w0⟩
  rintro n s3 ⟨i,ys,y,q,O,I3,rv,hz,ar,as,w3⟩;have pD:∀p∈[(D,fi y q)],p.1∉fp:=λp M=>by
   have e:p=(D,fi y q):=by simpa using M
   rw[e];exact an
  rcases turn i n ys O w3 with⟨stop,qn⟩|⟨go,hlen,N,hN,step⟩
  .refine aH ((T C).done i _ s3 _ O _ I3 (statF as pD) ar stop) λr s4 ⟨hr,I4⟩=>?_;subst hr;show RR (.ref D) C (.ok .next) s4;have P:=I4.pin (D,fi y q) (Fd _ (EG.mpr rfl));have bc:s4.heap.get? D=Vn (fi y q):=P.1;have nD:O D=Vo:=P.2.1;have U:Un (dH X.stack) fp H O s.heap s4.heap:=I4.base;have neD:∀b o,s.heap.get? b=Vn o->b≠D:=λb o e=>EO (by have h9:@LT.lt Nat _ b s.heap.objs.size:=Es e;lia);have neDH:∀b o,H b=Vn o->b≠D:=λb o e=>EO (by have h9:@LT.lt Nat _ b s.heap.objs.size:=I.hok.lt e;lia);have U2:Un (dH X.stack) fp H (upd O D (.lst ys)) s.heap s4.heap:=
    ⟨U.keep,U.slot,λb o e n hx=>by rw[aF (neD b o e)];exact U.free b o e n hx,U.there,λb xs e=>by rw[aF (neDH b _ e)];exact U.tups b xs e,
     λb o u e=>by rw[aF (neDH b _ e)];exact U.frzs b o u e,λb ps e=>by rw[aF (neDH b _ e)];exact U.tbls b ps e⟩
   have au:bq X.prog X.w (upd O D (.lst ys)) s4.heap:=λb o e=>by
    by_cases l:b=D
    .subst l;rw[aK]at e;cases e;exact⟨hz,y,q,rv,bc⟩
    .rw[aF l]at e;exact(I4.hok b o e).stay (λc u _ z=>z) (λc z=>by rw[aF (b0 z nD)];exact z) λc xs z=>by rw[aF (b0 z nD)];exact z
   have IX:Inv X pins σ (upd O D (.lst ys)) s4:=I.call' (ch:=fp) I4.os U2 au I4.bare λb l=>by obtain⟨f0,f1,f2,f3,f4,f5⟩:=hfp b l;exact⟨f3,f1,f4,f5⟩
   obtain⟨m4,be,_⟩:=I4.loc;have nC:O C=Vo:=I4.free;refine fin D C s4 ys O nD IX ?_ ⟨m4,be⟩ (show @LE.le Nat _ D C by lia) (qn D nD);refine⟨by rw[aF (Ne.symm ab)];exact nC,?_,?_,?_,?_,?_⟩
   .have h9:@LT.lt Nat _ X.env.locals s.heap.objs.size:=I.lt;exact Nat.ne_of_gt (show @LT.lt Nat _ X.env.locals C by lia)
   .exact I.nofs (show @LE.le Nat _ s.heap.objs.size C by lia)
   .right;have h9:@LE.le Nat _ X.s₀.heap.objs.size s.heap.objs.size:=I.sz;exact(show @LE.le Nat _ X.s₀.heap.objs.size C by lia)
   .intro x c e;have h9:@LT.lt Nat _ c s.heap.objs.size:=I.cell_lt e;exact EO (show @LT.lt Nat _ c C by omega)
   .intro p M;have h9:@LT.lt Nat _ p.1 s.heap.objs.size:=I.pin_lt M;exact EO (show @LT.lt Nat _ p.1 C by omega)
  .refine aH ((T C).item i _ s3 _ O _ I3 (statF as pD) ar go) λr s4 ⟨u,hr,h4⟩=>?_;subst hr;refine aH h4 λ_ s5 ⟨x,H5,I5,r5,y5,ad,bg⟩=>?_;have bi:=I5.pinned (statF bg pD) ((T 0).obj _ _ ad);refine aH (hg _ _ s5 _ H5 x u _ bi r5 (step x H5 y5)) λ_ s6 ⟨a3,H6,I6,q6⟩=>?_;refine aH (ht _ _ s6 a3 H6 _ I6 q6) λok s7 ⟨H7,I7,q7⟩=>?_;have back:∀{s':Vc} {b1:St} {H':Hp} {ys':List V} {its':List Va} {q':Nat},Inv Y ([(D,fi its' q')]++gW fp s5.heap) b1 H' s'->Vals ys' its'->ys'.length<=sizeLine->N ys' H' ->
     ∃m,m<n/\∃i ys y q H',Inv Y [(D,fi y q)] (dD own.length js σ) H' s'/\Vals ys y/\ys.length<=sizeLine/\tn i s'.heap/\(∀b∈fp,H' b=Vo)/\W i m ys H':=by
    intro s' b1 H' ys' its' q' I' bl bm nn;obtain⟨m',hm,w'⟩:=hN ys' H' nn;have hpin:∀b∈fp,∀o,s5.heap.get? b=Vn o->s'.heap.get? b=Vn o/\H' b=Vo:=λb l o e=>by have:=I'.pin (b,o) (Fd _ (Fd _ (mG l e)));exact⟨this.1,this.2.1⟩
    refine⟨m',hm,i+1,ys',its',q',H',?_,bl,bm,(T 0).keep _ _ _ ad λb l o e=>(hpin b l o e).1,λb l=>?_,w'⟩
    .have B:=I'.unpinned;obtain⟨mm,bn,_⟩:=id B.loc;refine⟨B.ok,B.os,B.bare,B.base,⟨mm,bn,λk x v e1 e2 e3=>?_⟩,B.cell,B.free,B.freeC,B.pin,B.hok,?_⟩
     .obtain⟨m1,c4,bu⟩:=J0.loc;obtain⟨u1,r1,l1⟩:=bu k x v e1 e2 e3;refine⟨u1,r1,?_⟩;obtain⟨k',j,rfl,ej,es⟩:=ph e2;have b2:(own++js.map λj=>X.N.getD j "")[own.length+k']?=Vn x:=e1;rw[EV (by omega),Nat.add_sub_cancel_left,Ey,ej]at b2;have ex:X.N.getD j "" = x:=by simpa using b2
      have b4:=E6.mp hj j (EF ej);simp only[E9,decide_eq_true_eq,beq_iff_eq]at b4;have R:sc.names.lookup x=some .free:=by rw[<-ex];exact b4.2
      rcases l1 with⟨z,zz⟩|⟨z,c,e,zz⟩
      .exfalso;obtain⟨k2,z1,z2⟩:=lj (sc:=sc) (env:=X.env) (show(relabel sc X.env).names.lookup x=Vn .local from z);rw[R]at z1;rcases z2 with z2|⟨_,z2⟩
       .rw[z2]at z1;cases z1
       .cases z2
      .refine .inr ⟨z,c,e,?_⟩;have ai:X.env.cells.lookup x=Vn c:=by
        rcases iL I.ok hb (C:=C) e with e|⟨_,e⟩
        .exact e
        .rw[R]at e;cases e
       obtain⟨ov,oc,b5,c5⟩:=I.cell x c ai;have b7:=old c oc b5;obtain⟨oz,bv,c0⟩:=zz;have a5:G.get? c=Vn oz:=bv;rw[b7]at a5;cases a5;have cnf:c∉fp:=λz'=>(hfp c z').2.2.2.2.1 x c ai rfl;obtain⟨sl,hh⟩:=B.base.any b5 (I.freeC x c ai) cnf;exact⟨_,hh,c0⟩
     .show(dD own.length js σ).length=_;exact J0.len
    .obtain⟨o,e,d⟩:=(T 0).obj _ _ ad b l;exact(hpin b l o e).2
   cases ok with
   | false=>
    rw[Fs EL]at q7 ⊢;exact back I7 rv hz q7
   | true=>
    rw[Ft rfl]at q7 ⊢;refine aH (he _ _ s7 a3 H7 _ I7 q7) λS s8 ⟨v,H8,I8,r8,q8⟩=>?_;have P:=I8.pin (D,fi y q) (Fd _ (Fe _ (EG.mpr rfl)));have aj:s8.heap.get? D=Vn { cls:=.type "list",data:=.seq y.toArray q }:=P.1;have hl:=rv.length;refine call_meets F.slot_list_append ⟨_,aj,rfl⟩ F.entry_list_append (F.args_list_append_2 _ _) (PySem.list_append D y.toArray q S (by rw[EB];omega)) ⟨aj,?_⟩;have qq:=PySem.IsL.update aj (λa=>a.push S);have eqs:y.toArray.push S=(y++[S]).toArray:=by simp
    rw[eqs]at qq;obtain⟨q2,c1⟩:∃q2,(s8.heap.update D (Obj.mapSeq λa=>a.push S)).get? D=Vn (fi (y++[S]) q2):=⟨_,qq⟩;have c2:Inv Y (gW fp s5.heap) a3 H8 s8:=I8.pins_of λp M=>I8.pin p (Fd _ (Fd _ M));have b8:H8 D=Vo:=P.2.1;have I9:Inv Y (gW fp s5.heap) a3 H8 { s8 with heap:=s8.heap.update D (Obj.mapSeq λa=>a.push S),toks:=s8.toks }:=by
     refine c2.turned (it:=D) (λb o l e=>(Heap.get?_update_other s8.heap (Obj.mapSeq λa=>a.push S) (Ne.symm l)).trans e) b8 ab (.inr (show @LE.le Nat _ s.heap.objs.size D by omega)) (λx c e=>?_) λp M=>?_
     .rcases iL I.ok hb (C:=C) e with e|⟨e,_⟩
      .have h9:@LT.lt Nat _ c s.heap.objs.size:=I.cell_lt e;exact EO (show @LT.lt Nat _ c D by omega)
      .exact Nat.ne_of_gt (show @LT.lt Nat _ D c by omega)
     .have ac:p∈gW fp s5.heap:=by simpa[Y,cX]using M
      obtain⟨h1,_⟩:=sV ac;exact λz=>an (z ▸ h1)
    refine back (ys':=ys++[v]) (its':=y++[S]) (q':=q2) (I9.pins_of λp M=>?_) (rv.append (.cons r8 .nil)) (by rw[EN,List.length_singleton];omega) q8;rcases EU.mp M with M|M
    .have e:p=(D,fi (y++[S]) q2):=by simpa using M
     subst e;refine⟨c1,b8,ab,λz=>?_,λv z=>by cases z⟩;have h9:@LT.lt Nat _ D s.heap.objs.size:=I.stk_lt (b:=D) z;omega
    .exact I9.pin p (Fd _ M)
 exact codeAny_compStart_list (loop _ rfl) ((T 0).self X.A 0 { s with heap:=G } _ _ ap (loop _ rfl))
def cn{pos:Pos}(own:List Vm)(js:List Nat){j:TI}{te:TE}(hi:PI X tg iter j)(n:∀z,PG (cX X sc own js z) tg g)(r:∀z,jx (cX X sc own js z) ifs tc)
  (u:∀z,PE (cX X sc own js z) elt te) (y:X.calm=true:=by rfl) (k:sc.kind=.function:=by rfl) (hb:eP sc X.env.scope=true:=by rfl) (B:kO sc X.N js=true:=by rfl)
  (hs:∀x,foldedSetIterable iter X.env x=pure x:=by intro _;rfl):PE X (.ListComp elt [⟨tg,iter,ifs,0⟩] sc pos) (mM own.length js j g tc te):=by
 intro pins s σ H Q I h;rw[eval_ListComp];refine wpAny_comprehension_free (use:=Vo) rfl hs (nU λp a E=>I.ok.has p.1 (kY hb a E)) k (λp a F=>uB hb a F) (aH (hi pins s σ H _ I h) λv s1 h1=>aH h1 λG s2 h2=>?_);obtain⟨it,fp,tn,J,H2,e,L,T,c,l,W,M,turn⟩:=h2;subst e;refine rE (RR:=λacc C=>compPost (Vg X.prog X.w) X.A X.xe Vo (EP X pins σ Q) acc C) k hb B (λ_=>n _) (λ_=>r _) (λ_=>u _) L (λC=>Turn.at_ (Y:=cX X sc own js ⟨_,_,_,C⟩) T y) c l M turn ?_;intro D C s' ys H' nD O P ⟨m,R⟩ _ q;refine⟨m,R,λh' d=>?_⟩;obtain⟨S,U,l,Z,f4,f5⟩:=P;exact⟨.ref D,_,O.turned (t':=s'.toks) (it:=C) (λb o i e=>(d.2 b i).trans e) S U Z f4 f5,rfl,q⟩
end
def dG(c:Vb)(o:Obj):HO:=.ext λh=>h.get? c=Vn o
def AB(r:h.get? c=Vn o):bC P w H h c (dG c o):=⟨r,⟨o,r⟩,λh1 h2 r1 k=>k o r1⟩
def bQ(cs:List (Vb×Obj))(H:Hp):Hp:=λb=>match cs.lookup b with|some o=>Vn (dG b o)|none=>H b
def a9(cs:List (Vb×Obj))(H:Hp):Hp:=λb=>match cs.lookup b with|some _=>Vo|none=>H b
section
variable {cs:List (Vb×Obj)} {H H':Hp} {b:Vb} {o:Obj} {P:Vd} {w:Ve} {h h':Vh} {fs ex:List Vb}
def fB(q:cs.lookup b=Vn o):bQ cs H b=Vn (dG b o):=by unfold bQ;rw[q]
def dw(q:cs.lookup b=Vo):bQ cs H b=H b:=by unfold bQ;rw[q]
def il(q:cs.lookup b=Vn o):a9 cs H b=Vo:=by unfold a9;rw[q]
def c6(q:cs.lookup b=Vo):a9 cs H b=H b:=by unfold a9;rw[q]
def CC{u:HO}(q:a9 cs H b=Vn u):cs.lookup b=Vo/\H b=Vn u:=by
 cases e:cs.lookup b with
 | none=>rw[c6 e]at q;exact⟨rfl,q⟩
 | some o=>rw[il e]at q;cases q
def mn{u:HO}(a:∀b o,cs.lookup b=Vn o->H b=Vo)(q:H b=Vn u):bQ cs H b=Vn u:=by
 cases e:cs.lookup b with
 | none=>rw[dw e];exact q
 | some o=>rw[a b o e]at q;cases q
def rQ(hok:bq P w H h)(c:∀b o,cs.lookup b=Vn o->h.get? b=Vn o)(a:∀b o,cs.lookup b=Vn o->H b=Vo):bq P w (bQ cs H) h:=λb u e=>by
 cases q:cs.lookup b with
 | some o=>rw[fB q]at e;cases e;exact AB (c b o q)
 | none=>
  rw[dw q]at e;exact(hok b u e).stay (λd v _ g=>g) (λd hd=>mn a hd) λd xs hd=>mn a hd
def oO(hok:bq P w H h)(c:∀b o,cs.lookup b=Vn o->H b=Vn (dG b o)):bq P w (a9 cs H) h:=λb u e=>by
 obtain⟨q,e⟩:=CC e;have a:∀d x,H d=Vn x->(∀f,x≠.ext f)->a9 cs H d=Vn x:=λd x hd nx=>by
  cases z:cs.lookup d with
  | none=>rw[c6 z];exact hd
  | some o'=>rw[c d o' z]at hd;cases hd;exact absurd rfl (nx _)
 exact(hok b u e).stay (λd v _ g=>g) (λd hd=>a d _ hd λf z=>by cases z) λd xs hd=>a d _ hd λf z=>by cases z
def D0(u:Un fs ex (bQ cs H) H' h h')(hok':bq P w H' h')(g:∀b o,cs.lookup b=Vn o->h.get? b=Vn o)(c:∀b o,cs.lookup b=Vn o->H b=Vo)(a:∀b o,cs.lookup b=Vn o->H' b=Vn (dG b o)):Un fs ex H (a9 cs H') h h' where
 keep:=λb o e n d nx=>by
  cases q:cs.lookup b with
  | none=>exact u.keep b o e (by rw[dw q];exact n) d nx
  | some o'=>
   rw[g b o' q]at e;cases e;exact(hok' b _ (a b _ q)).1
 slot:=λb o e n d nx=>by
  cases q:cs.lookup b with
  | none=>exact u.slot b o e (by rw[dw q];exact n) d nx
  | some o'=>
   rw[g b o' q]at e;cases e;exact⟨_,(hok' b _ (a b _ q)).1⟩
 free:=λb o e n nx=>by
  cases q:cs.lookup b with
  | none=>rw[c6 q];exact u.free b o e (by rw[dw q];exact n) nx
  | some o'=>exact il q
 there:=u.there
 tups:=λb xs e=>by
  cases q:cs.lookup b with
  | none=>rw[c6 q];exact u.tups b xs (by rw[dw q];exact e)
  | some o'=>rw[c b o' q]at e;cases e
 frzs:=λb o x e=>by
  cases q:cs.lookup b with
  | none=>rw[c6 q];exact u.frzs b o x (by rw[dw q];exact e)
  | some o'=>rw[c b o' q]at e;cases e
 tbls:=λb ps e=>by
  cases q:cs.lookup b with
  | none=>rw[c6 q];exact u.tbls b ps (by rw[dw q];exact e)
  | some o'=>rw[c b o' q]at e;cases e
def xm(u:Un fs ex (a9 cs H) H' h h')(a:∀b o,cs.lookup b=Vn o->H b=Vn (dG b o)):Un fs ex H (bQ cs H') h h' where
 keep:=λb o e n c nx=>by
  cases q:cs.lookup b with
  | none=>exact u.keep b o e (by rw[c6 q];exact n) c nx
  | some o'=>rw[a b o' q]at n;cases n
 slot:=λb o e n c nx=>by
  cases q:cs.lookup b with
  | none=>exact u.slot b o e (by rw[c6 q];exact n) c nx
  | some o'=>rw[a b o' q]at n;cases n
 free:=λb o e n nx=>by
  cases q:cs.lookup b with
  | none=>rw[dw q];exact u.free b o e (by rw[c6 q];exact n) nx
  | some o'=>rw[a b o' q]at n;cases n
 there:=u.there
 tups:=λb xs e=>by
  cases q:cs.lookup b with
  | none=>rw[dw q];exact u.tups b xs (by rw[c6 q];exact e)
  | some o'=>rw[a b o' q]at e;cases e
 frzs:=λb o x e=>by
  cases q:cs.lookup b with
  | none=>rw[dw q];exact u.frzs b o x (by rw[c6 q];exact e)
  | some o'=>rw[a b o' q]at e;cases e
 tbls:=λb ps e=>by
  cases q:cs.lookup b with
  | none=>rw[dw q];exact u.tbls b ps (by rw[c6 q];exact e)
  | some o'=>rw[a b o' q]at e;cases e
end
structure FunR(P:Vd)(w:Ve)(K:Eo)(mg:Vm->Option Va)(base:Vh)(k:Nat)(f:Vb)(pre:Hp->Prop)(R:List V->Hp->VK->Prop):Prop where
 at_:∀H h,bq P w H h->pre H->PySem.W.FnAt f h
 run:∀(A:Vi) (outer:List Env) (s:Vc) (H:Hp) (us:List Va) (vs:List V) (Q:VK),Room k A->Env0 P w K mg base A outer s H->pre H->Vals vs us->R vs H Q ->
  codeAny (Vg P w) A (.call (.ref f) ⟨us,[]⟩) (CR dv outer P w H s Q E0) s
def pV(P:Vd)(w:Ve)(K:Eo)(mg:Vm->Option Va)(base:Vh)(k:Nat)(a:TE)(ta:TA):TE:=λσ H Q=>a σ H λb H1=>∃f pre R,b=.ref f/\FunR P w K mg base k f pre R/\pre H1/\ta σ H1 λvs H2=>pre H2/\R vs H2 Q
def wm{K:Eo}{k:Nat}{x:Vm}{p pos:Pos}{e:Vk}{es:List Vk}{g:TE}{ta:TA}{i:Vi}(l:Room k i)(m:PE X (.Name x p) g)(ha:PA X (e::es) ta)(hA:X.A=i:=by rfl)(n:X.prog=P:=by rfl)(o:X.w=w:=by rfl)(q:X.K=K:=by rfl)(y:X.mg=mg:=by rfl)(z:X.base=base:=by rfl)
  (B:starEach (e::es) X.env=(false,eval e X.env)::starEach es X.env:=by rfl) (c:(backTo pos (starEach es X.env)).any (·.1)=false:=by rfl):PE X (.Call (.Name x p) (e::es) [] pos) (pV P w K mg base k g ta):=by
 subst hA;subst n;subst o;subst q;subst y;subst z;intro pins s σ H Q I h;refine wpAny_Call_Name_kw (aH (m pins s σ H _ I h) λL s1 ⟨v,H1,j,r1,⟨f,pre,R,ev,F,C,E⟩⟩=>?_);subst ev;cases r1;refine PySem.W.callWith_F (first:=[]) (F.at_ _ _ j.hok C) (aH (ha pos pins s1 σ H1 _ j E) λus s2 ⟨vs,H2,d,G,⟨a,J⟩⟩=>?_) B c;refine⟨F.at_ _ _ d.hok a,?_⟩;refine wpAny_call (codeAny_mono (F.run X.A X.stack s2 H2 us vs Q l d.env0 a G J) λr s' b=>?_);cases r with
 | error e=>exact False.elim b
 | ok fl=>
  cases fl with
  | ret u=>exact d.after b
  | next=>exact False.elim b
  | brk=>exact False.elim b
  | cont=>exact False.elim b
structure Cap where
 n:Vm
 c:Vb
 o:Obj
 v:V
abbrev cellsOf(cp:List Cap):List (Vb×Obj):=cp.map λe=>(e.c,e.o)
structure CapAt(X:Cx)(σ:St)(h:Vh)(js:List Nat)(cp:List Cap):Prop where
 len:cp.length=js.length
 at_:∀(i j:Nat) (e:Cap),js[i]?=Vn j->cp[i]?=Vn e->X.N[j]?=Vn e.n/\X.env.cells.lookup e.n=Vn e.c/\σ[j]?=Vn (Vn e.v)/\h.get? e.c=Vn e.o/\∃u,e.o.data=.cell (Vn u)/\RelV e.v u
def g9{cp:List Cap}{b:Vb}(h:(cellsOf cp).lookup b=Vn o):∃e∈cp,e.c=b/\e.o=o:=by
 have a:(b,o)∈cellsOf cp:=by
  have go:∀{l:List (Vb×Obj)},l.lookup b=Vn o->(b,o)∈l:=by
   intro l;induction l with
   | nil=>intro h;cases h
   | cons x r d=>
    intro h;obtain⟨y,z⟩:=x;rw[Fj]at h;cases hb:b == y with
    | true=>rw[hb]at h;cases h;rw[beq_iff_eq.mp hb];exact EC
    | false=>rw[hb]at h;exact Ez _ (d h)
  exact go h
 obtain⟨e,g,eq⟩:=List.mem_map.mp a;cases eq;exact⟨e,g,rfl,rfl⟩
def By{cp:List Cap}{e:Cap}(h:e∈cp):∃o,(cellsOf cp).lookup e.c=Vn o:=by
 induction cp with
 | nil=>cases h
 | cons x r a=>
  show ∃o,List.lookup e.c ((x.c,x.o)::cellsOf r)=Vn o;rw[Fj];cases hb:e.c == x.c with
  | true=>exact⟨_,rfl⟩
  | false=>
   rcases EK.mp h with rfl|h
   .simp at hb
   .exact a h
def kD(sc:Scope)(N:List Vm)(js:List Nat):Bool:=js.all λj=>decide (j<N.length) && (sc.names.lookup (N.getD j "") == Vn .cell)
section
variable {X:Cx} {pins:List (Vb×Obj)} {σ:St} {H:Hp} {s:Vc}
theorem Inv.capAt(I:Inv X pins σ H s):∀{js:List Nat},kD X.env.scope X.N js=true->(∀j∈js,∃v,σ[j]?=Vn (Vn v))->∃cp,CapAt X σ s.heap js cp
 | [],_,_=>⟨[],rfl,λi j e h=>by simp at h⟩
 | j::js,q,g=>by
  have a:(decide (j<X.N.length) && (X.env.scope.names.lookup (X.N.getD j "") == Vn .cell))=true/\kD X.env.scope X.N js=true:=by simpa[kD]using q
  obtain⟨cp,b⟩:=I.capAt (js:=js) a.2 λi hi=>g i (Ez _ hi);obtain⟨v,ev⟩:=g j EC;have h1:=a.1;simp only[E9,decide_eq_true_eq,beq_iff_eq]at h1;have n:X.N[j]?=Vn (X.N.getD j ""):=by rw[List.getD_eq_getElem?_getD,Ex h1.1];rfl
  obtain⟨m,y,w⟩:=I.loc;obtain⟨u,r,l⟩:=w j _ v n ev (.inr (.inl h1.2));rcases l with⟨z,_⟩|⟨_,c,x,o,ho,hd⟩
  .have p:X.env.scope.names.lookup (X.N.getD j "")=Vn .local:=z;rw[h1.2]at p;cases p
  .refine⟨⟨X.N.getD j "",c,o,v⟩::cp,by simp[b.len],λi k e h2 d=>?_⟩;cases i with
   | zero=>
    cases h2;cases d;exact⟨n,x,ev,ho,u,hd,r⟩
   | succ i=>
    simp at h2 d;exact b.at_ i k e h2 d
def CapAt.mem{cp:List Cap}(C:CapAt X σ h js cp){e:Cap}(a:e∈cp):X.env.cells.lookup e.n=Vn e.c/\h.get? e.c=Vn e.o/\∃u,e.o.data=.cell (Vn u)/\RelV e.v u:=by
 obtain⟨i,hi⟩:=Fi a;have b:i<js.length:=by rw[<-C.len];exact(EE.mp hi).1
 obtain⟨_,h2,_,d,g⟩:=C.at_ i _ e (Ex b) hi;exact⟨h2,d,g⟩
def CQ{k:Nat}{f:Vb}{Q:VK}{vs:List V}{cp:List Cap}(F:FnOk X.prog X.w X.K X.mg X.base dv k f fd ps sp)(y:Room k X.A)(hb:Binds X.K fd ps [])
  (I:Inv X pins σ H s) (C:CapAt X σ s.heap js cp) (hfn:∀e∈cp,X.fn e.n=true) (r:Vals vs us)
  (h:sp vs (bQ (cellsOf cp) H) (λv H'=>(∀b o,(cellsOf cp).lookup b=Vn o->H' b=Vn (dG b o))/\Q v (a9 (cellsOf cp) H')) E0):Vf (Vg X.prog X.w) X.A (call (.ref f) us) (EP X pins σ Q) X.xe s:=by
 have l:∀b o,(cellsOf cp).lookup b=Vn o->s.heap.get? b=Vn o:=λb o e=>by obtain⟨x,c,rfl,rfl⟩:=g9 e;exact(C.mem c).2.1
 have p:∀b o,(cellsOf cp).lookup b=Vn o->H b=Vo:=λb o e=>by obtain⟨x,c,rfl,rfl⟩:=g9 e;exact I.freeC _ _ (C.mem c).1
 have hab:∀b o,(cellsOf cp).lookup b=Vn o->X.s₀.heap.objs.size<=b:=λb o e=>by obtain⟨x,c,rfl,rfl⟩:=g9 e;exact I.ok.cab _ _ (hfn x c) (C.mem c).1
 have a:=I.env0;have B:Env0 X.prog X.w X.K X.mg X.base X.A X.stack s (bQ (cellsOf cp) H):=by
  refine⟨a.frames,a.mod,λb o e=>⟨(a.bs b o e).1,?_⟩,a.bsz,a.funs,λb d=>?_,rQ a.hok l p,a.bare⟩
  .cases q:(cellsOf cp).lookup b with
   | none=>rw[dw q];exact(a.bs b o e).2
   | some o'=>exact absurd (E3 (Es (I.ok.bs b o e).1) (hab b o' q)) (Nat.lt_irrefl _)
  .cases q:(cellsOf cp).lookup b with
   | none=>rw[dw q];exact a.frf b d
   | some o'=>
    exfalso;rcases EK.mp (I.stkSub b d)with z|z
    .obtain⟨m,⟨E,es,ep,ho,hd,_⟩,_⟩:=I.loc;obtain⟨x,c,rfl,rfl⟩:=g9 q;obtain⟨_,g,u,G,_⟩:=C.mem c;rw[<-z,g]at ho;cases ho;rw[G]at hd;cases hd
    .obtain⟨_,E,ho,_⟩:=I.ok.funs.mem z;exact absurd (E3 (Es ho) (hab b o' q)) (Nat.lt_irrefl _)
 have J:us.length=ps.length:=by rw[<-r.length];exact F.len _ _ _ _ h
 refine wpAny_call (codeAny_mono (F.run X.A X.stack s (bQ (cellsOf cp) H) ⟨us,[]⟩ us vs _ E0 y B (by have:=hb s us I.kIn (by simpa using J);rw[List.append_nil]at this;exact this) r h) λr s' i=>?_);cases r with
 | error e=>exact False.elim i
 | ok fl=>
  cases fl with
  | ret u=>
   obtain⟨v,H',os,bare,un,hok,L,j,q⟩:=i;exact I.after ⟨v,a9 (cellsOf cp) H',os,bare,D0 un hok l p j,oO hok j,L,q⟩
  | next=>exact False.elim i
  | brk=>exact False.elim i
  | cont=>exact False.elim i
def jL(sp:Sp)(js:List Nat)(cells:List (Vm×Vb))(N:List Vm)(ta:TA):TE:=λσ H Q=>ta σ H λvs H1=>(∀j∈js,∃v,σ[j]?=Vn (Vn v)) ∧
 ∀cp:List Cap,cp.length=js.length->(∀(i j:Nat) (e:Cap),js[i]?=Vn j->cp[i]?=Vn e->N[j]?=Vn e.n/\cells.lookup e.n=Vn e.c/\σ[j]?=Vn (Vn e.v)/\H1 e.c=Vo/\∃u,e.o.data=.cell (Vn u)/\RelV e.v u) ->
  sp vs (bQ (cellsOf cp) H1) (λv H'=>(∀b o,(cellsOf cp).lookup b=Vn o->H' b=Vn (dG b o))/\Q v (a9 (cellsOf cp) H')) E0
def mW{x:Vm}{k j:Nat}{e:Vk}{es:List Vk}{t:TA}{p pos:Pos}(js:List Nat)(C:Cal X.prog X.w X.K X.mg X.base x j ps sp)(m:Room k X.A)(ha:PA X (e::es) t)(c:j<=k:=by decide)(n:Gl X x:=by rfl)(d:(x == ("__debug__":Vm))=false:=by decide)
  (o:kD X.env.scope X.N js=true:=by rfl) (hfn:∀y,X.fn y=true:=by intro _;rfl)
  (u:starEach (e::es) X.env=(false,eval e X.env)::starEach es X.env:=by rfl) (g:(backTo pos (starEach es X.env)).any (·.1)=false:=by rfl) :
  PE X (.Call (.Name x p) (e::es) [] pos) (jL sp js X.env.cells X.N t):=by
 obtain⟨f,fd,v,z,hb,F⟩:=C.ex;intro pins s σ H Q I h;refine wpAny_Call_Name_kw (jT I n v ?_ d);refine PySem.W.callWith_K (h₀:=X.base) I.ok.mod.kin z (aH (ha pos pins s σ H _ I h) λus s1 ⟨vs,H1,b,r,B,q⟩=>⟨b.kIn,?_⟩) u g;obtain⟨cp,a⟩:=b.capAt o B;refine CQ F (m.mono c) hb b a (λe _=>hfn _) r (q cp a.len λi j e h1 h2=>?_);obtain⟨E,l,G,_,J⟩:=a.at_ i j e h1 h2;exact⟨E,l,G,b.freeC _ _ l,J⟩
end
def ft(f c:Vb)(q:Vm)(params:Arguments)(body:Vk)(scope:Scope)(cl:List (Vm×Vb)):HO:=.ext λh=>∃pm a,h.get? f=Vn (PySem.W.kla_obj "<lambda>" q params body scope cl pm c a)
def rD{f:Vb}{q:Vm}{d:Va}(r:h.get? f=Vn (PySem.W.kla_obj "<lambda>" q params body scope cl pm c d)):bC P w H h f (ft f c q params body scope cl):=
 ⟨⟨pm,d,r⟩,⟨_,r⟩,λh1 h2 ⟨a,b,g⟩ k=>⟨a,b,k _ g⟩⟩
def jk(sc:Scope):Bool:=sc.names.all λp=>sc.names.lookup p.1 == Vn p.2
def mE(sc out:Scope):Bool:=sc.names.all λp=>p.2 != .free || out.names.lookup p.1 == Vn .cell || out.names.lookup p.1 == Vn .free
def uC(h:jk sc=true)(a:p∈sc.names):sc.names.lookup p.1=Vn p.2:=by simpa using E6.mp h p a
def sh(h:mE sc out=true)(a:p∈sc.names)(b:p.2=.free):out.names.lookup p.1=Vn .cell\/out.names.lookup p.1=Vn .free:=by have:=E6.mp h p a;simp[b]at this;exact this
structure ClOk(sc:Scope)(cells cl:List (Vm×Vb)):Prop where
 one:jk sc=true
 fr:∀x c,cl.lookup x=Vn c->sc.names.lookup x=Vn .free/\cells.lookup x=Vn c
 has:∀x,sc.names.lookup x=Vn .free->∃c,cl.lookup x=Vn c
 inj:∀x y c,cl.lookup x=Vn c->cl.lookup y=Vn c->x=y
def DL(ok:X.Ok)(hsc:jk sc=true)(ho:mE sc X.env.scope=true):ClOk sc X.env.cells (dA sc.names X.env.cells):=by
 have fr:∀x c,(dA sc.names X.env.cells).lookup x=Vn c->sc.names.lookup x=Vn .free/\X.env.cells.lookup x=Vn c:=λx c h=>by
  rcases kN X.env.cells sc.names [] x c h with⟨h1,h2⟩|h1
  .obtain⟨d,hd⟩:=ok.has x (sh ho h1 rfl);refine⟨uC hsc h1,?_⟩;rw[hd]at h2 ⊢;rw[h2];rfl
  .simp at h1
 exact⟨hsc,fr,λx h=>wI (iX h),λx y c h1 h2=>ok.inj x y c (fr x c h1).2 (fr y c h2).2⟩
section
variable {X:Cx} {pins:List (Vb×Obj)} {σ:St} {H:Hp} {s:Vc}
def zt{P f:Vb}{ps more:Array Va}{q:Vm}{j:Va}{tk:Nat}(I:Inv X pins σ H s)(h:H P=Vn (.tbl ps))(b:Heap.ExtBut P s.heap h')(k:s.heap.objs.size<=c)(i:c<f)(w:h'.get? P=Vn { cls:=.none,data:=.fields (ps++more) })
  (B:h'.CodeRec (.ref c) q) (C:h'.get? f=Vn (PySem.W.kla_obj "<lambda>" q params body scope cl pm c j)) :
  Inv X pins σ (upd (upd (upd H P (.tbl (ps++more))) c (gq c q)) f (ft f c q params body scope cl)) { s with heap:=h',toks:=tk }:=by
 have x:@LE.le Nat _ s.heap.objs.size f:=E4 k (Nat.le_of_lt i);have l:H c=Vo:=I.hok.fresh k;have m:H f=Vo:=I.hok.fresh x;have G:f≠c:=Nat.ne_of_gt i;have E:c≠P:=λz=>by rw[z,h]at l;cases l
 have F:f≠P:=λz=>by rw[z,h]at m;cases m
 have old:∀b o,H b=Vn o->b≠P->upd (upd (upd H P (.tbl (ps++more))) c (gq c q)) f (ft f c q params body scope cl) b=Vn o:=λb o e n=>by rw[aF (b0 e m),aF (b0 e l),aF n];exact e
 have p:∀b,H b=Vo->b≠P:=λb e z=>by rw[z,h]at e;cases e
 refine I.un ⟨λa o e n _ _=>b a o (p a n) e,λa o e n _ _=>⟨o.slots,b a o (p a n) e⟩,λa o e n _=>?_,λa o e _=>?_,λa xs e=>old a _ e (λz=>by rw[z,h]at e;cases e),λa o u e=>old a _ e (λz=>by rw[z,h]at e;cases e),λa qs e=>?_⟩ λa u e=>?_
 .have lt:@LT.lt Nat _ a s.heap.objs.size:=Es e;rw[aF (EO (E3 lt x)),aF (EO (E3 lt k)),aF (p a n)];exact n
 .by_cases z:a=P
  .rw[z];exact⟨_,w⟩
  .exact⟨o,b a o z e⟩
 .by_cases z:a=P
  .subst z;rw[h]at e;cases e;exact⟨more,by rw[aF (Ne.symm F),aF (Ne.symm E),aK]⟩
  .exact⟨#[],by rw[old a _ e z];simp⟩
 .by_cases z:a=f
  .subst z;rw[aK]at e;cases e;exact rD C
  .rw[aF z]at e;by_cases A:a=c
   .subst A;rw[aK]at e;cases e;exact xA B
   .rw[aF A]at e;by_cases r:a=P
    .subst r;rw[aK]at e;cases e;exact w
    .rw[aF r]at e;refine(I.hok a u e).stay (λd v hd g=>b d v ?_ g) (λd hd=>old d _ hd (λy=>by rw[y,h]at hd;cases hd)) λd xs hd=>old d _ hd (λy=>by rw[y,h]at hd;cases hd);rcases hd with rfl|hd
     .exact r
     .exact λy=>by rw[y,h]at hd;cases hd
end
def nQ(P:Vb)(pos:Pos)(q:Vm)(params:Arguments)(body:Vk)(scope:Scope)(cells:List (Vm×Vb))(H:Hp)(Q:VK):Prop:=∀cl,ClOk scope cells cl ->
 (H P=Vn (.tbl #[])/\∀f c,H c=Vo->H f=Vo->c≠P->f≠P->f≠c->Q (.ref f) (upd (upd (upd H P (.tbl #[rawInt pos.line,rawInt pos.col,.ref c])) c (gq c q)) f (ft f c q params body scope cl))) ∨
 ∃c,H P=Vn (.tbl #[rawInt pos.line,rawInt pos.col,.ref c])/\H c=Vn (gq c q)/\∀f,H f=Vo->Q (.ref f) (upd H f (ft f c q params body scope cl))
def qO(P:Vb)(pos:Pos)(q:Vm)(params:Arguments)(body:Vk)(scope:Scope)(cells:List (Vm×Vb)):TE:=λ_ H Q=>nQ P pos q params body scope cells H Q
def ng{pos:Pos}{P:Vb}(a:X.env.code=.ref c)(g:X.env.globals=Vj)(C:PySem.W.CodeHd X.base c P)(B:X.base.BuiltinsAt X.mg P)(m:Vj≠P)(hsc:jk scope=true)(d:mE scope X.env.scope=true)
  (u:params.defaults=[]) (v:params.kw_defaults=[]):PE X (.Lambda params body scope pos) (qO P pos (X.env.qual ++ "<lambda>") params body scope X.env.cells):=by
 intro pins s σ H Q I h;rw[arm_eval_Lambda,PySem.defaultsOf_eq,v,u];refine Em (En (Em (wpAny_holding (En ?_))));have hcl:closureFor scope X.env=pure (dA scope.names X.env.cells):=nU λp E j=>I.ok.has p.1 (sh d E j);have h:=h _ (DL I.ok hsc d);have y:PySem.W.CodeHd s.heap c P:=C.keeps λb o e=>(I.bs b o e).1;have z:s.heap.Ns Vj X.mg:=by obtain⟨o,es,ep,e,r⟩:=I.ok.mod.glob;exact⟨o,es,ep,(I.bs _ _ e).1,r⟩
 have hb:s.heap.BuiltinsAt X.mg P:=by obtain⟨bm,o,F,G,L,M,N,O⟩:=B;exact⟨bm,o,F,G,L,M,(I.bs _ _ N).1,O⟩
 rcases h with⟨k,q⟩|⟨c',k,R,q⟩
 .have l:s.heap.get? P=Vn (PySem.W.tabObj #[]):=I.hok P _ k;refine PySem.W.kla_makeFunction hcl g z a y l trivial rfl m hb λc' i h' tk w hge hlt hrec x=>?_;have S:H c'=Vo:=I.hok.fresh hge;have j:@LE.le Nat _ s.heap.objs.size h'.objs.size:=E4 hge (Nat.le_of_lt hlt);have T:H h'.objs.size=Vo:=I.hok.fresh j;have A:@LT.lt Nat _ P s.heap.objs.size:=Es l;have J:=zt (cl:=dA scope.names X.env.cells) (tk:=tk) (f:=h'.objs.size) (h':=h'.push (PySem.W.kla_obj "<lambda>" (X.env.qual ++ "<lambda>") params body scope (dA scope.names X.env.cells) ((X.mg "__name__").getD .none) c' i)) (more:=#[rawInt pos.line,rawInt pos.col,.ref c']) I k (λb o n e=>Ep _ (w b o n e)) hge hlt (Ep _ x) (hrec.push _) (Er _ rfl);rw[Array.empty_append]at J;exact⟨.ref h'.objs.size,_,J,rfl,q _ c' S T (Nat.ne_of_gt (E3 A hge)) (Nat.ne_of_gt (E3 A j)) (Nat.ne_of_gt hlt)⟩
 .have l:s.heap.get? P=Vn (PySem.W.tabObj #[rawInt pos.line,rawInt pos.col,.ref c']):=I.hok P _ k;refine PySem.W.kla_makeFunctionHit (cv:=.ref c') hcl g z a y l trivial (by simp[codeAmong,rawInt]) hb λi h' tk w hge=>?_;exact⟨.ref h'.objs.size,_,I.laid (t':=tk) (o:=ft h'.objs.size c' (X.env.qual ++ "<lambda>") params body scope (dA scope.names X.env.cells)) (λb o e=>Ep _ (w b o e)) hge (rD (Er _ rfl)),rfl,q _ (I.hok.fresh hge)⟩
def mC{K:Eo}{x q:Vm}{Q:VK}{T:Vb}{pos:Pos}(u:eC K x q pos.line pos.col H)(e:PySem.W.tabIn K x=Vn (c,T))
  (h:∀f c' cl H',ClOk scope cells cl->Et H H'->eC K x q pos.line pos.col H'->(∀y l m k2,(∀d a,PySem.W.tabIn K y=Vn (d,a)->a≠T)->eC K y l m k2 H->eC K y l m k2 H')->H' f=Vn (ft f c' q params body scope cl)->H' c'=Vn (gq c' q)->Q (.ref f) H'):nQ T pos q params body scope cells H Q:=by
 intro cl hcl;rcases u c T e with j|⟨c',j,k⟩
 .refine .inl ⟨j,λf c' A p B C v=>?_⟩;have old:∀b o,H b=Vn o->b≠T->upd (upd (upd H T (.tbl #[rawInt pos.line,rawInt pos.col,.ref c'])) c' (gq c' q)) f (ft f c' q params body scope cl) b=Vn o:=λb o hb n=>by rw[aF (b0 hb p),aF (b0 hb A),aF n];exact hb
  refine h f c' cl _ hcl (λb o hb n=>old b o hb λz=>by rw[z,j]at hb;cases hb;exact n _ rfl) (λd a i=>.inr ⟨c',?_,?_⟩) (λy l m k2 w r d a i=>?_) aK ?_
  .rw[e]at i;cases i;rw[aF (Ne.symm C),aF (Ne.symm B),aK]
  .rw[aF (Ne.symm v),aK]
  .rcases r d a i with g|⟨E,F,s⟩
   .exact .inl (old _ _ g (w d a i))
   .exact .inr ⟨E,old _ _ F (w d a i),old _ _ s λz=>by rw[z,j]at s;cases s⟩
  .rw[aF (Ne.symm v),aK]
 .refine .inr ⟨c',j,k,λf p=>?_⟩;have ex:Ext H (upd H f (ft f c' q params body scope cl)):=a8 p;exact h f c' cl _ hcl ex.et (eC.ext ex u) (λy l m k2 _ r=>r.ext ex) aK (ex _ _ k)
def lV{P:Vb}{pos:Pos}{q:Vm}{Q:VK}(h:nQ P pos q params body scope cells H Q):qO P pos q params body scope cells σ H Q:=h
theorem jQ{x:Vm}{c:Vb}:∀(names:List (Vm×NameKind)) (n:Nat) (a acc:List (Vm×Vb)),(cellsFrom n names (a++acc)).lookup x=Vn c->acc.lookup x=Vn c\/(cellsFrom n names a).lookup x=Vn c
 | [],_,a,acc,h=>by
  unfold cellsFrom at h ⊢;rw[List.lookup_append]at h;cases q:a.lookup x with
  | none=>rw[q]at h;exact .inl h
  | some d=>rw[q]at h;exact .inr h
 | (y,k)::r,n,a,acc,h=>by
  unfold cellsFrom at h ⊢;by_cases b:(k == NameKind.cell)=true
  .rw[Ft b]at h ⊢;exact jQ r (n+1) ((y,n)::a) acc h
  .rw[Fs b]at h ⊢;exact jQ r n a acc h
structure InL(s₀:Vc)(L:Vb)(m:Vm->Option Va)(own:List (Vm×Vb))(cm:Vm->Option Va)(s:Vc):Prop where
 same:∃h' tk,s={ s₀ with heap:=h',toks:=tk }
 ns:s.heap.Ns L m
 keep:∀b o,s₀.heap.get? b=Vn o->s.heap.get? b=Vn o
 fresh:s₀.heap.objs.size<=L
 cell:∀n c,own.lookup n=Vn c->s.heap.IsCell c (cm n)
 apart:own.Pairwise λx y=>x.2≠y.2
 above:∀n c,(n,c)∈own->L<c
section
variable {M:Model} {A:Vi} {E:Va->Vc->Prop} {s₀ s:Vc} {m cm:Vm->Option Va} {env:Env} {own:List (Vm×Vb)}
def InL.st{n:Vm}{v:Va}{Q:Unit->Vc->Prop}(x:InL s₀ env.locals m own cm s)(j:env.scope.kind=.function)(l:env.kindOf n=Vn .local)
  (h:∀s',InL s₀ env.locals (λy=>if y=n then Vn v else m y) own cm s'->Q () s'):Vf M A (storeName env n v) Q E s:=by
 refine wpAny_storeName_local l x.ns (λh' d a=>h _ ⟨?_,d,λb o e=>?_,x.fresh,λk c g=>?_,x.apart,x.above⟩) (by rw[j];rfl)
 .obtain⟨i,tk,rfl⟩:=x.same;exact⟨h',_,rfl⟩
 .exact a.extBut b o (EO (E3 (Es e) x.fresh)) (x.keep b o e)
 .exact(x.cell k c g).sameBut a (Nat.ne_of_gt (x.above k c (PySem.mem_of_lookup g)))
def InL.stC{n:Vm}{v:Va}{Q:Unit->Vc->Prop}(x:InL s₀ env.locals m own cm s)(p:env.scope.kind=.function)(q:env.kindOf n=Vn .cell)
  (r:env.cells.lookup n=Vn c) (ho:own.lookup n=Vn c)
  (h:∀s',InL s₀ env.locals m own (λy=>if y=n then Vn v else cm y) s'->Q () s'):Vf M A (storeName env n v) Q E s:=by
 have i:=x.above n c (PySem.mem_of_lookup ho);refine wpAny_storeName_cell p q r (x.cell n c ho) λh' j d=>h _ ⟨?_,x.ns.sameBut d (EO i),λb o e=>?_,x.fresh,λk c' a=>?_,x.apart,x.above⟩
 .obtain⟨l,tk,rfl⟩:=x.same;exact⟨h',_,rfl⟩
 .exact d.extBut b o (EO (Nat.lt_trans (E3 (Es e) x.fresh) i)) (x.keep b o e)
 .by_cases g:k=n
  .subst g;rw[ho]at a;cases a;simpa using j
  .rw[Fs g];exact(x.cell k c' a).sameBut d λe=>g (name_of_addr x.apart (PySem.mem_of_lookup a) (e ▸ PySem.mem_of_lookup ho))
theorem InL.binds(f:Vm×Va->PUnit->Sem (ForInStep PUnit))(i:∀n v u,f (n,v) u=(do storeName env n v;pure (.yield ⟨⟩)))(g:env.scope.kind=.function):
  ∀(binds:List (Vm×Va)) (m cm:Vm->Option Va) (s:Vc) (Q:PUnit->Vc->Prop),InL s₀ env.locals m own cm s ->
   (∀x∈binds,env.kindOf x.1=Vn .local\/(env.kindOf x.1=Vn .cell/\∃c,env.cells.lookup x.1=Vn c/\own.lookup x.1=Vn c)) ->
   (∀s',InL s₀ env.locals (bindL env.kindOf binds m) own (bindC env.kindOf binds cm) s'->Q ⟨⟩ s')->Vf M A (forIn binds ⟨⟩ f) Q E s
 | [],m,cm,s,Q,x,_,h=>by rw[List.forIn_nil];exact En (h s x)
 | (n,v)::r,m,cm,s,Q,x,hkind,h=>by
  rw[List.forIn_cons,i];have k:∀y∈r,env.kindOf y.1=Vn .local\/(env.kindOf y.1=Vn .cell/\∃c,env.cells.lookup y.1=Vn c/\own.lookup y.1=Vn c):=λy l=>hkind y (Ez _ l);rcases hkind (n,v) EC with d|⟨d,c,o,ho⟩
  .refine Em (Em (InL.st x g d λs' j=>En (InL.binds f i g r _ _ s' Q j k λa b=>h a ?_)));unfold bindL bindC;rw[Ft d,Ft d];exact b
  .have e:¬env.kindOf n=Vn .local:=by rw[d];decide
   refine Em (Em (InL.stC x g d o ho λs' j=>En (InL.binds f i g r _ _ s' Q j k λa b=>h a ?_)));unfold bindL bindC;rw[Fs e,Fs e];exact b
end
def fk(q:Vm)(scope:Scope)(L f:Vb)(cd:Va)(cl:List (Vm×Vb)):Env:=
 { scope:=scope,locals:=L,globals:=Vj,cells:=cellsFrom (L+1) scope.names cl,qual:=q ++ ".<locals>.",func:=Vn f,code:=cd,frame:=Vn L,builtins:=builtinsNs }
section
variable {M:Model} {A:Vi} {E:Va->Vc->Prop} {s:Vc}
def xN {scope : Scope} {cl : List (Vm × Vb)} {binds : List (Vm × Va)} {q : Vm} {f : Vb} {cd : Va} {Q : Env -> Vc -> Prop} (i : scope.kind = .function) (hsc : jk scope = true) (hcl : ∀ x c, cl.lookup x = Vn c -> scope.names.lookup x = Vn .free)
    (hkind : ∀ x ∈ binds, scope.names.lookup x.1 = Vn .local ∨ scope.names.lookup x.1 = Vn .cell)
    (j : ∀ s', InL s s.heap.objs.size (bindL (fk q scope s.heap.objs.size f cd cl).kindOf binds λ_ => Vo) (cellsFrom (s.heap.objs.size + 1) scope.names []) (bindC (fk q scope s.heap.objs.size f cd cl).kindOf binds λ_ => Vo) s' -> Q (fk q scope s.heap.objs.size f cd cl) s') :
    Vf M A (newFunctionEnv scope Vj cl binds (q ++ ".<locals>.") (Vn f) cd Vo builtinsNs) Q E s := by
  simp only [newFunctionEnv, Option.isSome_none, Fg, if_false];refine Em (wpAny_alloc ?_);refine Em (wpAny_layCells _ (λname kind cells => by cases d : kind == NameKind.cell <;> simp [d]) _ _ _ _ ?_);have ok := cellsFrom_ok scope.names (s.heap.push { cls := .type "frame", data := .dict #[] }) (s.heap.objs.size + 1) [] ⟨λ_ _ g => (nomatch g), List.Pairwise.nil⟩ (by rw [Heap.size_push]; exact ER _);rw [Heap.size_push] at ok;rw [show ({ s with heap := s.heap.push { cls := .type "frame", data := .dict #[] } } : Vc).heap.objs.size = s.heap.objs.size + 1 from Heap.size_push ..];refine Em (InL.binds (s₀ := s) (env := fk q scope s.heap.objs.size f cd cl) (own := cellsFrom (s.heap.objs.size + 1) scope.names [])
    _ (λ_ _ _ => rfl) i binds (λ_ => Vo) (λ_ => Vo) _ _
    ⟨⟨_, _, rfl⟩, (Heap.Ns.new s.heap (.type "frame")).keeps (pushCells_keeps _ _), λb o e => pushCells_keeps _ _ b o (Ep _ e), ER _,
      λn c a => (ok.empty n c (PySem.mem_of_lookup a)).1, ok.apart, λn c g => (ok.empty n c g).2⟩
    (λx k => ?_) λs' x => En (j s' x))
  rcases hkind x k with h|h
  . exact .inl h
  . obtain ⟨c, a⟩ := Option.isSome_iff_exists.mp (PySem.W.cellsFrom_some scope.names (s.heap.objs.size + 1) cl (.inl h))
    rcases jQ scope.names (s.heap.objs.size + 1) [] cl a with h2|h2
    . rw [hcl _ _ h2] at h; cases h
    . exact .inr ⟨h, c, a, h2⟩
end
def jt(P:Vd)(w:Ve)(K:Eo)(mg:Vm->Option Va)(base:Vh)(N:List Vm)(q:Vm)(scope:Scope)(f:Vb)(cd:Va)(cl:List (Vm×Vb))(A:Vi)(outer:List Env)(s:Vc)(H:Hp):Cx where
 prog:=P
 w:=w
 K:=K
 mg:=mg
 base:=base
 A:=A.deeper (fk q scope s.heap.objs.size f cd cl)
 N:=N
 s₀:=s
 H₀:=H
 env:=fk q scope s.heap.objs.size f cd cl
 outer:=outer
 stack:=fk q scope s.heap.objs.size f cd cl::outer
 ex:=[]
 calm:=true
 fn:=λx=>scope.names.lookup x == Vn .cell
 pn:=[]
 xe:=λ_ _=>False
structure Caps(H:Hp)(cl:List (Vm×Vb))(cp:List Cap):Prop where
 at_:∀e∈cp,cl.lookup e.n=Vn e.c/\H e.c=Vn (dG e.c e.o)/\∃u,e.o.data=.cell (Vn u)/\RelV e.v u
 all:∀x c,cl.lookup x=Vn c->∃e∈cp,e.n=x/\e.c=c
def Caps.ext(e:Ext H H'){cp:List Cap}(h:Caps H cl cp):Caps H' cl cp:=⟨λx a=>⟨(h.at_ x a).1,e _ _ (h.at_ x a).2.1,(h.at_ x a).2.2⟩,h.all⟩
def Caps.look{cp:List Cap}(h:Caps H cl cp):∀b o,(cellsOf cp).lookup b=Vn o->H b=Vn (dG b o):=λb o e=>by obtain⟨x,a,rfl,rfl⟩:=g9 e;exact(h.at_ x a).2.1
structure LamSc(ps:List Vm)(sc:Scope):Prop where
 kind:sc.kind=.function
 co:sc.isCoroutine=false
 gen:sc.isGenerator=false
 nd:ps.Nodup
 par:∀x∈ps,sc.names.lookup x=Vn .local\/sc.names.lookup x=Vn .cell
theorem zS{K:Eo}{q:Vm}{f:Vb}{cd:Va}{cp:List Cap}{outer:List Env}{s1:Vc}{vs:List V}
  (S:LamSc ps scope) (C:ClOk scope cells cl) (d:Caps H cl cp) (hd:A.handled=Vo) (l:Env0 P w K mg base A outer s H) (O:vs.length=ps.length) (r:Vals vs us)
  (x:InL s s.heap.objs.size (bindL (fk q scope s.heap.objs.size f cd cl).kindOf (ps.zip us) λ_=>Vo) (cellsFrom (s.heap.objs.size+1) scope.names []) (bindC (fk q scope s.heap.objs.size f cd cl).kindOf (ps.zip us) λ_=>Vo) s1) :
  Inv (jt P w K mg base (ps++cp.map (·.n)) q scope f cd cl A outer s (a9 (cellsOf cp) H)) [] (vs.map Vn++cp.map λe=>Vn e.v) (a9 (cellsOf cp) H) s1:=by
 obtain⟨h1,tk,rfl⟩:=x.same;have L:=x.keep;have noA:∀b:Vb,b∉(jt P w K mg base (ps++cp.map (·.n)) q scope f cd cl A outer s (a9 (cellsOf cp) H)).ex:=λb z=>absurd (show b∈([]:List Vb)from z) (by simp);have nn:∀b,H b=Vo->a9 (cellsOf cp) H b=Vo:=λb hb=>by
  cases z:(cellsOf cp).lookup b with
  | none=>rw[c6 z];exact hb
  | some o=>exact il z
 have obj:∀e∈cp,s.heap.get? e.c=Vn e.o:=λe m=>(l.hok _ _ (d.at_ e m).2.1).1;have clt:∀y c,cl.lookup y=Vn c->@LT.lt Nat _ c s.heap.objs.size:=λy c h=>by obtain⟨e,m,_,rfl⟩:=d.all y c h;exact Es (obj e m)
 have F:∀y c,cl.lookup y=Vn c->a9 (cellsOf cp) H c=Vo:=λy c h=>by obtain⟨e,m,_,rfl⟩:=d.all y c h;obtain⟨o,ho⟩:=By m;exact il ho
 have G:∀y,scope.names.lookup y=Vn .free->∃c,cl.lookup y=Vn c/\(cellsFrom (s.heap.objs.size+1) scope.names cl).lookup y=Vn c:=λy g=>by
  obtain⟨c,I⟩:=C.has y g;obtain⟨c',B⟩:=Option.isSome_iff_exists.mp (PySem.W.cellsFrom_some scope.names (s.heap.objs.size+1) cl (x:=y) (.inr (by rw[I];rfl)));rcases ik _ _ _ B with h|⟨_,h⟩
  .rw[I]at h;cases h;exact⟨c,I,B⟩
  .have:=uC C.one h;rw[g]at this;cases this
 refine⟨⟨l.mod,S.kind,rfl,rfl,ER _,λy z c h1 h2=>?_,λy g=>?_,λy c h I=>?_,λ_=>hd,Around.frames_deeper l.frames,.inr ⟨rfl,rfl⟩,λb z=>absurd z (noA b),λb o e=>⟨(l.bs b o e).1,nn b (l.bs b o e).2⟩,l.bsz,λb _ _=>noA b,λb z=>absurd z (noA b),l.funs,λb hb=>nn b (l.frf b hb)⟩,
  rfl,l.bare,Un.kept L,⟨_,x.ns,λi y v h1 h2 Z=>?_⟩,λy c h=>?_,nn _ (l.hok.fresh (ER _)),λy c h=>?_,λp J=>absurd (show p∈([]:List (Vb×Obj))from J) (by simp),(oO l.hok d.look).kept L,?_⟩
 .exact lF scope.names _ _ (λx c e=>Nat.lt_succ_of_lt (clt x c e)) C.inj h1 h2
 .have g:scope.names.lookup y=Vn .cell\/scope.names.lookup y=Vn .free:=g;rcases g with g|g
  .exact Option.isSome_iff_exists.mp (PySem.W.cellsFrom_some scope.names _ _ (.inl g))
  .obtain⟨c,_,h⟩:=G y g;exact⟨c,h⟩
 .have g:scope.names.lookup y=Vn .cell:=by simpa[jt]using h
  have B:(cellsFrom (s.heap.objs.size+1) scope.names cl).lookup y=Vn c:=I;rcases ik _ _ _ B with h2|⟨h2,_⟩
  .rw[(C.fr y c h2).1]at g;cases g
  .exact Nat.le_of_succ_le h2
 .by_cases hi:i<vs.length
  .have ha:vs[i]?=Vn v:=by
    rw[EW (by simpa using hi),Ey]at h2;cases e:vs[i]? with
    | none=>rw[e]at h2;cases h2
    | some a=>rw[e]at h2;cases h2;rfl
   obtain⟨u,E,M⟩:=r.get ha;have J:ps[i]?=Vn y:=by have j:(ps++cp.map (·.n))[i]?=Vn y:=h1;rw[EW (by lia)]at j;exact j
   refine⟨u,M,?_⟩;rcases S.par y (EF J)with k|k
   .exact .inl ⟨k,mx S.nd J E k⟩
   .obtain⟨c,e⟩:=Option.isSome_iff_exists.mp (PySem.W.cellsFrom_some scope.names (s.heap.objs.size+1) cl (.inl k));refine .inr ⟨.inl k,c,e,?_⟩;rcases jQ scope.names (s.heap.objs.size+1) [] cl e with N|N
    .rw[(C.fr y c N).1]at k;cases k
    .have Q:=x.cell y c N;rw[mS S.nd J E (by show scope.names.lookup y≠_;rw[k];decide)]at Q;exact Q
  .have j:(ps++cp.map (·.n))[i]?=Vn y:=h1;rw[EV (by lia),Ey]at j;rw[EV (by simpa using Nat.le_of_not_lt hi),Ew,Ey]at h2;rw[O]at h2;cases m:cp[i-ps.length]? with
   | none=>rw[m]at h2;cases h2
   | some e=>
    rw[m]at j h2;cases j;cases h2;have R:=EF m;obtain⟨T,a2,u,E,M⟩:=d.at_ e R;have U:=(C.fr _ _ T).1;obtain⟨c,X,Y⟩:=G e.n U;rw[T]at X;cases X;exact⟨u,M,.inr ⟨.inr U,e.c,Y,e.o,L _ _ (obj e R),E⟩⟩
 .have h':(cellsFrom (s.heap.objs.size+1) scope.names cl).lookup y=Vn c:=h;rcases jQ scope.names (s.heap.objs.size+1) [] cl h' with h2|h2
  .obtain⟨e,m,_,rfl⟩:=d.all y c h2;obtain⟨_,_,u,E,_⟩:=d.at_ e m;exact⟨Vn u,e.o,L _ _ (obj e m),E⟩
  .exact⟨_,x.cell y c h2⟩
 .have h':(cellsFrom (s.heap.objs.size+1) scope.names cl).lookup y=Vn c:=h;rcases ik _ _ _ h' with h2|⟨h2,_⟩
  .exact F y c h2
  .exact nn c (l.hok.fresh (Nat.le_of_succ_le h2))
 .show(vs.map Vn++cp.map λe=>Vn e.v).length=(ps++cp.map (·.n)).length;simp[O]
def iA(f c:Vb)(q:Vm)(params:Arguments)(body:Vk)(scope:Scope)(cl:List (Vm×Vb))(cp:List Cap)(H:Hp):Prop:=H f=Vn (ft f c q params body scope cl)/\H c=Vn (gq c q)/\Caps H cl cp
theorem iA.ext{H H':Hp}(e:Ext H H'){f c:Vb}{q:Vm}{params:Arguments}{body:Vk}{scope:Scope}{cl:List (Vm×Vb)}{cp:List Cap}(h:iA f c q params body scope cl cp H):iA f c q params body scope cl cp H':=⟨e _ _ h.1,e _ _ h.2.1,h.2.2.ext e⟩
def C2{K:Eo}{k:Nat}{f:Vb}{q:Vm}{cp:List Cap}{R:List V->Hp->VK->Prop}(I:Hp->Prop)
  (S:LamSc ps scope) (C:ClOk scope cells cl) (bind:∀(pm F d:Va) (us:List Va),us.length=ps.length->bindArgs (PySem.W.kla_fn "<lambda>" q params body scope cl pm F d) ⟨us,[]⟩=pure (ps.zip us))
  (G:∀vs H Q,R vs H Q->vs.length=ps.length)
  (g:∀(A:Vi) (outer:List Env) (s:Vc) (H:Hp) (vs:List V) (Q:VK),Room k (A.deeper (fk q scope s.heap.objs.size f (.ref c) cl))->iA f c q params body scope cl cp H->I H->R vs H Q ->
   ∃te,PE (jt P w K mg base (ps++cp.map (·.n)) q scope f (.ref c) cl A outer s (a9 (cellsOf cp) H)) body te/\te (vs.map Vn++cp.map λe=>Vn e.v) (a9 (cellsOf cp) H) λv H'=>(∀b o,(cellsOf cp).lookup b=Vn o->H' b=Vo)->Q v (bQ (cellsOf cp) H')) :
  FunR P w K mg base (k+1) f (λH=>iA f c q params body scope cl cp H/\I H) R:=by
 refine⟨λH h hok j=>?_,λA outer s H us vs Q m i j r B=>?_⟩
 .obtain⟨⟨pm,d,p⟩,_⟩:=hok f _ j.1.1;exact⟨_,_,_,_,p⟩
 .obtain⟨⟨L,M,a⟩,N⟩:=id j;obtain⟨⟨pm,d,p⟩,_⟩:=i.hok f _ L;obtain⟨O,_⟩:=i.hok c _ M;have lim:s.heap.NoLimit:=i.mod.nolimit.keeps λb o e=>(i.bs b o e).1;have E:=G vs H Q B;refine PySem.W.kla_callFunE m.depth p rfl S.co S.gen rfl O ?_;rw[bind _ _ _ us (by rw[<-r.length];exact E)];refine En ?_;refine xN (q:=q) (f:=f) (cd:=.ref c) S.kind C.one (λx c h=>(C.fr x c h).1) (λz T=>?_) λs1 z=>?_
  .exact S.par z.1 (List.of_mem_zip T).1
  refine⟨lim.keeps z.keep,PySem.W.kla_codeExpr ?_⟩;have J:=zS S C a m.hd i E r z;obtain⟨te,U,y⟩:=g A outer s H vs Q (m.deeper _) j.1 N B;refine wpAny_mono (U [] s1 _ _ _ J y) (λu s' ⟨v,H',l,X,Y⟩=>?_) λe s' hs=>hs.elim;have obj:∀b o,(cellsOf cp).lookup b=Vn o->s.heap.get? b=Vn o:=λb o e=>(i.hok _ _ (a.look b o e)).1;have nfs:∀b o,(cellsOf cp).lookup b=Vn o->b∉dH outer:=λb o e hb=>by have:=i.frf b hb;rw[a.look b o e]at this;cases this
  have un:Un (dH outer) [] (a9 (cellsOf cp) H) H' s.heap s'.heap:=l.base;exact⟨v,bQ (cellsOf cp) H',l.os,l.bare,xm un a.look,rQ l.hok (λb o e=>un.keep b o (obj b o e) (il e) (nfs b o e) (by simp)) (λb o e=>un.free b o (obj b o e) (il e) (by simp)),X,Y λb o e=>un.free b o (obj b o e) (il e) (by simp)⟩
section
variable {X:Cx}
def DU:V->List V->Hp->VK->Prop:=λx vs H Q=>∃(n:Nat) (p:Vb) (xs:List V) (a:V) (d:PyData) (ds:List PyData) (j:Nat),x=.ref p/\vs=[a]/\aX H n a d/\H p=Vn (.lst xs)/\Paired (aX H n) xs ds/\n<=50/\(∃e,ds[j]?=Vn e/\PyData.eqv e d=true)/\(∀m e,m<j->ds[m]?=Vn e->PyData.eqv e d=false)/\j<2 ^ 32/\Q (.int (j:Int)) H
theorem Bv{k:Nat}{r:Vi}(J:Room k r)(hA:X.A=r:=by rfl):m7 X "list.index" DU:=by
 subst hA;intro pins s σ H x xs v us Q I L M h;obtain⟨n,p,ys,a,d,ds,j,rfl,rfl,h1,h2,w,N,⟨e,z,O⟩,i,P,q⟩:=h;cases L;obtain⟨u,rfl,R⟩:=M.one;have S:aX H (n+1) (.ref p) (.list ds):=.inr ⟨p,ys,ds,rfl,.inr ⟨h2,rfl⟩,w⟩;obtain⟨as,T⟩:=aX.reads I n h1 R;obtain⟨bs,U⟩:=aX.reads I (n+1) S rfl;have B:=aX.lay n h1;have C:=jZ (λ{x d}=>aX.lay (H:=H) n) w;have hu:=J.units;have c:min (PyData.depthAll ds) d.depth<=50:=E4 (Nat.min_le_right _ _) (E4 B.2 N);obtain⟨_,b,nn,W,gt⟩:=I.hok p _ h2;cases U with
 | list E g2 Y G=>
  rw[gt]at E;cases E;cases Y;have mp:=SeqAt.readsAll_map ds _ _ C.1 G;have hlen:b.length=ds.length:=by rw[<-mp,Ew]
  have Z:j<ds.length:=(EE.mp z).1;have g:j<b.toArray.size:=by rw[EB];lia
  have hat:∀m (c:m<b.toArray.size),ds[m]?=Vn (SeqAt.readOf s.heap b.toArray[m]):=λm c=>by
   have l:m<b.length:=by simpa using c
   rw[<-mp,Ey];simp[l]
  refine call_meets PySem.F.slot_list_index ⟨_,gt,rfl⟩ PySem.F.entry_list_index (PySem.F.args_list_index_2 _ _) (SeqAt.list_indexAt p b.toArray nn Vo #[] u (λy=>PyData.eqv (SeqAt.readOf s.heap y) d) j g (by lia) ?_ ?_)
   ⟨gt,SeqAt.items_eqAt G T C.1 B.1 (by lia),?_⟩
  .have:=hat j g;rw[z]at this;cases this;exact O
  .intro m c o;exact i m _ o (hat m c)
  .exact⟨.int _,H,I.tok _,⟨_,rfl⟩,q⟩
end
end L2
namespace L2.Og.Tb
open PySem
def nx(m i:Nat):Nat:=(i*5+1) % (m+1)
def it(m:Nat):Nat->Nat->Nat
 | 0,i=>i
 | n+1,i=>it m n (nx m i)
theorem kJ(m:Nat):∀a b i,it m (a+b) i=it m b (it m a i)
 | 0,b,i=>by rw[Nat.zero_add];rfl
 | a+1,b,i=>by rw[Nat.succ_add];exact kJ m a b (nx m i)
def mz(m:Nat):Nat->Nat->List Nat
 | 0,_=>[]
 | n+1,i=>i::mz m n (nx m i)
theorem rd{m:Nat}:∀{n i j:Nat},j∈mz m n i->∃k,k<n/\it m k i=j
 | 0,_,_,h=>by cases h
 | n+1,i,j,h=>by
  rcases EK.mp h with rfl|h
  .exact⟨0,Nat.succ_pos _,rfl⟩
  .obtain⟨k,a,e⟩:=rd h;exact⟨k+1,Nat.succ_lt_succ a,e⟩
def good(m:Nat):Bool:=(Fo (m+1)).all (λj=>(mz m (m+1) 0).contains j) && it m (m+1) 0 == 0
def zB:good 7=true:=by decide +kernel
def CS:good 31=true:=by decide +kernel
def A7:good 127=true:=by decide +kernel
def Dc:good 511=true:=by decide +kernel
def Mask(m:Nat):Prop:=m=7\/m=31\/m=127\/m=511
theorem Mask.good{m:Nat}(h:Mask m):good m=true:=by
 rcases h with rfl|rfl|rfl|rfl
 .exact zB
 .exact CS
 .exact A7
 .exact Dc
theorem pU(h:Mask m){j:Nat}(a:j<=m):∃k,k<=m/\it m k 0=j:=by have:=h.good;unfold Tb.good at this;rw[E9,E6]at this;have h1:=this.1 j (List.mem_range.mpr (by lia));rw[List.contains_iff_mem]at h1;obtain⟨k,b,e⟩:=rd h1;exact⟨k,by lia,e⟩
def round0(h:Mask m):it m (m+1) 0=0:=by have:=h.good;unfold Tb.good at this;rw[E9]at this;exact eq_of_beq this.2
def reach(h:Mask m){i j:Nat}(hi:i<=m)(e:j<=m):∃k,k<=m/\it m k i=j:=by
 obtain⟨a,ha,c⟩:=pU h hi;obtain⟨b,hb,d⟩:=pU h e;rcases Fh b a with hlt|hge
 .refine⟨m+1-a+b,by omega,?_⟩;rw[<-c,<-kJ,show a+(m+1-a+b)=(m+1)+b by omega,kJ,round0 h];exact d
 .refine⟨b-a,by omega,?_⟩;rw[<-c,<-kJ,show a+(b-a)=b by omega];exact d
def lp(m:Nat):Nat->Nat×Nat->Nat×Nat
 | 0,s=>s
 | n+1,s=>lp m n (SetTable.leap m s.1 s.2)
theorem nY(m:Nat):∀n s,lp m (n+1) s=SetTable.leap m (lp m n s).1 (lp m n s).2
 | 0,s=>rfl
 | n+1,s=>by show lp m (n+1) (SetTable.leap m s.1 s.2)=_;rw[nY m n];rfl
theorem w6(m:Nat):∀n s,(lp m n s).2=s.2 / 32 ^ n
 | 0,s=>by simp[lp]
 | n+1,s=>by rw[nY m n s];show(lp m n s).2 / 32=_;rw[w6 m n s,Nat.div_div_eq_div_mul,Nat.pow_succ]
theorem si(m:Nat):∀n s,s.1<=m->(lp m n s).1<=m
 | 0,s,h=>h
 | n+1,s,h=>by rw[nY m n s];show(_ % (m+1))<=m;have:=Nat.mod_lt ((lp m n s).1*5+1+(lp m n s).2 / 32) (show 0<m+1 by lia);lia
theorem vk(m:Nat):∀n i,(lp m n (i,0)).1=it m n i
 | 0,i=>rfl
 | n+1,i=>by show(lp m n (SetTable.leap m i 0)).1=it m n (nx m i);have:SetTable.leap m i 0=(nx m i,0):=rfl;rw[this];exact vk m n _
theorem rX(m:Nat):∀a b s,lp m (a+b) s=lp m b (lp m a s)
 | 0,b,s=>by rw[Nat.zero_add];rfl
 | a+1,b,s=>by rw[Nat.succ_add];exact rX m a b _
theorem vX(h:Mask m){i p j:Nat}(hi:i<=m)(a:p<2 ^ 64)(b:j<=m):∃n,n<=m+13/\(lp m n (i,p)).1=j:=by
 have c:(lp m 13 (i,p)).2=0:=by rw[w6];exact Nat.div_eq_of_lt (E3 a (by decide))
 obtain⟨k,d,e⟩:=reach h (si m 13 (i,p) hi) b;refine⟨13+k,by lia,?_⟩;rw[rX];have:lp m 13 (i,p)=((lp m 13 (i,p)).1,0):=by rw[<-c]
 rw[this,vk];exact e
theorem sA(h:Int):SetTable.bits h<2 ^ 64:=by unfold SetTable.bits;have h1:=Int.emod_lt_of_pos h (show(0:Int)<2 ^ 64 by decide);have h2:=Int.emod_nonneg h (show(2:Int) ^ 64≠0 by decide);lia
def cW(t:SetTable):Nat->SetTable.Probe->SetTable.Probe
 | 0,p=>p
 | n+1,p=>cW t n (t.advance p)
theorem mT(t:SetTable):∀a b p,cW t (a+b) p=cW t b (cW t a p)
 | 0,b,p=>by rw[Nat.zero_add];rfl
 | a+1,b,p=>by rw[Nat.succ_add];exact mT t a b _
def at_(t:SetTable)(s:Nat×Nat):SetTable.Probe:={ j:=s.1,more:=SetTable.runEnd t.mask s.1-s.1,i:=s.1,perturb:=s.2,dummy:=Vo }
theorem wG(t:SetTable):∀(r:Nat) (p:SetTable.Probe),p.more=r->cW t (r+1) p={ p with j:=(SetTable.leap t.mask p.i p.perturb).1,more:=SetTable.runEnd t.mask (SetTable.leap t.mask p.i p.perturb).1-(SetTable.leap t.mask p.i p.perturb).1,i:=(SetTable.leap t.mask p.i p.perturb).1,perturb:=(SetTable.leap t.mask p.i p.perturb).2 }
 | 0,p,h=>by show t.advance p=_;unfold SetTable.advance;rw[Fs (by lia)]
 | r+1,p,h=>by
  show cW t (r+1) (t.advance p)=_;have e:t.advance p={ p with j:=p.j+1,more:=p.more-1 }:=by unfold SetTable.advance;rw[Ft (by lia)]
  rw[e,wG t r _ (by show p.more-1=r;lia)]
theorem zQ(t:SetTable)(s:Nat×Nat):∃k,k<=10/\cW t k (at_ t s)=at_ t (SetTable.leap t.mask s.1 s.2):=by
 refine⟨SetTable.runEnd t.mask s.1-s.1+1,?_,?_⟩
 .unfold SetTable.runEnd;split<;>lia
 .exact(wG t (SetTable.runEnd t.mask s.1-s.1) (at_ t s) rfl).trans rfl
theorem qW(t:SetTable):∀(n:Nat) (s:Nat×Nat),∃k,k<=10*n/\cW t k (at_ t s)=at_ t (lp t.mask n s)
 | 0,s=>⟨0,ER _,rfl⟩
 | n+1,s=>by obtain⟨k1,h1,a⟩:=zQ t s;obtain⟨k2,h2,b⟩:=qW t n (SetTable.leap t.mask s.1 s.2);refine⟨k1+k2,by lia,?_⟩;rw[mT,a,b];rfl
def Dw(t:SetTable)(h:Int):t.probeStart h=at_ t (SetTable.bits h % (t.mask+1),SetTable.bits h):=rfl
theorem xK{t:SetTable}(a:Mask t.mask){j:Nat}(b:j<=t.mask)(h:Int):∃K,K<10*SetTable.turns t.mask/\(cW t K (t.probeStart h)).j=j:=by
 have h1:SetTable.bits h % (t.mask+1)<=t.mask:=by have:=Nat.mod_lt (SetTable.bits h) (show 0<t.mask+1 by lia);lia
 obtain⟨n,d,e⟩:=vX a h1 (sA h) b;obtain⟨K,g,c⟩:=qW t n (SetTable.bits h % (t.mask+1),SetTable.bits h);refine⟨K,by unfold SetTable.turns;lia,?_⟩;rw[Dw,c];exact e
def pG{t:SetTable}{j i:Nat}(h:t.slot j=.live i):t.place[i]?=Vn j:=by
 unfold SetTable.slot at h;dsimp only at h;split at h
 .rename_i hq;cases h;exact eq_of_beq hq
 .split at h<;>cases h
def qP(j:Nat):SetTable.has #[] j=false:=rfl
def pw{t:SetTable}(hd:t.dummies = #[])(j:Nat):t.slot j=.empty\/∃i,t.slot j=.live i:=by
 unfold SetTable.slot;dsimp only;split
 .exact .inr ⟨_,rfl⟩
 .rw[hd,qP];exact .inl rfl
theorem ur:∀(n:Nat) (l:List Nat),(∀j,j<n->j∈l)->n<=l.length
 | 0,l,_=>Nat.zero_le _
 | n+1,l,h=>by have a:=h n (Nat.lt_succ_self n);have:=ur n (l.erase n) λj b=>(List.mem_erase_of_ne (by lia)).mpr (h j (by lia));rw[List.length_erase_of_mem a]at this;have:0<l.length:=List.length_pos_of_mem a;lia
theorem C3{t:SetTable}(hd:t.dummies = #[])(h:t.place.size<=t.mask):∃j,j<=t.mask/\t.slot j=.empty:=by
 rcases Classical.em (∃j,j<=t.mask/\t.slot j=.empty)with h1|h1
 .exact h1
 .exfalso;have:=ur (t.mask+1) t.place.toList λj a=>by
   rcases pw hd j with h2|⟨i,h2⟩
   .exact absurd ⟨j,by lia,h2⟩ h1
   .have:=pG h2;rw[<-Array.getElem?_toList]at this;exact EF this
  rw[EA]at this;lia
theorem nv(t:SetTable):∀n p,(cW t n p).dummy=p.dummy
 | 0,p=>rfl
 | n+1,p=>by show(cW t n (t.advance p)).dummy=_;rw[nv t n];unfold SetTable.advance;split<;>rfl
theorem BM{t:SetTable}(hd:t.dummies = #[])(hash:Nat->Int)(h:Int):∀(K fuel:Nat) (p:SetTable.Probe),K<fuel->p.dummy=Vo->t.slot (cW t K p).j=.empty ->
  (∃j,SetTable.probe.go t hash h fuel p=Vn (.empty j Vo))\/∃k j i,k<K/\SetTable.probe.go t hash h fuel p=Vn (.candidate j i (cW t (k+1) p))/\t.slot j=.live i:=by
 intro K;induction K with
 | zero=>
  intro fuel p g a hs;obtain⟨f,rfl⟩:∃f,fuel=f+1:=⟨fuel-1,by lia⟩;refine .inl ⟨p.j,?_⟩;have b:t.slot p.j=.empty:=hs;unfold SetTable.probe.go;rw[b];dsimp only;rw[a]
 | succ K l=>
  intro fuel p g a hs;obtain⟨f,rfl⟩:∃f,fuel=f+1:=⟨fuel-1,by lia⟩;unfold SetTable.probe.go;rcases pw hd p.j with h1|⟨i,h1⟩
  .rw[h1];dsimp only;rw[a];exact .inl ⟨p.j,rfl⟩
  .rw[h1];dsimp only;by_cases d:(hash i == h)=true
   .rw[Ft d];exact .inr ⟨0,p.j,i,Nat.succ_pos _,rfl,h1⟩
   .rw[Fs d];have c:(t.advance p).dummy=Vo:=by have:=nv t 1 p;rw[a]at this;exact this
    rcases l f (t.advance p) (by lia) c hs with⟨j,e⟩|⟨k,j,m,o,e,n⟩
    .exact .inl ⟨j,e⟩
    .exact .inr ⟨k+1,j,m,by lia,e,n⟩
theorem vN{α:Type}:∀{l:List (Option α)} {j:Nat} {k:α},l[j]?=Vn Vo->((l.set j (Vn k)).filterMap id).Perm (k::l.filterMap id)
 | [],j,k,h=>by cases h
 | x::l,0,k,h=>by
  have:x=Vo:=by simpa using h
  subst this;exact .refl _
 | x::l,j+1,k,h=>by
  have h':l[j]?=Vn Vo:=by simpa using h
  have a:=vN (k:=k) h';cases x with
  | none=>exact a
  | some y=>exact(List.Perm.cons y a).trans (.swap _ _ _)
theorem Ds{α:Type}(l:List (Option α)):(l.filterMap id).length+(l.filter (·.isNone)).length=l.length:=by
 induction l with
 | nil=>rfl
 | cons x l a=>
  cases x<;>simp at a ⊢<;>lia
theorem yC(o:Mask m)(owner:Array (Option Nat))(c:owner.size=m+1){j:Nat}(d:owner[j]?=Vn Vo):∀(fuel n i p:Nat),i<=m->n<fuel->(lp m n (i,p)).1=j ->
  ∃a,SetTable.layClean.free m owner fuel i p=Vn a/\owner[a]?=Vn Vo:=by
 intro fuel;induction fuel with
 | zero=>intro n i p _ h;lia
 | succ fuel e=>
  intro n i p hi q b;unfold SetTable.layClean.free;split
  .rename_i k hk;have h1:=List.find?_some hk;have h2:=List.mem_range.mp (List.mem_of_find?_eq_some hk);refine⟨i+k,rfl,?_⟩;have hb:i+k<owner.size:=by rw[c];unfold SetTable.runEnd at h2;split at h2<;>lia
   rw[Array.getElem?_eq_getElem hb];have:owner.getD (i+k) (Vn 0)=owner[i+k]:=by rw[Array.getD_eq_getD_getElem?,Array.getElem?_eq_getElem hb];rfl
   rw[this]at h1;congr 1;cases g:owner[i+k]with
   | none=>rfl
   | some y=>rw[g]at h1;cases h1
  .rename_i hk;cases n with
   | zero=>
    exfalso;have l:i=j:=b;have:=List.find?_eq_none.mp hk 0 (List.mem_range.mpr (by unfold SetTable.runEnd;split<;>lia));rw[Nat.add_zero,l,Array.getD_eq_getD_getElem?,d]at this;simp at this
   | succ n=>
    have:=si m 1 (i,p) hi;exact e n (SetTable.leap m i p).1 (SetTable.leap m i p).2 this (by lia) b
def lI(mask:Nat)(acc:Option (Array (Option Nat)×Nat))(h:Int):Option (Array (Option Nat)×Nat):=do
 let (owner,k) <-acc;let j <-SetTable.layClean.free mask owner (SetTable.turns mask) (SetTable.bits h % (mask+1)) (SetTable.bits h)
 pure (owner.setIfInBounds j (Vn k),k+1)
theorem xQ{l:List (Option Nat)}(h:(l.filterMap id).length<l.length):∃j:Nat,l[j]?=Vn Vo:=by
 have:=Ds l;have h1:0<(l.filter (·.isNone)).length:=by lia
 obtain⟨x,b⟩:=List.exists_mem_of_length_pos h1;obtain⟨a,c⟩:=List.mem_filter.mp b;have:x=Vo:=by cases x<;>simp_all
 subst this;obtain⟨j,d⟩:=Fi a;exact⟨j,d⟩
theorem vi{m:Nat}(c:Mask m):∀(hs:List Int) (owner:Array (Option Nat)) (k:Nat),owner.size=m+1->(owner.toList.filterMap id).Perm (Fo k)->k+hs.length<=m ->
  ∃a,hs.foldl (lI m) (Vn (owner,k))=Vn (a,k+hs.length)/\a.size=m+1/\(a.toList.filterMap id).Perm (Fo (k+hs.length))
 | [],owner,k,h1,h2,i=>⟨owner,rfl,h1,h2⟩
 | h::hs,owner,k,h1,h2,i=>by
  rw[EY]at i ⊢;have hlt:(owner.toList.filterMap id).length<owner.toList.length:=by rw[h2.length_eq,List.length_range,EA,h1];lia
  obtain⟨j,d⟩:=xQ hlt;rw[Array.getElem?_toList]at d;have e:j<=m:=by have:=(Array.getElem?_eq_some_iff.mp d).1;lia
  have hi:SetTable.bits h % (m+1)<=m:=by have:=Nat.mod_lt (SetTable.bits h) (show 0<m+1 by lia);lia
  obtain⟨n,s,l⟩:=vX c hi (sA h) e;obtain⟨g,e',b⟩:=yC c owner h1 d (SetTable.turns m) n _ _ hi (by unfold SetTable.turns;lia) l;have step:lI m (Vn (owner,k)) h=Vn (owner.setIfInBounds g (Vn k),k+1):=by unfold lI;simp[e']
  rw[List.foldl_cons,step];have o:((owner.setIfInBounds g (some k)).toList.filterMap id).Perm (Fo (k+1)):=by rw[Array.toList_setIfInBounds];rw[<-Array.getElem?_toList]at b;refine(vN b).trans ?_;rw[List.range_succ];exact(List.Perm.cons k h2).trans (List.perm_append_comm (l₁:=[k]) (l₂:=Fo k))
  obtain⟨o',p,q,r⟩:=vi c hs (owner.setIfInBounds g (Vn k)) (k+1) (by simpa using h1) o (by lia);exact⟨o',by rw[p];congr 2;lia,q,by rw[show k+(hs.length+1)=k+1+hs.length by lia];exact r⟩
theorem yU(t:SetTable){hashes:Array Int}{wanted:Nat}(g:Mask m)(h:SetTable.sizeAbove wanted-1=m)(l:hashes.size<=m):
  ∃t' order,t.relaid hashes wanted=Vn (t',order)/\t'.place.size=hashes.size/\t'.dummies = #[]/\t'.mask=m/\order.toList.Perm (Fo hashes.size):=by
 obtain⟨o',e,k,d⟩:=vi g hashes.toList (Array.replicate (m+1) none) 0 (by simp) (by simp) (by rw[EA];lia);rw[EA,Nat.zero_add]at e d;have b:SetTable.layClean m hashes=some o':=by show(hashes.foldl (lI m) (some (Array.replicate (m+1) none,0))).map (·.1)=some o';rw[<-Array.foldl_toList,e];rfl
 have a:((Fo (m+1)).filterMap λj=>(o'.getD j Vo).map (j,·)).map (·.2)=o'.toList.filterMap id:=by
  rw[List.map_filterMap];have:o'.toList=(Fo (m+1)).map λj=>o'.getD j Vo:=by
   apply List.ext_getElem
   .rw[EA,Ew,List.length_range,k]
   .intro i h1 h2;rw[EA]at h1;simp[h1]
  rw[this,List.filterMap_map];congr 1;funext j;show((o'.getD j Vo).map (j,·)).map (·.2)=o'.getD j Vo;cases o'.getD j Vo<;>rfl
 have c:t.relaid hashes wanted=Vn (({ mask:=m,place:=(((Fo (m+1)).filterMap λj=>(o'.getD j Vo).map (j,·)).map (·.1)).toArray,dummies:=#[],finger:=t.finger,led:=t.led,moves:=t.movedTo m,plain:=t.plain }:SetTable),(((Fo (m+1)).filterMap λj=>(o'.getD j Vo).map (j,·)).map (·.2)).toArray):=by unfold SetTable.relaid;rw[h];unfold SetTable.laid;rw[b];rfl
 refine⟨_,_,c,?_,rfl,rfl,?_⟩
 .show(((Fo (m+1)).filterMap λj=>(o'.getD j Vo).map (j,·)).map (·.1)).toArray.size=_;rw[EB,Ew];have:=congrArg List.length a;rw[Ew,d.length_eq,List.length_range]at this;exact this
 .show(((Fo (m+1)).filterMap λj=>(o'.getD j Vo).map (j,·)).map (·.2)).toArray.toList.Perm _;rw[List.toList_toArray,a];exact d
theorem mf{α:Type}(xs:Array α)(p:Nat)(x:α):(SetTable.insertAt xs p x).size=xs.size+1:=by unfold SetTable.insertAt;simp;lia
def yl{α:Type}{xs:Array α}{p:Nat}{x e:α}(h:e∈(SetTable.insertAt xs p x).toList):e=x\/e∈xs.toList:=by
 unfold SetTable.insertAt at h;simp only[Array.toList_append,Array.toList_push,Array.toList_extract,EU,EG]at h;rcases h with(h|h)|h
 .exact .inr (List.mem_of_mem_take (by simpa using h))
 .exact .inl h
 .exact .inr (List.mem_of_mem_drop (List.mem_of_mem_take h))
def yG:SetTable.sizeAbove 20-1=31:=by decide +kernel
def B9:SetTable.sizeAbove 76-1=127:=by decide +kernel
def DB:SetTable.sizeAbove 308-1=511:=by decide +kernel
end L2.Og.Tb
namespace L2.Og
open PySem PySem.Spec PyProof.Rows
section
variable {P:Vd} {w:Ve} {A:Vi} {E:Va->Vc->Prop} {s:Vc} {K:Type} [DecidableEq K] {knd:KeyKind P w K}
def uQ{ks:List K}{vs:List Va}(h:ItemsAre knd ks vs):∀v∈vs,∀b,v≠.ref b:=λv a b e=>by have:=h.byValue v a;subst e;cases this
def zu(n:Nat){v:Va}(h:∀b,v≠.ref b):ofAClassStatement n v=pure false:=by
 cases v with
 | ref b=>exact absurd rfl (h b)
 | _=>unfold ofAClassStatement;rfl
def sG{ks:List K}{b:Vb}{Q:Bool->Vc->Prop}(c:IsTupleKey knd s.heap ks b)(h:Q false s):Vf (Vg P w) A (ofAClassStatement 8 (.ref b)) Q E s:=by
 have d:=c.typeIs;obtain⟨o,items,n,ho,g,hd,hi⟩:=c;unfold ofAClassStatement;refine Em (wpAny_typeOf d ?_);dsimp only;refine Em (En ?_);simp only[Bool.not_true,Fg,if_false];refine Em (wpAny_seqItems ho hd ?_);dsimp only;refine Em ?_;rw[<-Array.forIn_toList];refine wpAny_forIn_list _ (λrest r s'=>r.1=none/\s'=s/\∀v∈rest,∀b,v≠.ref b) _ ?_ ?_ _ _ ⟨rfl,rfl,uQ hi⟩
 .rintro v rest r s' ⟨a,rfl,hall⟩;rw[zu _ (hall v EC)];refine Em (En ?_);simp only[Fg,if_false];exact En ⟨rfl,rfl,λu e=>hall u (Ez _ e)⟩
 .rintro⟨r1,i⟩ s' ⟨a,rfl,_⟩;simp only at a;subst a;exact En h
def yO{ks:List K}{b:Vb}{l:List Va}{Q:Bool->Vc->Prop}(g:IsTupleKey knd s.heap ks b)(i:∀y∈l,∃a c,y=.ref a/\IsTupleKey knd s.heap c a)(h:Q false s):Vf (Vg P w) A (searchCouldBeSeen (.ref b) l) Q E s:=by
 unfold searchCouldBeSeen;refine Em ?_;refine wpAny_forIn_list _ (λrest r s'=>r.1=Vo/\s'=s/\∀y∈rest,∃a c,y=.ref a/\IsTupleKey knd s.heap c a) _ ?_ ?_ _ _ ⟨rfl,rfl,i⟩
 .rintro v rest r s' ⟨e,rfl,hall⟩;obtain⟨a,c,rfl,d⟩:=hall v EC;have next:∀y∈rest,∃a c,y=.ref a/\IsTupleKey knd s'.heap c a:=λy j=>hall y (Ez _ j)
  dsimp only;split
  .exact En ⟨rfl,rfl,next⟩
  .refine Em (wpAny_eqIsQuiet_tuple g ?_);simp only[Bool.not_true,Fg,if_false];refine Em (wpAny_eqIsQuiet_tuple d ?_);simp only[Bool.not_true,Fg,if_false];refine Em (sG g ?_);simp only[Fg,if_false];refine Em (sG d ?_);simp only[Fg,if_false];exact En ⟨rfl,rfl,next⟩
 .rintro⟨r1,k⟩ s' ⟨e,rfl,_⟩;simp only at e;subst e;exact En h
theorem A4{b:Vb}{k:List K}{h:Int}{es:Array (Int×Va)}{t:SetTable}(M:A.units<cLine)(z:IsTupleKey knd s.heap k b)(ho:s.heap.get? a=Vn o)(hd:o.data=.set es ep t)(p:t.fits es.size=true)(R:Tb.Mask t.mask)(B:t.dummies = #[])
  (hall:∀e∈es.toList,∃l d,e.2=.ref l/\IsTupleKey knd s.heap d l/\d≠k) {Q:SetFound->Vc->Prop} (S:∀j,Q (.free j false) s) :
  ∀(K fuel:Nat) (c:Option SetTable.Probe),K<fuel->K<10*SetTable.turns t.mask->(c.getD (t.probeStart h)).dummy=Vo->t.slot (Tb.cW t K (c.getD (t.probeStart h))).j=.empty ->
   Vf (Vg P w) A (setSearchFrom a (.ref b) h true fuel c) Q E s:=by
 intro K;induction K using Nat.strongRecOn with
 | ind K T=>
  intro fuel c U W q hs;obtain⟨f,rfl⟩:∃f,fuel=f+1:=⟨fuel-1,by lia⟩;unfold setSearchFrom;refine Em (Fm ho hd p ?_);dsimp only;have X:t.gaveWay=false:=by unfold SetTable.gaveWay;rcases R with e|e|e|e<;>rw[e]<;>rfl
  have C:t.place.size=es.size:=by simp only[SetTable.fits,E9,beq_iff_eq]at p;exact p.1
  have u:t.sameMemory t.moves t.mask=Vn true:=by unfold SetTable.sameMemory;rw[Ft (beq_self_eq_true _)]
  rw[X];simp only[Fg,if_false];generalize n:t.probe _ h (c.getD (t.probeStart h))=r;obtain⟨g,n⟩:∃g,SetTable.probe.go t g h (10*SetTable.turns t.mask) (c.getD (t.probeStart h))=r:=⟨_,n⟩;rcases Tb.BM B g h K _ _ W q hs with⟨j,e⟩|⟨d,j,i,Y,e,F⟩
  .rw[e]at n;subst n;exact En (S j)
  .rw[e]at n;subst n;have G:=Tb.pG F;have hi:i<es.size:=by rw[<-C];exact(Array.getElem?_eq_some_iff.mp G).1
   have hmem:es[i]∈es.toList:=by simp
   obtain⟨l,k2,H,v,hne⟩:=hall _ hmem;have m:es[i]?=some (es[i].1,.ref l):=by rw[Array.getElem?_eq_getElem hi,<-H]
   have I:∀y∈((es.filter λx=>x.1 == h).toList.map λx=>x.2),∃l d,y=Value.ref l/\IsTupleKey knd s.heap d l:=λy H=>by
    obtain⟨N,J,rfl⟩:=List.mem_map.mp H;have L:N∈es.toList:=by have:=Array.mem_toList_iff.mp J;exact Array.mem_toList_iff.mpr (Array.mem_filter.mp this).1
    obtain⟨b3,k3,h1,h2,_⟩:=hall N L;exact⟨b3,k3,h1,h2⟩
   have again:Vf (Vg P w) A (setSearchFrom a (.ref b) h true f (Vn (Tb.cW t (d+1) (c.getD (t.probeStart h))))) Q E s:=by
    refine T (K-(d+1)) (by omega) f _ (by omega) (by omega) ?_ ?_
    .show(Tb.cW t (d+1) _).dummy=Vo;rw[Tb.nv];exact q
    .show t.slot (Tb.cW t (K-(d+1)) (Tb.cW t (d+1) _)).j=_;rw[<-Tb.mT,show d+1+(K-(d+1))=K by omega];exact hs
   have same:isSame (Value.ref l) (Value.ref l)=pure true:=by unfold isSame;simp
   dsimp only;cases O:t.led
   .simp only[Bool.not_false,if_true];refine Em (yO z I ?_);simp only[Fg,if_false];rw[m];dsimp only;refine Em (wpAny_holding (wpAny_eqBool_tuple M v z ?_));rw[Fp hne];refine Em (Fm ho hd p ?_);dsimp only;simp only[Bool.and_false,Fg,if_false,u,if_true,F,m,same];exact Em (En (Em (En again)))
   .simp only[Bool.not_true,Fg,if_false];rw[m];dsimp only;refine Em (wpAny_holding (wpAny_eqBool_tuple M v z ?_));rw[Fp hne];refine Em (Fm ho hd p ?_);dsimp only;simp only[Bool.and_false,Fg,if_false,u,if_true,F,m,same];exact Em (En (Em (En again)))
def fY(knd:KeyKind P w K)(h:Vh)(a:Vb)(ks:List (List K)):Prop:=
 ∃o es ep t,h.get? a=Vn o/\o.ExactSet/\o.data=.set es ep t/\t.place.size=es.size/\t.dummies = #[]/\Tb.Mask t.mask/\es.size*5<t.mask*3/\es.size=ks.length/\∀e∈es.toList,∃b k,e.2=.ref b/\k∈ks/\IsTupleKey knd h k b
def mB{b:Vb}{k:List K}{es:Array (Int×Va)}{t:SetTable}(e:IsTupleKey knd h k b)(ho:h.get? a=Vn o)(hd:o.data=.set es ep t)(hs:Heap.SameBut a h h'):IsTupleKey knd h' k b:=by
 obtain⟨o',items,n,c,g,d,hi⟩:=e;have hne:b≠a:=by rintro rfl;rw[ho]at c;cases c;rw[hd]at d;cases d
 exact⟨o',items,n,(hs.2 b hne).trans c,g,d,hi⟩
def yX(n:Nat){v:Va}(h:∀b,v≠.ref b):∃c,hashByValue n v=pure c:=by
 cases v with
 | ref b=>exact absurd rfl (h b)
 | _=>exact⟨_,by cases n<;>unfold hashByValue<;>rfl⟩
def Ej{ks:List K}{b:Vb}{Q:Bool->Vc->Prop}(e:IsTupleKey knd s.heap ks b)(h:∀c,Q c s):Vf (Vg P w) A (hashByValue 8 (.ref b)) Q E s:=by
 have g:=e.typeIs;obtain⟨o,items,n,ho,j,hd,hi⟩:=e;unfold hashByValue;refine Em (wpAny_specialOf g F.slot_tuple_hash.lookup ?_);dsimp only;refine Em (wpAny_seqItems ho hd ?_);dsimp only[Option.getD_some];refine Em ?_;rw[<-Array.forIn_toList];refine wpAny_forIn_list _ (λrest r s'=>(r.1=none\/∃c,r.1=some c)/\s'=s/\∀v∈rest,∀b,v≠.ref b) _ ?_ ?_ _ _ ⟨.inl rfl,rfl,uQ hi⟩
 .rintro v rest r s' ⟨a,rfl,hall⟩;obtain⟨c,d⟩:=yX 7 (hall v EC);rw[d];refine Em (En ?_);cases c
  .show Vf _ _ (pure (ForInStep.done (Vn false,()))) _ _ _;exact En (En (h false))
  .simp only[Bool.not_true,Fg,if_false];exact En ⟨.inl rfl,rfl,λu i=>hall u (Ez _ i)⟩
 .rintro⟨r1,k⟩ s' ⟨a,rfl,_⟩;simp only at a;rcases a with rfl|⟨c,rfl⟩
  .exact En (h true)
  .exact En (h c)
def xC{α:Type}{es:Array α}{order:Array Nat}(h:order.toList.Perm (Fo es.size)):(order.filterMap (es[·]?)).size=es.size/\∀e∈(order.filterMap (es[·]?)).toList,e∈es.toList:=by
 have key:∀l:List Nat,(∀i∈l,i<es.size)->(l.filterMap (es[·]?)).length=l.length/\∀e∈l.filterMap (es[·]?),e∈es.toList:=by
  intro l;induction l with
  | nil=>intro _;exact⟨rfl,λe c=>by cases c⟩
  | cons x l d=>
   intro b;obtain⟨i1,i2⟩:=d λi hi=>b i (Ez _ hi);have g:=b x EC;have e:(x::l).filterMap (es[·]?)=es[x]::l.filterMap (es[·]?):=by rw[List.filterMap_cons];simp[g]
   rw[e];refine⟨by rw[EY,EY,i1],λy a=>?_⟩;rcases EK.mp a with rfl|a
   .simp
   .exact i2 y a
 have hlt:∀i∈order.toList,i<es.size:=λi hi=>List.mem_range.mp (h.mem_iff.mp hi);obtain⟨k1,k2⟩:=key order.toList hlt;rw[Array.toList_filterMap];refine⟨?_,k2⟩;rw[<-EA,Array.toList_filterMap,k1,h.length_eq,List.length_range]
theorem B5{es c:Array (Int×Va)}{t d:SetTable}{ks1:List (List K)}{Q:Bool->Vc->Prop}(ho:s.heap.get? a=Vn o)(hex:o.ExactSet)(hd:o.data=.set es ep t)(l:c.size=n+1)(x:d.place.size=c.size)(u:d.dummies = #[])
  (y:Tb.Mask d.mask) (z:n*5<d.mask*3) (hn:n<200) (hlen:ks1.length=n+1) (B:∀e∈c.toList,∃b k,e.2=.ref b/\k∈ks1/\IsTupleKey knd s.heap k b)
  (h:∀h',Heap.SameBut a s.heap h'->fY knd h' a ks1->Q true { s with heap:=h' }) :
  Vf (Vg P w) A (do
   storeSet a c d
   if(!false && d.tooFull)=true then do
    setRelay a (SetTable.grown (n+1))
    pure true
   else pure true) Q E s:=by
 have M:n+1<=sizeLine:=E4 (show n+1<=1000 by lia) (by decide);refine Em (wpAny_storeSet_of ho hd ?_ (by lia));have j:(s.heap.update a (Obj.putSet c d)).get? a=Vn { o with data:=.set c (ep+1) d }:=by have:=Heap.get?_update_self (Obj.putSet c d) ho (by rw[putSet_of c d hd];rfl);rw[putSet_of c d hd]at this;exact this
 have i:=Heap.SameBut.update s.heap a (Obj.putSet c d);generalize s.heap.update a (Obj.putSet c d)=h1 at j i;have p:∀e∈c.toList,∃b k,e.2=.ref b/\k∈ks1/\IsTupleKey knd h1 k b:=λe N=>by obtain⟨b,k,O,R,S⟩:=B e N;exact⟨b,k,O,R,mB S ho hd i⟩
 have g:d.fill=n+1:=by unfold SetTable.fill;rw[u,x,l];rfl
 by_cases H:d.tooFull=true
 .rw[H];simp only[Bool.not_false,Bool.and_self,if_true];have C:d.mask*3<=(n+1)*5:=by unfold SetTable.tooFull at H;rw[g]at H;simpa using H
  obtain⟨m,W,X,Y,hlt⟩:∃m,Tb.Mask m/\SetTable.sizeAbove (SetTable.grown (n+1))-1=m/\n+1<=m/\(n+1)*5<m*3/\SetTable.sizeAbove (SetTable.grown (n+1))<=sizeLine:=by
   have Z:SetTable.grown (n+1)=(n+1)*4:=by unfold SetTable.grown;rw[Fs (by lia)]
   rw[Z];rcases y with e|e|e|e<;>rw[e]at z C
   .obtain rfl:n=4:=by lia
    exact⟨31,.inr (.inl rfl),Tb.yG,by lia,by lia,by decide +kernel⟩
   .obtain rfl:n=18:=by lia
    exact⟨127,.inr (.inr (.inl rfl)),Tb.B9,by lia,by lia,by decide +kernel⟩
   .obtain rfl:n=76:=by lia
    exact⟨511,.inr (.inr (.inr rfl)),Tb.DB,by lia,by lia,by decide +kernel⟩
   .omega
  have F:d.fits c.size=true:=by simp only[SetTable.fits,E9,beq_iff_eq,decide_eq_true_eq];refine⟨x,?_⟩;rw[g];rcases y with e|e|e|e<;>lia
  obtain⟨G,order,I,J,T,L,q⟩:=Tb.yU d (hashes:=c.map (·.1)) W X (by rw[Array.size_map];lia);rw[Array.size_map]at J q;obtain⟨r1,r2⟩:=xC q;refine Em ?_;unfold setRelay;refine Em (Fm (s:={ s with heap:=h1 }) j rfl F ?_);dsimp only;rw[Fs (Nat.not_lt.mpr hlt.2),I];refine Em ?_;show Vf _ _ (do
   if(order.filterMap (c[·]?)).size != c.size then unsupported "internal:set-table-lost-an-element"
   pure (order.filterMap (c[·]?),G)) _ _ _
  rw[r1];simp only[bne_self_eq_false,Fg,if_false];refine En ?_;dsimp only;refine wpAny_storeSet_of (s:={ s with heap:=h1 }) j rfl ?_ (by rw[r1];lia);have U:(h1.update a (Obj.putSet (order.filterMap (c[·]?)) G)).get? a=Vn { o with data:=.set (order.filterMap (c[·]?)) (ep+1+1) G }:=by have:=Heap.get?_update_self (Obj.putSet (order.filterMap (c[·]?)) G) j (by rw[putSet_of _ _ (o:={ o with data:=.set c (ep+1) d }) rfl];rfl);rw[putSet_of _ _ (o:={ o with data:=.set c (ep+1) d }) rfl]at this;exact this
  have v:=Heap.SameBut.update h1 a (Obj.putSet (order.filterMap (c[·]?)) G);refine En (h _ (i.trans v) ⟨_,_,_,G,U,hex,rfl,by rw[r1];exact J,T,by rw[L];exact W,by rw[r1,L,l];exact hlt.1,by rw[r1,l,hlen],λe N=>?_⟩);obtain⟨b,k,O,R,S⟩:=p e (r2 e N);exact⟨b,k,O,R,mB S j rfl v⟩
 .have r:d.tooFull=false:=by simpa using H
  rw[r];simp only[Bool.and_false,Fg,if_false];have C:(n+1)*5<d.mask*3:=by unfold SetTable.tooFull at r;rw[g]at r;simpa using r
  exact En (h h1 i ⟨_,c,_,d,j,hex,rfl,x,u,y,by rw[l];exact C,by rw[l,hlen],p⟩)
theorem Ah{b:Vb}{k:List K}{ks:List (List K)}{d:Int}{Q:Bool->Vc->Prop}(H:A.units<cLine)(y:IsTupleKey knd s.heap k b)(I:fY knd s.heap a ks)(q:k∉ks)(hsz:ks.length<200)
  (h:∀h',Heap.SameBut a s.heap h'->fY knd h' a (k::ks)->Q true { s with heap:=h' }):Vf (Vg P w) A (setAddHashed a (.ref b) d) Q E s:=by
 obtain⟨o,es,ep,t,ho,hex,hd,v,g,x,n,hlen,hall⟩:=I;have hle:es.size<=t.mask:=by lia
 have B:t.fits es.size=true:=by simp only[SetTable.fits,E9,beq_iff_eq,decide_eq_true_eq];refine⟨v,?_⟩;unfold SetTable.fill;rw[g,v];simpa using hle
 obtain⟨U,C,F⟩:=Tb.C3 g (by rw[v];exact hle);obtain⟨N,J,L⟩:=Tb.xK x C d;have p:∀e∈es.toList,∃i l,e.2=.ref i/\IsTupleKey knd s.heap l i/\l≠k:=λe r=>by obtain⟨i,l,h1,h2,M⟩:=hall e r;exact⟨i,l,h1,M,λz=>q (z ▸ h2)⟩
 unfold setAddHashed setAddHashedIn;refine wpAny_holding (Em (Fm ho hd B ?_));dsimp only;have hsc:byScan (.ref b) es=false:=rfl;rw[hsc];simp only[Fg,if_false];unfold setSearch;have G:10*SetTable.turns t.mask<100000:=by unfold SetTable.turns;rcases x with e|e|e|e<;>rw[e]<;>decide
 refine Em (A4 H y ho hd B x g p (λj=>?_) N 100000 Vo (by lia) J rfl (by show t.slot (Tb.cW t N (t.probeStart d)).j=_;rw[L];exact F));dsimp only;refine Em (Fm ho hd B ?_);dsimp only;have m:(t.put j).1.place.size=es.size+1/\(t.put j).1.dummies = #[]/\(t.put j).1.mask=t.mask:=by
  refine⟨?_,?_,rfl⟩
  .show(SetTable.insertAt t.place (SetTable.below t.place j) j).size=_;rw[Tb.mf,v]
  .show(if SetTable.has t.dummies j=true then _ else t.dummies) = #[];rw[g,Tb.qP];rfl
 have u:∀e∈(SetTable.insertAt es (t.put j).2 (d,Value.ref b)).toList,∃i l,e.2=.ref i/\l∈k::ks/\IsTupleKey knd s.heap l i:=λe r=>by
  rcases Tb.yl r with rfl|r
  .exact⟨b,k,rfl,EC,y⟩
  .obtain⟨i,l,O,R,S⟩:=hall e r;exact⟨i,l,O,Ez _ R,S⟩
 have fin:∀c:Bool,Vf (Vg P w) A (do
   storeSet a (SetTable.insertAt es (t.put j).2 (d,Value.ref b)) (if c=true then(t.put j).1 else{ (t.put j).1 with plain:=false })
   if(!false && (if c=true then(t.put j).1 else{ (t.put j).1 with plain:=false }).tooFull)=true then do
    setRelay a (SetTable.grown (es.size+1))
    pure true
   else pure true) Q E s:=λc=>by
  refine B5 (ks1:=k::ks) ho hex hd (Tb.mf _ _ _) ?_ ?_ ?_ ?_ (by lia) (by rw[EY,hlen]) u h
  .rw[Tb.mf];cases c<;>exact m.1
  .cases c<;>exact m.2.1
  .cases c<;>exact x
  .cases c<;>exact n
 cases T:(t.put j).1.plain
 .simp only[Fg,if_false];exact Em (En (fin true))
 .simp only[if_true];exact Em (Ej y fin)
end
section
variable {P:Vd} {w:Ve} {A:Vi} {K:Type} [DecidableEq K] {knd:KeyKind P w K} {I:Vb} {fp wr:List Vb} {G:Array GenState->Array GenState->Prop} {n:Nat} {Pz:Nat->Va->Prop} {St:Nat->Vc->Prop}
def fY.moved{ks:List (List K)}{wr:List Vb}(j:fY knd h a ks)(g:∀b o,b∉wr->h.get? b=Vn o->h'.get? b=Vn o)(ha:a∉wr)(l:∀b∈wr,∀o,h.get? b=Vn o->∃vs,o.data=.fields vs):fY knd h' a ks:=by obtain⟨o,es,ep,t,ho,hex,hd,h1,h2,n,p,q,hall⟩:=j;refine⟨o,es,ep,t,g a o ha ho,hex,hd,h1,h2,n,p,q,λe r=>?_⟩;obtain⟨b,k,s,u,o',items,m,c,v,d,hi⟩:=hall e r;refine⟨b,k,s,u,o',items,m,g b o' (λhb=>?_) c,v,d,hi⟩;obtain⟨vs,i⟩:=l b hb o' c;rw[d]at i;cases i
theorem Bq(W:WalksS P w A.in1 I fp wr G n Pz St)(S:Vb)(hS:S∉fp)(hu:A.in1.units<cLine)(bs:List Vb)(kk:List (List K))(J:kk.length=n)(L:kk.Nodup)(hsz:n<200)
  (u:∀i v,Pz i v->∃b,v=.ref b/\bs[i]?=Vn b) (hwr:∀i s,St i s->∀b∈wr,∀o,s.heap.get? b=Vn o->∃vs,o.data=.fields vs) {R:Result->Vc->Prop} :
  ∀(m i:Nat) (s:Vc),n-i=m->i<=n->St i s->fY knd s.heap S (kk.take i).reverse->(∀(j:Nat) (b:Vb) (k:List K),bs[j]?=Vn b->kk[j]?=Vn k->IsTupleKey knd s.heap k b) ->
   (∀s',Moved (S::wr) G s s'->fY knd s'.heap S kk.reverse->R (.ok (.ret .none)) s') ->
   codeAny (Vg P w) A (.builtin "set.update.loop" ⟨[.ref S,.ref I],[]⟩) R s:=by
 have x:S∉wr:=λz=>hS (W.sub _ z);have more:∀b∈wr,b∈S::wr:=λb z=>Ez _ z;intro m;induction m with
 | zero=>
  intro i s hm hi d a g M;obtain rfl:i=n:=by lia
  refine codeAny_builtin F.entry_set_update_loop ?_;rw[Around.under_plainId F.plain_set_update_loop _];show Vf _ A.in1 (pyNext (.ref I) >>= _) _ _ s;refine Em (W.done s _ _ d λs' r=>?_);rw[<-J,EZ]at a;exact En (M s' (r.mono more) (a.moved r.heap x (hwr _ s d)))
 | succ m ih=>
  intro i s hm hi d a g M;have hlt:i<n:=by lia
  refine codeAny_builtin F.entry_set_update_loop ?_;rw[Around.under_plainId F.plain_set_update_loop _];show Vf _ A.in1 (pyNext (.ref I) >>= _) _ _ s;refine Em (W.item i s _ _ hlt d λv s' hP y r=>?_);obtain⟨b,rfl,hb⟩:=u i v hP;have l:kk[i]?=Vn kk[i]:=Ex (by lia);have h:=a.moved r.heap x (hwr _ s d);have hkeys':∀(j:Nat) (b:Vb) (k:List K),bs[j]?=Vn b->kk[j]?=Vn k->IsTupleKey knd s'.heap k b:=λj b k N O=>by obtain⟨o',items,q,B,C,E,Q⟩:=g j b k N O;refine⟨o',items,q,r.heap b o' (λT=>?_) B,C,E,Q⟩;obtain⟨vs,hv⟩:=hwr _ s d b T o' B;rw[E]at hv;cases hv
  show Vf _ A.in1 (holding [Value.ref b] (setAdd S (.ref b)) >>= _) _ _ s';refine Em (wpAny_holding ?_);unfold setAdd;refine wpAny_holding (Em (wpAny_pyHash_tuple hu (hkeys' i b _ hb l) ?_));have H:kk[i]∉(kk.take i).reverse:=by rw[List.mem_reverse];intro z;obtain⟨q,hq,e⟩:=List.mem_iff_getElem.mp z;rw[Fl]at hq;rw[List.getElem_take]at e;have:=(List.getElem_inj L).mp e;lia
  have U:(kk.take (i+1)).reverse=kk[i]::(kk.take i).reverse:=by rw[List.take_add_one,l,List.reverse_append];rfl
  refine Ah (s:={ s' with toks:=s'.toks+(kk[i].length+1) }) hu (hkeys' i b _ hb l) h H (by rw[List.length_reverse,Fl];lia) λh' X p=>?_;obtain⟨oS,a4,a5,tS,Y,_,Z,_⟩:=id h;refine En ⟨plainId_quiet F.plain_set_update_loop _,ih (i+1) _ (by lia) hlt (W.frame _ s' _ _ y (Nat.le_add_right _ _) λc C o e=>?_) (by rw[U];exact p) (λj c k N O=>mB (hkeys' j c k N O) Y Z X) λa1 a2 a3=>?_⟩
  .rw[X.2 c (λz:c=S=>hS (z ▸ C))];exact e
  .refine M a1 (Moved.trans W.gtrans ((r.mono more).then_heap (Nat.le_add_right _ _) λc o C e=>?_) a2) a3;rw[X.2 c (λz:c=S=>C (by rw[z];exact EC))];exact e
end
end L2.Og
namespace L2.Og
open PySem PySem.Spec PyProof.Rows
section
variable {P:Vd} {w:Ve} {A:Vi} {E:Va->Vc->Prop} {s:Vc} {K:Type} [DecidableEq K] {knd:KeyKind P w K}
abbrev cO(led:Bool):Obj:={ cls:=.type "set",dict:=Vo,data:=.set #[] 0 (.fresh 0 0 led) }
def qz(knd:KeyKind P w K)(s:Vc)(kk:List (List K))(h':Vh):Prop:=
 fY knd h' s.heap.objs.size kk.reverse/\∀b o,b<s.heap.objs.size->s.heap.get? b=Vn o->h'.get? b=Vn o
def AE:isSubtype (.type "tuple") (.type "frozenset")=pure false:=by
 rw[isSubtype_type]
 kernel_rfl
theorem DN{t:Vb}{bs:List Vb}{kk:List (List K)}(hA:A.handled=Vo)(hu:A.units+5<cLine)(gt:s.heap.IsTuple t ys)(hb:ys.toList=bs.map Value.ref)
  (O:kk.length=ys.size) (u:kk.Nodup) (S:ys.size<200) (g:∀(j:Nat) (b:Vb) (k:List K),bs[j]?=Vn b->kk[j]?=Vn k->IsTupleKey knd s.heap k b)
  (h:∀(h':Vh) (tk:Nat),qz knd s kk h'->Q (.ref s.heap.objs.size) { s with heap:=h',toks:=tk }):Vf (Vg P w) A (call (.type "set") [.ref t]) Q E s:=by
 have x1:=F.called_set.notType;have x2:=F.called_set.canCreate;have x3:=F.typeCall_set_1 (.ref t);have x4:=F.called_set.made;have x5:=F.called_set.sub;obtain⟨c,tl,x6⟩:=F.called_set.mro;refine wpAny_call (codeAny_of_tree ?_);show Vf _ _ (callAny (.type "set") _) _ _ _;refine En ⟨Code.quiet_builtin _ (by decide +kernel),codeAny_builtin F.entry_type_call ?_⟩;rw[Around.under_plain (weight_type_call_type "set" [.ref t] []) rfl]
 repeat (any_goals (first|assumption|wp_step))
 refine codeAny_mono (code_set_new_1 (.ref t) (E:=E) (Q₁:=λv s1=>∃led,v=.ref s.heap.objs.size/\s1={ s with heap:=s.heap.push (cO led) }) λled=>⟨led,rfl,rfl⟩) λr s1 x=>?_;cases r with
 | error e=>exact x
 | ok fl=>
  cases fl with
  | ret v=>
   obtain⟨led,rfl,rfl⟩:=x;have N:(s.heap.push (cO led)).get? s.heap.objs.size=Vn (cO led):=Er _ rfl;have T:Shared.TypeIs { s with heap:=s.heap.push (cO led) } (.ref s.heap.objs.size) "set":=⟨_,N,rfl⟩;have x7:=F.called_set.init.lookup;have x8:=F.called_set.init.bind (.ref s.heap.objs.size)
   repeat (any_goals (first|assumption|wp_step))
   refine codeAny_mono (codeAny_call_builtin (R:=wants (λr s2=>r=.none/\∃h' tk,s2={ s with heap:=h',toks:=tk }/\qz knd s kk h') E) F.called_set.init.plain F.entry_set_init (check_set_init_1 T ?_)) λU s2 a=>?_
   .have y:(s.heap.push (cO led)).IsTuple t ys:=gt.push _;have hlt:t<s.heap.objs.size:=by obtain⟨o,ho,_⟩:=gt;exact Es ho
    obtain⟨ol,W,hcl,nl,l⟩:=id y;obtain⟨c0,d0,dt,sl⟩:=ol;simp only at hcl l;subst hcl l;have y1:=F.sub_tuple_set;have y2:=AE;have y3:(Value.type "tuple" == Value.type "dict")=false:=by decide
    unfold Builtin.«set.__init__» noKeywords Builtin.Frozenset.updateFrom;generalize hit:pyIter=PI
    wp_walk
    subst hit;refine wpAny_pyIter_tuple y ?_;refine Em (wpAny_runValue ?_);have m:(s.heap.push (cO led)).objs.size=s.heap.objs.size+1:=Heap.size_push _ _;have B:A.in1.in1.in1.handled=Vo:=by simp[hA]
    have hne:t≠(s.heap.push (cO led)).objs.size:=by rw[m];exact EO (Nat.lt_succ_of_lt hlt)
    have C:s.heap.objs.size∉[(s.heap.push (cO led)).objs.size,t]:=by
     intro z;rcases EK.mp z with z|z
     .rw[m]at z;exact EO (Nat.lt_succ_self _) z
     .exact Nat.ne_of_gt hlt (EG.mp z)
    have G:∀i:Nat,ys[i]?=(bs[i]?).map Value.ref:=λi=>by rw[<-Array.getElem?_toList,hb,Ey]
    refine Bq (knd:=knd) ((Walks.tuple B _ t hne ys).toS) s.heap.objs.size C (by simp only[Around.in1_units];lia) bs kk O u S (λi v X=>?_) (λi s' hs b H o ho=>?_) (ys.size-0) 0 _ (by lia) (Nat.zero_le _) ⟨⟨_,Er _ rfl,rfl,rfl⟩,y.push _⟩ ⟨cO led,#[],0,_,Ep _ N,⟨rfl,rfl,rfl⟩,rfl,rfl,rfl,  .inl rfl,(show 0*5<7*3 by decide),rfl,λe Y=>by simp at Y⟩ (λj b k m Z=>?_) λs' p d=>?_
    .have n:ys[i]?=Vn v:=X;rw[G i]at n;obtain⟨b,e,rfl⟩:=EH.mp n;exact⟨b,rfl,e⟩
    .cases EG.mp H;obtain⟨o',I,_,J⟩:=hs.1;rw[I]at ho;cases ho;exact⟨_,J⟩
    .obtain⟨o,items,q,ho,r⟩:=g j b k m Z;exact⟨o,items,q,Ep _ (Ep _ ho),r⟩
    .obtain⟨h',g',d',L,M⟩:=s';have q1:g'=s.gens:=p.gens;have q2:d'=s.drawn:=p.drawn;have q3:M=s.os:=p.os;subst q1 q2 q3;show Vf _ _ _ _ _ _;refine En ?_;show Vf _ _ (ret Value.none) _ _ _;refine En ⟨rfl,h',L,rfl,d,λb o hb e=>p.heap b o (λz=>?_) (Ep _ (Ep _ e))⟩;rcases EK.mp z with z|z
     .exact EO hb z
     .have z:=EG.mp z;rw[m]at z;exact EO (Nat.lt_succ_of_lt hb) z
   .cases U with
    | error e=>exact a
    | ok f2=>
     cases f2 with
     | ret r=>
      obtain⟨rfl,h',tk,rfl,d⟩:=a
      repeat (any_goals (first|assumption|wp_step))
      exact h _ _ d
     | _=>exact a.elim
  | _=>exact x.elim
end
end L2.Og
namespace L2.Og
open PySem PySem.Spec PyProof.Rows
def iK(a:Vb)(n:Nat):HO:=.ext λh=>∃o es ep t,h.get? a=Vn o/\o.ExactSet/\o.data=.set es ep t/\t.fits es.size=true/\es.size=n
theorem Ca{ks:List (List Key)}(S:fY (cU P w) h a ks):bC P w H h a (iK a ks.length):=by
 obtain⟨o,es,ep,t,ho,hex,hd,i,b,l,c,hlen,_⟩:=S;refine⟨⟨o,es,ep,t,ho,hex,hd,?_,hlen⟩,⟨o,ho⟩,λh1 h2 z k=>?_⟩
 .simp only[SetTable.fits,E9,beq_iff_eq,decide_eq_true_eq];refine⟨i,?_⟩;unfold SetTable.fill;rw[b,i];have:es.size<=t.mask:=by lia
  simpa using this
 .obtain⟨o',d,e,j,g,r⟩:=z;exact⟨o',d,e,j,k _ g,r⟩
def bX(H:Hp)(p:Vb)(kk:List (List Key)):Prop:=∃bs:List Vb,H p=Vn (.tup (bs.map V.ref))/\bs.length=kk.length/\∀(j:Nat) (b:Vb) (k:List Key),bs[j]?=Vn b->kk[j]?=Vn k->H b=Vn (.tup (k.map kV))
theorem qk:∀{bs:List Vb} {us:List Va},Vals (bs.map V.ref) us->us=bs.map Value.ref
 | [],_,.nil=>rfl
 | b::bs,_,.cons r t=>by rw[List.map_cons,<-qk (bs:=bs) t];exact congrArg (· :: _) r
section
variable {X:Cx}
def rf:List V->Hp->VK->Prop:=λxs H Q=>∃p a,xs=[.ref p]/\bX H p a/\a.Nodup/\a.length<200/\∀l,H l=Vo->Q (.ref l) (upd H l (iK l a.length))
theorem call_setT{k:Nat}(c:Room k X.A):cB X (.type "set") rf:=by
 intro pins s σ H xs us Q I r h;obtain⟨p,kk,rfl,⟨bs,h1,h2,g⟩,a,i,q⟩:=h;obtain⟨u,rfl,l⟩:=vals1 r;cases l;obtain⟨_,m,v,gt⟩:=I.hok p _ h1;have x:=qk v;subst x;have E:=c.units;have hA:=c.hd;refine DN (knd:=cU X.prog X.w) (kk:=kk) (bs:=bs) hA (by lia) (show s.heap.IsTuple p _ from gt) rfl (by simp[h2]) a (by simp[h2];exact i) (λj b k y z=>?_) λh' tk d=>?_
 .obtain⟨_,F,B,o,ho,C,n,hd⟩:=I.hok b _ (g j b k y z);exact⟨o,_,n,ho,C,hd,m6 B⟩
 .have hok:=Ca (H:=upd H s.heap.objs.size (iK s.heap.objs.size kk.length)) d.1;rw[List.length_reverse]at hok;exact⟨.ref s.heap.objs.size,_,I.laid (t':=tk) (λb o e=>d.2 b o (Es e) e) (ER _) hok,rfl,q _ (I.hok.fresh (ER _))⟩
def qM:List V->Hp->VK->Prop:=λxs H Q=>∃p n,xs=[.ref p]/\H p=Vn (iK p n)/\n<200/\Q (.int n) H
theorem call_lenSet:cB X (.builtin "len") qM:=by intro pins s σ H xs us Q I r h;obtain⟨p,n,rfl,a,d,q⟩:=h;obtain⟨u,rfl,b⟩:=vals1 r;cases b;obtain⟨⟨o,es,ep,t,ho,hex,hd,c,hs⟩,_⟩:=I.hok p _ a;refine call_len_set ho hex hd c (by lia) ⟨.int n,H,I.tok _,⟨s.toks+1,by rw[hs]⟩,q⟩
def rd_setOf{Q:VK}{p:Vb}{kk:List (List Key)}(h:bX H p kk)(a:kk.Nodup)(b:kk.length<200)(q:∀l H',Ext H H'->H' l=Vn (iK l kk.length)->Q (.ref l) H'):rf [.ref p] H Q:=
 ⟨p,kk,rfl,h,a,b,λl c=>q l _ (a8 c) aK⟩
def rd_lenSet{Q:VK}{p:Vb}(h:H p=Vn (iK p n))(a:n<200)(q:Q (.int n) H):qM [.ref p] H Q:=⟨p,n,rfl,h,a,q⟩
end
end L2.Og
namespace L2.Ti
open PySem PySem.Spec PyProof.Rows
def eQ(t:SetTable):Prop:=t.dummies = #[]/\t.place.toList.Pairwise (· < ·)
def j4(t:SetTable)(n:Nat):eQ (t.standIn n):=⟨rfl,by show(Array.range n).toList.Pairwise _;rw[Array.toList_range];exact List.pairwise_lt_range⟩
def zk{mask finger moves:Nat}{led plain:Bool}{hashes:Array Int}{t':SetTable}{order:Array Nat}(h:SetTable.laid mask finger moves led plain hashes=Vn (t',order)):eQ t':=by unfold SetTable.laid at h;obtain⟨owner,_,h⟩:=Option.bind_eq_some_iff.mp h;have h:=Fc h;have h1:=(congrArg Prod.fst h).symm;dsimp only at h1;subst h1;refine⟨rfl,?_⟩;show(List.map (λx:Nat×Nat=>x.1) (List.filterMap (λj=>Option.map (λx=>(j,x)) (owner.getD j Vo)) (Fo (mask+1)))).Pairwise (· < ·);rw[List.pairwise_map,List.pairwise_filterMap];refine List.Pairwise.imp ?_ (List.pairwise_lt_range (n:=mask+1));intro a b hab x c y d;obtain⟨u,_,rfl⟩:=EH.mp c;obtain⟨v,_,rfl⟩:=EH.mp d;exact hab
def Aq(t:SetTable)(es:Array (Int×Va))(wanted:Nat):eQ (relayAll t es wanted).2.1:=by
 unfold relayAll;cases h:t.relaid (es.map (·.1)) wanted with
 | none=>exact j4 _ _
 | some x=>
  obtain⟨a,order⟩:=x;dsimp only;split
  .exact zk h
  .exact j4 _ _
def BK{t:SetTable}(hd:t.dummies = #[])(j:Nat):t.slot j≠.dummy:=by
 unfold SetTable.slot;dsimp only;split
 .intro z;cases z
 .rw[hd];rw[Fs (by unfold SetTable.has;simp)];intro z;cases z
theorem oV{t:SetTable}(hd:t.dummies = #[])(hash:Nat->Int)(h:Int):∀(fuel:Nat) (p:SetTable.Probe) (j:Nat) (d:Option Nat),p.dummy=Vo->SetTable.probe.go t hash h fuel p=Vn (.empty j d)->d=Vo/\t.slot j=.empty
 | 0,p,j,d,_,e=>by unfold SetTable.probe.go at e;cases e
 | fuel+1,p,j,d,a,e=>by
  unfold SetTable.probe.go at e;cases hs:t.slot p.j with
  | empty=>
   rw[hs]at e;cases e;exact⟨a,hs⟩
  | dummy=>exact absurd hs (BK hd _)
  | live i=>
   rw[hs]at e;dsimp only at e;split at e
   .cases e
   .refine oV hd hash h fuel _ j d ?_ e;unfold SetTable.advance;split<;>exact a
def CO{t:SetTable}(hi:eQ t){j:Nat}(h:t.slot j=.empty):eQ (t.put j).1:=by refine⟨?_,Tb.AZ hi.2 (Tb.DP hi.2 h)⟩;show(if SetTable.has t.dummies j then _ else t.dummies) = #[];rw[hi.1,Fs (by unfold SetTable.has;simp)]
def yt{t:SetTable}(hi:eQ t)(es:Array (Int×Va))(h:Int)(x:Va):eQ (layNew t es h x).2.1:=by
 unfold layNew;cases a:t.freeSlot h with
 | none=>exact j4 _ _
 | some y=>
  obtain⟨slot,b⟩:=y;dsimp only;show eQ ((t.put slot).1.orStandIn _);unfold SetTable.orStandIn;split
  .refine CO hi ?_;unfold SetTable.freeSlot at a;split at a
   .rename_i j d hpr;obtain⟨rfl,h2⟩:=oV hi.1 _ _ _ _ _ _ (show(t.probeStart h).dummy=Vo from rfl) hpr;cases a;exact h2
   .cases a
  .exact j4 _ _
theorem below_at{xs:Array Nat}(hs:xs.toList.Pairwise (· < ·)){i j:Nat}(h:xs[i]?=Vn j):SetTable.below xs (j+1)=i+1:=by
 obtain⟨h1,h2,d⟩:=Tb.kx hs (j+1);have hi:i<SetTable.below xs (j+1):=by
  rcases Fh i (SetTable.below xs (j+1))with z|z
  .exact z
  .have:=d i j z h;lia
 rcases Fh (i+1) (SetTable.below xs (j+1))with z|z
 .have c:xs[i+1]?=Vn xs[i+1]:=getElem?_pos xs (i+1) (by omega);have a:=h2 (i+1) _ z c;have b:=Tb.kr hs h c (Nat.lt_succ_self i);lia
 .omega
theorem Dp{xs:Array Nat}(hs:xs.toList.Pairwise (· < ·)):SetTable.below xs 0=0:=by
 obtain⟨h1,h2,a⟩:=Tb.kx hs 0;rcases Nat.eq_zero_or_pos (SetTable.below xs 0)with z|z
 .exact z
 .have:=h2 0 _ z (getElem?_pos xs 0 (by lia));lia
section
variable {P:Vd} {w:Ve} {A:Vi} {E:Va->Vc->Prop} {s:Vc}
def yJ{it:Vb}{i slot:Nat}{es:Array (Int×Va)}{t:SetTable}{Q:Option Va->Vc->Prop}(e:w.params.followText "set-order" = false)(hit:s.heap.get? it=Vn (cg a (rawInt (slot:Int)) i es.size ep))(ho:s.heap.get? a=Vn o)(hd:o.data=.set es ep t)(d:t.fits es.size=true)(h1:(!t.plain && decide (es.size>1))=false)(g:t.led=true)
  {x:Int×Va} {j:Nat} (h:es[SetTable.below t.place slot]?=Vn x) (l:t.place[SetTable.below t.place slot]?=Vn j) (m:∀h',h'.get? it=Vn (cg a (rawInt ((j+1:Nat):Int)) (i+1) es.size ep)->Heap.SameBut it s.heap h'->Q (Vn x.2) { s with heap:=h' }):Vf (Vg P w) A (pyNext (.ref it)) Q E s:=by
 have T:s.TypeIs (.ref it) "set_iterator":=⟨_,hit,rfl⟩;unfold pyNext;refine Em (wpAny_attempt (Fn (name:=Fb "__next__") T SF.slot_next (wpAny_call_entry SF.slot_next T SF.entry_next ?_ (SF.args_next _))));show Vf _ _ (fieldsOf (.ref it) >>= _) _ _ s;refine Em (wpAny_fieldsOf hit rfl ?_);show Vf _ _ (setEntries a >>= _) _ _ s;unfold setEntries;refine Em (Em (Fm ho hd d (En ?_)));rw[Fs (by simp)];show Vf _ _ (setNext a slot _ _ >>= _) _ _ s;unfold setNext;refine Em (Em (Fm ho hd d ?_));dsimp only;unfold setsByText;refine Em (Em (wpAny_askSetting (En ?_)));rw[show (Vg P w).w.params.followText "set-order" = false from e];simp only[Fg,if_false];have c:¬((!t.plain && decide (es.size>1))=true):=by rw[h1];exact EL
 split
 .rename_i hh;exact absurd hh c
 .refine Em ?_;show Vf _ _ (if(!t.led && !es.isEmpty)=true then unsupported _ else pure ()) _ _ _;rw[Fs (by rw[g];exact EL)];refine En (En ?_);rw[h,l];dsimp only;refine Em (wpAny_setField hit rfl (by simp) ?_);have b:(s.heap.update it (Obj.mapFields (·.setIfInBounds 0 (rawInt ((j+1:Nat):Int))))).get? it=Vn (cg a (rawInt ((j+1:Nat):Int)) i es.size ep):=iJ (k:=0) (x:=rawInt ((j+1:Nat):Int)) hit rfl;refine Em (wpAny_setField (s:={ s with heap:=s.heap.update it (Obj.mapFields (·.setIfInBounds 0 (rawInt ((j+1:Nat):Int)))) }) b rfl (by simp) ?_);have n:=iJ (k:=1) (x:=rawInt ((i:Int)+1)) b rfl;refine En ⟨_,rfl,En (m _ ?_ ((Heap.SameBut.update ..).trans (Heap.SameBut.update ..)))⟩;exact n
def Ee{it:Vb}{i slot:Nat}{es:Array (Int×Va)}{t:SetTable}{Q:Option Va->Vc->Prop}(b:A.handled=Vo)(e:w.params.followText "set-order" = false)(hit:s.heap.get? it=Vn (cg a (rawInt (slot:Int)) i es.size ep))(ho:s.heap.get? a=Vn o)(hd:o.data=.set es ep t)(d:t.fits es.size=true)(h1:(!t.plain && decide (es.size>1))=false)(g:t.led=true)
  (h:es[SetTable.below t.place slot]?=Vo) (j:∀h',Heap.ExtBut it s.heap h'->Q Vo { s with heap:=h' }):Vf (Vg P w) A (pyNext (.ref it)) Q E s:=by
 have T:s.TypeIs (.ref it) "set_iterator":=⟨_,hit,rfl⟩;unfold pyNext;refine Em (wpAny_attempt (Fn (name:=Fb "__next__") T SF.slot_next (wpAny_call_entry SF.slot_next T SF.entry_next ?_ (SF.args_next _))));show Vf _ _ (fieldsOf (.ref it) >>= _) _ _ s;refine Em (wpAny_fieldsOf hit rfl ?_);show Vf _ _ (setEntries a >>= _) _ _ s;unfold setEntries;refine Em (Em (Fm ho hd d (En ?_)));rw[Fs (by simp)];show Vf _ _ (setNext a slot _ _ >>= _) _ _ s;unfold setNext;refine Em (Em (Fm ho hd d ?_));dsimp only;unfold setsByText;refine Em (Em (wpAny_askSetting (En ?_)));rw[show (Vg P w).w.params.followText "set-order" = false from e];simp only[Fg,if_false];have c:¬((!t.plain && decide (es.size>1))=true):=by rw[h1];exact EL
 split
 .rename_i b;exact absurd b c
 .refine Em ?_;show Vf _ _ (if(!t.led && !es.isEmpty)=true then unsupported _ else pure ()) _ _ _;rw[Fs (by rw[g];exact EL)];refine En (En ?_);rw[h];dsimp only;refine Em (wpAny_setField hit rfl (by simp) ?_);exact lX (s:=s) (it:=it) b (Heap.SameBut.update ..).extBut j
theorem ym(B:A.handled=Vo)(n:w.params.followText "set-order" = false)(I a:Vb)(hne:a≠I){es:Array (Int×Va)}{t:SetTable}(hd:o.data=.set es ep t)(p:t.fits es.size=true)(h1:(!t.plain && decide (es.size>1))=false)(q:t.led=true)(F:t.place.size=es.size)(c:t.place.toList.Pairwise (· < ·)):
  Walks P w A I [I,a] [I] es.size (λi v=>∃x,es[i]?=Vn x/\v=x.2) (λi h=>(∃slot:Nat,h.get? I=Vn (cg a (rawInt (slot:Int)) i es.size ep)/\SetTable.below t.place slot=i)/\h.get? a=Vn o) where
 sub:=λb hb=>by simp at hb;simp[hb]
 frame:=λ_ _ _ st r=>by obtain⟨⟨slot,h1,h2⟩,C⟩:=st;exact⟨⟨slot,r I (by simp) _ h1,h2⟩,r a (by simp) _ C⟩
 item:=λi s Q E hi st d=>by obtain⟨⟨slot,g,j⟩,k⟩:=st;have u:=getElem?_pos es i hi;have y:=getElem?_pos t.place i (by lia);refine yJ n g k hd p h1 q (by rw[j];exact u) (by rw[j];exact y) λh' l z=>?_;refine d _ h' s.toks ⟨_,u,rfl⟩ ⟨⟨_,l,?_⟩,(z.2 a hne).trans k⟩ λb o hb e=>z.extBut b o (λh=>hb (by simp[h])) e;exact below_at c y
 done:=λs Q E st d=>by obtain⟨⟨slot,g,j⟩,k⟩:=st;exact Ee B n g k hd p h1 q (by rw[j];exact Array.getElem?_eq_none (ER _)) λh' m=>d h' s.toks λb o hb e=>m b o (λh=>hb (by simp[h])) e
 self:=λi s Q E st d=>by obtain⟨⟨slot,g,j⟩,k⟩:=st;exact oB g d
def Ax{es:Array (Int×Va)}{t:SetTable}(ho:s.heap.get? a=Vn o)(hex:o.ExactSet)(hd:o.data=.set es ep t)(b:t.fits es.size=true)(hsz:es.size<=sizeLine)
  (k:w.params.followText "set-order" = true\/(!t.plain && decide (es.size>1))=false->Q (.ref s.heap.objs.size) { s with heap:=s.heap.push (cg a (rawInt 0) 0 es.size ep) })
  (l:∀(ys:List Nat) d,ys.Perm (Fo es.size)->Q (.ref (s.heap.objs.size+1)) { s with heap:=(s.heap.push (seqObj "tuple" (ys.map λ(i:Nat)=>rawInt i).toArray 0)).push (cg a (.ref s.heap.objs.size) 0 es.size ep),drawn:=d }) :
  Vf (Vg P w) A (pyIter (.ref a)) Q E s:=by
 have T:s.TypeIs (.ref a) "set":=⟨o,ho,hex.1⟩;refine wpAny_pyIter_slot T F.slot_set_iter (wpAny_call_entry F.slot_set_iter T SF.Bt ?_ (SF.B7 _));show Vf _ _ (Builtin.Frozenset.sizeOf a >>= _) _ _ s;unfold Builtin.Frozenset.sizeOf setEntries;refine Em (Em (Em (Fm ho hd b (En (En ?_)))));show Vf _ _ (setDrawn a >>= _) _ _ s;unfold setDrawn;refine Em (Em (Fm ho hd b ?_));dsimp only;unfold setsByText;refine Em (Em (wpAny_askSetting (En (En ?_))));by_cases c:(!(w.params.followText "set-order") && (!t.plain && decide (es.size>1)))=true
 .rw[Ft (by exact c)];refine Em (wM _ _ s (by rw[List.length_range]) λys d j=>?_);have e:ys.length=es.size:=by rw[j.length_eq,List.length_range]
  simp only[newTuple];refine Em (wpAny_newObj_type ?_ (by show(List.map _ ys).toArray.size<=sizeLine;rw[EB,Ew,e];exact hsz));unfold setEpoch;refine Em (Em (Fm (s:={ s with heap:=s.heap.push (seqObj "tuple" (ys.map λ(i:Nat)=>rawInt i).toArray 0),drawn:=d }) (Ep _ ho) hd b (En ?_)));simp only[newFields];have g:(s.heap.push (seqObj "tuple" (ys.map λ(i:Nat)=>rawInt i).toArray 0)).objs.size=s.heap.objs.size+1:=Heap.size_push _ _;refine Em (wpAny_newObj_type (En ⟨_,rfl,"set_iterator",_,⟨_,Er _ rfl,rfl⟩,SF.slot_next.lookup,?_⟩) (by size_fits));have:=l ys d j;rw[<-g]at this;exact this
 .rw[Fs (by exact c)];refine Em (En ?_);unfold setEpoch;refine Em (Em (Fm ho hd b (En ?_)));simp only[newFields];refine Em (wpAny_newObj_type (En ⟨_,rfl,"set_iterator",_,⟨_,Er _ rfl,rfl⟩,SF.slot_next.lookup,?_⟩) (by size_fits));refine k ?_;cases h:w.params.followText "set-order" with
  | true=>exact .inl rfl
  | false=>
   rw[h,Bool.not_false,Bool.true_and]at c;exact .inr (Bool.eq_false_iff.mpr c)
theorem yS{es:Array (Int×Va)}{t:SetTable}(hA:A.handled=Vo)(ho:s.heap.get? a=Vn o)(hex:o.ExactSet)(hd:o.data=.set es ep t)(m:t.fits es.size=true)(k:t.led=dI w)(O:t.place.size=es.size)(j:t.place.toList.Pairwise (· < ·))(hsz:es.size<=sizeLine)
  (h:∀(I:Vb) (h1:Vh) d (fp:List Vb) (Pz:Nat->Va->Prop) (St:Nat->Vh->Prop),Walks P w A I fp [I] es.size Pz St->St 0 h1->s.heap.objs.size<=I->(∀c∈fp,c=a\/s.heap.objs.size<=c)->(∀b o',s.heap.get? b=Vn o'->h1.get? b=Vn o')->(∀acc:Array Va,acc.size=es.size->(∀i v,acc[i]?=Vn v->Pz i v)->acc.toList.Perm (es.toList.map (·.2)))->Q (.ref I) { s with heap:=h1,drawn:=d }):Vf (Vg P w) A (pyIter (.ref a)) Q E s:=by
 have hlt:a<s.heap.objs.size:=Es ho;have inOrder:∀{xs:Array (Int×Va)} {acc:Array Va},acc.size=xs.size->(∀i v,acc[i]?=Vn v->∃x:Int×Va,xs[i]?=Vn x/\v=x.2)->acc.toList=xs.toList.map (·.2):=λ{xs acc} p l=>by
  apply List.ext_getElem
  .rw[EA,Ew,EA,p]
  .intro i q Y;rw[EA]at q;obtain⟨x,u,B⟩:=l i acc[i] (getElem?_pos acc i q);rw[Array.getElem_toList,B,List.getElem_map,Array.getElem_toList];obtain⟨_,e⟩:=Array.getElem?_eq_some_iff.mp u;rw[e]
 refine Ax ho hex hd m hsz (λR=>?_) (λys d g=>?_)
 .have hfp:∀c∈[s.heap.objs.size,a],c=a\/s.heap.objs.size<=c:=λc C=>by
   rcases EK.mp C with z|z
   .exact .inr (Nat.le_of_eq z.symm)
   .exact .inl (EG.mp z)
  have r:(s.heap.push (cg a (rawInt 0) 0 es.size ep)).get? s.heap.objs.size=Vn (cg a (rawInt 0) 0 es.size ep):=Er _ rfl;have N:=Ep (cg a (rawInt 0) 0 es.size ep) ho;cases g:w.params.followText "set-order" with
  | true=>
   refine h _ _ s.drawn _ _ _ (zF hA g s.heap.objs.size a (EO hlt) hd m) ⟨r,N⟩ (ER _) hfp (λb o' e=>Ep _ e) λacc F G=>?_;have H:(pickOrder (w.params.setOrder a ep) es).size=es.size:=by rw[<-EA,(j7 _ es).length_eq,EA]
   rw[inOrder (F.trans H.symm) G];exact(j7 (w.params.setOrder a ep) es).map (·.2)
  | false=>
   have H:t.led=true:=by rw[k];show(!w.params.followText "set-order")=true;rw[g];rfl
   refine h _ _ s.drawn _ _ _ (ym hA g s.heap.objs.size a (EO hlt) hd m (R.resolve_left (by rw[g];decide)) H O j) ⟨⟨0,r,Dp j⟩,N⟩ (ER _) hfp (λb o' e=>Ep _ e) λacc F G=>?_;rw[inOrder F G]
 .have J:(s.heap.push (seqObj "tuple" (ys.map λ(i:Nat)=>rawInt i).toArray 0)).objs.size=s.heap.objs.size+1:=Heap.size_push _ _;have r:((s.heap.push (seqObj "tuple" (ys.map λ(i:Nat)=>rawInt i).toArray 0)).push (cg a (.ref s.heap.objs.size) 0 es.size ep)).get? (s.heap.objs.size+1)=some (cg a (.ref s.heap.objs.size) 0 es.size ep):=by rw[<-J];exact Er _ rfl
  refine h _ _ d _ _ _ (BS hA (s.heap.objs.size+1) a s.heap.objs.size (EO (Nat.lt_succ_of_lt hlt)) (EO (Nat.lt_succ_self _)) hd m g) ⟨r,Ep _ (Ep _ ho),Ep _ (Er _ rfl)⟩ (Nat.le_succ _) (λc C=>?_) (λb o' e=>Ep _ (Ep _ e)) λacc h1 h2=>?_
  .rcases EK.mp C with z|z
   .exact .inr (by rw[z];exact Nat.le_succ _)
   .rcases EK.mp z with z|z
    .exact .inl z
    .exact .inr (Nat.le_of_eq (EG.mp z).symm)
  .have L:ys.length=es.size:=by rw[g.length_eq,List.length_range]
   have S:acc.toList=(ys.filterMap (es[·]?)).map (·.2):=by
    apply List.ext_getElem?;intro i;rw[Ey,Tb.nK es ys (λy M=>List.mem_range.mp (g.mem_iff.mp M))];by_cases q:i<acc.size
    .have p:=getElem?_pos acc i q;obtain⟨y,x,M,u,B⟩:=h2 i acc[i] p;have l:acc.toList[i]?=Vn acc[i]:=by rw[Array.getElem?_toList];exact p
     rw[l,M,E2,u,B];rfl
    .have l:acc.toList[i]?=none:=List.getElem?_eq_none (by rw[EA];lia);rw[l,List.getElem?_eq_none (by rw[L,<-h1];lia)];rfl
   rw[S];refine List.Perm.map _ ?_;have T:(Fo es.size).filterMap (es[·]?)=es.toList:=by
    apply List.ext_getElem?;intro n;have U:es.toList[n]?=es[n]?:=Array.getElem?_toList;rw[U,Tb.nK es _ (λi hi=>List.mem_range.mp hi)];by_cases W:n<es.size
    .rw[List.getElem?_range W];rfl
    .have X:(Fo es.size)[n]?=Vo:=List.getElem?_eq_none (by rw[List.length_range];lia);rw[X,Array.getElem?_eq_none (by lia)];rfl
   rw[<-T];exact g.filterMap _
def yg{es:Array (Int×Va)}{t:SetTable}{Q:List Va->Vc->Prop}(hA:A.handled=Vo)(ho:s.heap.get? a=Vn o)(hex:o.ExactSet)(hd:o.data=.set es ep t)(C:t.fits es.size=true)(n:t.led=dI w)(G:t.place.size=es.size)
  (p:t.place.toList.Pairwise (· < ·)) (hsz:es.size<=sizeLine) (H:∀(h':Vh) (tk:Nat) d (vs:List Va),vs.Perm (es.toList.map (·.2))->s.toks<=tk->s.heap.objs.size<h'.objs.size->(∀b o,b<s.heap.objs.size->s.heap.get? b=Vn o->h'.get? b=Vn o)->Q vs { s with heap:=h',toks:=tk,drawn:=d }):Vf (Vg P w) A (collect (.ref a)) Q E s:=by
 have hlt:a<s.heap.objs.size:=Es ho;unfold collect;refine Em (wpAny_runValue (codeAny_builtin F.entry_proto_collect ?_));rw[Around.under_plainId F.plain_proto_collect _];show Vf _ A.in1 (newList [] >>= λl=>again (.builtin "list.__iadd__" ⟨[l,.ref a],[]⟩)) _ _ s;refine Em (wpAny_newObj_type ?_);refine En ⟨plainId_quiet F.plain_list_iadd _,codeAny_builtin F.entry_list_iadd ?_⟩;rw[Around.under_plainId F.plain_list_iadd _];show Vf _ A.in1 (Builtin.List.listExtendWith (.ref s.heap.objs.size) (.ref a) (.ref s.heap.objs.size)) _ _ { s with heap:=s.heap.push (seqObj "list" #[] 0) };unfold Builtin.List.listExtendWith;have j:(s.heap.push (seqObj "list" #[] 0)).get? a=Vn o:=Ep _ ho;have k:(s.heap.push (seqObj "list" #[] 0)).objs.size=s.heap.objs.size+1:=Heap.size_push _ _;refine Em (wpAny_typeOf (T:="set") ⟨o,j,hex.1⟩ ?_);have J:Builtin.List.listSameRef (.ref s.heap.objs.size) (.ref a)=false:=by have:s.heap.objs.size≠a:=Nat.ne_of_gt hlt;simp[Builtin.List.listSameRef,this]
 have L:(Value.type "set" == Value.type "list")=false:=by decide
 have M:(Value.type "set" == Value.type "tuple")=false:=by decide
 simp only[J,L,M,Bool.or_false,Fg,if_false];refine Em (yS (s:={ s with heap:=s.heap.push (seqObj "list" #[] 0) }) (by simp[hA]) j hex hd C n G p hsz λI h1 d fp Pz St W v N hfp hold hPm=>?_);have x:s.heap.objs.size+1<=I:=by rw[<-k];exact N
 refine Em (wpAny_holding (xR (s:={ s with heap:=h1,drawn:=d }) ⟨o,hold _ _ j,hex.1⟩ ?_));rw[Ft (by first|rfl|decide +kernel|kernel_rfl)];refine Em (wpAny_rule ?_);have g:h1.get? s.heap.objs.size=Vn (seqObj "list" #[] 0):=hold _ _ (Er _ rfl);refine Em ?_;show Vf _ A.in1 (updateSeq s.heap.objs.size (·.push .none) >>= λ_=>updateSeq s.heap.objs.size (·.pop)) _ _ { s with heap:=h1,drawn:=d };refine Em (wpAny_updateSeq g rfl ?_);have h:=Heap.get?_update_self (Obj.mapSeq (·.push Value.none)) g rfl;refine wpAny_updateSeq (s:={ s with heap:=h1.update s.heap.objs.size (Obj.mapSeq (·.push Value.none)),drawn:=d }) h rfl ?_;have m:=Heap.get?_update_self (Obj.mapSeq (·.pop)) h rfl;have oth:∀b o,b≠s.heap.objs.size->h1.get? b=Vn o ->
   ((h1.update s.heap.objs.size (Obj.mapSeq (·.push Value.none))).update s.heap.objs.size (Obj.mapSeq (·.pop))).get? b=Vn o:=
  λb o hb e=>(Heap.get?_update_other _ _ (Ne.symm hb)).trans ((Heap.get?_update_other _ _ (Ne.symm hb)).trans e)
 refine En ⟨plainId_quiet F.plain_extend_loop _,codeAny_extend_loopS W.toS hsz _ (λz=>by
  rcases hfp _ z with e|e
  .exact Nat.ne_of_gt hlt e
  .rw[k]at e;exact absurd e (Nat.not_succ_le_self _)) _ es.size 0 { s with heap:=(h1.update s.heap.objs.size (Obj.mapSeq (·.push Value.none))).update s.heap.objs.size (Obj.mapSeq (·.pop)),drawn:=d } _ _ rfl (Nat.zero_le _)
  (W.frame _ _ _ v λc O o' e=>oth c o' (λz=>by
   rcases hfp c O with e|e
   .rw[z]at e;exact Nat.ne_of_gt hlt e
   .rw[z,k]at e;exact absurd e (Nat.not_succ_le_self _)) e) m (ItemsOf.nil _) λs' q c' r u i=>?_⟩
 show Vf _ A (load s.heap.objs.size >>= _) _ _ s';refine Em (wpAny_load u ?_);obtain⟨h',R,S,y,B⟩:=s';have U:R=s.gens:=r.gens;have X:S=d:=r.drawn;have Y:B=s.os:=r.os;subst U X Y;refine En (H h' y _ _ (hPm q i.1 i.2) r.toks (Es u) λb o' hb e=>r.heap b o' (λz=>?_) (oth b o' (EO hb) ?_))
 .rcases EK.mp z with z|z
  .exact EO hb z
  .have z:=EG.mp z;rw[z]at hb;exact absurd hb (Nat.not_lt.mpr (Nat.le_of_succ_le x))
 .exact hold _ _ (Ep _ e)
def ee(P:Vd)(w:Ve)(h:Vh)(a:Vb)(S:Int->Bool)(n:Nat):Prop:=
 ∃o es ep t,h.get? a=Vn o/\o.ExactSet/\o.data=.set es ep t/\ElemsOf (PySem.intKind P w) es.toList/\(∀k,S k=true↔∃e∈es.toList,(PySem.intKind P w).is k e.2=true)/\es.size<scanBound/\t.fits es.size=true/\es.size=n/\t.led=dI w/\eQ t
def ee.store{es b:Array (Int×Va)}{t t':SetTable}{S':Int->Bool}(ho:h.get? a=Vn o)(hex:o.ExactSet)(hd:o.data=.set es ep t)
  (c:ElemsOf (PySem.intKind P w) b.toList) (hmem:∀k,S' k=true↔∃e∈b.toList,(PySem.intKind P w).is k e.2=true) (hb:b.size<scanBound) (g:t'.fits b.size=true) (i:t'.led=dI w) (hi:eQ t') :
  (h.update a (Obj.putSet b t')).get? a=Vn { o with data:=.set b (ep+1) t' }/\ee P w (h.update a (Obj.putSet b t')) a S' b.size:=by
 have d:(h.update a (Obj.putSet b t')).get? a=Vn { o with data:=.set b (ep+1) t' }:=by have:=Heap.get?_update_self (Obj.putSet b t') ho (by rw[putSet_of b t' hd];rfl);rw[putSet_of b t' hd]at this;exact this
 exact⟨d,_,b,ep+1,t',d,hex,rfl,c,hmem,hb,g,rfl,i,hi⟩
theorem tJ {g : Bool -> Sem Unit} (L : ∀ (b : Bool) (i : Vc) (H : Unit -> Vc -> Prop), H () i -> Vf (Vg P w) A (g b) H E i)
    {a : Vb} {o : Obj} {es c : Array (Int × Va)} {ep : Nat} {t d : SetTable} {S' : Int -> Bool} (ho : s.heap.get? a = Vn o) (hex : o.ExactSet) (hd : o.data = .set es ep t)
    (hel1 : ElemsOf (PySem.intKind P w) c.toList) (hmem1 : ∀ v, S' v = true ↔ ∃ e ∈ c.toList, (PySem.intKind P w).is v e.2 = true) (n : c.size < scanBound) (x : d.fits c.size = true) (p : d.led = dI w) (y : eQ d) {M : Bool} {R : Option Bool -> Vc -> Prop}
    (h : ∀ h', Heap.SameBut a s.heap h' -> ee P w h' a S' c.size -> R (Vn true) { s with heap := h' }) :
    Vf (Vg P w) A (do
        storeSet a c d
        if (!M && d.tooFull) = true then do
            g (relayAll d c (SetTable.grown c.size)).2.2
            storeSet a (relayAll d c (SetTable.grown c.size)).1 (relayAll d c (SetTable.grown c.size)).2.1
            pure (Vn true)
          else pure (Vn true)) R E s := by
  refine Em (wpAny_storeSet_of ho hd ?_ (fits_of_scanBound n));obtain ⟨r, z⟩ := ee.store (P := P) ho hex hd hel1 hmem1 n x p y;have j := Heap.SameBut.update s.heap a (Obj.putSet c d);split
  . have m := relayAll_perm d c (SetTable.grown c.size)
    have k := relayAll_fits d c (SetTable.grown c.size);obtain ⟨B, I⟩ := xo d c (SetTable.grown c.size);have l := Aq d c (SetTable.grown c.size);generalize relayAll d c (SetTable.grown c.size) = N at m k B I l ⊢;obtain ⟨C, O, J⟩ := N;dsimp only at m k B I l ⊢;have F : C.size = c.size := by rw [<- EA, m.length_eq, EA]
    refine Em (L _ _ _ (Em (wpAny_storeSet_of r rfl ?_ (fits_of_scanBound (by lia)))));obtain ⟨_, u⟩ := ee.store (P := P) (w := w) (S' := S') r hex rfl (hel1.perm m) (λv => (hmem1 v).trans ⟨λ⟨e, G, q⟩ => ⟨e, m.mem_iff.mpr G, q⟩, λ⟨e, G, q⟩ => ⟨e, m.mem_iff.mp G, q⟩⟩) (by lia) k (B.trans p) l;rw [F] at u;exact En (h _ (j.trans (Heap.SameBut.update _ a _)) u)
  . exact En (h _ j z)
theorem Av{S:Int->Bool}{k:Int}{tk:Tok}{Q:Bool->Vc->Prop}(T:ee P w s.heap a S n)(H:n+1<scanBound)
  (h:∀h' b,Heap.SameBut a s.heap h'->ee P w h' a (λi=>S i || decide (i=k)) (if S k then n else n+1)->Q b { s with heap:=h' }) :
  Vf (Vg P w) A (setAddHashed a (.int k tk) ((PySem.intKind P w).hash k)) Q E s:=by
 obtain⟨o,es,ep,t,ho,hex,hd,r,hmem,hb,I,N,l,z⟩:=T;have m:(PySem.intKind P w).is k (.int k tk)=true:=pA k tk;have hsc:(Value.int k tk).scannable=true:=rfl;unfold setAddHashed setAddHashedIn;refine wpAny_holding (Em (Fm ho hd I ?_));dsimp only;rw[byScan_of hsc hb r];simp only[↓reduceIte];unfold setAddByScan;refine Em (Em (wpAny_rule (Em (wpAny_setScan_of m ho hd I r ?_))));cases O:List.findIdx? (λe=>(PySem.intKind P w).is k e.2) es.toList with
 | some j=>
  dsimp only;obtain⟨U,J,_⟩:=List.findIdx?_eq_some_iff_getElem.mp O;have u:S k=true:=(hmem k).mpr ⟨es.toList[j],EX U,J⟩;refine En (En ?_);have e:s={ s with heap:=s.heap }:=by cases s;rfl
  rw[e];refine h s.heap _ (Heap.SameBut.refl a s.heap) ⟨o,es,ep,t,ho,hex,hd,r,λi=>?_,hb,I,by rw[u];exact N,l,z⟩;rw[Bool.or_eq_true,decide_eq_true_eq,<-hmem i];exact⟨λM=>M.elim id (λe=>e ▸ u),.inl⟩
 | none=>
  dsimp only;have u:S k=false:=by
   cases M:S k with
   | false=>rfl
   | true=>
    obtain⟨e,W,X⟩:=(hmem k).mp M;have:=List.findIdx?_eq_none_iff.mp O e W;rw[X]at this;cases this
  have hgw:∀(b:Bool) {g:Vc} {C:Unit->Vc->Prop},C () g->Vf (Vg P w) A (match b with|true=>rule "set.scan.the-table-gave-way"|false=>pure ()) C E g:=
   λb g C B=>by cases b<;>first|exact En B|exact wpAny_rule B
  have c:=layNew_perm t es ((PySem.intKind P w).hash k) (.int k tk);have d:=layNew_fits t es ((PySem.intKind P w).hash k) (.int k tk);have v:=Ab t es ((PySem.intKind P w).hash k) (.int k tk);have x:=yt z es ((PySem.intKind P w).hash k) (.int k tk);generalize layNew t es ((PySem.intKind P w).hash k) (.int k tk)=L at c d v x ⊢;obtain⟨y,Y,Z,R⟩:=L;dsimp only at c d v x ⊢;rw[Array.toList_push]at c;have hel1:ElemsOf (PySem.intKind P w) y.toList:=(r.push m hsc).perm c;have hmem1:∀i,(S i || decide (i=k))=true↔∃e∈y.toList,(PySem.intKind P w).is i e.2=true:=mem_push_iff m hmem c;have F:y.size=n+1:=by rw[<-EA,c.length_eq,EN,EA,N];rfl
  refine Em (hgw _ ?_);have hend:∀h' b,Heap.SameBut a s.heap h'->ee P w h' a (λi=>S i || decide (i=k)) y.size->Q b { s with heap:=h' }:=by intro h' b p q;refine h h' b p ?_;rw[u,Fs EL,<-F];exact q
  by_cases G:Y.plain=true
  .rw[Ft G];refine Em ?_;rw[hashByValue_scannable 8 hsc];refine En ?_;rw[show plainKind (.int k tk)=true from rfl];simp only[if_true];refine tJ ?_ ho hex hd hel1 hmem1 (by lia) d (v.trans l) x ?_
   .intro b g C B;cases b<;>first|exact En B|exact wpAny_rule B
   .intro h' p q;dsimp only;exact En (hend h' _ p q)
  .rw[Fs G];refine Em (En ?_);simp only[if_true];refine tJ ?_ ho hex hd hel1 hmem1 (by lia) d (v.trans l) x ?_
   .intro b g C B;cases b<;>first|exact En B|exact wpAny_rule B
   .intro h' p q;dsimp only;exact En (hend h' _ p q)
def eU(P:Vd)(w:Ve)(h:Vh)(a:Vb)(D:List Int):Prop:=D.Nodup/\ee P w h a (λk=>decide (k∈D)) D.length
def eU.elems{D:List Int}(l:eU P w h a D):∃o es ep t ds,h.get? a=Vn o/\o.ExactSet/\o.data=.set es ep t/\t.fits es.size=true/\t.led=dI w/\eQ t/\es.size<scanBound/\es.size=D.length/\IntsAre (es.toList.map (·.2)) ds/\ds.Perm D:=by
 obtain⟨d,o,es,ep,t,ho,hex,hd,g,hmem,hb,m,j,b,c⟩:=l;obtain⟨ds,h1,h2⟩:=sM g;refine⟨o,es,ep,t,ds,ho,hex,hd,m,b,c,hb,j,h1,zm d (λk n=>?_) ?_⟩
 .obtain⟨e,p,i⟩:=(hmem k).mp (Fq n);exact h2 e p k i
 .rw[<-IntsAre.length h1,Ew,EA,j]
def ee.moved{S:Int->Bool}(b:ee P w h a S n)(c:∀o,h.get? a=Vn o->h'.get? a=Vn o):ee P w h' a S n:=by obtain⟨o,es,ep,t,ho,r⟩:=b;exact⟨o,es,ep,t,c _ ho,r⟩
def AJ{D:List Int}{k:Int}(hd:D.Nodup)(c:ee P w h a (λb=>decide (b∈D) || decide (b=k)) (if decide (k∈D)then D.length else D.length+1)):∃g,eU P w h a g/\g.length<=D.length+1/\∀x,x∈g↔x∈D\/x=k:=by
 by_cases d:k∈D
 .refine⟨D,⟨hd,?_⟩,Nat.le_succ _,λx=>⟨.inl,λz=>z.elim id λe=>e ▸ d⟩⟩;rw[Fq d,Ft rfl]at c;have e:(λb=>decide (b∈D) || decide (b=k))=λb=>decide (b∈D):=by
   funext b;by_cases e:b=k
   .subst e;simp[d]
   .simp[e]
  rw[e]at c;exact c
 .refine⟨k::D,⟨List.nodup_cons.mpr ⟨d,hd⟩,?_⟩,ER _,λx=>by rw[EK];exact⟨λz=>z.symm,λz=>z.symm⟩⟩;rw[Fp d,Fs EL]at c;have e:(λb=>decide (b∈D) || decide (b=k))=λb=>decide (b∈k::D):=by funext b;simp only[EK];by_cases e:b=k<;>by_cases i:b∈D<;>simp[e,i]
  rw[e]at c;exact c
theorem DZ{I:Vb}{wr:List Vb}{G:Array GenState->Array GenState->Prop}{Pz:Nat->Va->Prop}{St:Nat->Vc->Prop}(W:WalksS P w A.in1 I fp wr G n Pz St)(S:Vb)(M:S∉fp)(zs:List Int)(u:zs.length=n)(hsz:n+1<scanBound)
  (j:∀i v,Pz i v->∃z t,v=.int z t/\zs[i]?=Vn z) {R:Result->Vc->Prop} :
  ∀(m i:Nat) (s:Vc) (D:List Int),n-i=m->i<=n->St i s->eU P w s.heap S D->D.length<=i->(∀k,k∈D↔k∈zs.take i) ->
   (∀s' D,Moved (S::wr) G s s'->eU P w s'.heap S D->(∀k,k∈D↔k∈zs)->R (.ok (.ret .none)) s') ->
   codeAny (Vg P w) A (.builtin "set.update.loop" ⟨[.ref S,.ref I],[]⟩) R s:=by
 have l:S∉wr:=λz=>M (W.sub _ z);have more:∀b∈wr,b∈S::wr:=λb z=>Ez _ z;intro m;induction m with
 | zero=>
  intro i s D Q hi d a _ r x;obtain rfl:i=n:=by lia
  refine codeAny_builtin F.entry_set_update_loop ?_;rw[Around.under_plainId F.plain_set_update_loop _];show Vf _ A.in1 (pyNext (.ref I) >>= _) _ _ s;refine Em (W.done s _ _ d λs' p=>?_);rw[<-u,EZ]at r;exact En (x s' D (p.mono more) ⟨a.1,a.2.moved λo=>p.heap S o l⟩ r)
 | succ m T=>
  intro i s D Q hi d a U r x;have hlt:i<n:=by lia
  refine codeAny_builtin F.entry_set_update_loop ?_;rw[Around.under_plainId F.plain_set_update_loop _];show Vf _ A.in1 (pyNext (.ref I) >>= _) _ _ s;refine Em (W.item i s _ _ hlt d λv s' X q p=>?_);obtain⟨z,t,rfl,Y⟩:=j i v X;have g:ee P w s'.heap S (λk=>decide (k∈D)) D.length:=a.2.moved λo=>p.heap S o l;show Vf _ A.in1 (holding [Value.int z t] (setAdd S (.int z t)) >>= _) _ _ s';refine Em (wpAny_holding ?_);unfold setAdd;refine wpAny_holding (Em ((PySem.intKind P w).pyHash (k:=z) (pA z t) ?_));refine Av (s:={ s' with toks:=s'.toks+1 }) g (by lia) λh' b N h=>?_;obtain⟨O,y,Z,B⟩:=AJ a.1 h;have C:∀k,k∈O↔k∈zs.take (i+1):=λk=>by rw[B,r k,List.take_add_one,Y,EU];simp
  refine En ⟨plainId_quiet F.plain_set_update_loop _,T (i+1) _ O (by lia) hlt (W.frame _ s' _ _ q (Nat.le_succ _) λc E o e=>?_) y (by lia) C λH D2 J L=>x H D2 (Moved.trans W.gtrans ((p.mono more).then_heap (Nat.le_succ _) λc o E e=>?_) J) L⟩
  .rw[N.2 c (λz:c=S=>M (z ▸ E))];exact e
  .rw[N.2 c (λz:c=S=>E (by rw[z];exact EC))];exact e
theorem AR{zs:List Int}(hA:A.handled=Vo)(gt:s.heap.IsList l ys)(G:IntsAre ys.toList zs)(hsz:ys.size+1<scanBound)
  (h:∀(h':Vh) (tk:Nat) (D:List Int),eU P w h' s.heap.objs.size D->(∀k,k∈D↔k∈zs)->(∀b o,b<s.heap.objs.size->s.heap.get? b=Vn o->h'.get? b=Vn o)->Q (.ref s.heap.objs.size) { s with heap:=h',toks:=tk }):Vf (Vg P w) A (call (.type "set") [.ref l]) Q E s:=by
 have Z:=F.called_set.notType;have x2:=F.called_set.canCreate;have x3:=F.typeCall_set_1 (.ref l);have x4:=F.called_set.made;have x5:=F.called_set.sub;obtain⟨c,tl,x6⟩:=F.called_set.mro;refine wpAny_call (codeAny_of_tree ?_);show Vf _ _ (callAny (.type "set") _) _ _ _;refine En ⟨Code.quiet_builtin _ (by decide +kernel),codeAny_builtin F.entry_type_call ?_⟩;rw[Around.under_plain (weight_type_call_type "set" [.ref l] []) rfl]
 repeat (any_goals (first|assumption|wp_step))
 refine codeAny_mono (CW (.ref l) (E:=E) (Q₁:=λv s1=>v=.ref s.heap.objs.size/\s1={ s with heap:=s.heap.push (cO (dI w)) }) ⟨rfl,rfl⟩) λr s1 m=>?_;cases r with
 | error e=>exact m
 | ok fl=>
  cases fl with
  | ret v=>
   obtain⟨rfl,rfl⟩:=m;have H:(s.heap.push (cO (dI w))).get? s.heap.objs.size=Vn (cO (dI w)):=Er _ rfl;have I:Shared.TypeIs { s with heap:=s.heap.push (cO (dI w)) } (.ref s.heap.objs.size) "set":=⟨_,H,rfl⟩;have x7:=F.called_set.init.lookup;have x8:=F.called_set.init.bind (.ref s.heap.objs.size)
   repeat (any_goals (first|assumption|wp_step))
   refine codeAny_mono (codeAny_call_builtin (R:=wants (λr s2=>r=.none/\∃h' tk D,s2={ s with heap:=h',toks:=tk }/\eU P w h' s.heap.objs.size D/\(∀k,k∈D↔k∈zs)/\∀b o,b<s.heap.objs.size->s.heap.get? b=Vn o->h'.get? b=Vn o) E) F.called_set.init.plain F.entry_set_init (check_set_init_1 I ?_)) λJ s2 a=>?_
   .have n:(s.heap.push (cO (dI w))).IsList l ys:=gt.push _;have hlt:l<s.heap.objs.size:=by obtain⟨o,ho,_⟩:=gt;exact Es ho
    obtain⟨ol,L,hcl,nl,g⟩:=id n;obtain⟨c0,d0,dt,sl⟩:=ol;simp only at hcl g;subst hcl g;have y1:=F.sub_list_set;have y2:=F.sub_list_frozenset;have y3:(Value.type "list" == Value.type "dict")=false:=by decide
    unfold Builtin.«set.__init__» noKeywords Builtin.Frozenset.updateFrom;generalize hit:pyIter=PI
    wp_walk
    subst hit;refine wpAny_pyIter_list n ?_;refine Em (wpAny_runValue ?_);have p:(s.heap.push (cO (dI w))).objs.size=s.heap.objs.size+1:=Heap.size_push _ _;have q:A.in1.in1.in1.handled=Vo:=by simp[hA]
    have hne:l≠(s.heap.push (cO (dI w))).objs.size:=by rw[p];exact EO (Nat.lt_succ_of_lt hlt)
    have u:s.heap.objs.size∉[(s.heap.push (cO (dI w))).objs.size,l]:=by
     intro z;rcases EK.mp z with z|z
     .rw[p]at z;exact EO (Nat.lt_succ_self _) z
     .exact Nat.ne_of_gt hlt (EG.mp z)
    have x:zs.length=ys.size:=by rw[<-IntsAre.length G,EA]
    refine DZ ((Walks.list q _ l hne ys).toS) s.heap.objs.size u zs x hsz (λi v M=>?_) (ys.size-0) 0 _ [] (by lia) (Nat.zero_le _) ⟨⟨_,Er _ rfl,rfl,rfl⟩,n.push _⟩
     ⟨List.nodup_nil,cO (dI w),#[],0,_,Ep _ H,⟨rfl,rfl,rfl⟩,rfl,λe N=>by simp at N,λk=>by simp,by decide,by rfl,rfl,rfl,rfl,.nil⟩ (ER _) (λk=>by simp) λs' D j d y=>?_
    .exact vQ G i v (by rw[Array.getElem?_toList];exact M)
    .obtain⟨h',O,S,B,C⟩:=s';have T:O=s.gens:=j.gens;have U:S=s.drawn:=j.drawn;have W:C=s.os:=j.os;subst T U W;show Vf _ _ _ _ _ _;refine En ?_;show Vf _ _ (ret Value.none) _ _ _;refine En ⟨rfl,h',B,D,rfl,d,y,λb o hb e=>j.heap b o (λz=>?_) (Ep _ (Ep _ e))⟩;rcases EK.mp z with z|z
     .exact EO hb z
     .have z:=EG.mp z;rw[p]at z;exact EO (Nat.lt_succ_of_lt hb) z
   .cases J with
    | error e=>exact a
    | ok X=>
     cases X with
     | ret r=>
      obtain⟨rfl,h',tk,D,rfl,d,y,Y⟩:=a
      repeat (any_goals (first|assumption|wp_step))
      exact h _ _ D d y Y
     | _=>exact a.elim
  | _=>exact m.elim
end
def intOf:Va->Int
 | .int z _=>z
 | _=>0
theorem ints_map:∀(vs:List Va),(∀v∈vs,∃z t,v=Value.int z t)->IntsAre vs (vs.map intOf)
 | [],_=>.nil
 | v::vs,h=>by obtain⟨z,t,rfl⟩:=h v EC;exact .cons z t (ints_map vs λu a=>h u (Ez _ a))
theorem wu:∀{vs:List Va} {zs:List Int},IntsAre vs zs->∀v∈vs,∃z t,v=Value.int z t
 | _,_,.nil,v,h=>by cases h
 | _,_,.cons z t r,v,h=>by
  rcases EK.mp h with rfl|h
  .exact⟨z,t,rfl⟩
  .exact wu r v h
theorem va:∀{vs:List Va} {zs:List Int},IntsAre vs zs->vs.map intOf=zs
 | _,_,.nil=>rfl
 | _,_,.cons z t r=>by show z::_=_;rw[va r]
section
variable {P:Vd} {w:Ve} {A:Vi} {E:Va->Vc->Prop} {s:Vc}
def zb{D:List Int}{Q:List Va->Vc->Prop}(hA:A.handled=Vo)(l:eU P w s.heap a D)
  (m:∀(h':Vh) (tk:Nat) d (vs:List Va) (ds:List Int),IntsAre vs ds->ds.Perm D->s.toks<=tk->s.heap.objs.size<h'.objs.size->(∀b o,b<s.heap.objs.size->s.heap.get? b=Vn o->h'.get? b=Vn o)->Q vs { s with heap:=h',toks:=tk,drawn:=d }):Vf (Vg P w) A (collect (.ref a)) Q E s:=by
 obtain⟨o,es,ep,t,ds,ho,hex,hd,g,c,e,hb,u,hs,h⟩:=l.elems;have n:t.place.size=es.size:=by simp only[SetTable.fits,E9,beq_iff_eq,decide_eq_true_eq]at g;exact g.1
 have i:es.size<=sizeLine:=E4 (Nat.le_of_lt hb) (by decide);have key:∀(h':Vh) (tk:Nat) d (vs:List Va),vs.Perm (es.toList.map (·.2))->s.toks<=tk->s.heap.objs.size<h'.objs.size->(∀b o,b<s.heap.objs.size->s.heap.get? b=Vn o->h'.get? b=Vn o)->Q vs { s with heap:=h',toks:=tk,drawn:=d }:=λh' tk d vs k p q r=>by refine m h' tk d vs _ (ints_map vs λv j=>wu hs v (k.mem_iff.mp j)) ?_ p q r;refine((k.map intOf).trans (List.Perm.of_eq ?_)).trans h;exact va hs
 exact yg hA ho hex hd g c n e.2 i key
theorem zC{D:List Int}(hA:A.handled=Vo)(v:eU P w s.heap a D)(x:D.length<64)
  (h:∀(h':Vh) (tk:Nat) d (l:Vb) (vs:List Va) (p:List Int),s.heap.objs.size<=l->(∃e,h'.get? l=Vn (seqObj "list" vs.toArray e))->IntsAre vs p->p.Perm D->p.Pairwise (λa b:Int=>a<=b)->s.toks<=tk ->
   (∀b o,b<s.heap.objs.size->s.heap.get? b=Vn o->h'.get? b=Vn o)->Q (.ref l) { s with heap:=h',toks:=tk,drawn:=d }) :
  Vf (Vg P w) A (call (.builtin "sorted") [.ref a]) Q E s:=by
 refine Calls.call_function_entry kind_sorted plain_sorted entry_sorted (args_sorted1 _) ?_;unfold Builtin.«sorted»;refine Em (m:=checkCount "sorted" 1 1 _) (En ?_);refine Em (zb (by simp[hA]) v λh1 tk d vs ds i j q c r=>?_);have y:vs.length=D.length:=(IntsAre.length i).trans j.length_eq;refine Em (wpAny_newList ?_ (E4 (show vs.length<=64 by lia) (by decide)));have g:(h1.push (seqObj "list" vs.toArray 0)).get? h1.objs.size=Vn (seqObj "list" vs.toArray 0):=Er _ rfl;refine Em (wpAny_holding (wpAny_call_entry slot_list_sort ⟨_,g,rfl⟩ entry_list_sort (list_sort_tree (s:={ s with heap:=h1.push (seqObj "list" vs.toArray 0),toks:=tk,drawn:=d }) g i (by lia) λout u z B C=>⟨_,rfl,?_⟩) (args_list_sort _)));refine En ⟨_,rfl,?_⟩;refine h _ tk d h1.objs.size out.toList u (Nat.le_of_lt c) ?_ z (B.trans j) C q λb o' hb e=>?_
 .obtain⟨k,r1⟩:∃k,((h1.push (seqObj "list" vs.toArray 0)).update h1.objs.size (Obj.mapSeq λ_=>#[])).get? h1.objs.size=Vn (seqObj "list" #[] k):=⟨_,get?_update_seq g (λ_=>#[])⟩;have F:(((((h1.push (seqObj "list" vs.toArray 0)).update h1.objs.size (Obj.mapSeq λ_=>#[])).push (seqObj "tuple" vs.toArray 0)).push (seqObj "list" #[] 0))).get? h1.objs.size=Vn (seqObj "list" #[] k):=Ep _ (Ep _ r1);have G:=get?_update_seq F (λ_=>out);exact⟨_,by rw[Array.toArray_toList];exact G⟩
 .have n:b<h1.objs.size:=Nat.lt_trans hb c;have k:=r b o' hb e;unfold sortedHeap;refine(Heap.get?_update_other _ _ (Nat.ne_of_gt n)).trans (Ep _ (Ep _ ((Heap.get?_update_other _ _ (Nat.ne_of_gt n)).trans (Ep _ k))))
end
def setIO(P:Vd)(w:Ve)(a:Vb)(D:List Int):HO:=.ext λh=>eU P w h a D
def AG{D:List Int}(S:eU P w h a D):bC P w H h a (setIO P w a D):=by
 refine⟨S,?_,λh1 h2 z k=>?_⟩
 .obtain⟨_,o,es,ep,t,ho,_⟩:=S;exact⟨o,ho⟩
 .exact⟨z.1,z.2.moved k⟩
section
variable {X:Cx}
def BW(P:Vd)(w:Ve):List V->Hp->VK->Prop:=λxs H Q=>∃p zs,xs=[.ref p]/\H p=Vn (.lst (List.map V.int zs))/\zs.length<=4000 ∧
 ∀l D,H l=Vo->D.Nodup->(∀z,z∈D↔z∈zs)->Q (.ref l) (upd H l (setIO P w l D))
def call_setJ{k:Nat}(i:Room k X.A):cB X (.type "set") (BW X.prog X.w):=by intro pins s σ H xs us Q I r h;obtain⟨p,zs,rfl,j,l,q⟩:=h;obtain⟨u,rfl,m⟩:=vals1 r;cases m;obtain⟨_,a,n,v,gt⟩:=I.hok p _ j;have c:=intsAre_of v;have x:a.length=zs.length:=IntsAre.length c;refine AR i.hd (ys:=a.toArray) (zs:=zs) (show s.heap.IsList p _ from⟨_,gt,rfl,n,rfl⟩) c (by rw[EB,x];exact Nat.lt_of_le_of_lt (Nat.succ_le_succ l) (by decide)) λh' tk D g y z=>?_;have d:=I.hok.fresh (ER _);exact⟨.ref s.heap.objs.size,_,I.laid (t':=tk) (λb o e=>z b o (Es e) e) (ER _) (AG g),rfl,q _ D d g.1 y⟩
def rSortJ(P:Vd)(w:Ve):List V->Hp->VK->Prop:=λxs H Q=>∃(p:Vb) (D:List Int),xs=[.ref p]/\H p=Vn (setIO P w p D)/\D.length<64 ∧
 ∀l c,H l=Vo->c.Perm D->c.Pairwise (λa b:Int=>a<=b)->Q (.ref l) (upd H l (.lst (List.map V.int c)))
def call_sortJ{k:Nat}(v:Room k X.A):cB X (.builtin "sorted") (rSortJ X.prog X.w):=by intro pins s σ H xs us Q I r h;obtain⟨p,D,rfl,x,m,q⟩:=h;obtain⟨u,rfl,y⟩:=vals1 r;cases y;obtain⟨z,_⟩:=I.hok p _ x;refine zC v.hd (show eU X.prog X.w s.heap p D from z) m λh' tk d l vs n hle a g c i B C=>?_;have j:=I.hok.fresh hle;obtain⟨e,E⟩:=a;refine⟨.ref l,_,((I.dr d).laid (t':=tk) (o:=.lst (n.map V.int)) (λb o e=>C b o (Es e) e) hle ?_),rfl,q l n j c i⟩;exact⟨by rw[Ew,c.length_eq];exact E4 (Nat.le_of_lt m) (by decide),vs,e,vo g,E⟩
end
end L2.Ti
namespace L2
open PySem PySem.Spec PyProof.Rows
section
variable {X:Cx} {pins:List (Vb×Obj)} {σ:St} {H:Hp} {s:Vc}
def gZ{i:Nat}{y:Vm}{py:Pos}{pos c:Pos}(own:List Vm)(js:List Nat){M:TI}{te:TE}(U:X.N.Nodup)(d:X.N[i]?=Vn y)(Z:Loc X.env.scope y)
  (hi:PI X tg iter M) (hg:∀z,PG (cX X sc own js z) tg g) (ht:∀z,jx (cX X sc own js z) ifs tc)
  (he:∀z,PE (cX X sc own js z) elt te) (j:swapsWith (.ListComp elt [⟨tg,iter,ifs,0⟩] sc pos) (Vn (.Name y py)) c.line X.env=pure true:=by rfl) (hc:X.calm=true:=by rfl) (O:sc.kind=.function:=by rfl) (hb:eP sc X.env.scope=true:=by rfl) (hj:kO sc X.N js=true:=by rfl)
  (hs:∀x,foldedSetIterable iter X.env x=pure x:=by intro _;rfl) (k:X.fn y=true\/X.env.scope.names.lookup y=Vn .local:=by first|exact .inl rfl|exact .inr rfl|assumption) :
  PS X (.Assign [.Name y py] (.ListComp elt [⟨tg,iter,ifs,0⟩] sc pos) c) (kf (mM own.length js M g tc te) (jM i)):=by
 intro pins s σ H l I h;rw[exec_Assign_Name_used _ _ _ _ j];refine Em (wpAny_standAt (Em ?_));show Vf _ X.A (do let _ <-comprehension (.ListComp elt [⟨tg,iter,ifs,0⟩] sc pos) sc X.env _ (newList []) false (eval iter X.env) (some (assign (.Name y py) X.env))) _ _ s;refine Em (wpAny_mono (wpAny_comprehension_free (use:=some (assign (.Name y py) X.env)) (Q:=λ_ s'=>SP X pins l .next s') rfl hs (nU λp n k=>I.ok.has p.1 (kY hb n k)) O (λp n hl=>uB hb n hl)
  (aH (hi pins s σ H _ I h) λv s1 h1=>aH h1 λa1 s2 h2=>?_)) (λ_ s' hq=>En (En hq)) λ_ _ e=>e)
 obtain⟨it,fp,tn,J,H2,e,I2,T,r,P,W,w0,turn⟩:=h2;subst e;refine rE (Q:=λx H1=>jM i x σ H1 l.nx) (RR:=λacc C=>compPost (Vg X.prog X.w) X.A X.xe (Vn (assign (.Name y py) X.env)) (λ_ s'=>SP X pins l .next s') acc C) O hb hj (λ_=>hg _) (λ_=>ht _) (λ_=>he _) I2 (λC=>Turn.at_ (Y:=cX X sc own js ⟨_,_,_,C⟩) T hc) r P w0 turn ?_;intro D C s' ys H' nD I' hC ⟨m,hm⟩ a2 q;show Vf _ X.A (assign (.Name y py) X.env (.ref D)) _ _ _;refine wpAny_assign_Name (oN I' U d Z (v:=.ref D) rfl (λu B ⟨a,E,ha⟩=>?_) k);obtain⟨f0,R,P,f3,S,f5⟩:=hC;have F:a≠C:=by
  rcases ha with rfl|ha
  .exact Ne.symm R
  .exact S y a ha
 refine⟨m,hm.sameBut E (Ne.symm F),λh' G=>?_⟩;exact⟨_,_,B.turned (t':=u.toks) (it:=C) (λb o L e=>(G.2 b L).trans e) f0 R f3 S f5,q⟩
end
def ma(q:Vd)(loose:List Vm)(c:(Vm->Option Va)->Vh->Prop)(e:Ve->Vh->Prop)(r:PySem.W.RowW)(d:DefRec)(a:List (Vm×Vk))(run:Va->List Va->Sem Va)(w:Ve):Prop:=PySem.W.WalkO q loose c (λb h=>e b h/\b=w) r d a run
def sX{q:Vd}{b:(Vm->Option Va)->Vh->Prop}{c:Ve->Vh->Prop}{r:PySem.W.RowW}{d:DefRec}{a:List (Vm×Vk)}{run:Va->List Va->Sem Va}{e:Prop}(g:Params->Eo)(_:PySem.W.WalkO q loose b c r d a run->e):Eo:=@Classical.epsilon Eo ⟨default⟩ λK=>∃w:Ve,g w.params=K/\¬ma q loose b c r d a run w
def D9{q:Vd}{c:(Vm->Option Va)->Vh->Prop}{g:Ve->Vh->Prop}{r:PySem.W.RowW}{d:DefRec}{a:List (Vm×Vk)}{run:Va->List Va->Sem Va}{k:Prop}(i:Params->Eo)(T:PySem.W.WalkO q loose c g r d a run->k)
  (h:PySem.W.WalkO q loose c (λw h=>g w h/\i w.params=sX i T) r d a run):PySem.W.WalkO q loose c g r d a run:=by
 have key:∀w,ma q loose c g r d a run w:=λw=>Classical.byContradiction λl=>by obtain⟨o,e,j⟩:=@Classical.epsilon_spec Eo (λK=>∃w:Ve,i w.params=K/\¬ma q loose c g r d a run w) ⟨_,w,rfl,l⟩;refine j λm s₀ b mg mb G Y=>?_;obtain⟨n,rfl⟩:=Y;exact h m s₀ b mg mb G ⟨n,e⟩
 exact λw s₀ b mg mb G Y=>key w w s₀ b mg mb G ⟨Y,rfl⟩
def Df{l:PySem.W.OpenLaw}{k:Nat}{q:Vd}{J:(Vm->Option Va)->Vh->Prop}{z:Ve->Vh->Prop}{d:DefRec}{K:Params->Eo}{sp:Ve->Sp}{x:Vm}(xs:List Vm)
  (L:l.most=Vn n) (A:n<=sizeLine) (B:d.params.defaults=[]) (M:Room k callerA)
  (N:∀(w:Ve) (h:Vh),z w h->(K w.params).In h) (O:∀w:Ve,PySem.W.noTabs (K w.params)=true) (hrec:∀y∈xs,((recsOf q).find? (λe=>e.name == y)).isSome=true) (htab:∀(w:Ve),∀y∈xs,(PySem.W.tabIn (K w.params) y).isSome=true)
  (F:∀(w:Ve) (mg:Vm->Option Va) (r:Vb) (h:Vh),z w h->(K w.params).In h->h.Ns Vj mg->mg d.name=Vn (.ref r) ->
   ∃fd:Vl,(∀(s:Vc) (u:Va),BindsTo s fd ⟨[u],[]⟩ [(x,u)]) ∧
    ∀base:Vh,(K w.params).In base->base.Ns Vj mg->(∀y∈xs,∃c T,Tab (K w.params) mg base y c T)->FnOk l.prog w (K w.params) mg base dv k r fd [x] (sp w))
  (hsp:∀(w:Ve) (H:Hp) (a:Vb) (ns:List Int),ns.length<=n->(∀y∈xs,∀c T,PySem.W.tabIn (K w.params) y=Vn (c,T)->H T=Vn (.tbl #[]))->ag (K w.params) H a (ns.map V.int)->sp w [.ref a] H (λv _=>v=.bl true) λ_ _ _=>False) :
  PySem.W.WalkO q loose J z l.row.toRowW d [] (λf vs=>PySem.call f vs):=by
 refine Att.Bd L B λw s₀ j mg mb r o pm cd doc a vs ns G Y ho hd P C m hints hlen Q=>?_;have E:=N w _ Y;obtain⟨fd,hb,R⟩:=F w mg r _ Y E G.T.g C;have S:PySem.W.TabsAt (xs.filterMap (PySem.W.tabIn (K w.params))) j.heap:=λp U=>by obtain⟨y,i,e⟩:=List.mem_filterMap.mp U;obtain⟨dr,X⟩:=Option.isSome_iff_exists.mp (hrec y i);exact PySem.W.tab_of G.T E X e
 refine DT E (O w) S G.T.g G.T.b G.T.builtins G.T.nolimit G.T.bmain Q m hints (E4 hlen A) M (λbase I nb tb=>R base I nb λy i=>?_) hb λH Z hS=>hsp w H a ns hlen (λy i c T e=>Z (c,T) (List.mem_filterMap.mpr ⟨y,i,e⟩)) hS;obtain⟨⟨c,T⟩,e⟩:=Option.isSome_iff_exists.mp (htab w y i);obtain⟨h1,h2,h3⟩:=tb (c,T) (List.mem_filterMap.mpr ⟨y,i,e⟩);exact⟨c,T,e,h1,h2,h3,I,nb⟩
def kR(N P:List Vm)(sc:Scope):Bool:=(match sc.kind with|.function=>true|_=>false) && !sc.isCoroutine && !sc.isGenerator && decide N.Nodup && decide (N.take P.length=P) && (P.all λx=>match sc.names.lookup x with|some .local=>true|some .cell=>true|_=>false) && sc.names.all λy=>match y.2 with|.free=>false|_=>true
def lr{P:List Vm}(h:kR N P sc=true):FnScope N P sc:=by
 unfold kR at h;simp only[E9,Bool.not_eq_true',decide_eq_true_eq,E6]at h;obtain⟨⟨⟨⟨⟨⟨h1,h2⟩,a⟩,b⟩,c⟩,d⟩,g⟩:=h;refine⟨?_,h2,a,b,c,λx i=>?_,λy j e=>?_⟩
 .revert h1
  cases sc.kind<;>intro h1<;>first|rfl|cases h1
 .have:=d x i
  revert this
  cases sc.names.lookup x with
  | none=>intro z;cases z
  | some k=>cases k<;>intro z<;>first|exact .inl rfl|exact .inr rfl|cases z
 .have:=g y j;rw[e]at this;cases this
def oi{α:Type}{a:α}{q:Prop}:a=a\/q:=.inl rfl
def oj{α:Type}{a:α}{q:Prop}:q\/a=a:=.inr rfl
section
variable {P:Vd} {w:Ve} {K:Eo} {mg:Vm->Option Va} {base:Vh}
def Dfn.oS{x:Vm}{st:Stmt}{k:Nat}(D:Dfn K mg x st ps)(N:List Vm)
  (a:∀{f cdv A outer s H E},Room k (eX dv P w K mg base N x (cx st) f cdv A outer s H E).nox.A->N.Nodup->∀(H':Hp) (vs:List V) (Q:VK) (b:XK),sp vs H' Q b ->
   ∃t,cR (eX dv P w K mg base N x (cx st) f cdv A outer s H E).nox (eD st) t/\t { nx:=λ_ H'=>Q .non H',rt:=Q } (start N vs) H')
  (len:∀vs H Q E,sp vs H Q E->vs.length=ps.length:=by intro _ _ _ _ h;cases h;subst_vars;rfl) (h:kR N ps (cx st)=true:=by decide +kernel):Cal P w K mg base x (k+1) ps sp:=
 D.ok (lr h) len λX c H' vs Q b hs=>by obtain⟨f,cdv,A,outer,s,H,E,rfl,d⟩:=c;exact a d (lr h).nd H' vs Q b hs
def Dfn.oL{x:Vm}{st:Stmt}{k:Nat}{T:Vb}(D:Dfn K mg x st ps)(B:Tab K mg base x c T)(N:List Vm)
  (a:∀{f A outer s H E},Room k (eX dv P w K mg base N x (cx st) f (.ref c) A outer s H E).nox.A->N.Nodup->∀(H':Hp) (vs:List V) (Q:VK) (b:XK),sp vs H' Q b ->
   ∃t,cR (eX dv P w K mg base N x (cx st) f (.ref c) A outer s H E).nox (eD st) t/\t { nx:=λ_ H'=>Q .non H',rt:=Q } (start N vs) H')
  (len:∀vs H Q E,sp vs H Q E->vs.length=ps.length:=by intro _ _ _ _ h;cases h;subst_vars;rfl) (h:kR N ps (cx st)=true:=by decide +kernel):Cal P w K mg base x (k+1) ps sp:=
 D.okL B (lr h) len λX d H' vs Q b hs=>by obtain⟨f,A,outer,s,H,E,rfl,e⟩:=d;exact a e (lr h).nd H' vs Q b hs
end
section
variable {X:Cx} {e:Vk} {es:List Vk} {te:TE} {t:TA}
def aq(ha:PE X e te)(a:PA X es t)(hs:starEach (e::es) X.env=(false,eval e X.env)::starEach es X.env):PA X (e::es) (kS te t):=ae ha a hs
end
end L2
namespace St
def gg(lo hi:Int)(xs:List Int):Prop:=xs.Pairwise (· < ·)/\∀x∈xs,lo<=x/\x<hi
structure Ok(b s:Int)(o a:List Int):Prop where
 hb:0<=b
 hs:1<=s
 ho:gg 0 b o
 ha:gg b (b+s) a
def mem(b s:Int)(o a:List Int)(x:Int):Bool:=if x<b then o.contains x else a.contains (b+(x-b) % s)
section
variable {b s:Int} {o a:List Int}
def j8(x:Int)(h:x<b):mem b s o a x=o.contains x:=Ft h
theorem jj(x:Int)(h:b<=x):mem b s o a x=a.contains (b+(x-b) % s):=Fs (by lia)
end
end St
namespace St
def aW(f:Nat->Bool)(b d:Nat):Prop:=∀x,b<=x->f (x+d)=f x
theorem aW.mul{f:Nat->Bool}{b d:Nat}(h:aW f b d):∀k x,b<=x->f (x+k*d)=f x
 | 0,x,a=>by simp
 | k+1,x,a=>by rw[Nat.succ_mul,<-Nat.add_assoc,h _ (by lia),h.mul k x a]
theorem aW.mono{f:Nat->Bool}{b c:Nat}(h:aW f b d)(a:b<=c):aW f c d:=λx e=>h x (by lia)
def aW.times{f:Nat->Bool}{b d:Nat}(h:aW f b d)(k:Nat):aW f b (k*d):=λx a=>h.mul k x a
theorem aW.down{f:Nat->Bool}{b s a:Nat}(h:aW f b s)(hs:1<=s)(h':aW f a d):aW f b d:=λx c=>by have e:=h.mul a (x+d) (by lia);have g:=h.mul a x c;rw[<-e,<-g,show x+d+a*s=(x+a*s)+d by lia];exact h' _ (by have:a*1<=a*s:=Nat.mul_le_mul_left _ hs;lia)
theorem aW.mod{f:Nat->Bool}{b s:Nat}(h:aW f b s)(h':aW f b d):aW f b (s % d):=λx a=>by have e:=(h'.times (s / d)) (x+s % d) (by lia);rw[<-e,show x+s % d+s / d*d=x+s by have:=Nat.div_add_mod s d;rw[Nat.mul_comm]at this;lia];exact h x a
structure Least(f:Nat->Bool)(st low:Nat):Prop where
 pos:1<=st
 per:aW f low st
 step:∀d b,1<=d->aW f b d->st<=d
 base:∀b,aW f b st->low<=b
def Least.one{f:Nat->Bool}{st b a:Nat}(h:Least f st low)(h':Least f b a):st=b/\low=a:=by have e:st=b:=Nat.le_antisymm (h.step b a h'.pos h'.per) (h'.step st low h.pos h.per);subst e;exact⟨rfl,Nat.le_antisymm (h.base a h'.per) (h'.base low h.per)⟩
def Alike(f:Nat->Bool)(b s d:Nat):Prop:=s % d=0/\∀i,i+d<s->f (b+i+d)=f (b+i)
theorem Alike.per{f:Nat->Bool}{b s:Nat}(h:aW f b s)(hs:1<=s)(hd:1<=d)(a:Alike f b s d):aW f b d:=by
 obtain⟨q,rfl⟩:∃q,s=d*q:=⟨s / d,by have:=Nat.div_add_mod s d;rw[a.1]at this;lia⟩;have o:1<=q:=by
  cases q with
  | zero=>simp at hs
  | succ q=>lia
 have inner:∀k i,i<d->k<q->f (b+i+k*d)=f (b+i):=by
  intro k;induction k with
  | zero=>intro i _ _;simp
  | succ k c=>
   intro i hi p;have e:=a.2 (i+k*d) (by have:(k+1+1)*d<=q*d:=Nat.mul_le_mul_right _ (by lia);rw[Nat.succ_mul,Nat.succ_mul,Nat.mul_comm q d]at this;lia)
   rw[show b+i+(k+1)*d=b+(i+k*d)+d by rw[Nat.succ_mul];lia,e,<-Nat.add_assoc];exact c i hi (by lia)
 have all:∀n,f (b+n)=f (b+n % d):=λn=>by
  have g:f (b+n)=f (b+n % (d*q)):=by have:=h.mul (n / (d*q)) (b+n % (d*q)) (by lia);rw[<-this];congr 1;have:=Nat.div_add_mod n (d*q);rw[Nat.mul_comm (d*q)]at this;lia
  rw[g];have hlt:n % (d*q)<d*q:=Nat.mod_lt _ (by lia);have j:n % (d*q)=n % (d*q) % d+n % (d*q) / d*d:=by have:=Nat.div_add_mod (n % (d*q)) d;rw[Nat.mul_comm]at this;lia
  have l:n % (d*q) % d=n % d:=Nat.mod_mul_right_mod n d q;have m:n % (d*q) / d<q:=Nat.div_lt_of_lt_mul hlt;rw[j,<-Nat.add_assoc,inner _ _ (Nat.mod_lt _ (by lia)) m,l]
 intro x r;obtain⟨n,rfl⟩:∃n,x=b+n:=⟨x-b,by lia⟩;rw[Nat.add_assoc,all (n+d),all n,Nat.add_mod_right]
theorem aW.alike{f:Nat->Bool}{b s:Nat}(h:aW f b d)(a:s % d=0):Alike f b s d:=⟨a,λi _=>h (b+i) (by lia)⟩
theorem CJ{f:Nat->Bool}{b s:Nat}(h:aW f b s)(hs:1<=s)(hd:1<=d)(a:Alike f b s d)(first:∀e,1<=e->e<d->¬Alike f b s e):aW f b d/\∀e i,1<=e->aW f i e->d<=e:=by
 have j:=a.per h hs hd;refine⟨j,λe i k c=>?_⟩;have g:aW f b e:=h.down hs c;have go:∀n e,e<=n->1<=e->aW f b e->d<=e:=by
  intro n;induction n with
  | zero=>intro e h1 h2;lia
  | succ n l=>
   intro e h1 h2 c;by_cases m:s % e=0
   .rcases Fh e d with hlt|hge
    .exact absurd (c.alike m) (first e h2 hlt)
    .exact hge
   .have hlt:s % e<e:=Nat.mod_lt _ (by lia);have:=l (s % e) (by lia) (by lia) (h.mod c);lia
 exact go e e (ER _) k g
def Aw{f:Nat->Bool}{b s:Nat}(h:aW f b s)(hs:1<=s)(hd:1<=d)(a:Alike f b s d)(first:∀e,1<=e->e<d->¬Alike f b s e)(l:low<=b)
  (down:∀x,low<=x->x<b->f x=f (x+d)) (stop:low=0\/f (low-1)≠f (low-1+d)):Least f d low:=by
 obtain⟨g,c⟩:=CJ h hs hd a first
 refine⟨hd,λx i=>?_,c,λj k=>?_⟩
 .rcases Fh x b with hlt|hge
  .exact(down x i hlt).symm
  .exact g x hge
 .rcases stop with m|hne
  .omega
  .rcases Fh j low with hlt|hge
   .exact absurd (k (low-1) (by omega)).symm hne
   .exact hge
def row(f:Nat->Bool)(lo n:Nat):List Int:=((Fo n).filter λi=>f (lo+i)).map λi=>((lo+i:Nat):Int)
end St
namespace St
def vG(f:Nat->Bool)(lo n:Nat):row f lo (n+1)=row f lo n++if f (lo+n)then[((lo+n:Nat):Int)]else[]:=by unfold row;rw[List.range_succ,List.filter_append,EM];congr 1;by_cases h:f (lo+n)=true<;>simp[h]
def wZ(f:Nat->Bool)(lo n:Nat):(row f lo n).length<=n:=by unfold row;rw[Ew];exact E4 (List.length_filter_le _ _) (by simp)
theorem mD{f:Nat->Bool}{lo:Nat}{x:Int}:x∈row f lo n↔(lo:Int)<=x/\x<lo+n/\f x.toNat=true:=by
 unfold row;simp only[List.mem_map,List.mem_filter,List.mem_range];constructor
 .rintro⟨i,⟨hi,a⟩,rfl⟩;refine⟨by lia,by lia,?_⟩;rw[EI];exact a
 .rintro⟨h1,h2,b⟩;refine⟨x.toNat-lo,⟨by omega,?_⟩,by omega⟩;rw[show lo+(x.toNat-lo)=x.toNat by omega];exact b
theorem oM(f:Nat->Bool)(lo n:Nat):gg lo (lo+n) (row f lo n):=by refine⟨?_,λx c=>⟨(mD.mp c).1,(mD.mp c).2.1⟩⟩;unfold row;rw[List.pairwise_map];refine List.Pairwise.imp (R:=λa b=>a<b) (λh=>by lia) ?_;exact List.Pairwise.filter _ List.pairwise_lt_range
def vZ{f:Nat->Bool}{lo:Nat}{x:Int}(h1:(lo:Int)<=x)(h2:x<lo+n):(row f lo n).contains x=f x.toNat:=by
 rw[E8,List.contains_iff_mem,mD];constructor
 .exact λh=>h.2.2
 .exact λh=>⟨h1,h2,h⟩
theorem CG(f:Nat->Bool)(b s:Nat)(hs:1<=s):Ok b s (row f 0 b) (row f b s):=
 ⟨by lia,by lia,by have:=oM f 0 b;simpa using this,oM f b s⟩
theorem Bj{f:Nat->Bool}{b s:Nat}(hs:1<=s)(h:aW f b s)(x:Nat):mem b s (row f 0 b) (row f b s) x=f x:=by
 by_cases a:x<b
 .rw[j8 _ (by lia),vZ (by lia) (by lia),EI]
 .rw[jj _ (by lia)];have r0:0<=((x:Int)-b) % s:=Int.emod_nonneg _ (by lia);have r1:((x:Int)-b) % s<s:=Int.emod_lt_of_pos _ (by lia);rw[vZ (by lia) (by lia)];have e:((b:Int)+((x:Int)-b) % s).toNat=b+(x-b) % s:=by
   have:((x:Int)-b) % s=(((x-b) % s:Nat):Int):=by rw[show (x:Int)-b=((x-b:Nat):Int) by lia];rfl
   lia
  rw[e];have:=h.mul ((x-b) / s) (b+(x-b) % s) (by lia);rw[<-this];congr 1;have:=Nat.div_add_mod (x-b) s;rw[Nat.mul_comm]at this;lia
def fn(b s:Int)(o a:List Int)(n:Nat):Bool:=mem b s o a n
theorem D1{b s:Int}{o a:List Int}(S:Ok b s o a):aW (fn b s o a) b.toNat s.toNat:=λx c=>by
 have hb:=S.hb;have hs:=S.hs;unfold fn;rw[jj _ (by lia),jj _ (by lia)];congr 2;have:((x+s.toNat:Nat):Int)-b=(x:Int)-b+s*1:=by lia
 rw[this,Int.add_mul_emod_self_left]
theorem AF{b s:Int}{o a:List Int}(S:Ok b s o a){y:Int}(j:0<=y):(o.contains y || a.any λx=>decide (x<=y) && (y-x) % s == 0)=mem b s o a y:=by
 have hs:=S.hs;by_cases h:y<b
 .rw[j8 _ h];have:(a.any λx=>decide (x<=y) && (y-x) % s == 0)=false:=by rw[List.any_eq_false];intro x c;have:=S.ha.2 x c;simp;lia
  rw[this,Bool.or_false]
 .rw[jj _ (by lia)];have:o.contains y=false:=by rw[Bool.eq_false_iff];intro d;rw[List.contains_iff_mem]at d;have:=S.ho.2 y d;lia
  rw[this,Bool.false_or,E8,E7,List.contains_iff_mem];have r0:0<=(y-b) % s:=Int.emod_nonneg _ (by lia);have r1:(y-b) % s<s:=Int.emod_lt_of_pos _ (by lia);have k:=Int.mul_ediv_add_emod (y-b) s;have g:0<=(y-b) / s:=Int.ediv_nonneg (by lia) (by lia);have l:0<=s*((y-b) / s):=E1 (by lia) g;constructor
  .rintro⟨x,c,d⟩;simp only[E9,decide_eq_true_eq,beq_iff_eq]at d;have hb:=S.ha.2 x c;have e:(y-b) % s=x-b:=by
    have i:y-b=(x-b)+s*((y-x) / s):=by have:=Int.mul_ediv_add_emod (y-x) s;rw[d.2]at this;lia
    rw[i,Int.add_mul_emod_self_left,Int.emod_eq_of_lt (by lia) (by lia)]
   rw[e,show b+(x-b)=x by lia];exact c
  .intro c;refine⟨_,c,?_⟩;simp only[E9,decide_eq_true_eq,beq_iff_eq];refine⟨by lia,?_⟩;rw[show y-(b+(y-b) % s)=s*((y-b) / s) by lia];exact Int.mul_emod_right _ _
end St
namespace St
def cm(a b:Nat):Nat:=a / Nat.gcd a b*b
def mN(a b:Nat):cm a b=b / Nat.gcd a b*a:=by unfold cm;have ha:Nat.gcd a b*(a / Nat.gcd a b)=a:=Nat.mul_div_cancel' (Nat.gcd_dvd_left a b);have hb:Nat.gcd a b*(b / Nat.gcd a b)=b:=Nat.mul_div_cancel' (Nat.gcd_dvd_right a b);generalize c:Nat.gcd a b=g at *;generalize a / g=x at *;generalize b / g=y at *;rw[<-ha,<-hb,Nat.mul_comm y,Nat.mul_comm g y,Nat.mul_comm g x,Nat.mul_assoc,Nat.mul_comm g y,<-Nat.mul_assoc]
def ui{a b:Nat}(ha:1<=a)(hb:1<=b):1<=cm a b:=by unfold cm;have h1:0<a / Nat.gcd a b:=Nat.div_pos (Nat.le_of_dvd ha (Nat.gcd_dvd_left a b)) (Nat.gcd_pos_of_pos_left b ha);exact Nat.mul_pos h1 hb
def xG(a b:Nat):cm a b=cm b a:=by rw[mN a b];unfold cm;rw[Nat.gcd_comm]
def Am(x y:Nat):Nat.gcd y (x % y)=Nat.gcd x y:=by rw[Nat.gcd_comm x y,Nat.gcd_rec y x,Nat.gcd_comm]
def De{a b:Nat}:cm a b<=a*b:=by unfold cm;exact Nat.mul_le_mul_right _ (Nat.div_le_self _ _)
end St
namespace St
def lO(a b:Nat):cm a b=Nat.lcm a b:=by unfold cm Nat.lcm;have hd:Nat.gcd a b ∣ a:=Nat.gcd_dvd_left a b;rw[Nat.div_mul_right_comm hd]
end St
namespace Bfs
theorem iT:∀(N:Nat) (l:List Nat),l.Nodup->(∀x∈l,x<N)->l.length<=N
 | 0,l,_,h=>by
  cases l with
  | nil=>exact ER _
  | cons x l=>exact absurd (h x EC) (Nat.not_lt_zero _)
 | N+1,l,a,h=>by
  have b:=iT N (l.erase N) (a.erase N) (λx c=>by
   have:=h x (List.mem_of_mem_erase c);have hne:x≠N:=λe=>by subst e;exact(List.Nodup.not_mem_erase a) c
   lia)
  by_cases d:N∈l
  .rw[List.length_erase_of_mem d]at b;lia
  .rw[List.erase_of_not_mem d]at b;lia
abbrev Pl:=Int×Int
def inR(T:Int)(x:Pl):Prop:=0<=x.1/\x.1<12/\0<=x.2/\x.2<=T
theorem Cr{T:Int}{l:List Pl}(o:T<=2000)(d:l.Nodup)(h:∀x∈l,inR T x):l.length<=24012:=by
 have c:(l.map λx=>(x.1*2001+x.2).toNat).Nodup:=by unfold List.Nodup at d ⊢;rw[List.pairwise_map];refine List.Pairwise.imp_of_mem ?_ d;intro a b ha hb hab e;obtain⟨g,i,j,k⟩:=h a ha;obtain⟨p,q,b3,r⟩:=h b hb;refine hab (Prod.ext ?_ ?_)<;>lia
 have:=iT 24012 _ c (λy m=>by obtain⟨x,n,rfl⟩:=List.mem_map.mp m;obtain⟨g,i,j,k⟩:=h x n;lia)
 rwa [Ew]at this
section
variable (nx:Pl->Nat->Option Pl) (s:Pl)
inductive Wk:Nat->Pl->Prop
 | zero:Wk 0 s
 | succ {n:Nat} {x y:Pl} {k:Nat}:Wk n x->nx x k=Vn y->Wk (n+1) y
def bz(n:Nat)(x:Pl):Prop:=Wk nx s n x/\∀m,m<n->¬Wk nx s m x
def bz.uniq{x:Pl}(h:bz nx s n x)(g:bz nx s m x):n=m:=by
 rcases Nat.lt_trichotomy n m with l|l|l
 .exact absurd h.1 (g.2 n l)
 .exact l
 .exact absurd g.1 (h.2 m l)
abbrev Ent:=Pl×Nat×Option (Pl×Nat)
structure QI(q:List Ent)(i B:Nat):Prop where
 nd:(q.map (·.1)).Nodup
 par:∀e∈q,(e.2.2=Vo/\e.1=s/\e.2.1=0)\/∃p k d o,e.2.2=Vn (p,k)/\nx p k=Vn e.1/\e.2.1=d+1/\(p,d,o)∈q
 le:∀e∈q,e.2.1<=B+1
 lo:∀j e,q[j]?=Vn e->i<=j->B<=e.2.1
 srt:q.Pairwise λa b=>a.2.1<=b.2.1
 cl:∀j e,j<i->q[j]?=Vn e->∀k y,nx e.1 k=Vn y->∃e'∈q,e'.1=y/\e'.2.1<=e.2.1+1
 s0:(s,0,Vo)∈q
def QI.begin:QI nx s [(s,0,Vo)] 0 0:=by
 refine⟨by simp,?_,?_,?_,by simp,?_,by simp⟩
 .intro e a;rw[EG]at a;subst a;exact .inl ⟨rfl,rfl,rfl⟩
 .intro e a;rw[EG]at a;subst a;simp
 .intro j e _ _;exact Nat.zero_le _
 .intro j e b;exact absurd b (Nat.not_lt_zero _)
variable {nx s}
theorem QI.wk{q:List Ent}{i B:Nat}(h:QI nx s q i B):∀(d:Nat) (e:Ent),e∈q->e.2.1=d->Wk nx s d e.1
 | 0,e,a,hd=>by
  rcases h.par e a with⟨_,hs,_⟩|⟨p,k,d,o,_,_,b,_⟩
  .rw[hs];exact .zero
  .omega
 | d+1,e,a,hd=>by
  rcases h.par e a with⟨_,_,j⟩|⟨p,k,d',o,_,c,b,g⟩
  .omega
  .have:d'=d:=by lia
   subst this;exact .succ (QI.wk h d' _ g rfl) c
theorem QI.all{q:List Ent}{i:Nat}(h:QI nx s q i B):∀(n:Nat) (y:Pl),Wk nx s n y->(n<=B\/i=q.length)->∃e∈q,e.1=y/\e.2.1<=n:=by
 intro n y w;induction w with
 | zero=>intro _;exact⟨_,h.s0,rfl,ER _⟩
 | @succ n x y k w g m=>
  intro a;obtain⟨e,o,p,hd⟩:=m (a.imp (λh=>by lia) id);obtain⟨j,b⟩:=Fi o;have c:j<i:=by
   rcases a with a|a
   .rcases Fh j i with l|l
    .exact l
    .have:=h.lo j e b l;lia
   .rw[a];exact(EE.mp b).1
  obtain⟨e',d,r,u⟩:=h.cl j e c b k y (by rw[p];exact g);exact⟨e',d,r,by lia⟩
def Bs{q:List Ent}(c:(q.map (·.1)).Nodup){e e':Ent}(h:e∈q)(h':e'∈q)(d:e.1=e'.1):e=e':=by
 induction q with
 | nil=>cases h
 | cons a q g=>
  rw[List.map_cons,List.nodup_cons]at c;rcases EK.mp h with r|r<;>rcases EK.mp h' with b|b
  .rw[r,b]
  .subst r;exact absurd (List.mem_map.mpr ⟨e',b,d.symm⟩) c.1
  .subst b;exact absurd (List.mem_map.mpr ⟨e,r,d⟩) c.1
  .exact g c.2 r b
theorem QI.dist{q:List Ent}{i:Nat}(h:QI nx s q i B){e:Ent}(a:e∈q):bz nx s e.2.1 e.1:=by refine⟨h.wk _ e a rfl,λm d w=>?_⟩;have:=h.le e a;obtain⟨e',b,c,hd⟩:=h.all m e.1 w (.inl (by lia));have:=Bs h.nd b a c;subst this;lia
def QI.done{q:List Ent}(h:QI nx s q q.length B){y:Pl}(a:y∉q.map (·.1))(n:Nat):¬bz nx s n y:=λd=>by obtain⟨e,b,c,_⟩:=h.all n y d.1 (.inr rfl);exact a (List.mem_map.mpr ⟨e,b,c⟩)
theorem sk{q:List Ent}(hs:q.Pairwise λa b=>a.2.1<=b.2.1){i j:Nat}{a b:Ent}(ha:q[i]?=Vn a)(hb:q[j]?=Vn b)(c:i<=j):a.2.1<=b.2.1:=by
 rcases Fh i j with l|l
 .obtain⟨h1,d⟩:=EE.mp ha;obtain⟨h2,e⟩:=EE.mp hb;have:=List.pairwise_iff_getElem.mp hs i j h1 h2 l;rw[d,e]at this;exact this
 .have:i=j:=by lia
  subst this;rw[ha]at hb;cases hb;exact ER _
theorem QI.deepAt{q:List Ent}{i:Nat}(h:QI nx s q i B):∀(j:Nat) (e:Ent),q[j]?=Vn e->e.2.1<=j:=by
 intro j;induction j using Nat.strongRecOn with
 | _ j g=>
  intro e c;rcases h.par e (EF c)with⟨_,_,n⟩|⟨p,k,d,o,_,_,hd,m⟩
  .omega
  .obtain⟨b,a⟩:=Fi m;have hlt:b<j:=by
    rcases Fh b j with l|l
    .exact l
    .have:=sk h.srt c a l;dsimp only at this;lia
   have:=g b hlt _ a;dsimp only at this;lia
theorem QI.deep{q:List Ent}{i:Nat}(h:QI nx s q i B){e:Ent}(b:e∈q):e.2.1<=q.length:=by obtain⟨j,a⟩:=Fi b;have h1:=h.deepAt j e a;have h2:=(EE.mp a).1;lia
structure QF(q:List Ent)(i:Nat)(h:Ent)(ks:List Nat)(m:Nat):Prop where
 at_:q[i]?=Vn h
 nd:(q.map (·.1)).Nodup
 par:∀e∈q,(e.2.2=Vo/\e.1=s/\e.2.1=0)\/∃p k d o,e.2.2=Vn (p,k)/\nx p k=Vn e.1/\e.2.1=d+1/\(p,d,o)∈q
 le:∀e∈q,e.2.1<=h.2.1+1
 srt:q.Pairwise λa b=>a.2.1<=b.2.1
 cl:∀j e,j<i->q[j]?=Vn e->∀k y,nx e.1 k=Vn y->∃e'∈q,e'.1=y/\e'.2.1<=e.2.1+1
 ch:∀k∈ks.take m,∀y,nx h.1 k=Vn y->∃e'∈q,e'.1=y/\e'.2.1<=h.2.1+1
 s0:(s,0,Vo)∈q
theorem QI.look{q:List Ent}{i:Nat}{h:Ent}(H:QI nx s q i B)(ha:q[i]?=Vn h)(ks:List Nat):QF (nx:=nx) (s:=s) q i h ks 0:=by refine⟨ha,H.nd,H.par,λe a=>?_,H.srt,H.cl,λk b=>by simp at b,H.s0⟩;have:=H.le e a;have:=H.lo i h ha (ER _);lia
theorem QF.next{q:List Ent}{i:Nat}{h:Ent}{ks:List Nat}(H:QF (nx:=nx) (s:=s) q i h ks ks.length)(d:∀k y,nx h.1 k=Vn y->k∈ks):QI nx s q (i+1) h.2.1:=by
 refine⟨H.nd,H.par,H.le,λj e b g=>sk H.srt H.at_ b (by lia),H.srt,λj e b c k y a=>?_,H.s0⟩;rcases Fh j i with l|l
 .exact H.cl j e l c k y a
 .have:j=i:=by lia
  subst this;have e':=H.at_;rw[c]at e';cases e';exact H.ch k (by rw[EZ];exact d k y a) y a
def QF.skip{q:List Ent}{i:Nat}{h:Ent}{ks:List Nat}{k:Nat}(H:QF (nx:=nx) (s:=s) q i h ks m)(g:ks[m]?=Vn k)(j:∀y,nx h.1 k=Vn y->y∈q.map (·.1)):QF (nx:=nx) (s:=s) q i h ks (m+1):=by
 refine⟨H.at_,H.nd,H.par,H.le,H.srt,H.cl,λc a y b=>?_,H.s0⟩;rw[List.take_succ,g]at a;rcases EU.mp a with z|z
 .exact H.ch c z y b
 .have:c=k:=by simpa using z
  subst this;obtain⟨e,d,l⟩:=List.mem_map.mp (j y b);exact⟨e,d,l,H.le e d⟩
theorem QF.add{q:List Ent}{i:Nat}{h:Ent}{ks:List Nat}{k:Nat}{y:Pl}(H:QF (nx:=nx) (s:=s) q i h ks m)(w:ks[m]?=Vn k)(v:nx h.1 k=Vn y)(x:y∉q.map (·.1)):
  QF (nx:=nx) (s:=s) (q++[(y,h.2.1+1,Vn (h.1,k))]) i h ks (m+1):=by
 have r:=(EE.mp H.at_).1;have hmem:h∈q:=EF H.at_;refine⟨by rw[EW r];exact H.at_,?_,?_,?_,?_,?_,?_,Fe _ H.s0⟩
 .rw[EM,List.nodup_append];refine⟨H.nd,by simp,λa ha b hb e=>?_⟩;have:b=y:=by simpa using hb
  subst this;subst e;exact x ha
 .intro e g;rcases EU.mp g with z|z
  .rcases H.par e z with p|⟨p,l,d,o,h1,h2,A,B⟩
   .exact .inl p
   .exact .inr ⟨p,l,d,o,h1,h2,A,Fe _ B⟩
  .have:e=(y,h.2.1+1,Vn (h.1,k)):=by simpa using z
   subst this;exact .inr ⟨h.1,k,h.2.1,h.2.2,rfl,v,rfl,Fe _ hmem⟩
 .intro e g;rcases EU.mp g with z|z
  .exact H.le e z
  .have:e=(y,h.2.1+1,Vn (h.1,k)):=by simpa using z
   subst this;exact ER _
 .rw[List.pairwise_append];refine⟨H.srt,by simp,λa ha b hb=>?_⟩;have:b=(y,h.2.1+1,Vn (h.1,k)):=by simpa using hb
  subst this;exact H.le a ha
 .intro j e C g l u c;rw[EW (by lia)]at g;obtain⟨e',h1,h2⟩:=H.cl j e C g l u c;exact⟨e',Fe _ h1,h2⟩
 .intro l n u c;rw[List.take_succ,w]at n;rcases EU.mp n with z|z
  .obtain⟨e',h1,h2⟩:=H.ch l z u c;exact⟨e',Fe _ h1,h2⟩
  .have:l=k:=by simpa using z
   subst this;rw[v]at c;cases c;exact⟨_,Fd _ EC,rfl,ER _⟩
abbrev dX:=Pl×Nat
structure LI(f:List dX)(wl:List Pl)(L:Nat):Prop where
 nd:(f.map (·.1)).Nodup
 ds:∀e∈f,bz nx s e.2 e.1/\e.2<=L
 al:∀n y,n<=L->Wk nx s n y->y∈f.map (·.1)
 wt:∀x∈wl,bz nx s L x
 tw:∀x,bz nx s L x->x∈wl
theorem LI.begin:LI (nx:=nx) (s:=s) [(s,0)] [s] 0:=by
 have b:bz nx s 0 s:=⟨.zero,λm d=>absurd d (Nat.not_lt_zero _)⟩;refine⟨by simp,?_,?_,?_,?_⟩
 .intro e c;rw[EG]at c;subst c;exact⟨b,ER _⟩
 .intro n y g w;have:n=0:=by lia
  subst this;cases w;simp
 .intro x a;rw[EG]at a;subst a;exact b
 .intro x a;cases a.1;simp
structure LF(f f':List dX)(wt lt:List Pl)(L:Nat)(D:Pl->Prop):Prop where
 nd:(f'.map (·.1)).Nodup
 ds:∀e∈f',bz nx s e.2 e.1/\e.2<=L+1
 sub:∀e∈f,e∈f'
 lt1:∀x∈lt,bz nx s (L+1) x
 lt2:∀e∈f',e.2=L+1->e.1∈lt
 dn:∀y,D y->y∈f'.map (·.1)
theorem LI.start{f:List dX}{wt:List Pl}(h:LI (nx:=nx) (s:=s) f wt L):LF (nx:=nx) (s:=s) f f wt [] L λ_=>False:=by refine⟨h.nd,λe a=>⟨(h.ds e a).1,by have:=(h.ds e a).2;lia⟩,λe a=>a,λx b=>(by cases b),λe a hd=>?_,λy c=>c.elim⟩;have:=(h.ds e a).2;lia
def LF.more{f f':List dX}{wt lt:List Pl}{D a:Pl->Prop}(h:LF (nx:=nx) (s:=s) f f' wt lt L D)(hd:∀y,a y->D y\/y∈f'.map (·.1)):LF (nx:=nx) (s:=s) f f' wt lt L a:=
 ⟨h.nd,h.ds,h.sub,h.lt1,h.lt2,λy b=>by
  rcases hd y b with z|z
  .exact h.dn y z
  .exact z⟩
theorem LF.add{f f':List dX}{wt lt:List Pl}{D i:Pl->Prop}{x y:Pl}{k:Nat}(j:LI (nx:=nx) (s:=s) f wt L)(h:LF (nx:=nx) (s:=s) f f' wt lt L D)(o:x∈wt)(p:nx x k=Vn y)(l:y∉f'.map (·.1))(hd:∀z,i z->D z\/z=y):
  LF (nx:=nx) (s:=s) f (f'++[(y,L+1)]) wt (lt++[y]) L i:=by
 have n:bz nx s (L+1) y:=by refine⟨.succ (j.wt x o).1 p,λm u w=>l ?_⟩;obtain⟨e,c,q⟩:=List.mem_map.mp (j.al m y (by lia) w);exact List.mem_map.mpr ⟨e,h.sub e c,q⟩
 refine⟨?_,?_,λe c=>Fe _ (h.sub e c),?_,?_,?_⟩
 .rw[EM,List.nodup_append];refine⟨h.nd,by simp,λa ha b hb e=>?_⟩;have:b=y:=by simpa using hb
  subst this;subst e;exact l ha
 .intro e c;rcases EU.mp c with z|z
  .exact h.ds e z
  .have:e=(y,L+1):=by simpa using z
   subst this;exact⟨n,ER _⟩
 .intro z g;rcases EU.mp g with d|d
  .exact h.lt1 z d
  .have:z=y:=by simpa using d
   subst this;exact n
 .intro e c r;rcases EU.mp c with z|z
  .exact Fe _ (h.lt2 e z r)
  .have:e=(y,L+1):=by simpa using z
   subst this;exact Fd _ (by simp)
 .intro z g;rw[EM];rcases hd z g with d|d
  .exact Fe _ (h.dn z d)
  .subst d;exact Fd _ (by simp)
theorem LF.next{f f':List dX}{wt lt:List Pl}{D:Pl->Prop}(c:LI (nx:=nx) (s:=s) f wt L)(h:LF (nx:=nx) (s:=s) f f' wt lt L D)(o:∀x∈wt,∀k y,nx x k=Vn y->D y):LI (nx:=nx) (s:=s) f' lt (L+1):=by
 have al:∀n y,n<=L+1->Wk nx s n y->y∈f'.map (·.1):=by
  intro n y p w;rcases Fh n (L+1)with l|l
  .obtain⟨e,a,b⟩:=List.mem_map.mp (c.al n y (by lia) w);exact List.mem_map.mpr ⟨e,h.sub e a,b⟩
  .have:n=L+1:=by lia
   subst this;cases w with
   | @succ n x y k w i=>
    by_cases j:x∈wt
    .exact h.dn y (o x j k y i)
    .obtain⟨e,a,d⟩:=List.mem_map.mp (c.al L x (ER _) w);obtain⟨m,q⟩:=c.ds e a;have hlt:e.2<L:=by
      rcases Fh e.2 L with l|l
      .exact l
      .exfalso;refine j (c.tw x ?_);rw[<-d,show L=e.2 by lia];exact m
     obtain⟨e',g,b⟩:=List.mem_map.mp (c.al (e.2+1) y (by lia) (.succ m.1 (by rw[d];exact i)));exact List.mem_map.mpr ⟨e',h.sub e' g,b⟩
 refine⟨h.nd,h.ds,al,h.lt1,λx d=>?_⟩;obtain⟨e,a,b⟩:=List.mem_map.mp (al (L+1) x (ER _) d.1);have:=bz.uniq (nx:=nx) (s:=s) (h.ds e a).1 (by rw[b];exact d);have:=h.lt2 e a this
 rwa [b]at this
theorem LI.end_{f:List dX}(h:LI (nx:=nx) (s:=s) f [] L):∀n y,Wk nx s n y->y∈f.map (·.1):=by
 have none_:∀n y,L<=n->¬bz nx s n y:=by
  intro n y p d;have:∀j,j<=n->∃x,bz nx s (n-j) x:=by
   intro j;induction j with
   | zero=>intro _;exact⟨y,d⟩
   | succ j e=>
    intro q;obtain⟨x,w,a⟩:=e (by lia);rw[show n-j=(n-(j+1))+1 by lia]at w a;cases w with
    | @succ r i u k w o=>exact⟨i,w,λm b c=>a (m+1) (by lia) (.succ c o)⟩
  obtain⟨x,a⟩:=this (n-L) (by lia);rw[show n-(n-L)=L by lia]at a;cases h.tw x a
 intro n y;induction n using Nat.strongRecOn generalizing y with
 | _ n e=>
  intro w;rcases Fh L n with l|l
  .by_cases b:∃m,m<n/\Wk nx s m y
   .obtain⟨m,b,c⟩:=b;exact e m b y c
   .exact absurd ⟨w,λm g c=>b ⟨m,g,c⟩⟩ (none_ n y (by lia))
  .exact h.al n y l w
def gone:Pl->List Nat->Option Pl
 | x,[]=>Vn x
 | x,k::r=>(nx x k).bind λy=>gone y r
end
end Bfs
namespace Bfs
inductive Rw(S:Pl->Pl->Prop):Nat->Pl->Pl->Prop
 | nil {x:Pl}:Rw S 0 x x
 | snoc {n:Nat} {x y z:Pl}:Rw S n x y->S y z->Rw S (n+1) x z
def Rw.trans{S:Pl->Pl->Prop}{k:Nat}{x y z:Pl}(h:Rw S n x y)(g:Rw S k y z):Rw S (n+k) x z:=by
 induction g with
 | nil=>exact h
 | snoc _ hs a=>exact .snoc (a h) hs
def Rw.imp{S S':Pl->Pl->Prop}(b:∀a c,S a c->S' a c){x y:Pl}(h:Rw S n x y):Rw S' n x y:=by
 induction h with
 | nil=>exact .nil
 | snoc _ hs d=>exact .snoc d (b _ _ hs)
theorem Rw.fn{S:Pl->Pl->Prop}{x y:Pl}(h:Rw S n x y):∃w:Nat->Pl,w 0=x/\w n=y/\∀i,i<n->S (w i) (w (i+1)):=by
 induction h with
 | @nil x=>exact⟨λ_=>x,rfl,rfl,λi hi=>absurd hi (Nat.not_lt_zero _)⟩
 | @snoc n x y z _ hs a=>
  obtain⟨w,b,c,d⟩:=a;refine⟨λi=>if i<=n then w i else z,by simp[b],(by show(if n+1<=n then w (n+1)else z)=z;rw[Fs (by lia)]),λi hi=>?_⟩
  try dsimp only
  rcases Fh i n with l|l
  .rw[Ft (by lia),Ft (by lia)];exact d i l
  .have:i=n:=by lia
   subst this;rw[Ft (ER _),Fs (by lia),c];exact hs
theorem wL{S:Pl->Pl->Prop}{w:Nat->Pl}{i:Nat}:∀(k:Nat),(∀j,i<=j->j<i+k->S (w j) (w (j+1)))->Rw S k (w i) (w (i+k))
 | 0,_=>.nil
 | k+1,h=>.snoc (wL k λj h1 h2=>h j h1 (by lia)) (h (i+k) (by lia) (by lia))
theorem jF{S:Pl->Pl->Prop}{w:Nat->Pl}{i j:Nat}(a:i<=j)(h:∀k,i<=k->k<j->S (w k) (w (k+1))):Rw S (j-i) (w i) (w j):=by
 have:=wL (S:=S) (w:=w) (i:=i) (j-i) (λk h1 h2=>h k h1 (by lia))
 rwa [show i+(j-i)=j by lia]at this
theorem jI{h:Nat->Int}{l:Int}:∀(P:Nat),(∀i,i<P->h (i+1)<=h i+1)->h 0<=l->l<=h P->∃u,u<=P/\h u=l/\∀i,u<i->i<=P->l<h i
 | 0,_,a,b=>⟨0,ER _,by lia,λi h1 h2=>by lia⟩
 | P+1,hs,a,b=>by
  by_cases e:h (P+1)=l
  .exact⟨P+1,ER _,e,λi h1 h2=>by lia⟩
  .have:=hs P (by lia);obtain⟨u,d,c,hi⟩:=jI P (λi hi=>hs i (by lia)) a (by lia);refine⟨u,by lia,c,λi h1 h2=>?_⟩;rcases Fh P i with g|g
   .have:i=P+1:=by lia
    subst this;lia
   .exact hi i h1 g
theorem oF{h:Nat->Int}{l:Int}{P:Nat}(g:P<=n)(hs:∀i,P<=i->i<n->h i<=h (i+1)+1)(c:h n<=l)(e:l<=h P):∃d,P<=d/\d<=n/\h d=l/\∀i,P<=i->i<d->l<h i:=by
 obtain⟨u,j,a,b⟩:=jI (h:=λi=>h (n-i)) (l:=l) (n-P) (λi hi=>by
  have:=hs (n-(i+1)) (by lia) (by lia)
  rwa [show n-(i+1)+1=n-i by lia]at this) (by simpa using c) (by
  try dsimp only
  rw[show n-(n-P)=P by lia];exact e)
 refine⟨n-u,by lia,by lia,a,λi h1 h2=>?_⟩;have:=b (n-i) (by lia) (by lia)
 (try dsimp only at this)
 rwa [show n-(n-i)=i by lia]at this
theorem code_inj{m r s b s':Int}(hs:0<=s)(c:s<m)(d:0<=s')(a:s'<m)(e:r*m+s=b*m+s'):r=b/\s=s':=by
 have h1:s=s':=by
  have:=congrArg (· % m) e
  (try dsimp only at this)
  rw[Int.add_comm,Int.add_mul_emod_self_right,Int.add_comm (b*m),Int.add_mul_emod_self_right,Int.emod_eq_of_lt hs c,Int.emod_eq_of_lt d a]at this;exact this
 refine⟨?_,h1⟩;have h2:r*m=b*m:=by omega
 exact Int.eq_of_mul_eq_mul_right (by lia) h2
theorem nN{m r s:Int}(a:0<=r)(b:r<m)(hs:0<=s)(c:s<m):0<=r*m+s/\r*m+s<m*m:=by have h1:0<=r*m:=E1 a (by lia);have h2:(r+1)*m<=m*m:=Int.mul_le_mul_of_nonneg_right (by lia) (by lia);rw[Int.add_mul,Int.one_mul]at h2;lia
theorem twice{K:Nat}(code:Nat->Nat)(h:∀j,j<=K->code j<K):∃i j,i<j/\j<=K/\code i=code j:=by
 refine Classical.byContradiction λno=>?_;have c:((Fo (K+1)).map code).Nodup:=by unfold List.Nodup;rw[List.pairwise_map];refine List.Pairwise.imp_of_mem ?_ (List.pairwise_lt_range (n:=K+1));intro a b ha hb hab e;exact no ⟨a,b,hab,by have:=List.mem_range.mp hb;lia,e⟩
 have:=iT K _ c (λx d=>by obtain⟨j,g,rfl⟩:=List.mem_map.mp d;exact h j (by have:=List.mem_range.mp g;lia))
 rw[Ew,List.length_range]at this;lia
theorem cut{S:Pl->Pl->Prop}{m:Int}(hm:0<m)(h1:∀x y,S x y->y.2<=x.2+1/\x.2<=y.2+1)(h2:∀x y c,S x y->0<=c->1<=x.2-c->1<=y.2-c->S (x.1,x.2-c) (y.1,y.2-c))
  (h3:∀x y,S x y->0<=y.1/\y.1<m) {b:Int} (hb:0<=b):∀(n:Nat) (x g:Pl),Rw S n x g->0<=x.1->x.1<m->x.2<=b->g.2<=b->∃E,E<=n/\Rw (λa c=>S a c/\c.2<=b+m*m) E x g:=by
 intro n;induction n using Nat.strongRecOn with
 | _ n ih=>
  intro x g hw U W xb gb;obtain⟨w,e,o,hws⟩:=hw.fn;by_cases hall:∀i,i<=n->(w i).2<=b+m*m
  .refine⟨n,ER _,?_⟩;have:=jF (S:=λa c=>S a c/\c.2<=b+m*m) (w:=w) (Nat.zero_le n) (λk _ F=>⟨hws k F,hall (k+1) (by lia)⟩);rw[e,o]at this;exact this
  .obtain⟨P,X⟩:=Classical.not_forall.mp hall;obtain⟨J,a5⟩:P<=n/\b+m*m<(w P).2:=by
    by_cases c:P<=n
    .exact⟨c,by
      by_cases d:(w P).2<=b+m*m
      .exact absurd (λ_=>d) X
      .omega⟩
    .exact absurd (λz=>absurd z c) X
   have a6:0<=m*m:=E1 (by omega) (by omega);have room:∀i,i<=n->0<=(w i).1/\(w i).1<m:=by
    intro i hi;cases i with
    | zero=>rw[e];exact⟨U,W⟩
    | succ i=>exact h3 _ _ (hws i (by omega))
   have v:∀j:Nat,∃u,(j<=(m*m).toNat->u<=P/\(w u).2=b+1+j/\∀i,u<i->i<=P->b+1+j<(w i).2):=by
    intro j;by_cases r:j<=(m*m).toNat
    .obtain⟨u,G,H,L⟩:=jI (h:=λi=>(w i).2) (l:=b+1+j) P (λi hi=>(h1 _ _ (hws i (by omega))).1) (by(try dsimp only);rw[e];omega) (by(try dsimp only);omega);exact⟨u,λ_=>⟨G,H,L⟩⟩
    .exact⟨0,λz=>absurd z r⟩
   have hd:∀j:Nat,∃d,(j<=(m*m).toNat->P<=d/\d<=n/\(w d).2=b+1+j/\∀i,P<=i->i<d->b+1+j<(w i).2):=by
    intro j;by_cases r:j<=(m*m).toNat
    .obtain⟨d,G,H,L,a4⟩:=oF (h:=λi=>(w i).2) (l:=b+1+j) J (λi _ hi=>(h1 _ _ (hws i hi)).2) (by(try dsimp only);rw[o];omega) (by(try dsimp only);omega);exact⟨d,λ_=>⟨G,H,L,a4⟩⟩
    .exact⟨0,λz=>absurd z r⟩
   obtain⟨u,v⟩:=Classical.axiomOfChoice v;obtain⟨d,hd⟩:=Classical.axiomOfChoice hd;obtain⟨i,j,ab,A,p⟩:=twice (K:=(m*m).toNat) (λj=>((w (u j)).1*m+(w (d j)).1).toNat) (λj r=>by
    have G:=v j r;have H:=hd j r;have r1:=room (u j) (by omega);have q:=room (d j) (by omega);have:=nN r1.1 r1.2 q.1 q.2
    try dsimp only
    omega)
   obtain⟨M,N,ac⟩:=v i (by omega);obtain⟨ad,ai,B⟩:=v j A;obtain⟨O,Q,aj,ak⟩:=hd i (by omega);obtain⟨am,an,R,C⟩:=hd j A;have Y:(w (u i)).1=(w (u j)).1/\(w (d i)).1=(w (d j)).1:=by
    have r1:=room (u i) (by omega);have q:=room (d i) (by omega);have Z:=room (u j) (by omega);have I:=room (d j) (by omega);have c1:=nN r1.1 r1.2 q.1 q.2;have c2:=nN Z.1 Z.2 I.1 I.2
    (try dsimp only at p)
    exact code_inj q.1 q.2 I.1 I.2 (by omega)
   have ap:u i<u j:=by
    rcases Nat.lt_trichotomy (u i) (u j)with z|z|z
    .exact z
    .rw[z]at N;omega
    .have:=B (u i) z M;omega
   have ar:d j<d i:=by
    rcases Nat.lt_trichotomy (d j) (d i)with z|z|z
    .exact z
    .rw[z]at R;omega
    .have:=C (d i) O z;omega
   have s1:Rw S (u i-0) (w 0) (w (u i)):=jF (Nat.zero_le _) (λk _ F=>hws k (by omega));have s3:Rw S (n-d i) (w (d i)) (w n):=jF Q (λk _ F=>hws k F);have hi:∀k,u j<=k->k<=d j->b+1+j<=(w k).2:=by
    intro k k1 k2;rcases Fh k P with z|z
    .rcases Fh (u j) k with y|y
     .have:=B k y (by omega);omega
     .have:k=u j:=by omega
      subst this;omega
    .rcases Fh k (d j)with y|y
     .have:=C k z y;omega
     .have:k=d j:=by omega
      subst this;omega
   have s2:Rw S (d j-u j) ((w (u j)).1,(w (u j)).2-(j-i:Nat)) ((w (d j)).1,(w (d j)).2-(j-i:Nat)):=
    jF (S:=S) (w:=λk=>((w k).1,(w k).2-(j-i:Nat))) (show u j<=d j by omega) (λk k1 k2=>h2 _ _ _ (hws k (by omega)) (by omega) (by have:=hi k k1 (by omega);omega) (by have:=hi (k+1) (by omega) (by omega);omega))
   have e1:((w (u j)).1,(w (u j)).2-((j-i:Nat):Int))=w (u i):=Prod.ext Y.1.symm (by(try dsimp only);omega);have e2:((w (d j)).1,(w (d j)).2-((j-i:Nat):Int))=w (d i):=Prod.ext Y.2.symm (by(try dsimp only);omega);rw[e1,e2]at s2;have s:=(s1.trans s2).trans s3;rw[e,o]at s;obtain⟨E,as,T⟩:=ih _ (by omega) x g s U W xb gb;exact⟨E,by omega,T⟩
def Wk.rw{nx:Pl->Nat->Option Pl}{s y:Pl}(h:Wk nx s n y):Rw (λa c=>∃k,nx a k=Vn c) n s y:=by
 induction h with
 | zero=>exact .nil
 | succ _ b d=>exact .snoc d ⟨_,b⟩
def Rw.wk{nx:Pl->Nat->Option Pl}{s y:Pl}{S:Pl->Pl->Prop}(d:∀a c,S a c->∃k,nx a k=Vn c)(h:Rw S n s y):Wk nx s n y:=by
 induction h with
 | nil=>exact .zero
 | snoc _ b e=>
  obtain⟨k,b⟩:=d _ _ b;exact .succ e b
theorem bz.each{nx:Pl->Nat->Option Pl}{s y:Pl}(d:bz nx s n y):∀j,j<=n->∃x,bz nx s (n-j) x:=by
 intro j;induction j with
 | zero=>intro _;exact⟨y,d⟩
 | succ j b=>
  intro h;obtain⟨x,w,a⟩:=b (by lia);rw[show n-j=(n-(j+1))+1 by lia]at w a;cases w with
  | @succ i c l k w e=>exact⟨c,w,λm o g=>a (m+1) (by lia) (.succ g e)⟩
theorem DE{a b m T:Int}(e:0<=T)(c:0<=a)(g:a<m)(h:0<=b)(i:b<=T):0<=a*(T+1)+b/\a*(T+1)+b<m*(T+1):=by have j:0<=a*(T+1):=E1 c (by lia);have d:(a+1)*(T+1)<=m*(T+1):=Int.mul_le_mul_of_nonneg_right (by lia) (by lia);rw[Int.add_mul,Int.one_mul]at d;lia
theorem C1{a b:Int}(h:0<=a/\a<b):a.toNat<b.toNat:=by lia
theorem yV{a b:Int}(h:0<=a)(g:0<=b)(e:a.toNat=b.toNat):a=b:=by lia
theorem Cu{c:Int}(no:¬(n:Int)<=c-1):c.toNat<=n:=by lia
def bz.few{nx:Pl->Nat->Option Pl}{s y:Pl}{m T:Int}(A:0<m)(q:0<=T)(d:bz nx s n y)(hin:∀k z,Wk nx s k z->0<=z.1/\z.1<m/\0<=z.2/\z.2<=T):(n:Int)<=m*(T+1)-1:=by
 have r:∀j:Nat,∃x,(j<=n->bz nx s j x):=by
  intro j;by_cases b:j<=n
  .obtain⟨x,h⟩:=d.each (n-j) (by omega);rw[show n-(n-j)=j by omega]at h;exact⟨x,λ_=>h⟩
  .exact⟨s,λz=>absurd z b⟩
 obtain⟨f,g⟩:=Classical.axiomOfChoice r;refine Classical.byContradiction λno=>?_;have p:=Cu no;have cl:∀z:Pl,0<=z.1/\z.1<m/\0<=z.2/\z.2<=T->0<=z.1*(T+1)+z.2/\z.1*(T+1)+z.2<m*(T+1):=λz h=>DE q h.1 h.2.1 h.2.2.1 h.2.2.2;obtain⟨i,j,c,b,u⟩:=twice (K:=(m*(T+1)).toNat) (λj=>((f j).1*(T+1)+(f j).2).toNat) (λj b=>C1 (cl (f j) (hin j (f j) (g j (E4 b p)).1)));have a:=E4 b p;have hi:=g i (E4 (Nat.le_of_lt c) a);have l:=hin i (f i) hi.1;have o:=hin j (f j) (g j a).1;obtain⟨v,w⟩:=code_inj (m:=T+1) l.2.2.1 (Int.lt_add_one_of_le l.2.2.2) o.2.2.1 (Int.lt_add_one_of_le o.2.2.2) (yV (cl _ l).1 (cl _ o).1 u);have e:=bz.uniq (nx:=nx) (s:=s) hi (by rw[show f i=f j from Prod.ext v w];exact g j a);exact EO c e
theorem zZ{nx:Pl->Nat->Option Pl}{s y:Pl}:∀(n:Nat),Wk nx s n y->∃k,k<=n/\bz nx s k y:=by
 intro n;induction n using Nat.strongRecOn with
 | _ n c=>
  intro w;by_cases h:∃k,k<n/\Wk nx s k y
  .obtain⟨k,a,b⟩:=h;obtain⟨d,h1,h2⟩:=c k a b;exact⟨d,by lia,h2⟩
  .exact⟨n,ER _,w,λk a b=>h ⟨k,a,b⟩⟩
end Bfs
namespace Bfs
end Bfs
namespace Rnd
inductive Wg{α:Type}(S:α->α->Prop):Nat->α->α->Prop
 | nil {x:α}:Wg S 0 x x
 | snoc {n:Nat} {x y z:α}:Wg S n x y->S y z->Wg S (n+1) x z
def Wg.trans{α:Type}{S:α->α->Prop}{k:Nat}{x y z:α}(h:Wg S n x y)(g:Wg S k y z):Wg S (n+k) x z:=by
 induction g with
 | nil=>exact h
 | snoc _ hs a=>exact .snoc (a h) hs
theorem Wg.fn{α:Type}{S:α->α->Prop}{x y:α}(h:Wg S n x y):∃w:Nat->α,w 0=x/\w n=y/\∀i,i<n->S (w i) (w (i+1)):=by
 induction h with
 | @nil x=>exact⟨λ_=>x,rfl,rfl,λi hi=>absurd hi (Nat.not_lt_zero _)⟩
 | @snoc n x y z _ hs a=>
  obtain⟨w,b,c,d⟩:=a;refine⟨λi=>if i<=n then w i else z,by simp[b],(by show(if n+1<=n then w (n+1)else z)=z;rw[Fs (by lia)]),λi hi=>?_⟩
  try dsimp only
  rcases Fh i n with l|l
  .rw[Ft (by lia),Ft (by lia)];exact d i l
  .have:i=n:=by lia
   subst this;rw[Ft (ER _),Fs (by lia),c];exact hs
theorem pJ{α:Type}{S:α->α->Prop}{w:Nat->α}{i:Nat}:∀(k:Nat),(∀j,i<=j->j<i+k->S (w j) (w (j+1)))->Wg S k (w i) (w (i+k))
 | 0,_=>.nil
 | k+1,h=>.snoc (pJ k λj h1 h2=>h j h1 (by lia)) (h (i+k) (by lia) (by lia))
theorem seg{α:Type}{S:α->α->Prop}{w:Nat->α}{i j:Nat}(a:∀k,k<n->S (w k) (w (k+1)))(b:i<=j)(c:j<=n):Wg S (j-i) (w i) (w j):=by
 have:=pJ (S:=S) (w:=w) (i:=i) (j-i) (λk h1 h2=>a k (by lia))
 rwa [show i+(j-i)=j by lia]at this
theorem DG{α:Type}{S:α->α->Prop}{I:α->Prop}{N:Nat}(code:α->Nat)(o:∀a,I a->code a<N)(inj:∀a b,I a->I b->code a=code b->a=b)(p:∀a b,S a b->I b):∀(k:Nat) (x y:α),I x->Wg S k x y->∃d,d<N/\Wg S d x y:=by
 intro k;induction k using Nat.strongRecOn with
 | _ k q=>
  intro x y g h;by_cases r:k<N
  .exact⟨k,r,h⟩
  .obtain⟨w,l,s,c⟩:=h.fn;have hIn:∀i,i<=k->I (w i):=λi hi=>by
    cases i with
    | zero=>rw[l];exact g
    | succ i=>exact p _ _ (c i (by lia))
   obtain⟨i,j,u,v,e⟩:=Bfs.twice (K:=N) (λj=>code (w j)) (λj v=>o _ (hIn j (by lia)));have e':=inj _ _ (hIn i (by lia)) (hIn j (by lia)) e;have z:=seg c (Nat.zero_le i) (by lia);have m:=seg c (show j<=k by lia) (ER k);rw[<-e']at m;have n:=z.trans m;rw[l,s]at n;exact q _ (by lia) x y g n
section
variable {n:Nat} {A:Nat->Nat->Prop} (hA:∀i j,A i j->i<n/\j<n)
def Pr(A:Nat->Nat->Prop)(c:Nat)(a b:Nat×Nat):Prop:=A a.1 b.1/\b.2=(a.2+1) % c
def lift{c k:Nat}{i j:Nat}(h:Wg A k i j):Wg (Pr A c) k (i,0 % c) (j,k % c):=by
 induction h with
 | nil=>exact .nil
 | @snoc k x y z _ hs a=>exact .snoc a ⟨hs,by show(k+1) % c=(k % c+1) % c;rw[Nat.mod_add_mod]⟩
def drop{c k:Nat}{a b:Nat×Nat}(h:Wg (Pr A c) k a b):a.2 % c=a.2->Wg A k a.1 b.1/\b.2=(a.2+k) % c:=by
 induction h with
 | nil=>exact λe=>⟨.nil,e.symm⟩
 | @snoc k x y z _ hs d=>
  intro e;obtain⟨h1,h2⟩:=d e;refine⟨.snoc h1 hs.1,?_⟩;rw[hs.2,h2,Nat.mod_add_mod,Nat.add_assoc]
include hA
theorem sC{c k i j:Nat}(p:1<=c)(hi:i<n)(h:Wg A k i j):∃d,d<n*c/\d % c=k % c/\Wg A d i j:=by
 obtain⟨d,g,l⟩:=DG (S:=Pr A c) (I:=λa=>a.1<n/\a.2<c) (N:=n*c) (λa=>a.1*c+a.2) (λa ha=>by
   have:(a.1+1)*c<=n*c:=Nat.mul_le_mul_right _ ha.1;rw[Nat.succ_mul]at this;have:=ha.2;show a.1*c+a.2<n*c;lia) (λa b ha hb e=>by
   have e':a.1*c+a.2=b.1*c+b.2:=e;have m:a.2=b.2:=by
    have:=congrArg (· % c) e'
    try dsimp only at this
    rwa [Nat.mul_add_mod_self_right,Nat.mul_add_mod_self_right,Nat.mod_eq_of_lt ha.2,Nat.mod_eq_of_lt hb.2]at this
   have o:a.1=b.1:=Nat.eq_of_mul_eq_mul_right (show 0<c by lia) (by lia);exact Prod.ext o m) (λa b h=>⟨(hA _ _ h.1).2,by rw[h.2];exact Nat.mod_lt _ (by lia)⟩) k _ _ ⟨hi,Nat.mod_lt _ (by lia)⟩ (lift h)
 obtain⟨h1,h2⟩:=drop l (Nat.mod_mod _ _);refine⟨d,g,?_,h1⟩;rw[Nat.zero_mod,Nat.zero_add]at h2;exact h2.symm
def oC{k i j:Nat}(hi:i<n)(h:Wg A k i j):j<n:=by
 cases h with
 | nil=>exact hi
 | snoc _ hs=>exact(hA _ _ hs).2
def Sm(A:Nat->Nat->Prop)(u v:Nat):Prop:=(∃k,Wg A k u v)/\∃k,Wg A k v u
omit hA in
def Sm.symm{u v:Nat}(h:Sm A u v):Sm A v u:=⟨h.2,h.1⟩
omit hA in
theorem Sm.trans{u v z:Nat}(h:Sm A u v)(g:Sm A v z):Sm A u z:=by obtain⟨⟨a,ha⟩,b,hb⟩:=h;obtain⟨⟨c,e⟩,d,hd⟩:=g;exact⟨⟨_,ha.trans e⟩,_,hd.trans hb⟩
omit hA in
def Sm.refl{u:Nat}:Sm A u u:=⟨⟨0,.nil⟩,0,.nil⟩
omit hA in
def tL{P:Nat->Prop}:∀k,P k->∃q,P q/\∀u,P u->q<=u:=by
 intro k;induction k using Nat.strongRecOn with
 | _ k b=>
  intro c;by_cases h:∃u,u<k/\P u
  .obtain⟨u,a,pu⟩:=h;exact b u a pu
  .exact⟨k,c,λu a=>Classical.byContradiction λz=>h ⟨u,by omega,a⟩⟩
def Rp(A:Nat->Nat->Prop)(q:Nat):Prop:=(∃k,1<=k/\Wg A k q q)/\∀u,Sm A q u->q<=u
omit hA in
def xI{u k:Nat}(g:1<=k)(h:Wg A k u u):∃q,Rp A q/\Sm A u q:=by obtain⟨q,c,d⟩:=tL (P:=λq=>Sm A u q) u Sm.refl;obtain⟨⟨a,ha⟩,b,hb⟩:=id c;exact⟨q,⟨⟨b+k+a,by omega,(hb.trans h).trans ha⟩,λv e=>d v (c.trans e)⟩,c⟩
theorem ring{q:Nat}(p:q<n)(h:Rp A q):∃(c:Nat) (L:List Nat),1<=c/\Wg A c q q/\L.length=c/\L.Nodup/\∀v∈L,v<n/\Sm A q v:=by
 obtain⟨⟨k,r,s⟩,_⟩:=h;obtain⟨c,⟨u,a⟩,x⟩:=tL (P:=λk=>1<=k/\Wg A k q q) k ⟨r,s⟩;obtain⟨w,l,m,g⟩:=a.fn;refine⟨c,(Fo c).map w,u,a,by simp,?_,?_⟩
 .unfold List.Nodup;rw[List.pairwise_map];refine List.Pairwise.imp_of_mem ?_ (List.pairwise_lt_range (n:=c));intro i j hi y z e;have B:=List.mem_range.mp y;have b:=seg g (Nat.zero_le i) (by lia);have d:=seg g (show j<=c by lia) (ER c);rw[<-e]at d;have o:=b.trans d;rw[l,m]at o;have:=x _ ⟨by lia,o⟩;lia
 .intro v C;obtain⟨i,hi,rfl⟩:=List.mem_map.mp C;have E:=List.mem_range.mp hi;have b:=seg g (Nat.zero_le i) (by lia);have d:=seg g (show i<=c by lia) (ER c);rw[l]at b;rw[m]at d;exact⟨oC hA p b,⟨_,b⟩,_,d⟩
theorem rings(H:n<=12):∀k,k<=n->∃(L:List Nat) (P:Nat),L.Nodup/\(∀v∈L,v<n/\∃q,q<k/\Rp A q/\Sm A q v)/\1<=P/\P ^ 3<=3 ^ L.length/\∀q,q<k->Rp A q->∃c,1<=c/\c<=n/\c ∣ P/\Wg A c q q:=by
 intro k;induction k with
 | zero=>exact λ_=>⟨[],1,List.nodup_nil,λv h=>(nomatch h),ER _,by decide,λq h=>absurd h (Nat.not_lt_zero _)⟩
 | succ k C=>
  intro I;obtain⟨L,P,nd,p,w,i,x⟩:=C (by lia);by_cases o:Rp A k
  .obtain⟨c,M,y,E,B,j,hMs⟩:=ring hA (show k<n by lia) o;have r:c<=n:=by rw[<-B];exact Bfs.iT n M j λv l=>(hMs v l).1
   refine⟨L++M,P*c,?_,?_,Nat.mul_pos w y,?_,?_⟩
   .rw[List.nodup_append];refine⟨nd,j,λa ha b hb e=>?_⟩;subst e;obtain⟨_,q,m,g,s⟩:=p a ha;have hs:Sm A k q:=(hMs a hb).2.trans s.symm;have:=o.2 q hs;lia
   .intro v l;rcases EU.mp l with z|z
    .obtain⟨h1,q,h2,i⟩:=p v z;exact⟨h1,q,by lia,i⟩
    .exact⟨(hMs v z).1,k,by lia,o,(hMs v z).2⟩
   .rw[Nat.mul_pow,EN,B,Nat.pow_add];have u:∀c,c<13->c ^ 3<=3 ^ c:=by decide
    exact Nat.mul_le_mul i (u c (by lia))
   .intro q m g;by_cases e:q=k
    .subst e;exact⟨c,y,r,⟨P,Nat.mul_comm _ _⟩,E⟩
    .obtain⟨d,h1,h2,F,G⟩:=x q (by lia) g;exact⟨d,h1,h2,Nat.dvd_trans F ⟨c,rfl⟩,G⟩
  .refine⟨L,P,nd,λv l=>?_,w,i,λq m g=>?_⟩
   .obtain⟨h1,q,h2,i⟩:=p v l;exact⟨h1,q,by lia,i⟩
   .by_cases e:q=k
    .subst e;exact absurd g o
    .exact x q (by lia) g
omit hA in
theorem times{c q:Nat}(h:Wg A c q q):∀t,Wg A (t*c) q q
 | 0=>by rw[Nat.zero_mul];exact .nil
 | t+1=>by rw[Nat.succ_mul];exact(times h t).trans h
theorem round(I:n<=12):∃P,1<=P/\P<=81/\∀s r k g,s<n->n<=k->2*(n*n)<=g->k % P=g % P->Wg A k s r->Wg A g s r:=by
 obtain⟨L,P,nd,J,M,N,O⟩:=rings hA I n (ER _);have hl:L.length<=n:=Bfs.iT n L nd λv Q=>(J v Q).1;refine⟨P,M,?_,?_⟩
 .refine Classical.byContradiction λz=>?_;have h1:82 ^ 3<=P ^ 3:=Nat.pow_le_pow_left (by lia) 3;have h2:3 ^ L.length<=3 ^ 12:=Nat.pow_le_pow_right (by decide) (by lia);have:82 ^ 3<=3 ^ 12:=E4 h1 (E4 N h2);exact absurd this (by decide)
 .intro s r k g hs hk R m h;obtain⟨w,E,u,p⟩:=h.fn;have hIn:∀i,i<=k->w i<n:=λi hi=>by
   cases i with
   | zero=>rw[E];exact hs
   | succ i=>exact(hA _ _ (p i (by lia))).2
  obtain⟨i,j,x,S,e⟩:=Bfs.twice (K:=n) w (λj S=>hIn j (by lia));have loop:=seg p (Nat.le_of_lt x) (show j<=k by lia);rw[<-e]at loop;obtain⟨q,T,⟨⟨a,ha⟩,b,hb⟩⟩:=xI (by lia) loop;have o:q<n:=oC hA (hIn i (by lia)) ha;obtain⟨c,F,y,B,C⟩:=O q o T;have G:=seg p (Nat.zero_le i) (show i<=k by lia);have H:=seg p (show i<=k by lia) (ER k);rw[E]at G;rw[u]at H;have U:=G.trans ha;have W:=(hb.trans (times (ha.trans hb) (c-1))).trans H;obtain⟨l,l1,m1,X⟩:=sC hA F hs U;obtain⟨p2,l2,Y,Z⟩:=sC hA F o W;have a1:n*c<=n*n:=Nat.mul_le_mul_left _ y;have hle:l+p2<=g:=by lia
  have hm:(l+p2) % c=g % c:=by
   have e1:(l+p2) % c=((i-0+a)+(b+(c-1)*(a+b)+(k-i))) % c:=by rw[Nat.add_mod,m1,Y,<-Nat.add_mod]
   have e2:(i-0+a)+(b+(c-1)*(a+b)+(k-i))=k+c*(a+b):=by obtain⟨d,rfl⟩:∃d,c=d+1:=⟨c-1,by lia⟩;rw[Nat.add_sub_cancel,Nat.succ_mul];lia
   rw[e1,e2,Nat.add_mul_mod_self_left];obtain⟨d,rfl⟩:=B;rw[<-Nat.mod_mul_right_mod k c d,m,Nat.mod_mul_right_mod]
  obtain⟨t,ht⟩:∃t,g=l+p2+t*c:=by refine⟨(g-(l+p2)) / c,?_⟩;have hd:(g-(l+p2)) % c=0:=(Nat.sub_mod_eq_zero_of_mod_eq hm.symm);have:=Nat.div_add_mod (g-(l+p2)) c;rw[hd,Nat.mul_comm]at this;lia
  rw[ht,show l+p2+t*c=l+t*c+p2 by lia];exact(X.trans (times C t)).trans Z
end
open St in
def CH{f:Nat->Bool}{st b P:Nat}(h:Least f st low)(d:1<=P)(a:aW f b P):st ∣ P/\low<=b:=by
 have hd:st ∣ P:=by
  have e:aW f (max b low) P:=λx c=>a x (by omega);have p2:aW f (max b low) st:=λx c=>h.per x (by omega);have g:=e.mod p2;have hs:=h.pos;by_cases z:P % st=0
  .exact Nat.dvd_of_mod_eq_zero z
  .have:=h.step (P % st) _ (by omega) g;have:=Nat.mod_lt P (show st>0 by omega);omega
 refine⟨hd,h.base b λx c=>?_⟩;have i:=a.times low x c;have j:=a.times low (x+st) (by omega);have hge:low<=low*P:=Nat.le_mul_of_pos_right low d;have k:=h.per (x+low*P) (by omega);rw[<-i,<-j,<-k];congr 1;omega
end Rnd
namespace My
open PySem L2 St
variable {P:Vd} {w:Ve} {mg:Vm->Option Va} {base:Vh}
@[irreducible] noncomputable def K:Eo:=L2.sX _root_.My.top.heap_39 _root_.My.top
def stq (i : Nat) : Stmt := PySem.Challenge.pw_stairrooms_k34_whole_answer.main.body.getD i (.Pass ⟨0, 0, 0, 0⟩)
local macro_rules|`(tactic| walk_at "cond") => `(tactic| first|decide|omega|(dsimp only; omega)|(unfold jm; omega)|(unfold uY; exact ⟨by decide, by decide, by decide⟩)|(dsimp only; exact ⟨by omega, by omega⟩)|exact .inr ⟨by decide, by decide⟩|exact .inl ⟨by decide, by decide⟩|(unfold je; omega))
local macro_rules|`(tactic| walk_at"") => do
 let ts <- ("seq ret retN asg drop ifS next name var c op un CB cons nil ints test B exb not and or andV orV notV ifE yes I0 I U EqI NeI EqB NeB call BM tup lst sl noPart part exi chain comp iL iT i1 i2 i3 for tTru intB max2 min2 sub gcons gnil aug ipI zip rev par par2 lam calV raise fs try bseq bnext bplain bif bcall enum gget gin revL leS disp dget lrev disp1 din dnin dput min3 iS iD bm0 revS iD2 iLT thaw iD3 iDL dgt2 fs3 fs5".splitOn " ").toArray.mapM λn =>
  let i := Lean.mkIdent (.mkSimple ("rd_" ++ n))
  if n == "var" || n == "aug" then `(tacticSeq| ((with_reducible apply $i); (exact rfl)))
  else if n == "I" then `(tacticSeq| ((with_reducible apply $i); (walk_at "cond")))
  else `(tacticSeq| with_reducible refine $i ?_)
 `(tactic| repeat (first $[| $ts]*|dsimp only))
def bX(H:Hp)(p:Vb)(kk:List (List Key)):Prop:=∃bs:List Vb,H p=Vn (.tup (bs.map V.ref))/\bs.length=kk.length/\∀(j:Nat) (b:Vb) (k:List Key),bs[j]?=Vn b->kk[j]?=Vn k->H b=Vn (.tup (k.map kV))
def bX.ext{H H':Hp}{p:Vb}{kk:List (List Key)}(e:Ext H H')(h:bX H p kk):bX H' p kk:=by obtain⟨bs,h1,h2,a⟩:=h;exact⟨bs,e _ _ h1,h2,λj b k c d=>e _ _ (a j b k c d)⟩
structure Blt(mg:Vm->Option Va):Prop where
 len_:mg "len" = Vo
 isinstance_:mg "isinstance" = Vo
 tuple_:mg "tuple" = Vo
 list_:mg "list" = Vo
 int_:mg "int" = Vo
 bool_:mg "bool" = Vo
 range_:mg "range" = Vo
 zip_:mg "zip" = Vo
 max_:mg "max" = Vo
 min_:mg "min" = Vo
 abs_:mg "abs" = Vo
 all_:mg "all" = Vo
 enumerate_:mg "enumerate" = Vo
 set_:mg "set" = Vo
 str_:mg "str" = Vo
 reversed_:mg "reversed" = Vo
 any_:mg "any" = Vo
 sorted_:mg "sorted" = Vo
def n6:List (Key×V):=[(.inr "up",.int 1),(.inr "down",.int (-1)),(.inr "stay",.int 0),(.inr "zero",.int 0)]
def nJ:List (Key×V):=[(.inr "up",.str "down"),(.inr "down",.str "up"),(.inr "stay",.str "stay"),(.inr "zero",.str "zero")]
abbrev Dq(K:Eo)(mg:Vm->Option Va)(x:Vm)(st:Stmt):Prop:=∃(f:Vb) (fd:Vl),mg x=Vn (.ref f)/\Fun K x x st f fd
abbrev bd(x:Vm)(st:Stmt)(us:List Va)(r:List (Vm×Va)):Prop:=∀(kV doc pm:Va) (an:Option Vb) (cdv ct:Va),bindArgs (PySem.W.fnOf x x (gQ st) (eD st) (cx st) .none kV doc pm an cdv ct) ⟨us,[]⟩=pure r
def ck{K:Eo}{mg:Vm->Option Va}{x:Vm}{st:Stmt}{b:Vm}(d:Dq K mg x st)(h:∀c,bd x st [c] [(b,c)]:=by(repeat intro _);rfl):Dfn K mg x st [b]:=let ⟨f,fd,a,F⟩:=d;⟨f,fd,a,F,F.binds (ps:=[b]) λ_ _ _ _ _ _ us e=>match us,e with|[_],_=>h _ _ _ _ _ _ _⟩
def bw{K:Eo}{mg:Vm->Option Va}{x:Vm}{st:Stmt}{b c:Vm}(d:Dq K mg x st)(h:∀e g,bd x st [e,g] [(b,e),(c,g)]:=by(repeat intro _);rfl):Dfn K mg x st [b,c]:=let ⟨f,fd,a,F⟩:=d;⟨f,fd,a,F,F.binds (ps:=[b,c]) λ_ _ _ _ _ _ us i=>match us,i with|[_,_],_=>h _ _ _ _ _ _ _ _⟩
def ef{K:Eo}{mg:Vm->Option Va}{x:Vm}{st:Stmt}{b c p2:Vm}(d:Dq K mg x st)(h:∀e g i,bd x st [e,g,i] [(b,e),(c,g),(p2,i)]:=by(repeat intro _);rfl):Dfn K mg x st [b,c,p2]:=let ⟨f,fd,a,F⟩:=d;⟨f,fd,a,F,F.binds (ps:=[b,c,p2]) λ_ _ _ _ _ _ us j=>match us,j with|[_,_,_],_=>h _ _ _ _ _ _ _ _ _⟩
def jK{K:Eo}{mg:Vm->Option Va}{x:Vm}{st:Stmt}{b c p2 e:Vm}(d:Dq K mg x st)(h:∀g i j k,bd x st [g,i,j,k] [(b,g),(c,i),(p2,j),(e,k)]:=by(repeat intro _);rfl):Dfn K mg x st [b,c,p2,e]:=let ⟨f,fd,a,F⟩:=d;⟨f,fd,a,F,F.binds (ps:=[b,c,p2,e]) λ_ _ _ _ _ _ us l=>match us,l with|[_,_,_,_],_=>h _ _ _ _ _ _ _ _ _ _⟩
structure Bu(w:Ve)(mg:Vm->Option Va)(base:Vh):Prop extends Blt mg where
 d__law_behind:Dq K mg "_law_behind" (stq 85)
 d__law_gone:Dq K mg "_law_gone" (stq 87)
 d__law_whole:Dq K mg "_law_whole" (stq 88)
 d__law_walk:Dq K mg "_law_walk" (stq 92)
 d_refuse_great_stair:Dq K mg "refuse_great_stair" (stq 14)
 d_is_whole:Dq K mg "is_whole" (stq 9)
 d_is_rising_row:Dq K mg "is_rising_row" (stq 10)
 d_are_stair_places:Dq K mg "are_stair_places" (stq 11)
 d_is_stair:Dq K mg "is_stair" (stq 12)
 d_refuse_no_stair:Dq K mg "refuse_no_stair" (stq 13)
 d_refuse_bad_stair:Dq K mg "refuse_bad_stair" (stq 15)
 d_holds:Dq K mg "holds" (stq 19)
 d_is_room:Dq K mg "is_room" (stq 26)
 d_is_near_place:Dq K mg "is_near_place" (stq 33)
 d_marks_below:Dq K mg "marks_below" (stq 16)
 d_greatest_divisor:Dq K mg "greatest_divisor" (stq 58)
 d_common_step:Dq K mg "common_step" (stq 59)
 d_raised_by:Dq K mg "raised_by" (stq 36)
 d_is_left_by:Dq K mg "is_left_by" (stq 71)
 d_are_near_steps:Dq K mg "are_near_steps" (stq 69)
 d_is_near_stair:Dq K mg "is_near_stair" (stq 68)
 d_are_stairs_for:Dq K mg "are_stairs_for" (stq 70)
 d_is_sign:Dq K mg "is_sign" (stq 28)
 d_is_deed:Dq K mg "is_deed" (stq 27)
 d_is_way:Dq K mg "is_way" (stq 29)
 d_are_ways:Dq K mg "are_ways" (stq 30)
 d_is_house:Dq K mg "is_house" (stq 31)
 d_sees_closed:Dq K mg "sees_closed" (stq 72)
 d_sees_never:Dq K mg "sees_never" (stq 73)
 d_least_step:Dq K mg "least_step" (stq 17)
 d_stair_of_marks:Dq K mg "stair_of_marks" (stq 18)
 d_stair_of_room:Dq K mg "stair_of_room" (stq 55)
 d_next_level:Dq K mg "next_level" (stq 53)
 d_reached:Dq K mg "reached" (stq 50)
 d_told_pairs:Dq K mg "told_pairs" (stq 41)
 d_add_arches:Dq K mg "add_arches" (stq 44)
 d_join_walks:Dq K mg "join_walks" (stq 43)
 d_ways_of_deed:Dq K mg "ways_of_deed" (stq 40)
 d_beginning_table:Dq K mg "beginning_table" (stq 42)
 d_kept_table:Dq K mg "kept_table" (stq 45)
 d_refuse_no_house:Dq K mg "refuse_no_house" (stq 32)
 d_kept:Dq K mg "kept" (stq 46)
 d_ways_by_room:Dq K mg "ways_by_room" (stq 49)
 d_is_open:Dq K mg "is_open" (stq 35)
 d_led_to:Dq K mg "led_to" (stq 37)
 d_led_to_from:Dq K mg "led_to_from" (stq 38)
 d_low_beside:Dq K mg "low_beside" (stq 51)
 d_low_levels:Dq K mg "low_levels" (stq 52)
 d_risen:Dq K mg "risen" (stq 47)
 d_all_levels:Dq K mg "all_levels" (stq 54)
 d_refuse_bad_places:Dq K mg "refuse_bad_places" (stq 34)
 d_forward:Dq K mg "forward" (stq 56)
 d__law_there:Dq K mg "_law_there" (stq 95)
 d__law_bits:Dq K mg "_law_bits" (stq 93)
 d__law_multiple:Dq K mg "_law_multiple" (stq 94)
 d__law_leaves:Dq K mg "_law_leaves" (stq 96)
 d__law_holds:Dq K mg "_law_holds" (stq 91)
 d__law_rises:Dq K mg "_law_rises" (stq 89)
 d__law_is_stair:Dq K mg "_law_is_stair" (stq 90)
 d__law_never_right:Dq K mg "_law_never_right" (stq 98)
 d__law_come:Dq K mg "_law_come" (stq 86)
 d_walk_back:Dq K mg "walk_back" (stq 64)
 d_counts_by_room:Dq K mg "counts_by_room" (stq 61)
 d_greatest_met:Dq K mg "greatest_met" (stq 62)
 d_found_from:Dq K mg "found_from" (stq 63)
 d_sought_walk:Dq K mg "sought_walk" (stq 65)
 d_shortest:Dq K mg "shortest" (stq 66)
 d_answer:Dq K mg "answer" (stq 74)
 d__law_mixed:Dq K mg "_law_mixed" (stq 77)
 d__law_draws:Dq K mg "_law_draws" (stq 78)
 d__law_cell:Dq K mg "_law_cell" (stq 76)
 d__law_places:Dq K mg "_law_places" (stq 97)
 d__law_unlike:Dq K mg "_law_unlike" (stq 80)
 d__law_drawn_house:Dq K mg "_law_drawn_house" (stq 81)
 d__law_gate_house:Dq K mg "_law_gate_house" (stq 83)
 d__law_ring_house:Dq K mg "_law_ring_house" (stq 82)
 d__law_spare:Dq K mg "_law_spare" (stq 79)
 d__law_house:Dq K mg "_law_house" (stq 84)
 g_GREATEST_STEP:∃t,mg "GREATEST_STEP" = Vn (.int 840 t)
 g_GREATEST_BASE:∃t,mg "GREATEST_BASE" = Vn (.int 3000 t)
 g_GREATEST_NUMBER:∃t,mg "GREATEST_NUMBER" = Vn (.int 1000 t)
 g_GREATEST_WAYS:∃t,mg "GREATEST_WAYS" = Vn (.int 100 t)
 g_GREATEST_MANY:∃t,mg "GREATEST_MANY" = Vn (.int 12 t)
 h_RAISED:∃a,mg "RAISED" = Vn (.ref a)/\GDict w K a n6
 h_TURNED:∃a,mg "TURNED" = Vn (.ref a)/\GDict w K a nJ
 b_kept:∃c T,Tab K mg base "kept" c T
 b_low_levels:∃c T,Tab K mg base "low_levels" c T
 b_risen:∃c T,Tab K mg base "risen" c T
def isInt:V->Bool
 | .int _=>true
 | _=>false
def Bh{H:Hp}{v:V}{n:String}(h:fJ H v n):∃b c,iP n "int" = Vn b/\iP n "bool" = Vn c/\(b && !c)=isInt v:=by
 cases v with
 | non=>cases(show n = "NoneType" from h);exact⟨_,_,rfl,rfl,rfl⟩
 | bl b=>cases(show n = "bool" from h);exact⟨_,_,rfl,rfl,rfl⟩
 | int i=>cases(show n = "int" from h);exact⟨_,_,rfl,rfl,rfl⟩
 | str z=>cases(show n = "str" from h);exact⟨_,_,rfl,rfl,rfl⟩
 | ref a=>rcases h with⟨rfl,xs,e⟩|⟨rfl,xs,e⟩<;>exact⟨_,_,rfl,rfl,rfl⟩
 | _=>exact False.elim h
inductive sf(K:Eo)(vs:List V)(H:Hp)(Q:VK)(E:XK):Prop|mk:∀v n,vs=[v]->fJ H v n->Q (.bl (isInt v)) H->sf K vs H Q E
def jb(T:Bu w mg base):Cal P w K mg base "is_whole" 1 ["thing"] (sf K):=by
 refine(ck T.d_is_whole).oS ["thing"] λg nd H vs Q E h=>?_;obtain⟨v,n,rfl,a,q⟩:=h;obtain⟨b,c,hb,d,e⟩:=Bh a;refine⟨_,(aw (aD (cG (aS c8 rfl T.isinstance_ PyProof.Rows.boot_isinstance (ae (pv 0) (ae (dh (v:=.ty "int") rfl T.int_ PyProof.Rows.boot_int rfl) aa))) (cQ (iF (aS c8 rfl T.isinstance_ PyProof.Rows.boot_isinstance (ae (pv 0) (ae (dh (v:=.ty "bool") rfl T.bool_ PyProof.Rows.boot_bool rfl) aa)))))))),?_⟩;walk_at"";refine cS a hb ?_;walk_at"";cases b with
 | false=>refine ax ?_;rw[<-e]at q;exact q
 | true=>
  refine aC ?_;walk_at"";refine cS a d ?_;walk_at"";rw[<-e]at q;exact q
structure Way where
 room:Int
 deed:Vm
 other:Int
 sign:Vm
 deriving DecidableEq
abbrev Way.key(w:Way):List Key:=[.inl w.room,.inr w.deed,.inl w.other,.inr w.sign]
abbrev Way.vs(w:Way):List V:=[.int w.room,.str w.deed,.int w.other,.str w.sign]
variable {m r T top s U:Int}{ws us:List Way}{n c d:Nat}{a o:List Int}{z:Vm}{H H2 H' H0 H1:Hp}{p q th:Vb}{xs ys:List V}{v:V}{Q:VK}{y:Bfs.Pl}{σ:St}{ts:List (Int×Int×Int)}{g:Nat->Bool}{rs as:List Vb}{M M':Nat->Nat->Bool}{cs:List (Vb×Obj)}{qs:List Bfs.Pl}
def Way.key_inj{w u:Way}(h:w.key=u.key):w=u:=by cases w;cases u;simp only[Way.key,List.cons.injEq,Sum.inl.injEq,Sum.inr.injEq]at h;obtain⟨rfl,rfl,rfl,rfl,_⟩:=h;rfl
def t9(z:Vm):Prop:=∃c:Nat,97<=c/\c<=122/\z=⟨#[c]⟩
def bY(z:Vm):Prop:=z = "up"\/z = "down"\/z = "stay"\/z = "zero"
structure Way.Ok(m:Int)(w:Way):Prop where
 r0:0<=w.room
 r1:w.room<m
 o0:0<=w.other
 o1:w.other<m
 dd:bY w.deed
 sg:t9 w.sign
structure HOuse(m:Int)(ws:List Way):Prop where
 m1:1<=m
 m12:m<=12
 few:ws.length<=100
 ok:∀w∈ws,w.Ok m
 nd:ws.Nodup
def HOuse.keys(h:HOuse m ws):(ws.map Way.key).Nodup:=by have:=h.nd;unfold List.Nodup at this ⊢;rw[List.pairwise_map];exact this.imp λne e=>ne (Way.key_inj e)
def bh(H:Hp)(v:V)(m:Int)(ws:List Way):Prop:=∃p q,v=.ref p/\H p=Vn (.tup [.int m,.ref q])/\bX H q (ws.map Way.key)
theorem bh.ext{H H':Hp}{v:V}{m:Int}{ws:List Way}(e:Ext H H')(h:bh H v m ws):bh H' v m ws:=by obtain⟨p,q,rfl,h1,h2⟩:=h;exact⟨p,q,rfl,e _ _ h1,h2.ext e⟩
def dQ(h:n<=1000):n<=sizeLine:=E4 h (by decide)
inductive qh(K:Eo)(vs:List V)(H:Hp)(Q:VK)(E:XK):Prop|mk:∀i m,vs=[.int i,.int m]->0<=i->i<m->Q (.bl true) H->qh K vs H Q E
def j9(T:Bu w mg base):Cal P w K mg base "is_room" 2 ["thing","many"] (qh K):=by refine(bw T.d_is_room).oS ["thing","many"] λa nd H vs Q E h=>?_;obtain⟨i,m,rfl,b,h1,q⟩:=h;refine⟨_,(aw (aD (cG (aB (jb T) a (ae (pv 0) aa)) (cQ (jN fu dj af (pv 0) (pv 1)))))),?_⟩;walk_at"";refine⟨_,"int",rfl,rfl,?_⟩;refine rd_exb ?_;refine aC ?_;walk_at"";rw[Fq b];refine aC ?_;walk_at"";rw[Fq h1];exact q
def Cd{w:Ve}{K:Eo}{a:Vb}{b c d e g i j k:Tok}{ep:Nat}(h:K.lookup a=Vn (jf w [("up",b,.str "down" c),("down",d,.str "up" e),("stay",g,.str "stay" i),("zero",j,.str "zero" k)] ep))(hs:(a == sysModules)=false):GDict w K a nJ:=
 ⟨⟨_,_,h,.cons ⟨rfl,⟨_,rfl⟩⟩ (.cons ⟨rfl,⟨_,rfl⟩⟩ (.cons ⟨rfl,⟨_,rfl⟩⟩ (.cons ⟨rfl,⟨_,rfl⟩⟩ .nil)))⟩,by decide +kernel,hs⟩
def Co(z:Vm):Vm:=if z = "up" then "down" else if z = "down" then "up" else z
def Ct(h:bY z):bV nJ (.inr z)=Vn (.str (Co z)):=by rcases h with rfl|rfl|rfl|rfl<;>decide +kernel
inductive o5(K:Eo)(vs:List V)(H:Hp)(Q:VK)(E:XK):Prop|mk:∀z,vs=[.str z]->bY z->Q (.bl true) H->o5 K vs H Q E
def xT(T:Bu w mg base):Cal P w K mg base "is_deed" 1 ["thing"] (o5 K):=by obtain⟨d,a,c⟩:=T.h_TURNED;refine(ck T.d_is_deed).oS ["thing"] λg nd H vs Q E h=>?_;obtain⟨z,rfl,e,q⟩:=h;refine⟨_,(aw (aD (cG (aS c8 rfl T.isinstance_ PyProof.Rows.boot_isinstance (ae (pv 0) (ae (dh (v:=.ty "str") rfl T.str_ PyProof.Rows.boot_str rfl) aa))) (cQ (CV (xZ rfl a c (pv 0)) (by with_unfolding_all rfl)))))),?_⟩;walk_at"";refine cS (n:="str") rfl (b:=true) rfl ?_;walk_at"";refine aC ?_;walk_at"";refine⟨.inr z,rfl,?_⟩;rw[Ct e];exact q
def zE(h:97<=c):(!decide (([c]:List Nat)<(Fb "a").cps.toList))=true:=by
 have e:(Fb "a").cps.toList=[97]:=by decide +kernel
 rw[e,Fp (λz=>by
  rw[List.cons_lt_cons_iff]at z;rcases z with z|⟨_,z⟩
  .omega
  .cases z)]
 rfl
def DK(h:c<=122):(!decide ((Fb "z").cps.toList<([c]:List Nat)))=true:=by
 have e:(Fb "z").cps.toList=[122]:=by decide +kernel
 rw[e,Fp (λz=>by
  rw[List.cons_lt_cons_iff]at z;rcases z with z|⟨_,z⟩
  .omega
  .cases z)]
 rfl
inductive uP(K:Eo)(vs:List V)(H:Hp)(Q:VK)(E:XK):Prop|mk:∀z,vs=[.str z]->t9 z->Q (.bl true) H->uP K vs H Q E
def zo(T:Bu w mg base):Cal P w K mg base "is_sign" 1 ["thing"] (uP K):=by refine(ck T.d_is_sign).oS ["thing"] λe nd H vs Q E h=>?_;obtain⟨z,rfl,⟨c,a,d,rfl⟩,q⟩:=h;refine⟨_,(aw (aD (cG (aS c8 rfl T.isinstance_ PyProof.Rows.boot_isinstance (ae (pv 0) (ae (dh (v:=.ty "str") rfl T.str_ PyProof.Rows.boot_str rfl) aa))) (cG (cY bH (aS CN rfl T.len_ PySem.boot_len (ae (pv 0) aa)) af (aJ _)) (cQ (jN qA qA aU (pv 0) aU)))))),?_⟩;walk_at"";refine cS (n:="str") rfl (b:=true) rfl ?_;walk_at"";refine aC ?_;walk_at"";refine⟨_,rfl,dQ (show 1<=1000 by decide),?_⟩;walk_at"";refine aC ?_;walk_at"";rw[zE a];refine aC ?_;walk_at"";rw[DK d];exact q
def ml(h:H p=Vn (.tup xs)):fJ H (.ref p) "tuple":=.inr ⟨rfl,xs,h⟩
inductive qr(K:Eo)(vs:List V)(H:Hp)(Q:VK)(E:XK):Prop|mk:∀p w m,vs=[.ref p,.int m]->H p=Vn (.tup (Way.vs w))->w.Ok m->Q (.bl true) H->qr K vs H Q E
def A8(T:Bu w mg base):Cal P w K mg base "is_way" 3 ["thing","many"] (qr K):=by
 refine(bw T.d_is_way).oS ["thing","many"] λc nd H vs Q E h=>?_;obtain⟨p,w,m,rfl,a,ok,q⟩:=h;refine⟨_,(av (aY (PW.pt (bJ (bB (a0 (aS c8 rfl T.isinstance_ PyProof.Rows.boot_isinstance (ae (pv 0) (ae (dh (v:=.ty "tuple") rfl T.tuple_ PyProof.Rows.boot_tuple rfl) aa))))) (b9 (aN dY (aS (cq K) rfl T.len_ PySem.boot_len (ae (pv 0) aa)) af (aJ _))))) (aw (aD a7)) aQ)
   (av (aY (PW.pt (bJ (bB (a0 (aB (j9 T) c (ae (ao (az K) (pv 0) af (λ_ _=>rfl)) (ae (pv 1) aa))))) (b9 (bB (a0 (aB (j9 T) c (ae (ao (az K) (pv 0) af (λ_ _=>rfl)) (ae (pv 1) aa)))))))) (aw (aD a7)) aQ)
   (aw (aD (cG (aB (xT T) c (ae (ao (az K) (pv 0) af (λ_ _=>rfl)) aa)) (cQ (aB (zo T) c (ae (ao (az K) (pv 0) af (λ_ _=>rfl)) aa)))))))),?_⟩
 walk_at"";refine cS (ml a) (b:=true) rfl ?_;walk_at"";refine ax ?_;walk_at"";refine gK (ah.of a) ?_;walk_at"";refine ax ?_;walk_at"";refine ay (ah.of a) (v:=.int w.room) rfl ?_;walk_at"";refine⟨_,_,rfl,ok.r0,ok.r1,?_⟩;walk_at"";refine ax ?_;walk_at"";refine ay (ah.of a) (v:=.int w.other) rfl ?_;walk_at"";refine⟨_,_,rfl,ok.o0,ok.o1,?_⟩;walk_at"";refine ax ?_;walk_at"";refine ay (ah.of a) (v:=.str w.deed) rfl ?_;walk_at"";refine⟨_,rfl,ok.dd,?_⟩;walk_at"";refine aC ?_;walk_at"";refine ay (ah.of a) (v:=.str w.sign) rfl ?_;walk_at"";exact⟨_,rfl,ok.sg,q⟩
def bX.item{bs:List Vb}(h:∀(j:Nat) (b:Vb) (k:List Key),bs[j]?=Vn b->(ws.map Way.key)[j]?=Vn k->H b=Vn (.tup (k.map kV))){j:Nat}{b:Vb}{w:Way}(a:bs[j]?=Vn b)(c:ws[j]?=Vn w):H b=Vn (.tup w.vs):=
 h j b w.key a (by rw[Ey,c];rfl)
inductive pO(K:Eo)(vs:List V)(H:Hp)(Q:VK)(E:XK):Prop|mk:∀q ws m,vs=[.ref q,.int m]->bX H q (ws.map Way.key)->HOuse m ws->(∀H',Ext H H'->Q (.bl true) H')->pO K vs H Q E
theorem yn(T:Bu w mg base):Cal P w K mg base "are_ways" 4 ["thing","many"] (pO K):=by
 obtain⟨c,a⟩:=T.g_GREATEST_WAYS;refine(bw T.d_are_ways).oS ["thing","many"] λj nd H vs Q E h=>?_;obtain⟨q,ws,m,rfl,k,ok,s⟩:=h;obtain⟨bs,h1,h2,u⟩:=id k;rw[Ew]at h2;have n:=ok.few;refine⟨_,(av (aY (PW.pt (bJ (bB (a0 (aS c8 rfl T.isinstance_ PyProof.Rows.boot_isinstance (ae (pv 0) (ae (dh (v:=.ty "tuple") rfl T.tuple_ PyProof.Rows.boot_tuple rfl) aa))))) (b9 (aN eB (aS (cq K) rfl T.len_ PySem.boot_len (ae (pv 0) aa)) (gL (v:=.int 100) rfl a ⟨_,rfl⟩) (aJ _))))) (aw (aD a7)) aQ)
   (aw (aD (cG (aS (ie K rfl) rfl T.all_ PyProof.Rows.boot_all (ae (cn ["way"] [1] (eZ K (pv 0)) (λ_=>(aI (i:=0) (show(["way","many"]:List Vm).Nodup from by decide +kernel) rfl oi oj)) (λ_=>cz) (λ_=>(aB (A8 T) j (ae (pv 0) (ae (pv 1) aa))))) aa)) (cQ (cY bH (aS Og.call_lenSet rfl T.len_ PySem.boot_len (ae (ic (Og.call_setT j) rfl T.set_ PyProof.Rows.boot_set (ae (pv 0) aa)) aa)) (aS (cq K) rfl T.len_ PySem.boot_len (ae (pv 0) aa)) (aJ _))))))),?_⟩
 walk_at"";refine cS (ml h1) (b:=true) rfl ?_;walk_at"";refine ax ?_;walk_at"";refine gK (ah.of h1) ?_;walk_at"";rw[Fp (show ¬((100:Int)<((bs.map V.ref).length:Nat)) by rw[Ew];lia)];refine ax ?_;walk_at"";refine eR (ah.of h1) ?_;refine jv (xs:=bs.map V.ref) (λi ys H'=>Ext H H'/\ys=(Ff i true).map V.bl) (dQ (by rw[Ew];lia)) ⟨λ_ _ z=>z,rfl⟩ (λi ys H' hi h=>⟨ah.of (h.1 _ _ h1),by rw[h.2];simp⟩) ?_ ?_
 .rintro i x ys H' o ⟨e,rfl⟩;rw[Ey]at o;obtain⟨b,hb,rfl⟩:=EH.mp o;have hi:i<ws.length:=by rw[<-h2];exact(EE.mp hb).1
  have d:ws[i]?=Vn ws[i]:=Ex hi;walk_at"";refine aC ?_;walk_at"";refine⟨b,ws[i],m,rfl,e _ _ (bX.item u hb d),ok.ok _ (EX hi),e,?_⟩;rw[List.replicate_succ',EM];rfl
 .rintro ys H' p ⟨e,rfl⟩ y;walk_at"";have g:Ext H (upd H' p (.lst ((Ff (bs.map V.ref).length true).map V.bl))):=e.trans (a8 y);refine⟨p,Ff (bs.map V.ref).length true,rfl,ag.of aK,?_⟩;rw[show (Ff (bs.map V.ref).length true).all id=true by simp];walk_at"";refine aC ?_;walk_at"";refine Og.rd_setOf (k.ext g) ok.keys (by rw[Ew];lia) λl H2 r A=>?_;walk_at"";refine Og.rd_lenSet A (by rw[Ew];lia) ?_;walk_at"";refine gK (ah.of ((g.trans r) _ _ h1)) ?_;walk_at"";rw[show decide (((((ws.map Way.key).length:Nat):Int))=((bs.map V.ref).length:Nat))=true by rw[Ew,Ew,h2];simp];exact s _ (g.trans r)
inductive sS(K:Eo)(vs:List V)(H:Hp)(Q:VK)(E:XK):Prop|mk:∀v m ws,vs=[v]->bh H v m ws->HOuse m ws->(∀H',Ext H H'->Q (.bl true) H')->sS K vs H Q E
def wx(T:Bu w mg base):Cal P w K mg base "is_house" 5 ["thing"] (sS K):=by
 obtain⟨c,a⟩:=T.g_GREATEST_MANY;refine(ck T.d_is_house).oS ["thing"] λd nd H vs Q E h=>?_;obtain⟨v,m,ws,rfl,⟨p,r,rfl,h1,h2⟩,ok,q⟩:=h;have m1:=ok.m1;have e:=ok.m12;refine⟨_,(av (aY (PW.pt (bJ (bB (a0 (aS c8 rfl T.isinstance_ PyProof.Rows.boot_isinstance (ae (pv 0) (ae (dh (v:=.ty "tuple") rfl T.tuple_ PyProof.Rows.boot_tuple rfl) aa))))) (b9 (aN dY (aS (cq K) rfl T.len_ PySem.boot_len (ae (pv 0) aa)) af (aJ _))))) (aw (aD a7)) aQ)
   (aw (aD (cG (aB (jb T) d (ae (ao (az K) (pv 0) af (λ_ _=>rfl)) aa)) (cG (jN fu fu af (ao (az K) (pv 0) af (λ_ _=>rfl)) (gL (v:=.int 12) rfl a ⟨_,rfl⟩)) (cQ (aB (yn T) d (ae (ao (az K) (pv 0) af (λ_ _=>rfl)) (ae (ao (az K) (pv 0) af (λ_ _=>rfl)) aa))))))))),?_⟩
 walk_at"";refine cS (ml h1) (b:=true) rfl ?_;walk_at"";refine ax ?_;walk_at"";refine gK (ah.of h1) ?_;walk_at"";refine ax ?_;walk_at"";refine ay (ah.of h1) (v:=.int m) rfl ?_;walk_at"";refine⟨_,"int",rfl,rfl,?_⟩;refine rd_exb (aC ?_);walk_at"";refine ay (ah.of h1) (v:=.int m) rfl ?_;walk_at"";rw[Fq m1];refine aC ?_;walk_at"";rw[Fq e];refine aC ?_;walk_at"";refine ay (ah.of h1) (v:=.ref r) rfl ?_;walk_at"";refine ay (ah.of h1) (v:=.int m) rfl ?_;walk_at"";exact⟨r,ws,m,rfl,h2,ok,q⟩
inductive vz(K:Eo)(vs:List V)(H:Hp)(Q:VK)(E:XK):Prop|mk:∀v m ws,vs=[v]->bh H v m ws->HOuse m ws->(∀H',Ext H H'->Q .non H')->vz K vs H Q E
def j5(T:Bu w mg base):Cal P w K mg base "refuse_no_house" 6 ["thing"] (vz K):=by refine(ck T.d_refuse_no_house).oS ["thing"] λa nd H vs Q E h=>?_;obtain⟨v,m,ws,rfl,h1,ok,q⟩:=h;refine⟨_,(aw (aY (bB (a0 (aB (wx T) a (ae (pv 0) aa)))) (aw i9) aQ)),?_⟩;walk_at"";refine⟨v,m,ws,rfl,h1,ok,λH' e=>?_⟩;refine rd_exb (ax ?_);walk_at"";exact q H' e
def fG{xs:List Int}{i:Nat}(h:(xs.map V.int)[i]?=Vn v):∃x,v=.int x/\xs[i]?=Vn x:=by
 rw[Ey]at h;cases e:xs[i]? with
 | none=>rw[e]at h;cases h
 | some x=>rw[e]at h;exact⟨x,(Fc h).symm,rfl⟩
def bT(h:n<=1000000):n<=sizeLine:=E4 h (by decide)
def aO{o:HO}(h:∀p H',Ext H H'->H' p=Vn o->H p=Vo->Q (.ref p) H')(a:xs.length<=1000000:=by simp):xs.length<=sizeLine/\fX H o Q:=⟨bT a,cF h⟩
inductive vt(K:Eo)(vs:List V)(H:Hp)(Q:VK)(E:XK):Prop|mk:∀(a:Vb) (ns:List Int) (k:Int),vs=[.ref a,.int k]->ag K H a (ns.map V.int)->ns.length<=63->0<=k->(∀z,Q (.int z) H)->vt K vs H Q E
theorem sJ{ns:List Int}{i:Int}(a:0<=i)(h:i<ns.length):∃z,bx (ns.map V.int) i=Vn (.int z)/\ns[i.toNat]?=Vn z:=by
 have hi:i.toNat<ns.length:=by lia
 refine⟨ns[i.toNat],dZ a ?_,Ex hi⟩;rw[Ey,Ex hi];rfl
theorem vO(T:Bu w mg base):Cal P w K mg base "_law_cell" 1 ["_law_script","_law_k"] (vt K):=by
 refine(bw T.d__law_cell).oS ["_law_script","_law_k"] λg nd H vs Q E h=>?_;obtain⟨a,ns,k,rfl,ha,i,e,q⟩:=h;refine⟨_,(av (aY (aN bH (aS (cq K) rfl T.len_ PySem.boot_len (ae (pv 0) aa)) af (aJ _)) (aw (aD (aA eJ af (aA aV (pv 1) af)))) aQ)
   (av (aY (aN dj (pv 1) (aS (cq K) rfl T.len_ PySem.boot_len (ae (pv 0) aa)) (aJ _)) (aw (aD (ao (aM K) (pv 0) (pv 1) (λ_ _=>rfl)))) aQ)
   (aw (aD (aA aV (ao (aM K) (pv 0) (aA cw (pv 1) (aS (cq K) rfl T.len_ PySem.boot_len (ae (pv 0) aa))) (λ_ _=>rfl)) (aA eJ af (pv 1))))))),?_⟩
 walk_at"";refine dU ha ?_;walk_at"";rw[Ew];by_cases c:(ns.length:Int)=0
 .rw[Fq c];refine aC ?_;walk_at"";exact q _
 .rw[Fp c];refine ax ?_;walk_at"";refine dU ha ?_;walk_at"";rw[Ew];by_cases h1:k<ns.length
  .rw[Fq h1];refine aC ?_;obtain⟨z,b,_⟩:=sJ e h1;walk_at"";refine aL ha b ?_;exact q _
  .rw[Fp h1];refine ax ?_;walk_at"";refine dU ha ?_;rw[Ew];have d:(0:Int)<ns.length:=by lia
   refine rd_I d ?_;obtain⟨z,b,_⟩:=sJ (ns:=ns) (Int.emod_nonneg k (by lia)) (Int.emod_lt_of_pos k d);refine aL ha b ?_;walk_at"";exact q _
inductive tN(K:Eo)(vs:List V)(H:Hp)(Q:VK)(E:XK):Prop|mk:∀c k p,vs=[.int c,.int k,.int p]->0<=k->k<100000->0<p->(∀z,0<=z->z<p->Q (.int z) H)->tN K vs H Q E
def Bk(T:Bu w mg base):Cal P w K mg base "_law_mixed" 1 ["_law_cell_here","_law_k","_law_prime"] (tN K):=by
 refine(ef T.d__law_mixed).oS ["_law_cell_here","_law_k","_law_prime","_law_far"] λd nd H vs Q E h=>?_;obtain⟨c,k,p,rfl,e,a,b,q⟩:=h;refine⟨_,(av (aG (i:=3) nd rfl oi (aA cw (aA eJ (aA aV (aA aV (aA aV (pv 0) (aA eJ (aA eJ af (pv 1)) (pv 1))) (aA eJ af (pv 1))) af) af) af))
   (av (aG (i:=3) nd rfl oi (aA cw (aA eJ (pv 3) (pv 3)) af))
   (aw (aD (aA cw (aA eJ (pv 3) af) (pv 2)))))),?_⟩
 walk_at"";exact q _ (Int.emod_nonneg _ (by omega)) (Int.emod_lt_of_pos _ b)
def bK{o:HO}(e:Ext H H2)(a:H q=Vo):Ext H (upd H2 q o):=λb u hb=>by rw[aF (b0 hb a)];exact e b u hb
inductive nB(K:Eo)(vs:List V)(H:Hp)(Q:VK)(E:XK):Prop|mk:∀(c:Int) (w:Vb) (ws:List Int) (p:Int),vs=[.int c,.ref w,.int p]->H w=Vn (.lst (ws.map V.int))->(∀x∈ws,0<x/\x<2 ^ 40)->ws.length<=10000->0<p->(∀(q:Vb) (ds:List Int) (H':Hp),Ext H H'->H' q=Vn (.lst (ds.map V.int))->H q=Vo->ds.length=ws.length->(∀(i:Nat) d x,ds[i]?=Vn d->ws[i]?=Vn x->0<=d/\d<x)->Q (.ref q) H')->nB K vs H Q E
def lg{K:Eo}{c:Int}{w:Vb}{p:Int}{xe:XK}(ws:List Int)(h1:H w=Vn (.lst (ws.map V.int)))(h2:∀x∈ws,0<x/\x<2 ^ 40)(a:ws.length<=10000)(b:0<p)
  (k:∀(q:Vb) (ds:List Int) (H':Hp),Ext H H'->H' q=Vn (.lst (ds.map V.int))->H q=Vo->ds.length=ws.length->(∀(i:Nat) d x,ds[i]?=Vn d->ws[i]?=Vn x->0<=d/\d<x)->Q (.ref q) H'):nB K [.int c,.ref w,.int p] H Q xe:=⟨c,w,ws,p,rfl,h1,h2,a,b,k⟩
theorem jR(T:Bu w mg base):Cal P w K mg base "_law_draws" 2 ["_law_cell_here","_law_widths","_law_prime"] (nB K):=by
 refine(ef T.d__law_draws).oS ["_law_cell_here","_law_widths","_law_prime","_law_left","_law_found","_law_k"] λA nd H vs Q E h=>?_;obtain⟨c,w,ws,p,rfl,s,n,hlen,B,q⟩:=h;refine⟨_,(av (aG (i:=3) nd rfl oi af)
   (av (cJ (aN lK (pv 0) (aA jw af af) (aJ _)) (aw (aG (i:=3) nd rfl oi (aA de (pv 0) (aA jw af af)))) aQ)
   (av (aG (i:=4) nd rfl oi (bp aa))
   (av (bt PassesOwn.never rfl (cM rfl T.range_ (ae (aS (cq K) rfl T.len_ PySem.boot_len (ae (pv 1) aa)) aa)) (aI (i:=5) nd rfl oi) (aw (cJ (aN eB (pv 3) af (aJ _)) (av (bj (bL K ED ES ET bR (pv 4) (ae (aA cw (pv 3) (ao (aM K) (pv 1) (pv 5) (λ_ _=>rfl))) aa)))
   (aw (aG (i:=3) nd rfl oi (aA me (pv 3) (ao (aM K) (pv 1) (pv 5) (λ_ _=>rfl)))))) (aw (bj (bL K ED ES ET bR (pv 4) (ae (aA cw (aB (Bk T) A (ae (pv 0) (ae (pv 5) (ae (pv 2) aa)))) (ao (aM K) (pv 1) (pv 5) (λ_ _=>rfl))) aa)))))))
   (aw (aD (pv 4))))))),?_⟩
 walk_at"";refine gN (λo H'=>H'=H/\∃l,o=[Vn (.int c),Vn (.ref w),Vn (.int p),Vn (.int l),Vo,Vo]) ?_ ?_
 .walk_at"";refine gH (λh=>?_) (λh=>?_)
  .walk_at"";exact⟨rfl,_,rfl⟩
  .walk_at"";exact⟨rfl,_,rfl⟩
 rintro o H' ⟨rfl,l,rfl⟩;walk_at"";refine aO λf H1 y C hfn=>?_;walk_at"";refine dU (ag.of (y _ _ s)) ?_;rw[Ew];walk_at"";refine cN (by lia) ?_;refine forR (λi σ H2=>Ext H' H2/\∃(l:Int) (k:Option V) (ds:List Int),σ=[Vn (.int c),Vn (.ref w),Vn (.int p),Vn (.int l),Vn (.ref f),k]/\H2 f=Vn (.lst (ds.map V.int))/\ds.length=i/\∀(i:Nat) d x,ds[i]?=Vn d->ws[i]?=Vn x->0<=d/\d<x)
  ⟨y,l,Vo,[],rfl,C,rfl,λi d x hd=>by simp at hd⟩ ?_ ?_
 .rintro i σ H2 hi ⟨b,l,k,ds,rfl,a,hds,hb⟩;rw[EI]at hi;have r:ws[i]?=Vn ws[i]:=Ex hi;have J:=n ws[i] (EX hi);have hat:bx (ws.map V.int) (0+(i:Int))=Vn (.int ws[i]):=by rw[Int.zero_add];exact eY (by rw[Ey,r];rfl)
  have next:∀d,0<=d->d<ws[i]->∀(j:Nat) (m x:Int),(ds++[d])[j]?=Vn m->ws[j]?=Vn x->0<=m/\m<x:=λd F h1 j m x e g=>by
   rcases Fh j ds.length with h|h
   .rw[EW h]at e;exact hb j m x e g
   .rw[EV h]at e;have u:j-ds.length=0:=by
     rcases Nat.eq_zero_or_pos (j-ds.length)with h|h
     .exact h
     .rw[List.getElem?_eq_none (by simp;lia)]at e;cases e
    rw[u]at e;have v:j=i:=by lia
    subst v;rw[r]at g;cases g;have:d=m:=by simpa using e
    rw[<-this];exact⟨F,h1⟩
  walk_at"";refine cD ?_;walk_at"";refine gH (λh=>?_) (λh=>?_)
  .have h':1<l:=by simpa using h
   walk_at"";refine⟨df (ag.of a),?_⟩;walk_at"";refine aL (ag.of (b _ _ s)) hat ?_;refine rd_I (show 0<ws[i] by lia) ?_;walk_at"";refine bN a (by rw[Ew];exact Nat.lt_of_le_of_lt (show ds.length<=10000 by lia) (by decide)) ?_;walk_at"";refine aL (ag.of (bK b hfn _ _ s)) hat ?_;refine rd_I (show 0<ws[i]/\ws[i]<2 ^ 64 by lia) ?_;walk_at"";refine⟨bK b hfn,_,_,ds++[l % ws[i]],rfl,?_,by rw[EN,hds];rfl,next _ (Int.emod_nonneg _ (by lia)) (Int.emod_lt_of_pos _ (by lia))⟩;rw[aK,EM];rfl
  .walk_at"";refine⟨df (ag.of a),?_⟩;walk_at"";refine⟨c,0+(i:Int),p,rfl,by lia,by lia,B,λz G I=>?_⟩;walk_at"";refine aL (ag.of (b _ _ s)) hat ?_;refine rd_I (show 0<ws[i] by lia) ?_;walk_at"";refine bN a (by rw[Ew];exact Nat.lt_of_le_of_lt (show ds.length<=10000 by lia) (by decide)) ?_;walk_at"";refine⟨bK b hfn,_,_,ds++[z % ws[i]],rfl,?_,by rw[EN,hds];rfl,next _ (Int.emod_nonneg _ (by lia)) (Int.emod_lt_of_pos _ (by lia))⟩;rw[aK,EM];rfl
 .rintro σ H2 ⟨b,l,k,ds,rfl,a,hds,hb⟩;walk_at"";exact q f ds H2 b a hfn (by rw[hds,EI]) hb
inductive tZ(K:Eo)(vs:List V)(H:Hp)(Q:VK)(E:XK):Prop|mk:∀c w,vs=[.int c,.int w]->0<w->w<2 ^ 64->(∀z,Q (.int z) H)->tZ K vs H Q E
def xw(T:Bu w mg base):Cal P w K mg base "_law_spare" 1 ["_law_cell_here","_law_width"] (tZ K):=by
 refine(bw T.d__law_spare).oS ["_law_cell_here","_law_width"] λa nd H vs Q E h=>?_;obtain⟨c,w,rfl,h1,h2,q⟩:=h;refine⟨_,(av (aY (aN lK (pv 0) (aA jw af af) (aJ _)) (aw (aD (aA aV (aA me (aA de (pv 0) (aA jw af af)) (pv 1)) (aA jw af af)))) aQ)
   (aw (aD (aA aV (pv 0) af)))),?_⟩
 walk_at"";refine gH (λh=>?_) (λh=>?_)
 .walk_at"";exact q _
 .walk_at"";exact q _
def aT(H:Hp)(bs:List Vb)(ws:List Way):Prop:=bs.length=ws.length/\∀(j:Nat) (b:Vb) (w:Way),bs[j]?=Vn b->ws[j]?=Vn w->H b=Vn (.tup w.vs)
def aT.ext{bs:List Vb}(e:Ext H H')(h:aT H bs ws):aT H' bs ws:=⟨h.1,λj b w a c=>e _ _ (h.2 j b w a c)⟩
def aT.put{f:Vb}{bs:List Vb}(a:H f=Vn (.lst xs))(h:aT H bs ws):aT (upd H f (.lst ys)) bs ws:=⟨h.1,λj b w c d=>by have:=h.2 j b w c d;rw[aF (bZ this a (by intro z;cases z))];exact this⟩
def aT.nil(H:Hp):aT H [] []:=⟨rfl,λj b w e=>by simp at e⟩
def aT.snoc{H:Hp}{bs:List Vb}{ws:List Way}{b:Vb}{w:Way}(h:aT H bs ws)(hb:H b=Vn (.tup w.vs)):aT H (bs++[b]) (ws++[w]):=by
 refine⟨by simp[h.1],λj g i a c=>?_⟩;rcases Fh j bs.length with d|d
 .rw[EW d]at a;rw[EW (by rw[<-h.1];exact d)]at c;exact h.2 j g i a c
 .rw[EV d]at a;rw[EV (by rw[<-h.1];exact d),<-h.1]at c;cases e:j-bs.length with
  | zero=>
   rw[e]at a c;cases a;cases c;exact hb
  | succ k=>rw[e]at a;simp at a
def aT.ways{bs:List Vb}(h:aT H bs ws)(c:H p=Vn (.tup (bs.map V.ref))):bX H p (ws.map Way.key):=
 ⟨bs,c,by rw[Ew];exact h.1,λj b k d a=>by rw[Ey]at a;obtain⟨w,e,rfl⟩:=EH.mp a;exact h.2 j b w d e⟩
def bX.al(h:bX H p (ws.map Way.key)):∃bs:List Vb,H p=Vn (.tup (bs.map V.ref))/\aT H bs ws:=by obtain⟨bs,h1,h2,a⟩:=h;rw[Ew]at h2;exact⟨bs,h1,h2,λj b w c d=>bX.item a c d⟩
abbrev Way.D(w:Way):PyData:=.tuple [.int w.room,.str w.deed,.int w.other,.str w.sign]
structure Way.Lay(w:Way):Prop where
 d:(PyData.str w.deed).canLay0=true
 s:(PyData.str w.sign).canLay0=true
def Cm:∀c:Fin 123,97<=c.1->(PyData.str ⟨#[c.1]⟩).canLay0=true:=by decide +kernel
def Way.Ok.lay{w:Way}(h:w.Ok m):w.Lay:=by
 constructor
 .rcases h.dd with e|e|e|e<;>rw[e]<;>decide +kernel
 .obtain⟨c,h1,h2,e⟩:=h.sg;rw[e];exact Cm ⟨c,Nat.lt_succ_of_le h2⟩ h1
def Way.rep{b:Vb}{w:Way}(h:H b=Vn (.tup w.vs))(l:w.Lay):aX H 1 (.ref b) w.D:=
 .inr ⟨b,w.vs,_,rfl,.inl ⟨h,rfl⟩,.cons rfl (.cons ⟨rfl,l.d⟩ (.cons rfl (.cons ⟨rfl,l.s⟩ .nil)))⟩
theorem Way.eqv(w u:Way):PyData.eqv w.D u.D=decide (w=u):=by
 simp only[PyData.eqv,PyData.eqvAll];by_cases h:w=u
 .subst h;simp
 .rw[Fp h];obtain⟨a,b,c,d⟩:=w;obtain⟨g,i,c',j⟩:=u;simp only[Way.mk.injEq,not_and]at h;simp only[Bool.and_true,Bool.and_eq_false_iff,beq_eq_false_iff_ne];by_cases h1:a=g
  .by_cases h2:b=i
   .by_cases e:c=c'
    .exact .inr (.inr (.inr (h h1 h2 e)))
    .exact .inr (.inr (.inl e))
   .exact .inr (.inl h2)
  .exact .inl h1
theorem aT.reps{H:Hp}:∀{bs:List Vb} {ws:List Way},aT H bs ws->(∀w∈ws,w.Lay)->Paired (aX H 1) (bs.map V.ref) (ws.map Way.D)
 | [],[],_,_=>.nil
 | [],_::_,h,_=>by cases h.1
 | _::_,[],h,_=>by cases h.1
 | b::bs,w::ws,h,l=>.cons (Way.rep (h.2 0 b w rfl rfl) (l w EC)) (aT.reps ⟨Nat.succ.inj h.1,λj b w a c=>h.2 (j+1) b w a c⟩ λu d=>l u (Ez _ d))
def Dz(ws:List Way)(w:Way):((ws.map Way.D).any λe=>PyData.eqv e w.D)=decide (w∈ws):=by
 rw[List.any_map];induction ws with
 | nil=>rfl
 | cons u ws a=>
  rw[List.any_cons,a,Function.comp_apply,Way.eqv];by_cases h:w∈ws
  .simp[h]
  .by_cases e:u=w
   .simp[e]
   .have:¬w=u:=λz=>e z.symm;simp[h,e,this]
inductive wD(K:Eo)(vs:List V)(H:Hp)(Q:VK)(E:XK):Prop|mk:∀l bs ws,vs=[.ref l]->H l=Vn (.lst (bs.map V.ref))->aT H bs ws->(∀w∈ws,Way.Lay w)->ws.length<=200->(∀q H' us,Ext H H'->bX H' q (List.map Way.key us)->us.Nodup->(∀u∈us,u∈ws)->us.length<=ws.length->Q (.ref q) H')->wD K vs H Q E
theorem oQ(T:Bu w mg base):Cal P w K mg base "_law_unlike" 1 ["_law_ways"] (wD K):=by
 refine(ck T.d__law_unlike).oS ["_law_ways","_law_found","_law_way"] λC nd H vs Q E h=>?_;obtain⟨l,bs,ws,rfl,v,al,lay,hlen,q⟩:=h;refine⟨_,(av (aG (i:=1) nd rfl oi (bp aa))
   (av (bt PassesOwn.never rfl (bP K (pv 0)) (aI (i:=2) nd rfl oi) (aw (cJ (aN (wV C) (pv 2) (pv 1) (by with_unfolding_all rfl)) (aw (bj (bL K ED ES ET bR (pv 1) (ae (pv 2) aa)))) aQ)))
   (aw (aD (ic (kU K) rfl T.tuple_ PyProof.Rows.boot_tuple (ae (pv 1) aa)))))),?_⟩
 walk_at"";refine aO λf H1 y F hfn=>?_;walk_at"";refine bO (ag.of (y _ _ v)) ?_;refine forL (xs:=bs.map V.ref) (λi σ H2=>Ext H H2/\∃(k:Option V) (cs:List Vb) (us:List Way),σ=[Vn (.ref l),Vn (.ref f),k]/\H2 f=Vn (.lst (cs.map V.ref))/\aT H2 cs us/\us.Nodup/\(∀u∈us,u∈ws)/\us.length<=i)
  ⟨y,Vo,[],[],rfl,F,aT.nil _,List.nodup_nil,λu j=>by simp at j,ER _⟩ (λi σ H2 _ h=>ag.of (h.1 _ _ v)) ?_ ?_
 .rintro i x σ H2 A ⟨o,k,cs,us,rfl,d,e,m,sub2,g⟩;rw[Ey]at A;obtain⟨b,hb,rfl⟩:=EH.mp A;have hi:i<ws.length:=by rw[<-al.1];exact(EE.mp hb).1
  have r:ws[i]?=Vn ws[i]:=Ex hi;have n:=o _ _ (al.2 i b _ hb r);walk_at"";refine cD ?_;walk_at"";refine rA (Way.rep n (lay _ (EX hi))) d (e.reps λu j=>lay u (sub2 u j)) (by decide) ?_;simp only[if_true,Dz];refine rd_exb ?_;by_cases s:ws[i]∈us
  .rw[Fq s];refine ax ?_;walk_at"";exact⟨o,_,cs,us,rfl,d,e,m,sub2,by lia⟩
  .rw[Fp s];refine aC ?_;walk_at"";refine⟨df (ag.of d),?_⟩;walk_at"";refine bN d (by rw[Ew,e.1];exact Nat.lt_of_le_of_lt (show us.length<=1000 by lia) (by decide)) ?_;walk_at"";refine⟨bK o hfn,_,cs++[b],us++[ws[i]],rfl,by rw[aK,EM];rfl,(e.put d).snoc ?_,?_,?_,by simp;lia⟩
   .rw[aF (bZ n d (by intro z;cases z))];exact n
   .rw[List.nodup_append];exact⟨m,by simp,λa ha c G=>by rw[EG.mp G];exact λz=>s (z ▸ ha)⟩
   .intro u j;rcases EU.mp j with j|j
    .exact sub2 u j
    .rw[EG.mp j];exact EX hi
 .rintro σ H2 ⟨o,k,cs,us,rfl,d,e,m,sub2,g⟩;walk_at"";refine kG (ag.of d) (cF λp I B J _=>?_);exact q p I us (o.trans B) ((e.ext B).ways J) m sub2 (by rw[Ew,al.1]at g;exact g)
def ka(z:Vm):Prop:=∃c:Nat,97<=c/\c<=99/\z=⟨#[c]⟩
structure Way.Ok3(m:Int)(w:Way):Prop where
 r0:0<=w.room
 r1:w.room<m
 o0:0<=w.other
 o1:w.other<m
 dd:bY w.deed
 sg:ka w.sign
structure HOuse3(m:Int)(ws:List Way):Prop where
 m1:1<=m
 m12:m<=12
 few:ws.length<=100
 ok:∀w∈ws,w.Ok3 m
 nd:ws.Nodup
theorem Way.Ok3.ok{w:Way}(h:w.Ok3 m):w.Ok m:=by obtain⟨c,h1,h2,a⟩:=h.sg;exact⟨h.r0,h.r1,h.o0,h.o1,h.dd,c,h1,by lia,a⟩
theorem Way.Ok3.lay{m:Int}{w:Way}(h:w.Ok3 m):w.Lay:=h.ok.lay
def HOuse3.house(h:HOuse3 m ws):HOuse m ws:=⟨h.m1,h.m12,h.few,λw a=>(h.ok w a).ok,h.nd⟩
theorem zf{ds:List Int}{i:Nat}(h:i+4<=ds.length):∃a b c d,cH (ds.map V.int) (some (i:Int)) (some ((i+4:Nat):Int))=[.int a,.int b,.int c,.int d]/\ds[i]?=some a/\ds[i+1]?=some b/\ds[i+2]?=some c/\ds[i+3]?=some d:=by refine⟨ds[i],ds[i+1],ds[i+2],ds[i+3],?_,Ex _,Ex _,Ex _,Ex _⟩;unfold cH;rw[HT.uG,HT.uG,Ew,Nat.min_eq_left (by lia),Nat.min_eq_left (by lia),show i+4-i=4 by lia,<-List.map_drop,<-List.map_take];rw[List.drop_eq_getElem_cons (show i<ds.length by omega),List.drop_eq_getElem_cons (show i+1<ds.length by omega),List.drop_eq_getElem_cons (show i+1+1<ds.length by lia),List.drop_eq_getElem_cons (show i+1+1+1<ds.length by lia)];rfl
def fL:List Int:=[8,12,13,31]++(Ff 30 ([12,6,12,3]:List Int)).flatten
def Eb{k:Nat}(h:k<30):fL[4+4*k]?=Vn 12/\fL[4+4*k+1]?=Vn 6/\fL[4+4*k+2]?=Vn 12/\fL[4+4*k+3]?=Vn 3:=by
 have:∀k:Fin 30,fL[4+4*k.val]?=Vn 12/\fL[4+4*k.val+1]?=Vn 6/\fL[4+4*k.val+2]?=Vn 12/\fL[4+4*k.val+3]?=Vn 3:=by decide +kernel
 exact this ⟨k,h⟩
inductive vK(K:Eo)(vs:List V)(H:Hp)(Q:VK)(E:XK):Prop|mk:∀c p,vs=[.int c,.int p]->0<p->(∀v m ws H',Ext H H'->bh H' v m ws->HOuse3 m ws->Q v H')->vK K vs H Q E
theorem As{e:Int}(a:0<=e)(h1:e<6):∃z,bx ([.str "up",.str "down",.str "stay",.str "zero",.str "up",.str "down"]:List V) e=Vn (.str z)/\bY z:=by
 have:e=0\/e=1\/e=2\/e=3\/e=4\/e=5:=by lia
 rcases this with rfl|rfl|rfl|rfl|rfl|rfl
 .exact⟨_,rfl,.inl rfl⟩
 .exact⟨_,rfl,.inr (.inl rfl)⟩
 .exact⟨_,rfl,.inr (.inr (.inl rfl))⟩
 .exact⟨_,rfl,.inr (.inr (.inr rfl))⟩
 .exact⟨_,rfl,.inl rfl⟩
 .exact⟨_,rfl,.inr (.inl rfl)⟩
def Cy:(Fb "abc").cps.toList=[97,98,99]:=by decide +kernel
theorem zK{e:Int}(a:0<=e)(h1:e<3):∃c,bx (Fb "abc").cps.toList e=Vn c/\97<=c/\c<=99:=by
 rw[Cy];have:e=0\/e=1\/e=2:=by lia
 rcases this with rfl|rfl|rfl
 .exact⟨97,rfl,by decide,by decide⟩
 .exact⟨98,rfl,by decide,by decide⟩
 .exact⟨99,rfl,by decide,by decide⟩
def DD{e:Int}(b:0<=e)(h1:e<8):∃w:Int,bx (([4,4,4,5,3,2,5,12]:List Int).map V.int) e=Vn (.int w)/\1<=w/\w<=12:=by
 obtain⟨n,rfl⟩:=Int.eq_ofNat_of_zero_le b;have a:n<8:=Int.ofNat_lt.mp h1;have key:∀i:Fin 8,1<=([4,4,4,5,3,2,5,12]:List Int)[i]/\([4,4,4,5,3,2,5,12]:List Int)[i]<=12:=by decide
 exact⟨([4,4,4,5,3,2,5,12]:List Int)[n],eY (by rw[Ey,Ex a];rfl),key ⟨n,a⟩⟩
def bh.mk(h1:H p=Vn (.tup [.int m,.ref q]))(h2:bX H q (ws.map Way.key)):bh H (.ref p) m ws:=⟨p,q,rfl,h1,h2⟩
theorem BH(T:Bu w mg base):Cal P w K mg base "_law_drawn_house" 3 ["_law_cell_here","_law_prime"] (vK K):=by
 refine(bw T.d__law_drawn_house).oS ["_law_cell_here","_law_prime","_law_draws_here","_law_many","_law_often","_law_ways","_law_k","_law_room","_law_deed","_law_other","_law_sign","_law_word"] λhr nd H vs Q E h=>?_;obtain⟨c,p,rfl,hp,q⟩:=h;refine⟨_,(@av _ _ _ _ _ (@aG _ _ 2 _ _ _ _ nd rfl oi (aB (jR T) hr (aq (pv 0) (aq (aA mQ (@bp _ _ _ _ (i6 (.c (.c (.c (.c .n)))))) (aA jG (@bp _ _ _ _ (i6 (.c (.c (.c (.c .n)))))) af)) (aq (pv 1) aa rfl) rfl) rfl)) rfl oi)
   (@av _ _ _ _ _ (@aG _ _ 3 _ _ _ _ nd rfl oi (aA aV af (aA cw (@ao _ _ _ _ _ _ _ (aM K) (pv 2) af (λ_ _=>rfl)) (@ao _ _ _ _ _ _ _ (aM K) (@bp _ _ _ _ (i6 (.c (.c (.c (.c (.c (.c (.c (.c .n)))))))))) (@ao _ _ _ _ _ _ _ (aM K) (pv 2) af (λ_ _=>rfl)) (λ_ _=>rfl)))) rfl oi)
   (@av _ _ _ _ _ (@aG _ _ 4 _ _ _ _ nd rfl oi (@ao _ _ _ _ _ _ _ (aM K) (pv 2) af (λ_ _=>rfl)) rfl oi)
   (@av _ _ _ _ _ (cJ (aN bH (@ao _ _ _ _ _ _ _ (aM K) (pv 2) af (λ_ _=>rfl)) af (aJ _)) (@aw _ _ _ (@aG _ _ 4 _ _ _ _ nd rfl oi (@ao _ _ _ _ _ _ _ (aM K) (pv 2) af (λ_ _=>rfl)) rfl oi)) aQ)
   (@av _ _ _ _ _ (@aG _ _ 5 _ _ _ _ nd rfl oi (@bp _ _ _ _ aa) rfl oi)
   (@av _ _ _ _ _ (bt PassesOwn.never rfl (cM rfl T.range_ (aq (pv 4) aa rfl)) (aI (i:=6) nd rfl oi) (@av _ _ _ _ _ (@eM _ _ _ _ _ _ (gU (iw K) (pv 2) (fV (aA aV af (aA eJ af (pv 6)))) (fV (aA aV af (aA eJ af (pv 6))))) (sU (n:=4) K rfl (br (aI (i:=7) nd rfl oi) (br (aI (i:=8) nd rfl oi) (br (aI (i:=9) nd rfl oi) (br (aI (i:=10) nd rfl oi) eA))))) rfl rfl rfl)
   (@av _ _ _ _ _ (@aG _ _ 11 _ _ _ _ nd rfl oi (@ao _ _ _ _ _ _ _ (aM K) (@bp _ _ _ _ (aq aU (aq aU (aq aU (aq aU (aq aU (aq aU aa rfl) rfl) rfl) rfl) rfl) rfl)) (pv 8) (λ_ _=>rfl)) rfl oi)
   (@aw _ _ _ (bj (bL K ED ES ET bR (pv 5) (aq (@bG _ _ _ _ _ (aq (aA cw (pv 7) (pv 3)) (aq (pv 11) (aq (aA cw (pv 9) (pv 3)) (aq (@ao _ _ _ _ _ _ _ wg aU (pv 10) (λ_ _=>rfl)) aa rfl) rfl) rfl) rfl)) aa rfl)))))))
   (@aw _ _ _ (@aD _ _ _ _ (@bG _ _ _ _ _ (aq (pv 3) (aq (aB (oQ T) hr (aq (pv 5) aa rfl)) aa rfl) rfl)))))))))),?_⟩
 walk_at"";refine aO λw0 G1 f1 X _=>?_;walk_at"";refine aO λw1 G2 f2 Y _=>?_;walk_at"";refine j2 Y (by lia) (bT (by decide)) (cF λw2 G3 f3 Z _=>?_);walk_at"";refine ou (f3 _ _ (f2 _ _ X)) Z (bT (by decide)) (cF λw3 G4 f4 a1 _=>?_);walk_at"";refine lg fL a1 (by decide +kernel) (by decide +kernel) (hp) λdq ds H1 e1 hd ak hl hb=>?_;have eH:Ext H H1:=f1.trans (f2.trans (f3.trans (f4.trans e1)));have am:ds.length=124:=hl;have at_:∀(i:Nat) (x:Int),fL[i]?=Vn x->∃d,ds[i]?=Vn d/\0<=d/\d<x:=λi x hx=>by
  have hi:i<ds.length:=by rw[hl];exact(EE.mp hx).1
  exact⟨ds[i],Ex hi,hb i _ x (Ex hi) hx⟩
 obtain⟨d0,g0,y,A⟩:=at_ 0 8 rfl;obtain⟨d1,g1,a2,a3⟩:=at_ 1 12 rfl;obtain⟨d2,g2,B,a4⟩:=at_ 2 13 rfl;obtain⟨d3,g3,C,a5⟩:=at_ 3 31 rfl;have pick:∀{i:Nat} {d:Int},ds[i]?=Vn d->bx (ds.map V.int) (i:Int)=Vn (.int d):=λ{i d} h=>eY (by rw[Ey,h];rfl);walk_at"";refine aL (ag.of hd) (pick (i:=1) g1) ?_;walk_at"";refine aO λmq H2 S a6 _=>?_;walk_at"";refine aL (ag.of (S _ _ hd)) (pick (i:=0) g0) ?_;obtain⟨w,hw,F,G⟩:=DD y A;refine aL (ag.of a6) hw ?_
 try refine rd_I (show(0:Int)<w by lia) ?_
 walk_at"";have r0:0<=d1 % w:=Int.emod_nonneg _ (by lia);have r1:d1 % w<w:=Int.emod_lt_of_pos _ (by lia);obtain⟨m,hm,m1,m2⟩:∃m,1+d1 % w=m/\1<=m/\m<=12:=⟨_,rfl,by lia,by lia⟩;rw[hm];refine aL (ag.of (S _ _ hd)) (pick (i:=2) g2) ?_;walk_at"";have ab:Ext H H2:=eH.trans S;have g:=S _ _ hd;refine gN (λI H'=>H'=H2/\∃o:Nat,o<=30/\I=[Vn (.int c),Vn (.int p),Vn (.ref dq),Vn (.int m),Vn (.int o),Vo,Vo,Vo,Vo,Vo,Vo,Vo]) ?_ ?_
 .walk_at"";refine aL (ag.of g) (pick (i:=0) g0) ?_;walk_at"";refine gH (λh=>?_) (λh=>?_)
  .walk_at"";refine aL (ag.of g) (pick (i:=3) g3) ?_;walk_at"";exact⟨rfl,d3.toNat,by lia,by rw[EJ C];rfl⟩
  .walk_at"";exact⟨rfl,d2.toNat,by lia,by rw[EJ B];rfl⟩
 rintro I H' ⟨rfl,o,ho,rfl⟩;clear hw F G r0 r1 y A a2 a3 B a4 C a5;walk_at"";refine aO λf H3 e3 hf hfn=>?_;walk_at"";refine cN (by lia) ?_;refine forR (λi σ J=>Ext H' J/\∃(k1 k2 k3 k4 k5 k6:Option V) (cs:List Vb) (us:List Way),σ=[Vn (.int c),Vn (.int p),Vn (.ref dq),Vn (.int m),Vn (.int o),Vn (.ref f),k1,k2,k3,k4,k5,k6]/\J f=Vn (.lst (cs.map V.ref))/\aT J cs us/\(∀u∈us,u.Ok3 m)/\us.length=i)
  ⟨e3,Vo,Vo,Vo,Vo,Vo,Vo,[],[],rfl,hf,aT.nil _,λu e=>by simp at e,rfl⟩ ?_ ?_
 .rintro i σ J hi ⟨U,k1,k2,k3,k4,k5,k6,cs,us,rfl,j,al,ok,len⟩;rw[EI]at hi;have L:i<30:=by lia
  obtain⟨a,b,c',d,M,ga,gb,gc,gd⟩:=zf (ds:=ds) (i:=4+4*i) (by lia);obtain⟨y0,y1,y2,y3⟩:=Eb L;have ba:=hb _ _ _ ga y0;have bb:=hb _ _ _ gb y1;have bc:=hb _ _ _ gc y2;have bd:=hb _ _ _ gd y3;have ac:=U _ _ g;walk_at"";refine ij (ag.of ac) (cF λt H5 N W an=>?_);rw[show (4:Int)+4*(0+(i:Int))=((4+4*i:Nat):Int) by lia,show (8:Int)+4*(0+(i:Int))=((4+4*i+4:Nat):Int) by lia,M]at W;walk_at"";refine w5 (ag.of W) rfl ?_;walk_at"";refine aO λu1 H6 l ad _=>?_;walk_at"";obtain⟨z,hz,ai⟩:=As bb.1 bb.2;refine aL (ag.of ad) hz ?_;walk_at"";have O:=l _ _ (N _ _ j);refine⟨df (ag.of O),?_⟩;walk_at""
  try refine rd_I (show(0:Int)<m by lia) ?_
  walk_at""
  try refine rd_I (show(0:Int)<m by lia) ?_
  walk_at"";obtain⟨s,hs,s1,s2⟩:=zK bd.1 bd.2;refine⟨_,_,s,rfl,rfl,dQ (by decide +kernel),hs,?_⟩;walk_at"";refine aO λv H7 e7 hv _=>?_;have k:=e7 _ _ O;walk_at"";refine bN k (by rw[Ew,al.1,len];exact Nat.lt_of_le_of_lt (show i<=1000 by lia) (by decide)) ?_;walk_at"";have aj:aT H7 cs us:=((al.ext N).ext l).ext e7;have R:H7 v=Vn (.tup (Way.vs ⟨a % m,z,c' % m,⟨#[s]⟩⟩)):=hv;refine⟨bK (U.trans (N.trans (l.trans e7))) hfn,_,_,_,_,_,_,cs++[v],us++[⟨a % m,z,c' % m,⟨#[s]⟩⟩],rfl,by rw[aK,EM];rfl,(aj.put k).snoc ?_,?_,by simp[len]⟩
  .rw[aF (bZ R k (by intro z;cases z))];exact R
  .intro u e;rcases EU.mp e with e|e
   .exact ok u e
   .rw[EG.mp e];exact⟨Int.emod_nonneg _ (by lia),Int.emod_lt_of_pos _ (by lia),Int.emod_nonneg _ (by lia),Int.emod_lt_of_pos _ (by lia),ai,s,s1,s2,rfl⟩
 .rintro σ J ⟨U,k1,k2,k3,k4,k5,k6,cs,us,rfl,j,al,ok,len⟩;rw[EI]at len;walk_at"";refine⟨f,cs,us,rfl,j,al,λu e=>(ok u e).lay,by lia,λr H5 ws N hws nd sub ln=>?_⟩;walk_at"";refine aO λt H6 l W _=>?_;exact q _ m ws H6 (ab.trans (U.trans (N.trans l))) (bh.mk W (hws.ext l)) ⟨m1,m2,by lia,λu e=>ok u (sub u e),nd⟩
structure WL(H0 H:Hp)(f:Vb)(us:List Way):Prop where
 ext:Ext H0 H
 at_:∃cs:List Vb,H f=Vn (.lst (cs.map V.ref))/\aT H cs us
theorem WL.nil{H0 H:Hp}{f:Vb}(e:Ext H0 H)(a:H f=Vn (.lst [])):WL H0 H f []:=⟨e,[],a,aT.nil _⟩
def WL.push{f v:Vb}{w:Way}(h:WL H0 H f us)(hfn:H0 f=Vo)(e:Ext H H1)(b:H1 v=Vn (.tup w.vs)):
  ∃xs,H1 f=Vn (.lst xs)/\xs.length=us.length/\WL H0 (upd H1 f (.lst (xs++[.ref v]))) f (us++[w]):=by
 obtain⟨c,cs,d,al⟩:=h;have a:=e _ _ d;refine⟨cs.map V.ref,a,by rw[Ew];exact al.1,bK (c.trans e) hfn,cs++[v],by rw[aK,EM];rfl,((al.ext e).put a).snoc ?_⟩;rw[aF (bZ b a (by intro z;cases z))];exact b
def WL.ty{K:Eo}{f:Vb}(h:WL H0 H f us)(e:Ext H H1):iS K "list" (.ref f) H1:=by obtain⟨_,cs,a,al⟩:=h;exact df (ag.of (e _ _ a))
def kA:ka "a":=⟨97,by decide,by decide,by decide +kernel⟩
def jq:ka "b":=⟨98,by decide,by decide,by decide +kernel⟩
def l7:ka "c":=⟨99,by decide,by decide,by decide +kernel⟩
def kQ:bY "up":=.inl rfl
def ny:bY "down":=.inr (.inl rfl)
def ji:bY "stay":=.inr (.inr (.inl rfl))
def mJ:bY "zero":=.inr (.inr (.inr rfl))
def dE(h:n<=1000):n<sizeLine:=Nat.lt_of_le_of_lt h (by decide)
theorem kW{a b:V}{e:Int}(c:0<=e)(h1:e<2):∃v,bx [a,b] e=Vn v/\(v=a\/v=b):=by
 have:e=0\/e=1:=by lia
 rcases this with rfl|rfl
 .exact⟨a,rfl,.inl rfl⟩
 .exact⟨b,rfl,.inr rfl⟩
def fI{w:Way}(h:∀u∈us,u.Ok3 m)(b:w.Ok3 m):∀u∈us++[w],u.Ok3 m:=λu a=>by
 rcases EU.mp a with a|a
 .exact h u a
 .rw[EG.mp a];exact b
def Ap:(Fb "ab").cps.toList=[97,98]:=by decide +kernel
theorem Cs{e:Int}(a:0<=e)(h1:e<2):∃c,bx (Fb "ab").cps.toList e=Vn c/\97<=c/\c<=99:=by
 rw[Ap];have:e=0\/e=1:=by lia
 rcases this with rfl|rfl
 .exact⟨97,rfl,by decide,by decide⟩
 .exact⟨98,rfl,by decide,by decide⟩
def cL{ws ds:List Int}(b:ds.length=ws.length)(hb:∀(i:Nat) (d x:Int),ds[i]?=Vn d->ws[i]?=Vn x->0<=d/\d<x)(i:Nat){x:Int}(a:ws[i]?=Vn x):∃d,bx (ds.map V.int) (i:Int)=Vn (.int d)/\0<=d/\d<x:=by
 have hi:i<ds.length:=by rw[b];exact(EE.mp a).1
 have g:ds[i]?=Vn ds[i]:=Ex hi;exact⟨ds[i],eY (by rw[Ey,g];rfl),hb i _ x g a⟩
inductive wz(K:Eo)(vs:List V)(H:Hp)(Q:VK)(E:XK):Prop|mk:∀c p,vs=[.int c,.int p]->0<p->(∀v m ws H',Ext H H'->bh H' v m ws->HOuse3 m ws->Q v H')->wz K vs H Q E
theorem zT(T:Bu w mg base):Cal P w K mg base "_law_gate_house" 3 ["_law_cell_here","_law_prime"] (wz K):=by
 refine(bw T.d__law_gate_house).oS ["_law_cell_here","_law_prime","_law_draws_here","_law_up","_law_down","_law_many","_law_ways","_law_k"] λhr nd H vs Q E h=>?_;obtain⟨c,p,rfl,hp,q⟩:=h;refine⟨_,(@av _ _ _ _ _ (@aG _ _ 2 _ _ _ _ nd rfl oi (aB (jR T) hr (aq (pv 0) (aq (@bp _ _ _ _ (i6 (.c (.c (.c (.c (.c (.c (.c .n))))))))) (aq (pv 1) aa rfl) rfl) rfl)) rfl oi)
   (@av _ _ _ _ _ (uh (i:=3) (j:=4) rfl nd rfl rfl (by decide) rfl rfl (aq (aA aV af (@ao _ _ _ _ _ _ _ (aM K) (pv 2) af (λ_ _=>rfl))) (aq (aA aV af (@ao _ _ _ _ _ _ _ (aM K) (pv 2) af (λ_ _=>rfl))) aa rfl) rfl) rfl)
   (@av _ _ _ _ _ (@aG _ _ 5 _ _ _ _ nd rfl oi (aA aV (aA aV (pv 3) (pv 4)) af) rfl oi)
   (@av _ _ _ _ _ (@aG _ _ 6 _ _ _ _ nd rfl oi (@bp _ _ _ _ aa) rfl oi)
   (@av _ _ _ _ _ (bt PassesOwn.never rfl (cM rfl T.range_ (aq (pv 3) aa rfl)) (aI (i:=7) nd rfl oi) (@aw _ _ _ (bj (bL K ED ES ET bR (pv 6) (aq (@bG _ _ _ _ _ (aq (pv 7) (aq aU (aq (aA cw (aA aV (pv 7) af) (pv 3)) (aq (@ao _ _ _ _ _ _ _ wg aU (@ao _ _ _ _ _ _ _ (aM K) (pv 2) af (λ_ _=>rfl)) (λ_ _=>rfl)) aa rfl) rfl) rfl) rfl)) aa rfl)))))
   (@av _ _ _ _ _ (bj (bL K ED ES ET bR (pv 6) (aq (@bG _ _ _ _ _ (aq (aA cw (@ao _ _ _ _ _ _ _ (aM K) (pv 2) af (λ_ _=>rfl)) (pv 3)) (aq aU (aq (pv 3) (aq aU aa rfl) rfl) rfl) rfl)) aa rfl)))
   (@av _ _ _ _ _ (bt PassesOwn.never rfl (cM rfl T.range_ (aq (pv 4) aa rfl)) (aI (i:=7) nd rfl oi) (@aw _ _ _ (bj (bL K ED ES ET bR (pv 6) (aq (@bG _ _ _ _ _ (aq (aA aV (pv 3) (pv 7)) (aq aU (aq (aA aV (pv 3) (aA cw (aA aV (pv 7) af) (pv 4))) (aq aU aa rfl) rfl) rfl) rfl)) aa rfl)))))
   (@av _ _ _ _ _ (bj (bL K ED ES ET bR (pv 6) (aq (@bG _ _ _ _ _ (aq (aA aV (pv 3) (aA cw (@ao _ _ _ _ _ _ _ (aM K) (pv 2) af (λ_ _=>rfl)) (pv 4))) (aq aU (aq (aA de (pv 5) af) (aq aU aa rfl) rfl) rfl) rfl)) aa rfl)))
   (@av _ _ _ _ _ (bj (bL K ED ES ET bR (pv 6) (aq (@bG _ _ _ _ _ (aq (aA de (pv 5) af) (aq (@ao _ _ _ _ _ _ _ (aM K) (@bp _ _ _ _ (aq aU (aq aU aa rfl) rfl)) (@ao _ _ _ _ _ _ _ (aM K) (pv 2) af (λ_ _=>rfl)) (λ_ _=>rfl)) (aq (@ao _ _ _ _ _ _ _ (aM K) (@bp _ _ _ _ (aq af (aq (aA de (pv 5) af) aa rfl) rfl)) (@ao _ _ _ _ _ _ _ (aM K) (pv 2) af (λ_ _=>rfl)) (λ_ _=>rfl)) (aq aU aa rfl) rfl) rfl) rfl)) aa rfl)))
   (@aw _ _ _ (@aD _ _ _ _ (@bG _ _ _ _ _ (aq (pv 5) (aq (aB (oQ T) hr (aq (pv 6) aa rfl)) aa rfl) rfl))))))))))))),?_⟩
 walk_at"";refine aO λw0 G1 f1 Y _=>?_;walk_at"";refine lg [6,5,6,5,2,2,2] Y (by decide) (by decide) (hp) λdq ds H1 e1 hd au G hb=>?_;have eH:Ext H H1:=f1.trans e1;obtain⟨d0,g0,Z,a1⟩:=cL G hb 0 rfl;obtain⟨d1,g1,a2,a3⟩:=cL G hb 1 rfl;obtain⟨N,g2,b1,b2⟩:=cL G hb 2 rfl;obtain⟨M,g3,b4,b5⟩:=cL G hb 3 rfl;obtain⟨d4,g4,a4,a5⟩:=cL G hb 4 rfl;obtain⟨d5,g5,a6,ab⟩:=cL G hb 5 rfl;obtain⟨d6,g6,ac,ad⟩:=cL G hb 6 rfl;clear hb G;walk_at"";refine aL (ag.of hd) g0 ?_;walk_at"";refine aL (ag.of hd) g1 ?_;walk_at"";obtain⟨U,hU⟩:∃U:Nat,1+d0=(U:Int):=⟨(1+d0).toNat,by lia⟩;obtain⟨D,hD⟩:∃D:Nat,1+d1=(D:Int):=⟨(1+d1).toNat,by lia⟩;rw[hU,hD];have u1:1<=U:=by lia
 have u6:U<=6:=by lia
 have v1:1<=D:=by lia
 have v5:D<=5:=by lia
 clear Z a1 a2 a3 hU hD;obtain⟨m,hm⟩:∃m:Int,(U:Int)+(D:Int)+1=m:=⟨_,rfl⟩;rw[hm];refine aO λf H2 e2 hf hfn=>?_;walk_at"";refine cN (by lia) ?_;have e:H1 f=Vo:=hfn;refine forR (λi σ I=>∃(k:Option V) (us:List Way),σ=[Vn (.int c),Vn (.int p),Vn (.ref dq),Vn (.int U),Vn (.int D),Vn (.int m),Vn (.ref f),k]/\WL H1 I f us/\(∀u∈us,u.Ok3 m)/\us.length=i)
  ⟨Vo,[],rfl,WL.nil e2 hf,λu O=>by simp at O,rfl⟩ ?_ ?_
 .rintro i σ I hi ⟨k,us,rfl,wl,ok,len⟩;rw[EI]at hi;walk_at"";refine⟨wl.ty (Ext.rfl' _),?_⟩;walk_at""
  try refine rd_I (show(0:Int)<(U:Int) by lia) ?_
  walk_at"";refine aL (ag.of (wl.ext _ _ hd)) g4 ?_;obtain⟨s,hs,s1,s2⟩:=Cs a4 a5;refine⟨_,_,s,rfl,rfl,dQ (by decide +kernel),hs,?_⟩;walk_at"";refine aO λv R F A _=>?_;walk_at"";obtain⟨xs,B,o,J⟩:=wl.push (w:=⟨0+(i:Int),"up",(0+(i:Int)+1) % (U:Int),⟨#[s]⟩⟩) e F A;refine bN B (dE (by lia)) ?_;walk_at"";exact⟨_,_,rfl,J,fI ok ⟨by show 0<=0+(i:Int);lia,by show 0+(i:Int)<m;lia,Int.emod_nonneg _ (by lia),Int.lt_trans (Int.emod_lt_of_pos _ (by lia)) (by lia),kQ,s,s1,s2,rfl⟩,by simp[len]⟩
 rintro σ I ⟨k,us,rfl,wl,ok,len⟩;rw[EI]at len;walk_at"";refine⟨wl.ty (Ext.rfl' _),?_⟩;walk_at"";refine aL (ag.of (wl.ext _ _ hd)) g2 ?_
 try refine rd_I (show(0:Int)<(U:Int) by lia) ?_
 walk_at"";refine aO λv R F A _=>?_;walk_at"";have r0:0<=N % (U:Int):=Int.emod_nonneg _ (by lia);have r1:N % (U:Int)<U:=Int.emod_lt_of_pos _ (by lia);obtain⟨xs,B,o,d⟩:=wl.push (w:=⟨N % (U:Int),"stay",(U:Int),"b"⟩) e F A;have x:=fI ok (w:=⟨N % (U:Int),"stay",(U:Int),"b"⟩) ⟨r0,by show N % (U:Int)<m;lia,by show 0<=(U:Int);lia,by show(U:Int)<m;lia,ji,jq⟩;refine bN B (dE (by lia)) ?_;generalize upd R f _=H5 at d ⊢;generalize g:us++[_]=C at d x;have l:C.length=U+1:=by rw[<-g];simp[len]
 clear g B o A F r0 r1 wl ok len;walk_at"";refine cN (by lia) ?_;refine forR (λi σ I=>∃(k:Option V) (us:List Way),σ=[Vn (.int c),Vn (.int p),Vn (.ref dq),Vn (.int U),Vn (.int D),Vn (.int m),Vn (.ref f),k]/\WL H1 I f us/\(∀u∈us,u.Ok3 m)/\us.length=U+1+i)
  ⟨_,C,rfl,d,x,l⟩ ?_ ?_
 .rintro i σ I hi ⟨k,us,rfl,wl,ok,len⟩;rw[EI]at hi;walk_at"";refine⟨wl.ty (Ext.rfl' _),?_⟩;walk_at""
  try refine rd_I (show(0:Int)<(D:Int) by lia) ?_
  walk_at"";refine aO λv R F A _=>?_;walk_at"";have r0:0<=(0+(i:Int)+1) % (D:Int):=Int.emod_nonneg _ (by lia);have r1:(0+(i:Int)+1) % (D:Int)<D:=Int.emod_lt_of_pos _ (by lia);obtain⟨xs,B,o,J⟩:=wl.push (w:=⟨(U:Int)+(0+(i:Int)),"down",(U:Int)+(0+(i:Int)+1) % (D:Int),"a"⟩) e F A;refine bN B (dE (by lia)) ?_;walk_at"";exact⟨_,_,rfl,J,fI ok ⟨by show 0<=(U:Int)+(0+(i:Int));lia,by show(U:Int)+(0+(i:Int))<m;lia,by show 0<=(U:Int)+(0+(i:Int)+1) % (D:Int);lia,by show(U:Int)+(0+(i:Int)+1) % (D:Int)<m;lia,ny,kA⟩,by simp[len];lia⟩
 clear d x l;rintro σ I ⟨k,us,rfl,wl,ok,len⟩;rw[EI]at len;walk_at"";refine⟨wl.ty (Ext.rfl' _),?_⟩;walk_at"";refine aL (ag.of (wl.ext _ _ hd)) g3 ?_
 try refine rd_I (show(0:Int)<(D:Int) by lia) ?_
 walk_at"";refine aO λv R F A _=>?_;walk_at"";have r0:0<=M % (D:Int):=Int.emod_nonneg _ (by lia);have r1:M % (D:Int)<D:=Int.emod_lt_of_pos _ (by lia);obtain⟨xs,B,o,d⟩:=wl.push (w:=⟨(U:Int)+M % (D:Int),"zero",m-1,"c"⟩) e F A;have x:=fI ok (w:=⟨(U:Int)+M % (D:Int),"zero",m-1,"c"⟩) ⟨by show 0<=(U:Int)+M % (D:Int);lia,by show(U:Int)+M % (D:Int)<m;lia,by show 0<=m-1;lia,by show m-1<m;lia,mJ,l7⟩;refine bN B (dE (by lia)) ?_;generalize upd R f _=H5 at d ⊢;generalize g:us++[_]=C at d x;have l:C.length=U+D+2:=by rw[<-g];simp[len];lia
 clear g B o A F r0 r1 wl ok len;walk_at"";refine⟨d.ty (Ext.rfl' _),?_⟩;walk_at"";refine aO λt1 H6 e6 ai _=>?_;walk_at"";refine aL (ag.of (e6 _ _ (d.ext _ _ hd))) g5 ?_;obtain⟨x5,aj,ak⟩:=kW (a:=V.str "up") (b:=V.str "stay") a6 ab;refine aL (ag.of ai) aj ?_;walk_at"";refine aO λt2 H7 e7 am _=>?_;walk_at"";refine aL (ag.of (e7 _ _ (e6 _ _ (d.ext _ _ hd)))) g6 ?_;obtain⟨x6,an,ap⟩:=kW (a:=V.int 0) (b:=V.int (m-1)) ac ad;refine aL (ag.of am) an ?_;walk_at"";refine aO λv H8 e8 A _=>?_;walk_at"";obtain⟨z,rfl,oz⟩:∃z,x5=.str z/\bY z:=by
  rcases ak with rfl|rfl
  .exact⟨_,rfl,kQ⟩
  .exact⟨_,rfl,ji⟩
 obtain⟨y,rfl,y0,y1⟩:∃y:Int,x6=.int y/\0<=y/\y<m:=by
  rcases ap with rfl|rfl
  .exact⟨_,rfl,by lia,by lia⟩
  .exact⟨_,rfl,by lia,by lia⟩
 obtain⟨xs,B,o,L⟩:=d.push (w:=⟨m-1,z,y,"b"⟩) e (e6.trans (e7.trans e8)) A;have ok3:=fI x (w:=⟨m-1,z,y,"b"⟩) ⟨by show 0<=m-1;lia,by show m-1<m;lia,y0,y1,oz,jq⟩;refine bN B (dE (by lia)) ?_;generalize upd H8 f _=H9 at L ⊢;generalize S:C++[_]=W at L ok3;have as:W.length=U+D+3:=by rw[<-S];simp[l]
 walk_at"";obtain⟨ew,cs,ar,al⟩:=L;refine⟨f,cs,W,rfl,ar,al,λu O=>(ok3 u O).lay,by lia,λr I1 ws e5 hws nd sub ln=>?_⟩;walk_at"";refine aO λt I2 X ht _=>?_;exact q _ m ws I2 (eH.trans (ew.trans (e5.trans X))) (bh.mk ht (hws.ext X)) ⟨by lia,by lia,by lia,λu O=>ok3 u (sub u O),nd⟩
def aT.rev{bs:List Vb}(h:aT H bs ws):aT H bs.reverse ws.reverse:=by
 refine⟨by rw[List.length_reverse,List.length_reverse];exact h.1,λj b w a c=>?_⟩;have d:j<bs.length:=by have:=(EE.mp a).1;simpa using this
 rw[List.getElem?_reverse d]at a;rw[List.getElem?_reverse (by rw[<-h.1];exact d),<-h.1]at c;exact h.2 _ b w a c
def iY{w:Way}(h:us.Nodup)(b:w∉us):(us++[w]).Nodup:=by rw[List.nodup_append];exact⟨h,by simp,λa ha c d=>by rw[EG.mp d];exact λz=>b (z ▸ ha)⟩
def jH{P:Way->Prop}{w:Way}(h:∀u∈us,P u)(b:P w):∀u∈us++[w],P u:=λu a=>by
 rcases EU.mp a with a|a
 .exact h u a
 .rw[EG.mp a];exact b
def vJ:(Fb "a")≠"b":=by decide +kernel
def sD:(Fb "a")≠"c":=by decide +kernel
def lS:(Fb "b")≠"c":=by decide +kernel
inductive qS(K:Eo)(vs:List V)(H:Hp)(Q:VK)(E:XK):Prop|mk:∀c p,vs=[.int c,.int p]->0<p->(∀v m ws H',Ext H H'->bh H' v m ws->HOuse3 m ws->Q v H')->qS K vs H Q E
theorem Ce(T:Bu w mg base):Cal P w K mg base "_law_ring_house" 3 ["_law_cell_here","_law_prime"] (qS K):=by
 refine(bw T.d__law_ring_house).oS ["_law_cell_here","_law_prime","_law_draws_here","_law_one","_law_two","_law_many","_law_ways","_law_k"] λhr nd H vs Q E h=>?_;obtain⟨c,p,rfl,hp,q⟩:=h;refine⟨_,(@av _ _ _ _ _ (@aG _ _ 2 _ _ _ _ nd rfl oi (aB (jR T) hr (aq (pv 0) (aq (@bp _ _ _ _ (i6 (.c (.c (.c (.c (.c (.c (.c .n))))))))) (aq (pv 1) aa rfl) rfl) rfl)) rfl oi)
   (@av _ _ _ _ _ (uh (i:=3) (j:=4) rfl nd rfl rfl (by decide) rfl rfl (aq (aA aV af (@ao _ _ _ _ _ _ _ (aM K) (pv 2) af (λ_ _=>rfl))) (aq (aA aV af (@ao _ _ _ _ _ _ _ (aM K) (pv 2) af (λ_ _=>rfl))) aa rfl) rfl) rfl)
   (@av _ _ _ _ _ (@aG _ _ 5 _ _ _ _ nd rfl oi (aA aV (aA aV (pv 3) (pv 4)) af) rfl oi)
   (@av _ _ _ _ _ (@aG _ _ 6 _ _ _ _ nd rfl oi (@bp _ _ _ _ (aq (@bG _ _ _ _ _ (aq af (aq aU (aq af (aq aU aa rfl) rfl) rfl) rfl)) (aq (@bG _ _ _ _ _ (aq af (aq (@ao _ _ _ _ _ _ _ (aM K) (@bp _ _ _ _ (aq aU (aq aU aa rfl) rfl)) (@ao _ _ _ _ _ _ _ (aM K) (pv 2) af (λ_ _=>rfl)) (λ_ _=>rfl)) (aq (aA aV af (pv 3)) (aq aU aa rfl) rfl) rfl) rfl)) aa rfl) rfl)) rfl oi)
   (@av _ _ _ _ _ (bt PassesOwn.never rfl (cM rfl T.range_ (aq (pv 3) aa rfl)) (aI (i:=7) nd rfl oi) (@aw _ _ _ (bj (bL K ED ES ET bR (pv 6) (aq (@bG _ _ _ _ _ (aq (aA aV af (pv 7)) (aq aU (aq (aA aV af (aA cw (aA aV (pv 7) af) (pv 3))) (aq aU aa rfl) rfl) rfl) rfl)) aa rfl)))))
   (@av _ _ _ _ _ (bt PassesOwn.never rfl (cM rfl T.range_ (aq (pv 4) aa rfl)) (aI (i:=7) nd rfl oi) (@aw _ _ _ (bj (bL K ED ES ET bR (pv 6) (aq (@bG _ _ _ _ _ (aq (aA aV (aA aV af (pv 3)) (pv 7)) (aq (@ao _ _ _ _ _ _ _ (aM K) (@bp _ _ _ _ (aq aU (aq aU aa rfl) rfl)) (@ao _ _ _ _ _ _ _ (aM K) (pv 2) af (λ_ _=>rfl)) (λ_ _=>rfl)) (aq (aA aV (aA aV af (pv 3)) (aA cw (aA aV (pv 7) af) (pv 4))) (aq aU aa rfl) rfl) rfl) rfl)) aa rfl)))))
   (@av _ _ _ _ _ (bj (bL K ED ES ET bR (pv 6) (aq (@bG _ _ _ _ _ (aq af (aq aU (aq (aA de (pv 5) af) (aq aU aa rfl) rfl) rfl) rfl)) aa rfl)))
   (@av _ _ _ _ _ (bj (bL K ED ES ET bR (pv 6) (aq (@bG _ _ _ _ _ (aq (aA aV af (pv 3)) (aq aU (aq (aA de (pv 5) af) (aq aU aa rfl) rfl) rfl) rfl)) aa rfl)))
   (@av _ _ _ _ _ (cJ (aN bH (@ao _ _ _ _ _ _ _ (aM K) (pv 2) af (λ_ _=>rfl)) af (aJ _)) (@aw _ _ _ (bj (bL K ED ES ET bR (pv 6) (aq (@bG _ _ _ _ _ (aq (aA de (pv 5) af) (aq aU (aq (aA de (pv 5) af) (aq aU aa rfl) rfl) rfl) rfl)) aa rfl)))) aQ)
   (@av _ _ _ _ _ (cJ (aN bH (@ao _ _ _ _ _ _ _ (aM K) (pv 2) af (λ_ _=>rfl)) af (aJ _)) (@aw _ _ _ (bj (bL K ED ES ET bR (pv 6) (aq (@bG _ _ _ _ _ (aq (aA de (pv 5) af) (aq aU (aq af (aq aU aa rfl) rfl) rfl) rfl)) aa rfl)))) aQ)
   (@av _ _ _ _ _ (cJ (aN bH (@ao _ _ _ _ _ _ _ (aM K) (pv 2) af (λ_ _=>rfl)) af (aJ _)) (@aw _ _ _ (@aG _ _ 6 _ _ _ _ nd rfl oi (zG K (pv 6) (fV (gR gY af))) rfl oi)) aQ)
   (@aw _ _ _ (@aD _ _ _ _ (@bG _ _ _ _ _ (aq (pv 5) (aq (ic (kU K) rfl T.tuple_ PyProof.Rows.boot_tuple (aq (pv 6) aa rfl)) aa rfl) rfl))))))))))))))),?_⟩
 walk_at"";refine aO λw0 G1 f1 ar _=>?_;walk_at"";refine lg [5,5,2,2,4,4,2] ar (by decide) (by decide) (hp) λdq ds H1 e1 hd bv N hb=>?_;have eH:Ext H H1:=f1.trans e1;obtain⟨d0,g0,as,au⟩:=cL N hb 0 rfl;obtain⟨d1,g1,b1,b2⟩:=cL N hb 1 rfl;obtain⟨d2,g2,b4,b5⟩:=cL N hb 2 rfl;obtain⟨d3,g3,b7,b8⟩:=cL N hb 3 rfl;obtain⟨d4,g4,_⟩:=cL N hb 4 rfl;obtain⟨d5,g5,_⟩:=cL N hb 5 rfl;obtain⟨d6,g6,_⟩:=cL N hb 6 rfl;clear hb N;walk_at"";refine aL (ag.of hd) g0 ?_;walk_at"";refine aL (ag.of hd) g1 ?_;walk_at"";obtain⟨U,hU⟩:∃U:Nat,1+d0=(U:Int):=⟨(1+d0).toNat,by lia⟩;obtain⟨D,hD⟩:∃D:Nat,1+d1=(D:Int):=⟨(1+d1).toNat,by lia⟩;rw[hU,hD];have u1:1<=U:=by lia
 have u6:U<=5:=by lia
 have v1:1<=D:=by lia
 have v5:D<=5:=by lia
 clear as au b1 b2 hU hD;obtain⟨m,hm⟩:∃m:Int,(U:Int)+(D:Int)+2=m:=⟨_,rfl⟩;rw[hm];refine aO λa1 H2 e2 ak _=>?_;walk_at"";refine aO λt1 O e3 J _=>?_;walk_at"";refine aL (ag.of (e3 _ _ (e2 _ _ hd))) g2 ?_;obtain⟨x2,ba,bb⟩:=kW (a:=V.str "stay") (b:=V.str "zero") b4 b5;refine aL (ag.of J) ba ?_;walk_at"";obtain⟨z2,rfl,bc⟩:∃z,x2=.str z/\bY z:=by
  rcases bb with rfl|rfl
  .exact⟨_,rfl,ji⟩
  .exact⟨_,rfl,mJ⟩
 refine aO λa2 R o am _=>?_;walk_at"";refine aO λf H5 e5 hf hfn=>?_;have be:Ext H1 H5:=e2.trans (e3.trans (o.trans e5));have l:H1 f=Vo:=(e2.trans (e3.trans o)).none hfn;obtain⟨Z,F⟩:∃y:Way,y=⟨0,"stay",1,"a"⟩:=⟨_,rfl⟩;obtain⟨y2,G⟩:∃y:Way,y=⟨0,z2,1+(U:Int),"b"⟩:=⟨_,rfl⟩;have a3:WL H1 H5 f [Z,y2]:=by
  refine⟨be,[a1,a2],hf,?_⟩;have k1:H5 a1=Vn (.tup Z.vs):=by rw[F];exact e5 _ _ (o _ _ (e3 _ _ ak))
  have k2:H5 a2=Vn (.tup y2.vs):=by rw[G];exact e5 _ _ am
  exact((aT.nil H5).snoc k1).snoc k2
 have a4:∀u∈[Z,y2],u.Ok3 m:=by
  intro u e;rcases EK.mp e with rfl|e
  .subst F;exact⟨Int.le_refl _,by show(0:Int)<m;lia,by show(0:Int)<=1;decide,by show(1:Int)<m;lia,ji,kA⟩
  .rw[EG.mp e];subst G;exact⟨Int.le_refl _,by show(0:Int)<m;lia,by show(0:Int)<=1+(U:Int);lia,by show 1+(U:Int)<m;lia,bc,jq⟩
 have a5:[Z,y2].Nodup:=by subst F G;refine List.nodup_cons.mpr ⟨λz=>?_,by simp⟩;have:=congrArg Way.sign (EG.mp z);exact vJ this
 have a6:∀u∈[Z,y2],u.room<=((0:Nat):Int)/\u.sign≠"c":=by
  intro u e;rcases EK.mp e with rfl|e
  .subst F;exact⟨Int.le_refl _,sD⟩
  .rw[EG.mp e];subst G;exact⟨Int.le_refl _,lS⟩
 have ab:[Z,y2].length=2:=rfl;generalize [Z,y2]=bg at a3 a4 a5 a6 ab;clear F G ak am J hf e2 e3 o e5;walk_at"";refine cN (by lia) ?_;refine forR (λi σ O=>∃(k:Option V) (us:List Way),σ=[Vn (.int c),Vn (.int p),Vn (.ref dq),Vn (.int U),Vn (.int D),Vn (.int m),Vn (.ref f),k]/\WL H1 O f us/\(∀u∈us,u.Ok3 m)/\us.Nodup/\(∀u∈us,u.room<=(i:Int)/\u.sign≠"c")/\us.length=2+i)
  ⟨Vo,bg,rfl,a3,a4,a5,a6,ab⟩ ?_ ?_
 .rintro i σ O hi ⟨k,us,rfl,wl,ok,d,pr,len⟩;rw[EI]at hi;walk_at"";refine⟨wl.ty (Ext.rfl' _),?_⟩;walk_at""
  try refine rd_I (show(0:Int)<(U:Int) by lia) ?_
  walk_at"";refine aO λv R o B _=>?_;walk_at"";have r0:0<=(0+(i:Int)+1) % (U:Int):=Int.emod_nonneg _ (by lia);have r1:(0+(i:Int)+1) % (U:Int)<U:=Int.emod_lt_of_pos _ (by lia);obtain⟨xs,C,x,ac⟩:=wl.push (w:=⟨1+(0+(i:Int)),"up",1+(0+(i:Int)+1) % (U:Int),"a"⟩) l o B;refine bN C (dE (by lia)) ?_;walk_at"";refine⟨_,_,rfl,ac,fI ok ⟨by show 0<=1+(0+(i:Int));lia,by show 1+(0+(i:Int))<m;lia,by show 0<=1+(0+(i:Int)+1) % (U:Int);lia,by show 1+(0+(i:Int)+1) % (U:Int)<m;lia,kQ,kA⟩,iY d λz=>?_,jH (λu e=>⟨by have:=(pr u e).1;lia,(pr u e).2⟩) ⟨by show 1+(0+(i:Int))<=_;lia,sD⟩,by simp[len];lia⟩;have:=(pr _ z).1;have:1+(0+(i:Int))<=(i:Int):=this;lia
 clear a3 a4 a5 a6 ab;rintro σ O ⟨k,us,rfl,wl,ok,d,pr,len⟩;rw[EI]at pr len;walk_at"";refine cN (by lia) ?_;refine forR (λi σ O=>∃(k:Option V) (us:List Way),σ=[Vn (.int c),Vn (.int p),Vn (.ref dq),Vn (.int U),Vn (.int D),Vn (.int m),Vn (.ref f),k]/\WL H1 O f us/\(∀u∈us,u.Ok3 m)/\us.Nodup/\(∀u∈us,u.room<=(U:Int)+(i:Int)/\u.sign≠"c"/\(u.room=1+(U:Int)->u.sign = "b"))/\us.length=2+U+i)
  ⟨_,us,rfl,wl,ok,d,λu e=>⟨by have:=(pr u e).1;lia,(pr u e).2,λz=>by have:=(pr u e).1;lia⟩,len⟩ ?_ ?_
 .clear wl ok d pr len;rintro i σ O hi ⟨k,us,rfl,wl,ok,d,pr,len⟩;rw[EI]at hi;walk_at"";refine⟨wl.ty (Ext.rfl' _),?_⟩;walk_at"";refine aO λt1 H6 e6 J _=>?_;walk_at"";refine aL (ag.of (e6 _ _ (wl.ext _ _ hd))) g3 ?_;obtain⟨x3,bi,bl⟩:=kW (a:=V.str "up") (b:=V.str "down") b7 b8;refine aL (ag.of J) bi ?_;walk_at"";obtain⟨z3,rfl,bm⟩:∃z,x3=.str z/\bY z:=by
   rcases bl with rfl|rfl
   .exact⟨_,rfl,kQ⟩
   .exact⟨_,rfl,ny⟩
  try refine rd_I (show(0:Int)<(D:Int) by lia) ?_
  walk_at"";refine aO λv R o B _=>?_;walk_at"";have r0:0<=(0+(i:Int)+1) % (D:Int):=Int.emod_nonneg _ (by lia);have r1:(0+(i:Int)+1) % (D:Int)<D:=Int.emod_lt_of_pos _ (by lia);obtain⟨xs,C,x,ac⟩:=wl.push (w:=⟨1+(U:Int)+(0+(i:Int)),z3,1+(U:Int)+(0+(i:Int)+1) % (D:Int),"b"⟩) l (e6.trans o) B;refine bN C (dE (by lia)) ?_;walk_at"";refine⟨_,_,rfl,ac,fI ok ⟨by show 0<=1+(U:Int)+(0+(i:Int));lia,by show 1+(U:Int)+(0+(i:Int))<m;lia,by show 0<=1+(U:Int)+(0+(i:Int)+1) % (D:Int);lia,by show 1+(U:Int)+(0+(i:Int)+1) % (D:Int)<m;lia,bm,jq⟩,iY d λz=>?_,jH (λu e=>⟨by have:=(pr u e).1;lia,(pr u e).2⟩) ⟨by show 1+(U:Int)+(0+(i:Int))<=_;lia,lS,λ_=>rfl⟩,by simp[len];lia⟩;have:=(pr _ z).1;have:1+(U:Int)+(0+(i:Int))<=(U:Int)+(i:Int):=this;lia
 clear wl ok d pr len;rintro σ O ⟨k,us,rfl,wl,ok,d,pr,len⟩;rw[EI]at pr len;walk_at"";refine⟨wl.ty (Ext.rfl' _),?_⟩;walk_at"";refine aO λv R o B _=>?_;walk_at"";obtain⟨xs,C,x,I⟩:=wl.push (w:=⟨1,"stay",m-1,"c"⟩) l o B;have ad:=fI ok (w:=⟨1,"stay",m-1,"c"⟩) ⟨by show(0:Int)<=1;decide,by show(1:Int)<m;lia,by show 0<=m-1;lia,by show m-1<m;lia,ji,l7⟩;have ai:=iY d (w:=⟨1,"stay",m-1,"c"⟩) λz=>(pr _ z).2.1 rfl;have pr2:=jH (P:=λu=>u.room<=(U:Int)+(D:Int)/\(u.room=1+(U:Int)->u.sign = "b")) (λu e=>⟨(pr u e).1,(pr u e).2.2⟩) (w:=⟨1,"stay",m-1,"c"⟩) ⟨by show(1:Int)<=_;lia,λz=>by have:(1:Int)=1+(U:Int):=z;lia⟩;refine bN C (dE (by lia)) ?_;generalize upd R f _=H5 at I ⊢;generalize S:us++[_]=an at I ad ai pr2;have W:an.length=3+U+D:=by rw[<-S];simp[len];lia
 clear S C x B o wl ok d pr len;walk_at"";refine⟨I.ty (Ext.rfl' _),?_⟩;walk_at"";refine aO λv R o B _=>?_;walk_at"";obtain⟨xs,C,x,A⟩:=I.push (w:=⟨1+(U:Int),"stay",m-1,"a"⟩) l o B;have ok3:=fI ad (w:=⟨1+(U:Int),"stay",m-1,"a"⟩) ⟨by show(0:Int)<=1+(U:Int);lia,by show 1+(U:Int)<m;lia,by show 0<=m-1;lia,by show m-1<m;lia,ji,kA⟩;have L:=iY ai (w:=⟨1+(U:Int),"stay",m-1,"a"⟩) λz=>vJ ((pr2 _ z).2 rfl);have pr3:=jH (P:=λu=>u.room<=(U:Int)+(D:Int)) (λu e=>(pr2 u e).1) (w:=⟨1+(U:Int),"stay",m-1,"a"⟩) (by show 1+(U:Int)<=_;lia);refine bN C (dE (by lia)) ?_;generalize upd R f _=H6 at A ⊢;generalize X:an++[_]=ap at A ok3 L pr3;have Y:ap.length=4+U+D:=by rw[<-X];simp[W];lia
 clear X C x B o I ad ai pr2 W;walk_at"";refine gN (λs H'=>∃(k:Option V) (us:List Way),s=[Vn (.int c),Vn (.int p),Vn (.ref dq),Vn (.int U),Vn (.int D),Vn (.int m),Vn (.ref f),k]/\WL H1 H' f us/\(∀u∈us,u.Ok3 m)/\us.Nodup/\(∀u∈us,u.room<=(U:Int)+(D:Int)\/u.sign = "c")/\us.length<=5+U+D) ?_ ?_
 .walk_at"";refine aL (ag.of (A.ext _ _ hd)) g4 ?_;walk_at"";refine gH (λh=>?_) (λh=>?_)
  .walk_at"";refine⟨A.ty (Ext.rfl' _),?_⟩;walk_at"";refine aO λv R o B _=>?_;walk_at"";obtain⟨xs,C,x,aj⟩:=A.push (w:=⟨m-1,"down",m-1,"c"⟩) l o B;refine bN C (dE (by lia)) ?_;walk_at"";exact⟨_,_,rfl,aj,fI ok3 ⟨by show 0<=m-1;lia,by show m-1<m;lia,by show 0<=m-1;lia,by show m-1<m;lia,ny,l7⟩,iY L λz=>by have:m-1<=(U:Int)+(D:Int):=pr3 _ z;lia,jH (λu e=>.inl (pr3 u e)) (.inr rfl),by simp[Y];lia⟩
  .walk_at"";exact⟨_,ap,rfl,A,ok3,L,λu e=>.inl (pr3 u e),by lia⟩
 clear A ok3 L pr3 Y;rintro s H7 ⟨k,us,rfl,wl,ok,d,pr,len⟩;walk_at"";refine gN (λs H'=>∃(k:Option V) (us:List Way),s=[Vn (.int c),Vn (.int p),Vn (.ref dq),Vn (.int U),Vn (.int D),Vn (.int m),Vn (.ref f),k]/\WL H1 H' f us/\(∀u∈us,u.Ok3 m)/\us.Nodup/\us.length<=6+U+D) ?_ ?_
 .walk_at"";refine aL (ag.of (wl.ext _ _ hd)) g5 ?_;walk_at"";refine gH (λh=>?_) (λh=>?_)
  .walk_at"";refine⟨wl.ty (Ext.rfl' _),?_⟩;walk_at"";refine aO λv R o B _=>?_;walk_at"";obtain⟨xs,C,x,aj⟩:=wl.push (w:=⟨m-1,"zero",0,"b"⟩) l o B;refine bN C (dE (by lia)) ?_;walk_at"";exact⟨_,_,rfl,aj,fI ok ⟨by show 0<=m-1;lia,by show m-1<m;lia,by show(0:Int)<=0;decide,by show(0:Int)<m;lia,mJ,jq⟩,iY d (λz=>(pr _ z).elim (λy=>by have:m-1<=(U:Int)+(D:Int):=y;lia) λy=>lS y),by simp;lia⟩
  .walk_at"";exact⟨_,us,rfl,wl,ok,d,by lia⟩
 clear wl ok d pr len;rintro s H8 ⟨k,us,rfl,wl,ok,d,len⟩;walk_at"";refine gN (λs H'=>∃(k:Option V) (f:Vb) (cs:List Vb) (us:List Way),s=[Vn (.int c),Vn (.int p),Vn (.ref dq),Vn (.int U),Vn (.int D),Vn (.int m),Vn (.ref f),k]/\Ext H1 H'/\H' f=Vn (.lst (cs.map V.ref))/\aT H' cs us/\(∀u∈us,u.Ok3 m)/\us.Nodup/\us.length<=6+U+D) ?_ ?_
 .walk_at"";refine aL (ag.of (wl.ext _ _ hd)) g6 ?_;walk_at"";obtain⟨ew,cs,M,al⟩:=wl;refine gH (λh=>?_) (λh=>?_)
  .walk_at"";refine⟨rfl,qT (ag.of M) (cF λr H9 e9 bn _=>?_)⟩;walk_at"";exact⟨_,r,cs.reverse,us.reverse,rfl,ew.trans e9,by rw[bn,List.map_reverse],(al.ext e9).rev,λu e=>ok u (List.mem_reverse.mp e),List.pairwise_reverse.mpr (d.imp λh=>Ne.symm h),by rw[List.length_reverse];lia⟩
  .walk_at"";exact⟨_,f,cs,us,rfl,ew,M,al,ok,d,by lia⟩
 clear wl ok d len;rintro s H9 ⟨k,g,cs,us,rfl,ew,M,al,ok,d,len⟩;walk_at"";refine kG (ag.of M) (cF λr I1 i1 bu _=>?_);walk_at"";refine aO λt I2 i2 ht _=>?_;exact q _ m us I2 (eH.trans (ew.trans (i1.trans i2))) (bh.mk ht (((al.ext i1).ways bu).ext i2)) ⟨by lia,by lia,by lia,ok,d⟩
inductive qK(K:Eo)(vs:List V)(H:Hp)(Q:VK)(E:XK):Prop|mk:∀c p,vs=[.int c,.int p]->0<p->(∀v m ws H',Ext H H'->bh H' v m ws->HOuse3 m ws->Q v H')->qK K vs H Q E
def xy(T:Bu w mg base):Cal P w K mg base "_law_house" 4 ["_law_cell_here","_law_prime"] (qK K):=by
 refine(bw T.d__law_house).oS ["_law_cell_here","_law_prime","_law_kind","_law_left"] λa nd H vs Q E h=>?_;obtain⟨c,p,rfl,d,q⟩:=h;refine⟨_,(av (aG (i:=2) nd rfl oi (ao (aM K) (aB (jR T) a (ae (pv 0) (ae (bp (ae af aa)) (ae (pv 1) aa)))) af (λ_ _=>rfl)))
   (av (aG (i:=3) nd rfl oi (aB (xw T) a (ae (pv 0) (ae af aa))))
   (av (aY (aN bH (pv 2) af (aJ _)) (aw (aD (aB (Ce T) a (ae (pv 3) (ae (pv 1) aa))))) aQ)
   (av (aY (aN bH (pv 2) af (aJ _)) (aw (aD (aB (zT T) a (ae (pv 3) (ae (pv 1) aa))))) aQ)
   (aw (aD (aB (BH T) a (ae (pv 3) (ae (pv 1) aa))))))))),?_⟩
 walk_at"";refine aO λs u k g _=>?_;walk_at"";refine lg [8] g (by decide) (by decide) (d) λdq ds H1 l hd n o hb=>?_;have j:Ext H H1:=k.trans l;obtain⟨x,r,_⟩:=cL o hb 0 rfl;walk_at"";refine aL (ag.of hd) r ?_;walk_at"";refine⟨c,8,rfl,by decide,by decide,λz=>?_⟩;walk_at"";refine gH (λh=>?_) (λh=>?_)
 .walk_at"";exact⟨z,p,rfl,d,λv m ws H' e b ok=>q v m ws H' (j.trans e) b ok⟩
 .walk_at"";refine gH (λh=>?_) (λh=>?_)
  .walk_at"";exact⟨z,p,rfl,d,λv m ws H' e b ok=>q v m ws H' (j.trans e) b ok⟩
  .walk_at"";exact⟨z,p,rfl,d,λv m ws H' e b ok=>q v m ws H' (j.trans e) b ok⟩
def jA{a b:Vm}:decide (V.str a=V.str b)=decide (a=b):=by
 by_cases h:a=b
 .subst h;simp
 .rw[Fp h,Fp (λz=>h (V.str.inj z))]
def cb{a b:Vm}(h:Q (.bl (decide (a=b))) H):kZ (.str a) (.str b) H Q:=⟨rfl,by rw[jA];exact h⟩
def oK{a b:Vm}(h:Q (.bl (!decide (a=b))) H):nh (.str a) (.str b) H Q:=⟨rfl,by rw[jA];exact h⟩
def cV{α β:Type}{F:α->β->Prop}{cs:List α}{ts:List β}(h:Paired F cs ts):∀{i:Nat} {c:α},cs[i]?=Vn c->∃t,ts[i]?=Vn t/\F c t:=by
 induction h with
 | nil=>intro i c e;simp at e
 | cons h t a=>
  intro i c e;cases i with
  | zero=>cases e;exact⟨_,rfl,h⟩
  | succ i=>exact a e
def f6{α β:Type}{F:α->β->Prop}{cs:List α}{ts:List β}(h:Paired F cs ts):∀{i:Nat} {t:β},ts[i]?=Vn t->∃c,cs[i]?=Vn c/\F c t:=by
 induction h with
 | nil=>intro i c e;simp at e
 | cons h t a=>
  intro i c e;cases i with
  | zero=>cases e;exact⟨_,rfl,h⟩
  | succ i=>exact a e
abbrev aE(H:Hp)(a:Vb)(x:Bfs.Pl):Prop:=H a=Vn (.tup [.int x.1,.int x.2])
abbrev aZ(x:Bfs.Pl):List Key:=[.inl x.1,.inl x.2]
def vj{x:Bfs.Pl}(h:aZ x=aZ y):x=y:=by simp only[aZ,List.cons.injEq,Sum.inl.injEq,and_true]at h;exact Prod.ext h.1 h.2
def aE.put{f a:Vb}{x:Bfs.Pl}{o o':HO}(b:H f=Vn o)(c:∀xs,o≠.tup xs)(h:aE H a x):aE (upd H f o') a x:=by show upd H f o' a=_;rw[aF (bZ h b (λz=>c _ z.symm))];exact h
def cA(m:Int)(x:Bfs.Pl):Prop:=0<=x.1/\x.1<m/\0<=x.2/\x.2<=1000
inductive xh(K:Eo)(vs:List V)(H:Hp)(Q:VK)(E:XK):Prop|mk:∀a b m l as xs,vs=[.ref a,.ref l]->H a=Vn (.tup [.int m,b])->H l=Vn (.lst (List.map V.ref as))->Paired (aE H) as xs->(∀x∈xs,cA m x)->Q .non H->xh K vs H Q E
theorem sO(T:Bu w mg base):Cal P w K mg base "refuse_bad_places" 3 ["house","places"] (xh K):=by
 obtain⟨c,a⟩:=T.g_GREATEST_NUMBER;refine(bw T.d_refuse_bad_places).oS ["house","places","place"] λo nd H vs Q E h=>?_;obtain⟨j,s,m,l,as,xs,rfl,h1,h2,n,hin,q⟩:=h;refine⟨_,(av (bt PassesOwn.never rfl (bP K (pv 1)) (aI (i:=2) nd rfl oi) (aw (aY (PW.pt (bJ (bB (a0 (aB (j9 T) o (ae (ao (az K) (pv 2) af (λ_ _=>rfl)) (ae (ao (az K) (pv 0) af (λ_ _=>rfl)) aa))))) (b9 (aN dj (ao (az K) (pv 2) af (λ_ _=>rfl)) af (aJ _))))) (aw i9) aQ)))
   (aw (bt PassesOwn.never rfl (bP K (pv 1)) (aI (i:=2) nd rfl oi) (aw (aY (aN eB (ao (az K) (pv 2) af (λ_ _=>rfl)) (gL (v:=.int 1000) rfl a ⟨_,rfl⟩) (aJ _)) (aw i9) aQ))))),?_⟩
 walk_at"";refine bO (ag.of h2) ?_;refine forL (xs:=List.map V.ref as) (λi σ H'=>H'=H/\∃k,σ=[Vn (.ref j),Vn (.ref l),k]) ⟨rfl,Vo,rfl⟩ (λi σ H' _ h=>by rw[h.1];exact ag.of h2) ?_ ?_
 .rintro i x σ H' e ⟨rfl,k,rfl⟩;rw[Ey]at e;obtain⟨b,hb,rfl⟩:=EH.mp e;obtain⟨t,g,d⟩:=cV n hb;obtain⟨r0,r1,p,r⟩:=hin t (EF g);walk_at"";refine ay (ah.of d) (v:=.int t.1) rfl ?_;walk_at"";refine ay (ah.of h1) (v:=.int m) rfl ?_;walk_at"";refine⟨_,_,rfl,r0,r1,?_⟩;walk_at"";refine ax ?_;walk_at"";refine ay (ah.of d) (v:=.int t.2) rfl ?_;walk_at"";rw[Fp (show ¬t.2<0 by lia)];refine ax ?_;walk_at"";exact⟨rfl,_,rfl⟩
 .rintro σ H' ⟨rfl,k,rfl⟩;walk_at"";refine bO (ag.of h2) ?_;refine forL (xs:=List.map V.ref as) (λi σ H2=>H2=H'/\∃k,σ=[Vn (.ref j),Vn (.ref l),k]) ⟨rfl,_,rfl⟩ (λi σ H2 _ h=>by rw[h.1];exact ag.of h2) ?_ ?_
  .rintro i x σ H2 e ⟨rfl,k,rfl⟩;rw[Ey]at e;obtain⟨b,hb,rfl⟩:=EH.mp e;obtain⟨t,g,d⟩:=cV n hb;obtain⟨r0,r1,p,r⟩:=hin t (EF g);walk_at"";refine ay (ah.of d) (v:=.int t.2) rfl ?_;walk_at"";rw[Fp (show ¬(1000:Int)<t.2 by lia)];refine ax ?_;walk_at"";exact⟨rfl,_,rfl⟩
  .rintro σ H2 ⟨rfl,k,rfl⟩;walk_at"";exact q
def cI(w:Way)(r n:Int):Bool:=decide (w.room=r) && (if decide (w.deed = "down")=true then decide (0<n)else(!decide (w.deed = "zero") || decide (n=0)))
inductive wO(K:Eo)(vs:List V)(H:Hp)(Q:VK)(E:XK):Prop|mk:∀b w p x,vs=[.ref b,.ref p]->H b=Vn (.tup (Way.vs w))->aE H p x->Q (.bl (cI w x.1 x.2)) H->wO K vs H Q E
def uq(T:Bu w mg base):Cal P w K mg base "is_open" 1 ["way","place"] (wO K):=by
 refine(bw T.d_is_open).oS ["way","place"] λd nd H vs Q E h=>?_;obtain⟨b,w,p,⟨r,n⟩,rfl,h1,h2,q⟩:=h;refine⟨_,(av (aY (aN dY (ao (az K) (pv 0) af (λ_ _=>rfl)) (ao (az K) (pv 1) af (λ_ _=>rfl)) (aJ _)) (aw (aD a7)) aQ)
   (av (aY (aN bH (ao (az K) (pv 0) af (λ_ _=>rfl)) aU (aJ _)) (aw (aD (cY eB (ao (az K) (pv 1) af (λ_ _=>rfl)) af (aJ _)))) aQ)
   (aw (aD (pQ (cY dY (ao (az K) (pv 0) af (λ_ _=>rfl)) aU (aJ _)) (cQ (cY bH (ao (az K) (pv 1) af (λ_ _=>rfl)) af (aJ _)))))))),?_⟩
 walk_at"";refine ay (ah.of h1) (v:=.int w.room) rfl ?_;walk_at"";refine ay (ah.of h2) (v:=.int r) rfl ?_;walk_at"";unfold cI at q;dsimp only at q;by_cases e:w.room=r
 .rw[Fq e];refine ax ?_;walk_at"";rw[Fq e,Bool.true_and]at q;refine ay (ah.of h1) (v:=.str w.deed) rfl ?_;walk_at"";refine cb ?_;refine rd_exb ?_;cases a:decide (w.deed = "down")with
  | true=>
   rw[a]at q;refine aC ?_;walk_at"";refine ay (ah.of h2) (v:=.int n) rfl ?_;walk_at"";exact q
  | false=>
   rw[a]at q;refine ax ?_;walk_at"";refine ay (ah.of h1) (v:=.str w.deed) rfl ?_;walk_at"";refine oK ?_;refine rd_exb ?_;cases c:decide (w.deed = "zero")with
   | true=>
    rw[c]at q;refine ax ?_;walk_at"";refine ay (ah.of h2) (v:=.int n) rfl ?_;walk_at"";exact q
   | false=>
    rw[c]at q;exact aC q
 .rw[Fp e];refine aC ?_;walk_at"";rw[Fp e,Bool.false_and]at q;exact q
def BC{w:Ve}{K:Eo}{a:Vb}{b c d e g i j k:Tok}{ep:Nat}(h:K.lookup a=Vn (jf w [("up",b,.int 1 c),("down",d,.int (-1) e),("stay",g,.int 0 i),("zero",j,.int 0 k)] ep))(hs:(a == sysModules)=false):GDict w K a n6:=
 ⟨⟨_,_,h,.cons ⟨rfl,⟨_,rfl⟩⟩ (.cons ⟨rfl,⟨_,rfl⟩⟩ (.cons ⟨rfl,⟨_,rfl⟩⟩ (.cons ⟨rfl,⟨_,rfl⟩⟩ .nil)))⟩,by decide +kernel,hs⟩
def rz(z:Vm):Int:=if z = "up" then 1 else if z = "down" then -1 else 0
def zM(h:bY z):bV n6 (.inr z)=Vn (.int (rz z)):=by rcases h with rfl|rfl|rfl|rfl<;>decide +kernel
inductive qo(K:Eo)(vs:List V)(H:Hp)(Q:VK)(E:XK):Prop|mk:∀b w,vs=[.ref b]->H b=Vn (.tup (Way.vs w))->bY w.deed->Q (.int (rz w.deed)) H->qo K vs H Q E
def wc(T:Bu w mg base):Cal P w K mg base "raised_by" 1 ["way"] (qo K):=by obtain⟨d,a,c⟩:=T.h_RAISED;refine(ck T.d_raised_by).oS ["way"] λe nd H vs Q E h=>?_;obtain⟨b,w,rfl,h1,hd,q⟩:=h;refine⟨_,(aw (aD (A6 rfl a c (ao (az K) (pv 0) af (λ_ _=>rfl)) (λ_ _=>rfl)))),?_⟩;walk_at"";refine ay (ah.of h1) (v:=.str w.deed) rfl ?_;exact CA (zM hd) q
def wN(z:Vm):-1<=rz z:=by
 unfold rz;split
 .decide
 .split<;>decide
def uk(z:Vm):rz z<=1:=by
 unfold rz;split
 .decide
 .split<;>decide
inductive rJ(K:Eo)(vs:List V)(H:Hp)(Q:VK)(E:XK):Prop|mk:∀b w p x,vs=[.ref b,.ref p]->H b=Vn (.tup (Way.vs w))->bY w.deed->aE H p x->(∀t H',Ext H H'->aE H' t (w.other,x.2+rz w.deed)->H t=Vo->Q (.ref t) H')->rJ K vs H Q E
def tV(T:Bu w mg base):Cal P w K mg base "led_to" 2 ["way","place"] (rJ K):=by refine(bw T.d_led_to).oS ["way","place"] λc nd H vs Q E h=>?_;obtain⟨b,w,p,⟨r,n⟩,rfl,h1,hd,h2,q⟩:=h;refine⟨_,(aw (aD (bG (ae (ao (az K) (pv 0) af (λ_ _=>rfl)) (ae (aA aV (ao (az K) (pv 1) af (λ_ _=>rfl)) (aB (wc T) c (ae (pv 0) aa))) aa))))),?_⟩;walk_at"";refine ay (ah.of h1) (v:=.int w.other) rfl ?_;walk_at"";refine ay (ah.of h2) (v:=.int n) rfl ?_;walk_at"";refine⟨b,w,rfl,h1,hd,?_⟩;walk_at"";refine aO λt H1 d e a=>?_;exact q t H1 d e a
def wQ{K:Eo}{a:Vb}{g:TG}{tb:TS}{D:Ends}(Pv:Nat->St->Hp->Prop)(c:Pv 0 σ H)(d:∀i σ H,i<=xs.length->Pv i σ H->ah K H a xs)
  (hs:∀i u σ H p H',xs[i]?=Vn u->Pv i σ H->Ext H H'->H' p=Vn (.tup [.int i,u])->H p=Vo->g (.ref p) σ H' λb H2=>tb { D with nx:=Pv (i+1),ct:=Pv (i+1),bk:=D.nx } b H2) (hd:∀σ H,Pv xs.length σ H->D.nx σ H) :
  iW (iC K a) g tb D σ H:=DA Pv c d hs hd
def cK(z:Vm)(n:Int):Option Int:=
 if decide (z = "up")=true then Vn (n+1)else if decide (z = "down")=true then(if decide (0<n)=true then Vn (n-1)else Vo)else if decide (z = "stay")=true then Vn n else if decide (z = "zero")=true then(if decide (n=0)=true then Vn n else Vo)else Vo
def fb(w:Way)(r n:Int)(j:Nat):List (Int×Int×Int):=if decide (w.room=r)=true then((cK w.deed n).map λa=>((j:Int),w.other,a)).toList else[]
def c7(ws:List Way)(r n:Int):Nat->List (Int×Int×Int)
 | 0=>[]
 | k+1=>c7 ws r n k++((ws[k]?).map λw=>fb w r n k).getD []
def Cw{n:Int}{i:Nat}{w:Way}(h:ws[i]?=Vn w):c7 ws r n (i+1)=c7 ws r n i++fb w r n i:=by show _++((ws[i]?).map λw=>fb w r n i).getD []=_;rw[h];rfl
def zV(w:Way)(r n:Int)(j:Nat):(fb w r n j).length<=1:=by
 unfold fb;split
 .cases cK w.deed n<;>simp
 .simp
theorem nM(ws:List Way)(r n:Int):∀k,(c7 ws r n k).length<=k
 | 0=>ER _
 | k+1=>by
  have:=nM ws r n k;show(c7 ws r n k++((ws[k]?).map λw=>fb w r n k).getD []).length<=k+1;rw[EN];cases h:ws[k]? with
  | none=>simp;lia
  | some w=>
   have:=zV w r n k;simp;lia
def tO{w:Way}{n:Int}{j:Nat}(h:w.room≠r):fb w r n j=[]:=by unfold fb;rw[Fp h];rfl
def gF{w:Way}{n:Int}{j:Nat}{o:Option Int}(h:w.room=r)(hs:cK w.deed n=o):fb w r n j=(o.map λa=>((j:Int),w.other,a)).toList:=by unfold fb;rw[Fq h,hs];rfl
def dm(H:Hp)(c:Vb)(t:Int×Int×Int):Prop:=∃d,H c=Vn (.tup [.int t.1,.ref d])/\H d=Vn (.tup [.int t.2.1,.int t.2.2])
def tQ(f:∀c t,dm H c t->dm H' c t){cs:List Vb}(h:Paired (dm H) cs ts):Paired (dm H') cs ts:=by
 induction h with
 | nil=>exact .nil
 | cons h t a=>exact .cons (f _ _ h) a
def B6{cs:List Vb}{c:Vb}{t:Int×Int×Int}(h:Paired (dm H) cs ts)(a:dm H c t):Paired (dm H) (cs++[c]) (ts++[t]):=by
 induction h with
 | nil=>exact .cons a .nil
 | cons h _ b=>exact .cons h b
def dm.ext(e:Ext H H'){c:Vb}{t:Int×Int×Int}(h:dm H c t):dm H' c t:=by obtain⟨d,h1,h2⟩:=h;exact⟨d,e _ _ h1,e _ _ h2⟩
def dm.put{f:Vb}(a:H f=Vn (.lst xs)){c:Vb}{t:Int×Int×Int}(h:dm H c t):dm (upd H f (.lst ys)) c t:=by obtain⟨d,h1,h2⟩:=h;exact⟨d,by rw[aF (bZ h1 a (by intro z;cases z))];exact h1,by rw[aF (bZ h2 a (by intro z;cases z))];exact h2⟩
structure BL(H0 H:Hp)(f:Vb)(ts:List (Int×Int×Int)):Prop where
 ext:Ext H0 H
 at_:∃cs:List Vb,H f=Vn (.lst (cs.map V.ref))/\Paired (dm H) cs ts
def BL.push{f c d:Vb}{j o n:Int}(h:BL H0 H f ts)(hfn:H0 f=Vo)(e:Ext H H1)(hd:H1 d=Vn (.tup [.int o,.int n]))(b:H1 c=Vn (.tup [.int j,.ref d])):
  ∃xs,H1 f=Vn (.lst xs)/\xs.length=ts.length/\BL H0 (upd H1 f (.lst (xs++[.ref c]))) f (ts++[(j,o,n)]):=by
 obtain⟨g,cs,i,al⟩:=h;have a:=e _ _ i;have k:dm H1 c (j,o,n):=⟨d,b,hd⟩;refine⟨cs.map V.ref,a,by rw[Ew];exact Paired.length al,bK (g.trans e) hfn,cs++[c],by rw[aK,EM];rfl,B6 (tQ (λ_ _ z=>(z.ext e).put a) al) (k.put a)⟩
def BL.ty{K:Eo}{f:Vb}(h:BL H0 H f ts)(e:Ext H H1):iS K "list" (.ref f) H1:=by obtain⟨_,cs,a,al⟩:=h;exact df (ag.of (e _ _ a))
def BL.step{f:Vb}(h:BL H0 H f ts)(e:Ext H H1):BL H0 H1 f ts:=by obtain⟨a,cs,b,al⟩:=h;exact⟨a.trans e,cs,e _ _ b,tQ (λ_ _ z=>z.ext e) al⟩
def rj:decide ((Fb "up")=Fb "down")=false:=by decide +kernel
def BJ:decide ((Fb "up")=Fb "stay")=false:=by decide +kernel
def wo:decide ((Fb "up")=Fb "zero")=false:=by decide +kernel
def qg:decide ((Fb "down")=Fb "up")=false:=by decide +kernel
def wj:decide ((Fb "down")=Fb "stay")=false:=by decide +kernel
def tj:decide ((Fb "down")=Fb "zero")=false:=by decide +kernel
def vW:decide ((Fb "stay")=Fb "up")=false:=by decide +kernel
def oa:decide ((Fb "stay")=Fb "down")=false:=by decide +kernel
def vR:decide ((Fb "zero")=Fb "up")=false:=by decide +kernel
def mh:decide ((Fb "zero")=Fb "down")=false:=by decide +kernel
def tH:decide ((Fb "zero")=Fb "stay")=false:=by decide +kernel
def fU(z:Vm):decide (z=z)=true:=Fq rfl
def jo(n:Int):cK "up" n=Vn (n+1):=by unfold cK;rw[fU];rfl
def ia(n:Int):cK "down" n=if decide (0<n)=true then Vn (n-1)else Vo:=by unfold cK;rw[qg,fU];rfl
def ju(n:Int):cK "stay" n=Vn n:=by unfold cK;rw[vW,oa,fU];rfl
def iq(n:Int):cK "zero" n=if decide (n=0)=true then Vn n else Vo:=by unfold cK;rw[vR,mh,tH,fU];rfl
inductive oI(K:Eo)(vs:List V)(H:Hp)(Q:VK)(E:XK):Prop|mk:∀v m ws p r n,vs=[v,.ref p]->bh H v m ws->HOuse m ws->H p=Vn (.tup [.int r,.int n])->(∀l H' cs,Ext H H'->H l=Vo->H' l=Vn (.lst (List.map V.ref cs))->Paired (dm H') cs (c7 ws r n ws.length)->Q (.ref l) H')->oI K vs H Q E
theorem o7(T:Bu w mg base):Cal P w K mg base "_law_behind" 1 ["_law_house_here","_law_place"] (oI K):=by
 refine(bw T.d__law_behind).oS ["_law_house_here","_law_place","_law_found","_law_k","_law_room","_law_deed","_law_other","_law_sign"] λhr nd H vs Q E h=>?_;obtain⟨v,m,ws,p,r,n,rfl,⟨W,t,rfl,X,Y⟩,ok,Z,q⟩:=h;obtain⟨bs,O,al⟩:=bX.al Y;have R:=ok.few;refine⟨_,(av (aG (i:=2) nd rfl oi (bp aa))
   (av (bt PassesOwn.never rfl (pN K rfl T.enumerate_ (ae (ao (az K) (pv 0) af (λ_ _=>rfl)) aa)) (fh (n:=2) K rfl (br (aI (i:=3) nd rfl oi) (br (fh (n:=4) K rfl (br (aI (i:=4) nd rfl oi) (br (aI (i:=5) nd rfl oi) (br (aI (i:=6) nd rfl oi) (br (aI (i:=7) nd rfl oi) eA))))) eA))) (aw (cJ (aN bH (pv 4) (ao (az K) (pv 1) af (λ_ _=>rfl)) (aJ _)) (av (cJ (aN bH (pv 5) aU (aJ _)) (aw (bj (bL K ED ES ET bR (pv 2) (ae (bG (ae (pv 3) (ae (bG (ae (pv 6) (ae (aA aV (ao (az K) (pv 1) af (λ_ _=>rfl)) af) aa))) aa))) aa)))) aQ)
   (av (cJ (PW.pt (eT (aN bH (pv 5) aU (aJ _)) (fS (aN eB (ao (az K) (pv 1) af (λ_ _=>rfl)) af (aJ _))))) (aw (bj (bL K ED ES ET bR (pv 2) (ae (bG (ae (pv 3) (ae (bG (ae (pv 6) (ae (aA de (ao (az K) (pv 1) af (λ_ _=>rfl)) af) aa))) aa))) aa)))) aQ)
   (aw (cJ (PW.pt (bJ (aN bH (pv 5) aU (aJ _)) (b9 (PW.pt (eT (aN bH (pv 5) aU (aJ _)) (fS (aN bH (ao (az K) (pv 1) af (λ_ _=>rfl)) af (aJ _)))))))) (aw (bj (bL K ED ES ET bR (pv 2) (ae (bG (ae (pv 3) (ae (bG (ae (pv 6) (ae (ao (az K) (pv 1) af (λ_ _=>rfl)) aa))) aa))) aa)))) aQ)))) aQ)))
   (aw (aD (pv 2))))),?_⟩
 walk_at"";refine aO λf H1 F hf hfn=>?_;walk_at"";refine ay (ah.of (F _ _ X)) (v:=.ref t) rfl ?_;walk_at"";refine u4 (ah.of (F _ _ O)) ?_;refine wQ (xs:=bs.map V.ref) (λi σ H'=>∃k1 k2 k3 G k5,σ=[Vn (.ref W),Vn (.ref p),Vn (.ref f),k1,k2,k3,G,k5]/\BL H H' f (c7 ws r n i)) ⟨Vo,Vo,Vo,Vo,Vo,rfl,F,[],hf,.nil⟩ (λi σ H' _ h=>by obtain⟨_,_,_,_,_,_,bl⟩:=h;exact ah.of (bl.ext _ _ O)) ?_ ?_
 .rintro i u σ H2 pp H3 S ⟨k1,k2,k3,G,k5,rfl,B⟩ e3 I _;rw[Ey]at S;obtain⟨b,hb,rfl⟩:=EH.mp S;have hi:i<ws.length:=by rw[<-al.1];exact(EE.mp hb).1
  have o:ws[i]?=Vn ws[i]:=Ex hi;have bl:=B.step e3;have U:=bl.ext _ _ (al.2 i b _ hb o);have g:=bl.ext _ _ Z;have C:=(ok.ok _ (EX hi)).dd;rw[Cw o];have hlen:=nM ws r n i;generalize c7 ws r n i=ts at bl hlen;clear B o;generalize ws[i]=w at U C ⊢;obtain⟨room,deed,other,sign⟩:=w;refine eS (ah.of I) rfl ?_;walk_at"";refine eS (ah.of U) rfl ?_;walk_at"";refine cD ?_;walk_at"";refine ay (ah.of g) (v:=.int r) rfl ?_;walk_at"";by_cases k:room=r
  rotate_left
  .rw[Fp k];refine ax ?_;walk_at"";refine⟨_,_,_,_,_,rfl,?_⟩;rw[tO k,List.append_nil];exact bl
  .rw[Fq k];refine aC ?_;rcases C with e|e|e|e<;>(simp only at e;subst e)
   .rw[gF k (jo n)];walk_at"";refine cD ?_;walk_at"";refine cb ?_;rw[fU];refine rd_exb (aC ?_);walk_at"";refine⟨bl.ty (Ext.rfl' _),?_⟩;walk_at"";refine ay (ah.of g) (v:=.int n) rfl ?_;walk_at"";refine aO λd J s hd _=>?_;walk_at"";refine aO λc x j y _=>?_;walk_at"";obtain⟨xs,z,A,a⟩:=bl.push hfn (s.trans j) (j _ _ hd) y;refine bN z (dE (by lia)) ?_;generalize upd x f _=L at a ⊢;walk_at"";refine cD ?_;walk_at"";refine cb ?_;rw[rj];refine rd_exb (ax ?_);refine ax ?_;walk_at"";refine cD ?_;walk_at"";refine cb ?_;rw[BJ];refine rd_exb (ax ?_);walk_at"";refine cb ?_;rw[wo];refine rd_exb (ax ?_);refine ax ?_;walk_at"";exact⟨_,_,_,_,_,rfl,a⟩
   .walk_at"";refine cD ?_;walk_at"";refine cb ?_;rw[qg];refine rd_exb (ax ?_);walk_at"";refine cD ?_;walk_at"";refine cb ?_;rw[fU];refine rd_exb (aC ?_);walk_at"";refine ay (ah.of g) (v:=.int n) rfl ?_;walk_at"";by_cases l:0<n
    .rw[Fq l];refine aC ?_;walk_at"";refine⟨bl.ty (Ext.rfl' _),?_⟩;walk_at"";refine ay (ah.of g) (v:=.int n) rfl ?_;walk_at"";refine aO λd J s hd _=>?_;walk_at"";refine aO λc x j y _=>?_;walk_at"";obtain⟨xs,z,A,a⟩:=bl.push hfn (s.trans j) (j _ _ hd) y;refine bN z (dE (by lia)) ?_;generalize upd x f _=L at a ⊢;walk_at"";refine cD ?_;walk_at"";refine cb ?_;rw[wj];refine rd_exb (ax ?_);walk_at"";refine cb ?_;rw[tj];refine rd_exb (ax ?_);refine ax ?_;walk_at"";refine⟨_,_,_,_,_,rfl,?_⟩;rw[gF k (ia n),Fq l];exact a
    .rw[Fp l];refine ax ?_;walk_at"";refine cD ?_;walk_at"";refine cb ?_;rw[wj];refine rd_exb (ax ?_);walk_at"";refine cb ?_;rw[tj];refine rd_exb (ax ?_);refine ax ?_;walk_at"";refine⟨_,_,_,_,_,rfl,?_⟩;rw[gF k (ia n),Fp l];simpa using bl
   .walk_at"";refine cD ?_;walk_at"";refine cb ?_;rw[vW];refine rd_exb (ax ?_);walk_at"";refine cD ?_;walk_at"";refine cb ?_;rw[oa];refine rd_exb (ax ?_);refine ax ?_;walk_at"";refine cD ?_;walk_at"";refine cb ?_;rw[fU];refine rd_exb (aC ?_);refine aC ?_;walk_at"";refine⟨bl.ty (Ext.rfl' _),?_⟩;walk_at"";refine ay (ah.of g) (v:=.int n) rfl ?_;walk_at"";refine aO λd J s hd _=>?_;walk_at"";refine aO λc x j y _=>?_;walk_at"";obtain⟨xs,z,A,a⟩:=bl.push hfn (s.trans j) (j _ _ hd) y;refine bN z (dE (by lia)) ?_;generalize upd x f _=L at a ⊢;walk_at"";refine⟨_,_,_,_,_,rfl,?_⟩;rw[gF k (ju n)];exact a
   .walk_at"";refine cD ?_;walk_at"";refine cb ?_;rw[vR];refine rd_exb (ax ?_);walk_at"";refine cD ?_;walk_at"";refine cb ?_;rw[mh];refine rd_exb (ax ?_);refine ax ?_;walk_at"";refine cD ?_;walk_at"";refine cb ?_;rw[tH];refine rd_exb (ax ?_);walk_at"";refine cb ?_;rw[fU];refine rd_exb (aC ?_);walk_at"";refine ay (ah.of g) (v:=.int n) rfl ?_;walk_at"";by_cases l:n=0
    .rw[Fq l];refine aC ?_;walk_at"";refine⟨bl.ty (Ext.rfl' _),?_⟩;walk_at"";refine ay (ah.of g) (v:=.int n) rfl ?_;walk_at"";refine aO λd J s hd _=>?_;walk_at"";refine aO λc x j y _=>?_;walk_at"";obtain⟨xs,z,A,a⟩:=bl.push hfn (s.trans j) (j _ _ hd) y;refine bN z (dE (by lia)) ?_;generalize upd x f _=L at a ⊢;walk_at"";refine⟨_,_,_,_,_,rfl,?_⟩;rw[gF k (iq n),Fq l];exact a
    .rw[Fp l];refine ax ?_;walk_at"";refine⟨_,_,_,_,_,rfl,?_⟩;rw[gF k (iq n),Fp l];simpa using bl
 .rintro σ H' ⟨k1,k2,k3,G,k5,rfl,bl⟩;rw[Ew,al.1]at bl;obtain⟨ew,cs,M,N⟩:=bl;walk_at"";exact q f H' cs ew hfn M N
def zq{α:Type}{l:List α}(b:l.Nodup){i j:Nat}{a:α}(hi:l[i]?=Vn a)(e:l[j]?=Vn a):i=j:=by
 obtain⟨h1,c⟩:=EE.mp hi;obtain⟨h2,d⟩:=EE.mp e;rcases Nat.lt_trichotomy i j with z|z|z
 .exact absurd (c.trans d.symm) (List.pairwise_iff_getElem.mp b i j h1 h2 z)
 .exact z
 .exact absurd (d.trans c.symm) (List.pairwise_iff_getElem.mp b j i h2 h1 z)
def eo(ws:List Way)(r:Int)(k:Nat):List Nat:=(Fo k).filter λj=>(ws[j]?).any λw=>decide (w.room=r)
def Bo{i:Nat}{w:Way}(h:ws[i]?=Vn w):eo ws r (i+1)=eo ws r i++if w.room=r then[i]else[]:=by
 unfold eo;rw[List.range_succ,List.filter_append];congr 1;simp only[List.filter_cons,List.filter_nil,h,Option.any_some];by_cases e:w.room=r
 .rw[Fq e,Ft rfl,Ft e]
 .rw[Fp e,Fs (by decide),Fs e]
def BI(ws:List Way)(r:Int)(k:Nat):(eo ws r k).length<=k:=by unfold eo;exact E4 (List.length_filter_le _ _) (Nat.le_of_eq List.length_range)
def BO{j:Nat}{w:Way}(h:ws[j]?=Vn w)(e:w.room=r):j∈eo ws r ws.length:=by unfold eo;rw[List.mem_filter,List.mem_range,h];exact⟨(EE.mp h).1,by simp[e]⟩
def BN{j:Nat}(h:j∈eo ws r ws.length):∃w,ws[j]?=Vn w/\w.room=r:=by unfold eo at h;rw[List.mem_filter,List.mem_range]at h;have e:=Ex h.1;rw[e]at h;exact⟨_,e,by simpa using h.2⟩
def fm(h:n<=24100):n<sizeLine:=Nat.lt_of_le_of_lt h (by decide)
abbrev cj(l:List Nat):List V:=l.map λj:Nat=>V.int (j:Int)
def qv(l:List Nat)(k:Nat):cj (l++[k])=cj l++[.int (k:Int)]:=EM
structure CT(H:Hp)(c:Vb)(m:Int)(ls:List Vb)(ws:List Way)(k:Nat):Prop where
 at_:H c=Vn (.lst (List.map V.ref ls))
 len:ls.length=m.toNat
 nd:ls.Nodup
 it:∀(r:Nat) (l:Vb),ls[r]?=Vn l->H l=Vn (.lst (cj (eo ws r k)))
def CT.ext{c:Vb}{ls:List Vb}{k:Nat}(e:Ext H H')(h:CT H c m ls ws k):CT H' c m ls ws k:=
 ⟨e _ _ h.at_,h.len,h.nd,λr l a=>e _ _ (h.it r l a)⟩
inductive vH(K:Eo)(vs:List V)(H:Hp)(Q:VK)(E:XK):Prop|mk:∀v m ws,vs=[v]->bh H v m ws->HOuse m ws->(∀c ls H',Ext H H'->CT H' c m ls ws ws.length->Q (.ref c) H')->vH K vs H Q E
theorem xq(T:Bu w mg base):Cal P w K mg base "counts_by_room" 1 ["house"] (vH K):=by
 refine(ck T.d_counts_by_room).oS ["house","counts","count","way"] λhr nd H vs Q E h=>?_;obtain⟨v,m,ws,rfl,⟨hh,t,rfl,U,g2⟩,ok,q⟩:=h;obtain⟨bs,W,al⟩:=bX.al g2;have X:=ok.few;have m1:=ok.m1;have m2:=ok.m12;refine⟨_,(av (gZ (i:=1) ["room"] [] nd rfl oi (cM rfl T.range_ (ae (ao (az K) (pv 0) af (λ_ _=>rfl)) aa)) (λ_=>(aI (i:=0) (show(["room"]:List Vm).Nodup from by decide +kernel) rfl oi oj)) (λ_=>cz) (λ_=>(bp aa)))
   (av (bt PassesOwn.never rfl (pN K rfl T.enumerate_ (ae (ao (az K) (pv 0) af (λ_ _=>rfl)) aa)) (fh (n:=2) K rfl (br (aI (i:=2) nd rfl oi) (br (aI (i:=3) nd rfl oi) eA))) (aw (bj (bL K ED ES ET bR (ao (aM K) (pv 1) (ao (az K) (pv 3) af (λ_ _=>rfl)) (λ_ _=>rfl)) (ae (pv 2) aa)))))
   (aw (aD (pv 1))))),?_⟩
 walk_at"";refine ay (ah.of U) (v:=.int m) rfl ?_;walk_at"";refine cN ⟨by lia,by lia⟩ ?_;refine gG (λi ys H'=>Ext H H'/\∃ls:List Vb,ys=List.map V.ref ls/\ls.length=i/\ls.Nodup/\∀l∈ls,H' l=Vn (.lst [])/\H l=Vo) (dQ (by lia)) ⟨Ext.rfl' _,[],rfl,rfl,List.nodup_nil,λl h=>by cases h⟩ (λi ys H' _ h=>by obtain⟨_,ls,rfl,g,_⟩:=h;rw[Ew,g];exact ER _) ?_ ?_
 .rintro i ys H' hi ⟨e,ls,rfl,g,k,hls⟩;walk_at"";refine aC ?_;walk_at"";refine aO λl H1 Y N o=>?_;refine⟨e.trans Y,ls++[l],by rw[EM];rfl,by rw[EN,g];rfl,?_,?_⟩
  .rw[List.nodup_append];refine⟨k,by simp,λa ha b hb z=>?_⟩;have:b=l:=by simpa using hb
   subst this;subst z;rw[(hls a ha).1]at o;cases o
  .intro a ha;rcases EU.mp ha with z|z
   .exact⟨Y _ _ (hls a z).1,(hls a z).2⟩
   .have:a=l:=by simpa using z
    subst this;exact⟨N,e.none o⟩
 .rintro ys H1 c ⟨e,ls,rfl,g,k,hls⟩ J;walk_at"";have L:Ext H (upd H1 c (.lst (List.map V.ref ls))):=e.trans (a8 J);have a1:H c=Vo:=e.none J;have B:CT (upd H1 c (.lst (List.map V.ref ls))) c m ls ws 0:=⟨aK,g,k,λr l g=>by have:=(hls l (EF g)).1;rw[aF (b0 this J)];exact this⟩
  have hcl:∀l∈ls,H l=Vo:=λl h=>(hls l h).2;generalize upd H1 c (.lst (List.map V.ref ls))=H2 at L B ⊢;clear hls J e H1;refine ay (ah.of (L _ _ U)) (v:=.ref t) rfl ?_;walk_at"";refine u4 (ah.of (L _ _ W)) ?_;refine wQ (xs:=bs.map V.ref) (λi σ H'=>∃k1 k2,σ=[Vn (.ref hh),Vn (.ref c),k1,k2]/\Ext H H'/\CT H' c m ls ws i) ⟨Vo,Vo,rfl,L,B⟩ (λi σ H' _ h=>by obtain⟨_,_,_,e,_⟩:=h;exact ah.of (e _ _ W)) ?_ ?_
  .rintro i u σ H3 pp H4 Z ⟨k1,k2,rfl,O,C⟩ e4 R _;rw[Ey]at Z;obtain⟨b,hb,rfl⟩:=EH.mp Z;have hi:i<ws.length:=by rw[<-al.1];exact(EE.mp hb).1
   have p:ws[i]?=Vn ws[i]:=Ex hi;have F:=O.trans e4;have ct:=C.ext e4;have s:=ok.ok _ (EX hi);have hw:=F _ _ (al.2 i b _ hb p);have G:=λr:Nat=>Bo (r:=(r:Int)) p;clear C;generalize ws[i]=w at hw s G p;have r0:=s.r0;have r1:=s.r1;have S:w.room.toNat<ls.length:=by rw[ct.len];lia
   have d:ls[w.room.toNat]?=Vn ls[w.room.toNat]:=Ex S;generalize ls[w.room.toNat]=l at d;have g:=ct.it _ _ d;have hlen:=BI ws (w.room.toNat:Nat) i;refine eS (ah.of R) rfl ?_;walk_at"";refine ay (ah.of hw) (v:=.int w.room) rfl ?_;refine aL (ag.of ct.at_) (v:=.ref l) ?_ ?_
   .refine dZ r0 ?_;rw[Ey,d];rfl
   refine⟨df (ag.of g),?_⟩;walk_at"";refine bN g (dE (by rw[Ew];lia)) ?_;have lc:l≠c:=bZ g ct.at_ (λz=>by
    have M:=HO.lst.inj z;have A:=congrArg List.length M;cases I:eo ws (w.room.toNat:Nat) i with
    | nil=>
     rw[I]at A;rw[Ew,Ew]at A;have:ls.length=0:=A.symm;lia
    | cons a r=>
     rw[I]at M;cases ls with
     | nil=>cases M
     | cons x y=>cases(List.cons.inj M).1)
   walk_at"";refine⟨_,_,rfl,bK F (hcl l (EF d)),?_⟩;refine⟨by rw[aF lc.symm];exact ct.at_,ct.len,ct.nd,λr l' j=>?_⟩;rw[G r];by_cases er:r=w.room.toNat
   .subst er;rw[d]at j;cases j;rw[aK,Ft (by lia),qv]
   .have nl:l'≠l:=λz=>er (by subst z;exact zq ct.nd j d)
    rw[aF nl,Fs (by lia),List.append_nil];exact ct.it r l' j
  .rintro σ H' ⟨k1,k2,rfl,O,ct⟩;rw[Ew,al.1]at ct;walk_at"";exact q c ls H' O ct
def bS(m:Int)(x g:Bfs.Pl):Int:=(if g.2>x.2 then g.2 else x.2)+m*m
inductive oP(K:Eo)(vs:List V)(H:Hp)(Q:VK)(E:XK):Prop|mk:∀v m ws a b x g,vs=[v,.ref a,.ref b]->bh H v m ws->HOuse m ws->aE H a x->aE H b g->Q (.int (bS m x g)) H->oP K vs H Q E
def Ai(T:Bu w mg base):Cal P w K mg base "greatest_met" 1 ["house","place","goal"] (oP K):=by
 refine(ef T.d_greatest_met).oS ["house","place","goal"] λi nd H vs Q E h=>?_;obtain⟨v,m,ws,a,b,x,g,rfl,⟨j,t,rfl,c,k⟩,ok,d,e,q⟩:=h;have m1:=ok.m1;have l:=ok.m12;refine⟨_,(aw (aD (aA aV (aS (jC rfl) rfl T.max_ PyProof.Rows.boot_max (ae (ao (az K) (pv 1) af (λ_ _=>rfl)) (ae (ao (az K) (pv 2) af (λ_ _=>rfl)) aa))) (aA eJ (ao (az K) (pv 0) af (λ_ _=>rfl)) (ao (az K) (pv 0) af (λ_ _=>rfl)))))),?_⟩;walk_at"";refine ay (ah.of d) (v:=.int x.2) rfl ?_;walk_at"";refine ay (ah.of e) (v:=.int g.2) rfl ?_;walk_at"";refine ay (ah.of c) (v:=.int m) rfl ?_;walk_at"";refine ay (ah.of c) (v:=.int m) rfl ?_;walk_at""
 try refine rd_I (.inl ⟨by omega,by omega⟩) ?_
 walk_at"";exact q
def bf(ws:List Way)(T:Int)(x:Bfs.Pl)(k:Nat):Option Bfs.Pl:=
 (ws[k]?).bind λw=>if w.room=x.1 then(cK w.deed x.2).bind λn=>if n<=T then Vn (w.other,n)else Vo else Vo
def iR:rz "up" = 1:=by decide +kernel
def jU:rz "down" = -1:=by decide +kernel
def jB:rz "stay" = 0:=by decide +kernel
def lL:rz "zero" = 0:=by decide +kernel
theorem uH{n a:Int}(b:bY z)(h:cK z n=Vn a):a=n+rz z:=by
 rcases b with e|e|e|e<;>rw[e]at h ⊢
 .rw[jo]at h;rw[iR];cases h;rfl
 .rw[ia]at h;rw[jU];split at h
  .cases h;lia
  .cases h
 .rw[ju]at h;rw[jB];cases h;lia
 .rw[iq]at h;rw[lL];split at h
  .cases h;lia
  .cases h
def m5{w:Way}(a:bY w.deed)(x:Bfs.Pl):cI w x.1 x.2=true↔w.room=x.1/\cK w.deed x.2=Vn (x.2+rz w.deed):=by
 unfold cI;rcases a with e|e|e|e<;>rw[e]
 .rw[rj,wo,jo,iR];simp
 .rw[fU,ia,jU];by_cases h:0<x.2
  .rw[Fq h];simp[Int.sub_eq_add_neg]
  .rw[Fp h];simp
 .rw[oa,Fp (show ¬(Fb "stay")=Fb "zero" by decide +kernel),ju,jB];simp
 .rw[mh,fU,iq,lL];by_cases h:x.2=0
  .rw[Fq h];simp
  .rw[Fp h];simp
def zJ{x:Bfs.Pl}{k:Nat}{w:Way}(h:ws[k]?=Vn w)(a:bY w.deed)(ho:cI w x.1 x.2=true)(b:x.2+rz w.deed<=T):bf ws T x k=Vn (w.other,x.2+rz w.deed):=by obtain⟨h1,h2⟩:=(m5 a x).mp ho;unfold bf;rw[h,E2,Ft h1,h2,E2,Ft b]
def i4{x:Bfs.Pl}{k:Nat}(h:bf ws T x k=Vn y):∃w,ws[k]?=Vn w/\w.room=x.1/\cK w.deed x.2=Vn y.2/\y.1=w.other/\y.2<=T:=by
 unfold bf at h;obtain⟨w,a,h⟩:=Option.bind_eq_some_iff.mp h;split at h
 .rename_i hr;obtain⟨n,b,h⟩:=Option.bind_eq_some_iff.mp h;split at h
  .rename_i ht;cases h;exact⟨w,a,hr,b,rfl,ht⟩
  .cases h
 .cases h
def rR{x:Bfs.Pl}{k:Nat}{w:Way}(d:ws[k]?=Vn w)(b:bY w.deed)(h:bf ws T x k=Vn y):cI w x.1 x.2=true/\y=(w.other,x.2+rz w.deed)/\x.2+rz w.deed<=T:=by obtain⟨i,a,g,hs,ho,c⟩:=i4 h;rw[d]at a;cases a;have e:=uH b hs;rw[e]at c hs;exact⟨(m5 b x).mpr ⟨g,hs⟩,Prod.ext ho e,c⟩
theorem xf{n a:Int}(c:bY z)(b:0<=n)(h:cK z n=Vn a):0<=a:=by
 rcases c with e|e|e|e<;>rw[e]at h
 .rw[jo]at h;cases h;lia
 .rw[ia]at h;split at h
  .rename_i g;have:=of_decide_eq_true g;cases h;lia
  .cases h
 .rw[ju]at h;cases h;exact b
 .rw[iq]at h;split at h
  .cases h;exact b
  .cases h
def gr(H:Hp)(v:V):Option (Bfs.Pl×Nat)->Prop
 | none=>v=.non
 | some (p,k)=>∃a b,v=.ref a/\H a=Vn (.tup [.ref b,.int (k:Int)])/\aE H b p
def gr.ext(e:Ext H H'){o:Option (Bfs.Pl×Nat)}(h:gr H v o):gr H' v o:=by
 cases o with
 | none=>exact h
 | some d=>
  obtain⟨a,b,h1,h2,c⟩:=h;exact⟨a,b,h1,e _ _ h2,e _ _ c⟩
theorem gr.put{H:Hp}{f:Vb}{u e:HO}(c:H f=Vn u)(d:∀xs,u≠.tup xs){v:V}{o:Option (Bfs.Pl×Nat)}(h:gr H v o):gr (upd H f e) v o:=by
 cases o with
 | none=>exact h
 | some i=>
  obtain⟨a,b,h1,h2,g⟩:=h;exact⟨a,b,h1,by rw[aF (bZ h2 c (λz=>d _ z.symm))];exact h2,aE.put c d g⟩
abbrev l9(H:Hp)(kv:List Key×V)(e:Bfs.Ent):Prop:=kv.1=aZ e.1/\gr H kv.2 e.2.2
abbrev zD(H:Hp)(a:Vb)(e:Bfs.Ent):Prop:=aE H a e.1
section
variable {β:Type} {F:List Key×V->β->Prop} {key:β->Bfs.Pl} {kvs:List (List Key×V)} {q:List β}
def hZ(d:∀kv e,F kv e->kv.1=aZ (key e))(h:Paired F kvs q){x:Bfs.Pl}(c:x∉q.map key):bV kvs (aZ x)=Vo:=by
 induction h with
 | nil=>rfl
 | @cons a b as bs h t g=>
  rw[List.map_cons,EK,not_or]at c;rw[jP (λz=>c.1 (vj (z.symm.trans (d _ _ h))))];exact g c.2
def gE(c:∀kv e,F kv e->kv.1=aZ (key e))(h:Paired F kvs q)(nd:(q.map key).Nodup){e:β}(d:e∈q):∃v,bV kvs (aZ (key e))=Vn v/\F (aZ (key e),v) e:=by
 induction h with
 | nil=>cases d
 | @cons a b as bs h t i=>
  rw[List.map_cons,List.nodup_cons]at nd;rcases EK.mp d with z|z
  .subst z;have g:=c _ _ h;refine⟨a.2,kK g,?_⟩;rw[<-g];exact h
  .obtain⟨v,h1,h2⟩:=i nd.2 z;refine⟨v,?_,h2⟩;rw[jP (λw=>nd.1 ?_)]
   .exact h1
   .rw[vj ((c _ _ h).symm.trans w)];exact List.mem_map.mpr ⟨e,z,rfl⟩
end
structure FF(H0 H:Hp)(f rw:Vb)(q:List Bfs.Ent):Prop where
 ext:Ext H0 H
 fn:H0 f=Vo
 rn:H0 rw=Vo
 d:∃kvs,H f=Vn (.dT kvs)/\Paired (l9 H) kvs q
 r:∃as,H rw=Vn (.lst (List.map V.ref as))/\Paired (zD H) as q
def FF.step{f rw:Vb}{q:List Bfs.Ent}(h:FF H0 H f rw q)(e:Ext H H1):FF H0 H1 f rw q:=by obtain⟨h1,h2,a,⟨kvs,b,c⟩,as,d,g⟩:=h;exact⟨h1.trans e,h2,a,⟨kvs,e _ _ b,Paired.mapP c λ_ _ z=>⟨z.1,z.2.ext e⟩⟩,as,e _ _ d,Paired.mapP g λ_ _ z=>e _ _ z⟩
def FF.push{f rw t b:Vb}{q:List Bfs.Ent}{p:Bfs.Pl}{k:Nat}(h:FF H0 H f rw q)(o:y∉q.map (·.1))(i:aE H th y)(hb:aE H b p)(r:H t=Vn (.tup [.ref b,.int (k:Int)])):
  ∃kvs,H f=Vn (.dT kvs)/\kvs.length=q.length/\∃as,upd H f (.dT (putK kvs (aZ y) (.ref t))) rw=Vn (.lst (List.map V.ref as))/\as.length=q.length ∧
   FF H0 (upd (upd H f (.dT (putK kvs (aZ y) (.ref t)))) rw (.lst (List.map V.ref as++[.ref th]))) f rw (q++[(y,d,Vn (p,k))]):=by
 obtain⟨h1,h2,l,⟨kvs,c,j⟩,as,m,n⟩:=h;have e:∀xs,(HO.dT kvs)≠.tup xs:=λxs z=>by cases z
 have g:∀xs,(HO.lst (List.map V.ref as))≠.tup xs:=λxs z=>by cases z
 have ne:rw≠f:=bZ m c (by intro z;cases z);have a:upd H f (.dT (putK kvs (aZ y) (.ref t))) rw=Vn (.lst (List.map V.ref as)):=by rw[aF ne];exact m
 have s:gr H (.ref t) (Vn (p,k)):=⟨t,b,rfl,r,hb⟩;refine⟨kvs,c,Paired.length j,as,a,Paired.length n,bK (bK h1 h2) l,h2,l,⟨kvs++[(aZ y,.ref t)],?_,?_⟩,as++[th],?_,?_⟩
 .rw[aF ne.symm,aK,lQ _ (hZ (λ_ _ z=>z.1) j o)]
 .exact Paired.snoc (Paired.mapP j λ_ _ z=>⟨z.1,(z.2.put c e).put a g⟩) ⟨rfl,(s.put c e).put a g⟩
 .rw[aK,EM];rfl
 .exact Paired.snoc (Paired.mapP n λ_ _ z=>aE.put a g (aE.put c e z)) (aE.put a g (aE.put c e i))
def bD(m T:Int)(x:Bfs.Pl):Prop:=0<=x.1/\x.1<m/\0<=x.2/\x.2<=T
theorem bD.few{l:List Bfs.Pl}(j:m<=12)(e:T<=2000)(g:l.Nodup)(h:∀x∈l,bD m T x):l.length<=24012:=
 Bfs.Cr e g λx i=>by obtain⟨a,b,c,d⟩:=h x i;exact⟨a,by lia,c,d⟩
def l8(ok:HOuse m ws){x:Bfs.Pl}{k:Nat}(b:0<=x.2)(h:bf ws T x k=Vn y):bD m T y:=by obtain⟨w,c,e,hs,ho,d⟩:=i4 h;have a:=ok.ok w (EF c);exact⟨by rw[ho];exact a.o0,by rw[ho];exact a.o1,xf a.dd b hs,d⟩
def vT(H1:Hp)(ws:List Way)(m T:Int)(x:Bfs.Pl)(v:V)(pa ga c f rw:Vb)(M:Nat)(σ:St)(H':Hp):Prop:=
 ∃q i B k1 k2 k3 a,σ=[Vn v,Vn (.ref pa),Vn (.ref ga),Vn (.int T),Vn (.ref c),Vn (.ref f),Vn (.ref rw),Vn (.int ((i:Nat):Int)),k1,k2,k3,a]/\FF H1 H' f rw q/\Bfs.QI (bf ws T) x q i B/\(∀e∈q,bD m T e.1)/\i<=q.length/\M+i=24013
def CU(H1:Hp)(ws:List Way)(T:Int)(x g:Bfs.Pl)(v:V)(pa ga c f rw:Vb)(σ:St)(H':Hp):Prop:=
 ∃q i B k0 k1 k2 k3 a,σ=[Vn v,Vn (.ref pa),Vn (.ref ga),Vn (.int T),Vn (.ref c),Vn (.ref f),Vn (.ref rw),k0,k1,k2,k3,a]/\FF H1 H' f rw q/\Bfs.QI (bf ws T) x q i B/\q.length<=24012/\(i=q.length\/g∈q.map (·.1))
def DY(H1:Hp)(ws:List Way)(m T:Int)(x:Bfs.Pl)(v:V)(pa ga c f rw b:Vb)(i:Nat)(h:Bfs.Ent)(ks:List Nat)(j:Nat)(σ:St)(H':Hp):Prop:=
 ∃q k1 k2 k3,σ=[Vn v,Vn (.ref pa),Vn (.ref ga),Vn (.int T),Vn (.ref c),Vn (.ref f),Vn (.ref rw),Vn (.int ((i:Nat):Int)),Vn (.ref b),k1,k2,k3]/\FF H1 H' f rw q/\Bfs.QF (nx:=bf ws T) (s:=x) q (i-1) h ks j/\(∀e∈q,bD m T e.1)/\aE H' b h.1
theorem qX{x g:Bfs.Pl}(b:0<=m)(a:m<=12)(c:x.2<=1000)(d:g.2<=1000):bS m x g<=2000:=by unfold bS;have:m*m<=12*12:=Int.mul_le_mul a a b (by decide);split<;>lia
theorem tP{x g:Bfs.Pl}(a:0<=m):x.2<=bS m x g/\g.2<=bS m x g:=by unfold bS;have:0<=m*m:=E1 a a;split<;>constructor<;>lia
inductive qG(K:Eo)(vs:List V)(H:Hp)(Q:VK)(E:XK):Prop|mk:∀v m ws a ga x g,vs=[v,.ref a,.ref ga]->bh H v m ws->HOuse m ws->aE H a x->aE H ga g->cA m x->cA m g->(∀f H' kvs q i B,Ext H H'->H' f=Vn (.dT kvs)->Paired (l9 H') kvs q->Bfs.QI (bf ws (bS m x g)) x q i B->q.length<=24012->(i=q.length\/g∈q.map (·.1))->Q (.ref f) H')->qG K vs H Q E
theorem BP(T:Bu w mg base):Cal P w K mg base "found_from" 3 ["house","place","goal"] (qG K):=by
 refine(ef T.d_found_from).oS ["house","place","goal","greatest","counts","found","row","looked","here","count","way","there"] λA nd H vs Q E h=>?_;obtain⟨v,m,ws,pa,ga,x,g,rfl,hv,ok,hx,hg,ix,ig,q⟩:=h;have m1:=ok.m1;have m2:=ok.m12;have bi:=ok.few;have hT:=qX (m:=m) (x:=x) (g:=g) (by lia) m2 ix.2.2.2 ig.2.2.2;have a6:=(tP (m:=m) (x:=x) (g:=g) (by lia)).1;refine⟨_,(av (aG (i:=3) nd rfl oi (aB (Ai T) A (ae (pv 0) (ae (pv 1) (ae (pv 2) aa)))))
   (av (aG (i:=4) nd rfl oi (aB (xq T) A (ae (pv 0) aa)))
   (av (aG (i:=5) nd rfl oi (m3 (dM A) (pv 1) jg))
   (av (aG (i:=6) nd rfl oi (bp (ae (pv 1) aa)))
   (av (aG (i:=7) nd rfl oi af)
   (av (fA PassesOwn.never (PW.pt (eT (aN dj (pv 7) (aS (cq K) rfl T.len_ PySem.boot_len (ae (pv 6) aa)) (aJ _)) (fS (iO (iH (dM A) (pv 2) (pv 5)) (by with_unfolding_all rfl))))) (av (aG (i:=8) nd rfl oi (ao (aM K) (pv 6) (pv 7) (λ_ _=>rfl)))
   (av (kh (i:=7) nd rfl oi af mU)
   (aw (bt PassesOwn.never rfl (bP K (ao (aM K) (pv 4) (ao (az K) (pv 8) af (λ_ _=>rfl)) (λ_ _=>rfl))) (aI (i:=9) nd rfl oi) (av (aG (i:=10) nd rfl oi (ao (az K) (ao (az K) (pv 0) af (λ_ _=>rfl)) (pv 9) (λ_ _=>rfl)))
   (av (aG (i:=11) nd rfl oi (aB (tV T) A (ae (pv 10) (ae (pv 8) aa))))
   (aw (cJ (PW.pt (eT (a0 (aB (uq T) A (ae (pv 10) (ae (pv 8) aa)))) (eT (aN fu (ao (az K) (pv 11) af (λ_ _=>rfl)) (pv 3) (aJ _)) (fS (iO (iH (dM A) (pv 11) (pv 5)) (by with_unfolding_all rfl)))))) (av (mw (dM A) (pv 5) (pv 11) (bG (ae (pv 8) (ae (pv 9) aa))) rfl)
   (aw (bj (bL K ED ES ET bR (pv 6) (ae (pv 11) aa))))) aQ)))))))))
   (aw (aD (pv 5))))))))),?_⟩
 walk_at"";refine⟨v,m,ws,pa,ga,x,g,rfl,hv,ok,hx,hg,?_⟩;generalize bS m x g=T at q hT a6 ⊢;walk_at"";refine⟨v,m,ws,rfl,hv,ok,λc ls H1 e1 ct=>?_⟩;walk_at"";refine λf hfn=>?_;walk_at"";refine⟨pa,aZ x,rfl,(a8 hfn) _ _ (e1 _ _ hx),aK,?_⟩;walk_at"";refine aO λrw H3 e3 ab ac=>?_;walk_at"";have N:Ext H1 (upd (upd H1 f (.dT [])) f (.dT [(aZ x,.non)])):=λb o hb=>by rw[aF (b0 hb hfn),aF (b0 hb hfn)];exact hb
 have Z:H1 rw=Vo:=N.none ac;have ad:H3 f=Vn (.dT [(aZ x,.non)]):=e3 _ _ aK;have ai:FF H1 H3 f rw [(x,0,Vo)]:=⟨N.trans e3,hfn,Z,⟨_,ad,.cons ⟨rfl,rfl⟩ .nil⟩,[pa],ab,.cons (e3 _ _ (N _ _ (e1 _ _ hx))) .nil⟩;refine fo (vT H1 ws m T x v pa ga c f rw) (CU H1 ws T x g v pa ga c f rw) 24013 ⟨[(x,0,Vo)],0,0,_,_,_,_,rfl,ai,Bfs.QI.begin _ _,?_,by simp,rfl⟩ ?_ ?_
 .intro e J;rw[EG]at J;subst J;exact⟨ix.1,ix.2.1,ix.2.2.1,a6⟩
 .clear ai ad Z N ab ac e3;rintro M σ H4 ⟨O,i,B,k1,k2,k3,k4,rfl,n,qi,hin,hi,hM⟩;have C:O.length<=24012:=by
   have:=bD.few m2 hT qi.nd (λy F=>by obtain⟨e,J,rfl⟩:=List.mem_map.mp F;exact hin e J)
   rwa [Ew]at this
  obtain⟨kvs,hd,R⟩:=n.d;obtain⟨as,A,pr⟩:=n.r;have hal:=Paired.length pr;have aj:aE H4 ga g:=n.ext _ _ (e1 _ _ hg);walk_at"";refine dU (ag.of A) ?_;walk_at"";by_cases hlt:i<O.length
  rotate_left
  .rw[Fp (show ¬((i:Nat):Int)<((List.map V.ref as).length:Nat) by rw[Ew,hal];lia)];refine ax ?_;refine ax ?_;exact⟨O,i,B,_,_,_,_,_,rfl,n,qi,C,.inl (by lia)⟩
  .rw[Fq (show((i:Nat):Int)<((List.map V.ref as).length:Nat) by rw[Ew,hal];lia)];refine aC ?_;walk_at"";refine⟨f,_,rfl,cP.t hd (k:=aZ g) aj,?_⟩;by_cases S:g∈O.map (·.1)
   .obtain⟨e,J,rfl⟩:=List.mem_map.mp S;obtain⟨v1,U,_⟩:=gE (λ_ _ z=>z.1) R qi.nd J;rw[U];refine rd_exb (ax ?_);exact⟨O,i,B,_,_,_,_,_,rfl,n,qi,C,.inr S⟩
   .rw[hZ (λ_ _ z=>z.1) R S];refine rd_exb (aC ?_);refine⟨λap H'=>∃m',m'<M/\vT H1 ws m T x v pa ga c f rw m' ap H',λ_ _ h=>h,?_⟩;have L:=Ex hlt;generalize O[i]=a at L;obtain⟨b,hb,s⟩:=f6 pr L;have W:=qi.look L (eo ws a.1.1 ws.length);have ar:=hin a (EF L);obtain⟨au,bn,b1,bu⟩:=ar;clear qi S aj pr hal R hd;walk_at"";refine aL (ag.of A) (eY (v:=.ref b) (by rw[Ey,hb];rfl)) ?_;walk_at"";refine ay (ah.of s) (v:=.int a.1.1) rfl ?_;walk_at"";have b2:=ct.ext n.ext;have b4:a.1.1.toNat<ls.length:=by rw[ct.len];lia
    have a1:ls[a.1.1.toNat]?=Vn ls[a.1.1.toNat]:=Ex b4;generalize ls[a.1.1.toNat]=l at a1;have a2:=ct.it _ _ a1;rw[show ((a.1.1.toNat:Nat):Int)=a.1.1 by lia]at a2;refine aL (ag.of b2.at_) (v:=.ref l) (dZ au (by rw[Ey,a1];rfl)) ?_;refine bO (ag.of (n.ext _ _ a2)) ?_;obtain⟨hp,ht,rfl,g1,g2⟩:=hv.ext e1;obtain⟨bs,g3,al⟩:=bX.al g2;refine forL (xs:=cj (eo ws a.1.1 ws.length)) (DY H1 ws m T x (.ref hp) pa ga c f rw b (i+1) a (eo ws a.1.1 ws.length)) ?_ (λj σ H' _ h=>?_) ?_ ?_
    .exact⟨O,k2,k3,k4,rfl,n,W,hin,s⟩
    .obtain⟨_,_,_,_,_,b5,_⟩:=h;exact ag.of (b5.ext _ _ a2)
    .clear W n s A L hlt C hin;rintro j u σ H5 hu ⟨q5,c1,c2,c3,rfl,n,W,hin,s⟩;rw[Ey]at hu;obtain⟨k,hk,rfl⟩:=EH.mp hu;obtain⟨w,hw,b7⟩:=BN (EF hk);have X:=ok.ok w (EF hw);have b8:k<bs.length:=by rw[al.1];exact(EE.mp hw).1
     have a3:=Ex b8;generalize bs[k]=bk at a3;have ak:=al.2 k bk w a3 hw;have C:q5.length<=24012:=by
      have:=bD.few m2 hT W.nd (λy F=>by obtain⟨e,J,rfl⟩:=List.mem_map.mp F;exact hin e J)
      rwa [Ew]at this
     walk_at"";refine ay (ah.of (n.ext _ _ g1)) (v:=.ref ht) rfl ?_;walk_at"";refine ay (ah.of (n.ext _ _ g3)) (v:=.ref bk) (eY (by rw[Ey,a3];rfl)) ?_;walk_at"";refine⟨bk,w,b,a.1,rfl,n.ext _ _ ak,X.dd,s,λth H6 e6 Y bl=>?_⟩;have G:=n.step e6;have I:aE H6 b a.1:=e6 _ _ s;clear n s;walk_at"";refine cD ?_;walk_at"";refine⟨bk,w,b,a.1,rfl,G.ext _ _ ak,I,?_⟩;refine rd_exb ?_;cases ho:cI w a.1.1 a.1.2 with
     | false=>
      refine ax ?_;refine ax ?_;walk_at"";exact⟨q5,_,_,_,rfl,G,W.skip hk (λy F=>by rw[(rR hw X.dd F).1]at ho;cases ho),hin,I⟩
     | true=>
      refine aC ?_;walk_at"";refine ay (ah.of Y) (v:=.int (a.1.2+rz w.deed)) rfl ?_;walk_at"";by_cases hle:a.1.2+rz w.deed<=T
      rotate_left
      .rw[Fp hle];refine ax ?_;refine ax ?_;walk_at"";exact⟨q5,_,_,_,rfl,G,W.skip hk (λy F=>absurd (rR hw X.dd F).2.2 hle),hin,I⟩
      .rw[Fq hle];refine aC ?_;walk_at"";have F:=zJ (T:=T) hw X.dd ho hle;obtain⟨kvs,hd,R⟩:=G.d;refine⟨f,_,rfl,cP.t hd (k:=aZ (w.other,a.1.2+rz w.deed)) Y,?_⟩;by_cases p:(w.other,a.1.2+rz w.deed)∈q5.map (·.1)
       .obtain⟨e,J,ba⟩:=List.mem_map.mp p;obtain⟨v1,U,_⟩:=gE (λ_ _ z=>z.1) R W.nd J;rw[ba]at U;rw[U];refine rd_exb (ax ?_);walk_at"";exact⟨q5,_,_,_,rfl,G,W.skip hk (λy am=>by rw[F]at am;cases am;exact p),hin,I⟩
       .rw[hZ (λ_ _ z=>z.1) R p];refine rd_exb (aC ?_);clear R hd;walk_at"";refine aO λt H7 e7 bb _=>?_;walk_at"";obtain⟨kvs,hd,bv,as,a4,hal,bc⟩:=(G.step e7).push (d:=a.2.1+1) p (e7 _ _ Y) (e7 _ _ I) bb;have be:=aE.put (o':=.lst (List.map V.ref as++[.ref th])) a4 (λxs z=>by cases z) (aE.put (o':=.dT (putK kvs (aZ (w.other,a.1.2+rz w.deed)) (.ref t))) hd (λxs z=>by cases z) (e7 _ _ I));refine⟨f,_,rfl,g7.t hd (k:=aZ (w.other,a.1.2+rz w.deed)) (e7 _ _ Y) (fm (by lia)),?_⟩;walk_at"";refine⟨df (ag.of a4),?_⟩;walk_at"";refine bN a4 (fm (by rw[Ew];lia)) ?_;refine⟨_,_,_,_,rfl,bc,W.add hk F p,?_,be⟩;intro e J;rcases EU.mp J with z|z
        .exact hin e z
        .rw[EG]at z;subst z;exact l8 ok b1 F
    .rintro σ H5 ⟨q5,c1,c2,c3,rfl,bg,a5,an,bm⟩;rw[Ew]at a5;refine⟨M-1,by lia,q5,i+1,a.2.1,_,_,_,_,rfl,bg,a5.next (λk y F=>?_),an,?_,by lia⟩
     .obtain⟨w,hw,A,_⟩:=i4 F;exact BO hw A
     .have:=(EE.mp a5.at_).1;lia
 .rintro σ H4 ⟨O,i,B,k0,k1,k2,k3,k4,rfl,n,qi,C,hend⟩;obtain⟨kvs,hd,R⟩:=n.d;walk_at"";exact q f H4 kvs O i B (e1.trans n.ext) hd R qi C hend
inductive wW(K:Eo)(vs:List V)(H:Hp)(Q:VK)(E:XK):Prop|mk:∀(f ga:Vb) (kvs:List (List Key×V)) (q:List Bfs.Ent) (nx:Bfs.Pl->Nat->Option Bfs.Pl) (s:Bfs.Pl) (i B:Nat) (e:Bfs.Ent),vs=[.ref f,.ref ga]->H f=Vn (.dT kvs)->Paired (l9 H) kvs q->Bfs.QI nx s q i B->aE H ga e.1->e∈q->e.2.1<=24012->(∀l H' ks,Ext H H'->H' l=Vn (.lst (cj ks))->H l=Vo->ks.length=e.2.1->Bfs.gone (nx:=nx) s ks=Vn e.1->Q (.ref l) H')->wW K vs H Q E
def wX(H:Hp)(f ga l:Vb)(q:List Bfs.Ent)(nx:Bfs.Pl->Nat->Option Bfs.Pl)(e:Bfs.Ent)(M:Nat)(σ:St)(H':Hp):Prop:=
 ∃v u ks,σ=[Vn (.ref f),Vn (.ref ga),Vn (.ref l),Vn v]/\Ext H H'/\H' l=Vn (.lst (cj ks))/\u∈q/\gr H' v u.2.2/\u.2.1=M/\ks.length+M=e.2.1/\Bfs.gone (nx:=nx) u.1 ks.reverse=Vn e.1
theorem zN(T:Bu w mg base):Cal P w K mg base "walk_back" 1 ["found","goal"] (wW K):=by
 refine(bw T.d_walk_back).oS ["found","goal","walk","step"] λx nd H vs Q E h=>?_;obtain⟨f,ga,kvs,q,nx,s,i,B,e,rfl,C,Y,F,hg,Z,hle,qq⟩:=h;refine⟨_,(av (aG (i:=2) nd rfl oi (bp aa))
   (av (aG (i:=3) nd rfl oi (ko (dM x) (pv 0) (pv 1) (λ_ _=>rfl)))
   (av (fA PassesOwn.never (aN wC (pv 3) jg (aJ _)) (av (bj (bL K ED ES ET bR (pv 2) (ae (ao (az K) (pv 3) af (λ_ _=>rfl)) aa)))
   (aw (aG (i:=3) nd rfl oi (ko (dM x) (pv 0) (ao (az K) (pv 3) af (λ_ _=>rfl)) (λ_ _=>rfl))))))
   (aw (aD (yQ K rfl rfl T.list_ rfl T.reversed_ (pv 2))))))),?_⟩
 walk_at"";refine aO λl H1 y hl G=>?_;walk_at"";obtain⟨v0,I,_,J⟩:=gE (λ_ _ z=>z.1) Y F.nd Z;refine⟨f,v0,rfl,by rw[<-I];exact cP.t (y _ _ C) (k:=aZ e.1) (y _ _ hg),?_⟩;walk_at"";refine fo (wX H f ga l q nx e) (λσ H'=>∃v ks,σ=[some (.ref f),some (.ref ga),some (.ref l),some v]/\Ext H H'/\H' l=some (.lst (cj ks))/\ks.length=e.2.1/\Bfs.gone (nx:=nx) s ks.reverse=some e.1) e.2.1 ⟨v0,e,[],rfl,y,hl,Z,J.ext y,rfl,by simp,rfl⟩ ?_ ?_
 .rintro M σ A ⟨v,u,ks,rfl,m,c,hu,g,hM,n,j⟩;walk_at"";rcases F.par u hu with⟨L,p2,p3⟩|⟨p,k,d,o,L,p2,p3,p4⟩
  .rw[L]at g;obtain rfl:v=.non:=g;refine⟨rfl,?_⟩;refine rd_exb (ax ?_);exact⟨_,ks,rfl,m,c,by lia,by rw[<-p2];exact j⟩
  .rw[L]at g;obtain⟨a,b,rfl,ha,hb⟩:=g;refine⟨rfl,?_⟩;rw[Fp (show ¬(V.ref a=V.non) by intro z;cases z)];refine rd_exb (aC ?_);refine⟨λN H'=>∃m',m'<M/\wX H f ga l q nx e m' N H',λ_ _ h=>h,?_⟩;walk_at"";refine⟨df (ag.of c),?_⟩;walk_at"";refine ay (ah.of ha) (v:=.int (k:Int)) rfl ?_;walk_at"";refine bN c (fm (by rw[Ew];lia)) ?_;walk_at"";have nl:∀xs,(HO.lst (cj ks))≠.tup xs:=λxs z=>by cases z
   have O:upd A l (.lst (cj ks++[.int (k:Int)])) a=Vn (.tup [.ref b,.int (k:Int)]):=by rw[aF (bZ ha c (by intro z;cases z))];exact ha
   have R:=aE.put (o':=.lst (cj ks++[.int (k:Int)])) c nl hb;refine ay (ah.of O) (v:=.ref b) rfl ?_;obtain⟨v1,S,_,U⟩:=gE (λ_ _ z=>z.1) Y F.nd p4;have W:upd A l (.lst (cj ks++[.int (k:Int)])) f=Vn (.dT kvs):=by rw[aF (bZ (m _ _ C) c (by intro z;cases z))];exact m _ _ C
   have eH:Ext H (upd A l (.lst (cj ks++[.int (k:Int)]))):=bK m G;refine⟨f,v1,rfl,by rw[<-S];exact cP.t W (k:=aZ p) R,?_⟩;walk_at"";refine⟨d,by lia,v1,(p,d,o),ks++[k],rfl,eH,by rw[aK,qv],p4,U.ext eH,rfl,by rw[EN];simp;lia,?_⟩;rw[List.reverse_append];show(nx p k).bind _=_;rw[p2];exact j
 .rintro σ A ⟨v,ks,rfl,m,c,n,j⟩;walk_at"";refine qT (ag.of c) (cF λr H5 e5 x X=>?_);refine qq r H5 ks.reverse (m.trans e5) ?_ (m.none X) (by rw[List.length_reverse];exact n) j;rw[x,<-List.map_reverse]
inductive vM(K:Eo)(vs:List V)(H:Hp)(Q:VK)(E:XK):Prop|mk:∀v m ws a ga x g,vs=[v,.ref a,.ref ga]->bh H v m ws->HOuse m ws->aE H a x->aE H ga g->cA m x->cA m g->((∀n,¬Bfs.bz (bf ws (bS m x g)) x n g)->∀H',Ext H H'->Q .non H')->(∀n l H' ks,Bfs.bz (bf ws (bS m x g)) x n g->n<=24012->Ext H H'->H l=Vo->H' l=Vn (.lst (cj ks))->ks.length=n->Bfs.gone (nx:=bf ws (bS m x g)) x ks=Vn g->Q (.ref l) H')->vM K vs H Q E
def yi(T:Bu w mg base):Cal P w K mg base "sought_walk" 4 ["house","place","goal"] (vM K):=by
 refine(ef T.d_sought_walk).oS ["house","place","goal","found"] λo nd H vs Q E h=>?_;obtain⟨v,m,ws,J,ga,x,g,rfl,L,ok,M,p,N,O,F,G⟩:=h;refine⟨_,(av (aG (i:=3) nd rfl oi (aB (BP T) o (ae (pv 0) (ae (pv 1) (ae (pv 2) aa)))))
   (av (aY (iO (iH (dM o) (pv 2) (pv 3)) (by with_unfolding_all rfl)) (aw (aD jg)) aQ)
   (aw (aD (aB (zN T) o (ae (pv 3) (ae (pv 2) aa))))))),?_⟩
 walk_at"";refine⟨v,m,ws,J,ga,x,g,rfl,L,ok,M,p,N,O,λf H1 kvs q i B c I r b s hend=>?_⟩;generalize bS m x g=T at F G b;walk_at"";refine⟨f,_,rfl,cP.t I (k:=aZ g) (c _ _ p),?_⟩;by_cases a:g∈q.map (·.1)
 .obtain⟨e,j,rfl⟩:=List.mem_map.mp a;obtain⟨U,u,_⟩:=gE (λ_ _ z=>z.1) r b.nd j;rw[u];refine rd_exb (ax ?_);walk_at"";have hd:=b.dist j;have d:e.2.1<=24012:=E4 (b.deep j) s;refine⟨f,ga,kvs,q,bf ws T,x,i,B,e,rfl,I,r,b,c _ _ p,j,d,λl H2 ks R S y A C=>?_⟩;exact G _ l H2 ks hd d (c.trans R) (c.none y) S A C
 .rw[hZ (λ_ _ z=>z.1) r a];refine rd_exb (aC ?_);walk_at"";refine F (λn=>?_) H1 c;rcases hend with h|h
  .subst h;exact b.done a n
  .exact absurd h a
inductive pH(K:Eo)(vs:List V)(H:Hp)(Q:VK)(E:XK):Prop|mk:∀v m ws a ga x g,vs=[v,.ref a,.ref ga]->bh H v m ws->HOuse m ws->aE H a x->aE H ga g->cA m x->cA m g->((∀n,¬Bfs.bz (bf ws (bS m x g)) x n g)->∀H',Ext H H'->Q .non H')->(∀n l H' ks,Bfs.bz (bf ws (bS m x g)) x n g->n<=24012->Ext H H'->H l=Vo->H' l=Vn (.lst (cj ks))->ks.length=n->Bfs.gone (nx:=bf ws (bS m x g)) x ks=Vn g->Q (.ref l) H')->pH K vs H Q E
def yK(T:Bu w mg base):Cal P w K mg base "shortest" 7 ["house","place","goal"] (pH K):=by
 refine(ef T.d_shortest).oS ["house","place","goal"] λc nd H vs Q E h=>?_;obtain⟨v,m,ws,o,ga,x,g,rfl,p,ok,q,r,s,u,B,C⟩:=h;refine⟨_,(av (bj (aB (j5 T) c (ae (pv 0) aa)))
   (av (bj (aB (sO T) c (ae (pv 0) (ae (bp (ae (pv 1) (ae (pv 2) aa))) aa))))
   (aw (aD (aB (yi T) c (ae (pv 0) (ae (pv 1) (ae (pv 2) aa)))))))),?_⟩
 walk_at"";refine⟨v,m,ws,rfl,p,ok,λH1 F=>?_⟩;walk_at"";refine aO λl H2 G d _=>?_;walk_at"";have a:=F.trans G;obtain⟨z,t,rfl,A,I⟩:=p.ext a;refine⟨z,_,m,l,[o,ga],[x,g],rfl,A,d,.cons (a _ _ q) (.cons (a _ _ r) .nil),?_,?_⟩
 .intro y b;rcases EK.mp b with rfl|b
  .exact s
  .rw[EG]at b;subst b;exact u
 walk_at"";exact⟨_,m,ws,o,ga,x,g,rfl,⟨z,t,rfl,A,I⟩,ok,a _ _ q,a _ _ r,s,u,λh H' e=>B h H' (a.trans e),λn l H' ks hd J e i d j k=>C n l H' ks hd J (a.trans e) (a.none i) d j k⟩
def aP(n:Nat)(f:Nat->Bool):List V:=(Fo n).map λi=>V.bl (f i)
def bW(n:Nat)(f:Nat->Bool):(aP n f).length=n:=by simp[aP]
def fF{i:Nat}(f:Nat->Bool)(h:i<n):(aP n f)[i]?=Vn (.bl (f i)):=by unfold aP;rw[Ey,List.getElem?_range h];rfl
def b6{f:Nat->Bool}(h:∀i,i<n->f i=g i):aP n f=aP n g:=by unfold aP;apply List.map_congr_left;intro i hi;rw[h i (List.mem_range.mp hi)]
def jO(n:Nat)(f:Nat->Bool):aP (n+1) f=aP n f++[V.bl (f n)]:=by unfold aP;rw[List.range_succ,EM];rfl
def ir{k:Nat}(f:Nat->Bool)(c:Bool)(a:k<n):(aP n f).set k (.bl c)=aP n λi=>if i=k then c else f i:=by
 apply List.ext_getElem?;intro i;rcases Fh i n with hi|hi
 .rw[List.getElem?_set,bW,fF _ hi,fF _ hi];by_cases h:k=i
  .subst h;simp[hi]
  .rw[Fs h,Fs (Ne.symm h)]
 .rw[List.getElem?_eq_none (by rw[List.length_set,bW];exact hi),List.getElem?_eq_none (by rw[bW];exact hi)]
theorem dR{f:Nat->Bool}{i:Int}(a:0<=i)(h:i<n):bx (aP n f) i=Vn (.bl (f i.toNat)):=dZ a (fF f (by lia))
def j3(n:Nat)(c:Bool):(Ff n [V.bl c]).flatten=aP n λ_=>c:=by
 induction n with
 | zero=>rfl
 | succ n a=>
  rw[List.replicate_succ',List.flatten_append,a,jO];rfl
theorem C9{f:Nat->Bool}{i:Int}(b:0<=i)(h:i<=n):cH (aP n f) Vo (Vn i)=aP i.toNat f:=by
 unfold cH;rw[bW,HT.l5];have e:HT.aR n n (Vn i)=i.toNat:=by show(if i<0 then(i+(n:Int)).toNat else min i.toNat n)=i.toNat;rw[Fs (by lia)];lia
 rw[e,List.drop_zero,Nat.sub_zero];apply List.ext_getElem?;intro k;rcases Fh k i.toNat with a|a
 .rw[List.getElem?_take_of_lt a,fF _ (by lia),fF _ a]
 .rw[List.getElem?_eq_none (by rw[Fl,bW];lia),List.getElem?_eq_none (by rw[bW];lia)]
def Rows(H:Hp)(q:Vb)(rs:List Vb)(n:Nat)(M:Nat->Nat->Bool):Prop:=H q=Vn (.lst (rs.map V.ref))/\∀(i:Nat) (r:Vb),rs[i]?=Vn r->H r=Vn (.lst (aP n (M i)))
def Rows.ext(e:Ext H H')(h:Rows H q rs n M):Rows H' q rs n M:=⟨e _ _ h.1,λi r hi=>e _ _ (h.2 i r hi)⟩
inductive oE(K:Eo)(vs:List V)(H:Hp)(Q:VK)(E:XK):Prop|mk:∀a m ws d,vs=[a,.str d]->bh H a m ws->HOuse m ws->(∀l cs us H',Ext H H'->H l=Vo->H' l=Vn (.lst (List.map V.ref cs))->aT H' cs us->us=ws.filter (λw=>decide (w.deed=d))->Q (.ref l) H')->oE K vs H Q E
theorem kB(T:Bu w mg base):Cal P w K mg base "ways_of_deed" 1 ["house","deed"] (oE K):=by
 refine(bw T.d_ways_of_deed).oS ["house","deed"] λF nd H vs Q E h=>?_;obtain⟨G,m,ws,d,rfl,y,ok,q⟩:=h;have few:=ok.few;obtain⟨z,n,rfl,A,B⟩:=id y;obtain⟨bs,s,hal⟩:=bX.al B;have p:=hal.1;refine⟨_,(@aw _ _ _ (@aD _ _ _ _ (cn ["way"] [1] (eZ K (@ao _ _ _ _ _ _ _ (az K) (pv 0) af (λ_ _=>rfl))) (λ_=>(aI (i:=0) (show(["way","deed"]:List Vm).Nodup from by decide +kernel) rfl oi oj)) (λ_=>(gj (aN bH (@ao _ _ _ _ _ _ _ (az K) (pv 0) af (λ_ _=>rfl)) (pv 1) (aJ _)))) (λ_=>(pv 0))))),?_⟩;walk_at"";refine ay (ah.of A) (v:=.ref n) rfl ?_;walk_at"";refine eR (ah.of s) ?_;refine jv (xs:=bs.map V.ref) (λi ys H'=>H'=H/\∃cs us,ys=List.map V.ref cs/\aT H cs us/\us=(ws.take i).filter λw=>decide (w.deed=d)) (bT (by rw[Ew];lia)) ⟨rfl,[],[],rfl,aT.nil _,rfl⟩ ?_ ?_ ?_
 .rintro i ys H' _ ⟨rfl,cs,us,rfl,a,rfl⟩;refine⟨ah.of s,?_⟩;rw[Ew,a.1];exact E4 (List.length_filter_le _ _) (by rw[Fl];lia)
 .rintro i v ys H' u ⟨rfl,cs,us,rfl,a,c⟩;rw[Ey]at u;obtain⟨b,hb,rfl⟩:=EH.mp u;have r:i<ws.length:=by have:=(EE.mp hb).1;lia
  have g:ws[i]?=Vn ws[i]:=Ex r;have j:=hal.2 i b _ hb g;generalize ws[i]=k at g j;walk_at"";refine ay (ah.of j) (v:=.str k.deed) rfl ?_;walk_at"";refine cb (rd_exb ?_);cases x:decide (k.deed=d)with
  | true=>
   refine aC ?_;walk_at"";refine⟨rfl,cs++[b],us++[k],?_,a.snoc j,?_⟩
   .rw[EM];rfl
   .rw[c,List.take_add_one,g,List.filter_append];congr 1;show[k]=List.filter _ [k];rw[List.filter_cons,Ft x];rfl
  | false=>
   refine ax ⟨rfl,cs,us,rfl,a,?_⟩;rw[c,List.take_add_one,g,List.filter_append];have:List.filter (λw:Way=>decide (w.deed=d)) [k]=[]:=by rw[List.filter_cons,Fs (by rw[x];exact EL)];rfl
   show _=_++List.filter _ [k];rw[this,List.append_nil]
 .rintro ys H' pc ⟨C,cs,us,rfl,a,c⟩ l;subst C;rw[Ew,p,EZ]at c;have e:=a8 (o:=.lst (List.map V.ref cs)) l;exact q pc cs us _ e l aK (a.ext e) c
theorem sq{x:Vb}:∀{l:List Vb} {i:Nat},l.Nodup->x∉l->(l.set i x).Nodup
 | [],_,_,_=>List.nodup_nil
 | a::l,0,h,b=>by rw[List.nodup_cons]at h;exact List.nodup_cons.mpr ⟨λz=>b (Ez _ z),h.2⟩
 | a::l,i+1,h,b=>by
  rw[List.nodup_cons]at h;refine List.nodup_cons.mpr ⟨λz=>?_,sq h.2 λz=>b (Ez _ z)⟩;rcases List.mem_or_eq_of_mem_set z with z|z
  .exact h.1 z
  .exact b (by rw[z];exact EC)
structure TB(H H':Hp)(q:Vb)(rs rs':List Vb)(n:Nat)(M:Nat->Nat->Bool):Prop where
 keep:∀b o,b≠q->H b=Vn o->H' b=Vn o
 len:rs'.length=n
 nd:rs'.Nodup
 nq:q∉rs'
 old:∀r∈rs',r∈rs\/H r=Vo
 rows:Rows H' q rs' n M
theorem TB.congr{H H':Hp}{q:Vb}{rs rs':List Vb}{n:Nat}{M M':Nat->Nat->Bool}(h:TB H H' q rs rs' n M)(e:∀i j,i<n->j<n->M i j=M' i j):TB H H' q rs rs' n M':=
 ⟨h.keep,h.len,h.nd,h.nq,h.old,h.rows.1,λi r hi=>by
  rw[h.rows.2 i r hi];have a:i<n:=by rw[<-h.len];exact(EE.mp hi).1
  congr 2;exact b6 λj b=>e i j a b⟩
theorem TB.set{H H1:Hp}{q d:Vb}{rs c:List Vb}{n i:Nat}{M:Nat->Nat->Bool}{f:Nat->Bool}(h:TB H H1 q rs c n M)(hi:i<n)(g:H1 d=Vo):TB H (upd (upd H1 d (.lst (aP n f))) q (.lst ((c.map V.ref).set i (.ref d)))) q rs (c.set i d) n (λa b=>if a=i then f b else M a b):=by
 have s:H1 q=Vn (.lst (c.map V.ref)):=h.rows.1;have k:q≠d:=λz=>by rw[z,g]at s;cases s
 have nin:d∉c:=λz=>by obtain⟨j,v⟩:=Fi z;rw[h.rows.2 j d v]at g;cases g
 refine⟨λb o nb e=>?_,by rw[List.length_set];exact h.len,sq h.nd nin,λz=>?_,λr m=>?_,?_,λa r ha=>?_⟩
 .have u:=h.keep b o nb e;rw[aF nb,aF (b0 u g)];exact u
 .rcases List.mem_or_eq_of_mem_set z with z|z
  .exact h.nq z
  .exact k z
 .rcases List.mem_or_eq_of_mem_set m with m|rfl
  .exact h.old r m
  .right;cases e:H r with
   | none=>rfl
   | some o=>rw[h.keep r o (Ne.symm k) e]at g;cases g
 .rw[aK,List.map_set]
 .rw[List.getElem?_set]at ha;by_cases l:i=a
  .subst l;rw[Ft rfl,Ft (by rw[h.len];exact hi)]at ha;cases ha;rw[aF (Ne.symm k),aK];congr 2;exact b6 λj _=>by dsimp only;rw[Ft rfl]
  .rw[Fs l]at ha;have e:=h.rows.2 a r ha;have p:r≠q:=λz=>h.nq (z ▸ EF ha);rw[aF p,aF (b0 e g),e];congr 2;exact b6 λj _=>by dsimp only;rw[Fs (Ne.symm l)]
def jn(M:Nat->Nat->Bool)(k:Nat):Nat->Nat->Bool:=λi j=>M i j || (M i k && M k j)
def bU(M:Nat->Nat->Bool):Nat->Nat->Nat->Bool
 | 0=>M
 | k+1=>jn (bU M k) k
structure Joined(n:Nat)(M M':Nat->Nat->Bool):Prop where
 le:∀i j,M i j=true->M' i j=true
 tr:∀i a j,a<n->M' i a=true->M' a j=true->M' i j=true
 least:∀S:Nat->Nat->Prop,(∀i a j,S i a->S a j->S i j)->(∀i j,M i j=true->S i j)->∀i j,M' i j=true->S i j
theorem u7(M:Nat->Nat->Bool):∀k,Joined k M (bU M k)
 | 0=>⟨λ_ _ h=>h,λ_ _ _ h=>absurd h (Nat.not_lt_zero _),λ_ _ h=>h⟩
 | k+1=>by
  have b:=u7 M k;have up:∀i j,bU M (k+1) i j=true↔(bU M k i j=true\/(bU M k i k=true/\bU M k k j=true)):=λi j=>by show(bU M k i j || (bU M k i k && bU M k k j))=true↔_;simp
  refine⟨λi j h=>(up i j).mpr (.inl (b.le i j h)),λi a j ha h1 h2=>?_,λS d e i j h=>?_⟩
  .rw[up]at h1 h2 ⊢;by_cases g:a=k
   .subst g;have m:bU M a i a=true:=by rcases h1 with h|h;exact h;exact h.1
    have n:bU M a a j=true:=by rcases h2 with h|h;exact h;exact h.2
    exact .inr ⟨m,n⟩
   .have hlt:a<k:=by lia
    rcases h1 with h1|⟨h1,l⟩<;>rcases h2 with h2|⟨h2,c⟩
    .exact .inl (b.tr i a j hlt h1 h2)
    .exact .inr ⟨b.tr i a k hlt h1 h2,c⟩
    .exact .inr ⟨h1,b.tr k a j hlt l h2⟩
    .exact .inr ⟨h1,c⟩
  .rcases(up i j).mp h with h|⟨h1,h2⟩
   .exact b.least S d e i j h
   .exact d i k j (b.least S d e i k h1) (b.least S d e k j h2)
inductive pW(K:Eo)(vs:List V)(H:Hp)(Q:VK)(E:XK):Prop|mk:∀q rs n M,vs=[.ref q]->TB H H q rs rs n M->n<=12->(∀rs' M' H',TB H H' q rs rs' n M'->Joined n M M'->Q .non H')->pW K vs H Q E
theorem sy(T:Bu w mg base):Cal P w K mg base "join_walks" 1 ["table"] (pW K):=by
 refine(ck T.d_join_walks).oS ["table","many","middle","p"] λS nd H vs Q E h=>?_;obtain⟨d,rs,n,M,rfl,o,U,q⟩:=h;refine⟨_,(@av _ _ _ _ _ (@aG _ _ 1 _ _ _ _ nd rfl oi (aS (cq K) rfl T.len_ PySem.boot_len (aq (pv 0) aa rfl)) rfl oi)
   (@aw _ _ _ (bt PassesOwn.never rfl (cM rfl T.range_ (aq (pv 1) aa rfl)) (aI (i:=2) nd rfl oj) (@aw _ _ _ (bt PassesOwn.never rfl (cM rfl T.range_ (aq (pv 1) aa rfl)) (aI (i:=3) nd rfl oj) (@aw _ _ _ (cJ (a0 (@ao _ _ _ _ _ _ _ (aM K) (@ao _ _ _ _ _ _ _ (aM K) (pv 0) (pv 3) (λ_ _=>rfl)) (pv 2) (λ_ _=>rfl))) (@aw _ _ _ (@eM _ _ _ _ _ _ (cn ["q"] [0,3,2] (cM rfl T.range_ (aq (pv 1) aa rfl)) (λ_=>(aI (i:=0) (show(["q","table","p","middle"]:List Vm).Nodup from by decide +kernel) rfl oi oj)) (λ_=>cz) (λ_=>(pQ (@ao _ _ _ _ _ _ _ (aM K) (@ao _ _ _ _ _ _ _ (aM K) (pv 1) (pv 2) (λ_ _=>rfl)) (pv 0) (λ_ _=>rfl)) (cQ (@ao _ _ _ _ _ _ _ (aM K) (@ao _ _ _ _ _ _ _ (aM K) (pv 1) (pv 3) (λ_ _=>rfl)) (pv 0) (λ_ _=>rfl)))))) (f7 (pv 0) (pv 3) set_list) rfl rfl rfl)) aQ))))))),?_⟩
 walk_at"";refine dU (ag.of o.rows.1) ?_;rw[Ew,o.len];walk_at"";refine cN (by lia) ?_;rw[EI];refine forR (λk σ H'=>∃c k1 k2,TB H H' d rs c n (bU M k)/\σ=[Vn (.ref d),Vn (.int (n:Nat)),k1,k2]) ⟨rs,_,_,o,rfl⟩ ?_ ?_
 .rintro k σ H1 N ⟨c,k1,k2,tb,rfl⟩;rw[show (0:Int)+(k:Int)=((k:Nat):Int) by lia];walk_at"";refine cN (by lia) ?_;rw[EI];refine forR (λp σ H'=>∃a k2,TB H H' d rs a n (λi j=>if i<p then jn (bU M k) k i j else bU M k i j)/\σ=[Vn (.ref d),Vn (.int (n:Nat)),Vn (.int (k:Nat)),k2]) ⟨c,_,tb,rfl⟩ ?_ ?_
  .rintro p σ H2 A ⟨a,k2,b,rfl⟩;rw[show (0:Int)+(p:Int)=((p:Nat):Int) by lia];have r:p<a.length:=by rw[b.len];exact A
   have s:k<a.length:=by rw[b.len];exact N
   have u:a[p]?=Vn a[p]:=Ex r;have v:a[k]?=Vn a[k]:=Ex s;have B:=b.rows.2 p _ u;have C:=b.rows.2 k _ v;generalize a[p]=ap at u B;generalize a[k]=F at v C;have e:bx (a.map V.ref) ((p:Nat):Int)=Vn (.ref ap):=eY (by rw[Ey,u];rfl);have x:bx (a.map V.ref) ((k:Nat):Int)=Vn (.ref F):=eY (by rw[Ey,v];rfl);have g:H2 ap=Vn (.lst (aP n (bU M k p))):=by rw[B];congr 2;exact b6 λj _=>by dsimp only;rw[Fs (Nat.lt_irrefl _)]
   have y:H2 F=Vn (.lst (aP n (bU M k k))):=by
    rw[C];congr 2;refine b6 λj _=>?_;dsimp only;by_cases l:k<p
    .rw[Ft l];unfold jn;cases bU M k k j<;>simp
    .rw[Fs l]
   walk_at"";refine cD ?_;walk_at"";refine aL (ag.of b.rows.1) e ?_;walk_at"";refine aL (ag.of g) (dR (by lia) (by lia)) ?_;rw[EI];walk_at"";cases G:bU M k p k with
   | false=>
    refine ax ?_;walk_at"";refine⟨a,_,b.congr λi j hi I=>?_,rfl⟩
    try dsimp only
    by_cases h1:i<p
    .rw[Ft h1,Ft (by lia)]
    .rw[Fs h1];by_cases h2:i<p+1
     .have:i=p:=by lia
      subst this;rw[Ft h2];unfold jn;rw[G];simp
     .rw[Fs h2]
   | true=>
    refine aC ?_;walk_at"";refine cN (by lia) ?_;rw[EI];refine gG (λi ys H'=>H'=H2/\ys=aP i (jn (bU M k) k p)) (bT (by lia)) ⟨rfl,rfl⟩ ?_ ?_ ?_
    .rintro i ys H' _ ⟨_,rfl⟩;rw[bW];exact ER _
    .rintro i ys J hi ⟨rfl,rfl⟩;rw[show (0:Int)+(i:Int)=((i:Nat):Int) by lia];walk_at"";refine aC ?_;walk_at"";refine aL (ag.of b.rows.1) e ?_;walk_at"";refine aL (ag.of g) (dR (by lia) (by lia)) ?_;rw[EI];refine rd_exb ?_;cases L:bU M k p i with
     | true=>
      refine aC ⟨rfl,?_⟩;rw[jO];congr 1;show[V.bl true]=[V.bl (bU M k p i || _)];rw[L];rfl
     | false=>
      refine ax ?_;walk_at"";refine aL (ag.of b.rows.1) x ?_;walk_at"";refine aL (ag.of y) (dR (by lia) (by lia)) ?_;rw[EI];refine⟨rfl,?_⟩;rw[jO];congr 1;show[V.bl (bU M k k i)]=[V.bl (bU M k p i || (bU M k p k && bU M k k i))];rw[L,G];simp
    .rintro ys J O ⟨R,rfl⟩ m;subst R;have z:(upd J O (.lst (aP n (jn (bU M k) k p)))) d=Vn (.lst (a.map V.ref)):=(a8 m) _ _ b.rows.1;walk_at"";refine gJ z (gy (by lia) (by rw[Ew,b.len];lia)) ?_;rw[EI];refine⟨_,_,(b.set (f:=jn (bU M k) k p) A m).congr λi j hi I=>?_,rfl⟩
     try dsimp only
     by_cases h1:i=p
     .subst h1;rw[Ft rfl,Ft (by lia)]
     .rw[Fs h1];by_cases h2:i<p
      .rw[Ft h2,Ft (by lia)]
      .rw[Fs h2,Fs (by lia)]
  .rintro σ H2 ⟨a,k2,b,rfl⟩;exact⟨a,_,_,b.congr (λi j hi I=>by rw[Ft hi];rfl),rfl⟩
 .rintro σ H1 ⟨c,k1,k2,tb,rfl⟩;walk_at"";exact q c _ H1 tb (u7 M n)
def put2(M:Nat->Nat->Bool)(i x:Nat):Nat->Nat->Bool:=λj y=>if j=i/\y=x then true else M j y
structure TW(H H':Hp)(q:Vb)(rs:List Vb)(n:Nat)(M:Nat->Nat->Bool):Prop where
 keep:∀b o,b∉rs->H b=Vn o->H' b=Vn o
 len:rs.length=n
 nd:rs.Nodup
 nq:q∉rs
 rows:Rows H' q rs n M
def TW.mark{r:Vb}{i j:Nat}(h:TW H H1 q rs n M)(hi:rs[i]?=Vn r)(m:j<n):TW H (upd H1 r (.lst ((aP n (M i)).set j (.bl true)))) q rs n (put2 M i j):=by
 have k:=EF hi;have nqr:q≠r:=λz=>h.nq (z ▸ k);refine⟨λb o nb e=>?_,h.len,h.nd,h.nq,?_,λa l ha=>?_⟩
 .have g:b≠r:=λz=>nb (by rw[z];exact k);rw[aF g];exact h.keep b o nb e
 .rw[aF nqr];exact h.rows.1
 .by_cases c:a=i
  .subst c;rw[hi]at ha;cases ha;rw[aK,ir _ _ m];congr 2;refine b6 λy _=>?_;unfold put2;by_cases d:y=j
   .rw[Ft d,Ft ⟨rfl,d⟩]
   .rw[Fs d,Fs λz=>d z.2]
  .have p:l≠r:=λz=>c ((List.getElem?_inj (by rw[h.len];exact(by rw[<-h.len];exact(EE.mp ha).1)) h.nd).mp (by rw[ha,hi,z]));rw[aF p,h.rows.2 a l ha];congr 2;exact b6 λy _=>by unfold put2;rw[Fs λz=>c z.1]
structure ArchR(n:Nat)(us ds:List Way)(M M':Nat->Nat->Bool)(ad:Bool):Prop where
 le:∀i j,M i j=true->M' i j=true
 same:ad=false->∀i j,M' i j=M i j
 more:ad=true->∃i j,i<n/\j<n/\M i j=false/\M' i j=true
 least:∀S:Nat->Nat->Prop,(∀u∈us,∀d∈ds,S u.other.toNat d.room.toNat->S u.room.toNat d.other.toNat)->(∀i j,M i j=true->S i j)->∀i j,M' i j=true->S i j
def ArchR.refl{ds:List Way}:ArchR n us ds M M false:=⟨λ_ _ h=>h,λ_ _ _=>rfl,λh=>(nomatch h),λ_ _ h=>h⟩
def ArchR.put{ds:List Way}{ad:Bool}(h:ArchR n us ds M M' ad){u d:Way}(k:u∈us)(hd:d∈ds)(h1:M' u.other.toNat d.room.toNat=true)(h2:M' u.room.toNat d.other.toNat=false)(b:u.room.toNat<n)(c:d.other.toNat<n):ArchR n us ds M (put2 M' u.room.toNat d.other.toNat) true:=by
 have le:∀i j,M i j=true->put2 M' u.room.toNat d.other.toNat i j=true:=λi j a=>by
  unfold put2;split
  .rfl
  .exact h.le i j a
 refine⟨le,λz=>(nomatch z),λ_=>⟨_,_,b,c,?_,by unfold put2;rw[Ft ⟨rfl,rfl⟩]⟩,λS e a i j g=>?_⟩
 .rw[Bool.eq_false_iff];intro z;rw[h.le _ _ z]at h2;cases h2
 .unfold put2 at g;split at g
  .rename_i z;rw[z.1,z.2];exact e u k d hd (h.least S e a _ _ h1)
  .exact h.least S e a i j g
inductive v9(K:Eo)(vs:List V)(H:Hp)(Q:VK)(E:XK):Prop|mk:∀q rs n M lu cu us ld cd ds,vs=[.ref q,.ref lu,.ref ld]->TW H H q rs n M->H lu=Vn (.lst (List.map V.ref cu))->aT H cu us->H ld=Vn (.lst (List.map V.ref cd))->aT H cd ds->lu∉rs->ld∉rs->(∀w∈us++ds,0<=w.room/\w.room<(n:Int)/\0<=w.other/\w.other<(n:Int))->(∀M' ad H',TW H H' q rs n M'->ArchR n us ds M M' ad->(ad=false->∀u∈us,∀d∈ds,M u.other.toNat d.room.toNat=true->M u.room.toNat d.other.toNat=true)->Q (.bl ad) H')->v9 K vs H Q E
theorem BR(T:Bu w mg base):Cal P w K mg base "add_arches" 1 ["table","ups","downs"] (v9 K):=by
 refine(ef T.d_add_arches).oS ["table","ups","downs","added","rise","fall"] λhr nd H vs Q E h=>?_;obtain⟨Y,rs,n,M,lu,cu,us,ld,cd,ds,rfl,tw,C,F,G,I,a3,J,hin,q⟩:=h;have L:=F.1;have N:=I.1;refine⟨_,(@av _ _ _ _ _ (@aG _ _ 3 _ _ _ _ nd rfl oi a7 rfl oi)
   (@av _ _ _ _ _ (bt PassesOwn.never rfl (bP K (pv 1)) (aI (i:=4) nd rfl oi) (@aw _ _ _ (bt PassesOwn.never rfl (bP K (pv 2)) (aI (i:=5) nd rfl oi) (@aw _ _ _ (cJ (PW.pt (eT (a0 (@ao _ _ _ _ _ _ _ (aM K) (@ao _ _ _ _ _ _ _ (aM K) (pv 0) (@ao _ _ _ _ _ _ _ (az K) (pv 4) af (λ_ _=>rfl)) (λ_ _=>rfl)) (@ao _ _ _ _ _ _ _ (az K) (pv 5) af (λ_ _=>rfl)) (λ_ _=>rfl))) (fS (bB (a0 (@ao _ _ _ _ _ _ _ (aM K) (@ao _ _ _ _ _ _ _ (aM K) (pv 0) (@ao _ _ _ _ _ _ _ (az K) (pv 4) af (λ_ _=>rfl)) (λ_ _=>rfl)) (@ao _ _ _ _ _ _ _ (az K) (pv 5) af (λ_ _=>rfl)) (λ_ _=>rfl))))))) (@av _ _ _ _ _ (@eM _ _ _ _ _ _ a7 (f7 (@ao _ _ _ _ _ _ _ (aM K) (pv 0) (@ao _ _ _ _ _ _ _ (az K) (pv 4) af (λ_ _=>rfl)) (λ_ _=>rfl)) (@ao _ _ _ _ _ _ _ (az K) (pv 5) af (λ_ _=>rfl)) set_list) rfl rfl rfl)
   (@aw _ _ _ (@aG _ _ 3 _ _ _ _ nd rfl oi a7 rfl oi))) aQ)))))
   (@aw _ _ _ (@aD _ _ _ _ (pv 3))))),?_⟩
 have tupN:∀(b:Vb) (w:Way),H b=Vn (.tup w.vs)->b∉rs:=λb w hb z=>by obtain⟨j,hj⟩:=Fi z;rw[tw.rows.2 j b hj]at hb;cases hb
 walk_at"";refine bO (ag.of C) ?_;refine forL (xs:=List.map V.ref cu) (λi σ H'=>∃M' ad k1 k2,TW H H' Y rs n M'/\ArchR n us ds M M' ad/\(ad=false->∀a,a<i->∀u,us[a]?=Vn u->∀d∈ds,M u.other.toNat d.room.toNat=true->M u.room.toNat d.other.toNat=true)/\σ=[Vn (.ref Y),Vn (.ref lu),Vn (.ref ld),Vn (.bl ad),k1,k2]) ⟨M,false,_,_,tw,.refl,λ_ a ha=>absurd ha (Nat.not_lt_zero _),rfl⟩ (λi σ H' _ h=>by obtain⟨M',ad,k1,k2,t,_⟩:=h;exact ag.of (t.keep _ _ a3 C)) ?_ ?_
 .rintro i v σ H1 hx ⟨M1,ad,k1,k2,o,r,p,rfl⟩;rw[Ey]at hx;obtain⟨bu,O,rfl⟩:=EH.mp hx;have a4:i<us.length:=by rw[<-L];exact(EE.mp O).1
  have Z:us[i]?=Vn us[i]:=Ex a4;have k:=F.2 i bu _ O Z;generalize us[i]=u at Z k;have R:=EF Z;obtain⟨u0,u1,u2,u3⟩:=hin u (Fe _ R);walk_at"";refine bO (ag.of (o.keep _ _ J G)) ?_;refine forL (xs:=List.map V.ref cd) (λj σ H'=>∃M' ad k2,TW H H' Y rs n M'/\ArchR n us ds M M' ad/\(ad=false->(∀a,a<i->∀u,us[a]?=Vn u->∀d∈ds,M u.other.toNat d.room.toNat=true->M u.room.toNat d.other.toNat=true)/\∀b,b<j->∀d,ds[b]?=Vn d->M u.other.toNat d.room.toNat=true->M u.room.toNat d.other.toNat=true)/\σ=[Vn (.ref Y),Vn (.ref lu),Vn (.ref ld),Vn (.bl ad),Vn (.ref bu),k2]) ⟨M1,ad,_,o,r,λh=>⟨p h,λb hb=>absurd hb (Nat.not_lt_zero _)⟩,rfl⟩ (λj σ H' _ h=>by obtain⟨M',ad,k2,t,_⟩:=h;exact ag.of (t.keep _ _ J G)) ?_ ?_
  .rintro j v σ H2 S ⟨B,l,k2,c,e,cl2,rfl⟩;rw[Ey]at S;obtain⟨bd,U,rfl⟩:=EH.mp S;have a5:j<ds.length:=by rw[<-N];exact(EE.mp U).1
   have gd:ds[j]?=Vn ds[j]:=Ex a5;have m:=I.2 j bd _ U gd;generalize ds[j]=d at gd m;have W:=EF gd;obtain⟨d0,d1,d2,d3⟩:=hin d (Fd _ W);have ku:=c.keep _ _ (tupN bu u k) k;have kd:=c.keep _ _ (tupN bd d m) m;have x1:u.other.toNat<rs.length:=by rw[c.len];lia
   have x2:u.room.toNat<rs.length:=by rw[c.len];lia
   have r1:rs[u.other.toNat]?=Vn rs[u.other.toNat]:=Ex x1;have r2:rs[u.room.toNat]?=Vn rs[u.room.toNat]:=Ex x2;have w1:=c.rows.2 _ _ r1;have w2:=c.rows.2 _ _ r2;generalize rs[u.other.toNat]=a1 at r1 w1;generalize rs[u.room.toNat]=a2 at r2 w2;have a6:bx (rs.map V.ref) u.other=Vn (.ref a1):=dZ u2 (by rw[Ey,r1];rfl);have at2:bx (rs.map V.ref) u.room=Vn (.ref a2):=dZ u0 (by rw[Ey,r2];rfl);have step:(M u.other.toNat d.room.toNat=true->M u.room.toNat d.other.toNat=true)->l=false->∀b,b<j+1->∀X,ds[b]?=Vn X->M u.other.toNat X.room.toNat=true->M u.room.toNat X.other.toNat=true:=λhs g b hb X s=>by
    by_cases ab:b<j
    .exact(cl2 g).2 b ab X s
    .have:b=j:=by lia
     subst this;rw[gd]at s;cases s;exact hs
   walk_at"";refine cD ?_;walk_at"";refine ay (ah.of ku) (v:=.int u.other) rfl ?_;walk_at"";refine aL (ag.of c.rows.1) a6 ?_;walk_at"";refine ay (ah.of kd) (v:=.int d.room) rfl ?_;walk_at"";refine aL (ag.of w1) (dR d0 (by lia)) ?_;walk_at"";cases x:B u.other.toNat d.room.toNat with
   | false=>
    refine ax ?_;walk_at"";refine⟨B,l,_,c,e,λg=>⟨(cl2 g).1,step (λz=>?_) g⟩,rfl⟩;rw[e.same g]at x;rw[x]at z;cases z
   | true=>
    refine aC ?_;walk_at"";refine ay (ah.of ku) (v:=.int u.room) rfl ?_;walk_at"";refine aL (ag.of c.rows.1) at2 ?_;walk_at"";refine ay (ah.of kd) (v:=.int d.other) rfl ?_;walk_at"";refine aL (ag.of w2) (dR d2 (by lia)) ?_;walk_at"";cases y:B u.room.toNat d.other.toNat with
    | true=>
     refine ax ?_;walk_at"";refine⟨B,l,_,c,e,λg=>⟨(cl2 g).1,step (λ_=>?_) g⟩,rfl⟩;rw[e.same g]at y;exact y
    | false=>
     refine aC ?_;walk_at"";refine ay (ah.of ku) (v:=.int u.room) rfl ?_;walk_at"";refine aL (ag.of c.rows.1) at2 ?_;walk_at"";refine ay (ah.of kd) (v:=.int d.other) rfl ?_;walk_at"";refine gJ w2 (gy d2 (by rw[bW];lia)) ?_;walk_at"";exact⟨_,true,_,c.mark r2 (by lia),e.put R W x y (by lia) (by lia),λz=>(nomatch z),rfl⟩
  .rintro σ H2 ⟨B,l,k2,c,e,cl2,rfl⟩;rw[Ew,N]at cl2;refine⟨B,l,_,_,c,e,λg a ha u' A=>?_,rfl⟩;by_cases ac:a<i
   .exact(cl2 g).1 a ac u' A
   .have:a=i:=by lia
    subst this;rw[Z]at A;cases A;intro d hd;obtain⟨b,hb⟩:=Fi hd;exact(cl2 g).2 b (EE.mp hb).1 d hb
 .rintro σ H1 ⟨M1,ad,k1,k2,o,r,p,rfl⟩;rw[Ew,L]at p;walk_at"";refine q M1 ad H1 o r λg u hu d hd=>?_;obtain⟨a,ha⟩:=Fi hu;exact p g a (EE.mp ha).1 u ha d hd
inductive Kpt(ws:List Way)(n:Nat):Nat->Nat->Prop
 | refl {i:Nat}:i<n->Kpt ws n i i
 | stay {w:Way}:w∈ws->w.deed = "stay"->Kpt ws n w.room.toNat w.other.toNat
 | trans {i a j:Nat}:Kpt ws n i a->Kpt ws n a j->Kpt ws n i j
 | arch {u d:Way}:u∈ws->u.deed = "up"->d∈ws->d.deed = "down"->Kpt ws n u.other.toNat d.room.toNat->Kpt ws n u.room.toNat d.other.toNat
theorem iI(ok:∀w∈ws,w.Ok m){w:Way}(a:w∈ws):w.room.toNat<m.toNat/\w.other.toNat<m.toNat:=by have h:=ok w a;have:=h.r0;have:=h.r1;have:=h.o0;have:=h.o1;lia
def Kpt.lt{m:Int}{ws:List Way}(ok:∀w∈ws,w.Ok m){i j:Nat}(h:Kpt ws m.toNat i j):i<m.toNat/\j<m.toNat:=by
 induction h with
 | refl h=>exact⟨h,h⟩
 | stay h _=>exact iI ok h
 | trans _ _ h1 h2=>exact⟨h1.1,h2.2⟩
 | arch h1 _ h2 _ _ _=>exact⟨(iI ok h1).1,(iI ok h2).2⟩
def yk(ws:List Way)(M:Nat->Nat->Bool):Prop:=∀i j,M i j=true↔(i=j\/∃w∈ws,w.deed = "stay"/\w.room.toNat=i/\w.other.toNat=j)
def iN(n:Nat)(M:Nat->Nat->Bool):Nat:=((Fo n).flatMap λi=>(Fo n).map λj=>(i,j)).countP λz=>!M z.1 z.2
theorem qc{α:Type}{p c:α->Bool}(hi:∀y,c y=true->p y=true){a:α}(ha:p a=true)(d:c a=false):∀{L:List α},a∈L->L.countP c<L.countP p
 | b::L,e=>by
  have hle:L.countP c<=L.countP p:=List.countP_mono_left λy _=>hi y;rw[List.countP_cons,List.countP_cons];rcases EK.mp e with rfl|e
  .rw[ha,d];simp;omega
  .have:=qc hi ha d e;cases h1:c b with
   | false=>simp[h1];split<;>omega
   | true=>rw[hi b h1];simp;omega
def xE{i j:Nat}(hi:i<n)(d:j<n)(le:∀a b,M a b=true->M' a b=true)(h1:M i j=false)(h2:M' i j=true):iN n M'<iN n M:=by
 refine qc (a:=(i,j)) (λy e=>?_) (by simp[h1]) (by simp[h2]) (by simp;exact⟨hi,d⟩);have c:M' y.1 y.2=false:=by simpa using e
 have:M y.1 y.2=false:=by rw[Bool.eq_false_iff];intro z;rw[le _ _ z]at c;cases c
 simp[this]
structure KT(H H':Hp)(q:Vb)(rs:List Vb)(n:Nat)(M:Nat->Nat->Bool):Prop where
 ext:Ext H H'
 fq:H q=Vo
 fr:∀r∈rs,H r=Vo
 len:rs.length=n
 nd:rs.Nodup
 nq:q∉rs
 rows:Rows H' q rs n M
def KT.tw(h:KT H H' q rs n M):TW H' H' q rs n M:=⟨λ_ _ _ e=>e,h.len,h.nd,h.nq,h.rows⟩
def KT.tb(h:KT H H' q rs n M):TB H' H' q rs rs n M:=⟨λ_ _ _ e=>e,h.len,h.nd,h.nq,λ_ h=>.inl h,h.rows⟩
def KT.more(h:KT H H1 q rs n M)(e:Ext H1 H2):KT H H2 q rs n M:=⟨h.ext.trans e,h.fq,h.fr,h.len,h.nd,h.nq,h.rows.ext e⟩
def KT.byW(h:KT H H1 q rs n M)(t:TW H1 H2 q rs n M'):KT H H2 q rs n M':=
 ⟨λb o e=>t.keep b o (λz=>by rw[h.fr b z]at e;cases e) (h.ext b o e),h.fq,h.fr,h.len,h.nd,h.nq,t.rows⟩
def KT.byB{rs':List Vb}(h:KT H H1 q rs n M)(t:TB H1 H2 q rs rs' n M'):KT H H2 q rs' n M':=
 ⟨λb o e=>t.keep b o (λz=>by rw[z,h.fq]at e;cases e) (h.ext b o e),h.fq,λr a=>by
  rcases t.old r a with z|z
  .exact h.fr r z
  .cases e:H r with
   | none=>rfl
   | some o=>exact absurd ((h.ext r o e).symm.trans z) (by simp),t.len,t.nd,t.nq,t.rows⟩
inductive vS(K:Eo)(vs:List V)(H:Hp)(Q:VK)(E:XK):Prop|mk:∀a m ws,vs=[a]->bh H a m ws->HOuse m ws->(∀q rs M H',KT H H' q rs m.toNat M->yk ws M->Q (.ref q) H')->vS K vs H Q E
theorem yp(T:Bu w mg base):Cal P w K mg base "beginning_table" 2 ["house"] (vS K):=by
 refine(ck T.d_beginning_table).oS ["house","table","p","way"] λy nd H vs Q E h=>?_;obtain⟨vh,m,ws,rfl,hv,ok,q⟩:=h;have m1:=ok.m1;have m12:=ok.m12;obtain⟨F,ab,rfl,hh,_⟩:=id hv;refine⟨_,(@av _ _ _ _ _ (@aG _ _ 1 _ _ _ _ nd rfl oi (@bp _ _ _ _ aa) rfl oi)
   (@av _ _ _ _ _ (bt PassesOwn.never rfl (cM rfl T.range_ (aq (@ao _ _ _ _ _ _ _ (az K) (pv 0) af (λ_ _=>rfl)) aa rfl)) (aI (i:=2) nd rfl oj) (@aw _ _ _ (bj (bL K ED ES ET bR (pv 1) (aq (cn ["q"] [2] (cM rfl T.range_ (aq (@ao _ _ _ _ _ _ _ (az K) (pv 0) af (λ_ _=>rfl)) aa rfl)) (λ_=>(aI (i:=0) (show(["q","p"]:List Vm).Nodup from by decide +kernel) rfl oi oj)) (λ_=>cz) (λ_=>(cY bH (pv 1) (pv 0) (aJ _)))) aa rfl)))))
   (@av _ _ _ _ _ (bt PassesOwn.never rfl (bP K (aB (kB T) y (aq (pv 0) (aq aU aa rfl) rfl))) (aI (i:=3) nd rfl oi) (@aw _ _ _ (@eM _ _ _ _ _ _ a7 (f7 (@ao _ _ _ _ _ _ _ (aM K) (pv 1) (@ao _ _ _ _ _ _ _ (az K) (pv 3) af (λ_ _=>rfl)) (λ_ _=>rfl)) (@ao _ _ _ _ _ _ _ (az K) (pv 3) af (λ_ _=>rfl)) set_list) rfl rfl rfl)))
   (@aw _ _ _ (@aD _ _ _ _ (pv 1)))))),?_⟩
 walk_at"";refine aO λtq H1 e1 a5 R=>?_;walk_at"";refine ay (ah.of (e1 _ _ hh)) (v:=.int m) rfl ?_;walk_at"";refine cN (by lia) ?_;refine forR (λp σ H'=>∃rs k1 k2,Ext H H'/\H' tq=Vn (.lst (List.map V.ref rs))/\(∀r∈rs,H r=Vo)/\rs.length=p/\rs.Nodup/\tq∉rs/\(∀(a:Nat) (r:Vb),rs[a]?=Vn r->H' r=Vn (.lst (aP m.toNat λj=>decide (a=j))))/\σ=[Vn (.ref F),Vn (.ref tq),k1,k2]) ⟨[],_,_,e1,a5,λr y=>(by cases y),rfl,List.nodup_nil,by simp,λa r h=>by simp at h,rfl⟩ ?_ ?_
 .rintro p σ H2 hp ⟨rs,k1,k2,N,d,G,A,B,s,hrs,rfl⟩;rw[show (0:Int)+(p:Int)=((p:Nat):Int) by lia];walk_at"";refine⟨df (ag.of d),?_⟩;walk_at"";refine ay (ah.of (N _ _ hh)) (v:=.int m) rfl ?_;walk_at"";refine cN (by lia) ?_;refine gG (λi ys H'=>H'=H2/\ys=aP i (λj=>decide (p=j))) (bT (by lia)) ⟨rfl,rfl⟩ ?_ ?_ ?_
  .rintro i ys H' _ ⟨_,rfl⟩;rw[bW];exact ER _
  .rintro i ys I hi ⟨rfl,rfl⟩;rw[show (0:Int)+(i:Int)=((i:Nat):Int) by lia];walk_at"";refine aC ?_;walk_at"";refine⟨rfl,?_⟩;rw[jO];congr 3;rw[E8];simp;lia
  .rintro ys I n ⟨hH,rfl⟩ k;subst hH;have O:=a8 (o:=.lst (aP m.toNat λj=>decide (p=j))) k;have S:=O _ _ d;have h9:(upd I n (.lst (aP m.toNat λj=>decide (p=j)))) n=_:=aK;have U:=N.trans O;have hrs3:∀(a:Nat) (r:Vb),rs[a]?=Vn r->(upd I n (.lst (aP m.toNat λj=>decide (p=j)))) r=Vn (.lst (aP m.toNat λj=>decide (a=j))):=λa r h=>O _ _ (hrs a r h);have n9:H n=Vo:=by
    cases z:H n with
    | none=>rfl
    | some o=>rw[N _ _ z]at k;cases k
   have nin:n∉rs:=λz=>by obtain⟨j,W⟩:=Fi z;rw[hrs j n W]at k;cases k
   have X:tq≠n:=λz=>by rw[z,k]at d;cases d
   generalize upd I n (.lst (aP m.toNat λj=>decide (p=j)))=Y at O S h9 U hrs3 ⊢;walk_at"";refine bN S (by rw[Ew];exact Nat.lt_of_le_of_lt (show rs.length<=12 by lia) (by decide)) ?_;walk_at"";have keep:∀b o,b≠tq->Y b=Vn o->upd Y tq (.lst (List.map V.ref rs++[.ref n])) b=Vn o:=λb o nb e=>by rw[aF nb];exact e
   refine⟨rs++[n],_,_,bK U R,?_,λr y=>?_,by rw[EN,A];rfl,?_,λz=>?_,λa r ha=>?_,rfl⟩
   .rw[aK,EM];rfl
   .rcases EU.mp y with y|y
    .exact G r y
    .rw[EG.mp y];exact n9
   .rw[List.nodup_append];refine⟨B,by simp,λa ha c hc z=>?_⟩;rw[EG.mp hc]at z;exact nin (z ▸ ha)
   .rcases EU.mp z with z|z
    .exact s z
    .exact X (EG.mp z)
   .by_cases hal:a<rs.length
    .rw[EW hal]at ha;exact keep r _ (λz=>s (z ▸ EF ha)) (hrs3 a r ha)
    .rw[EV (by lia)]at ha;have hz:a-rs.length=0:=by have:=(EE.mp ha).1;simp at this;lia
     rw[hz]at ha;cases ha;have:a=p:=by lia
     subst this;exact keep n _ (Ne.symm X) h9
 .rintro σ H2 ⟨rs,k1,k2,N,d,G,A,B,s,hrs,rfl⟩;have tw:TW H2 H2 tq rs m.toNat (λi j=>decide (i=j)):=⟨λ_ _ _ e=>e,A,B,s,d,hrs⟩;have kt:KT H H2 tq rs m.toNat (λi j=>decide (i=j)):=⟨N,R,G,A,B,s,d,hrs⟩;walk_at"";refine⟨.ref F,m,ws,_,rfl,hv.ext N,ok,λl cs us I O Z hl a1 a3=>?_⟩;have J:=kt.more O;have nl:l∉rs:=λz=>by obtain⟨j,W⟩:=Fi z;rw[hrs j l W]at Z;cases Z
  have a4:=a1.1;have tupN:∀(b:Vb) (w:Way),I b=Vn (.tup w.vs)->b∉rs:=λb w hb z=>by obtain⟨j,W⟩:=Fi z;rw[J.rows.2 j b W]at hb;cases hb
  refine bO (ag.of hl) ?_;refine forL (xs:=List.map V.ref cs) (λi σ H'=>∃M k1 k2,TW I H' tq rs m.toNat M/\(∀a b,M a b=true↔(a=b\/∃w∈us.take i,w.room.toNat=a/\w.other.toNat=b))/\σ=[Vn (.ref F),Vn (.ref tq),k1,k2]) ⟨_,_,_,J.tw,λa b=>by simp,rfl⟩ (λi σ H' _ h=>by obtain⟨M,k1,k2,t,_⟩:=h;exact ag.of (t.keep _ _ nl hl)) ?_ ?_
  .rintro i v σ Y hx ⟨M,k1,k2,g,hM,rfl⟩;rw[Ey]at hx;obtain⟨b,hb,rfl⟩:=EH.mp hx;have hi:i<us.length:=by rw[<-a4];exact(EE.mp hb).1
   have gu:us[i]?=Vn us[i]:=Ex hi;have L:=a1.2 i b _ hb gu;generalize us[i]=u at gu L;have a6:u∈ws:=by have:=EF gu;rw[a3]at this;exact(List.mem_filter.mp this).1
   have C:=ok.ok u a6;have u0:=C.r0;have u1:=C.r1;have u2:=C.o0;have u3:=C.o1;have kb:=g.keep _ _ (tupN b u L) L;have x2:u.room.toNat<rs.length:=by rw[g.len];lia
   have r2:rs[u.room.toNat]?=Vn rs[u.room.toNat]:=Ex x2;have w2:=g.rows.2 _ _ r2;generalize rs[u.room.toNat]=a2 at r2 w2;have at2:bx (rs.map V.ref) u.room=Vn (.ref a2):=dZ u0 (by rw[Ey,r2];rfl);walk_at"";refine ay (ah.of kb) (v:=.int u.room) rfl ?_;walk_at"";refine aL (ag.of g.rows.1) at2 ?_;walk_at"";refine ay (ah.of kb) (v:=.int u.other) rfl ?_;walk_at"";refine gJ w2 (gy u2 (by rw[bW];lia)) ?_;refine⟨_,_,_,g.mark r2 (by lia),λa c=>?_,rfl⟩;rw[List.take_add_one,gu];unfold put2;split
   .rename_i z;simp only[true_iff];exact .inr ⟨u,Fd _ (by simp),z.1.symm,z.2.symm⟩
   .rename_i z;rw[hM];constructor
    .rintro(h|⟨w,x,h⟩)
     .exact .inl h
     .exact .inr ⟨w,Fe _ x,h⟩
    .rintro(h|⟨w,x,h1,h2⟩)
     .exact .inl h
     .rcases EU.mp x with x|x
      .exact .inr ⟨w,x,h1,h2⟩
      .have:w=u:=by simpa using x
       subst this;exact absurd ⟨h1.symm,h2.symm⟩ z
  .rintro σ Y ⟨M,k1,k2,g,hM,rfl⟩;rw[Ew,a4,EZ]at hM;walk_at"";refine q tq rs M Y (J.byW g) λa b=>?_;rw[hM,a3];constructor
   .rintro(h|⟨w,x,h⟩)
    .exact .inl h
    .obtain⟨h1,h2⟩:=List.mem_filter.mp x;exact .inr ⟨w,h1,of_decide_eq_true h2,h⟩
   .rintro(h|⟨w,x,hd,h⟩)
    .exact .inl h
    .exact .inr ⟨w,List.mem_filter.mpr ⟨x,Fq hd⟩,h⟩
structure UD(H:Hp)(tq:Vb)(rs:List Vb)(lu ld:Vb)(cu cd:List Vb)(us ds:List Way):Prop where
 u:H lu=Vn (.lst (List.map V.ref cu))
 au:aT H cu us
 d:H ld=Vn (.lst (List.map V.ref cd))
 ad:aT H cd ds
 nu:lu∉rs
 nd:ld∉rs
 qu:lu≠tq
 qd:ld≠tq
def aT.byW(r:Rows H q rs n M)(t:TW H H' q rs n M'){bs:List Vb}(h:aT H bs ws):aT H' bs ws:=⟨h.1,λj b w a c=>by have hb:=h.2 j b w a c;refine t.keep b _ (λz=>?_) hb;obtain⟨j,d⟩:=Fi z;rw[r.2 j b d]at hb;cases hb⟩
def aT.byB{rs':List Vb}(r:Rows H q rs n M)(t:TB H H' q rs rs' n M'){bs:List Vb}(h:aT H bs ws):aT H' bs ws:=⟨h.1,λj b w a c=>by have hb:=h.2 j b w a c;refine t.keep b _ (λz=>?_) hb;rw[z,r.1]at hb;cases hb⟩
theorem UD.byW{H H':Hp}{tq:Vb}{rs:List Vb}{lu ld:Vb}{cu cd:List Vb}{us ds:List Way}{n:Nat}{M M':Nat->Nat->Bool}(r:Rows H tq rs n M)(t:TW H H' tq rs n M')(h:UD H tq rs lu ld cu cd us ds):UD H' tq rs lu ld cu cd us ds:=
 ⟨t.keep _ _ h.nu h.u,h.au.byW r t,t.keep _ _ h.nd h.d,h.ad.byW r t,h.nu,h.nd,h.qu,h.qd⟩
theorem UD.byB{H H':Hp}{tq:Vb}{rs rs':List Vb}{lu ld:Vb}{cu cd:List Vb}{us ds:List Way}{n:Nat}{M M':Nat->Nat->Bool}(r:Rows H tq rs n M)(t:TB H H' tq rs rs' n M')(h:UD H tq rs lu ld cu cd us ds):UD H' tq rs' lu ld cu cd us ds:=by
 have no:∀l o,H l=Vn o->l∉rs->l∉rs':=λl o a b z=>by
  rcases t.old l z with y|y
  .exact b y
  .rw[a]at y;cases y
 exact⟨t.keep _ _ h.qu h.u,h.au.byB r t,t.keep _ _ h.qd h.d,h.ad.byB r t,no _ _ h.u h.nu,no _ _ h.d h.nd,h.qu,h.qd⟩
def nA(ws:List Way)(n:Nat)(M:Nat->Nat->Bool):Prop:=∀i j,i<n->j<n->(M i j=true↔Kpt ws n i j)
structure KJ(ws:List Way)(n:Nat)(M:Nat->Nat->Bool):Prop where
 beg:∀i j,(i=j\/∃w∈ws,w.deed = "stay"/\w.room.toNat=i/\w.other.toNat=j)->M i j=true
 snd:∀i j,M i j=true->i=j\/Kpt ws n i j
def zp(ok:∀w∈ws,w.Ok m)(h:KJ ws m.toNat M)(tr:∀i a j,a<m.toNat->M i a=true->M a j=true->M i j=true)(b:∀u∈ws.filter (λw=>decide (w.deed=Fb "up")),∀d∈ws.filter (λw=>decide (w.deed=Fb "down")),M u.other.toNat d.room.toNat=true->M u.room.toNat d.other.toNat=true):nA ws m.toNat M:=by
 intro i j hi c;constructor
 .intro e;rcases h.snd i j e with rfl|h
  .exact .refl hi
  .exact h
 .intro g;clear hi c;induction g with
  | refl _=>exact h.beg _ _ (.inl rfl)
  | stay h1 h2=>exact h.beg _ _ (.inr ⟨_,h1,h2,rfl,rfl⟩)
  | trans h1 h2 i1 i2=>exact tr _ _ _ (Kpt.lt ok h1).2 i1 i2
  | arch h1 h2 k l o n=>exact b _ (List.mem_filter.mpr ⟨h1,Fq h2⟩) _ (List.mem_filter.mpr ⟨k,Fq l⟩) n
def KJ.join(h:KJ ws m.toNat M)(j:Joined m.toNat M M'):KJ ws m.toNat M':=by
 refine⟨λa b hb=>j.le _ _ (h.beg a b hb),λa b c=>j.least (λa b=>a=b\/Kpt ws m.toNat a b) (λi a j h1 h2=>?_) h.snd a b c⟩;rcases h1 with rfl|h1
 .exact h2
 .rcases h2 with rfl|h2
  .exact .inr h1
  .exact .inr (.trans h1 h2)
theorem KJ.arch{m:Int}{ws:List Way}{M M':Nat->Nat->Bool}{ad:Bool}(ok:∀w∈ws,w.Ok m)(h:KJ ws m.toNat M)(a:ArchR m.toNat (ws.filter λw=>decide (w.deed=Fb "up")) (ws.filter λw=>decide (w.deed=Fb "down")) M M' ad):KJ ws m.toNat M':=by
 refine⟨λi j hb=>a.le _ _ (h.beg i j hb),λi j k=>a.least (λa b=>a=b\/Kpt ws m.toNat a b) (λu l d hd hs=>?_) h.snd i j k⟩;obtain⟨n,c⟩:=List.mem_filter.mp l;obtain⟨g,e⟩:=List.mem_filter.mp hd;have c:=of_decide_eq_true c;have e:=of_decide_eq_true e;right;refine .arch n c g e ?_;rcases hs with hs|hs
 .rw[hs];exact .refl (iI ok g).1
 .exact hs
inductive vf(K:Eo)(vs:List V)(H:Hp)(Q:VK)(E:XK):Prop|mk:∀a m ws,vs=[a]->bh H a m ws->HOuse m ws->(∀q rs M H',KT H H' q rs m.toNat M->nA ws m.toNat M->Q (.ref q) H')->vf K vs H Q E
theorem rY(T:Bu w mg base):Cal P w K mg base "kept_table" 3 ["house"] (vf K):=by
 refine(ck T.d_kept_table).oS ["house","table","ups","downs"] λy nd H vs Q E h=>?_;obtain⟨A,m,ws,rfl,S,ok,q⟩:=h;have m1:=ok.m1;have m12:=ok.m12;refine⟨_,(av (aG (i:=1) nd rfl oi (aB (yp T) y (ae (pv 0) aa)))
   (av (aG (i:=2) nd rfl oi (aB (kB T) y (ae (pv 0) (ae aU aa))))
   (av (aG (i:=3) nd rfl oi (aB (kB T) y (ae (pv 0) (ae aU aa))))
   (av (bj (aB (sy T) y (ae (pv 1) aa)))
   (av (fA PassesOwn.never (a0 (aB (BR T) y (ae (pv 1) (ae (pv 2) (ae (pv 3) aa))))) (aw (bj (aB (sy T) y (ae (pv 1) aa)))))
   (aw (aD (pv 1)))))))),?_⟩
 walk_at"";refine⟨A,m,ws,rfl,S,ok,λtq rs M H1 kt bg=>?_⟩;walk_at"";refine⟨A,m,ws,_,rfl,S.ext kt.ext,ok,λlu cu us H2 U C r F v=>?_⟩;walk_at"";refine⟨A,m,ws,_,rfl,S.ext (kt.ext.trans U),ok,λld cd ds H3 W G s I hds=>?_⟩;have x:=kt.more (U.trans W);have kj:KJ ws m.toNat M:=⟨λi j h=>(bg i j).mpr h,λi j h=>by
  rcases(bg i j).mp h with h|⟨w,X,hd,rfl,rfl⟩
  .exact .inl h
  .exact .inr (.stay X hd)⟩
 have nin:∀l,H1 l=Vo->l∉rs/\l≠tq:=λl O=>by
  refine⟨λz=>?_,λz=>?_⟩
  .obtain⟨j,Y⟩:=Fi z;rw[kt.rows.2 j l Y]at O;cases O
  .rw[z,kt.rows.1]at O;cases O
 have e:H1 ld=Vo:=by
  cases z:H1 ld with
  | none=>rfl
  | some o=>rw[U _ _ z]at G;cases G
 have ud:UD H3 tq rs lu ld cu cd us ds:=⟨W _ _ r,F.ext W,s,I,(nin lu C).1,(nin ld e).1,(nin lu C).2,(nin ld e).2⟩;have hin:∀w∈us++ds,0<=w.room/\w.room<(m.toNat:Int)/\0<=w.other/\w.other<(m.toNat:Int):=λw X=>by
  have Z:w∈ws:=by
   rcases EU.mp X with h|h
   .rw[v]at h;exact(List.mem_filter.mp h).1
   .rw[hds]at h;exact(List.mem_filter.mp h).1
  have h:=ok.ok w Z;have h1:=h.r0;have h2:=h.r1;have h3:=h.o0;have h4:=h.o1;lia
 clear r F s I nin e;walk_at"";refine⟨tq,rs,m.toNat,M,rfl,x.tb,by lia,λab M1 H4 tb jd=>?_⟩;have ac:=x.byB tb;have ai:=ud.byB x.rows tb;have aj:=kj.join jd;walk_at"";refine fo (λmm σ H'=>∃rs M,KT H H' tq rs m.toNat M/\UD H' tq rs lu ld cu cd us ds/\KJ ws m.toNat M/\(∀i a j,a<m.toNat->M i a=true->M a j=true->M i j=true)/\mm=iN m.toNat M/\σ=[Vn A,Vn (.ref tq),Vn (.ref lu),Vn (.ref ld)]) (λσ H'=>∃rs M,KT H H' tq rs m.toNat M/\nA ws m.toNat M/\σ=[Vn A,Vn (.ref tq),Vn (.ref lu),Vn (.ref ld)]) (iN m.toNat M1) ⟨ab,M1,ac,ai,aj,jd.tr,rfl,rfl⟩ ?_ ?_
 .rintro mm σ H5 ⟨g,R,k,c,ak,am,rfl,rfl⟩;walk_at"";refine⟨tq,g,m.toNat,R,lu,cu,us,ld,cd,ds,rfl,k.tw,c.u,c.au,c.d,c.ad,c.nu,c.nd,hin,λM6 ad H6 tw B cl=>?_⟩;have n:=k.byW tw;have an:=c.byW k.rows tw;rw[v,hds]at B;have J:=ak.arch ok.ok B;walk_at"";cases ad with
  | false=>
   refine ax ⟨g,M6,n,zp ok.ok J (λi a j ha h1 h2=>?_) (λu hu d hd hm=>?_),rfl⟩
   .rw[B.same rfl]at h1 h2 ⊢;exact am i a j ha h1 h2
   .rw[B.same rfl]at hm ⊢;exact cl rfl u (by rw[v];exact hu) d (by rw[hds];exact hd) hm
  | true=>
   refine aC ⟨λL H'=>∃rs M,KT H H' tq rs m.toNat M/\UD H' tq rs lu ld cu cd us ds/\KJ ws m.toNat M/\(∀i a j,a<m.toNat->M i a=true->M a j=true->M i j=true)/\iN m.toNat M<iN m.toNat R/\L=[Vn A,Vn (.ref tq),Vn (.ref lu),Vn (.ref ld)],λL H' ⟨rs,M,a1,a2,a3,a4,a5,a6⟩=>⟨_,a5,rs,M,a1,a2,a3,a4,rfl,a6⟩,?_⟩;walk_at"";refine⟨tq,g,m.toNat,M6,rfl,n.tb,by lia,λap M7 H7 N p=>?_⟩;walk_at"";obtain⟨i,j,hi,Y,hf,ht⟩:=B.more rfl;exact⟨ap,M7,n.byB N,an.byB n.rows N,J.join p,p.tr,xE hi Y (λa b h=>p.le _ _ (B.le _ _ h)) hf (p.le _ _ ht),rfl⟩
 .rintro σ H5 ⟨g,R,k,as,rfl⟩;walk_at"";exact q tq g R H5 k as
def nk{sp:Sp}{js:List Nat}{cells:List (Vm×Vb)}{N:List Vm}{ta:TA} (h:ta σ H λvs H1=>(∀j∈js,∃v,σ[j]?=Vn (Vn v)) ∧
 ∀cp:List Cap,cp.length=js.length->(∀(i j:Nat) (e:Cap),js[i]?=Vn j->cp[i]?=Vn e->N[j]?=Vn e.n/\cells.lookup e.n=Vn e.c/\σ[j]?=Vn (Vn e.v)/\H1 e.c=Vo/\∃u,e.o.data=.cell (Vn u)/\RelV e.v u) ->
  sp vs (bQ (cellsOf cp) H1) (λv H'=>(∀b o,(cellsOf cp).lookup b=Vn o->H' b=Vn (dG b o))/\Q v (a9 (cellsOf cp) H')) E0):jL sp js cells N ta σ H Q:=h
def vA{P:Vd}{w:Ve}{K:Eo}{mg:Vm->Option Va}{base:Vh}{k:Nat}{a:TE}{ta:TA}(h:a σ H λb H1=>∃f pre R,b=.ref f/\FunR P w K mg base k f pre R/\pre H1/\ta σ H1 λvs H2=>pre H2/\R vs H2 Q):pV P w K mg base k a ta σ H Q:=h
def kE(a:∀b o,cs.lookup b=Vn o->H b=Vo):Ext H (bQ cs H):=λb o e=>mn a e
def hV(a:∀b o,cs.lookup b=Vn o->H b=Vn (dG b o)){b:Vb}{x:HO}(hb:H b=Vn x)(nx:∀f,x≠.ext f):a9 cs H b=Vn x:=by
 cases q:cs.lookup b with
 | none=>rw[c6 q];exact hb
 | some o=>rw[a b o q]at hb;cases hb;exact absurd rfl (nx _)
def Bn(a:∀b o,cs.lookup b=Vn o->H b=Vn (dG b o)):Ext H (bQ cs (a9 cs H)):=λb x e=>by
 cases q:cs.lookup b with
 | none=>rw[dw q,c6 q];exact e
 | some o=>rw[fB q,<-a b o q];exact e
def D7(a:∀b o,cs.lookup b=Vn o->H b=Vo)(e:Ext (bQ cs H) H'):Ext H (a9 cs H'):=λb x hb=>by
 cases q:cs.lookup b with
 | none=>rw[c6 q];exact e b x (by rw[dw q];exact hb)
 | some o=>rw[a b o q]at hb;cases hb
def dz(n:Nat)(g:Nat->Nat->Bool):Nat->List Bfs.Pl
 | 0=>[]
 | p+1=>dz n g p++((Fo n).filter (g p)).map λq:Nat=>(((p:Nat):Int),((q:Nat):Int))
theorem iZ{n:Nat}{g:Nat->Nat->Bool}{x:Bfs.Pl}:∀{k:Nat},x∈dz n g k↔∃p q:Nat,p<k/\q<n/\g p q=true/\x=(((p:Nat):Int),((q:Nat):Int))
 | 0=>⟨λh=>(nomatch h),λ⟨p,_,h,_⟩=>absurd h (Nat.not_lt_zero _)⟩
 | k+1=>by
  show x∈dz n g k++_↔_;rw[EU,iZ (k:=k)];constructor
  .rintro(⟨p,q,h1,h2⟩|h)
   .exact⟨p,q,by lia,h2⟩
   .obtain⟨q,b,rfl⟩:=List.mem_map.mp h;obtain⟨h1,h2⟩:=List.mem_filter.mp b;exact⟨k,q,by lia,List.mem_range.mp h1,h2,rfl⟩
  .rintro⟨p,q,h1,h2,a,rfl⟩;by_cases c:p<k
   .exact .inl ⟨p,q,c,h2,a,rfl⟩
   .have:p=k:=by lia
    subst this;exact .inr (List.mem_map.mpr ⟨q,List.mem_filter.mpr ⟨List.mem_range.mpr h2,a⟩,rfl⟩)
def mi(n:Nat)(g:Nat->Bool):((Fo n).filter g).length<=n:=E4 (List.length_filter_le _ _) (by rw[List.length_range];exact ER _)
theorem l4{n:Nat}{g:Nat->Nat->Bool}:∀k:Nat,(dz n g k).length<=k*n
 | 0=>by simp[dz]
 | k+1=>by show(dz n g k++_).length<=_;rw[EN,Ew,Nat.succ_mul];have:=l4 (n:=n) (g:=g) k;have:=mi n (g k);lia
def cy(f:∀a x,aE H a x->aE H' a x){xs:List Bfs.Pl}(h:Paired (aE H) as xs):Paired (aE H') as xs:=by
 induction h with
 | nil=>exact .nil
 | cons h t b=>exact .cons (f _ _ h) b
def jW{xs:List Bfs.Pl}{a:Vb}{x:Bfs.Pl}(h:Paired (aE H) as xs)(b:aE H a x):Paired (aE H) (as++[a]) (xs++[x]):=by
 induction h with
 | nil=>exact .cons b .nil
 | cons h _ c=>exact .cons h c
def sT{bs:List Vb}{xs ys:List Bfs.Pl}(h:Paired (aE H) as xs)(h':Paired (aE H) bs ys):Paired (aE H) (as++bs) (xs++ys):=by
 induction h with
 | nil=>exact h'
 | cons h _ a=>exact .cons h a
def eh{xs:List Bfs.Pl}(h:Paired (aE H) as xs):as.length=xs.length:=by
 induction h with
 | nil=>rfl
 | cons _ _ a=>rw[EY,EY,a]
def rW(P:Vd)(w:Ve)(K:Eo)(mg:Vm->Option Va)(base:Vh):Sp:=λvs H Q _=>∃a m ws f pre g,vs=[a,.ref f]/\bh H a m ws/\HOuse m ws/\FunR P w K mg base 1 f pre (λvs H Q=>∃p q:Nat,vs=[.int (p:Nat),.int (q:Nat)]/\(p:Int)<m/\(q:Int)<m/\∀H',Ext H H'->Q (.bl (g p q)) H')/\pre H/\(∀H H',Ext H H'->pre H->pre H') ∧
 ∀l ps H',Ext H H'->H l=Vo->H' l=Vn (.lst (List.map V.ref ps))->Paired (aE H') ps (dz m.toNat g m.toNat)->Q (.ref l) H'
theorem r6(T:Bu w mg base):Cal P w K mg base "told_pairs" 2 ["house","choice"] (rW P w K mg base):=by
 have ln:∀vs H Q E,(rW P w K mg base) vs H Q E->vs.length=2:=by intro vs H Q E h;obtain⟨Y,m,ws,f,pre,g,rfl,_⟩:=h;rfl
 refine(bw T.d_told_pairs).oS ["house","choice","pairs","p"] (λZ nd H vs Q E h=>?_) ln;obtain⟨Y,m,ws,N,pre,g,rfl,hv,ok,hF,r,d,q⟩:=h;have m1:=ok.m1;have m12:=ok.m12;obtain⟨J,a1,rfl,O,_⟩:=id hv;refine⟨_,(@av _ _ _ _ _ (@aG _ _ 2 _ _ _ _ nd rfl oi (@bp _ _ _ _ aa) rfl oi)
   (@av _ _ _ _ _ (bt PassesOwn.never rfl (cM rfl T.range_ (aq (@ao _ _ _ _ _ _ _ (az K) (pv 0) af (λ_ _=>rfl)) aa rfl)) (aI (i:=3) nd rfl oj) (@aw _ _ _ (bj (bL K ED PySem.F.slot_list_extend PySem.F.type_list_extend AN (pv 2) (aq (cn ["q"] [3,1] (cM rfl T.range_ (aq (@ao _ _ _ _ _ _ _ (az K) (pv 0) af (λ_ _=>rfl)) aa rfl)) (λ_=>(aI (i:=0) (show(["q","p","choice"]:List Vm).Nodup from by decide +kernel) rfl oi oj)) (λ_=>(gj (a0 (wm (P:=P) (w:=w) (K:=K) (mg:=mg) (base:=base) Z (pv 2) (aq (pv 1) (aq (pv 0) aa rfl) rfl))))) (λ_=>(@bG _ _ _ _ _ (aq (pv 1) (aq (pv 0) aa rfl) rfl)))) aa rfl)))))
   (@aw _ _ _ (@aD _ _ _ _ (pv 2))))),?_⟩
 walk_at"";refine aO λl H1 R hl A=>?_;walk_at"";refine ay (ah.of (R _ _ O)) (v:=.int m) rfl ?_;walk_at"";refine cN (by lia) ?_;refine forR (λp σ H'=>∃ps k1,Ext H H'/\H' l=Vn (.lst (List.map V.ref ps))/\Paired (aE H') ps (dz m.toNat g p)/\σ=[Vn (.ref J),Vn (.ref N),Vn (.ref l),k1]) ⟨[],_,R,hl,.nil,rfl⟩ ?_ ?_
 .rintro p σ H2 hp ⟨ps,k1,B,e,j,rfl⟩;rw[show (0:Int)+(p:Int)=((p:Nat):Int) by lia];have a2:=eh j;have a3:=l4 (n:=m.toNat) (g:=g) p;have a4:p*m.toNat<=12*12:=Nat.mul_le_mul (by lia) (by lia);walk_at"";refine⟨df (ag.of e),?_⟩;walk_at"";refine ay (ah.of (B _ _ O)) (v:=.int m) rfl ?_;walk_at"";refine cN (by lia) ?_;refine gG (λi ys H'=>Ext H2 H'/\∃cs,ys=List.map V.ref cs/\Paired (aE H') cs (((Fo i).filter (g p)).map λq:Nat=>(((p:Nat):Int),((q:Nat):Int)))) (bT (by lia)) ⟨Ext.rfl' _,[],rfl,.nil⟩ ?_ ?_ ?_
  .rintro i ys H' _ ⟨_,cs,rfl,b⟩;rw[Ew,eh b,Ew];exact mi i (g p)
  .rintro i ys L hi ⟨G,cs,rfl,b⟩;rw[show (0:Int)+(i:Int)=((i:Nat):Int) by lia];have C:=B.trans G;walk_at"";refine vA ?_;walk_at"";refine⟨N,pre,_,rfl,hF,d _ _ C r,?_⟩;walk_at"";refine⟨d _ _ C r,p,i,rfl,by lia,by lia,λH4 y=>?_⟩;have c:=G.trans y;cases S:g p i with
   | false=>
    refine rd_exb (ax ⟨c,cs,rfl,?_⟩);rw[List.range_succ,List.filter_append];have:List.filter (g p) [i]=[]:=by rw[List.filter_cons,Fs (by rw[S];exact EL)];rfl
    rw[this,List.append_nil];exact cy (λa x h=>y _ _ h) b
   | true=>
    refine rd_exb (aC ?_);walk_at"";refine aO λt H5 U ht _=>?_;refine⟨c.trans U,cs++[t],?_,?_⟩
    .rw[EM];rfl
    .rw[List.range_succ,List.filter_append,EM];have:List.filter (g p) [i]=[i]:=by rw[List.filter_cons,Ft S];rfl
     rw[this];exact jW (cy (λa x h=>(y.trans U) _ _ h) b) ht
  .rintro ys L I ⟨G,cs,rfl,b⟩ M;have y:=a8 (o:=.lst (List.map V.ref cs)) M;have W:(upd L I (.lst (List.map V.ref cs))) I=_:=aK;have s:=cy (λa x h=>y _ _ h) b;have c:=G.trans y;have k:=c _ _ e;have u:=cy (λa x h=>c _ _ h) j;generalize upd L I (.lst (List.map V.ref cs))=H4 at y W s c k u ⊢;have hcl:=eh b;rw[Ew]at hcl;have X:=mi m.toNat (g p);walk_at"";refine⟨l,I,_,_,rfl,rfl,k,W,bT (by rw[Ew,Ew];lia),?_⟩;walk_at"";refine⟨ps++cs,_,bK (B.trans c) A,?_,?_,rfl⟩
   .rw[aK,EM]
   .exact sT (cy (λa x h=>aE.put k (λxs z=>by cases z) h) u) (cy (λa x h=>aE.put k (λxs z=>by cases z) h) s)
 .rintro σ H2 ⟨ps,k1,B,e,j,rfl⟩;walk_at"";exact q l ps H2 B A e j
def fW(K:Eo):Prop:=∀x∈(["kept","low_levels","risen"]:List Vm),∀y∈(["kept","low_levels","risen"]:List Vm),x≠y->∀c T c' a,PySem.W.tabIn K x=Vn (c,T)->PySem.W.tabIn K y=Vn (c',a)->a≠T
def Dr(K:Eo):Bool:=(["kept","low_levels","risen"]:List Vm).all λx=>(["kept","low_levels","risen"]:List Vm).all λy=>x == y || (match PySem.W.tabIn K x,PySem.W.tabIn K y with|some a,Vn b=>b.2 != a.2|_,_=>true)
def D8{K:Eo}(h:Dr K=true):fW K:=λx a y b d c T c' i e g=>by
 have h1:=E6.mp (E6.mp h x a) y b;rw[e,g,Bool.or_eq_true]at h1;rcases h1 with h1|h1
 .exact absurd (eq_of_beq h1) d
 .exact bne_iff_ne.mp h1
structure Tbs(K:Eo)(H:Hp):Prop where
 kept:eC K "kept" ("kept" ++ ".<locals>." ++ "<lambda>") 166 29 H
 low:eC K "low_levels" ("low_levels" ++ ".<locals>." ++ "<lambda>") 199 39 H
 risen:eC K "risen" ("risen" ++ ".<locals>." ++ "<lambda>") 171 29 H
theorem Tbs.ext{K:Eo}{H H':Hp}(e:Ext H H')(h:Tbs K H):Tbs K H':=⟨h.kept.ext e,h.low.ext e,h.risen.ext e⟩
def bX.et{kk:List (List Key)}(e:Et H H')(h:bX H p kk):bX H' p kk:=by obtain⟨bs,h1,h2,a⟩:=h;exact⟨bs,e _ _ h1 (λps z=>by cases z),h2,λj b k c d=>e _ _ (a j b k c d) (λps z=>by cases z)⟩
theorem bh.et{H H':Hp}{v:V}{m:Int}{ws:List Way}(e:Et H H')(h:bh H v m ws):bh H' v m ws:=by obtain⟨p,q,rfl,h1,h2⟩:=h;exact⟨p,q,rfl,e _ _ h1 (λps z=>by cases z),h2.et e⟩
def Rows.et(e:Et H H')(h:Rows H q rs n M):Rows H' q rs n M:=⟨e _ _ h.1 (λps z=>by cases z),λi r hi=>e _ _ (h.2 i r hi) (λps z=>by cases z)⟩
def aT.et{bs:List Vb}(e:Et H H')(h:aT H bs ws):aT H' bs ws:=⟨h.1,λj b w a c=>e _ _ (h.2 j b w a c) (λps z=>by cases z)⟩
def aE.et(e:Et H H'){x:Bfs.Pl}(h:aE H p x):aE H' p x:=e _ _ h (λps z=>by cases z)
def fD(H:Hp)(l:Vb)(n:Nat)(R:Nat->Nat->Prop):Prop:=∃ps g,H l=Vn (.lst (List.map V.ref ps))/\Paired (aE H) ps (dz n g n)/\∀i j,i<n->j<n->(g i j=true↔R i j)
theorem fD.et{H H':Hp}(e:Et H H'){l:Vb}{n:Nat}{R:Nat->Nat->Prop}(h:fD H l n R):fD H' l n R:=by obtain⟨ps,g,h1,h2,b⟩:=h;exact⟨ps,g,e _ _ h1 (λps z=>by cases z),cy (λa x h=>h.et e) h2,b⟩
def held{c a:Hp}(h:∀b o,cs.lookup b=Vn o->c b=Vo)(d:Ext (bQ cs c) a):(∀b o,cs.lookup b=Vn o->a b=Vn (dG b o))/\Ext c (a9 cs a)/\(∀l,bQ cs c l=Vo->a9 cs a l=a l)/\∀b x,a b=Vn x->(∀f,x≠.ext f)->a9 cs a b=Vn x:=by
 have e:∀b o,cs.lookup b=Vn o->a b=Vn (dG b o):=λb o q=>d _ _ (fB q);refine⟨e,D7 h d,λl g=>?_,λb x hb nx=>hV e hb nx⟩;cases q:cs.lookup l with
 | none=>exact c6 q
 | some o=>rw[fB q]at g;cases g
def mY{α:Type}{cp:List α}(h:cp.length=1):∃e,cp=[e]:=by
 cases cp with
 | nil=>exact absurd h (by simp)
 | cons e r=>
  cases r with
  | nil=>exact⟨e,rfl⟩
  | cons _ _=>exact absurd h (by simp)
def lA{α:Type}{cp:List α}(h:cp.length=2):∃e e',cp=[e,e']:=by
 cases cp with
 | nil=>exact absurd h (by simp)
 | cons e r=>
  obtain⟨e',rfl⟩:=mY (cp:=r) (by simpa using h);exact⟨e,e',rfl⟩
def xu{α:Type}{cp:List α}(h:cp.length=3):∃e e' a,cp=[e,e',a]:=by
 cases cp with
 | nil=>exact absurd h (by simp)
 | cons e r=>
  obtain⟨e',a,rfl⟩:=lA (cp:=r) (by simpa using h);exact⟨e,e',a,rfl⟩
def nZ{P:Vd}{w:Ve}{K:Eo}{mg:Vm->Option Va}{base:Vh}{k:Nat}{f c:Vb}{q:Vm}{params:Arguments}{body:Vk}{scope:Scope}{cl cells:List (Vm×Vb)}(i:H0 f=Vn (ft f c q params body scope cl))(C:ClOk scope cells cl)(ps:List Vm)(cp:List Cap)(R:List V->Hp->VK->Prop)(I:Hp->Prop)
  (S:LamSc ps scope) (bind:∀(pm g d:Va) (us:List Va),us.length=ps.length->bindArgs (PySem.W.kla_fn "<lambda>" q params body scope cl pm g d) ⟨us,[]⟩=pure (ps.zip us))
  (h:∀vs H Q,R vs H Q->vs.length=ps.length)
  (a:∀(A:Vi) (outer:List Env) (s:Vc) (H:Hp) (vs:List V) (Q:VK),Room k (A.deeper (fk q scope s.heap.objs.size f (.ref c) cl))->iA f c q params body scope cl cp H->I H->R vs H Q ->
   ∃te,PE (jt P w K mg base (ps++cp.map (·.n)) q scope f (.ref c) cl A outer s (a9 (cellsOf cp) H)) body te/\te (vs.map Vn++cp.map λe=>Vn e.v) (a9 (cellsOf cp) H) λv H'=>(∀b o,(cellsOf cp).lookup b=Vn o->H' b=Vo)->Q v (bQ (cellsOf cp) H')) :
  FunR P w K mg base (k+1) f (λH=>iA f c q params body scope cl cp H/\I H) R:=C2 I S C bind h a
inductive tp(K:Eo)(vs:List V)(H:Hp)(Q:VK)(E:XK):Prop|mk:∀a m ws,vs=[a]->bh H a m ws->HOuse m ws->fW K->Tbs K H->(∀l H',Et H H'->Tbs K H'->fD H' l m.toNat (Kpt ws m.toNat)->Q (.ref l) H')->tp K vs H Q E
theorem Ei(T:Bu w mg base):Cal P w K mg base "kept" 7 ["house"] (tp K):=by
 obtain⟨c9,T9,B⟩:=T.b_kept;refine(ck T.d_kept).oL B ["house","table"] λhr nd H vs Q E h=>?_;obtain⟨vh,m,ws,rfl,hv,ok,U,I,q⟩:=h;have m1:=ok.m1;have m12:=ok.m12;refine⟨_,(av (bj (aB (j5 T) hr (ae (pv 0) aa)))
   (av (aG (i:=1) nd rfl oj (aB (rY T) hr (ae (pv 0) aa)))
   (aw (aD (mW [1] (r6 T) hr (ae (pv 0) (ae (ng rfl rfl B.hd B.blt B.gl (by decide +kernel) rfl rfl rfl) aa))))))),?_⟩
 walk_at"";refine⟨vh,m,ws,rfl,hv,ok,λH1 e1=>?_⟩;walk_at"";refine⟨vh,m,ws,rfl,hv.ext e1,ok,λtq rs M H2 kt km=>?_⟩;have g:=e1.trans kt.ext;have J:=kt.rows;have an:=kt.len;walk_at"";show jL _ [1] _ (["house","table"]:List Vm) _ _ _ _;generalize PySem.Env.cells _=cells0;refine nk ?_;walk_at"";refine lV ?_;refine mC (x:="kept") (I.ext g).kept B.tin λfl c' cl H3 hcl e3 ab ot hf ac=>?_;have t3:Tbs K H3:=⟨ab,ot "low_levels" _ _ _ (λc2 T2 e2=>U "kept" (by simp) "low_levels" (by simp) (by decide +kernel) _ _ _ _ B.tin e2) (I.ext g).low,ot "risen" _ _ _ (λc2 T2 e2=>U "kept" (by simp) "risen" (by simp) (by decide +kernel) _ _ _ _ B.tin e2) (I.ext g).risen⟩;walk_at"";refine⟨λj hj=>?_,λcp hlen W=>?_⟩
 .rw[EG.mp hj];exact⟨_,rfl⟩
 obtain⟨⟨n,c,o,v⟩,rfl⟩:=mY hlen;obtain⟨hN,X,L,y,u,F,G⟩:=W 0 1 _ rfl rfl;clear W hlen;dsimp only at hN X L y F G;have ad:(Fb "table")=n:=Fc hN;have Y:(V.ref tq)=v:=Fc (Fc L);clear hN L;subst ad;subst Y;have Z:∀b o',(cellsOf [⟨Fb "table",c,o,V.ref tq⟩]).lookup b=Vn o'->H3 b=Vo:=λb o' hb=>by obtain⟨e,he,rfl,rfl⟩:=g9 hb;rw[EG.mp he];exact y
 have ex:=kE Z;have C:=(J.et e3).ext ex;have ai:=((hv.ext g).et e3).ext ex;have N:Caps (bQ (cellsOf [⟨Fb "table",c,o,V.ref tq⟩]) H3) cl [⟨Fb "table",c,o,V.ref tq⟩]:=by
  obtain⟨c2,O⟩:=hcl.has (Fb "table") rfl;have a5:=(hcl.fr _ _ O).2;rw[X]at a5;cases a5;refine⟨λe he=>?_,λx d hx=>?_⟩
  .rw[EG.mp he];exact⟨O,fB (by simp[cellsOf]),u,F,G⟩
  .have hm:=iX (hcl.fr x d hx).1;simp at hm;subst hm;rw[O]at hx;cases hx;exact⟨_,EG.mpr rfl,rfl,rfl⟩
 have hF:=nZ (P:=P) (w:=w) (K:=K) (mg:=mg) (base:=base) (k:=0) hf hcl (["p","q"]:List Vm) [⟨Fb "table",c,o,V.ref tq⟩] (λvs H Q=>∃p q:Nat,vs=[.int (p:Nat),.int (q:Nat)]/\(p:Int)<m/\(q:Int)<m/\∀H',Ext H H'->Q (.bl (M p q)) H') (λH=>Rows H tq rs m.toNat M) ⟨rfl,rfl,rfl,by decide +kernel,by decide +kernel⟩ (λ_ _ _ us hl=>by obtain⟨u1,u2,rfl⟩:=lA hl;rfl) (λvs H Q h=>by obtain⟨p,q,rfl,_⟩:=h;rfl) (λA outer s H vs Q ar a6 hI hR=>by
  obtain⟨p,q,rfl,hp,hq,hQ⟩:=hR;have R:=a6.2.2.look;have S:Rows (a9 (cellsOf [⟨Fb "table",c,o,V.ref tq⟩]) H) tq rs m.toNat M:=⟨hV R hI.1 (λf z=>by cases z),λi r hi=>hV R (hI.2 i r hi) (λf z=>by cases z)⟩;refine⟨_,(ao (aM K) (ao (aM K) (pv 2) (pv 0) (λ_ _=>rfl)) (pv 1) (λ_ _=>rfl)),?_⟩;have hb:=Bn R;generalize a9 (cellsOf [⟨Fb "table",c,o,V.ref tq⟩]) H=HU at S hb ⊢;have aj:p<rs.length:=by lia
  have gp:rs[p]?=Vn rs[p]:=Ex aj;have rp:=S.2 p _ gp;generalize rs[p]=ap at gp rp;show iQ _ _ _ [Vn (.int (p:Nat)),Vn (.int (q:Nat)),Vn (.ref tq)] _ _;walk_at"";refine aL (ag.of S.1) (v:=.ref ap) (eY (by rw[Ey,gp];rfl)) ?_;walk_at"";refine aL (ag.of rp) (dR (by lia) (by lia)) ?_;rw[EI];exact λ_=>hQ _ hb)
 refine⟨vh,m,ws,fl,_,M,rfl,ai,ok,hF,⟨⟨ex _ _ hf,ex _ _ ac,N⟩,C⟩,λH H' e h=>⟨h.1.ext e,h.2.ext e⟩,λl ps H4 e4 hl ak am=>?_⟩;obtain⟨a1,a2,a3,a4⟩:=held Z e4;exact⟨a1,q l _ ((g.et.trans e3).trans a2.et) (t3.ext a2) ⟨ps,M,a4 _ _ ak (λf z=>by cases z),cy (λa x h=>a4 _ _ h (λf z=>by cases z)) am,km⟩⟩
def bo(ws:List Way)(n:Nat)(i j:Nat):Prop:=∃u∈ws,u.deed = "up"/\u.room.toNat=i/\Kpt ws n u.other.toNat j
def vc(a:∀b o,cs.lookup b=Vn o->H b=Vn (dG b o))(e:Ext (a9 cs H) H'):Ext H (bQ cs H'):=λb x hb=>by
 cases q:cs.lookup b with
 | none=>rw[dw q];exact e b x (by rw[c6 q];exact hb)
 | some o=>rw[fB q,<-a b o q];exact hb
def j6(us:List Way)(M:Nat->Nat->Bool)(p q:Nat):Bool:=((us.filter λu=>decide (u.room=(p:Int))).map λu=>M u.other.toNat q).any id
inductive w8(K:Eo)(vs:List V)(H:Hp)(Q:VK)(E:XK):Prop|mk:∀a m ws,vs=[a]->bh H a m ws->HOuse m ws->fW K->Tbs K H->(∀l H',Et H H'->Tbs K H'->fD H' l m.toNat (bo ws m.toNat)->Q (.ref l) H')->w8 K vs H Q E
theorem C7(T:Bu w mg base):Cal P w K mg base "risen" 7 ["house"] (w8 K):=by
 obtain⟨c9,T9,B⟩:=T.b_risen;refine(ck T.d_risen).oL B ["house","table","ups"] λhr nd H vs Q E h=>?_;obtain⟨vh,m,ws,rfl,hv,ok,au,ad,q⟩:=h;have m1:=ok.m1;have m12:=ok.m12;have few:=ok.few;refine⟨_,(av (bj (aB (j5 T) hr (ae (pv 0) aa)))
   (av (aG (i:=1) nd rfl oj (aB (rY T) hr (ae (pv 0) aa)))
   (av (aG (i:=2) nd rfl oj (aB (kB T) hr (ae (pv 0) (ae aU aa))))
   (aw (aD (mW [2,1] (r6 T) hr (ae (pv 0) (ae (ng rfl rfl B.hd B.blt B.gl (by decide +kernel) rfl rfl rfl) aa)))))))),?_⟩
 walk_at"";refine⟨vh,m,ws,rfl,hv,ok,λH1 e1=>?_⟩;walk_at"";refine⟨vh,m,ws,rfl,hv.ext e1,ok,λtq rs M cf kt km=>?_⟩;walk_at"";refine⟨vh,m,ws,_,rfl,hv.ext (e1.trans kt.ext),ok,λlu cu us H2 Z ch b1 b2 ai=>?_⟩;have G:=(e1.trans kt.ext).trans Z;have aj:=kt.rows.ext Z;have ci:=kt.len;have b4:=b2.1;have co:us.length<=100:=by rw[ai];exact E4 (List.length_filter_le _ _) few
 have hin:∀u∈us,u∈ws/\u.deed=Fb "up":=λu hu=>by rw[ai]at hu;obtain⟨h1,h2⟩:=List.mem_filter.mp hu;exact⟨h1,of_decide_eq_true h2⟩
 walk_at"";show jL _ [2,1] _ (["house","table","ups"]:List Vm) _ _ _ _;generalize PySem.Env.cells _=cells0;refine nk ?_;walk_at"";refine lV ?_;refine mC (x:="risen") (ad.ext G).risen B.tin λfl c' cl H3 hcl e3 bv ot hf c0=>?_;have t3:Tbs K H3:=⟨ot "kept" _ _ _ (λc2 T2 Z=>au "risen" (by simp) "kept" (by simp) (by decide +kernel) _ _ _ _ B.tin Z) (ad.ext G).kept,ot "low_levels" _ _ _ (λc2 T2 Z=>au "risen" (by simp) "low_levels" (by simp) (by decide +kernel) _ _ _ _ B.tin Z) (ad.ext G).low,bv⟩;walk_at"";refine⟨λj hj=>?_,λcp hlen ak=>?_⟩
 .rcases EK.mp hj with rfl|hj
  .exact⟨_,rfl⟩
  .rw[EG.mp hj];exact⟨_,rfl⟩
 obtain⟨⟨n,c,o,v⟩,⟨n',d,o',v'⟩,rfl⟩:=lA hlen;obtain⟨hN,b5,am,I,u,a5,a6⟩:=ak 0 2 _ rfl rfl;obtain⟨an,ab,J,y,u2,L,N⟩:=ak 1 1 _ rfl rfl;clear ak hlen;dsimp only at hN b5 am I a5 a6 an ab J y L N;have c1:(Fb "ups")=n:=Fc hN;have b7:(V.ref lu)=v:=Fc (Fc am);have b8:(Fb "table")=n':=Fc an;have ap:(V.ref tq)=v':=Fc (Fc J);clear hN am an J;subst c1;subst b7;subst b8;subst ap;obtain⟨c2,O⟩:=hcl.has (Fb "ups") rfl;obtain⟨d2,R⟩:=hcl.has (Fb "table") rfl;have ba:=(hcl.fr _ _ O).2;have bb:=(hcl.fr _ _ R).2;rw[b5]at ba;rw[ab]at bb;cases ba;cases bb;have c3:c≠d:=λz=>by have:=hcl.inj _ _ _ O (z ▸ R);exact absurd this (by decide +kernel)
 have bc:∀b o9,(cellsOf [⟨Fb "ups",c,o,V.ref lu⟩,⟨Fb "table",d,o',V.ref tq⟩]).lookup b=Vn o9->H3 b=Vo:=λb o9 hb=>by
  obtain⟨e,he,rfl,rfl⟩:=g9 hb;rcases EK.mp he with rfl|he
  .exact I
  .rw[EG.mp he];exact y
 have ex:=kE bc;have X:=(aj.et e3).ext ex;have be:=ex _ _ (e3 _ _ b1 (λps z=>by cases z));have bg:=(b2.et e3).ext ex;have c4:=((hv.ext G).et e3).ext ex;have ar:Caps (bQ (cellsOf [⟨Fb "ups",c,o,V.ref lu⟩,⟨Fb "table",d,o',V.ref tq⟩]) H3) cl [⟨Fb "ups",c,o,V.ref lu⟩,⟨Fb "table",d,o',V.ref tq⟩]:=by
  refine⟨λe he=>?_,λx g C=>?_⟩
  .rcases EK.mp he with rfl|he
   .exact⟨O,fB (by simp[cellsOf]),u,a5,a6⟩
   .rw[EG.mp he];refine⟨R,fB ?_,u2,L,N⟩;show List.lookup d ((c,o)::[(d,o')])=Vn o';rw[Fj,show (d == c)=false from beq_eq_false_iff_ne.mpr (Ne.symm c3),Fj,beq_self_eq_true]
  .have hm:=iX (hcl.fr x g C).1;simp at hm;rcases hm with rfl|rfl
   .first|(rw[O]at C;cases C;exact⟨_,EC,rfl,rfl⟩)|(rw[R]at C;cases C;exact⟨_,Ez _ (EG.mpr rfl),rfl,rfl⟩)
   .first|(rw[O]at C;cases C;exact⟨_,EC,rfl,rfl⟩)|(rw[R]at C;cases C;exact⟨_,Ez _ (EG.mpr rfl),rfl,rfl⟩)
 have hF:=nZ (P:=P) (w:=w) (K:=K) (mg:=mg) (base:=base) (k:=0) hf hcl (["p","q"]:List Vm) [⟨Fb "ups",c,o,V.ref lu⟩,⟨Fb "table",d,o',V.ref tq⟩] (λvs H Q=>∃p q:Nat,vs=[.int (p:Nat),.int (q:Nat)]/\(p:Int)<m/\(q:Int)<m/\∀H',Ext H H'->Q (.bl (j6 us M p q)) H') (λH=>Rows H tq rs m.toNat M/\H lu=Vn (.lst (List.map V.ref cu))/\aT H cu us) ⟨rfl,rfl,rfl,by decide +kernel,by decide +kernel⟩ (λ_ _ _ us hl=>by obtain⟨u1,u2,rfl⟩:=lA hl;rfl) (λvs H Q h=>by obtain⟨p,q,rfl,_⟩:=h;rfl) (λA outer s H vs Q cr bi hI hR=>by
  obtain⟨p,q,rfl,hp,hq,hQ⟩:=hR;have S:=bi.2.2.look;obtain⟨bm,c5,bn⟩:=hI;have U:Rows (a9 (cellsOf [⟨Fb "ups",c,o,V.ref lu⟩,⟨Fb "table",d,o',V.ref tq⟩]) H) tq rs m.toNat M:=⟨hV S bm.1 (λf z=>by cases z),λi r hi=>hV S (bm.2 i r hi) (λf z=>by cases z)⟩;have W:=hV S c5 (λf z=>by cases z);have ac:aT (a9 (cellsOf [⟨Fb "ups",c,o,V.ref lu⟩,⟨Fb "table",d,o',V.ref tq⟩]) H) cu us:=⟨bn.1,λj b w e1 Z=>hV S (bn.2 j b w e1 Z) (λf z=>by cases z)⟩;refine⟨_,(aS (lM K rfl) rfl T.any_ PyProof.Rows.boot_any (ae (cn ["way"] [3,1,0] (bP K (pv 2)) (λ_=>(aI (i:=0) (show(["way","table","q","p"]:List Vm).Nodup from by decide +kernel) rfl oi oj)) (λ_=>(gj (aN bH (ao (az K) (pv 0) af (λ_ _=>rfl)) (pv 3) (aJ _)))) (λ_=>(ao (aM K) (ao (aM K) (pv 1) (ao (az K) (pv 0) af (λ_ _=>rfl)) (λ_ _=>rfl)) (pv 2) (λ_ _=>rfl)))) aa)),?_⟩;have hb:∀H',Ext (a9 (cellsOf [⟨Fb "ups",c,o,V.ref lu⟩,⟨Fb "table",d,o',V.ref tq⟩]) H) H'->Ext H (bQ (cellsOf [⟨Fb "ups",c,o,V.ref lu⟩,⟨Fb "table",d,o',V.ref tq⟩]) H'):=λH' e=>vc S e;generalize a9 (cellsOf [⟨Fb "ups",c,o,V.ref lu⟩,⟨Fb "table",d,o',V.ref tq⟩]) H=HU at U W ac hb ⊢;show kI _ _ [Vn (.int (p:Nat)),Vn (.int (q:Nat)),Vn (.ref lu),Vn (.ref tq)] _ _;walk_at"";refine bO (ag.of W) ?_;refine dP (xs:=List.map V.ref cu) (λi ys H'=>H'=HU/\ys=(((us.take i).filter λu=>decide (u.room=(p:Int))).map λu=>M u.other.toNat q).map V.bl) (bT (by rw[Ew];lia)) ⟨rfl,rfl⟩ (λi ys H' _ h=>⟨by rw[h.1];exact ag.of W,by rw[h.2,Ew,Ew];exact E4 (List.length_filter_le _ _) (by rw[Fl];lia)⟩) ?_ ?_
  .rintro i v ys H4 C ⟨rfl,rfl⟩;rw[Ey]at C;obtain⟨b,bu,rfl⟩:=EH.mp C;have hi:i<us.length:=by rw[<-b4];exact(EE.mp bu).1
   have gu:us[i]?=Vn us[i]:=Ex hi;have as:=ac.2 i b _ bu gu;generalize us[i]=F at gu as;have Y:=ok.ok F (hin F (EF gu)).1;have v0:=Y.r0;have v1:=Y.r1;have v2:=Y.o0;have v3:=Y.o1;have x2:F.other.toNat<rs.length:=by lia
   have r2:rs[F.other.toNat]?=Vn rs[F.other.toNat]:=Ex x2;have w2:=U.2 _ _ r2;generalize rs[F.other.toNat]=a2 at r2 w2;have at2:bx (rs.map V.ref) F.other=Vn (.ref a2):=dZ v2 (by rw[Ey,r2];rfl);walk_at"";refine ay (ah.of as) (v:=.int F.room) rfl ?_;walk_at"";cases hc:decide (F.room=(p:Int))with
   | true=>
    refine aC ?_;walk_at"";refine ay (ah.of as) (v:=.int F.other) rfl ?_;walk_at"";refine aL (ag.of U.1) at2 ?_;walk_at"";refine aL (ag.of w2) (dR (by lia) (by lia)) ?_;rw[EI];refine⟨rfl,?_⟩;rw[List.take_add_one,gu,List.filter_append,EM,EM];congr 1;show[V.bl _]=List.map V.bl (List.map _ (List.filter _ [F]));rw[List.filter_cons,Ft hc];rfl
   | false=>
    refine ax ⟨rfl,?_⟩;have ca:List.filter (λu:Way=>decide (u.room=(p:Int))) [F]=[]:=by rw[List.filter_cons,Fs (by rw[hc];exact EL)];rfl
    rw[List.take_add_one,gu,List.filter_append];show _=List.map V.bl (List.map _ (_++List.filter _ [F]));rw[ca,List.append_nil]
  .rintro ys H4 p9 ⟨hH,rfl⟩ cc;subst hH;rw[Ew,b4,EZ];have e9:=a8 (o:=.lst (((us.filter λu=>decide (u.room=(p:Int))).map λu=>M u.other.toNat q).map V.bl)) cc;walk_at"";refine⟨p9,_,rfl,ag.of aK,?_⟩;exact λ_=>hQ _ (hb _ e9))
 refine⟨vh,m,ws,fl,_,j6 us M,rfl,c4,ok,hF,⟨⟨ex _ _ hf,ex _ _ c0,ar⟩,X,be,bg⟩,λH H' e h=>⟨h.1.ext e,h.2.1.ext e,e _ _ h.2.2.1,h.2.2.2.ext e⟩,λl ps H4 e4 hl cd ce=>?_⟩;obtain⟨a1,a2,a3,a4⟩:=held bc e4;refine⟨a1,q l _ ((G.et.trans e3).trans a2.et) (t3.ext a2) ⟨ps,j6 us M,a4 _ _ cd (λf z=>by cases z),cy (λa x h=>a4 _ _ h (λf z=>by cases z)) ce,λi j hi hj=>?_⟩⟩;unfold j6 bo;rw[List.any_map,E7];constructor
 .rintro⟨x,C,hm⟩;obtain⟨x1,x2⟩:=List.mem_filter.mp C;have x2:=of_decide_eq_true x2;obtain⟨y1,y2⟩:=hin x x1;exact⟨x,y1,y2,by lia,(km _ _ (iI ok.ok y1).2 hj).mp hm⟩
 .rintro⟨x,h1,h2,h3,h4⟩;have r0:=(ok.ok x h1).r0;refine⟨x,List.mem_filter.mpr ⟨by rw[ai];exact List.mem_filter.mpr ⟨h1,Fq h2⟩,Fq (by lia)⟩,?_⟩;exact(km _ _ (iI ok.ok h1).2 hj).mpr h4
def dC(us:List Way)(x:Bfs.Pl):List Bfs.Pl:=(us.filter λw=>cI w x.1 x.2).map λw=>(w.other,x.2+rz w.deed)
inductive uz(K:Eo)(vs:List V)(H:Hp)(Q:VK)(E:XK):Prop|mk:∀l bs us p x,vs=[.ref l,.ref p]->H l=Vn (.lst (List.map V.ref bs))->aT H bs us->(∀w∈us,bY w.deed)->us.length<=100->aE H p x->(∀a ps H',Ext H H'->H a=Vo->H' a=Vn (.lst (List.map V.ref ps))->Paired (aE H') ps (dC us x)->Q (.ref a) H')->uz K vs H Q E
theorem Bb(T:Bu w mg base):Cal P w K mg base "led_to_from" 3 ["ways","place"] (uz K):=by
 refine(bw T.d_led_to_from).oS ["ways","place"] λB nd H vs Q E h=>?_;obtain⟨l,bs,us,p,x,rfl,C,hal,s,G,y,q⟩:=h;have m:=hal.1;refine⟨_,(@aw _ _ _ (@aD _ _ _ _ (cn ["way"] [1] (bP K (pv 0)) (λ_=>(aI (i:=0) (show(["way","place"]:List Vm).Nodup from by decide +kernel) rfl oi oj)) (λ_=>(gj (a0 (aB (uq T) B (aq (pv 0) (aq (pv 1) aa rfl) rfl))))) (λ_=>(aB (tV T) B (aq (pv 0) (aq (pv 1) aa rfl) rfl)))))),?_⟩;walk_at"";refine bO (ag.of C) ?_;refine dP (xs:=List.map V.ref bs) (λi ys H'=>Ext H H'/\∃ps,ys=List.map V.ref ps/\Paired (aE H') ps (dC (us.take i) x)) (bT (by rw[Ew];lia)) ⟨Ext.rfl' _,[],rfl,.nil⟩ (λi ys H' _ h=>by obtain⟨e,ps,rfl,c⟩:=h;refine⟨ag.of (e _ _ C),?_⟩;rw[Ew,eh c];unfold dC;rw[Ew];exact E4 (List.length_filter_le _ _) (by rw[Fl];lia)) ?_ ?_
 .rintro i v ys H1 F ⟨g,ps,rfl,c⟩;rw[Ey]at F;obtain⟨b,hb,rfl⟩:=EH.mp F;have hi:i<us.length:=by rw[<-m];exact(EE.mp hb).1
  have r:us[i]?=Vn us[i]:=Ex hi;have j:=g _ _ (hal.2 i b _ hb r);generalize us[i]=u at r j;have d:aE H1 p x:=g _ _ y;walk_at"";refine⟨b,u,p,x,rfl,j,d,?_⟩;have step:dC (us.take (i+1)) x=dC (us.take i) x++dC [u] x:=by unfold dC;rw[List.take_add_one,r,List.filter_append,EM];rfl
  cases ho:cI u x.1 x.2 with
  | false=>
   refine rd_exb (ax ⟨g,ps,rfl,?_⟩);rw[step];have:dC [u] x=[]:=by unfold dC;rw[List.filter_cons,Fs (by rw[ho];exact EL)];rfl
   rw[this,List.append_nil];exact c
  | true=>
   refine rd_exb (aC ?_);walk_at"";refine⟨b,u,p,x,rfl,j,s u (EF r),d,λt H2 n I _=>?_⟩;refine⟨g.trans n,ps++[t],?_,?_⟩
   .rw[EM];rfl
   .rw[step];have:dC [u] x=[(u.other,x.2+rz u.deed)]:=by unfold dC;rw[List.filter_cons,Ft ho];rfl
    rw[this];exact jW (cy (λa x h=>n _ _ h) c) I
 .rintro ys H1 A ⟨g,ps,rfl,c⟩ k;rw[Ew,m,EZ]at c;have n:=a8 (o:=.lst (List.map V.ref ps)) k;have J:H A=Vo:=by
   cases z:H A with
   | none=>rfl
   | some o=>rw[g _ _ z]at k;cases k
  exact q A ps _ (g.trans n) J aK (cy (λa x h=>n _ _ h) c)
structure WT(H:Hp)(c:Vb)(n:Nat)(ls:List Vb)(ws:List Way):Prop where
 at_:H c=Vn (.lst (List.map V.ref ls))
 len:ls.length=n
 it:∀(r:Nat) (l:Vb),ls[r]?=Vn l->∃bs,H l=Vn (.lst (List.map V.ref bs))/\aT H bs (ws.filter λw=>decide (w.room=(r:Int)))
theorem WT.ext{H H':Hp}{c:Vb}{n:Nat}{ls:List Vb}{ws:List Way}(e:Ext H H')(h:WT H c n ls ws):WT H' c n ls ws:=
 ⟨e _ _ h.at_,h.len,λr l a=>by obtain⟨bs,h1,h2⟩:=h.it r l a;exact⟨bs,e _ _ h1,h2.ext e⟩⟩
theorem WT.et{H H':Hp}{c:Vb}{n:Nat}{ls:List Vb}{ws:List Way}(e:Et H H')(h:WT H c n ls ws):WT H' c n ls ws:=
 ⟨e _ _ h.at_ (λps z=>by cases z),h.len,λr l a=>by obtain⟨bs,h1,h2⟩:=h.it r l a;exact⟨bs,e _ _ h1 (λps z=>by cases z),h2.et e⟩⟩
def zc{i:Nat}{w:Way}(h:ws[i]?=Vn w)(p:Way->Bool):(ws.take (i+1)).filter p=(ws.take i).filter p++if p w then[w]else[]:=by rw[List.take_add_one,h,List.filter_append];congr 1;show List.filter p [w]=_;rw[List.filter_cons];rfl
inductive pL(K:Eo)(vs:List V)(H:Hp)(Q:VK)(E:XK):Prop|mk:∀v m ws,vs=[v]->bh H v m ws->HOuse m ws->(∀c ls H',Ext H H'->WT H' c m.toNat ls ws->Q (.ref c) H')->pL K vs H Q E
theorem Ad(T:Bu w mg base):Cal P w K mg base "ways_by_room" 1 ["house"] (pL K):=by
 refine(ck T.d_ways_by_room).oS ["house","ways","way"] λB nd H vs Q E h=>?_;obtain⟨v,m,ws,rfl,hv,ok,q⟩:=h;obtain⟨X,Y,rfl,hh,hw⟩:=id hv;obtain⟨bs,hq,hal⟩:=bX.al hw;have n:=hal.1;have few:=ok.few;have m1:=ok.m1;have m12:=ok.m12;refine⟨_,(@av _ _ _ _ _ (gZ (i:=1) ["room"] [] nd rfl oi (cM rfl T.range_ (aq (@ao _ _ _ _ _ _ _ (az K) (pv 0) af (λ_ _=>rfl)) aa rfl)) (λ_=>(aI (i:=0) (show(["room"]:List Vm).Nodup from by decide +kernel) rfl oi oj)) (λ_=>cz) (λ_=>(@bp _ _ _ _ aa)))
   (@av _ _ _ _ _ (bt PassesOwn.never rfl (eZ K (@ao _ _ _ _ _ _ _ (az K) (pv 0) af (λ_ _=>rfl))) (aI (i:=2) nd rfl oi) (@aw _ _ _ (bj (bL K ED ES ET bR (@ao _ _ _ _ _ _ _ (aM K) (pv 1) (@ao _ _ _ _ _ _ _ (az K) (pv 2) af (λ_ _=>rfl)) (λ_ _=>rfl)) (aq (pv 2) aa rfl)))))
   (@aw _ _ _ (@aD _ _ _ _ (pv 1))))),?_⟩
 walk_at"";refine ay (ah.of hh) (v:=.int m) rfl ?_;walk_at"";refine cN (by omega) ?_;refine gG (λi ys H'=>Ext H H'/\∃ls:List Vb,ys=List.map V.ref ls/\ls.length=i/\ls.Nodup/\∀l∈ls,H' l=Vn (.lst [])/\H l=Vo) (bT (by lia)) ⟨Ext.rfl' _,[],rfl,rfl,List.nodup_nil,λl h=>(nomatch h)⟩ (λi ys H' _ h=>by obtain⟨_,ls,rfl,h,_⟩:=h;rw[Ew,h];exact ER _) ?_ ?_
 .rintro i ys H' hi ⟨e,ls,rfl,S,C,hls⟩;walk_at"";refine aC ?_;walk_at"";refine aO λl H1 e1 Z p=>?_;refine⟨e.trans e1,ls++[l],by rw[EM];rfl,by rw[EN,S];rfl,?_,?_⟩
  .rw[List.nodup_append];refine⟨C,by simp,λa ha b hb z=>?_⟩;have n:b=l:=by simpa using hb
   subst n;subst z;rw[(hls a ha).1]at p;cases p
  .intro a ha;rcases EU.mp ha with z|z
   .exact⟨e1 _ _ (hls a z).1,(hls a z).2⟩
   .have hal:a=l:=by simpa using z
    subst hal;refine⟨Z,?_⟩;cases y:H a with
    | none=>rfl
    | some o=>rw[e _ _ y]at p;cases p
 .rintro ys H1 c ⟨e,ls,rfl,S,C,hls⟩ F;have U:Ext H (upd H1 c (.lst (List.map V.ref ls))):=e.trans (a8 F);have a3:H c=Vo:=by
   cases y:H c with
   | none=>rfl
   | some o=>rw[e _ _ y]at F;cases F
  have a1:c∉ls:=λz=>by rw[(hls c z).1]at F;cases F
  have hcl:∀l∈ls,H l=Vo:=λl h=>(hls l h).2;have hit:∀(r:Nat) (l:Vb),ls[r]?=Vn l->∃bs,(upd H1 c (.lst (List.map V.ref ls))) l=Vn (.lst (List.map V.ref bs))/\aT (upd H1 c (.lst (List.map V.ref ls))) bs ((ws.take 0).filter λw=>decide (w.room=(r:Int))):=λr l B=>⟨[],(a8 F) _ _ (hls l (EF B)).1,aT.nil _⟩;have J:(upd H1 c (.lst (List.map V.ref ls))) c=_:=aK;generalize upd H1 c (.lst (List.map V.ref ls))=H2 at U hit J ⊢;clear hls F e H1;walk_at"";refine ay (ah.of (U _ _ hh)) (v:=.ref Y) rfl ?_;walk_at"";refine eR (ah.of (U _ _ hq)) ?_;refine iz (xs:=bs.map V.ref) (λi σ H'=>∃k1,σ=[Vn (.ref X),Vn (.ref c),k1]/\Ext H H'/\H' c=Vn (.lst (List.map V.ref ls))/\∀(r:Nat) (l:Vb),ls[r]?=Vn l->∃bs,H' l=Vn (.lst (List.map V.ref bs))/\aT H' bs ((ws.take i).filter λw=>decide (w.room=(r:Int)))) ⟨Vo,rfl,U,J,hit⟩ (λi σ H' _ h=>by obtain⟨_,_,e,_⟩:=h;exact ah.of (e _ _ hq)) ?_ ?_
  .rintro i u σ H3 hu ⟨k1,rfl,W,s,d⟩;rw[Ey]at hu;obtain⟨b,hb,rfl⟩:=EH.mp hu;have hi:i<ws.length:=by rw[<-n];exact(EE.mp hb).1
   have x:ws[i]?=Vn ws[i]:=Ex hi;have A:=W _ _ (hal.2 i b _ hb x);generalize ws[i]=k at x A;have L:=ok.ok k (EF x);have r0:=L.r0;have r1:=L.r1;have a2:k.room.toNat<ls.length:=by rw[S];lia
   have g:ls[k.room.toNat]?=Vn ls[k.room.toNat]:=Ex a2;generalize ls[k.room.toNat]=l at g;have M:=EF g;obtain⟨cs,j,N⟩:=d _ _ g;have O:cs.length<=100:=by rw[N.1];exact E4 (List.length_filter_le _ _) (by rw[Fl];lia)
   have R:c≠l:=λz=>a1 (z ▸ M);walk_at"";refine ay (ah.of A) (v:=.int k.room) rfl ?_;walk_at"";refine aL (ag.of s) (v:=.ref l) (dZ r0 (by rw[Ey,g];rfl)) ?_;refine⟨df (ag.of j),?_⟩;walk_at"";refine bN j (by rw[Ew];exact Nat.lt_of_le_of_lt O (by decide)) ?_;walk_at"";refine⟨_,rfl,bK W (hcl l M),by rw[aF R];exact s,λr l' B=>?_⟩;rw[zc x];by_cases G:l'=l
   .subst G;have I:r=k.room.toNat:=(List.getElem?_inj (EE.mp B).1 C).mp (by rw[B,g]);subst I;refine⟨cs++[b],?_,?_⟩
    .rw[aK,EM];rfl
    .rw[Ft (Fq (by lia))];have put:aT (upd H3 l' (.lst (List.map V.ref cs++[.ref b]))) cs ((ws.take i).filter λw=>decide (w.room=((k.room.toNat:Nat):Int))):=N.put j;exact put.snoc (by rw[aF (bZ A j (λz=>by cases z))];exact A)
   .obtain⟨ds,h1,h2⟩:=d r l' B;have I:¬(k.room=(r:Int)):=λz=>G (by
     have:k.room.toNat=r:=by lia
     rw[this,B]at g;exact Fc g)
    rw[Fs (by simpa using I),List.append_nil];exact⟨ds,by rw[aF G];exact h1,h2.put j⟩
  .rintro σ H3 ⟨k1,rfl,W,s,d⟩;rw[Ew,n,EZ]at d;walk_at"";exact q c ls H3 W ⟨s,S,d⟩
def LB(ws:List Way)(n:Nat)(top:Int)(x y:Bfs.Pl):Prop:=(∃w∈ws,cI w x.1 x.2=true/\y=(w.other,x.2+rz w.deed)/\y.2<=top)\/(top<=x.2/\∃i j:Nat,Kpt ws n i j/\x.1=(i:Int)/\y=((j:Int),top))
def gM{w:Way}{n:Int}(h:cI w r n=true):w.room=r:=by unfold cI at h;rw[E9]at h;exact of_decide_eq_true h.1
inductive rH(K:Eo)(vs:List V)(H:Hp)(Q:VK)(E:XK):Prop|mk:∀c a top p m ws ls x,vs=[.ref c,.ref a,.int top,.ref p]->WT H c m.toNat ls ws->fD H a m.toNat (Kpt ws m.toNat)->HOuse m ws->aE H p x->0<=x.1->x.1<m->(∀l ps ys H',Ext H H'->H l=Vo->H' l=Vn (.lst (List.map V.ref ps))->Paired (aE H') ps ys->(∀y,y∈ys↔LB ws m.toNat top x y)->ys.length<=300->Q (.ref l) H')->rH K vs H Q E
theorem Ao(T:Bu w mg base):Cal P w K mg base "low_beside" 4 ["ways","keeps","top","here"] (rH K):=by
 refine(jK T.d_low_beside).oS ["ways","keeps","top","here","low"] λhr nd H vs Q E h=>?_;obtain⟨c,kl,top,p,m,ws,ls,x,rfl,wt,a6,ok,u,x0,x1,q⟩:=h;have m1:=ok.m1;have m12:=ok.m12;have few:=ok.few;have ab:x.1.toNat<ls.length:=by rw[wt.len];lia
 have I:ls[x.1.toNat]?=Vn ls[x.1.toNat]:=Ex ab;generalize ls[x.1.toNat]=l0 at I;obtain⟨bs,ac,hal⟩:=wt.it _ _ I;have ad:((x.1.toNat:Nat):Int)=x.1:=by lia
 rw[ad]at hal;have A:(ws.filter λw=>decide (w.room=x.1)).length<=100:=E4 (List.length_filter_le _ _) few;obtain⟨ai,g,aj,R,hkg⟩:=a6;have S:=eh R;have b2:=l4 (n:=m.toNat) (g:=g) m.toNat;have b4:m.toNat*m.toNat<=12*12:=Nat.mul_le_mul (by lia) (by lia);refine⟨_,(@av _ _ _ _ _ (gZ (i:=4) ["there"] [2] nd rfl oi (bP K (aB (Bb T) hr (aq (@ao _ _ _ _ _ _ _ (aM K) (pv 0) (@ao _ _ _ _ _ _ _ (az K) (pv 3) af (λ_ _=>rfl)) (λ_ _=>rfl)) (aq (pv 3) aa rfl) rfl))) (λ_=>(aI (i:=0) (show(["there","top"]:List Vm).Nodup from by decide +kernel) rfl oi oj)) (λ_=>(gj (aN fu (@ao _ _ _ _ _ _ _ (az K) (pv 0) af (λ_ _=>rfl)) (pv 1) (aJ _)))) (λ_=>(pv 0)))
   (@av _ _ _ _ _ (@aY _ _ _ _ _ _ _ _ (aN dj (@ao _ _ _ _ _ _ _ (az K) (pv 3) af (λ_ _=>rfl)) (pv 2) (aJ _)) (@aw _ _ _ (@aD _ _ _ _ (pv 4))) aQ)
   (@aw _ _ _ (@aD _ _ _ _ (aA mQ (pv 4) (cn ["p","q"] [2,3] (bP K (pv 1)) (λ_=>(fh (n:=2) K rfl (br (aI (i:=0) (show(["p","q","top","here"]:List Vm).Nodup from by decide +kernel) rfl oi oj) (br (aI (i:=1) (show(["p","q","top","here"]:List Vm).Nodup from by decide +kernel) rfl oi oj) eA)))) (λ_=>(gj (aN bH (pv 0) (@ao _ _ _ _ _ _ _ (az K) (pv 3) af (λ_ _=>rfl)) (aJ _)))) (λ_=>(@bG _ _ _ _ _ (aq (pv 1) (aq (pv 2) aa rfl) rfl))))))))),?_⟩
 walk_at"";refine ay (ah.of u) (v:=.int x.1) rfl ?_;walk_at"";refine aL (ag.of wt.at_) (v:=.ref l0) (dZ x0 (by rw[Ey,I];rfl)) ?_;walk_at"";refine⟨l0,bs,_,p,x,rfl,ac,hal,λw U=>(ok.ok w (List.mem_filter.mp U).1).dd,A,u,λl1 ak H1 e1 b7 W l=>?_⟩;have B:=eh l;have J:(dC (ws.filter λw=>decide (w.room=x.1)) x).length<=100:=by unfold dC;rw[Ew];exact E4 (List.length_filter_le _ _) A
 have C:∀y,y∈dC (ws.filter λw=>decide (w.room=x.1)) x↔∃w∈ws,cI w x.1 x.2=true/\y=(w.other,x.2+rz w.deed):=λy=>by
  unfold dC;constructor
  .intro h;obtain⟨w,U,rfl⟩:=List.mem_map.mp h;obtain⟨h1,h2⟩:=List.mem_filter.mp U;exact⟨w,(List.mem_filter.mp h1).1,h2,rfl⟩
  .rintro⟨w,U,ho,rfl⟩;exact List.mem_map.mpr ⟨w,List.mem_filter.mpr ⟨List.mem_filter.mpr ⟨U,Fq (gM ho)⟩,ho⟩,rfl⟩
 generalize dC (ws.filter λw=>decide (w.room=x.1)) x=zs at l B J C;walk_at"";refine bO (ag.of W) ?_;refine dP (xs:=List.map V.ref ak) (λi ys H'=>H'=H1/\∃cs,ys=List.map V.ref cs/\Paired (aE H1) cs ((zs.take i).filter λy=>decide (y.2<=top))) (bT (by rw[Ew];lia)) ⟨rfl,[],rfl,.nil⟩ (λi ys H' _ h=>by obtain⟨rfl,cs,rfl,d⟩:=h;refine⟨ag.of W,?_⟩;rw[Ew,eh d];exact E4 (List.length_filter_le _ _) (by rw[Fl];lia)) ?_ ?_
 .rintro i v ys H2 X ⟨rfl,cs,rfl,d⟩;rw[Ey]at X;obtain⟨b,hb,rfl⟩:=EH.mp X;obtain⟨y,hy,Y⟩:=cV l hb;walk_at"";refine ay (ah.of Y) (v:=.int y.2) rfl ?_;walk_at"";have step:(zs.take (i+1)).filter (λy=>decide (y.2<=top))=(zs.take i).filter (λy=>decide (y.2<=top))++if decide (y.2<=top)then[y]else[]:=by rw[List.take_add_one,hy,List.filter_append];congr 1;show List.filter _ [y]=_;rw[List.filter_cons];rfl
  cases Z:decide (y.2<=top)with
  | true=>
   refine aC ?_;walk_at"";refine⟨rfl,cs++[b],?_,?_⟩
   .rw[EM];rfl
   .rw[step,Z];exact jW d Y
  | false=>
   refine ax ⟨rfl,cs,rfl,?_⟩;rw[step,Z];simpa using d
 .rintro ys H2 M ⟨hH,cs,rfl,d⟩ L;subst hH;rw[Ew,B,EZ]at d;have e2:=a8 (o:=.lst (List.map V.ref cs)) L;have h9:(upd H2 M (.lst (List.map V.ref cs))) M=_:=aK;have r:=cy (λa x h=>e2 _ _ h) d;have hfn:H M=Vo:=by
   cases z:H M with
   | none=>rfl
   | some o=>rw[e1 _ _ z]at L;cases L
  have k:=e1.trans e2;generalize upd H2 M (.lst (List.map V.ref cs))=H3 at e2 h9 r k ⊢;have hcl:=eh d;have b8:=List.length_filter_le (λy:Bfs.Pl=>decide (y.2<=top)) zs;have first:∀y,y∈zs.filter (λy=>decide (y.2<=top))↔∃w∈ws,cI w x.1 x.2=true/\y=(w.other,x.2+rz w.deed)/\y.2<=top:=λy=>by
   rw[List.mem_filter,C];constructor
   .rintro⟨⟨w,h1,h2,h3⟩,h4⟩;exact⟨w,h1,h2,h3,of_decide_eq_true h4⟩
   .rintro⟨w,h1,h2,h3,h4⟩;exact⟨⟨w,h1,h2,h3⟩,Fq h4⟩
  walk_at"";refine ay (ah.of (k _ _ u)) (v:=.int x.2) rfl ?_;walk_at"";cases Z:decide (x.2<top)with
  | true=>
   have am:=of_decide_eq_true Z;refine aC ?_;walk_at"";refine q M cs _ H3 k hfn h9 r (λy=>?_) (by lia);rw[first];constructor
   .exact λh=>.inl h
   .rintro(h|⟨h,_⟩)
    .exact h
    .omega
  | false=>
   have am:=of_decide_eq_false Z;refine ax ?_;walk_at"";have F:=k _ _ aj;have a1:=cy (λa x h=>k _ _ h) R;refine bO (ag.of F) ?_;refine dP (xs:=List.map V.ref ai) (λi ys H'=>Ext H3 H'/\∃ds,ys=List.map V.ref ds/\Paired (aE H') ds ((((dz m.toNat g m.toNat).take i).filter λz=>decide (z.1=x.1)).map λz=>(z.2,top))) (bT (by rw[Ew];lia)) ⟨Ext.rfl' _,[],rfl,.nil⟩ (λi ys H' _ h=>by obtain⟨e,ds,rfl,hds⟩:=h;refine⟨ag.of (e _ _ F),?_⟩;rw[Ew,eh hds,Ew];exact E4 (List.length_filter_le _ _) (by rw[Fl];lia)) ?_ ?_
   .rintro i v ys H4 X ⟨N,ds,rfl,hds⟩;rw[Ey]at X;obtain⟨b,hb,rfl⟩:=EH.mp X;obtain⟨z,hz,an⟩:=cV a1 hb;have a2:aE H4 b z:=N _ _ an;refine eS (ah.of a2) rfl ?_;walk_at"";refine ay (ah.of ((k.trans N) _ _ u)) (v:=.int x.1) rfl ?_;walk_at"";have step:(((dz m.toNat g m.toNat).take (i+1)).filter (λz=>decide (z.1=x.1))).map (λz=>(z.2,top))=(((dz m.toNat g m.toNat).take i).filter (λz=>decide (z.1=x.1))).map (λz=>(z.2,top))++if decide (z.1=x.1)then[(z.2,top)]else[]:=by rw[List.take_add_one,hz,List.filter_append,EM];congr 1;show List.map _ (List.filter _ [z])=_;rw[List.filter_cons];split<;>rfl
    cases a3:decide (z.1=x.1)with
    | true=>
     refine aC ?_;walk_at"";refine aO λt H5 O ht _=>?_;refine⟨N.trans O,ds++[t],?_,?_⟩
     .rw[EM];rfl
     .rw[step,a3];exact jW (cy (λa x h=>O _ _ h) hds) ht
    | false=>
     refine ax ⟨N,ds,rfl,?_⟩;rw[step,a3];simpa using hds
   .rintro ys H4 p8 ⟨N,ds,rfl,hds⟩ ap;rw[Ew,S,EZ]at hds;have O:=a8 (o:=.lst (List.map V.ref ds)) ap;have h8:(upd H4 p8 (.lst (List.map V.ref ds))) p8=_:=aK;have G:=cy (λa x h=>O _ _ h) hds;have s:=N.trans O;generalize upd H4 p8 (.lst (List.map V.ref ds))=H5 at O h8 G s ⊢;have ar:=eh hds;rw[Ew]at ar;have b5:=List.length_filter_le (λz:Bfs.Pl=>decide (z.1=x.1)) (dz m.toNat g m.toNat);walk_at"";refine ou (s _ _ h9) h8 (bT (by rw[Ew,Ew];lia)) (cF λl' H6 e6 a4 a5=>?_);rw[<-EM]at a4;have as:=(k.trans s).trans e6;have au:H l'=none:=by
     cases z:H l' with
     | none=>rfl
     | some o=>rw[(k.trans s) _ _ z]at a5;cases a5
    refine q l' (cs++ds) _ H6 as au a4 (sT (cy (λa x h=>(s.trans e6) _ _ h) r) (cy (λa x h=>e6 _ _ h) G)) (λy=>?_) (by rw[EN,Ew];lia);rw[EU,first];constructor
    .rintro(h|h)
     .exact .inl h
     .obtain⟨z,hz,rfl⟩:=List.mem_map.mp h;obtain⟨z1,z2⟩:=List.mem_filter.mp hz;obtain⟨i,j,hi,hj,hg,rfl⟩:=iZ.mp z1;exact .inr ⟨by lia,i,j,(hkg i j hi hj).mp hg,(of_decide_eq_true z2).symm,rfl⟩
    .rintro(h|⟨_,i,j,hk,b1,rfl⟩)
     .exact .inl h
     .right;have hlt:=Kpt.lt ok.ok hk;exact List.mem_map.mpr ⟨((i:Int),(j:Int)),List.mem_filter.mpr ⟨iZ.mpr ⟨i,j,hlt.1,hlt.2,(hkg i j hlt.1 hlt.2).mpr hk,rfl⟩,Fq b1.symm⟩,rfl⟩
structure RR(H0 H:Hp)(f rw:Vb)(qs:List Bfs.Pl):Prop where
 ext:Ext H0 H
 fn:H0 f=Vo
 rn:H0 rw=Vo
 d:∃kvs,H f=Vn (.dT kvs)/\Paired (λ(kv:List Key×V) z=>kv.1=aZ z) kvs qs
 r:∃as,H rw=Vn (.lst (List.map V.ref as))/\Paired (aE H) as qs
def RR.step{f rw:Vb}(h:RR H0 H f rw qs)(e:Ext H H1):RR H0 H1 f rw qs:=by obtain⟨h1,h2,b,⟨kvs,c,d⟩,as,g,i⟩:=h;exact⟨h1.trans e,h2,b,⟨kvs,e _ _ c,d⟩,as,e _ _ g,cy (λa x h=>e _ _ h) i⟩
def tI{kvs:List (List Key×V)}(h:Paired (λ(kv:List Key×V) z=>kv.1=aZ z) kvs qs){x:Bfs.Pl}(a:x∉qs):bV kvs (aZ x)=Vo:=
 hZ (key:=λz=>z) (λ_ _ z=>z) h (by simpa using a)
def Dg{kvs:List (List Key×V)}(h:Paired (λ(kv:List Key×V) z=>kv.1=aZ z) kvs qs)(nd:qs.Nodup){x:Bfs.Pl}(a:x∈qs):∃v,bV kvs (aZ x)=Vn v:=by obtain⟨v,b,_⟩:=gE (key:=λz=>z) (λ_ _ z=>z) h (by simpa using nd) a;exact⟨v,b⟩
def RR.push{f rw:Vb}(h:RR H0 H f rw qs)(m:y∉qs)(d:aE H th y):
  ∃kvs,H f=Vn (.dT kvs)/\kvs.length=qs.length/\∃as,upd H f (.dT (putK kvs (aZ y) v)) rw=Vn (.lst (List.map V.ref as))/\as.length=qs.length ∧
   RR H0 (upd (upd H f (.dT (putK kvs (aZ y) v))) rw (.lst (List.map V.ref as++[.ref th]))) f rw (qs++[y]):=by
 obtain⟨h1,h2,g,⟨kvs,c,e⟩,as,i,j⟩:=h;have k:∀xs,(HO.dT kvs)≠.tup xs:=λxs z=>by cases z
 have l:∀xs,(HO.lst (List.map V.ref as))≠.tup xs:=λxs z=>by cases z
 have ne:rw≠f:=bZ i c (by intro z;cases z);have b:upd H f (.dT (putK kvs (aZ y) v)) rw=Vn (.lst (List.map V.ref as)):=by rw[aF ne];exact i
 refine⟨kvs,c,Paired.length e,as,b,Paired.length j,bK (bK h1 h2) g,h2,g,⟨kvs++[(aZ y,v)],?_,?_⟩,as++[th],?_,?_⟩
 .rw[aF ne.symm,aK,lQ _ (tI e m)]
 .exact Paired.snoc e rfl
 .rw[aK,EM];rfl
 .exact jW (cy (λa x z=>aE.put b l (aE.put c k z)) j) (aE.put b l (aE.put c k d))
structure RQ(S:Bfs.Pl->Bfs.Pl->Prop)(m T:Int)(x:Bfs.Pl)(qs:List Bfs.Pl)(i:Nat):Prop where
 nd:qs.Nodup
 has:x∈qs
 wk:∀z∈qs,∃n,Bfs.Rw S n x z
 ins:∀z∈qs,bD m T z
 cl:∀j,j<i->∀y,qs[j]?=Vn y->∀z,S y z->z∈qs
theorem RQ.done{S:Bfs.Pl->Bfs.Pl->Prop}{x:Bfs.Pl}{i:Nat}(h:RQ S m T x qs i)(hi:qs.length<=i):∀z,z∈qs↔∃n,Bfs.Rw S n x z:=λz=>by
 refine⟨h.wk z,λ⟨n,d⟩=>?_⟩;have go:∀(n:Nat) (a b:Bfs.Pl),Bfs.Rw S n a b->a∈qs->b∈qs:=by
  intro n a b e;induction e with
  | nil=>exact λh=>h
  | snoc _ hs g=>
   intro ha;obtain⟨j,c⟩:=Fi (g ha);have:=(EE.mp c).1;exact h.cl j (by lia) _ c _ hs
 exact go n x z d h.has
def rC(m T:Int)(S:Bfs.Pl->Bfs.Pl->Prop):List V->Hp->VK->Prop:=λvs H Q=>∃p y,vs=[.ref p]/\aE H p y/\bD m T y/\∀l ps ys H',Ext H H'->H l=Vo->H' l=Vn (.lst (List.map V.ref ps))->Paired (aE H') ps ys->(∀z,z∈ys↔S y z)->ys.length<=300->Q (.ref l) H'
def vd(P:Vd)(w:Ve)(K:Eo)(mg:Vm->Option Va)(base:Vh):Sp:=λvs H Q _=>∃a f pre x m T S,vs=[.ref a,.ref f]/\aE H a x/\bD m T x/\m<=12/\T<=2000/\FunR P w K mg base 5 f pre (rC m T S)/\pre H/\(∀H H',Ext H H'->pre H->pre H')/\(∀y z,bD m T y->S y z->bD m T z) ∧
 ∀l as qs H',Ext H H'->H' l=Vn (.lst (List.map V.ref as))->Paired (aE H') as qs->(∀z∈qs,bD m T z)->qs.length<=24012->(∀z,z∈qs↔∃n,Bfs.Rw S n x z)->Q (.ref l) H'
theorem yr(T:Bu w mg base):Cal P w K mg base "reached" 6 ["place","beside"] (vd P w K mg base):=by
 have ln:∀vs H Q E,(vd P w K mg base) vs H Q E->vs.length=2:=by intro vs H Q E h;obtain⟨Z,f,pre,x,m,T,S,rfl,_⟩:=h;rfl
 refine(bw T.d_reached).oS ["place","beside","found","row","looked","here","there"] (λhr nd H vs Q E h=>?_) ln;obtain⟨Z,ff,pre,x,m,TT,S,rfl,hx,ix,F,hT,hF,ak,a6,am,q⟩:=h;refine⟨_,(@av _ _ _ _ _ (@aG _ _ 2 _ _ _ _ nd rfl oi (m3 (dM hr) (pv 0) a7) rfl oi)
   (@av _ _ _ _ _ (@aG _ _ 3 _ _ _ _ nd rfl oi (@bp _ _ _ _ (aq (pv 0) aa rfl)) rfl oi)
   (@av _ _ _ _ _ (@aG _ _ 4 _ _ _ _ nd rfl oi af rfl oi)
   (@av _ _ _ _ _ (fA PassesOwn.never (aN dj (pv 4) (aS (cq K) rfl T.len_ PySem.boot_len (aq (pv 3) aa rfl)) (aJ _)) (@av _ _ _ _ _ (@aG _ _ 5 _ _ _ _ nd rfl oi (@ao _ _ _ _ _ _ _ (aM K) (pv 3) (pv 4) (λ_ _=>rfl)) rfl oi)
   (@av _ _ _ _ _ (kh (i:=4) nd rfl oi af mU)
   (@aw _ _ _ (bt PassesOwn.never rfl (bP K (wm (P:=P) (w:=w) (K:=K) (mg:=mg) (base:=base) hr (pv 1) (aq (pv 5) aa rfl))) (aI (i:=6) nd rfl oi) (@aw _ _ _ (cJ (iO (iH (dM hr) (pv 6) (pv 2)) (by with_unfolding_all rfl)) (@av _ _ _ _ _ (mw (dM hr) (pv 2) (pv 6) a7 rfl)
   (@aw _ _ _ (bj (bL K ED ES ET bR (pv 3) (aq (pv 6) aa rfl))))) aQ)))))))
   (@aw _ _ _ (@aD _ _ _ _ (pv 3))))))),?_⟩
 walk_at"";refine λf hfn=>?_;walk_at"";refine⟨Z,aZ x,rfl,(a8 hfn) _ _ hx,aK,?_⟩;walk_at"";refine aO λrw H3 e3 an ab=>?_;walk_at"";have R:Ext H (upd (upd H f (.dT [])) f (.dT [(aZ x,.bl true)])):=λb o hb=>by rw[aF (b0 hb hfn),aF (b0 hb hfn)];exact hb
 have X:H rw=Vo:=by
  cases z:H rw with
  | none=>rfl
  | some o=>rw[R _ _ z]at ab;cases ab
 have ap:H3 f=Vn (.dT [(aZ x,.bl true)]):=e3 _ _ aK;have b8:RR H H3 f rw [x]:=⟨R.trans e3,hfn,X,⟨_,ap,.cons rfl .nil⟩,[Z],an,.cons (e3 _ _ (R _ _ hx)) .nil⟩;have ba:RQ S m TT x [x] 0:=⟨by simp,by simp,λz s=>by rw[EG.mp s];exact⟨0,.nil⟩,λz s=>by rw[EG.mp s];exact ix,λj hj=>absurd hj (Nat.not_lt_zero _)⟩;clear ap X R an ab e3;refine fo (λM σ H'=>∃qs i k1 k2,RR H H' f rw qs/\RQ S m TT x qs i/\i<=qs.length/\M=24013-i/\σ=[Vn (.ref Z),Vn (.ref ff),Vn (.ref f),Vn (.ref rw),Vn (.int (i:Nat)),k1,k2]) (λσ H'=>∃qs i k0 k1 k2,RR H H' f rw qs/\RQ S m TT x qs i/\qs.length<=i/\qs.length<=24012/\σ=[Vn (.ref Z),Vn (.ref ff),Vn (.ref f),Vn (.ref rw),k0,k1,k2]) 24013 ⟨[x],0,_,_,b8,ba,by simp,by simp,rfl⟩ ?_ ?_
 .rintro M σ H4 ⟨qs,i,k1,k2,Y,C,hi,rfl,rfl⟩;have ac:qs.length<=24012:=bD.few F hT C.nd C.ins;obtain⟨as,G,pr⟩:=Y.r;have hal:=eh pr;walk_at"";refine dU (ag.of G) ?_;walk_at"";by_cases hlt:i<qs.length
  rotate_left
  .rw[Fp (show ¬((i:Nat):Int)<((List.map V.ref as).length:Nat) by rw[Ew,hal];lia)];refine ax ?_;exact⟨qs,i,_,_,_,Y,C,by lia,ac,rfl⟩
  .rw[Fq (show((i:Nat):Int)<((List.map V.ref as).length:Nat) by rw[Ew,hal];lia)];refine aC ?_;refine⟨λar H'=>∃g k1 k2,RR H H' f rw g/\RQ S m TT x g (i+1)/\i+1<=g.length/\g.length<=24012/\ar=[Vn (.ref Z),Vn (.ref ff),Vn (.ref f),Vn (.ref rw),Vn (.int ((i+1:Nat):Int)),k1,k2],λar H' ⟨g,k1,k2,a1,a2,a3,a4,a5⟩=>⟨24013-(i+1),by lia,g,i+1,k1,k2,a1,a2,a3,rfl,a5⟩,?_⟩;have I:qs[i]?=Vn qs[i]:=Ex hlt;generalize qs[i]=y at I;obtain⟨b,hb,bb⟩:=f6 pr I;have iy:=C.ins y (EF I);walk_at"";refine aL (ag.of G) (eY (v:=.ref b) (by rw[Ey,hb];rfl)) ?_;walk_at"";refine vA ?_;walk_at"";have J:=a6 _ _ Y.ext ak;refine⟨ff,pre,_,rfl,hF,J,?_⟩;walk_at"";refine⟨J,b,y,rfl,bb,iy,λl ps ys H5 e5 U au b1 hys c9=>?_⟩;have bc:=eh b1;have ad:=Y.step e5;obtain⟨c4,be,_⟩:=ad.d;obtain⟨ca,bg,_⟩:=ad.r;have bi:l≠f:=λz=>by obtain⟨kvs,hd,_⟩:=Y.d;rw[z,hd]at U;cases U
   have bm:l≠rw:=λz=>by rw[z,G]at U;cases U
   refine bO (ag.of au) ?_;refine forL (xs:=List.map V.ref ps) (λj σ H'=>∃g k2,RR H H' f rw g/\g.Nodup/\(∃new,g=qs++new)/\(∀z∈g,(∃n,Bfs.Rw S n x z)/\bD m TT z)/\(∀a,a<j->∀z,ys[a]?=Vn z->z∈g)/\(∀c o,c≠f->c≠rw->H5 c=Vn o->H' c=Vn o)/\σ=[Vn (.ref Z),Vn (.ref ff),Vn (.ref f),Vn (.ref rw),Vn (.int ((i+1:Nat):Int)),Vn (.ref b),k2]) ⟨qs,_,ad,C.nd,⟨[],by simp⟩,λz s=>⟨C.wk z s,C.ins z s⟩,λa ha=>absurd ha (Nat.not_lt_zero _),λc o _ _ h=>h,rfl⟩ (λj σ H' _ h=>by obtain⟨_,_,_,_,_,_,_,kp,_⟩:=h;exact ag.of (kp _ _ bi bm au)) ?_ ?_
   .rintro j v σ H6 hv ⟨A,k2,L,B,⟨new,p⟩,in6,cl6,W,rfl⟩;rw[Ey]at hv;obtain⟨th,bn,rfl⟩:=EH.mp hv;obtain⟨z,s,N⟩:=cV b1 bn;have nth:∀{c:Vb} {o:HO},H5 c=Vn o->(∀xs,o≠.tup xs)->th≠c:=λ{c o} hc hn=>bZ N hc (λe=>hn _ e.symm);have O:aE H6 th z:=W _ _ (nth be (λxs e=>by cases e)) (nth bg (λxs e=>by cases e)) N;have b2:S y z:=(hys z).mp (EF s);have b4:A.length<=24012:=bD.few F hT B λz s=>(in6 z s).2;obtain⟨kvs,hd,pk⟩:=L.d;walk_at"";refine cD ?_;walk_at"";refine⟨f,_,rfl,cP.t hd (k:=aZ z) O,?_⟩;by_cases hin:z∈A
    .obtain⟨v1,bu⟩:=Dg pk B hin;rw[bu];refine rd_exb (ax ?_);walk_at"";refine⟨A,_,L,B,⟨new,p⟩,in6,λa ha z' u=>?_,W,rfl⟩;by_cases ai:a<j
     .exact cl6 a ai z' u
     .have:a=j:=by lia
      subst this;rw[s]at u;cases u;exact hin
    .rw[tI pk hin];refine rd_exb (aC ?_);obtain⟨kvs,bv,cc,cd,b5,c5,c0⟩:=L.push (v:=.bl true) hin O;walk_at"";refine⟨f,_,rfl,g7.t bv (k:=aZ z) O (fm (by lia)),?_⟩;walk_at"";refine⟨df (ag.of b5),?_⟩;walk_at"";refine bN b5 (fm (by rw[Ew];lia)) ?_;walk_at"";obtain⟨n0,c1⟩:=C.wk y (EF I);refine⟨A++[z],_,c0,?_,⟨new++[z],by rw[p,List.append_assoc]⟩,λz' u=>?_,λa ha z' u=>?_,λc o nf nr hc=>?_,rfl⟩
     .rw[List.nodup_append];refine⟨B,by simp,λa ha c hc e=>?_⟩;rw[EG.mp hc]at e;exact hin (e ▸ ha)
     .rcases EU.mp u with h|h
      .exact in6 z' h
      .rw[EG.mp h];exact⟨⟨n0+1,.snoc c1 b2⟩,am y z iy b2⟩
     .by_cases ai:a<j
      .exact Fe _ (cl6 a ai z' u)
      .have:a=j:=by lia
       subst this;rw[s]at u;cases u;exact Fd _ (by simp)
     .rw[aF nr,aF nf];exact W c o nf nr hc
   .rintro σ H6 ⟨A,k2,L,B,⟨new,p⟩,in6,cl6,W,rfl⟩;rw[Ew,bc]at cl6;have b4:A.length<=24012:=bD.few F hT B λz s=>(in6 z s).2;have hle:qs.length<=A.length:=by rw[p,EN];lia
    refine⟨A,_,_,L,⟨B,by rw[p];exact Fe _ C.has,λz s=>(in6 z s).1,λz s=>(in6 z s).2,λj hj y' b7 z s=>?_⟩,by lia,b4,rfl⟩;have c2:j<qs.length:=by lia
    have aj:qs[j]?=Vn y':=by rw[p,EW c2]at b7;exact b7
    by_cases c3:j<i
    .rw[p];exact Fe _ (C.cl j c3 y' aj z s)
    .have:j=i:=by lia
     subst this;rw[I]at aj;cases aj;obtain⟨a,ha⟩:=Fi ((hys z).mpr s);exact cl6 a (EE.mp ha).1 z ha
 .rintro σ H4 ⟨qs,i,k0,k1,k2,Y,C,hi,ac,rfl⟩;obtain⟨as,G,pr⟩:=Y.r;walk_at"";exact q rw as qs H4 Y.ext G pr C.ins ac (C.done hi)
def Eu(H H':Hp):Prop:=∀b o,H b=Vn o->(∀f,o≠.ext f)->H' b=Vn o
def aT.eu{bs:List Vb}(e:Eu H H')(h:aT H bs ws):aT H' bs ws:=⟨h.1,λj b w a c=>e _ _ (h.2 j b w a c) (λf z=>by cases z)⟩
def aE.eu(e:Eu H H'){x:Bfs.Pl}(h:aE H p x):aE H' p x:=e _ _ h (λf z=>by cases z)
structure TL(H H':Hp)(q:Vb)(rs:List Vb)(n:Nat)(M:Nat->Nat->Bool):Prop where
 keep:∀b o,b∉rs->H b=Vn o->H' b=Vn o
 nd:rs.Nodup
 nq:q∉rs
 rows:Rows H' q rs n M
def TL.mark{r:Vb}{i j:Nat}(h:TL H H1 q rs n M)(hi:rs[i]?=Vn r)(m:j<n):TL H (upd H1 r (.lst ((aP n (M i)).set j (.bl true)))) q rs n (put2 M i j):=by
 have k:=EF hi;have nqr:q≠r:=λz=>h.nq (z ▸ k);refine⟨λb o nb e=>?_,h.nd,h.nq,?_,λa l ha=>?_⟩
 .have g:b≠r:=λz=>nb (by rw[z];exact k);rw[aF g];exact h.keep b o nb e
 .rw[aF nqr];exact h.rows.1
 .by_cases c:a=i
  .subst c;rw[hi]at ha;cases ha;rw[aK,ir _ _ m];congr 2;refine b6 λy _=>?_;unfold put2;by_cases d:y=j
   .rw[Ft d,Ft ⟨rfl,d⟩]
   .rw[Fs d,Fs λz=>d z.2]
  .have p:l≠r:=λz=>c ((List.getElem?_inj (EE.mp ha).1 h.nd).mp (by rw[ha,hi,z]));rw[aF p,h.rows.2 a l ha];congr 2;exact b6 λy _=>by unfold put2;rw[Fs λz=>c z.1]
theorem zy(ok:HOuse m ws){x:Bfs.Pl}(b:0<=top)(c:bD m top x)(h:LB ws m.toNat top x y):bD m top y:=by
 have m1:=ok.m1;rcases h with⟨w,d,ho,rfl,hle⟩|⟨_,i,j,e,_,rfl⟩
 .have a:=ok.ok w d;refine⟨a.o0,a.o1,?_,hle⟩;have hs:=(m5 a.dd x).mp ho;exact xf a.dd c.2.2.1 hs.2
 .have:=Kpt.lt ok.ok e;exact⟨by show(0:Int)<=(j:Int);lia,by show(j:Int)<m;lia,b,Int.le_refl _⟩
theorem WT.eu{H H':Hp}{c:Vb}{n:Nat}{ls:List Vb}{ws:List Way}(e:Eu H H')(h:WT H c n ls ws):WT H' c n ls ws:=
 ⟨e _ _ h.at_ (λf z=>by cases z),h.len,λr l a=>by obtain⟨bs,h1,h2⟩:=h.it r l a;exact⟨bs,e _ _ h1 (λf z=>by cases z),h2.eu e⟩⟩
theorem fD.eu{H H':Hp}(e:Eu H H'){l:Vb}{n:Nat}{R:Nat->Nat->Prop}(h:fD H l n R):fD H' l n R:=by obtain⟨ps,g,h1,h2,b⟩:=h;exact⟨ps,g,e _ _ h1 (λf z=>by cases z),cy (λa x h=>h.eu e) h2,b⟩
def l6{K:Eo}{x q:Vm}{line col:Nat}(e:∀b o,b∉rs->H b=Vn o->H' b=Vn o)(a:∀r∈rs,∃xs,H r=Vn (.lst xs))(h:eC K x q line col H):eC K x q line col H':=λc T d=>by
 have no:∀b o,H b=Vn o->(∀xs,o≠.lst xs)->H' b=Vn o:=λb o hb nl=>e b o (λz=>by obtain⟨xs,g⟩:=a b z;rw[g]at hb;cases hb;exact nl _ rfl) hb;rcases h c T d with h|⟨c',h1,h2⟩
 .exact .inl (no _ _ h (λxs z=>by cases z))
 .exact .inr ⟨c',no _ _ h1 (λxs z=>by cases z),no _ _ h2 (λxs z=>by cases z)⟩
def Tbs.kp{K:Eo}(e:∀b o,b∉rs->H b=Vn o->H' b=Vn o)(a:∀r∈rs,∃xs,H r=Vn (.lst xs))(h:Tbs K H):Tbs K H':=⟨l6 e a h.kept,l6 e a h.low,l6 e a h.risen⟩
inductive tM(K:Eo)(vs:List V)(H:Hp)(Q:VK)(E:XK):Prop|mk:∀a m ws b x,vs=[a,.ref b]->bh H a m ws->HOuse m ws->aE H b x->cA m x->fW K->Tbs K H->(∀q rs M H',Et H H'->Tbs K H'->Rows H' q rs m.toNat M->(rs.length:Int)=x.2+1->(∀i r:Nat,(i:Int)<=x.2->(r:Int)<m->(M i r=true↔∃n,Bfs.Rw (LB ws m.toNat x.2) n x ((r:Int),(i:Int))))->Q (.ref q) H')->tM K vs H Q E
theorem AQ(T:Bu w mg base):Cal P w K mg base "low_levels" 8 ["house","place"] (tM K):=by
 obtain⟨c9,T9,B⟩:=T.b_low_levels;refine(bw T.d_low_levels).oL B ["house","place","ways","keeps","levels","room","number"] λJ nd H vs Q E h=>?_;obtain⟨vh,m,ws,C,x,rfl,hv,ok,dg,ix,bl,di,q⟩:=h;have m1:=ok.m1;have m12:=ok.m12;obtain⟨i0,i1,i2,i3⟩:=id ix;refine⟨_,(av (aG (i:=2) nd rfl oj (aB (Ad T) J (ae (pv 0) aa)))
   (av (aG (i:=3) nd rfl oj (aB (Ei T) J (ae (pv 0) aa)))
   (av (gZ (i:=4) ["number"] [0] nd rfl oi (cM rfl T.range_ (ae (aA aV (ao (az K) (pv 1) af (λ_ _=>rfl)) af) aa)) (λ_=>(aI (i:=0) (show(["number","house"]:List Vm).Nodup from by decide +kernel) rfl oi oj)) (λ_=>cz) (λ_=>(aA jG (bp (ae a7 aa)) (ao (az K) (pv 1) af (λ_ _=>rfl)))))
   (av (bt PassesOwn.never rfl (bP K (mW [2,3,1] (yr T) J (ae (pv 1) (ae (ng rfl rfl B.hd B.blt B.gl (by decide +kernel) rfl rfl rfl) aa)))) (fh (n:=2) K rfl (br (aI (i:=5) nd rfl oi) (br (aI (i:=6) nd rfl oi) eA))) (aw (eM a7 (f7 (ao (aM K) (pv 4) (pv 6) (λ_ _=>rfl)) (pv 5) set_list))))
   (aw (aD (pv 4))))))),?_⟩
 walk_at"";refine⟨vh,m,ws,rfl,hv,ok,λc ls H1 e1 wt=>?_⟩;walk_at"";refine⟨vh,m,ws,rfl,hv.ext e1,ok,bl,di.ext e1,λN H2 e2 dk dl=>?_⟩;have ba:=e1.et.trans e2;have dn:=wt.et e2;have dp:=hv.et ba;have bg:=dg.et ba;obtain⟨ds,el,dt,du,_⟩:=id dp;subst dt;walk_at"";refine ay (ah.of bg) (v:=.int x.2) rfl ?_;walk_at"";refine cN (by lia) ?_;refine gG (λi ys H'=>Ext H2 H'/\∃rs:List Vb,ys=List.map V.ref rs/\rs.length=i/\rs.Nodup/\∀r∈rs,H' r=Vn (.lst (aP m.toNat λ_=>false))/\H2 r=Vo) (bT (by lia)) ⟨Ext.rfl' _,[],rfl,rfl,List.nodup_nil,λl h=>(nomatch h)⟩ (λi ys H' _ h=>by obtain⟨_,ls,rfl,h,_⟩:=h;rw[Ew,h];exact ER _) ?_ ?_
 .rintro i ys H3 hi ⟨e3,rs,rfl,hl,bm,hrs⟩;walk_at"";refine aC ?_;walk_at"";refine aO λz1 H4 e4 dx _=>?_;walk_at"";refine ay (ah.of ((e3.trans e4) _ _ du)) (v:=.int m) rfl ?_;refine j2 dx (by lia) (bT (by simp;lia)) (cF λz2 H5 e5 cc F=>?_);rw[j3]at cc;refine⟨(e3.trans e4).trans e5,rs++[z2],by rw[EM];rfl,by rw[EN,hl];rfl,?_,λr J=>?_⟩
  .rw[List.nodup_append];refine⟨bm,by simp,λa ha b hb z=>?_⟩;rw[EG.mp hb]at z;subst z;rw[e4 _ _ (hrs a ha).1]at F;cases F
  .rcases EU.mp J with h|h
   .exact⟨(e4.trans e5) _ _ (hrs r h).1,(hrs r h).2⟩
   .rw[EG.mp h];refine⟨cc,?_⟩;cases y:H2 z2 with
    | none=>rfl
    | some o=>rw[(e3.trans e4) _ _ y]at F;cases F
 .rintro ys H3 lq ⟨e3,rs,rfl,em,bm,hrs⟩ bn;have bu:=a8 (o:=.lst (List.map V.ref rs)) bn;have cd:(upd H3 lq (.lst (List.map V.ref rs))) lq=_:=aK;have dy:lq∉rs:=λz=>by rw[(hrs lq z).1]at bn;cases bn
  have ab:Rows (upd H3 lq (.lst (List.map V.ref rs))) lq rs m.toNat (λ_ _=>false):=⟨aK,λi r h=>bu _ _ (hrs r (EF h)).1⟩;have Y:=e3.trans bu;generalize upd H3 lq (.lst (List.map V.ref rs))=H4 at bu cd ab Y ⊢;have e0:=ba.trans Y.et;have bv:=dk.ext Y;have e7:=dn.ext Y;have ce:=dl.et Y.et;have cf:aE H4 C x:=Y _ _ bg;walk_at"";show jL _ [2,3,1] _ (["house","place","ways","keeps","levels","room","number"]:List Vm) _ _ _ _;generalize PySem.Env.cells _=cells0;refine nk ?_;walk_at"";refine lV ?_;refine mC (x:="low_levels") bv.low B.tin λfl c' cl H5 hcl e5 e8 ot hf ch=>?_;have t5:Tbs K H5:=⟨ot "kept" _ _ _ (λc2 T2 e2=>bl "low_levels" (by simp) "kept" (by simp) (by decide +kernel) _ _ _ _ B.tin e2) bv.kept,e8,ot "risen" _ _ _ (λc2 T2 e2=>bl "low_levels" (by simp) "risen" (by simp) (by decide +kernel) _ _ _ _ B.tin e2) bv.risen⟩;walk_at"";refine⟨λj hj=>?_,λcp hlen u=>?_⟩
  .simp only[EK,E5,or_false]at hj;rcases hj with rfl|rfl|rfl
   .exact⟨_,rfl⟩
   .exact⟨_,rfl⟩
   .exact⟨_,rfl⟩
  obtain⟨⟨n1,L,o1,v1⟩,⟨n2,G,Z,v2⟩,⟨n3,I,o3,v3⟩,rfl⟩:=xu hlen;obtain⟨c0,ac,ad,ai,u1,O,R⟩:=u 0 2 _ rfl rfl;obtain⟨c1,aj,ak,am,u2,S,U⟩:=u 1 3 _ rfl rfl;obtain⟨c3,an,ap,au,u3,W,X⟩:=u 2 1 _ rfl rfl;clear u hlen;dsimp only at c0 ac ad ai O R c1 aj ak am S U c3 an ap au W X;have ci:(Fb "ways")=n1:=Fc c0;have c4:(V.ref c)=v1:=Fc (Fc ad);have co:(Fb "keeps")=n2:=Fc c1;have c5:(V.ref N)=v2:=Fc (Fc ak);have cr:(Fb "place")=n3:=Fc c3;have ca:(V.ref C)=v3:=Fc (Fc ap);clear c0 ad c1 ak c3 ap;subst ci;subst c4;subst co;subst c5;subst cr;subst ca;obtain⟨a1,a4⟩:=hcl.has (Fb "ways") rfl;obtain⟨a2,a5⟩:=hcl.has (Fb "keeps") rfl;obtain⟨a3,a6⟩:=hcl.has (Fb "place") rfl;have ct:=(hcl.fr _ _ a4).2;have cu:=(hcl.fr _ _ a5).2;have cv:=(hcl.fr _ _ a6).2;rw[ac]at ct;rw[aj]at cu;rw[an]at cv;cases ct;cases cu;cases cv;have d0:L≠G:=λz=>absurd (hcl.inj _ _ _ a4 (z ▸ a5)) (by decide +kernel);have d4:L≠I:=λz=>absurd (hcl.inj _ _ _ a4 (z ▸ a6)) (by decide +kernel);have d5:G≠I:=λz=>absurd (hcl.inj _ _ _ a5 (z ▸ a6)) (by decide +kernel);obtain⟨cp,u⟩:∃cp:List Cap,cp=[⟨Fb "ways",L,o1,V.ref c⟩,⟨Fb "keeps",G,Z,V.ref N⟩,⟨Fb "place",I,o3,V.ref C⟩]:=⟨_,rfl⟩;have F:∀b o9,(cellsOf cp).lookup b=Vn o9->H5 b=Vo:=λb o9 hb=>by
   obtain⟨e,he,rfl,rfl⟩:=g9 hb;rw[u]at he;simp only[EK,E5,or_false]at he;rcases he with rfl|rfl|rfl
   .exact ai
   .exact am
   .exact au
  have ex:=kE F;have b5:Caps (bQ (cellsOf cp) H5) cl cp:=by
   refine⟨λe he=>?_,λy g hy=>?_⟩
   .rw[u]at he ⊢;simp only[EK,E5,or_false]at he;rcases he with rfl|rfl|rfl
    .exact⟨a4,fB (by simp[cellsOf]),u1,O,R⟩
    .refine⟨a5,fB ?_,u2,S,U⟩;show List.lookup G ((L,o1)::(G,Z)::[(I,o3)])=Vn Z;rw[Fj,show (G == L)=false from beq_eq_false_iff_ne.mpr (Ne.symm d0),Fj,beq_self_eq_true]
    .refine⟨a6,fB ?_,u3,W,X⟩;show List.lookup I ((L,o1)::(G,Z)::[(I,o3)])=Vn o3;rw[Fj,show (I == L)=false from beq_eq_false_iff_ne.mpr (Ne.symm d4),Fj,show (I == G)=false from beq_eq_false_iff_ne.mpr (Ne.symm d5),Fj,beq_self_eq_true]
   .have hm:=iX (hcl.fr y g hy).1;rw[u];simp at hm;rcases hm with rfl|rfl|rfl
    all_goals first|(rw[a4]at hy;cases hy;exact⟨⟨Fb "ways",L,o1,V.ref c⟩,by simp,rfl,rfl⟩)|(rw[a5]at hy;cases hy;exact⟨⟨Fb "keeps",G,Z,V.ref N⟩,by simp,rfl,rfl⟩)|(rw[a6]at hy;cases hy;exact⟨⟨Fb "place",I,o3,V.ref C⟩,by simp,rfl,rfl⟩)
  have d6:=(e7.et e5).ext ex;have bi:=(ce.et e5).et ex.et;have b7:aE (bQ (cellsOf cp) H5) C x:=ex _ _ (cf.et e5);subst u;have hF:=
   nZ (P:=P) (w:=w) (K:=K) (mg:=mg) (base:=base) (k:=4) hf hcl (["here"]:List Vm) [⟨Fb "ways",L,o1,V.ref c⟩,⟨Fb "keeps",G,Z,V.ref N⟩,⟨Fb "place",I,o3,V.ref C⟩] (rC m x.2 (LB ws m.toNat x.2)) (λH=>WT H c m.toNat ls ws/\fD H N m.toNat (Kpt ws m.toNat)/\aE H C x) ⟨rfl,rfl,rfl,by decide +kernel,by decide +kernel⟩ (λ_ _ _ us hl=>by obtain⟨u1,rfl⟩:=mY hl;rfl) (λvs H Q h=>by obtain⟨p,y,rfl,_⟩:=h;rfl) (λA outer s H vs Q e9 d7 hI hR=>by
    obtain⟨p,y,rfl,ea,iy,hQ⟩:=hR;have d8:=d7.2.2.look;obtain⟨eb,ec,ed⟩:=hI;have eu:Eu H (a9 (cellsOf [⟨Fb "ways",L,o1,V.ref c⟩,⟨Fb "keeps",G,Z,V.ref N⟩,⟨Fb "place",I,o3,V.ref C⟩]) H):=λb o hb nf=>hV d8 hb nf;have k1:=eb.eu eu;have k2:=ec.eu eu;have k3:=ed.eu eu;have kp:=ea.eu eu;refine⟨_,(aB (Ao T) e9 (ae (pv 1) (ae (pv 2) (ae (ao (az K) (pv 3) af (λ_ _=>rfl)) (ae (pv 0) aa))))),?_⟩;have hb:∀H',Ext (a9 (cellsOf [⟨Fb "ways",L,o1,V.ref c⟩,⟨Fb "keeps",G,Z,V.ref N⟩,⟨Fb "place",I,o3,V.ref C⟩]) H) H'->Ext H (bQ (cellsOf [⟨Fb "ways",L,o1,V.ref c⟩,⟨Fb "keeps",G,Z,V.ref N⟩,⟨Fb "place",I,o3,V.ref C⟩]) H'):=λH' e=>vc d8 e;have hu:∀l,(cellsOf [⟨Fb "ways",L,o1,V.ref c⟩,⟨Fb "keeps",G,Z,V.ref N⟩,⟨Fb "place",I,o3,V.ref C⟩]).lookup l=Vo->a9 (cellsOf [⟨Fb "ways",L,o1,V.ref c⟩,⟨Fb "keeps",G,Z,V.ref N⟩,⟨Fb "place",I,o3,V.ref C⟩]) H l=H l:=λl hl=>c6 hl;generalize a9 (cellsOf [⟨Fb "ways",L,o1,V.ref c⟩,⟨Fb "keeps",G,Z,V.ref N⟩,⟨Fb "place",I,o3,V.ref C⟩]) H=HU at k1 k2 k3 kp hb hu ⊢;generalize cellsOf [⟨Fb "ways",L,o1,V.ref c⟩,⟨Fb "keeps",G,Z,V.ref N⟩,⟨Fb "place",I,o3,V.ref C⟩]=cs at hb hu ⊢;show lN _ _ _ _ [Vn (.ref p),Vn (.ref c),Vn (.ref N),Vn (.ref C)] _ _;walk_at"";refine ay (ah.of k3) (v:=.int x.2) rfl ?_;walk_at"";refine⟨c,N,x.2,p,m,ws,ls,y,rfl,k1,k2,ok,kp,iy.1,iy.2.1,λl ps ys H' e hn hl bb hys eg=>?_⟩;intro d9;have nl:cs.lookup l=Vo:=by
     cases z:cs.lookup l with
     | none=>rfl
     | some o=>rw[d9 l o z]at hl;cases hl
    have et:=kE d9;exact hQ l ps ys _ (hb H' e) (by rw[<-hu l nl];exact hn) (et _ _ hl) (cy (λa x h=>et _ _ h) bb) hys eg)
  refine⟨C,fl,_,x,m,x.2,LB ws m.toNat x.2,rfl,b7,⟨i0,i1,i2,Int.le_refl _⟩,m12,by lia,hF,⟨⟨ex _ _ hf,ex _ _ ch,b5⟩,d6,bi,b7⟩,λH H' e h=>⟨h.1.ext e,h.2.1.ext e,h.2.2.1.et e.et,e _ _ h.2.2.2⟩,λy z hy hS=>zy ok i2 hy hS,λl as qs H6 e6 da bb hin en ei=>?_⟩;clear hF;obtain⟨b1,b2,b3,b4⟩:=held F e6;refine⟨b1,?_⟩;have bc:=b4 _ _ da (λf z=>by cases z);have b8:Paired (aE (a9 _ H6)) as qs:=cy (λa x h=>b4 _ _ h (λf z=>by cases z)) bb;have d:=(ab.et e5).ext b2;have db:=(e0.trans e5).trans b2.et;have t7:=t5.ext b2;generalize a9 _ H6=H7 at bc b8 d db t7 ⊢;have hal:=eh b8;have ej:∀r∈rs,∀o,H r=Vn o->(∀ps,o≠.tbl ps)->False:=λr J o ho no=>by have:=ba _ _ ho no;rw[(hrs r J).2]at this;cases this
  clear b5 F ex d6 bi b7 e6 da bb b1 b2 b3 b4 hf ch hcl a4 a5 a6 ac aj an ai am au R U X O S W d0 d4 d5 ot;have tup1:∀(b:Vb) (z:Bfs.Pl),aE H7 b z->b∉rs:=λb z hb J=>by obtain⟨j,hj⟩:=Fi J;have h1:=d.2 j b hj;have h2:H7 b=Vn (.tup [.int z.1,.int z.2]):=hb;rw[h1]at h2;cases h2
  have nl:l∉rs:=λJ=>by
   obtain⟨j,hj⟩:=Fi J;have h1:=d.2 j l hj;rw[bc]at h1;have h2:List.map V.ref as=aP m.toNat λ_=>false:=by
    injection h1 with h1
    injection h1
   have h3:=congrArg (λz:List V=>z[0]?) h2
   try dsimp only at h3
   rw[fF _ (by lia),Ey]at h3;cases y:as[0]? with
   | none=>rw[y]at h3;cases h3
   | some a=>rw[y]at h3;cases h3
  refine bO (ag.of bc) ?_;refine forL (xs:=List.map V.ref as) (λj σ H'=>∃M k1 k2,TL H7 H' lq rs m.toNat M/\(∀i r:Nat,M i r=true↔(((r:Nat):Int),((i:Nat):Int))∈qs.take j)/\σ=[Vn (.ref ds),Vn (.ref C),Vn (.ref c),Vn (.ref N),Vn (.ref lq),k1,k2]) ⟨_,_,_,⟨λ_ _ _ e=>e,bm,dy,d⟩,λi r=>by simp,rfl⟩ (λj σ H' _ h=>by obtain⟨M,k1,k2,tl,_⟩:=h;exact ag.of (tl.keep _ _ nl bc)) ?_ ?_
  .rintro j v σ H8 hx ⟨M,k1,k2,tl,hM,rfl⟩;rw[Ey]at hx;obtain⟨b,hb,rfl⟩:=EH.mp hx;obtain⟨z,hz,dc⟩:=cV b8 hb;obtain⟨z0,z1,z2,z3⟩:=hin z (EF hz);have dd:aE H8 b z:=tl.keep _ _ (tup1 b z dc) dc;have ek:z.2.toNat<rs.length:=by lia
   have be:rs[z.2.toNat]?=Vn rs[z.2.toNat]:=Ex ek;generalize rs[z.2.toNat]=ar at be;have hrow:=tl.rows.2 _ _ be;refine eS (ah.of dd) rfl ?_;walk_at"";refine aL (ag.of tl.rows.1) (v:=.ref ar) (dZ z2 (by rw[Ey,be];rfl)) ?_;walk_at"";refine gJ hrow (gy z0 (by rw[bW];lia)) ?_;refine⟨_,_,_,tl.mark be (by lia),λi r=>?_,rfl⟩;rw[List.take_add_one,hz,EU];unfold put2;split
   .rename_i y;simp only[true_iff];right;simp;refine Prod.ext ?_ ?_
    .show((r:Nat):Int)=z.1;lia
    .show((i:Nat):Int)=z.2;lia
   .rename_i y;rw[hM];constructor
    .exact λh=>.inl h
    .rintro(h|h)
     .exact h
     .have h':(((r:Nat):Int),((i:Nat):Int))=z:=by simpa using h
      refine absurd ⟨?_,?_⟩ y
      .rw[<-h'];show i=((i:Nat):Int).toNat;lia
      .rw[<-h'];show r=((r:Nat):Int).toNat;lia
  .rintro σ H8 ⟨M,k1,k2,tl,hM,rfl⟩;rw[Ew,hal,EZ]at hM;walk_at"";refine q lq rs M H8 (λb o hb no=>?_) (t7.kp tl.keep λr J=>?_) tl.rows (by lia) λi r hi J=>?_
   .have h7:=db _ _ hb no;exact tl.keep b o (λJ=>ej b J o hb no) h7
   .obtain⟨j,hj⟩:=Fi J;exact⟨_,d.2 j r hj⟩
   .rw[hM];exact ei _
inductive vx(K:Eo)(vs:List V)(H:Hp)(Q:VK)(E:XK):Prop|mk:∀a lv n f R,vs=[.ref a,.ref lv]->fD H a n R->H lv=Vn (.lst (aP n f))->n<=12->(∀l g H',Ext H H'->H l=Vo->H' l=Vn (.lst (aP n g))->(∀j,j<n->(g j=true↔∃i,i<n/\f i=true/\R i j))->Q (.ref l) H')->vx K vs H Q E
theorem pq(T:Bu w mg base):Cal P w K mg base "next_level" 1 ["rises","level"] (vx K):=by
 refine(bw T.d_next_level).oS ["rises","level","risen_to","p","q"] λM nd H vs Q E h=>?_;obtain⟨rl,lv,n,f',R,rfl,O,s,hn,q⟩:=h;obtain⟨ps,g,u,x,Z⟩:=O;have S:=eh x;refine⟨_,(@av _ _ _ _ _ (@aG _ _ 2 _ _ _ _ nd rfl oi (aA jG (@bp _ _ _ _ (aq a7 aa rfl)) (aS (cq K) rfl T.len_ PySem.boot_len (aq (pv 1) aa rfl))) rfl oi)
   (@av _ _ _ _ _ (bt PassesOwn.never rfl (bP K (pv 0)) (fh (n:=2) K rfl (br (aI (i:=3) nd rfl oi) (br (aI (i:=4) nd rfl oi) eA))) (@aw _ _ _ (cJ (a0 (@ao _ _ _ _ _ _ _ (aM K) (pv 1) (pv 3) (λ_ _=>rfl))) (@aw _ _ _ (@eM _ _ _ _ _ _ a7 (f7 (pv 2) (pv 4) set_list) rfl rfl rfl)) aQ)))
   (@aw _ _ _ (@aD _ _ _ _ (pv 2))))),?_⟩
 walk_at"";refine aO λz1 H1 U W _=>?_;walk_at"";refine dU (ag.of (U _ _ s)) ?_;rw[bW];refine j2 W (by lia) (bT (by simp;lia)) (cF λrt H2 e2 A B=>?_);rw[j3,EI]at A;have C:=U.trans e2;have d:H rt=Vo:=by
  cases y:H rt with
  | none=>rfl
  | some o=>rw[U _ _ y]at B;cases B
 walk_at"";refine bO (ag.of (C _ _ u)) ?_;refine forL (xs:=List.map V.ref ps) (λj σ H'=>∃h k1 k2,Ext H H'/\H' rt=Vn (.lst (aP n h))/\(∀b,h b=true↔∃z∈(dz n g n).take j,f' z.1.toNat=true/\z.2.toNat=b)/\σ=[Vn (.ref rl),Vn (.ref lv),Vn (.ref rt),k1,k2]) ⟨_,_,_,C,A,λb=>by simp,rfl⟩ (λj σ H' _ h=>by obtain⟨_,_,_,e,_⟩:=h;exact ag.of (e _ _ u)) ?_ ?_
 .rintro j v σ X hx ⟨h,k1,k2,l,a,F,rfl⟩;rw[Ey]at hx;obtain⟨b,hb,rfl⟩:=EH.mp hx;obtain⟨z,N,Y⟩:=cV x hb;obtain⟨i,r,hi,M,G,rfl⟩:=iZ.mp (EF N);have I:aE X b (((i:Nat):Int),((r:Nat):Int)):=l _ _ Y;refine eS (ah.of I) rfl ?_;walk_at"";refine cD ?_;walk_at"";refine aL (ag.of (l _ _ s)) (dR (by lia) (by lia)) ?_;rw[EI];walk_at"";have step:∀P:Bfs.Pl->Prop,(∃z∈(dz n g n).take (j+1),P z)↔(∃z∈(dz n g n).take j,P z)\/P (((i:Nat):Int),((r:Nat):Int)):=λP=>by
   rw[List.take_add_one,N];constructor
   .rintro⟨z,k,m⟩;rcases EU.mp k with k|k
    .exact .inl ⟨z,k,m⟩
    .have:z=(((i:Nat):Int),((r:Nat):Int)):=by simpa using k
     subst this;exact .inr m
   .rintro(⟨z,k,m⟩|m)
    .exact⟨z,Fe _ k,m⟩
    .exact⟨_,Fd _ (by simp),m⟩
  cases p:f' i with
  | false=>
   refine ax ?_;walk_at"";refine⟨h,_,_,l,a,λb=>?_,rfl⟩;rw[F,step];constructor
   .exact λy=>.inl y
   .rintro(y|⟨y,_⟩)
    .exact y
    .have J:f' ((i:Nat):Int).toNat=true:=y;rw[EI,p]at J;cases J
  | true=>
   refine aC ?_;walk_at"";refine gJ a (gy (by lia) (by rw[bW];lia)) ?_;rw[EI,ir _ _ M];refine⟨_,_,_,bK l d,aK,λb=>?_,rfl⟩;rw[step];by_cases c:b=r
   .rw[Ft c];simp only[true_iff];refine .inr ⟨?_,?_⟩
    .show f' ((i:Nat):Int).toNat=true;rw[EI];exact p
    .show((r:Nat):Int).toNat=b;rw[EI];exact c.symm
   .rw[Fs c,F];constructor
    .exact λy=>.inl y
    .rintro(y|⟨_,y⟩)
     .exact y
     .have J:((r:Nat):Int).toNat=b:=y;rw[EI]at J;exact absurd J.symm c
 .rintro σ X ⟨h,k1,k2,l,a,F,rfl⟩;rw[Ew,S,EZ]at F;walk_at"";refine q rt h X l d a λb hb=>?_;rw[F];constructor
  .rintro⟨z,N,p,rfl⟩;obtain⟨i,r,hi,M,G,rfl⟩:=iZ.mp N;have L:f' ((i:Nat):Int).toNat=true:=p;rw[EI]at L;refine⟨i,hi,L,?_⟩;show R i ((r:Nat):Int).toNat;rw[EI];exact(Z i r hi M).mp G
  .rintro⟨i,hi,p,hR⟩;refine⟨(((i:Nat):Int),((b:Nat):Int)),iZ.mpr ⟨i,b,hi,hb,(Z i b hi hb).mpr hR,rfl⟩,?_,?_⟩
   .show f' ((i:Nat):Int).toNat=true;rw[EI];exact p
   .show((b:Nat):Int).toNat=b;exact EI b
def tU{f:Nat->Bool}{lo i:Nat}(h:ys=(row f lo i).map V.int)(a:f (lo+i)=true):ys++[V.int ((lo+i:Nat):Int)]=(row f lo (i+1)).map V.int:=by rw[vG,Ft a,EM,h];rfl
def sr{f:Nat->Bool}{lo i:Nat}(h:ys=(row f lo i).map V.int)(a:f (lo+i)=false):ys=(row f lo (i+1)).map V.int:=by rw[vG,Fs (by rw[a];decide),List.append_nil,h]
def cC(H:Hp)(v:V)(b s:Int)(o a:List Int):Prop:=∃p q r,v=.ref p/\H p=Vn (.tup [.int b,.int s,.ref q,.ref r])/\H q=Vn (.tup (o.map V.int))/\H r=Vn (.tup (a.map V.int))
def cC.ext{b:Int}(e:Ext H H')(h:cC H v b s o a):cC H' v b s o a:=by obtain⟨p,q,r,rfl,h1,h2,c⟩:=h;exact⟨p,q,r,rfl,e _ _ h1,e _ _ h2,e _ _ c⟩
theorem lD{f:Nat->Bool}{i:Int}(b:0<=i)(h:i<=n):cH (aP n f) (Vn i) Vo=aP (n-i.toNat) λk=>f (i.toNat+k):=by
 unfold cH;rw[bW,HT.l5];have e:HT.aR n 0 (Vn i)=i.toNat:=by show(if i<0 then(i+(n:Int)).toNat else min i.toNat n)=i.toNat;rw[Fs (by lia)];lia
 rw[e];apply List.ext_getElem?;intro k;rcases Fh k (n-i.toNat)with a|a
 .rw[List.getElem?_take_of_lt a,List.getElem?_drop,fF _ (by lia),fF _ a]
 .rw[List.getElem?_eq_none (by rw[Fl,List.length_drop,bW];lia),List.getElem?_eq_none (by rw[bW];lia)]
def dB(n:Nat)(f:Nat->Bool):List PyData:=(Fo n).map λi=>PyData.bool (f i)
theorem nV{α:Type}{R:V->PyData->Prop}{g:α->V}{k:α->PyData}(h:∀x,R (g x) (k x)):∀l:List α,Paired R (l.map g) (l.map k)
 | []=>.nil
 | x::l=>.cons (h x) (nV h l)
def jX{f:Nat->Bool}(h:H p=Vn (.lst (aP n f))):aX H 1 (.ref p) (.list (dB n f)):=
 .inr ⟨p,aP n f,dB n f,rfl,.inr ⟨h,rfl⟩,nV (λi=>(rfl:f i=f i)) _⟩
theorem sL{α:Type}(f g:α->Bool):∀l:List α,PyData.eqvAll (l.map λi=>PyData.bool (f i)) (l.map λi=>PyData.bool (g i))=l.all λi=>f i == g i
 | []=>rfl
 | x::l=>by show(PyData.eqv (.bool (f x)) (.bool (g x)) && PyData.eqvAll (l.map λi=>PyData.bool (f i)) (l.map λi=>PyData.bool (g i)))=((f x == g x) && l.all λi=>f i == g i);rw[sL f g l];rfl
def jD{f:Nat->Bool}:PyData.eqv (.list (dB n f)) (.list (dB n g))=true↔∀i,i<n->f i=g i:=by show PyData.eqvAll (dB n f) (dB n g)=true↔_;unfold dB;rw[sL,E6];simp only[List.mem_range,beq_iff_eq]
theorem yz(hd:d<=n)(a:n % d=0):PyData.eqv (.list (dB (n-d) λk=>g (d+k))) (.list (dB (n-d) g))=true↔Alike g 0 n d:=by
 rw[jD];constructor
 .intro h;refine⟨a,λi hi=>?_⟩;have:=h i (by lia);rw[show 0+i+d=d+i by lia,this,Nat.zero_add]
 .intro h i hi;have:=h.2 i (by lia);rw[show 0+i+d=d+i by lia,Nat.zero_add]at this;exact this
inductive vC(K:Eo)(vs:List V)(H:Hp)(Q:VK)(E:XK):Prop|mk:∀(p:Vb) (n:Nat) (g:Nat->Bool),vs=[.ref p]->1<=n->n<=20000->H p=Vn (.lst (aP n g))->(∀(d:Nat) H',Ext H H'->1<=d->d<=n->Alike g 0 n d->(∀e,1<=e->e<d->¬Alike g 0 n e)->Q (.int d) H')->vC K vs H Q E
theorem yd(T:Bu w mg base):Cal P w K mg base "least_step" 1 ["turn"] (vC K):=by
 refine(ck T.d_least_step).oS ["turn","whole","step"] λC nd H vs Q E h=>?_;obtain⟨p,n,g,rfl,v,F,z,q⟩:=h;refine⟨_,(av (aG (i:=1) nd rfl oi (aS (cq K) rfl T.len_ PySem.boot_len (ae (pv 0) aa)))
   (av (aG (i:=2) nd rfl oi af)
   (av (fA PassesOwn.never (PW.pt (bJ (aN dY (aA cw (pv 1) (pv 2)) af (aJ _)) (b9 (aN (uo C) (gU (iw K) (pv 0) (fV (pv 2)) ib) (gU (iw K) (pv 0) ib (fV (aA de (pv 1) (pv 2)))) (aJ _))))) (aw (kh (i:=2) nd rfl oi af mU)))
   (aw (aD (pv 2)))))),?_⟩
 walk_at"";refine dU (ag.of z) ?_;rw[bW];walk_at"";refine fo (λm σ H'=>Ext H H'/\∃d:Nat,σ=[Vn (.ref p),Vn (.int n),Vn (.int d)]/\1<=d/\d<=n/\m=n-d/\∀e,1<=e->e<d->¬Alike g 0 n e)
  (λσ H'=>Ext H H'/\∃d:Nat,σ=[Vn (.ref p),Vn (.int n),Vn (.int d)]/\1<=d/\d<=n/\Alike g 0 n d/\∀e,1<=e->e<d->¬Alike g 0 n e) (n-1)
  ⟨Ext.rfl' H,1,rfl,ER _,v,rfl,λe h1 h2=>by lia⟩ ?_ ?_
 rotate_left
 .rintro σ H' ⟨e,d,rfl,h1,h2,ha,s⟩;walk_at"";exact q d H' e h1 h2 ha s
 rintro m σ H' ⟨e,d,rfl,h1,h2,rfl,s⟩;have b:=e _ _ z;have a:((n:Int) % (d:Int)=0)↔n % d=0:=by have:(n:Int) % (d:Int)=((n % d:Nat):Int):=rfl;lia
 have next:∀H2,Ext H' H2->¬Alike g 0 n d->∃A,A<n-d/\Ext H H2/\∃c:Nat,[Vn (V.ref p),Vn (V.int n),Vn (V.int ((d:Int)+1))]=[Vn (V.ref p),Vn (V.int n),Vn (V.int c)]/\1<=c/\c<=n/\A=n-c/\∀e,1<=e->e<c->¬Alike g 0 n e:=by
  intro H2 j l;have hlt:d<n:=by
   rcases Fh d n with h|h
   .exact h
   .have:d=n:=by lia
    subst this;exact absurd ⟨Nat.mod_self d,λi hi=>by lia⟩ l
  refine⟨n-(d+1),by lia,e.trans j,d+1,rfl,by lia,by lia,rfl,λe' G I=>?_⟩;rcases Fh e' d with B|B
  .exact s e' G B
  .have:e'=d:=by lia
   subst this;exact l
 walk_at"";by_cases u:(n:Int) % (d:Int)=0
 .rw[Fq u];refine ax ?_;walk_at"";refine ij (ag.of b) (cF λJ H1 x o _=>?_);walk_at"";refine ij (ag.of (x _ _ b)) (cF λp2 H2 j r _=>?_);rw[lD (by lia) (by lia),EI]at o;rw[C9 (by lia) (by lia),show ((n:Int)-(d:Int)).toNat=n-d by lia]at r;refine⟨1,1,_,_,jX (j _ _ o),jX r,by decide,?_⟩;walk_at"";have hal:=yz (g:=g) h2 (a.mp u);cases y:PyData.eqv (.list (dB (n-d) λk=>g (d+k))) (.list (dB (n-d) g))with
  | true=>
   exact ax ⟨e.trans (x.trans j),d,rfl,h1,h2,hal.mp y,s⟩
  | false=>
   refine aC ⟨_,λ_ _ h=>h,?_⟩;walk_at"";exact next H2 (x.trans j) λh=>by rw[hal.mpr h]at y;cases y
 .rw[Fp u];refine aC (aC ⟨_,λ_ _ h=>h,?_⟩);walk_at"";exact next H' (Ext.rfl' H') λh=>u (a.mpr h.1)
def oY{f:Nat->Bool}{b:Nat}:Alike (λk=>f (b+k)) 0 n d↔Alike f b n d:=by unfold Alike;simp only[Nat.zero_add,Nat.add_assoc]
inductive tW(K:Eo)(vs:List V)(H:Hp)(Q:VK)(E:XK):Prop|mk:∀(p:Vb) (b n:Nat) (f:Nat->Bool),vs=[.ref p,.int b]->1<=n->b+n<=20000->H p=Vn (.lst (aP (b+n) f))->aW f b n->(∀v (l d:Nat) H',Ext H H'->Least f d l->l<=b->d<=n->cC H' v l d (row f 0 l) (row f l d)->Q v H')->tW K vs H Q E
theorem AY(T:Bu w mg base):Cal P w K mg base "stair_of_marks" 2 ["marks","base"] (tW K):=by
 refine(bw T.d_stair_of_marks).oS ["marks","base","step","low","once","again"] λhr nd H vs Q E h=>?_;obtain⟨p,b,n,g,rfl,v,a2,hp,y,q⟩:=h;refine⟨_,(av (aG (i:=2) nd rfl oi (aB (yd T) hr (ae (gU (iw K) (pv 0) (fV (pv 1)) ib) aa)))
   (av (aG (i:=3) nd rfl oi (pv 1))
   (av (fA PassesOwn.never (PW.pt (eT (aN eB (pv 3) af (aJ _)) (fS (aN bH (ao (aM K) (pv 0) (aA de (pv 3) af) (λ_ _=>rfl)) (ao (aM K) (pv 0) (aA aV (aA de (pv 3) af) (pv 2)) (λ_ _=>rfl)) (aJ _))))) (aw (kh (i:=3) nd rfl oi af yj)))
   (av (gZ (i:=4) ["number"] [0] nd rfl oi (cM rfl T.range_ (ae (pv 3) aa)) (λ_=>(aI (i:=0) (show(["number","marks"]:List Vm).Nodup from by decide +kernel) rfl oi oj)) (λ_=>(gj (a0 (ao (aM K) (pv 1) (pv 0) (λ_ _=>rfl))))) (λ_=>(pv 0)))
   (av (gZ (i:=5) ["number"] [0] nd rfl oi (Dv rfl T.range_ (ae (pv 3) (ae (aA aV (pv 3) (pv 2)) aa))) (λ_=>(aI (i:=0) (show(["number","marks"]:List Vm).Nodup from by decide +kernel) rfl oi oj)) (λ_=>(gj (a0 (ao (aM K) (pv 1) (pv 0) (λ_ _=>rfl))))) (λ_=>(pv 0)))
   (aw (aD (bG (ae (pv 3) (ae (pv 2) (ae (ic (kU K) rfl T.tuple_ PyProof.Rows.boot_tuple (ae (pv 4) aa)) (ae (ic (kU K) rfl T.tuple_ PyProof.Rows.boot_tuple (ae (pv 5) aa)) aa)))))))))))),?_⟩
 walk_at"";refine ij (ag.of hp) (cF λp1 H1 e1 z _=>?_);rw[lD (by lia) (by lia),EI,show b+n-b=n by lia]at z;walk_at"";refine⟨p1,n,_,rfl,v,by lia,z,λd H2 e2 N O hal j=>?_⟩;have A:=oY.mp hal;have c:∀e,1<=e->e<d->¬Alike g b n e:=λe I J h5=>j e I J (oY.mpr h5);have B:Ext H H2:=e1.trans e2;have k:=B _ _ hp;walk_at"";refine fo (λm σ H'=>H'=H2/\∃l:Nat,σ=[Vn (.ref p),Vn (.int b),Vn (.int d),Vn (.int l),Vo,Vo]/\l<=b/\m=l/\∀x,l<=x->x<b->g x=g (x+d))
  (λσ H'=>H'=H2/\∃l:Nat,σ=[Vn (.ref p),Vn (.int b),Vn (.int d),Vn (.int l),Vo,Vo]/\l<=b/\(∀x,l<=x->x<b->g x=g (x+d))/\(l=0\/g (l-1)≠g (l-1+d))) b
  ⟨rfl,b,rfl,ER _,rfl,λx h1 h2=>by lia⟩ ?_ ?_
 .rintro m σ H' ⟨rfl,l,rfl,C,rfl,a⟩;walk_at"";by_cases h0:(0:Int)<(m:Int)
  .rw[Fq h0];refine aC ?_;walk_at"";refine aL (ag.of k) (dR (by lia) (by lia)) ?_;walk_at"";refine aL (ag.of k) (dR (by lia) (by lia)) ?_;walk_at"";rw[show ((m:Int)-1).toNat=m-1 by lia,show ((m:Int)-1+(d:Int)).toNat=m-1+d by lia];cases R:g (m-1) == g (m-1+d)with
   | true=>
    refine aC ⟨_,λ_ _ h=>h,?_⟩;walk_at"";refine⟨m-1,by lia,rfl,m-1,by rw[show ((m-1:Nat):Int)=(m:Int)-1 by lia];rfl,by lia,rfl,λx h1 h2=>?_⟩;rcases Fh x m with I|I
    .have:x=m-1:=by lia
     rw[this];exact eq_of_beq R
    .exact a x I h2
   | false=>exact ax ⟨rfl,m,rfl,C,a,.inr λh=>by rw[h]at R;simp at R⟩
  .rw[Fp h0];exact ax (ax ⟨rfl,m,rfl,C,a,.inl (by lia)⟩)
 rintro σ H' ⟨rfl,l,rfl,C,a,u⟩;have o:Least g d l:=Aw y v N A c C a u;walk_at"";refine cN (by lia) ?_;rw[EI];refine gG (λi ys r=>r=H'/\ys=(row g 0 i).map V.int) (bT (by lia)) ⟨rfl,rfl⟩ ?_ ?_ ?_
 .rintro i ys r _ ⟨rfl,rfl⟩;rw[Ew];exact wZ g 0 i
 .rintro i ys r hi ⟨rfl,F⟩;walk_at"";refine aL (ag.of k) (dR (by lia) (by lia)) ?_;walk_at"";rw[show ((0:Int)+(i:Int)).toNat=i by lia];have e0:g (0+i)=g i:=by rw[Nat.zero_add]
  cases G:g i with
  | true=>
   refine aC ?_;walk_at"";refine⟨rfl,?_⟩;rw[<-tU F (e0.trans G)];congr 3
   all_goals lia
  | false=>exact ax ⟨rfl,sr F (e0.trans G)⟩
 rintro ys r L ⟨rfl,rfl⟩ S;have U:Ext r (upd r L (.lst ((row g 0 l).map V.int))):=a8 S;have J:(upd r L (.lst ((row g 0 l).map V.int))) L=_:=aK;generalize upd r L (.lst ((row g 0 l).map V.int))=H4 at U J;have W:=U _ _ k;walk_at"";refine BA (by lia) ?_;rw[show ((l:Int)+(d:Int)-(l:Int)).toNat=d by lia];refine gG (λi ys s=>s=H4/\ys=(row g l i).map V.int) (bT (by lia)) ⟨rfl,rfl⟩ ?_ ?_ ?_
 .rintro i ys s _ ⟨rfl,rfl⟩;rw[Ew];exact wZ g _ i
 .rintro i ys s hi ⟨rfl,F⟩;walk_at"";refine aL (ag.of W) (dR (by lia) (by lia)) ?_;walk_at"";rw[show ((l:Int)+(i:Int)).toNat=l+i by lia];cases G:g (l+i)with
  | true=>
   refine aC ?_;walk_at"";refine⟨rfl,?_⟩;rw[<-tU F G];congr 3
   all_goals lia
  | false=>exact ax ⟨rfl,sr F G⟩
 rintro ys s M ⟨rfl,rfl⟩ X;have Y:Ext s (upd s M (.lst ((row g l d).map V.int))):=a8 X;have h6:(upd s M (.lst ((row g l d).map V.int))) M=_:=aK;generalize upd s M (.lst ((row g l d).map V.int))=H6 at Y h6;walk_at"";refine kG (ag.of (Y _ _ J)) (cF λt1 H7 e7 Z _=>?_);walk_at"";refine kG (ag.of (e7 _ _ h6)) (cF λt2 H8 e8 a1 _=>?_);walk_at"";refine aO λt H9 e9 ht _=>?_;exact q _ l d H9 (B.trans (U.trans (Y.trans (e7.trans (e8.trans e9))))) o C O ⟨t,t1,t2,rfl,ht,e9 _ _ (e8 _ _ Z),e9 _ _ a1⟩
open Classical in
def i5(n:Nat)(R:Nat->Nat->Prop)(f:Nat->Bool):Nat->Bool:=λj=>decide (∃i,i<n/\f i=true/\R i j)
def jS{R:Nat->Nat->Prop}{f:Nat->Bool}{j:Nat}:i5 n R f j=true↔∃i,i<n/\f i=true/\R i j:=by unfold i5;simp
def bA(n:Nat)(R:Nat->Nat->Prop)(f:Nat->Bool):Nat->Nat->Bool
 | 0=>f
 | k+1=>i5 n R (bA n R f k)
def fg(n:Nat)(f g:Nat->Bool):Prop:=∀j,j<n->f j=g j
def D4{R:Nat->Nat->Prop}{f:Nat->Bool}(h:fg n f g):fg n (i5 n R f) (i5 n R g):=λj _=>by
 rw[E8,jS,jS];constructor
 .rintro⟨i,hi,h1,h2⟩;exact⟨i,hi,by rw[<-h i hi];exact h1,h2⟩
 .rintro⟨i,hi,h1,h2⟩;exact⟨i,hi,by rw[h i hi];exact h1,h2⟩
theorem sR{n:Nat}{R:Nat->Nat->Prop}{f:Nat->Bool}{a k:Nat}(h:fg n (bA n R f a) (bA n R f k)):∀t,fg n (bA n R f (a+t)) (bA n R f (k+t))
 | 0=>h
 | t+1=>D4 (sR h t)
def fC(f:Nat->Bool):Nat->Nat
 | 0=>0
 | n+1=>fC f n+if f n then 2 ^ n else 0
theorem kH(f:Nat->Bool):∀n,fC f n<2 ^ n
 | 0=>by simp[fC]
 | n+1=>by
  have:=kH f n;have h2:2 ^ (n+1)=2 ^ n+2 ^ n:=by rw[Nat.pow_succ];lia
  show fC f n+(if f n then 2 ^ n else 0)<_;split<;>lia
theorem vI{f g:Nat->Bool}:∀n,fC f n=fC g n->fg n f g
 | 0,_=>λj b=>absurd b (Nat.not_lt_zero _)
 | n+1,h=>by
  have h1:=kH f n;have h2:=kH g n;have h':fC f n+(if f n then 2 ^ n else 0)=fC g n+(if g n then 2 ^ n else 0):=h;have key:f n=g n/\fC f n=fC g n:=by cases c:f n<;>cases d:g n<;>simp[c,d]at h' ⊢<;>lia
  intro j b;by_cases a:j<n
  .exact vI n key.2 j a
  .have:j=n:=by lia
   subst this;exact key.1
theorem vy{k:Nat}{F:Nat->Nat->Bool}(g:n<=12)(h:∀a b,a<b->b<k->¬fg n (F a) (F b)):k<=4096:=by
 have h1:=Bfs.iT 4096 ((Fo k).map λa=>fC (F a) n) (by
  rw[List.nodup_iff_pairwise_ne,List.pairwise_map,List.pairwise_iff_getElem];intro i j hi d c e;simp at hi d e;exact h i j c d (vI n e)) (λx l=>by
  obtain⟨a,_,rfl⟩:=List.mem_map.mp l;exact E3 (kH (F a) n) (E4 (Nat.pow_le_pow_right (by lia) g) (by decide)))
 simpa using h1
def gn(n:Nat)(R:Nat->Nat->Prop)(top:Nat)(M:Nat->Nat->Bool):Nat->Nat->Bool:=λi=>if i<top then M i else bA n R (M top) (i-top)
theorem zw{α:Type}{xs:List α}{k:Nat}(h:xs.length=k+1){v:α}(a:xs[k]?=Vn v):bx xs (-1)=Vn v:=by unfold bx eL;rw[h,Fs (by lia),Ft (by lia)];show xs[(-1+((k+1:Nat):Int)).toNat]?=Vn v;rw[show (-1+((k+1:Nat):Int)).toNat=k by lia];exact a
theorem Al{k:Nat}(h:xs.length=k+1):cH xs Vo (Vn (-1))=xs.take k:=by
 unfold cH;have a:HT.aR xs.length xs.length (Vn (-1))=k:=by show(if(-1:Int)<0 then(-1+(xs.length:Int)).toNat else min (-1:Int).toNat xs.length)=_;rw[Ft (by decide)];lia
 have b:HT.aR xs.length 0 Vo=0:=rfl;rw[a,b];simp
theorem om{H:Hp}{n:Nat}:∀{hs:List Vb} {F:Nat->Nat->Bool},(∀(a:Nat) (r:Vb),hs[a]?=Vn r->H r=Vn (.lst (aP n (F a))))->Paired (aX H 1) (List.map V.ref hs) ((Fo hs.length).map λa=>PyData.list (dB n (F a)))
 | [],_,_=>.nil
 | r::hs,F,h=>by rw[EY,List.range_succ_eq_map,List.map_cons,List.map_cons,List.map_map];exact .cons (jX (h 0 r rfl)) (om (F:=λa=>F (a+1)) λa b c=>h (a+1) b (by simpa using c))
theorem Ae{i x a:Nat}(h:x+a<=i):a+(i-x-a)=i-x:=by lia
theorem BE{i x a k:Nat}(h:x+a<=i)(ha:a<k+1):k+1+(i-x-a)=i+(k+1-a)-x:=by lia
theorem uc{i x a:Nat}(h:x+a<=i):¬i+c<x/\¬i<x:=by lia
theorem Br{x r h k a:Nat}(b:r=x+1)(c:h=k+1)(ha:a<k+1):min x r+h=x+a+(k+1-a):=by lia
theorem y8{i x r:Nat}(a:r=x+1):i-min x r=i-x:=by lia
theorem um{x r:Nat}(a:r=x+1):min x r=x:=by lia
inductive uj(K:Eo)(vs:List V)(H:Hp)(Q:VK)(E:XK):Prop|mk:∀a m ws c x,vs=[a,.ref c]->bh H a m ws->HOuse m ws->aE H c x->cA m x->fW K->Tbs K H->(∀p d rs (b N:Nat) M H',Et H H'->Tbs K H'->H' p=Vn (.tup [.ref d,.int (b:Nat)])->Rows H' d rs m.toNat (gn m.toNat (bo ws m.toNat) x.2.toNat M)->rs.length=b+N->1<=N->b+N<=5200->(∀r,r<m.toNat->aW (λi=>gn m.toNat (bo ws m.toNat) x.2.toNat M i r) b N)->(∀i r:Nat,(i:Int)<=x.2->(r:Int)<m->(M i r=true↔∃n,Bfs.Rw (LB ws m.toNat x.2) n x ((r:Int),(i:Int))))->Q (.ref p) H')->uj K vs H Q E
def BV(T:Bu w mg base):Cal P w K mg base "all_levels" 9 ["house","place"] (uj K):=by
 refine(bw T.d_all_levels).oS ["house","place","rises","low","high","level"] λJ nd H vs Q E h=>?_;obtain⟨vh,m,ws,pa,x,rfl,hv,ok,ab,ix,ac,au,q⟩:=h;have m1:=ok.m1;have m12:=ok.m12;obtain⟨i0,i1,i2,i3⟩:=id ix;refine⟨_,(av (aG (i:=2) nd rfl oi (aB (C7 T) J (ae (pv 0) aa)))
   (av (aG (i:=3) nd rfl oi (aB (AQ T) J (ae (pv 0) (ae (pv 1) aa))))
   (av (aG (i:=4) nd rfl oi (bp (ae (ao (aM K) (pv 3) (gR gY af) (λ_ _=>rfl)) aa)))
   (av (aG (i:=5) nd rfl oi (aB (pq T) J (ae (pv 2) (ae (ao (aM K) (pv 3) (gR gY af) (λ_ _=>rfl)) aa))))
   (av (fA PassesOwn.never (aN (wV J) (pv 5) (pv 4) (by with_unfolding_all rfl)) (av (bj (bL K ED ES ET bR (pv 4) (ae (pv 5) aa)))
   (aw (aG (i:=5) nd rfl oi (aB (pq T) J (ae (pv 2) (ae (pv 5) aa)))))))
   (aw (aD (bG (ae (aA mQ (gU (iw K) (pv 3) ib (fV (gR gY af))) (pv 4)) (ae (aA aV (ao (az K) (pv 1) af (λ_ _=>rfl)) (bL K ED PySem.F.slot_list_index PySem.F.type_list_index (Bv J) (pv 4) (ae (pv 5) aa))) aa)))))))))),?_⟩
 walk_at"";refine⟨vh,m,ws,rfl,hv,ok,ac,au,λrl H1 e1 b1 b2=>?_⟩;walk_at"";refine⟨vh,m,ws,pa,x,rfl,hv.et e1,ok,ab.et e1,ix,ac,b1,λlq rs M H2 e2 b4 rows bn hM=>?_⟩;have L:=b2.et e2;have ad:=(ab.et e1).et e2;have d:rs.length=x.2.toNat+1:=by omega
 have n:rs[x.2.toNat]?=Vn rs[x.2.toNat]:=Ex (by omega);generalize rs[x.2.toNat]=r0 at n;have ai:=rows.2 _ _ n;have hat:bx (List.map V.ref rs) (-1)=Vn (.ref r0):=zw (k:=x.2.toNat) (by rw[Ew];exact d) (by rw[Ey,n];rfl);walk_at"";refine aL (ag.of rows.1) hat ?_;walk_at"";refine aO λp H3 e3 b5 b7=>?_;walk_at"";refine aL (ag.of (e3 _ _ rows.1)) hat ?_;walk_at"";refine⟨rl,r0,m.toNat,_,_,rfl,L.et e3.et,e3 _ _ ai,by omega,λlv g H4 e4 bu aj hg=>?_⟩;have ak:=e3.trans e4;have am:H4 lv=Vn (.lst (aP m.toNat (bA m.toNat (bo ws m.toNat) (M x.2.toNat) 1))):=by
  rw[aj];congr 2;exact b6 λj N=>by rw[E8];exact(hg j N).trans jS.symm
 clear aj hg;walk_at"";refine fo (λmm σ H'=>∃hs lv k,Ext H2 H'/\H' p=Vn (.lst (List.map V.ref hs))/\hs.length=k+1/\(∀(a:Nat) (r:Vb),hs[a]?=Vn r->H' r=Vn (.lst (aP m.toNat (bA m.toNat (bo ws m.toNat) (M x.2.toNat) a))))/\(∀a b,a<b->b<k+1->¬fg m.toNat (bA m.toNat (bo ws m.toNat) (M x.2.toNat) a) (bA m.toNat (bo ws m.toNat) (M x.2.toNat) b))/\H' lv=Vn (.lst (aP m.toNat (bA m.toNat (bo ws m.toNat) (M x.2.toNat) (k+1))))/\mm=4097-k/\σ=[Vn vh,Vn (.ref pa),Vn (.ref rl),Vn (.ref lq),Vn (.ref p),Vn (.ref lv)])
  (λσ H'=>∃hs lv k a,Ext H2 H'/\H' p=Vn (.lst (List.map V.ref hs))/\hs.length=k+1/\(∀(a:Nat) (r:Vb),hs[a]?=Vn r->H' r=Vn (.lst (aP m.toNat (bA m.toNat (bo ws m.toNat) (M x.2.toNat) a))))/\(∀a b,a<b->b<k+1->¬fg m.toNat (bA m.toNat (bo ws m.toNat) (M x.2.toNat) a) (bA m.toNat (bo ws m.toNat) (M x.2.toNat) b))/\H' lv=Vn (.lst (aP m.toNat (bA m.toNat (bo ws m.toNat) (M x.2.toNat) (k+1))))/\a<k+1/\fg m.toNat (bA m.toNat (bo ws m.toNat) (M x.2.toNat) a) (bA m.toNat (bo ws m.toNat) (M x.2.toNat) (k+1))/\k+1<=4096/\σ=[Vn vh,Vn (.ref pa),Vn (.ref rl),Vn (.ref lq),Vn (.ref p),Vn (.ref lv)])
  4097 ⟨[r0],lv,0,ak,e4 _ _ b5,rfl,λa r ha=>by
   cases a with
   | zero=>cases ha;exact ak _ _ ai
   | succ a=>simp at ha,λa b h1 h2=>by omega,am,rfl,rfl⟩ ?_ ?_
 .rintro mm σ R ⟨hs,lv,k,W,l,A,hrow,B,s,rfl,rfl⟩;have hk:=vy (F:=bA m.toNat (bo ws m.toNat) (M x.2.toNat)) (show m.toNat<=12 by omega) B;have an:=om hrow;walk_at"";refine rA (jX s) l an (by omega) ?_;have C:((Fo hs.length).map λa=>PyData.list (dB m.toNat (bA m.toNat (bo ws m.toNat) (M x.2.toNat) a))).any (λe=>PyData.eqv e (.list (dB m.toNat (bA m.toNat (bo ws m.toNat) (M x.2.toNat) (k+1)))))=true↔∃a,a<k+1/\fg m.toNat (bA m.toNat (bo ws m.toNat) (M x.2.toNat) a) (bA m.toNat (bo ws m.toNat) (M x.2.toNat) (k+1)):=by
   rw[List.any_map,E7,A];constructor
   .rintro⟨a,ha,X⟩;exact⟨a,List.mem_range.mp ha,jD.mp X⟩
   .rintro⟨a,ha,X⟩;exact⟨a,List.mem_range.mpr ha,jD.mpr X⟩
  generalize ((Fo hs.length).map λa=>PyData.list (dB m.toNat (bA m.toNat (bo ws m.toNat) (M x.2.toNat) a))).any (λe=>PyData.eqv e (.list (dB m.toNat (bA m.toNat (bo ws m.toNat) (M x.2.toNat) (k+1)))))=bb at C ⊢;cases bb with
  | true=>
   obtain⟨a,ha,hsame⟩:=C.mp rfl;refine⟨_,rfl,ax ?_⟩;exact⟨hs,lv,k,a,W,l,A,hrow,B,s,ha,hsame,hk,rfl⟩
  | false=>
   have b8:∀a,a<k+1->¬fg m.toNat (bA m.toNat (bo ws m.toNat) (M x.2.toNat) a) (bA m.toNat (bo ws m.toNat) (M x.2.toNat) (k+1)):=λa ha hs=>by have:=C.mpr ⟨a,ha,hs⟩;cases this
   have O:∀a b,a<b->b<k+1+1->¬fg m.toNat (bA m.toNat (bo ws m.toNat) (M x.2.toNat) a) (bA m.toNat (bo ws m.toNat) (M x.2.toNat) b):=λa b hab hb=>by
    by_cases ba:b<k+1
    .exact B a b hab ba
    .have:b=k+1:=by omega
     subst this;exact b8 a hab
   have bv:=vy (F:=bA m.toNat (bo ws m.toNat) (M x.2.toNat)) (show m.toNat<=12 by omega) O;refine⟨_,rfl,aC ⟨λap H'=>∃hs lv,Ext H2 H'/\H' p=Vn (.lst (List.map V.ref hs))/\hs.length=k+1+1/\(∀(a:Nat) (r:Vb),hs[a]?=Vn r->H' r=Vn (.lst (aP m.toNat (bA m.toNat (bo ws m.toNat) (M x.2.toNat) a))))/\H' lv=Vn (.lst (aP m.toNat (bA m.toNat (bo ws m.toNat) (M x.2.toNat) (k+1+1))))/\ap=[Vn vh,Vn (.ref pa),Vn (.ref rl),Vn (.ref lq),Vn (.ref p),Vn (.ref lv)],λap H' ⟨hs,lv,a1,a2,a3,a4,a5,a6⟩=>⟨4097-(k+1),by omega,hs,lv,k+1,a1,a2,a3,a4,O,a5,rfl,a6⟩,?_⟩⟩;have nqr:∀r∈hs++[lv],r≠p:=λr J z=>by
    have hb:∃f,R r=Vn (.lst (aP m.toNat f)):=by
     rcases EU.mp J with h|h
     .obtain⟨j,N⟩:=Fi h;exact⟨_,hrow j r N⟩
     .rw[EG.mp h];exact⟨_,s⟩
    obtain⟨f,hb⟩:=hb;rw[z,l]at hb;have h2:List.map V.ref hs=aP m.toNat f:=by
     injection hb with hb
     injection hb
    have Y:=congrArg (λz:List V=>z[0]?) h2
    try dsimp only at Y
    rw[fF _ (by omega),Ey]at Y;cases y:hs[0]? with
    | none=>rw[y]at Y;cases Y
    | some a=>rw[y]at Y;cases Y
   walk_at"";refine⟨df (ag.of l),?_⟩;walk_at"";refine bN l (fm (by rw[Ew];omega)) ?_;have bc:H2 p=Vo:=b7;have Z:=bK (o:=.lst (List.map V.ref hs++[.ref lv])) W bc;have keep:∀b o,b≠p->R b=Vn o->upd R p (.lst (List.map V.ref hs++[.ref lv])) b=Vn o:=λb o nb e=>by rw[aF nb];exact e
   have ar:upd R p (.lst (List.map V.ref hs++[.ref lv])) p=Vn (.lst (List.map V.ref (hs++[lv]))):=by rw[aK,EM];rfl
   have G:=keep lv _ (nqr lv (by simp)) s;have hrow6:∀(a:Nat) (r:Vb),(hs++[lv])[a]?=Vn r->upd R p (.lst (List.map V.ref hs++[.ref lv])) r=Vn (.lst (aP m.toNat (bA m.toNat (bo ws m.toNat) (M x.2.toNat) a))):=λa r ha=>by
    by_cases hal:a<hs.length
    .rw[EW hal]at ha;exact keep r _ (nqr r (Fe _ (EF ha))) (hrow a r ha)
    .rw[EV (by omega)]at ha;have hz:a-hs.length=0:=by have:=(EE.mp ha).1;simp at this;omega
     rw[hz]at ha;cases ha;have:a=k+1:=by omega
     subst this;exact G
   generalize upd R p (.lst (List.map V.ref hs++[.ref lv]))=H6 at Z ar G hrow6 ⊢;walk_at"";refine⟨rl,lv,m.toNat,_,_,rfl,L.et Z.et,G,by omega,λbe g2 H7 e7 _ bg bi=>?_⟩;walk_at"";refine⟨hs++[lv],be,Z.trans e7,e7 _ _ ar,by rw[EN,A];rfl,λa r ha=>e7 _ _ (hrow6 a r ha),?_,rfl⟩;rw[bg];congr 2;exact b6 λj N=>by rw[E8];exact(bi j N).trans jS.symm
 .rintro σ R ⟨hs,lv,k,a,W,l,A,hrow,B,s,ha,hsame,hk,rfl⟩;have S:=rows.ext W;walk_at"";refine ij (ag.of S.1) (cF λlo H6 Z as _=>?_);rw[Al (k:=x.2.toNat) (by rw[Ew];exact d)]at as;walk_at"";refine ou as (Z _ _ l) (bT (by simp;omega)) (cF λll H7 e7 bl _=>?_);have u:=Z.trans e7;walk_at"";refine ay (ah.of (u _ _ (W _ _ ad))) (v:=.int x.2) rfl ?_;walk_at"";have hrow7:∀(a:Nat) (r:Vb),hs[a]?=Vn r->H7 r=Vn (.lst (aP m.toNat (bA m.toNat (bo ws m.toNat) (M x.2.toNat) a))):=λa r h=>u _ _ (hrow a r h);refine⟨df (ag.of (u _ _ l)),?_⟩;walk_at"";refine⟨1,p,_,.ref lv,_,_,a,rfl,rfl,jX (u _ _ s),u _ _ l,om hrow7,by omega,⟨_,by rw[Ey,List.getElem?_range (by omega)];rfl,jD.mpr hsame⟩,λb e hb X=>?_,by omega,?_⟩
  .rw[Ey,List.getElem?_range (by omega)]at X;cases X;rw[Bool.eq_false_iff];intro hc;have:=jD.mp hc;exact B b a hb ha λj N=>(this j N).trans (hsame j N).symm
  walk_at"";refine aO λpp H8 e8 bm _=>?_;have U:=W.trans (u.trans e8);refine q pp ll (rs.take x.2.toNat++hs) (x.2.toNat+a) (k+1-a) M H8 ((e1.trans e2).trans U.et) (b4.ext U) ?_ ⟨?_,λi r hi=>?_⟩ ?_ (by omega) (by omega) (λr J=>?_) hM
  .rw[bm];congr 3;congr 2;omega
  .rw[e8 _ _ bl,EM,List.map_take]
  .unfold gn;by_cases I:i<x.2.toNat
   .rw[Ft I];rw[EW (by rw[Fl,um d];exact I),List.getElem?_take_of_lt I]at hi;exact U _ _ (rows.2 i r hi)
   .rw[Fs I];rw[EV (by rw[Fl,um d];exact Nat.le_of_not_lt I),Fl,y8 d]at hi;exact e8 _ _ (hrow7 _ _ hi)
  .rw[EN,Fl];exact Br d A ha
  .intro i hi;show gn _ _ _ _ (i+(k+1-a)) r=gn _ _ _ _ i r;unfold gn;rw[Fs (uc hi).1,Fs (uc (c:=0) hi).2];have hp:=sR hsame (i-x.2.toNat-a) r J;rw[Ae hi,BE hi ha]at hp;exact hp.symm
theorem tG{i:Nat}(h:i+1<=d)(a:d≠i+1):i+1+(d-1-(i+1))=d-1:=by lia
def dW(ws:List Way)(a b:Bfs.Pl):Prop:=∃w∈ws,cI w a.1 a.2=true/\b=(w.other,a.2+rz w.deed)
def bM(ws:List Way)(x y:Bfs.Pl):Prop:=∃n,Bfs.Rw (dW ws) n x y
def fK{w:Way}{n:Int}(b:w.room=r)(h:w.deed = "up"\/w.deed = "stay"\/(w.deed = "down"/\0<n)\/(w.deed = "zero"/\n=0)):cI w r n=true:=by
 unfold cI;rw[Fq b,Bool.true_and];rcases h with h|h|⟨h,a⟩|⟨h,a⟩
 .rw[h,Fs (by decide +kernel)];have:decide ((Fb "up") = "zero")=false:=by decide +kernel
  rw[this];rfl
 .rw[h,Fs (by decide +kernel)];have:decide ((Fb "stay") = "zero")=false:=by decide +kernel
  rw[this];rfl
 .rw[h,Ft (by decide +kernel)];exact Fq a
 .rw[h,Fs (by decide +kernel),a];simp
def gC{w:Way}{n:Int}(hd:bY w.deed)(h:cI w r n=true):(w.deed = "up"/\rz w.deed=1)\/(w.deed = "stay"/\rz w.deed=0)\/(w.deed = "down"/\0<n/\rz w.deed = -1)\/(w.deed = "zero"/\n=0/\rz w.deed=0):=by
 unfold cI at h;rw[E9]at h;rcases hd with hd|hd|hd|hd
 .exact .inl ⟨hd,by rw[hd];exact iR⟩
 .rw[hd,Ft (by decide +kernel)]at h;exact .inr (.inr (.inl ⟨hd,of_decide_eq_true h.2,by rw[hd];exact jU⟩))
 .exact .inr (.inl ⟨hd,by rw[hd];exact jB⟩)
 .rw[hd,Fs (by decide +kernel)]at h;have h2:decide ((Fb "zero") = "zero")=true:=by decide +kernel
  rw[h2]at h;refine .inr (.inr (.inr ⟨hd,?_,by rw[hd];exact lL⟩));simpa using h.2
def bM.refl{x:Bfs.Pl}:bM ws x x:=⟨0,.nil⟩
theorem bM.trans{ws:List Way}{x y z:Bfs.Pl}(h:bM ws x y)(g:bM ws y z):bM ws x z:=by obtain⟨n,h⟩:=h;obtain⟨k,g⟩:=g;exact⟨n+k,h.trans g⟩
def bM.one{x:Bfs.Pl}(h:dW ws x y):bM ws x y:=⟨1,.snoc .nil h⟩
section
variable {m:Int} {ws:List Way} (ok:∀w∈ws,w.Ok m)
include ok
theorem fN{a b:Bfs.Pl}(h:dW ws a b)(ha:0<=a.2):0<=b.1/\b.1<m/\0<=b.2/\b.2<=a.2+1/\a.2<=b.2+1:=by obtain⟨w,d,ho,rfl⟩:=h;have c:=ok w d;refine⟨c.o0,c.o1,?_⟩;rcases gC c.dd ho with⟨_,h⟩|⟨_,h⟩|⟨_,h1,h⟩|⟨_,h1,h⟩<;>(show 0<=a.2+rz w.deed/\a.2+rz w.deed<=a.2+1/\a.2<=a.2+rz w.deed+1;lia)
theorem rF{i j:Nat}(h:Kpt ws m.toNat i j):∀L:Int,0<=L->bM ws ((i:Int),L) ((j:Int),L):=by
 induction h with
 | refl _=>exact λ_ _=>.refl
 | @stay w l hd=>
  intro L _;have a:=ok w l;have r0:=a.r0;have o0:=a.o0;refine .one ⟨w,l,fK (by show w.room=((w.room.toNat:Nat):Int);lia) (.inr (.inl hd)),?_⟩;rw[hd,jB];exact Prod.ext (by show((w.other.toNat:Nat):Int)=w.other;lia) (by show L=L+0;lia)
 | trans _ _ h1 h2=>exact λL k=>(h1 L k).trans (h2 L k)
 | @arch u d n b hd c _ o=>
  intro L k;have e:=ok u n;have g:=ok d hd;have p:=e.r0;have q:=e.o0;have r:=g.r0;have s:=g.o0;have s1:dW ws (((u.room.toNat:Nat):Int),L) (((u.other.toNat:Nat):Int),L+1):=⟨u,n,fK (by show u.room=((u.room.toNat:Nat):Int);lia) (.inl b),by rw[b,iR];exact Prod.ext (by show((u.other.toNat:Nat):Int)=u.other;lia) rfl⟩;have s2:dW ws (((d.room.toNat:Nat):Int),L+1) (((d.other.toNat:Nat):Int),L):=⟨d,hd,fK (by show d.room=((d.room.toNat:Nat):Int);lia) (.inr (.inr (.inl ⟨c,by lia⟩))),by rw[c,jU];exact Prod.ext (by show((d.other.toNat:Nat):Int)=d.other;lia) (by show L=L+1 + -1;lia)⟩;exact((bM.one s1).trans (o (L+1) (by lia))).trans (.one s2)
theorem qE:∀(n:Nat) (w:Nat->Bfs.Pl) (i:Nat) (L:Int),1<=L->(∀k,i<=k->k<i+n->dW ws (w k) (w (k+1)))->(∀k,i<=k->k<=i+n->L<=(w k).2)->(w i).2=L->(w (i+n)).2=L->0<=(w i).1->(w i).1<m->Kpt ws m.toNat (w i).1.toNat (w (i+n)).1.toNat:=by
 intro n;induction n using Nat.strongRecOn with
 | ind n G=>
  intro w i L M q F T h1 r0 r1;cases n with
  | zero=>exact .refl (by show(w i).1.toNat<m.toNat;lia)
  | succ n=>
   have s0:=q i (ER _) (by lia);have in1:=fN ok s0 (by lia);obtain⟨v,H,ho,r⟩:=id s0;have I:=ok v H;have c:=gM ho;have N:(w (i+1)).1=v.other:=by rw[r]
   have U:(w (i+1)).2=(w i).2+rz v.deed:=by rw[r]
   have hge:=F (i+1) (by lia) (by lia);rcases gC I.dd ho with⟨hd,g⟩|⟨hd,g⟩|⟨hd,_,g⟩|⟨hd,Q,g⟩
   .obtain⟨d,s,u,j,o⟩:=Bfs.oF (h:=λk=>(w k).2) (l:=L) (P:=i+1) (n:=i+(n+1)) (by lia) (λk a b=>(fN ok (q k (by lia) b) (by have:=F k (by lia) (by lia);lia)).2.2.2.2) (by show(w (i+(n+1))).2<=L;omega) (by show L<=(w (i+1)).2;omega)
    try dsimp only at j o
    have x:d≠i+1:=λz=>by rw[z]at j;omega
    have J:=q (d-1) (by omega) (by omega);rw[show d-1+1=d by omega]at J;obtain⟨y,A,B,C⟩:=id J;have E:=ok y A;have e:=gM B;have R:(w d).1=y.other:=by rw[C]
    have W:(w d).2=(w (d-1)).2+rz y.deed:=by rw[C]
    have S:=o (d-1) (by omega) (by omega);have p:y.deed = "down"/\rz y.deed = -1:=by
     rcases gC E.dd B with⟨_,g⟩|⟨_,g⟩|⟨hd,_,g⟩|⟨_,_,g⟩
     .omega
     .omega
     .exact⟨hd,g⟩
     .omega
    have inner:=G (d-1-(i+1)) (by omega) w (i+1) (L+1) (by omega) (λk a b=>q k (by omega) (by omega)) (λk a b=>by have:=o k a (by omega);omega) (by omega) (by rw[tG s x];omega) in1.1 in1.2.1;rw[tG s x,N,<-e]at inner;have O:=Kpt.arch H hd A p.1 inner;rw[c,<-R]at O;have ind:=fN ok J (by omega);have rest:=G (i+(n+1)-d) (by omega) w d L M (λk a b=>q k (by omega) (by omega)) (λk a b=>F k (by omega) (by omega)) j (by rw[Nat.add_sub_of_le u];exact h1) ind.1 ind.2.1;rw[Nat.add_sub_of_le u]at rest;exact .trans O rest
   .have rest:=G n (by omega) w (i+1) L M (λk a b=>q k (by omega) (by omega)) (λk a b=>F k (by omega) (by omega)) (by omega) (by rw[show i+1+n=i+(n+1) by omega];exact h1) in1.1 in1.2.1;rw[show i+1+n=i+(n+1) by omega,N]at rest;have st:=Kpt.stay (n:=m.toNat) H hd;rw[c]at st;exact .trans st rest
   .omega
   .omega
theorem m9{w:Nat->Bfs.Pl}{n:Nat}(a:0<=(w 0).1/\(w 0).1<m/\0<=(w 0).2)(b:∀k,k<n->dW ws (w k) (w (k+1))):∀k,k<=n->0<=(w k).1/\(w k).1<m/\0<=(w k).2
 | 0,_=>a
 | k+1,d=>by have c:=m9 a b k (by lia);have:=fN ok (b k (by lia)) c.2.2;exact⟨this.1,this.2.1,this.2.2.1⟩
theorem AX{x:Bfs.Pl}(d:0<=top)(e:bD m top x){k:Nat}(h:Bfs.Rw (LB ws m.toNat top) k x y):bM ws x y/\bD m top y:=by
 induction h with
 | nil=>exact⟨.refl,e⟩
 | @snoc n x y z _ hs p=>
  obtain⟨g,l⟩:=p e;rcases hs with⟨w,q,ho,rfl,hle⟩|⟨r,i,j,o,a,rfl⟩
  .have st:dW ws y (w.other,y.2+rz w.deed):=⟨w,q,ho,rfl⟩;have:=fN ok st l.2.2.1;exact⟨g.trans (.one st),this.1,this.2.1,this.2.2.1,hle⟩
  .have hlt:=Kpt.lt ok o;have b:y.2=top:=by have:=l.2.2.2;lia
   have hs:=rF ok o top d;have c:y=((i:Int),top):=Prod.ext a b;rw[<-c]at hs;exact⟨g.trans hs,by show(0:Int)<=(j:Int);lia,by show(j:Int)<m;lia,d,Int.le_refl _⟩
theorem y7(S:0<=top):∀(n:Nat) (w:Nat->Bfs.Pl),0<=(w 0).1->(w 0).1<m->(w 0).2=top->(∀k,k<n->dW ws (w k) (w (k+1)))->(w n).2<=top->∃k,Bfs.Rw (LB ws m.toNat top) k (w 0) (w n):=by
 intro n;induction n using Nat.strongRecOn with
 | ind n F=>
  intro w b c j d hle;cases n with
  | zero=>exact⟨0,.nil⟩
  | succ n=>
   have hin:=m9 ok (w:=w) (n:=n+1) ⟨b,c,by lia⟩ d;have sn:=d n (by lia);have L:=fN ok sn (hin n (by lia)).2.2;by_cases e:(w n).2<=top
   .obtain⟨k,i⟩:=F n (by lia) w b c j (λk i=>d k (by lia)) e;obtain⟨v,x,ho,M⟩:=sn;exact⟨k+1,.snoc i (.inl ⟨v,x,ho,M,hle⟩)⟩
   .obtain⟨u,T,o,g⟩:=Bfs.jI (h:=λk=>(w k).2) (l:=top) n (λk i=>(fN ok (d k (by lia)) (hin k (by lia)).2.2).2.2.2.1) (by show(w 0).2<=top;lia) (by show top<=(w n).2;lia)
    try dsimp only at o g
    have N:u≠n:=λz=>by rw[z]at o;lia
    have G:=d u (by lia);have O:=fN ok G (hin u (by lia)).2.2;have P:=g (u+1) (by lia) (by lia);obtain⟨v,x,ho,p⟩:=id G;obtain⟨y,q,r,s⟩:=id sn;have Q:(w (u+1)).1=v.other:=by rw[p]
    have U:(w (u+1)).2=(w u).2+rz v.deed:=by rw[p]
    have R:(w (n+1)).1=y.other:=by rw[s]
    have W:(w (n+1)).2=(w n).2+rz y.deed:=by rw[s]
    have A:v.deed = "up":=by
     rcases gC (ok v x).dd ho with⟨hd,_⟩|⟨_,e⟩|⟨_,_,e⟩|⟨_,_,e⟩
     .exact hd
     .omega
     .omega
     .omega
    have B:y.deed = "down":=by
     rcases gC (ok y q).dd r with⟨_,e⟩|⟨_,e⟩|⟨hd,_,_⟩|⟨_,_,e⟩
     .omega
     .omega
     .exact hd
     .omega
    have a:=hin (u+1) (by lia);have inner:=qE ok (n-(u+1)) w (u+1) (top+1) (by lia) (λk C E=>d k (by omega)) (λk C E=>by have:=g k (by omega) (by omega);omega) (by omega) (by rw[show u+1+(n-(u+1))=n by omega];omega) a.1 a.2.1;rw[show u+1+(n-(u+1))=n by omega,Q,<-gM r]at inner;have H:=Kpt.arch x A q B inner;rw[gM ho,<-R]at H;obtain⟨k,i⟩:=F u (by omega) w b c j (λk i=>d k (by omega)) (by omega);have I:=hin u (by omega);have J:=hin (n+1) (by omega);refine⟨k+1,.snoc i (.inr ⟨by omega,_,_,H,by omega,?_⟩)⟩;exact Prod.ext (by show(w (n+1)).1=(((w (n+1)).1.toNat:Nat):Int);omega) (by show(w (n+1)).2=top;omega)
def x9{x:Bfs.Pl}(d:0<=top)(b:bD m top x)(c:x.2=top)(e:y.2<=top):(∃n,Bfs.Rw (LB ws m.toNat top) n x y)↔bM ws x y:=by
 constructor
 .rintro⟨n,h⟩;exact(AX ok d b h).1
 .rintro⟨n,h⟩;obtain⟨w,a,wn,g⟩:=h.fn;have:=y7 ok d n w (by rw[a];exact b.1) (by rw[a];exact b.2.1) (by rw[a];exact c) g (by rw[wn];exact e);rw[a,wn]at this;exact this
theorem o8{x:Bfs.Pl}(I:0<=x.1/\x.1<m/\0<=x.2){i r:Nat}(hi:x.2<=(i:Int)):bM ws x ((r:Int),((i+1:Nat):Int))↔∃p,p<m.toNat/\bM ws x ((p:Int),(i:Int))/\bo ws m.toNat p r:=by
 constructor
 .rintro⟨n,h⟩;obtain⟨w,y,wn,d⟩:=h.fn;have hin:=m9 ok (w:=w) (n:=n) (by rw[y];exact I) d;have A:(w n).2=(i:Int)+1:=by rw[wn];show((i+1:Nat):Int)=_;lia
  obtain⟨u,P,b,c⟩:=Bfs.jI (h:=λk=>(w k).2) (l:=(i:Int)) n (λk q=>(fN ok (d k q) (hin k (by lia)).2.2).2.2.2.1) (by show(w 0).2<=(i:Int);rw[y];exact hi) (by show(i:Int)<=(w n).2;lia)
  try dsimp only at b c
  have J:u≠n:=λz=>by rw[z]at b;lia
  have L:=d u (by lia);have M:=c (u+1) (by lia) (by lia);obtain⟨v,e,ho,g⟩:=id L;have N:(w (u+1)).1=v.other:=by rw[g]
  have Q:(w (u+1)).2=(w u).2+rz v.deed:=by rw[g]
  have B:v.deed = "up"/\rz v.deed=1:=by
   rcases gC (ok v e).dd ho with⟨hd,s⟩|⟨_,s⟩|⟨_,_,s⟩|⟨_,_,s⟩
   .exact⟨hd,s⟩
   .omega
   .omega
   .omega
  have a:=hin (u+1) (by lia);have H:=hin u (by lia);have inner:=qE ok (n-(u+1)) w (u+1) ((i:Int)+1) (by lia) (λk C E=>d k (by lia)) (λk C E=>by have:=c k (by lia) (by lia);lia) (by lia) (by rw[show u+1+(n-(u+1))=n by lia];exact A) a.1 a.2.1;rw[show u+1+(n-(u+1))=n by lia,N,show (w n).1.toNat=r by rw[wn];exact EI r]at inner;refine⟨(w u).1.toNat,by lia,⟨u,?_⟩,v,e,B.1,by rw[gM ho],inner⟩;have seg:=Bfs.jF (S:=dW ws) (w:=w) (i:=0) (j:=u) (by lia) (λk _ q=>d k (by lia));rw[y,Nat.sub_zero]at seg;have F:w u=((((w u).1.toNat:Nat):Int),(i:Int)):=Prod.ext (by show(w u).1=(((w u).1.toNat:Nat):Int);lia) b;rw[F]at seg;exact seg
 .rintro⟨p,R,O,v,e,hd,G,q⟩;have o:=ok v e;have r0:=o.r0;have o0:=o.o0;have st:dW ws ((p:Int),(i:Int)) (((v.other.toNat:Nat):Int),(i:Int)+1):=⟨v,e,fK (by show v.room=((p:Nat):Int);lia) (.inl hd),by rw[hd,iR];exact Prod.ext (by show((v.other.toNat:Nat):Int)=v.other;lia) rfl⟩;have hs:=rF ok q ((i:Int)+1) (by lia);have:=(O.trans (.one st)).trans hs;rw[show ((i+1:Nat):Int)=(i:Int)+1 by lia];exact this
theorem zi{x:Bfs.Pl}(b:0<=x.1/\x.1<m/\0<=x.2)(e:∀i r:Nat,(i:Int)<=x.2->(r:Int)<m->(M i r=true↔∃n,Bfs.Rw (LB ws m.toNat x.2) n x ((r:Int),(i:Int)))):∀i r:Nat,r<m.toNat->(gn m.toNat (bo ws m.toNat) x.2.toNat M i r=true↔bM ws x ((r:Int),(i:Int))):=by
 have c:bD m x.2 x:=⟨b.1,b.2.1,b.2.2,Int.le_refl _⟩;have low:∀i r:Nat,(i:Int)<=x.2->r<m.toNat->(M i r=true↔bM ws x ((r:Int),(i:Int))):=λi r hi a=>(e i r hi (by omega)).trans (x9 ok b.2.2 c rfl hi);have high:∀k r:Nat,r<m.toNat->(bA m.toNat (bo ws m.toNat) (M x.2.toNat) k r=true↔bM ws x ((r:Int),((x.2.toNat+k:Nat):Int))):=by
  intro k;induction k with
  | zero=>exact λr a=>low x.2.toNat r (by lia) a
  | succ k d=>
   intro r a;show i5 _ _ _ r=true↔_;rw[jS,show x.2.toNat+(k+1)=x.2.toNat+k+1 by lia,o8 ok b (by omega)];constructor
   .rintro⟨i,hi,h1,h2⟩;exact⟨i,hi,(d i hi).mp h1,h2⟩
   .rintro⟨i,hi,h1,h2⟩;exact⟨i,hi,(d i hi).mpr h1,h2⟩
 intro i r a;unfold gn;by_cases hi:i<x.2.toNat
 .rw[Ft hi];exact low i r (by omega) a
 .rw[Fs hi,high (i-x.2.toNat) r a,show x.2.toNat+(i-x.2.toNat)=i by omega]
end
inductive rg(K:Eo)(vs:List V)(H:Hp)(Q:VK)(E:XK):Prop|mk:∀a rs m F b N r,vs=[.ref a,.int (b:Nat),.int (r:Nat)]->Rows H a rs m F->rs.length=b+N->1<=N->b+N<=20000->r<m->aW (λi=>F i r) b N->(∀v (l d:Nat) H',Ext H H'->Least (λi=>F i r) d l->l<=b->d<=N->cC H' v l d (row (λi=>F i r) 0 l) (row (λi=>F i r) l d)->Q v H')->rg K vs H Q E
theorem DM(T:Bu w mg base):Cal P w K mg base "stair_of_room" 3 ["levels","base","room"] (rg K):=by
 refine(ef T.d_stair_of_room).oS ["levels","base","room"] λx nd H vs Q E h=>?_;obtain⟨J,rs,m,F,b,N,r,rfl,rows,g,y,j,z,c,q⟩:=h;refine⟨_,(aw (aD (aB (AY T) x (ae (cn ["level"] [2] (bP K (pv 0)) (λ_=>(aI (i:=0) (show(["level","room"]:List Vm).Nodup from by decide +kernel) rfl oi oj)) (λ_=>cz) (λ_=>(ao (aM K) (pv 0) (pv 1) (λ_ _=>rfl)))) (ae (pv 1) aa))))),?_⟩;walk_at"";refine bO (ag.of rows.1) ?_;refine dP (xs:=List.map V.ref rs) (λi ys H'=>H'=H/\ys=aP i (λi=>F i r)) (E4 (show(List.map V.ref rs).length<=20000 by rw[Ew];lia) (by decide)) ⟨rfl,rfl⟩ (λi ys H' _ h=>⟨by rw[h.1];exact ag.of rows.1,by rw[h.2,bW];exact ER _⟩) ?_ ?_
 .rintro i v ys H1 p ⟨rfl,rfl⟩;rw[Ey]at p;obtain⟨a,ha,rfl⟩:=EH.mp p;have hrow:=rows.2 i a ha;walk_at"";refine aC ?_;walk_at"";refine aL (ag.of hrow) (dR (by lia) (by lia)) ?_;rw[EI];refine⟨rfl,?_⟩;rw[jO]
 .rintro ys H1 e ⟨A,rfl⟩ k;subst A;rw[Ew,g];have s:=a8 (o:=.lst (aP (b+N) λi=>F i r)) k;have u:(upd H1 e (.lst (aP (b+N) λi=>F i r))) e=_:=aK;generalize upd H1 e (.lst (aP (b+N) λi=>F i r))=H2 at s u ⊢;walk_at"";exact⟨e,b,N,_,rfl,y,j,u,c,λv l d B C G I hd n=>q v l d B (s.trans C) G I hd n⟩
def dO(H:Hp)(vs:List V)(m:Int)(ws:List Way)(x:Bfs.Pl):Prop:=(vs.length:Int)=m/\∀(r:Nat) (v:V),vs[r]?=Vn v->∃(F:Nat->Bool) (l d:Nat),cC H v l d (row F 0 l) (row F l d)/\Least F d l/\1<=d/\l+d<=5200/\∀i:Nat,F i=true↔bM ws x ((r:Int),(i:Int))
theorem dO.ext{H H':Hp}(e:Ext H H'){vs:List V}{m:Int}{ws:List Way}{x:Bfs.Pl}(h:dO H vs m ws x):dO H' vs m ws x:=⟨h.1,λr v a=>by obtain⟨F,l,d,h1,h2⟩:=h.2 r v a;exact⟨F,l,d,h1.ext e,h2⟩⟩
inductive qQ(K:Eo)(vs:List V)(H:Hp)(Q:VK)(E:XK):Prop|mk:∀a m ws b x,vs=[a,.ref b]->bh H a m ws->HOuse m ws->aE H b x->cA m x->fW K->Tbs K H->(∀l xs H',Et H H'->Tbs K H'->(∀o,H l=Vn o->∃ps,o=.tbl ps)->H' l=Vn (.lst xs)->dO H' xs m ws x->Q (.ref l) H')->qQ K vs H Q E
theorem uN(T:Bu w mg base):Cal P w K mg base "forward" 10 ["house","place"] (qQ K):=by
 refine(bw T.d_forward).oS ["house","place","told"] λR nd H vs Q E h=>?_;obtain⟨vh,m,ws,pa,x,rfl,s,ok,u,A,S,U,q⟩:=h;have m1:=ok.m1;have m12:=ok.m12;refine⟨_,(av (bj (aB (j5 T) R (ae (pv 0) aa)))
   (av (bj (aB (sO T) R (ae (pv 0) (ae (bp (ae (pv 1) aa)) aa))))
   (av (aG (i:=2) nd rfl oj (aB (BV T) R (ae (pv 0) (ae (pv 1) aa))))
   (aw (aD (cn ["room"] [2] (cM rfl T.range_ (ae (ao (az K) (pv 0) af (λ_ _=>rfl)) aa)) (λ_=>(aI (i:=0) (show(["room","told"]:List Vm).Nodup from by decide +kernel) rfl oi oj)) (λ_=>cz) (λ_=>(aB (DM T) R (ae (ao (az K) (pv 1) af (λ_ _=>rfl)) (ae (ao (az K) (pv 1) af (λ_ _=>rfl)) (ae (pv 0) aa))))))))))),?_⟩
 walk_at"";refine⟨vh,m,ws,rfl,s,ok,λH1 e1=>?_⟩;obtain⟨k,B,W,hh,_⟩:=id (s.ext e1);subst W;walk_at"";refine aO λpl H2 X Y _=>?_;have a:=e1.trans X;walk_at"";refine⟨k,.ref B,m,pl,[pa],[x],rfl,X _ _ hh,Y,.cons (a _ _ u) .nil,λy hy=>by rw[EG.mp hy];exact A,?_⟩;walk_at"";refine⟨.ref k,m,ws,pa,x,rfl,s.ext a,ok,a _ _ u,A,S,U.ext a,λp lq rs b N M H3 Z a3 hp rows a4 hN ac e hM=>?_⟩;have g:=zi ok.ok ⟨A.1,A.2.1,A.2.2.1⟩ hM;generalize gn m.toNat (bo ws m.toNat) x.2.toNat M=F at rows e g;have a5:H3 k=Vn (.tup [.int m,.ref B]):=Z _ _ (X _ _ hh) (λps z=>by cases z);walk_at"";refine ay (ah.of a5) (v:=.int m) rfl ?_;walk_at"";refine cN (by lia) ?_;refine gG (λi ys H'=>Ext H3 H'/\ys.length=i/\∀(r:Nat) (v:V),ys[r]?=Vn v->∃(F:Nat->Bool) (l d:Nat),cC H' v l d (row F 0 l) (row F l d)/\Least F d l/\1<=d/\l+d<=5200/\∀i:Nat,F i=true↔bM ws x ((r:Int),(i:Int))) (bT (by lia)) ⟨Ext.rfl' _,rfl,λr v h=>by simp at h⟩ (λi ys H' _ h=>Nat.le_of_eq h.2.1) ?_ ?_
 .rintro i ys H4 hi ⟨n,C,hys⟩;rw[show (0:Int)+(i:Int)=((i:Nat):Int) by lia];have G:=n _ _ hp;walk_at"";refine aC ?_;walk_at"";refine ay (ah.of G) (v:=.ref lq) rfl ?_;walk_at"";refine ay (ah.of G) (v:=.int (b:Nat)) rfl ?_;walk_at"";refine⟨lq,rs,m.toNat,F,b,N,i,rfl,rows.ext n,a4,hN,by lia,hi,e i hi,λv l d H5 I hL hl hd a6=>?_⟩;refine⟨n.trans I,by rw[EN,C];rfl,λr v' c=>?_⟩;by_cases J:r<ys.length
  .rw[EW J]at c;obtain⟨F',l',d',a1,a2⟩:=hys r v' c;exact⟨F',l',d',a1.ext I,a2⟩
  .rw[EV (by lia)]at c;have hz:r-ys.length=0:=by have:=(EE.mp c).1;simp at this;lia
   rw[hz]at c;cases c;have ab:r=i:=by lia
   subst ab;exact⟨λj=>F j r,l,d,a6,hL,hL.pos,by lia,λj=>g j r hi⟩
 .rintro ys H4 p9 ⟨n,C,hys⟩ L;have I:=a8 (o:=.lst ys) L;have O:=n.trans I;walk_at"";refine q p9 ys _ ((a.et.trans Z).trans O.et) (a3.ext O) (λo ho=>Classical.byContradiction λz=>by have:=((a.et.trans Z).trans n.et) p9 o ho λps w=>z ⟨ps,w⟩;rw[L]at this;cases this) aK ⟨by lia,λr v s=>?_⟩
  obtain⟨F',l',d',a1,a2⟩:=hys r v s;exact⟨F',l',d',a1.ext I,a2⟩
theorem vD(ok:∀w∈ws,w.Ok m){p r:Nat}(h:bo ws m.toNat p r):p<m.toNat/\r<m.toNat:=by obtain⟨v,b,hd,a,c⟩:=h;have:=Kpt.lt ok c;have r1:=(ok v b).r1;have r0:=(ok v b).r0;lia
theorem oH(ok:∀w∈ws,w.Ok m){x:Bfs.Pl}(d:0<=x.1/\x.1<m/\0<=x.2):∀k r:Nat,r<m.toNat->(bM ws x ((r:Int),((x.2.toNat+k:Nat):Int))↔∃s,s<m.toNat/\bM ws x ((s:Int),x.2)/\Rnd.Wg (bo ws m.toNat) k s r):=by
 intro k;induction k with
 | zero=>
  intro r b;rw[show ((x.2.toNat+0:Nat):Int)=x.2 by lia];constructor
  .exact λh=>⟨r,b,h,.nil⟩
  .rintro⟨s,_,h,w⟩;cases w;exact h
 | succ k c=>
  intro r b;rw[show x.2.toNat+(k+1)=x.2.toNat+k+1 by lia,o8 ok d (by lia)];constructor
  .rintro⟨p,e,h,hs⟩;obtain⟨s,h1,h2,a⟩:=(c p e).mp h;exact⟨s,h1,h2,.snoc a hs⟩
  .rintro⟨s,h1,h2,a⟩;cases a with
   | @snoc _ _ p _ a hs=>
    have:=vD ok hs;exact⟨p,this.1,(c p this.1).mpr ⟨s,h1,h2,a⟩,hs⟩
theorem dO.near{x:Bfs.Pl}(h:dO H xs m ws x)(ok:HOuse m ws)(G:cA m x):∃P,1<=P/\P<=81/\∀(r:Nat) (v:V),xs[r]?=Vn v->∃(F:Nat->Bool) (l d:Nat),cC H v l d (row F 0 l) (row F l d)/\Least F d l/\1<=d/\d ∣ P/\l<=1288/\∀i:Nat,F i=true↔bM ws x ((r:Int),(i:Int)):=by
 have m1:=ok.m1;have m12:=ok.m12;obtain⟨a,b,c,I⟩:=G;have o:m.toNat<=12:=by lia
 obtain⟨P,e,g,z⟩:=Rnd.round (n:=m.toNat) (A:=bo ws m.toNat) (λi j h=>vD ok.ok h) o;have J:m.toNat*m.toNat<=12*12:=Nat.mul_le_mul o o;have L:m.toNat<=m.toNat*m.toNat:=Nat.le_mul_of_pos_right _ (by lia);refine⟨P,e,g,λr v B=>?_⟩;obtain⟨F,l,d,p,C,hd,_,q⟩:=h.2 r v B;have E:r<m.toNat:=by have:=(EE.mp B).1;have:=h.1;lia
 have per:aW F (x.2.toNat+288) P:=λy M=>by
  obtain⟨k,rfl⟩:∃k,y=x.2.toNat+k:=⟨y-x.2.toNat,by lia⟩;rw[E8,q,q,show x.2.toNat+k+P=x.2.toNat+(k+P) by lia,oH ok.ok ⟨a,b,c⟩ _ r E,oH ok.ok ⟨a,b,c⟩ _ r E];constructor
  .rintro⟨s,h1,h2,u⟩;exact⟨s,h1,h2,z s r (k+P) k h1 (by lia) (by lia) (Nat.add_mod_right k P) u⟩
  .rintro⟨s,h1,h2,u⟩;exact⟨s,h1,h2,z s r k (k+P) h1 (by lia) (by lia) (Nat.add_mod_right k P).symm u⟩
 obtain⟨w,N⟩:=Rnd.CH C e per;exact⟨F,l,d,p,C,hd,w,by lia,q⟩
inductive vv(K:Eo)(vs:List V)(H:Hp)(Q:VK)(E:XK):Prop|mk:∀i:Int,vs=[.int i]->Q (.bl true) H->vv K vs H Q E
def ky(T:Bu w mg base):Cal P w K mg base "_law_whole" 1 ["_law_found"] (vv K):=by refine(ck T.d__law_whole).oS ["_law_found"] λa nd H vs Q E h=>?_;obtain⟨i,rfl,q⟩:=h;refine⟨_,(aw (aD (cG (aS c8 rfl T.isinstance_ PyProof.Rows.boot_isinstance (ae (pv 0) (ae (dh (v:=.ty "int") rfl T.int_ PyProof.Rows.boot_int rfl) aa))) (cQ (iF (aS c8 rfl T.isinstance_ PyProof.Rows.boot_isinstance (ae (pv 0) (ae (dh (v:=.ty "bool") rfl T.bool_ PyProof.Rows.boot_bool rfl) aa)))))))),?_⟩;walk_at"";refine cS (n:="int") rfl (b:=true) rfl ?_;walk_at"";refine aC ?_;walk_at"";refine cS (n:="int") rfl (b:=false) rfl ?_;walk_at"";exact q
def Ag(h:H p=Vn (.lst xs)):fJ H (.ref p) "list":=.inl ⟨rfl,xs,h⟩
inductive pZ(K:Eo)(vs:List V)(H:Hp)(Q:VK)(E:XK):Prop|mk:∀l n ks,vs=[.ref l,.int n]->H l=Vn (.lst (cj ks))->(ks.length:Int)<=n->ks.length<=24012->(∀H',Ext H H'->Q (.bl true) H')->pZ K vs H Q E
theorem yf(T:Bu w mg base):Cal P w K mg base "_law_walk" 2 ["_law_found","_law_most"] (pZ K):=by
 refine(bw T.d__law_walk).oS ["_law_found","_law_most"] λd nd H vs Q E h=>?_;obtain⟨l,n,ks,rfl,a,j,hs,q⟩:=h;refine⟨_,(av (aY (PW.pt (bJ (bB (a0 (aS c8 rfl T.isinstance_ PyProof.Rows.boot_isinstance (ae (pv 0) (ae (dh (v:=.ty "list") rfl T.list_ PyProof.Rows.boot_list rfl) aa))))) (b9 (aN eB (aS (cq K) rfl T.len_ PySem.boot_len (ae (pv 0) aa)) (pv 1) (aJ _))))) (aw (aD a7)) aQ)
   (aw (aD (aS (ie K rfl) rfl T.all_ PyProof.Rows.boot_all (ae (cn ["_law_part"] [] (bP K (pv 0)) (λ_=>(aI (i:=0) (show(["_law_part"]:List Vm).Nodup from by decide +kernel) rfl oi oj)) (λ_=>cz) (λ_=>(aB (ky T) d (ae (pv 0) aa)))) aa))))),?_⟩
 walk_at"";refine cS (Ag a) (b:=true) rfl ?_;walk_at"";refine ax ?_;walk_at"";refine dU (ag.of a) ?_;walk_at"";rw[Fp (show ¬n<((cj ks).length:Nat) by rw[Ew];lia)];refine ax ?_;walk_at"";refine bO (ag.of a) ?_;refine dP (xs:=cj ks) (λi ys H'=>Ext H H'/\ys=(Ff i true).map V.bl) (Nat.le_of_lt (fm (by rw[Ew];lia))) ⟨Ext.rfl' _,rfl⟩ (λi ys H' hi h=>⟨ag.of (h.1 _ _ a),by rw[h.2];simp⟩) ?_ ?_
 .rintro i x ys H' c ⟨e,rfl⟩;rw[Ey]at c;obtain⟨k,m,rfl⟩:=EH.mp c;walk_at"";refine aC ?_;walk_at"";refine⟨_,rfl,e,?_⟩;rw[List.replicate_succ',EM];rfl
 .rintro ys H' p ⟨e,rfl⟩ g;walk_at"";refine⟨p,Ff (cj ks).length true,rfl,ag.of aK,?_⟩;rw[show (Ff (cj ks).length true).all id=true by simp];exact q _ (e.trans (a8 g))
theorem mK{ws:List Way}{r n:Int}{t:Int×Int×Int}:∀{k:Nat},t∈c7 ws r n k->∃j w,j<k/\ws[j]?=Vn w/\w.room=r/\cK w.deed n=Vn t.2.2/\t.1=((j:Nat):Int)/\t.2.1=w.other
 | 0,h=>by cases h
 | k+1,h=>by
  rcases EU.mp h with z|z
  .obtain⟨j,w,h1,h2⟩:=mK z;exact⟨j,w,by lia,h2⟩
  .cases c:ws[k]? with
   | none=>rw[c]at z;cases z
   | some w=>
    rw[c]at z;have a:t∈fb w r n k:=z;by_cases b:w.room=r
    .cases hs:cK w.deed n with
     | none=>rw[gF b hs]at a;cases a
     | some d=>
      rw[gF b hs]at a;have:t=((k:Int),w.other,d):=by simpa using a
      subst this;exact⟨k,w,Nat.lt_succ_self _,c,b,hs,rfl,rfl⟩
    .rw[tO b]at a;cases a
theorem qY{ws:List Way}{r n a:Int}{w:Way}{j:Nat}(b:ws[j]?=Vn w)(c:w.room=r)(hs:cK w.deed n=Vn a):∀{k:Nat},j<k->((j:Int),w.other,a)∈c7 ws r n k
 | 0,h=>absurd h (Nat.not_lt_zero _)
 | k+1,h=>by
  rcases Fh j k with l|l
  .exact Fe _ (qY b c hs l)
  .have:j=k:=by lia
   subst this;refine Fd _ ?_;rw[b];show _∈fb w r n j;rw[gF c hs];simp
def oD{x:Bfs.Pl}{k:Nat}(h:bf ws T x k=Vn y):((k:Int),y.1,y.2)∈c7 ws x.1 x.2 ws.length/\y.2<=T:=by obtain⟨w,a,b,hs,ho,c⟩:=i4 h;rw[ho];exact⟨qY a b hs (EE.mp a).1,c⟩
def xD{x:Bfs.Pl}{t:Int×Int×Int}(h:t∈c7 ws x.1 x.2 ws.length)(a:t.2.2<=T):∃k:Nat,t.1=(k:Int)/\bf ws T x k=Vn (t.2.1,t.2.2):=by obtain⟨j,w,_,b,c,hs,h1,h2⟩:=mK h;refine⟨j,h1,?_⟩;unfold bf;rw[b,E2,Ft c,hs,E2,Ft a,h2]
theorem AS{x:Bfs.Pl}{k:Nat}(h:bf ws T x k=Vn y){t:Int×Int×Int}(c:t∈c7 ws x.1 x.2 ws.length)(g:t.1=(k:Int)):t.2.1=y.1/\t.2.2=y.2:=by
 obtain⟨w,d,i,hs,ho,_⟩:=i4 h;obtain⟨j,l,_,a,e,b,h1,h2⟩:=mK c;have:j=k:=by lia
 subst this;rw[d]at a;cases a;exact⟨h2.trans ho.symm,Fc (b.symm.trans hs)⟩
inductive vY(K:Eo)(vs:List V)(H:Hp)(Q:VK)(E:XK):Prop|mk:∀v m ws b l U x g ks,vs=[v,.ref b,.ref l]->bh H v m ws->HOuse m ws->aE H b x->H l=Vn (.lst (cj ks))->ks.length<=24012->Bfs.gone (nx:=bf ws U) x ks=Vn g->(∀r H' zs a,Ext H H'->H' r=Vn (.lst (zs++[.ref a]))->aE H' a g->Q (.ref r) H')->vY K vs H Q E
theorem yM(T:Bu w mg base):Cal P w K mg base "_law_gone" 2 ["_law_house_here","_law_place","_law_walk_here"] (vY K):=by
 refine(ef T.d__law_gone).oS ["_law_house_here","_law_place","_law_walk_here","_law_found","_law_k","_law_there_here"] λhr nd H vs Q E h=>?_;obtain⟨v,m,ws,pa,l,U,x,g,ks,rfl,hv,ok,hx,hl,ai,S,q⟩:=h;refine⟨_,(av (aG (i:=3) nd rfl oi (bp (ae (pv 1) aa)))
   (av (bt PassesOwn.never rfl (bP K (pv 2)) (aI (i:=4) nd rfl oj) (av (gZ (i:=5) ["_law_way","_law_far"] [4] nd rfl oi (bP K (aB (o7 T) hr (ae (pv 0) (ae (ao (aM K) (pv 3) (gR gY af) (λ_ _=>rfl)) aa)))) (λ_=>(fh (n:=2) K rfl (br (aI (i:=0) (show(["_law_way","_law_far","_law_k"]:List Vm).Nodup from by decide +kernel) rfl oi oj) (br (aI (i:=1) (show(["_law_way","_law_far","_law_k"]:List Vm).Nodup from by decide +kernel) rfl oi oj) eA)))) (λ_=>(gj (aN bH (pv 0) (pv 2) (aJ _)))) (λ_=>(pv 1)))
   (av (aY (aN bH (aS (cq K) rfl T.len_ PySem.boot_len (ae (pv 5) aa)) af (aJ _)) (aw (aD jg)) aQ)
   (aw (bj (bL K ED ES ET bR (pv 3) (ae (ao (aM K) (pv 5) af (λ_ _=>rfl)) aa)))))))
   (aw (aD (pv 3))))),?_⟩
 walk_at"";refine aO λf H1 W hf hfn=>?_;walk_at"";refine bO (ag.of (W _ _ hl)) ?_;refine forL (xs:=cj ks) (λj σ H'=>∃k1 k2 y zs a,σ=[Vn v,Vn (.ref pa),Vn (.ref l),Vn (.ref f),k1,k2]/\Ext H H'/\H' f=Vn (.lst (zs++[.ref a]))/\zs.length=j/\aE H' a y/\Bfs.gone (nx:=bf ws U) y (ks.drop j)=Vn g) ⟨Vo,Vo,x,[],pa,rfl,W,hf,rfl,W _ _ hx,S⟩ (λj σ H' _ h=>by obtain⟨_,_,_,_,_,_,e,_⟩:=h;exact ag.of (e _ _ hl)) ?_ ?_
 .rintro j u σ H2 o ⟨k1,k2,y,zs,a,rfl,O,b,F,ha,r⟩;rw[Ey]at o;obtain⟨k,X,rfl⟩:=EH.mp o;have G:=(EE.mp X).1;have Y:ks.drop j=k::ks.drop (j+1):=by rw[List.drop_eq_getElem_cons G];rw[Ex G]at X;cases X;rfl
  rw[Y]at r;obtain⟨z,hz,r⟩:=Option.bind_eq_some_iff.mp (show(bf ws U y k).bind _=Vn g from r);have Z:=oD hz;walk_at"";refine aL (ag.of b) (vm _ _) ?_;walk_at"";refine⟨v,m,ws,a,y.1,y.2,rfl,hv.ext O,ok,ha,λbl H3 cs e3 aj I J=>?_⟩;have hcl:=Paired.length J;have a1:=nM ws y.1 y.2 ws.length;have ad:=ok.few;refine bO (ag.of I) ?_;refine dP (xs:=cs.map V.ref) (λi ys H'=>Ext H3 H'/\(∀u∈ys,∃d,u=.ref d/\aE H' d z)/\((∃t∈(c7 ws y.1 y.2 ws.length).take i,t.1=(k:Int))->ys≠[])/\ys.length<=i) (dQ (by rw[Ew,hcl];lia)) ⟨Ext.rfl' _,λu h=>(by cases h),λh=>(by obtain⟨t,R,_⟩:=h;simp at R),ER _⟩ (λi ys H' _ h=>⟨ag.of (h.1 _ _ I),h.2.2.2⟩) ?_ ?_
  .rintro i u ys L o ⟨M,hall,hne,a2⟩;rw[Ey]at o;obtain⟨cc,hc,rfl⟩:=EH.mp o;obtain⟨t,R,hb⟩:=cV J hc;have a3:=EF R;have a4:(c7 ws y.1 y.2 ws.length).take (i+1)=(c7 ws y.1 y.2 ws.length).take i++[t]:=by rw[List.take_succ,R];rfl
   obtain⟨d,a5,a6⟩:=hb.ext M;refine eS (ah.of a5) rfl ?_;walk_at"";rw[a4];by_cases c:t.1=(k:Int)
   .rw[Fq c];refine aC ?_;walk_at"";have:=AS hz a3 c;refine⟨M,λu o=>?_,λ_ z=>by simp at z,by rw[EN];simp;lia⟩;rcases EU.mp o with w1|w1
    .exact hall u w1
    .refine⟨d,by simpa using w1,?_⟩;show _=some (HO.tup [.int z.1,.int z.2]);rw[<-this.1,<-this.2];exact a6
   .rw[Fp c];refine ax ?_;refine⟨M,hall,λh=>hne ?_,by lia⟩;obtain⟨t',ab,N⟩:=h;rcases EU.mp ab with z|z
    .exact⟨t',z,N⟩
    .have:t'=t:=by simpa using z
     subst this;exact absurd N c
  .rintro ys L p ⟨M,hall,hne,a2⟩ hp;walk_at"";have hys:ys≠[]:=hne ⟨((k:Int),z.1,z.2),by rw[List.take_of_length_le (by rw[Ew,hcl];exact ER _)];exact Z.1,rfl⟩;obtain⟨u,us,rfl⟩:=List.exists_cons_of_ne_nil hys;obtain⟨d,rfl,hd⟩:=hall u EC;have s:Ext H2 (upd L p (.lst (.ref d::us))):=(e3.trans M).trans (a8 hp);have A:aE (upd L p (.lst (.ref d::us))) d z:=(a8 hp) _ _ hd;have B:upd L p (.lst (.ref d::us)) p=Vn (.lst (.ref d::us)):=aK;generalize upd L p (.lst (.ref d::us))=H5 at s A B ⊢;refine dU (ag.of B) ?_;walk_at"";rw[Fp (show ¬(((V.ref d::us).length:Nat):Int)=0 by rw[EY];lia)];refine ax ?_;walk_at"";have C:=s _ _ b;refine⟨df (ag.of C),?_⟩;walk_at"";refine aL (ag.of B) (eY (j:=0) rfl) ?_;walk_at"";refine bN C (fm (by rw[EN];simp;lia)) ?_;walk_at"";have ac:d≠f:=bZ A C (by intro z;cases z);refine⟨_,_,z,zs++[.ref a],d,rfl,bK (O.trans s) hfn,by rw[aK],by rw[EN,F];rfl,?_,r⟩;show upd _ _ _ _=_;rw[aF ac];exact A
 .rintro σ H2 ⟨k1,k2,y,zs,a,rfl,O,b,F,ha,r⟩;rw[Ew,List.drop_length]at r;cases r;walk_at"";exact q f H2 zs a O b ha
def hide(H:Hp)(f:Vb):Hp:=λa=>if a=f then Vo else H a
def my(H:Hp)(f:Vb):Ext (hide H f) H:=λb o h=>by
 unfold hide at h;split at h
 .cases h
 .exact h
def iU{f a:Vb}{o:HO}(ne:a≠f)(h:H a=Vn o):hide H f a=Vn o:=by unfold hide;rw[Fs ne];exact h
def ni(H:Hp)(f:Vb):hide H f f=Vo:=by unfold hide;rw[Ft rfl]
def pP{f a:Vb}(h:H a=Vo):hide H f a=Vo:=by
 unfold hide;split
 .rfl
 .exact h
abbrev qw(kv:List Key×V)(e:Bfs.dX):Prop:=kv.1=aZ e.1/\kv.2=.int ((e.2:Nat):Int)
structure LC(H:Hp)(f la:Vb)(fl:List Bfs.dX)(lt:List Bfs.Pl):Prop where
 d:∃kvs,H f=Vn (.dT kvs)/\Paired qw kvs fl
 r:∃as,H la=Vn (.lst (List.map V.ref as))/\Paired (aE H) as lt
def LC.step{f la:Vb}{fl:List Bfs.dX}{lt:List Bfs.Pl}(h:LC H f la fl lt)(e:Ext H H1):LC H1 f la fl lt:=by obtain⟨⟨kvs,a,b⟩,as,c,d⟩:=h;exact⟨⟨kvs,e _ _ a,b⟩,as,e _ _ c,Paired.mapP d λ_ _ z=>e _ _ z⟩
def LC.push{f la:Vb}{fl:List Bfs.dX}{lt:List Bfs.Pl}(h:LC H f la fl lt)(l:y∉fl.map (·.1))(c:aE H th y):
  ∃kvs,H f=Vn (.dT kvs)/\kvs.length=fl.length/\∃as,upd H f (.dT (putK kvs (aZ y) (.int ((d:Nat):Int)))) la=Vn (.lst (List.map V.ref as))/\as.length=lt.length ∧
   LC (upd (upd H f (.dT (putK kvs (aZ y) (.int ((d:Nat):Int))))) la (.lst (List.map V.ref as++[.ref th]))) f la (fl++[(y,d)]) (lt++[y]):=by
 obtain⟨⟨kvs,b,e⟩,as,g,i⟩:=h;have j:∀xs,(HO.dT kvs)≠.tup xs:=λxs z=>by cases z
 have k:∀xs,(HO.lst (List.map V.ref as))≠.tup xs:=λxs z=>by cases z
 have ne:la≠f:=bZ g b (by intro z;cases z);have a:upd H f (.dT (putK kvs (aZ y) (.int ((d:Nat):Int)))) la=Vn (.lst (List.map V.ref as)):=by rw[aF ne];exact g
 refine⟨kvs,b,Paired.length e,as,a,Paired.length i,⟨kvs++[(aZ y,.int ((d:Nat):Int))],?_,?_⟩,as++[th],?_,?_⟩
 .rw[aF ne.symm,aK,lQ _ (hZ (λ_ _ z=>z.1) e l)]
 .exact Paired.snoc e ⟨rfl,rfl⟩
 .rw[aK,EM];rfl
 .exact Paired.snoc (Paired.mapP i λ_ _ z=>aE.put a k (aE.put b j z)) (aE.put a k (aE.put b j c))
def kL(fl:List Bfs.dX)(wt:List Bfs.Pl):Nat:=(24013-fl.length)+(if wt=[]then 0 else 1)
def sv(H0:Hp)(ws:List Way)(m U:Int)(x:Bfs.Pl)(v:V)(b f:Vb)(M:Nat)(σ:St)(H':Hp):Prop:=
 ∃fl wt L a k1 k2 k3 c,σ=[Vn v,Vn (.ref b),Vn (.int U),Vn (.ref f),Vn (.ref a),k1,k2,k3,c]/\Ext H0 H'/\LC H' f a fl wt/\Bfs.LI (nx:=bf ws U) (s:=x) fl wt L/\(∀e∈fl,bD m U e.1)/\kL fl wt=M
def zI(H0:Hp)(ws:List Way)(U:Int)(x:Bfs.Pl)(v:V)(b f:Vb)(σ:St)(H':Hp):Prop:=
 ∃fl L a k1 k2 k3 c,σ=[Vn v,Vn (.ref b),Vn (.int U),Vn (.ref f),Vn (.ref a),k1,k2,k3,c]/\Ext H0 H'/\LC H' f a fl []/\Bfs.LI (nx:=bf ws U) (s:=x) fl [] L
def pj(ws:List Way)(U:Int)(wt:List Bfs.Pl)(i:Nat)(y:Bfs.Pl):Prop:=∃z∈wt.take i,∃k,bf ws U z k=Vn y
def nL(ws:List Way)(U:Int)(wt:List Bfs.Pl)(i:Nat)(z:Bfs.Pl)(j:Nat)(y:Bfs.Pl):Prop:=pj ws U wt i y\/∃t∈(c7 ws z.1 z.2 ws.length).take j,y=(t.2.1,t.2.2)/\t.2.2<=U
def D3(H0 G:Hp)(ws:List Way)(m U:Int)(x:Bfs.Pl)(v:V)(b f c la:Vb)(fl:List Bfs.dX)(wt:List Bfs.Pl)(L i:Nat)(σ:St)(H':Hp):Prop:=
 ∃a lt k2 k3 d,σ=[Vn v,Vn (.ref b),Vn (.int U),Vn (.ref f),Vn (.ref c),Vn (.ref la),k2,k3,d]/\Ext H0 H'/\Ext G H'/\LC H' f la a lt/\Bfs.LF (nx:=bf ws U) (s:=x) fl a wt lt L (pj ws U wt i)/\(∀e∈a,bD m U e.1)/\a.length=fl.length+lt.length
def BX(H0 G c:Hp)(ws:List Way)(m U:Int)(x:Bfs.Pl)(v:V)(d f g la b:Vb)(z:Bfs.Pl)(fl:List Bfs.dX)(wt:List Bfs.Pl)(L i j:Nat)(σ:St)(H':Hp):Prop:=
 ∃a lt k3 h,σ=[Vn v,Vn (.ref d),Vn (.int U),Vn (.ref f),Vn (.ref g),Vn (.ref la),Vn (.ref b),k3,h]/\Ext H0 H'/\Ext G H'/\Ext c H'/\LC H' f la a lt/\Bfs.LF (nx:=bf ws U) (s:=x) fl a wt lt L (nL ws U wt i z j)/\(∀e∈a,bD m U e.1)/\a.length=fl.length+lt.length
def w9{fl:List Bfs.dX}(a:m<=12)(b:U<=2000)(c:(fl.map (·.1)).Nodup)(h:∀e∈fl,bD m U e.1):fl.length<=24012:=by
 have:=bD.few a b c (λy d=>by obtain⟨e,g,rfl⟩:=List.mem_map.mp d;exact h e g)
 rwa [Ew]at this
inductive uw(K:Eo)(vs:List V)(H:Hp)(Q:VK)(E:XK):Prop|mk:∀v m ws a x U,vs=[v,.ref a,.int U]->bh H v m ws->HOuse m ws->aE H a x->bD m U x->U<=2000->(∀f H' kvs fl,Ext H H'->H' f=Vn (.dT kvs)->Paired qw kvs fl->(fl.map (·.1)).Nodup->(∀e∈fl,Bfs.bz (bf ws U) x e.2 e.1)->(∀n y,Bfs.Wk (bf ws U) x n y->y∈fl.map (·.1))->Q (.ref f) H')->uw K vs H Q E
theorem AI(T:Bu w mg base):Cal P w K mg base "_law_come" 2 ["_law_house_here","_law_place","_law_top"] (uw K):=by
 refine(ef T.d__law_come).oS ["_law_house_here","_law_place","_law_top","_law_found","_law_waiting","_law_later","_law_here","_law_k","_law_there_here"] λhr nd H vs Q E h=>?_;obtain⟨v,m,ws,pa,x,U,rfl,hv,ok,hx,ix,hU,q⟩:=h;have m2:=ok.m12;have dg:=ok.few;refine⟨_,(av (aG (i:=3) nd rfl oi (m3 (dM hr) (pv 1) af))
   (av (aG (i:=4) nd rfl oi (bp (ae (pv 1) aa)))
   (av (fA PassesOwn.never (aN eB (aS (cq K) rfl T.len_ PySem.boot_len (ae (pv 4) aa)) af (aJ _)) (av (aG (i:=5) nd rfl oi (bp aa))
   (av (bt PassesOwn.never rfl (bP K (pv 4)) (aI (i:=6) nd rfl oi) (aw (bt PassesOwn.never rfl (bP K (aB (o7 T) hr (ae (pv 0) (ae (pv 6) aa)))) (fh (n:=2) K rfl (br (aI (i:=7) nd rfl oi) (br (aI (i:=8) nd rfl oi) eA))) (aw (cJ (PW.pt (eT (aN fu (ao (az K) (pv 8) af (λ_ _=>rfl)) (pv 2) (aJ _)) (fS (iO (iH (dM hr) (pv 8) (pv 3)) (by with_unfolding_all rfl))))) (av (mw (dM hr) (pv 3) (pv 8) (aA aV (ko (dM hr) (pv 3) (pv 6) (λ_ _=>rfl)) af) rfl)
   (aw (bj (bL K ED ES ET bR (pv 5) (ae (pv 8) aa))))) aQ)))))
   (aw (aG (i:=4) nd rfl oi (pv 5))))))
   (aw (aD (pv 3)))))),?_⟩
 walk_at"";refine λf hfn=>?_;walk_at"";refine⟨pa,aZ x,rfl,(a8 hfn) _ _ hx,aK,?_⟩;walk_at"";refine aO λwa H3 e3 C cv=>?_;walk_at"";have b7:Ext H (upd (upd H f (.dT [])) f (.dT [(aZ x,.int 0)])):=λb o hb=>by rw[aF (b0 hb hfn),aF (b0 hb hfn)];exact hb
 have eH3:=b7.trans e3;have b8:LC H3 f wa [(x,0)] [x]:=⟨⟨_,e3 _ _ aK,.cons ⟨rfl,rfl⟩ .nil⟩,[pa],C,.cons (eH3 _ _ hx) .nil⟩;refine fo (sv H ws m U x v pa f) (zI H ws U x v pa f) (kL [(x,0)] [x]) ⟨[(x,0)],[x],0,wa,_,_,_,_,rfl,eH3,b8,Bfs.LI.begin,?_,rfl⟩ ?_ ?_
 .intro e he;rw[EG]at he;subst he;exact ix
 .clear b8 eH3 b7 C cv e3 wa;rintro M σ H4 ⟨fl,wt,L,wa,k1,k2,k3,k4,rfl,e4,lc,li,hin,hM⟩;obtain⟨as,C,aj⟩:=lc.r;have hal:=Paired.length aj;walk_at"";refine dU (ag.of C) ?_;walk_at"";rw[Ew,hal];by_cases ak:wt=[]
  .subst ak;refine ax ?_;exact⟨fl,L,wa,_,_,_,_,rfl,e4,lc,li⟩
  .rw[Fq (show(0:Int)<((wt.length:Nat):Int) by have:=List.length_pos_iff.mpr ak;lia)];refine aC ?_;refine⟨λd0 H'=>∃m',m'<M/\sv H ws m U x v pa f m' d0 H',λ_ _ h=>h,?_⟩;walk_at"";refine aO λla H5 e5 ba p=>?_;walk_at"";refine bO (ag.of (e5 _ _ C)) ?_;obtain⟨ab,Y,bb⟩:=lc.d;have wf:wa≠f:=bZ C Y (by intro z;cases z);have dn:la≠f:=λz=>by rw[z]at p;rw[Y]at p;cases p
   have am:Ext (hide H4 f) H5:=(my _ _).trans e5;have bc:hide H4 f wa=Vn (.lst (List.map V.ref as)):=iU wf C;have be:Paired (aE (hide H4 f)) as wt:=Paired.mapP aj λa y z=>iU (bZ z Y (by intro z;cases z)) z;have bg:=ni H4 f;have bi:hide H4 f la=Vo:=pP p;have d1:H la=Vo:=e4.none p;have bm:LC H5 f la fl []:=⟨⟨ab,e5 _ _ Y,bb⟩,[],ba,.nil⟩;have bn:=e4.trans e5;clear aj C e5 p ba bb Y lc ab;generalize hide H4 f=G at am bc be bg bi;clear e4 H4;refine forL (xs:=List.map V.ref as) (D3 H G ws m U x v pa f wa la fl wt L) ?_ (λi σ H' _ h=>?_) ?_ ?_
   .refine⟨fl,[],_,_,_,rfl,bn,am,bm,li.start.more (λy O=>?_),hin,by simp⟩;obtain⟨z,hz,_⟩:=O;simp at hz
   .obtain⟨_,_,_,_,_,_,_,eG,_⟩:=h;exact ag.of (eG _ _ bc)
   .rintro i u σ H6 hu ⟨B,lt,c2,c3,c4,rfl,e6,a6,R,lf,F,g⟩;rw[Ey]at hu;obtain⟨b,hb,rfl⟩:=EH.mp hu;obtain⟨z,hz,d2⟩:=cV be hb;have an:z∈wt:=EF hz;have ap:aE H6 b z:=a6 _ _ d2;clear bm am bn H5;walk_at"";refine⟨v,m,ws,b,z.1,z.2,rfl,hv.ext e6,ok,ap,λbl H7 cs e7 Z bu ar=>?_⟩;have hcl:=Paired.length ar;have bv:=R.step e7;obtain⟨di,au,_⟩:=R.d;obtain⟨dp,b1,_⟩:=R.r;have c0:=e7 _ _ au;have c1:=e7 _ _ b1;have c5:bl≠f:=λz=>by rw[z,au]at Z;cases Z
    have c9:bl≠la:=λz=>by rw[z,b1]at Z;cases Z
    have eG2:Ext (hide (hide H7 f) la) H7:=(my _ _).trans (my _ _);have a1:hide (hide H7 f) la bl=Vn (.lst (List.map V.ref cs)):=iU c9 (iU c5 bu);have N:∀a xs,H7 a=Vn (.tup xs)->hide (hide H7 f) la a=Vn (.tup xs):=λa xs h=>iU (bZ h c1 (by intro z;cases z)) (iU (bZ h c0 (by intro z;cases z)) h);have ac:Paired (dm (hide (hide H7 f) la)) cs (c7 ws z.1 z.2 ws.length):=Paired.mapP ar λc t h=>by obtain⟨d,h1,h2⟩:=h;exact⟨d,N _ _ h1,N _ _ h2⟩
    have ad:hide (hide H7 f) la f=Vo:=pP (ni _ _);have ai:hide (hide H7 f) la la=Vo:=ni _ _;have ca:aE (hide (hide H7 f) la) b z:=N _ _ (e7 _ _ ap);have cc:=e6.trans e7;have cd:=a6.trans e7;clear N c1 c0 b1 au bu ar Z e7 R a6 e6 ap c5 c9;generalize hide (hide H7 f) la=G2 at eG2 a1 ac ad ai ca;refine bO (ag.of (eG2 _ _ a1)) ?_;refine forL (xs:=List.map V.ref cs) (BX H G G2 ws m U x v pa f wa la b z fl wt L i) ?_ (λj σ H' _ h=>?_) ?_ ?_
    .refine⟨B,lt,_,_,rfl,cc,cd,eG2,bv,lf.more (λy O=>?_),F,g⟩;rcases O with h|⟨t,ht,_⟩
     .exact .inl h
     .simp at ht
    .obtain⟨_,_,_,_,_,_,_,e2,_⟩:=h;exact ag.of (e2 _ _ a1)
    .clear bv lf F g cd cc;rintro j u σ H8 hu ⟨B,lt,d3,d4,rfl,a2,a3,S,W,lf,A,l⟩;rw[Ey]at hu;obtain⟨c,hc,rfl⟩:=EH.mp hu;obtain⟨t,ht,d5⟩:=cV ac hc;have d6:=EF ht;obtain⟨d,d7,ce⟩:=d5.ext S;have b2:=w9 m2 hU lf.nd A;have a4:aE H8 d (t.2.1,t.2.2):=ce;have J:∀y,nL ws U wt i z (j+1) y->nL ws U wt i z j y\/(y=(t.2.1,t.2.2)/\t.2.2<=U):=by
      rintro y (h|⟨t',cf,h1,h2⟩)
      .exact .inl (.inl h)
      .rw[List.take_succ,ht]at cf;rcases EU.mp cf with w|w
       .exact .inl (.inr ⟨t',w,h1,h2⟩)
       .have:t'=t:=by simpa using w
        subst this;exact .inr ⟨h1,h2⟩
     refine eS (ah.of d7) rfl ?_;walk_at"";refine cD ?_;walk_at"";refine ay (ah.of ce) (v:=.int t.2.2) rfl ?_;walk_at"";by_cases hle:t.2.2<=U
     rotate_left
     .rw[Fp hle];refine ax ?_;refine ax ?_;walk_at"";refine⟨B,lt,_,_,rfl,a2,a3,S,W,lf.more (λy O=>?_),A,l⟩;rcases J y O with h|⟨_,h⟩
      .exact .inl h
      .exact absurd h hle
     .rw[Fq hle];refine aC ?_;walk_at"";obtain⟨kvs,ch,b4⟩:=W.d;refine⟨f,_,rfl,cP.t ch (k:=aZ (t.2.1,t.2.2)) a4,?_⟩;by_cases I:(t.2.1,t.2.2)∈B.map (·.1)
      .obtain⟨e,he,d8⟩:=List.mem_map.mp I;obtain⟨v1,X,_⟩:=gE (λ_ _ z=>z.1) b4 lf.nd he;rw[d8]at X;rw[X];refine rd_exb (ax ?_);walk_at"";refine⟨B,lt,_,_,rfl,a2,a3,S,W,lf.more (λy O=>?_),A,l⟩;rcases J y O with h|⟨h,_⟩
       .exact .inl h
       .rw[h];exact .inr I
      .rw[hZ (λ_ _ z=>z.1) b4 I];refine rd_exb (aC ?_);obtain⟨kk,_,ci⟩:=xD d6 hle;obtain⟨ez,b5,a5⟩:=List.mem_map.mp (li.al L z (ER _) (li.wt z an).1);have cl:ez.2=L:=Bfs.bz.uniq (nx:=bf ws U) (s:=x) (li.ds ez b5).1 (by rw[a5];exact li.wt z an);obtain⟨v1,X,co⟩:=gE (λ_ _ z=>z.1) b4 lf.nd (lf.sub ez b5);rw[a5]at X;obtain rfl:v1=.int ((L:Nat):Int):=by rw[<-cl];exact co.2
       have cp:bD m U (t.2.1,t.2.2):=l8 ok (by have:=hin ez b5;rw[a5]at this;exact this.2.2.1) ci;walk_at"";refine⟨f,_,rfl,by rw[<-X];exact cP.t ch (k:=aZ z) (S _ _ ca),?_⟩;clear X co;walk_at"";obtain⟨dk,d9,dt,du,cr,dl,da⟩:=W.push (d:=L+1) I a4;refine⟨f,_,rfl,g7.t d9 (k:=aZ (t.2.1,t.2.2)) a4 (fm (by lia)),?_⟩;walk_at"";refine⟨df (ag.of cr),?_⟩;walk_at"";refine bN cr (fm (by rw[Ew];lia)) ?_;have db:∀e∈B++[((t.2.1,t.2.2),L+1)],bD m U e.1:=λe he=>by
        rcases EU.mp he with w|w
        .exact A e w
        .rw[EG]at w;subst w;exact cp
       walk_at"";refine⟨_,_,_,_,rfl,bK (bK a2 hfn) d1,bK (bK a3 bg) bi,bK (bK S ad) ai,da,lf.add li an ci I (λy O=>?_),db,by rw[EN,EN,l];simp;lia⟩;rcases J y O with h|⟨h,_⟩
       .exact .inl h
       .exact .inr h
    .rintro σ H8 ⟨dc,lt2,d3,d4,rfl,a2,a3,S,W,ct,A,l⟩;rw[Ew,hcl]at ct;refine⟨dc,lt2,_,_,_,rfl,a2,a3,W,ct.more (λy O=>.inl ?_),A,l⟩;obtain⟨z',cu,k,hk⟩:=O;rw[List.take_succ,hz]at cu;rcases EU.mp cu with w|w
     .exact .inl ⟨z',w,k,hk⟩
     .have:z'=z:=by simpa using w
      subst this;obtain⟨h1,h2⟩:=oD hk;exact .inr ⟨_,by rw[EZ];exact h1,rfl,h2⟩
   .rintro σ H6 ⟨B,lt,c2,c3,c4,rfl,e6,a6,R,lf,F,g⟩;rw[Ew,hal]at lf;have dd:=lf.next li (λy O k z hz=>⟨y,by rw[EZ];exact O,k,hz⟩);have b2:=w9 m2 hU lf.nd F;walk_at"";refine⟨kL B lt,?_,B,lt,L+1,la,_,_,_,_,rfl,e6,R,dd,F,rfl⟩;rw[<-hM];unfold kL;rw[Fs ak];cases lt with
    | nil=>rw[Ft rfl,g];simp
    | cons a r=>rw[Fs (by simp),g];rw[g]at b2;rw[EY]at b2 ⊢;lia
 .rintro σ H4 ⟨fl,L,wa,k1,k2,k3,k4,rfl,e4,lc,li⟩;obtain⟨kvs,hd,pk⟩:=lc.d;walk_at"";exact q f H4 kvs fl e4 hd pk li.nd (λe he=>(li.ds e he).1) li.end_
structure Gd(b s:Int)(o a:List Int):Prop where
 ok:Ok b s o a
 b3:b<=3000
 s8:s<=840
theorem qL{lo hi x:Int}{r:List Int}:gg lo hi (x::r)↔lo<=x/\x<hi/\gg (x+1) hi r:=by
 constructor
 .rintro⟨h1,h2⟩;obtain⟨d,p2⟩:=List.pairwise_cons.mp h1;have b:=h2 x EC;exact⟨b.1,b.2,p2,λz a=>⟨by have:=d z a;lia,(h2 z (Ez _ a)).2⟩⟩
 .rintro⟨h1,h2,e,c⟩;refine⟨List.pairwise_cons.mpr ⟨λz a=>by have:=c z a;lia,e⟩,λz a=>?_⟩;rcases EK.mp a with rfl|a
  .exact⟨h1,h2⟩
  .have:=c z a;exact⟨by lia,this.2⟩
inductive uO(K:Eo)(vs:List V)(H:Hp)(Q:VK)(E:XK):Prop|mk:∀(p:Vb) (lo hi:Int) (xs:List Int),vs=[.ref p,.int lo,.int hi]->H p=Vn (.tup (xs.map V.int))->gg lo hi xs->Q (.bl true) H->uO K vs H Q E
theorem vE(T:Bu w mg base):Cal P w K mg base "is_rising_row" 2 ["thing","low","end"] (uO K):=by
 refine(ef T.d_is_rising_row).oS ["thing","low","end","lowest","number"] λg nd H vs Q E h=>?_;obtain⟨p,lo,hi,xs,rfl,a,c,q⟩:=h;refine⟨_,(av (aY (bB (a0 (aS c8 rfl T.isinstance_ PyProof.Rows.boot_isinstance (ae (pv 0) (ae (dh (v:=.ty "tuple") rfl T.tuple_ PyProof.Rows.boot_tuple rfl) aa))))) (aw (aD a7)) aQ)
   (av (aG (i:=3) nd rfl oi (pv 1))
   (av (bt PassesOwn.never rfl (eZ K (pv 0)) (aI (i:=4) nd rfl oi) (av (aY (PW.pt (bJ (bB (a0 (aB (jb T) g (ae (pv 4) aa)))) (bJ (aN dj (pv 4) (pv 3) (aJ _)) (b9 (aN lK (pv 4) (pv 2) (aJ _)))))) (aw (aD a7)) aQ)
   (aw (aG (i:=3) nd rfl oi (aA aV (pv 4) af)))))
   (aw (aD a7))))),?_⟩
 walk_at"";refine cS (n:="tuple") (.inr ⟨rfl,_,a⟩) (b:=true) rfl ?_;walk_at"";refine ax ?_;walk_at"";refine eR (ah.of a) ?_;refine iz (xs:=xs.map V.int) (λi σ H'=>H'=H/\∃lw w,σ=[Vn (.ref p),Vn (.int lo),Vn (.int hi),Vn (.int lw),w]/\gg lw hi (xs.drop i))
  ⟨rfl,lo,Vo,rfl,c⟩ (λi σ H' _ h=>by rw[h.1];exact ah.of a) ?_ ?_
 .rintro i u σ H' j ⟨rfl,lw,w,rfl,e⟩;obtain⟨x,rfl,k⟩:=fG j;have hd:xs.drop i=x::xs.drop (i+1):=by obtain⟨d,rfl⟩:=EE.mp k;exact List.drop_eq_getElem_cons d
  rw[hd]at e;obtain⟨h1,h2,l⟩:=qL.mp e;walk_at"";refine⟨_,"int",rfl,rfl,?_⟩;walk_at"";refine ax ?_;walk_at"";rw[Fp (show ¬x<lw by lia)];refine ax ?_;walk_at"";rw[Fp (show ¬hi<=x by lia)];refine ax ?_;walk_at"";exact⟨rfl,_,_,rfl,l⟩
 .rintro σ H' ⟨rfl,lw,w,rfl,_⟩;walk_at"";exact q
inductive uF(K:Eo)(vs:List V)(H:Hp)(Q:VK)(E:XK):Prop|mk:∀(b s:Int) (o a:List Int) (q r:Vb),vs=[.int b,.int s,.ref q,.ref r]->H q=Vn (.tup (o.map V.int))->H r=Vn (.tup (a.map V.int))->Ok b s o a->Q (.bl true) H->uF K vs H Q E
theorem Bw(T:Bu w mg base):Cal P w K mg base "are_stair_places" 3 ["base","step","once","again"] (uF K):=by
 refine(jK T.d_are_stair_places).oS ["base","step","once","again"] λc nd H vs Q E h=>?_;obtain⟨b,s',o,a,d,r,rfl,h2,e,hok,q⟩:=h;have hb:=hok.hb;have hs:=hok.hs;refine⟨_,(av (aY (PW.pt (bJ (bB (a0 (aB (jb T) c (ae (pv 0) aa)))) (bJ (bB (a0 (aB (jb T) c (ae (pv 1) aa)))) (bJ (aN dj (pv 0) af (aJ _)) (b9 (aN dj (pv 1) af (aJ _))))))) (aw (aD a7)) aQ)
   (aw (aD (cG (aB (vE T) c (ae (pv 2) (ae af (ae (pv 0) aa)))) (cQ (aB (vE T) c (ae (pv 3) (ae (pv 0) (ae (aA aV (pv 0) (pv 1)) aa))))))))),?_⟩
 walk_at"";refine⟨_,"int",rfl,rfl,?_⟩;walk_at"";refine ax ?_;walk_at"";refine⟨_,"int",rfl,rfl,?_⟩;walk_at"";refine ax ?_;walk_at"";rw[Fp (show ¬b<0 by lia)];refine ax ?_;walk_at"";rw[Fp (show ¬s'<1 by lia)];refine ax ?_;walk_at"";refine⟨d,_,_,o,rfl,h2,hok.ho,?_⟩;walk_at"";refine aC ?_;walk_at"";exact⟨r,_,_,a,rfl,e,hok.ha,q⟩
inductive xa(K:Eo)(vs:List V)(H:Hp)(Q:VK)(E:XK):Prop|mk:∀v b s o a,vs=[v]->cC H v b s o a->Ok b s o a->Q (.bl true) H->xa K vs H Q E
def pz(T:Bu w mg base):Cal P w K mg base "is_stair" 4 ["thing"] (xa K):=by
 refine(ck T.d_is_stair).oS ["thing"] λc nd H vs Q E h=>?_;obtain⟨v,b,s',o,a,rfl,⟨p,d,r,rfl,h1,h2,e⟩,hok,q⟩:=h;refine⟨_,(av (aY (PW.pt (bJ (bB (a0 (aS c8 rfl T.isinstance_ PyProof.Rows.boot_isinstance (ae (pv 0) (ae (dh (v:=.ty "tuple") rfl T.tuple_ PyProof.Rows.boot_tuple rfl) aa))))) (b9 (aN dY (aS (cq K) rfl T.len_ PySem.boot_len (ae (pv 0) aa)) af (aJ _))))) (aw (aD a7)) aQ)
   (aw (aD (aB (Bw T) c (ae (ao (az K) (pv 0) af (λ_ _=>rfl)) (ae (ao (az K) (pv 0) af (λ_ _=>rfl)) (ae (ao (az K) (pv 0) af (λ_ _=>rfl)) (ae (ao (az K) (pv 0) af (λ_ _=>rfl)) aa)))))))),?_⟩
 walk_at"";refine cS (n:="tuple") (.inr ⟨rfl,_,h1⟩) (b:=true) rfl ?_;walk_at"";refine ax ?_;walk_at"";refine gK (ah.of h1) ?_;walk_at"";refine ax ?_;walk_at"";refine ay (ah.of h1) rfl ?_;walk_at"";refine ay (ah.of h1) rfl ?_;walk_at"";refine ay (ah.of h1) rfl ?_;walk_at"";refine ay (ah.of h1) rfl ?_;walk_at"";exact⟨b,s',o,a,d,r,rfl,h2,e,hok,q⟩
inductive tF(K:Eo)(vs:List V)(H:Hp)(Q:VK)(E:XK):Prop|mk:∀v b s o a,vs=[v]->cC H v b s o a->Ok b s o a->Q .non H->tF K vs H Q E
def DQ(T:Bu w mg base):Cal P w K mg base "refuse_no_stair" 5 ["thing"] (tF K):=by refine(ck T.d_refuse_no_stair).oS ["thing"] λc nd H vs Q E h=>?_;obtain⟨v,b,s',o,a,rfl,d,hok,q⟩:=h;refine⟨_,(aw (aY (bB (a0 (aB (pz T) c (ae (pv 0) aa)))) (aw i9) aQ)),?_⟩;walk_at"";refine⟨v,b,s',o,a,rfl,d,hok,?_⟩;walk_at"";exact ax q
inductive v8(K:Eo)(vs:List V)(H:Hp)(Q:VK)(E:XK):Prop|mk:∀v b s o a,vs=[v]->cC H v b s o a->b<=3000->s<=840->Q .non H->v8 K vs H Q E
theorem zH(T:Bu w mg base):Cal P w K mg base "refuse_great_stair" 1 ["stair"] (v8 K):=by
 obtain⟨e,c⟩:=T.g_GREATEST_STEP;obtain⟨g,d⟩:=T.g_GREATEST_BASE;refine(ck T.d_refuse_great_stair).oS ["stair"] λi nd H vs Q E h=>?_;obtain⟨v,b,s',o,a,rfl,⟨p,j,r,rfl,h1,h2,k⟩,hb,hs,q⟩:=h;refine⟨_,(av (aY (aN eB (ao (az K) (pv 0) af (λ_ _=>rfl)) (gL (v:=.int 3000) rfl d ⟨_,rfl⟩) (aJ _)) (aw i9) aQ)
   (aw (aY (aN eB (ao (az K) (pv 0) af (λ_ _=>rfl)) (gL (v:=.int 840) rfl c ⟨_,rfl⟩) (aJ _)) (aw i9) aQ))),?_⟩
 walk_at"";refine ay (ah.of h1) rfl ?_;walk_at"";rw[Fp (show ¬3000<b by lia)];refine ax ?_;walk_at"";refine ay (ah.of h1) rfl ?_;walk_at"";rw[Fp (show ¬840<s' by lia)];exact ax q
inductive xg(K:Eo)(vs:List V)(H:Hp)(Q:VK)(E:XK):Prop|mk:∀v b s o a,vs=[v]->cC H v b s o a->Gd b s o a->Q .non H->xg K vs H Q E
def yA(T:Bu w mg base):Cal P w K mg base "refuse_bad_stair" 6 ["thing"] (xg K):=by
 refine(ck T.d_refuse_bad_stair).oS ["thing"] λd nd H vs Q E h=>?_;obtain⟨v,b,s',o,a,rfl,e,c,q⟩:=h;refine⟨_,(av (bj (aB (DQ T) d (ae (pv 0) aa)))
   (aw (bj (aB (zH T) d (ae (pv 0) aa))))),?_⟩
 walk_at"";refine⟨v,b,s',o,a,rfl,e,c.ok,?_⟩;walk_at"";exact⟨v,b,s',o,a,rfl,e,c.b3,c.s8,q⟩
def kz(x:Int)(xs:List Int):jc (.int x) (xs.map V.int)=xs.contains x:=by
 unfold jc;rw[List.any_map,E8,E7,List.contains_iff_mem];constructor
 .rintro⟨y,a,e⟩;have e':(y == x)=true:=e;rw[<-(by simpa using e':y=x)];exact a
 .intro b;exact⟨x,b,by show(x == x)=true;simp⟩
def kF(xs:List Int):(xs.map V.int).all fH=true:=by rw[List.all_map,E6];intro x _;rfl
inductive vP(K:Eo)(vs:List V)(H:Hp)(Q:VK)(E:XK):Prop|mk:∀v x b s o a,vs=[v,.int x]->cC H v b s o a->Gd b s o a->Q (.bl (mem b s o a x)) H->vP K vs H Q E
theorem kM(T:Bu w mg base):Cal P w K mg base "holds" 7 ["stair","x"] (vP K):=by
 refine(bw T.d_holds).oS ["stair","x","base"] λg nd H vs Q E h=>?_;obtain⟨v,x,b,s',o,a,rfl,d,e,q⟩:=h;have hs:=e.ok.hs;refine⟨_,(av (bj (aB (yA T) g (ae (pv 0) aa)))
   (av (aG (i:=2) nd rfl oi (ao (az K) (pv 0) af (λ_ _=>rfl)))
   (av (aY (aN dj (pv 1) (pv 2) (aJ _)) (aw (aD (cY (kn K) (pv 1) (ao (az K) (pv 0) af (λ_ _=>rfl)) (by with_unfolding_all rfl)))) aQ)
   (aw (aD (cY (kn K) (aA aV (pv 2) (aA cw (aA de (pv 1) (pv 2)) (ao (az K) (pv 0) af (λ_ _=>rfl)))) (ao (az K) (pv 0) af (λ_ _=>rfl)) (by with_unfolding_all rfl))))))),?_⟩
 walk_at"";refine⟨v,b,s',o,a,rfl,d,e,?_⟩;obtain⟨p,k,r,rfl,h1,h2,j⟩:=d;walk_at"";refine ay (ah.of h1) rfl ?_;walk_at"";by_cases c:x<b
 .rw[Fq c];refine aC ?_;walk_at"";refine ay (ah.of h1) rfl ?_;walk_at"";refine lJ (.inr (ah.of h2)) rfl (kF o) ?_;rw[j8 _ c]at q;rw[kz];exact q
 .rw[Fp c];refine ax ?_;walk_at"";refine ay (ah.of h1) rfl ?_;walk_at"";refine ay (ah.of h1) rfl ?_;walk_at"";refine lJ (.inr (ah.of j)) rfl (kF a) ?_;rw[jj _ (by lia)]at q;rw[kz];exact q
theorem zU{x n:Int}(hs:1<=s){i:Nat}(h:i<eV x n s):x+i*s<n:=by
 unfold eV at h;rw[Ft (by lia)]at h;split at h
 .have h1:(i:Int)<=(n-x-1) / s:=by have:0<=(n-x-1) / s:=Int.ediv_nonneg (by lia) (by lia);omega
  have h2:(i:Int)*s<=(n-x-1) / s*s:=Int.mul_le_mul_of_nonneg_right h1 (by lia);have a:=Int.ediv_mul_le (n-x-1) (b:=s) (by lia);omega
 .omega
theorem Cf{x n y:Int}(hs:1<=s)(h1:x<=y)(h2:y<n)(a:(y-x) % s=0):∃i:Nat,i<eV x n s/\y=x+i*s:=by
 have b:=Int.mul_ediv_add_emod (y-x) s;rw[a]at b;have c:0<=(y-x) / s:=Int.ediv_nonneg (by lia) (by lia);refine⟨((y-x) / s).toNat,?_,?_⟩
 .unfold eV;rw[Ft (by lia),Ft (by lia)];have:(y-x) / s<=(n-x-1) / s:=Int.ediv_le_ediv (by lia) (by lia);lia
 .rw[EJ c,Int.mul_comm];lia
def fE(s:Int)(o a:List Int)(y:Nat):Bool:=o.contains (y:Int) || a.any λx=>decide (x<=(y:Int)) && ((y:Int)-x) % s == 0
theorem vU{b:Int}(S:Ok b s o a)(y:Nat):fE s o a y=fn b s o a y:=AF S (by lia)
inductive wB(K:Eo)(vs:List V)(H:Hp)(Q:VK)(E:XK):Prop|mk:∀v n b s o a,vs=[v,.int n]->cC H v b s o a->Gd b s o a->0<=n->n<=20000->(∀q H',Ext H H'->H q=Vo->H' q=Vn (.lst (aP n.toNat (fn b s o a)))->Q (.ref q) H')->wB K vs H Q E
theorem vq(T:Bu w mg base):Cal P w K mg base "marks_below" 1 ["stair","end"] (wB K):=by
 refine(bw T.d_marks_below).oS ["stair","end","marks","number","later"] λhr nd H vs Q E h=>?_;obtain⟨v,n,b,s',o,a,rfl,hv,u,a1,a2,q⟩:=h;obtain⟨p,q',r,rfl,h1,h2,h3⟩:=hv;have hs:=u.ok.hs;have a3:=u.s8;have a4:=u.ok.hb;have a5:=u.b3;refine⟨_,(av (aG (i:=2) nd rfl oi (aA jG (bp (ae a7 aa)) (pv 1)))
   (av (bt PassesOwn.never rfl (eZ K (ao (az K) (pv 0) af (λ_ _=>rfl))) (aI (i:=3) nd rfl oi) (aw (cJ (aN dj (pv 3) (pv 1) (aJ _)) (aw (eM a7 (f7 (pv 2) (pv 3) set_list))) aQ)))
   (av (bt PassesOwn.never rfl (eZ K (ao (az K) (pv 0) af (λ_ _=>rfl))) (aI (i:=3) nd rfl oi) (aw (bt PassesOwn.never rfl (DR rfl T.range_ (ae (pv 3) (ae (pv 1) (ae (ao (az K) (pv 0) af (λ_ _=>rfl)) aa)))) (aI (i:=4) nd rfl oi) (aw (eM a7 (f7 (pv 2) (pv 4) set_list))))))
   (aw (aD (pv 2)))))),?_⟩
 walk_at"";refine aO λm H1 e1 hm _=>?_;walk_at"";refine j2 hm (by lia) (bT (by simp;lia)) (cF λl H2 e2 C L=>?_);rw[j3]at C;have A:Ext H H2:=e1.trans e2;have B:H l=Vo:=e1.none L;walk_at"";refine ay (ah.of (A _ _ h1)) rfl ?_;walk_at"";refine eR (ah.of (A _ _ h2)) ?_;refine iz (xs:=o.map V.int) (λi σ H'=>Ext H H'/\∃x,σ=[Vn (.ref p),Vn (.int n),Vn (.ref l),x,Vo]/\H' l=Vn (.lst (aP n.toNat λy=>(o.take i).contains (y:Int))))
  ⟨A,Vo,rfl,by simpa using C⟩ (λi σ H' _ h=>ah.of (h.1 _ _ h2)) ?_ ?_
 .rintro i v' σ H' hi ⟨e,x,rfl,s⟩;obtain⟨z,rfl,F⟩:=fG hi;have M:=(u.ok.ho.2 z (EF F));have c:o.take (i+1)=o.take i++[z]:=by rw[List.take_add_one,F];rfl
  walk_at"";refine gN (λN H'=>Ext H H'/\∃x,N=[Vn (.ref p),Vn (.int n),Vn (.ref l),x,Vo]/\H' l=Vn (.lst (aP n.toNat λy=>(o.take (i+1)).contains (y:Int)))) ?_ (λ_ _ h=>h);walk_at"";by_cases G:z<n
  .rw[Fq G];refine aC ?_;walk_at"";refine gJ s (gy (by lia) (by rw[bW];lia)) ?_;rw[ir _ _ (by lia)];refine⟨bK e B,_,rfl,?_⟩;rw[aK];congr 2;refine b6 λy O=>?_;rw[c,List.contains_append];by_cases d:y=z.toNat
   .rw[Ft d];have:(y:Int)=z:=by lia
    rw[this];simp
   .rw[Fs d];have:[z].contains (y:Int)=false:=by rw[Bool.eq_false_iff];intro R;rw[List.contains_iff_mem,EG]at R;lia
    rw[this,Bool.or_false]
  .rw[Fp G];refine ax ?_;walk_at"";refine⟨e,_,rfl,?_⟩;rw[s];congr 2;refine b6 λy O=>?_;rw[c,List.contains_append];have:[z].contains (y:Int)=false:=by rw[Bool.eq_false_iff];intro R;rw[List.contains_iff_mem,EG]at R;lia
   rw[this,Bool.or_false]
 .rintro σ H3 ⟨S,x,rfl,I⟩;rw[Ew,EZ]at I;walk_at"";refine ay (ah.of (S _ _ h1)) rfl ?_;walk_at"";refine eR (ah.of (S _ _ h3)) ?_;refine iz (xs:=a.map V.int) (λi σ H'=>Ext H H'/\∃x y,σ=[Vn (.ref p),Vn (.int n),Vn (.ref l),x,y]/\H' l=Vn (.lst (aP n.toNat (fE s' o (a.take i)))))
   ⟨S,_,_,rfl,by rw[I];congr 2;exact b6 λy _=>by simp[fE]⟩ (λi σ H' _ h=>ah.of (h.1 _ _ h3)) ?_ ?_
  .rintro i v' σ H' hi ⟨e,x,y,rfl,s⟩;obtain⟨z,rfl,F⟩:=fG hi;have M:=(u.ok.ha.2 z (EF F));have c:a.take (i+1)=a.take i++[z]:=by rw[List.take_add_one,F];rfl
   walk_at"";refine ay (ah.of (e _ _ h1)) rfl ?_;walk_at"";refine Ba (by unfold je;lia) ?_;refine AV (λj σ H'=>Ext H H'/\∃y,σ=[Vn (.ref p),Vn (.int n),Vn (.ref l),Vn (.int z),y]/\H' l=Vn (.lst (aP n.toNat λy=>fE s' o (a.take i) y || (Fo j).any λk=>decide ((y:Int)=z+(k:Nat)*s'))))
    ⟨e,_,rfl,by rw[s];congr 2;exact b6 λy _=>by simp⟩ ?_ ?_
   .rintro j σ U hj ⟨e',y',rfl,g⟩;have hlt:=zU hs hj;have hge:0<=(j:Int)*s':=E1 (by lia) (by lia);walk_at"";refine gJ g (gy (by lia) (by rw[bW];lia)) ?_;rw[ir _ _ (by lia)];refine⟨bK e' B,_,rfl,?_⟩;rw[aK];congr 2;refine b6 λy O=>?_;rw[List.range_succ,List.any_append];by_cases d:y=(z+(j:Int)*s').toNat
    .rw[Ft d];have:(y:Int)=z+(j:Nat)*s':=by lia
     simp[this]
    .rw[Fs d];have:(List.any [j] λk=>decide ((y:Int)=z+(k:Nat)*s'))=false:=by simp;lia
     rw[this,Bool.or_false]
   .rintro σ U ⟨e',y',rfl,g⟩;refine⟨e',_,_,rfl,?_⟩;rw[g];congr 2;refine b6 λy O=>?_;rw[c];unfold fE;rw[List.any_append,Bool.or_assoc];congr 2;rw[E8,E7];simp only[List.mem_range,decide_eq_true_eq,List.any_cons,List.any_nil,Bool.or_false,E9,beq_iff_eq];constructor
    .rintro⟨k,hk,a6⟩;have hge:0<=(k:Int)*s':=E1 (by lia) (by lia);refine⟨by lia,?_⟩;rw[show (y:Int)-z=s'*(k:Int) by rw[Int.mul_comm];lia];exact Int.mul_emod_right _ _
    .rintro⟨W,X⟩;obtain⟨k,Y,Z⟩:=Cf (n:=n) hs W (by lia) X;exact⟨k,Y,Z⟩
  .rintro σ H4 ⟨e4,x',y',rfl,J⟩;rw[Ew,EZ]at J;walk_at"";refine q l H4 e4 B ?_;rw[J];congr 2;exact b6 λy _=>vU u.ok y
inductive pS(K:Eo)(vs:List V)(H:Hp)(Q:VK)(E:XK):Prop|mk:∀a b:Nat,vs=[.int a,.int b]->Q (.int (Nat.gcd a b:Nat)) H->pS K vs H Q E
theorem BB(T:Bu w mg base):Cal P w K mg base "greatest_divisor" 1 ["one","other"] (pS K):=by
 refine(bw T.d_greatest_divisor).oS ["one","other","great","small","over"] λg nd H vs Q E h=>?_;obtain⟨a,b,rfl,q⟩:=h;refine⟨_,(av (aG (i:=2) nd rfl oi (pv 0))
   (av (aG (i:=3) nd rfl oi (pv 1))
   (av (fA PassesOwn.never (aN eB (pv 3) af (aJ _)) (av (aG (i:=4) nd rfl oi (aA cw (pv 2) (pv 3)))
   (av (aG (i:=2) nd rfl oi (pv 3))
   (aw (aG (i:=3) nd rfl oi (pv 4))))))
   (aw (aD (pv 2)))))),?_⟩
 walk_at"";refine fo (λm σ H'=>H'=H/\∃(x y:Nat) (o:Option V),σ=[Vn (.int a),Vn (.int b),Vn (.int x),Vn (.int y),o]/\Nat.gcd x y=Nat.gcd a b/\m=y)
  (λσ H'=>H'=H/\∃(x:Nat) (s:St),σ=Vn (.int a)::Vn (.int b)::Vn (.int x)::s/\x=Nat.gcd a b) b ⟨rfl,a,b,Vo,rfl,rfl,rfl⟩ ?_ ?_
 .rintro m σ H' ⟨rfl,x,y,o,rfl,c,rfl⟩;walk_at"";by_cases d:(0:Int)<(m:Int)
  .rw[Fq d];refine aC ⟨_,λ_ _ h=>h,?_⟩;walk_at"";refine⟨x % m,Nat.mod_lt _ (by lia),rfl,m,x % m,_,rfl,by rw[Am,c],rfl⟩
  .rw[Fp d];have e:m=0:=by lia
   subst e;exact ax ⟨rfl,x,_,rfl,by rw[<-c,Nat.gcd_zero_right]⟩
 rintro σ H' ⟨rfl,x,s1,rfl,rfl⟩;walk_at"";exact q
def SN(H:Hp)(v:V)(b s:Nat)(o a:List Int):Prop:=cC H v b s o a/\Gd b s o a
theorem SN.ext{H H':Hp}(e:Ext H H'){v:V}{b s:Nat}{o a:List Int}(h:SN H v b s o a):SN H' v b s o a:=⟨h.1.ext e,h.2⟩
theorem SN.s1{b s:Nat}(h:SN H v b s o a):1<=s:=by have:=h.2.ok.hs;lia
theorem SN.s8{H:Hp}{v:V}{b s:Nat}{o a:List Int}(h:SN H v b s o a):s<=840:=by have:=h.2.s8;lia
theorem SN.b3{H:Hp}{v:V}{b s:Nat}{o a:List Int}(h:SN H v b s o a):b<=3000:=by have:=h.2.b3;lia
inductive vV(K:Eo)(vs:List V)(H:Hp)(Q:VK)(E:XK):Prop|mk:∀a b c s1 o1 d e s2 g h,vs=[a,b]->SN H a c s1 o1 d->SN H b e s2 g h->Q (.int (cm s1 s2:Nat)) H->vV K vs H Q E
theorem sF(T:Bu w mg base):Cal P w K mg base "common_step" 2 ["one","other"] (vV K):=by
 refine(bw T.d_common_step).oS ["one","other"] λb nd H vs Q E h=>?_;obtain⟨d,g,i,s1,o1,j,k,s2,l,m,rfl,h1,h2,q⟩:=h;have a:=h1.s1;have n:=h1.s8;have o:=h2.s1;have p:=h2.s8;obtain⟨⟨r,s,r1,rfl,k1,_,_⟩,_⟩:=h1;obtain⟨⟨p2,u,v,rfl,k2,_,_⟩,_⟩:=h2;refine⟨_,(aw (aD (aA eJ (aA me (ao (az K) (pv 0) af (λ_ _=>rfl)) (aB (BB T) b (ae (ao (az K) (pv 0) af (λ_ _=>rfl)) (ae (ao (az K) (pv 1) af (λ_ _=>rfl)) aa)))) (ao (az K) (pv 1) af (λ_ _=>rfl))))),?_⟩;walk_at"";refine ay (ah.of k1) rfl ?_;walk_at"";refine ay (ah.of k1) rfl ?_;walk_at"";refine ay (ah.of k2) rfl ?_;walk_at"";refine⟨s1,s2,rfl,?_⟩;have x:0<Nat.gcd s1 s2:=Nat.gcd_pos_of_pos_left s2 a;have c:Nat.gcd s1 s2<=s1:=Nat.le_of_dvd a (Nat.gcd_dvd_left s1 s2);refine rd_I (show(0:Int)<((Nat.gcd s1 s2:Nat):Int)/\((Nat.gcd s1 s2:Nat):Int)<2 ^ 64 by lia) ?_;walk_at"";refine ay (ah.of k2) rfl ?_;refine rd_I (show jm _ _ from .inr (by lia)) ?_;have e:((s1:Int) / ((Nat.gcd s1 s2:Nat):Int))*(s2:Int)=((cm s1 s2:Nat):Int):=by unfold cm;rw[Int.natCast_mul];rfl
 rw[e];exact q
def za{b s:Nat}(g:Gd b s o a):aW (fn b s o a) b s:=by have:=D1 g.ok;simpa using this
theorem oo{lo hi:Int}:∀{xs:List Int},gg lo hi xs->(xs.length:Int)<=max 0 (hi-lo)
 | [],_=>by simp;lia
 | x::r,h=>by obtain⟨h1,h2,a⟩:=qL.mp h;have:=oo a;rw[EY];lia
theorem DH(xs:List V):cH xs (Vn 1) Vo=xs.drop 1:=by
 unfold cH;rw[HT.l5];have e:HT.aR xs.length 0 (Vn 1)=min 1 xs.length:=rfl;rw[e];rcases Fh xs.length 1 with h|h
 .have:xs=[]:=List.eq_nil_of_length_eq_zero (by lia);subst this;rfl
 .rw[Nat.min_eq_left h];exact List.take_of_length_le (by rw[List.length_drop];exact ER _)
inductive qU(K:Eo)(vs:List V)(H:Hp)(Q:VK)(E:XK):Prop|mk:∀(p:Vb) (lo hi:Int) (xs:List Int),vs=[.ref p,.int lo,.int hi]->H p=Vn (.tup (xs.map V.int))->xs.length<=10000->gg lo hi xs->(∀H',Ext H H'->Q (.bl true) H')->qU K vs H Q E
theorem rZ(T:Bu w mg base):Cal P w K mg base "_law_rises" 2 ["_law_row","_law_low","_law_high"] (qU K):=by
 refine(ef T.d__law_rises).oS ["_law_row","_law_low","_law_high"] λJ nd H vs Q E h=>?_;obtain⟨p,lo,hi,xs,rfl,l,X,j,q⟩:=h;have L:fJ H (.ref p) "tuple":=.inr ⟨rfl,_,l⟩;refine⟨_,(av (aY (PW.pt (bJ (bB (a0 (aS c8 rfl T.isinstance_ PyProof.Rows.boot_isinstance (ae (pv 0) (ae (dh (v:=.ty "tuple") rfl T.tuple_ PyProof.Rows.boot_tuple rfl) aa))))) (b9 (bB (a0 (aS (ie K rfl) rfl T.all_ PyProof.Rows.boot_all (ae (cn ["_law_part"] [] (eZ K (pv 0)) (λ_=>(aI (i:=0) (show(["_law_part"]:List Vm).Nodup from by decide +kernel) rfl oi oj)) (λ_=>cz) (λ_=>(aB (ky T) J (ae (pv 0) aa)))) aa))))))) (aw (aD a7)) aQ)
   (aw (aD (cG (aS (ie K rfl) rfl T.all_ PyProof.Rows.boot_all (ae (cn ["_law_part"] [1,2] (eZ K (pv 0)) (λ_=>(aI (i:=0) (show(["_law_part","_law_low","_law_high"]:List Vm).Nodup from by decide +kernel) rfl oi oj)) (λ_=>cz) (λ_=>(jN fu dj (pv 1) (pv 0) (pv 2)))) aa)) (cQ (aS (ie K rfl) rfl T.all_ PyProof.Rows.boot_all (ae (cn ["_law_one","_law_two"] [] (uv K rfl T.zip_ (ae (pv 0) (ae (gU xH (pv 0) (fV af) ib) aa))) (λ_=>(fh (n:=2) K rfl (br (aI (i:=0) (show(["_law_one","_law_two"]:List Vm).Nodup from by decide +kernel) rfl oi oj) (br (aI (i:=1) (show(["_law_one","_law_two"]:List Vm).Nodup from by decide +kernel) rfl oi oj) eA)))) (λ_=>cz) (λ_=>(cY dj (pv 0) (pv 1) (aJ _)))) aa))))))),?_⟩
 walk_at"";refine cS L (b:=true) rfl ?_;walk_at"";refine ax ?_;walk_at"";refine eR (ah.of l) ?_;refine jv (xs:=xs.map V.int) (λi ys H'=>H'=H/\ys=(Ff i true).map V.bl) (bT (by rw[Ew];lia)) ⟨rfl,rfl⟩ ?_ ?_ ?_
 .rintro i ys H' _ ⟨rfl,rfl⟩;exact⟨ah.of l,by simp⟩
 .rintro i v ys H' d ⟨rfl,rfl⟩;obtain⟨x,rfl,m⟩:=fG d;walk_at"";refine aC ?_;walk_at"";refine⟨_,rfl,rfl,?_⟩;rw[List.replicate_succ',EM];rfl
 rintro ys H' k ⟨rfl,rfl⟩ o;have r:Ext H' (upd H' k (.lst ((Ff (xs.map V.int).length true).map V.bl))):=a8 o;have h1:(upd H' k (.lst ((Ff (xs.map V.int).length true).map V.bl))) k=_:=aK;generalize upd H' k (.lst ((Ff (xs.map V.int).length true).map V.bl))=H1 at r h1;walk_at"";refine⟨k,_,rfl,ag.of h1,?_⟩;rw[show (Ff (xs.map V.int).length true).all id=true by rw[E6];intro b hb;rw[List.eq_of_mem_replicate hb];rfl];walk_at"";refine ax ?_;walk_at"";have g:=r _ _ l;refine eR (ah.of g) ?_;refine jv (xs:=xs.map V.int) (λi ys H'=>H'=H1/\ys=(Ff i true).map V.bl) (bT (by rw[Ew];lia)) ⟨rfl,rfl⟩ ?_ ?_ ?_
 .rintro i ys H' _ ⟨rfl,rfl⟩;exact⟨ah.of g,by simp⟩
 .rintro i v ys H' d ⟨rfl,rfl⟩;obtain⟨x,rfl,m⟩:=fG d;have hb:=j.2 x (EF m);walk_at"";refine aC ?_;walk_at"";rw[Fq hb.1];refine aC ?_;walk_at"";rw[Fq hb.2];refine⟨rfl,?_⟩;rw[List.replicate_succ',EM];rfl
 rintro ys c p2 ⟨rfl,rfl⟩ s;have z:Ext c (upd c p2 (.lst ((Ff (xs.map V.int).length true).map V.bl))):=a8 s;have h2:(upd c p2 (.lst ((Ff (xs.map V.int).length true).map V.bl))) p2=_:=aK;generalize upd c p2 (.lst ((Ff (xs.map V.int).length true).map V.bl))=H2 at z h2;walk_at"";refine⟨p2,_,rfl,ag.of h2,?_⟩;rw[show (Ff (xs.map V.int).length true).all id=true by rw[E6];intro b hb;rw[List.eq_of_mem_replicate hb];rfl];walk_at"";refine aC ?_;walk_at"";have a:=z _ _ g;refine DW a λY F A B=>?_;rw[DH]at B;walk_at"";refine BZ (ah.of (A _ _ a)) (ah.of B) ?_;refine Ef (xs:=xs.map V.int) (ys:=(xs.map V.int).drop 1) (λi zs H'=>Ext F H'/\zs=(Ff i true).map V.bl) (bT (by rw[Ew];lia)) ⟨Ext.rfl' F,rfl⟩ ?_ ?_ ?_
 .rintro i zs H' ⟨e,rfl⟩;exact⟨ah.of (e _ _ (A _ _ a)),ah.of (e _ _ B),by simp⟩
 .rintro i u v zs H' Z H4 M G ⟨e,rfl⟩ N O R;obtain⟨x,rfl,m⟩:=fG M;rw[<-List.map_drop]at G;obtain⟨y,rfl,I⟩:=fG G;have hlt:x<y:=by rw[List.getElem?_drop]at I;obtain⟨S,rfl⟩:=EE.mp m;obtain⟨U,rfl⟩:=EE.mp I;exact List.pairwise_iff_getElem.mp j.1 i (1+i) S U (by lia)
  refine eS (ah.of O) rfl ?_;walk_at"";refine aC ?_;walk_at"";rw[Fq hlt];refine⟨e.trans N,?_⟩;rw[List.replicate_succ',EM];rfl
 rintro zs H' W ⟨e,rfl⟩ C;walk_at"";refine⟨W,_,rfl,ag.of aK,?_⟩;rw[show ∀n:Nat,(Ff n true).all id=true from λn=>by rw[E6];intro b hb;rw[List.eq_of_mem_replicate hb];rfl];exact q _ (r.trans (z.trans (A.trans (e.trans (a8 C)))))
structure Gx(b s:Int)(o a:List Int):Prop where
 ok:Ok b s o a
 bs:b+s<=10000
theorem Gx.lo{b:Int}(g:Gx b s o a):o.length<=10000:=by have:=oo g.ok.ho;have:=g.bs;have:=g.ok.hb;have:=g.ok.hs;lia
theorem Gx.la{b:Int}(g:Gx b s o a):a.length<=10000:=by have:=oo g.ok.ha;have:=g.bs;have:=g.ok.hs;have:=g.ok.hb;lia
inductive tR(K:Eo)(vs:List V)(H:Hp)(Q:VK)(E:XK):Prop|mk:∀v b s o a,vs=[v]->cC H v b s o a->Gx b s o a->(∀H',Ext H H'->Q (.bl true) H')->tR K vs H Q E
theorem y6(T:Bu w mg base):Cal P w K mg base "_law_is_stair" 3 ["_law_found"] (tR K):=by
 refine(ck T.d__law_is_stair).oS ["_law_found"] λe nd H vs Q E h=>?_;obtain⟨v,b,s',o,a,rfl,⟨p,g,r,rfl,h1,h2,i⟩,c,q⟩:=h;have j:=c.ok.hb;have k:=c.ok.hs;have lo:=c.lo;have la:=c.la;have l:fJ H (.ref p) "tuple":=.inr ⟨rfl,_,h1⟩;refine⟨_,(av (aY (PW.pt (bJ (bB (a0 (aS c8 rfl T.isinstance_ PyProof.Rows.boot_isinstance (ae (pv 0) (ae (dh (v:=.ty "tuple") rfl T.tuple_ PyProof.Rows.boot_tuple rfl) aa))))) (b9 (aN dY (aS (cq K) rfl T.len_ PySem.boot_len (ae (pv 0) aa)) af (aJ _))))) (aw (aD a7)) aQ)
   (av (aY (PW.pt (bJ (bB (a0 (aB (ky T) e (ae (ao (az K) (pv 0) af (λ_ _=>rfl)) aa)))) (b9 (bB (a0 (aB (ky T) e (ae (ao (az K) (pv 0) af (λ_ _=>rfl)) aa))))))) (aw (aD a7)) aQ)
   (av (aY (PW.pt (bJ (aN dj (ao (az K) (pv 0) af (λ_ _=>rfl)) af (aJ _)) (bJ (aN dj (ao (az K) (pv 0) af (λ_ _=>rfl)) af (aJ _)) (b9 (bB (a0 (aB (rZ T) e (ae (ao (az K) (pv 0) af (λ_ _=>rfl)) (ae af (ae (ao (az K) (pv 0) af (λ_ _=>rfl)) aa)))))))))) (aw (aD a7)) aQ)
   (aw (aD (aB (rZ T) e (ae (ao (az K) (pv 0) af (λ_ _=>rfl)) (ae (ao (az K) (pv 0) af (λ_ _=>rfl)) (ae (aA aV (ao (az K) (pv 0) af (λ_ _=>rfl)) (ao (az K) (pv 0) af (λ_ _=>rfl))) aa))))))))),?_⟩
 walk_at"";refine cS l (b:=true) rfl ?_;walk_at"";refine ax ?_;walk_at"";refine gK (ah.of h1) ?_;walk_at"";refine ax ?_;walk_at"";refine ay (ah.of h1) rfl ?_;walk_at"";refine⟨_,rfl,?_⟩;walk_at"";refine ax ?_;walk_at"";refine ay (ah.of h1) rfl ?_;walk_at"";refine⟨_,rfl,?_⟩;walk_at"";refine ax ?_;walk_at"";refine ay (ah.of h1) rfl ?_;walk_at"";rw[Fp (show ¬b<0 by lia)];refine ax ?_;walk_at"";refine ay (ah.of h1) rfl ?_;walk_at"";rw[Fp (show ¬s'<1 by lia)];refine ax ?_;walk_at"";refine ay (ah.of h1) rfl ?_;walk_at"";refine ay (ah.of h1) rfl ?_;walk_at"";refine⟨g,0,b,o,rfl,h2,by lia,c.ok.ho,λH1 d=>?_⟩;walk_at"";refine ax ?_;walk_at"";refine ay (ah.of (d _ _ h1)) rfl ?_;walk_at"";refine ay (ah.of (d _ _ h1)) rfl ?_;walk_at"";refine ay (ah.of (d _ _ h1)) rfl ?_;walk_at"";refine ay (ah.of (d _ _ h1)) rfl ?_;walk_at"";refine⟨r,b,b+s',a,rfl,d _ _ i,by lia,c.ok.ha,λH2 m=>?_⟩;exact q H2 (d.trans m)
structure StT where
 b:Nat
 s:Nat
 o:List Int
 a:List Int
abbrev StT.f(t:StT):Nat->Bool:=fn t.b t.s t.o t.a
abbrev iD(H:Hp)(v:V)(t:StT):Prop:=SN H v t.b t.s t.o t.a
abbrev eW(H:Hp)(vs:List V)(ts:List StT):Prop:=Paired (iD H) vs ts
theorem eW.ext{H H':Hp}(e:Ext H H'):∀{vs:List V} {ts:List StT},eW H vs ts->eW H' vs ts
 | _,_,.nil=>.nil
 | _,_,.cons h t=>.cons (h.ext e) (eW.ext e t)
theorem eW.len{H:Hp}:∀{vs:List V} {ts:List StT},eW H vs ts->vs.length=ts.length
 | _,_,.nil=>rfl
 | _,_,.cons _ t=>by rw[EY,EY,eW.len t]
inductive rV(K:Eo)(vs:List V)(H:Hp)(Q:VK)(E:XK):Prop|mk:∀v t,vs=[v]->iD H v t->Q (.bl true) H->rV K vs H Q E
def Bi(T:Bu w mg base):Cal P w K mg base "is_near_stair" 5 ["thing"] (rV K):=by obtain⟨d,a⟩:=T.g_GREATEST_STEP;obtain⟨e,c⟩:=T.g_GREATEST_BASE;refine(ck T.d_is_near_stair).oS ["thing"] λj nd H vs Q E h=>?_;obtain⟨v,t,rfl,g,q⟩:=h;have k:=g.2.b3;have l:=g.2.s8;obtain⟨p,_,_,rfl,i,_,_⟩:=id g.1;refine⟨_,(aw (aD (cG (aB (pz T) j (ae (pv 0) aa)) (cG (cY fu (ao (az K) (pv 0) af (λ_ _=>rfl)) (gL (v:=.int 3000) rfl c ⟨_,rfl⟩) (aJ _)) (cQ (cY fu (ao (az K) (pv 0) af (λ_ _=>rfl)) (gL (v:=.int 840) rfl a ⟨_,rfl⟩) (aJ _))))))),?_⟩;walk_at"";refine⟨_,_,_,_,_,rfl,g.1,g.2.ok,?_⟩;refine rd_exb (aC ?_);walk_at"";refine ay (ah.of i) (v:=.int (t.b:Nat)) rfl ?_;walk_at"";rw[Fq k];refine aC ?_;walk_at"";refine ay (ah.of i) (v:=.int (t.s:Nat)) rfl ?_;walk_at"";rw[Fq l];exact q
def steps(ts:List StT):Prop:=∀x∈ts,∀y∈ts,cm x.s y.s<=840
def yT(n:Nat):(Ff n false).any id=false:=by
 induction n with
 | zero=>rfl
 | succ n a=>rw[List.replicate_succ,List.any_cons,a];rfl
def qB(n:Nat):(Ff n true).all id=true:=by
 induction n with
 | zero=>rfl
 | succ n a=>rw[List.replicate_succ,List.all_cons,a];rfl
def nj(n:Nat)(c:Bool):(Ff n c).map V.bl++[V.bl c]=(Ff (n+1) c).map V.bl:=by rw[List.replicate_succ',EM];rfl
inductive xc(K:Eo)(vs:List V)(H:Hp)(Q:VK)(E:XK):Prop|mk:∀l xs ts,vs=[.ref l]->H l=Vn (.lst xs)->eW H xs ts->xs.length<=1000->steps ts->(∀H',Ext H H'->Q (.bl true) H')->xc K vs H Q E
theorem Cv(T:Bu w mg base):Cal P w K mg base "are_near_steps" 3 ["stairs"] (xc K):=by
 obtain⟨d,c⟩:=T.g_GREATEST_STEP;refine(ck T.d_are_near_steps).oS ["stairs","one"] λz nd H vs Q E h=>?_;obtain⟨l,xs,ts,rfl,m,hs,I,r,q⟩:=h;refine⟨_,(av (bt PassesOwn.never rfl (bP K (pv 0)) (aI (i:=1) nd rfl oj) (aw (aY (a0 (aS (lM K rfl) rfl T.any_ PyProof.Rows.boot_any (ae (cn ["other"] [1] (bP K (pv 0)) (λ_=>(aI (i:=0) (show(["other","one"]:List Vm).Nodup from by decide +kernel) rfl oi oj)) (λ_=>cz) (λ_=>(cY eB (aB (sF T) z (ae (pv 1) (ae (pv 0) aa))) (gL (v:=.int 840) rfl c ⟨_,rfl⟩) (aJ _)))) aa))) (aw (aD a7)) aQ)))
   (aw (aD a7))),?_⟩
 walk_at"";refine bO (ag.of m) ?_;refine forL (xs:=xs) (λi σ H'=>Ext H H'/\∃w,σ=[Vn (.ref l),w]) ⟨Ext.rfl' _,_,rfl⟩ (λi σ H' _ h=>ag.of (h.1 _ _ m)) ?_ ?_
 .rintro i v σ H1 A ⟨n,w,rfl⟩;obtain⟨t,B,u⟩:=cV hs A;walk_at"";refine bO (ag.of (n _ _ m)) ?_;refine dP (xs:=xs) (λj ys H'=>Ext H H'/\ys=(Ff j false).map V.bl) (dQ (by lia)) ⟨n,rfl⟩ (λj ys H' _ h=>⟨ag.of (h.1 _ _ m),by rw[h.2,Ew,List.length_replicate];exact ER _⟩) ?_ ?_
  .rintro j C ys H2 x ⟨g,rfl⟩;obtain⟨e,y,k⟩:=cV hs x;have J:=r t (EF B) e (EF y);walk_at"";refine aC ?_;walk_at"";refine⟨v,C,t.b,t.s,t.o,t.a,e.b,e.s,e.o,e.a,rfl,u.ext g,k.ext g,?_⟩;walk_at"";rw[Fp (show ¬(840:Int)<((cm t.s e.s:Nat):Int) by lia)];exact⟨g,nj j false⟩
  .rintro ys H2 p ⟨g,rfl⟩ F;have G:=g.trans (a8 (o:=.lst ((Ff xs.length false).map V.bl)) F);walk_at"";refine⟨p,_,rfl,ag.of aK,?_⟩;refine⟨_,rfl,?_⟩;rw[yT];refine ax ?_;walk_at"";exact⟨G,_,rfl⟩
 .rintro σ H1 ⟨n,w,rfl⟩;walk_at"";exact q H1 n
def i7(H:Hp)(m:Int)(tv:V)(ts:List StT):Prop:=∃l xs,tv=.ref l/\H l=Vn (.lst xs)/\xs.length<=1000/\(xs.length:Int)=m/\eW H xs ts/\steps ts
theorem i7.ext{H H':Hp}(e:Ext H H'){m:Int}{tv:V}{ts:List StT}(h:i7 H m tv ts):i7 H' m tv ts:=by obtain⟨l,xs,rfl,a,h⟩:=h;exact⟨l,xs,rfl,e _ _ a,h.1,h.2.1,h.2.2.1.ext e,h.2.2.2⟩
inductive uZ(K:Eo)(vs:List V)(H:Hp)(Q:VK)(E:XK):Prop|mk:∀a b m tv ts,vs=[.ref a,tv]->H a=Vn (.tup [.int m,b])->i7 H m tv ts->(∀H',Ext H H'->Q (.bl true) H')->uZ K vs H Q E
def Bx(T:Bu w mg base):Cal P w K mg base "are_stairs_for" 6 ["house","thing"] (uZ K):=by
 refine(bw T.d_are_stairs_for).oS ["house","thing"] λk nd H vs Q E h=>?_;obtain⟨z,A,m,tv,ts,rfl,r,⟨l,xs,rfl,a,hlen,s,hs,c⟩,q⟩:=h;refine⟨_,(av (aY (PW.pt (bJ (bB (a0 (aS c8 rfl T.isinstance_ PyProof.Rows.boot_isinstance (ae (pv 1) (ae (dh (v:=.ty "list") rfl T.list_ PyProof.Rows.boot_list rfl) aa))))) (b9 (aN dY (aS (cq K) rfl T.len_ PySem.boot_len (ae (pv 1) aa)) (ao (az K) (pv 0) af (λ_ _=>rfl)) (aJ _))))) (aw (aD a7)) aQ)
   (aw (aD (cG (aS (ie K rfl) rfl T.all_ PyProof.Rows.boot_all (ae (cn ["stair"] [] (bP K (pv 1)) (λ_=>(aI (i:=0) (show(["stair"]:List Vm).Nodup from by decide +kernel) rfl oi oj)) (λ_=>cz) (λ_=>(aB (Bi T) k (ae (pv 0) aa)))) aa)) (cQ (aB (Cv T) k (ae (pv 1) aa))))))),?_⟩
 walk_at"";refine cS (n:="list") (.inl ⟨rfl,xs,a⟩) (b:=true) rfl ?_;walk_at"";refine ax ?_;walk_at"";refine dU (ag.of a) ?_;walk_at"";refine ay (ah.of r) (v:=.int m) rfl ?_;walk_at"";rw[Fq s];refine ax ?_;walk_at"";refine bO (ag.of a) ?_;refine dP (xs:=xs) (λj ys H'=>H'=H/\ys=(Ff j true).map V.bl) (dQ (by omega)) ⟨rfl,rfl⟩ (λj ys H' _ h=>⟨by rw[h.1];exact ag.of a,by rw[h.2,Ew,List.length_replicate];exact ER _⟩) ?_ ?_
 .rintro j v ys H2 u ⟨rfl,rfl⟩;obtain⟨t,_,x⟩:=cV hs u;walk_at"";refine aC ?_;walk_at"";exact⟨v,t,rfl,x,rfl,nj j true⟩
 .rintro ys H2 p ⟨y,rfl⟩ d;subst y;have g:=a8 (o:=.lst ((Ff xs.length true).map V.bl)) d;walk_at"";refine⟨p,_,rfl,ag.of aK,?_⟩;rw[qB];refine rd_exb (aC ?_);walk_at"";exact⟨l,xs,ts,rfl,g _ _ a,hs.ext g,hlen,c,λH' e=>q H' (g.trans e)⟩
inductive sZ(K:Eo)(vs:List V)(H:Hp)(Q:VK)(E:XK):Prop|mk:∀p x a b m,vs=[.ref p,.ref a]->aE H p x->H a=Vn (.tup [.int m,b])->cA m x->Q (.bl true) H->sZ K vs H Q E
def oT(T:Bu w mg base):Cal P w K mg base "is_near_place" 3 ["thing","house"] (sZ K):=by
 obtain⟨c,a⟩:=T.g_GREATEST_NUMBER;refine(bw T.d_is_near_place).oS ["thing","house"] λe nd H vs Q E h=>?_;obtain⟨p,x,o,r,m,rfl,d,g,⟨i,j,k,l⟩,q⟩:=h;refine⟨_,(av (aY (PW.pt (bJ (bB (a0 (aS c8 rfl T.isinstance_ PyProof.Rows.boot_isinstance (ae (pv 0) (ae (dh (v:=.ty "tuple") rfl T.tuple_ PyProof.Rows.boot_tuple rfl) aa))))) (b9 (aN dY (aS (cq K) rfl T.len_ PySem.boot_len (ae (pv 0) aa)) af (aJ _))))) (aw (aD a7)) aQ)
   (aw (aD (cG (aB (j9 T) e (ae (ao (az K) (pv 0) af (λ_ _=>rfl)) (ae (ao (az K) (pv 1) af (λ_ _=>rfl)) aa))) (cG (aB (jb T) e (ae (ao (az K) (pv 0) af (λ_ _=>rfl)) aa)) (cQ (jN fu fu af (ao (az K) (pv 0) af (λ_ _=>rfl)) (gL (v:=.int 1000) rfl a ⟨_,rfl⟩)))))))),?_⟩
 walk_at"";refine cS (n:="tuple") (.inr ⟨rfl,_,d⟩) (b:=true) rfl ?_;walk_at"";refine ax ?_;walk_at"";refine gK (ah.of d) ?_;walk_at"";refine ax ?_;walk_at"";refine ay (ah.of d) (v:=.int x.1) rfl ?_;walk_at"";refine ay (ah.of g) (v:=.int m) rfl ?_;walk_at"";refine⟨_,_,rfl,i,j,?_⟩;walk_at"";refine aC ?_;walk_at"";refine ay (ah.of d) (v:=.int x.2) rfl ?_;walk_at"";refine⟨_,"int",rfl,rfl,?_⟩;walk_at"";refine aC ?_;walk_at"";refine ay (ah.of d) (v:=.int x.2) rfl ?_;walk_at"";rw[Fq k];refine aC ?_;walk_at"";rw[Fq l];exact q
inductive qN(K:Eo)(vs:List V)(H:Hp)(Q:VK)(E:XK):Prop|mk:∀v x b s o a,vs=[v,.int x]->cC H v b s o a->Gd b s o a->Q (.bl (mem b s o a x)) H->qN K vs H Q E
theorem oZ(T:Bu w mg base):Cal P w K mg base "_law_holds" 1 ["_law_stair","_law_x"] (qN K):=by
 refine(bw T.d__law_holds).oS ["_law_stair","_law_x","_law_base","_law_step","_law_once","_law_again"] λj nd H vs Q E h=>?_;obtain⟨v,x,b,s',o,a,rfl,d,e,q⟩:=h;have hs:=e.ok.hs;obtain⟨p,k,r,rfl,h1,h2,g⟩:=d;refine⟨_,(av (eM (pv 0) (fh (n:=4) K rfl (br (aI (i:=2) nd rfl oi) (br (aI (i:=3) nd rfl oi) (br (aI (i:=4) nd rfl oi) (br (aI (i:=5) nd rfl oi) eA))))))
   (av (aY (aN dj (pv 1) (pv 2) (aJ _)) (aw (aD (cY (kn K) (pv 1) (pv 4) (by with_unfolding_all rfl)))) aQ)
   (aw (aD (cY (kn K) (aA aV (pv 2) (aA cw (aA de (pv 1) (pv 2)) (pv 3))) (pv 5) (by with_unfolding_all rfl)))))),?_⟩
 walk_at"";refine eS (ah.of h1) rfl ?_;walk_at"";by_cases c:x<b
 .rw[Fq c];refine aC ?_;walk_at"";refine lJ (.inr (ah.of h2)) rfl (kF o) ?_;rw[j8 _ c]at q;rw[kz];exact q
 .rw[Fp c];refine ax ?_;walk_at"";refine lJ (.inr (ah.of g)) rfl (kF a) ?_;rw[jj _ (by lia)]at q;rw[kz];exact q
def fM(d:Vm)(f g:Nat->Bool):Prop:=
 if d = "zero" then f 0=true/\g 0=false else if d = "up" then ∃x,f x=true/\g (x+1)=false else if d = "down" then ∃x,f (x+1)=true/\g x=false else ∃x,f x=true/\g x=false
theorem ly{f:Nat->Bool}{b i j:Nat}(hd:1<=d)(a:aW f b d)(c:aW g b d):∀(n x:Nat),x<=n->f (x+i)=true->g (x+j)=false->∃y,y<b+d/\f (y+i)=true/\g (y+j)=false:=by
 intro n;induction n with
 | zero=>
  intro x e h1 h2;exact⟨x,by lia,h1,h2⟩
 | succ n k=>
  intro x e h1 h2;by_cases h:x<b+d
  .exact⟨x,h,h1,h2⟩
  .refine k (x-d) (by lia) ?_ ?_
   .rw[<-a (x-d+i) (by lia),show x-d+i+d=x+i by lia];exact h1
   .rw[<-c (x-d+j) (by lia),show x-d+j+d=x+j by lia];exact h2
def AW(n:Nat)(p:Nat->Bool):((Fo n).map p).any id=true↔∃x,x<n/\p x=true:=by rw[List.any_map,E7];simp
def SN.per{b s:Nat}(h:SN H v b s o a):aW (fn b s o a) b s:=za h.2
def ve{f:Nat->Bool}{b s t:Nat}(h:aW f b s)(a:b<=c):aW f c (cm s t):=by rw[mN];exact(h.mono a).times _
def rM{f:Nat->Bool}{b s t:Nat}(h:aW f b t)(a:b<=c):aW f c (cm s t):=by rw[xG,mN];exact(h.mono a).times _
theorem y9{f:Nat->Bool}{b i j:Nat}(hd:1<=d)(a:aW f b d)(c:aW g b d)(e:b+d<=n):(∃x,x<n/\(f (i+x) && !g (j+x))=true)↔∃x,f (x+i)=true/\g (x+j)=false:=by
 constructor
 .rintro⟨x,_,h⟩;rw[E9,Bool.not_eq_true']at h;exact⟨x,by rw[Nat.add_comm];exact h.1,by rw[Nat.add_comm];exact h.2⟩
 .rintro⟨x,h1,h2⟩;obtain⟨y,k,h1,h2⟩:=ly (i:=i) (j:=j) hd a c x x (ER _) h1 h2;refine⟨y,by lia,?_⟩;rw[Nat.add_comm i y,Nat.add_comm j y,h1,h2];rfl
inductive uM(K:Eo)(vs:List V)(H:Hp)(Q:VK)(E:XK):Prop|mk:∀c w d e a b,vs=[.ref c,d,e]->H c=Vn (.tup (Way.vs w))->bY w.deed->iD H d a->iD H e b->cm a.s b.s<=840->(∀r H',Ext H H'->(r=true↔fM w.deed a.f b.f)->Q (.bl r) H')->uM K vs H Q E
theorem xS(T:Bu w mg base):Cal P w K mg base "is_left_by" 8 ["way","one","other"] (uM K):=by
 refine(ef T.d_is_left_by).oS ["way","one","other","raised","end","starts","ends"] λm nd H vs Q E h=>?_;obtain⟨wb,w,v1,v2,c,g,rfl,Z,hd,h1,h2,hc,q⟩:=h;have x1:=h1.b3;have x2:=h2.b3;have c1:=ui h1.s1 h2.s1;have p1:=ve (t:=g.s) h1.per (Nat.le_max_left c.b g.b);have p2:=rM (s:=c.s) h2.per (Nat.le_max_right c.b g.b);refine⟨_,(av (aY (aN bH (ao (az K) (pv 0) af (λ_ _=>rfl)) aU (aJ _)) (aw (aD (cG (aB (kM T) m (ae (pv 1) (ae af aa))) (cQ (iF (aB (kM T) m (ae (pv 2) (ae af aa)))))))) aQ)
   (av (aG (i:=3) nd rfl oi (aB (wc T) m (ae (pv 0) aa)))
   (av (aG (i:=4) nd rfl oi (aA aV (aA aV (aS (jC rfl) rfl T.max_ PyProof.Rows.boot_max (ae (ao (az K) (pv 1) af (λ_ _=>rfl)) (ae (ao (az K) (pv 2) af (λ_ _=>rfl)) aa))) af) (aB (sF T) m (ae (pv 1) (ae (pv 2) aa)))))
   (av (aG (i:=5) nd rfl oi (gU (iw K) (aB (vq T) m (ae (pv 1) (ae (pv 4) aa))) (fV (aS (jC rfl) rfl T.max_ PyProof.Rows.boot_max (ae af (ae (gR gY (pv 3)) aa)))) ib))
   (av (aG (i:=6) nd rfl oi (gU (iw K) (aB (vq T) m (ae (pv 2) (ae (aA aV (pv 4) af) aa))) (fV (aS (jC rfl) rfl T.max_ PyProof.Rows.boot_max (ae af (ae (pv 3) aa)))) ib))
   (aw (aD (aS (lM K rfl) rfl T.any_ PyProof.Rows.boot_any (ae (cn ["start","there"] [] (uv K rfl T.zip_ (ae (pv 5) (ae (pv 6) aa))) (λ_=>(fh (n:=2) K rfl (br (aI (i:=0) (show(["start","there"]:List Vm).Nodup from by decide +kernel) rfl oi oj) (br (aI (i:=1) (show(["start","there"]:List Vm).Nodup from by decide +kernel) rfl oi oj) eA)))) (λ_=>cz) (λ_=>(cG (pv 0) (cQ (iF (pv 1)))))) aa))))))))),?_⟩
 walk_at"";refine ay (ah.of Z) (v:=.str w.deed) rfl ?_;walk_at"";refine cb (rd_exb ?_);by_cases B:w.deed = "zero"
 .rw[Fq B];refine aC ?_;walk_at"";refine⟨v1,0,_,_,_,_,rfl,h1.1,h1.2,?_⟩;have R:mem c.b c.s c.o c.a 0=c.f 0:=rfl;have S:mem g.b g.s g.o g.a 0=g.f 0:=rfl;refine rd_exb ?_;have hq:∀r,(r=true↔c.f 0=true/\g.f 0=false)->Q (.bl r) H:=λr m=>q r H (Ext.rfl' _) (by rw[m];unfold fM;rw[Ft B]);rw[R];cases C:c.f 0 with
  | false=>
   refine ax ?_;exact hq false (by simp[C])
  | true=>
   refine aC ?_;walk_at"";refine⟨v2,0,_,_,_,_,rfl,h2.1,h2.2,?_⟩;walk_at"";rw[S];exact hq _ (by simp[C])
 .rw[Fp B];refine ax ?_;walk_at"";refine⟨wb,w,rfl,Z,hd,?_⟩;obtain⟨q1,_,_,rfl,k1,_,_⟩:=id h1.1;obtain⟨q2,_,_,rfl,k2,_,_⟩:=id h2.1;walk_at"";refine ay (ah.of k1) rfl ?_;walk_at"";refine ay (ah.of k2) rfl ?_;walk_at"";have em:(if(g.b:Int)>(c.b:Int)then(g.b:Int)else(c.b:Int))=((max c.b g.b:Nat):Int):=by split<;>lia
  rw[em];refine⟨_,_,c.b,c.s,c.o,c.a,g.b,g.s,g.o,g.a,rfl,h1,h2,?_⟩;walk_at"";have r1:=wN w.deed;have r2:=uk w.deed;refine⟨_,((max c.b g.b:Nat):Int)+1+((cm c.s g.s:Nat):Int),c.b,c.s,c.o,c.a,rfl,h1.1,h1.2,by lia,by lia,λm1 H1 R a1 F=>?_⟩;rw[show (((max c.b g.b:Nat):Int)+1+((cm c.s g.s:Nat):Int)).toNat=max c.b g.b+cm c.s g.s+1 by lia]at F;walk_at"";refine ij (ag.of F) (cF λl1 H2 S z _=>?_);generalize j:(if -rz w.deed>0 then -rz w.deed else 0)=p at z ⊢;have G:0<=p/\p<=1:=by rw[<-j];split<;>lia
  rw[lD G.1 (by lia)]at z;have I:=R.trans S;walk_at"";refine⟨_,((max c.b g.b:Nat):Int)+1+((cm c.s g.s:Nat):Int)+1,g.b,g.s,g.o,g.a,rfl,h2.1.ext I,h2.2,by omega,by omega,λm2 H3 e3 a2 J=>?_⟩;rw[show (((max c.b g.b:Nat):Int)+1+((cm c.s g.s:Nat):Int)+1).toNat=max c.b g.b+cm c.s g.s+2 by omega]at J;walk_at"";refine ij (ag.of J) (cF λl2 H4 e4 x _=>?_);generalize l:(if rz w.deed>0 then rz w.deed else 0)=A at x ⊢;have L:0<=A/\A<=1:=by rw[<-l];split<;>omega
  rw[lD L.1 (by omega)]at x;have y:=(e3.trans e4) _ _ z;have U:=I.trans (e3.trans e4);walk_at"";refine Bp (ag.of y) (ag.of x) ?_;refine BY (λi zs H'=>Ext H4 H'/\zs=((Fo i).map λk=>c.f (p.toNat+k) && !g.f (A.toNat+k)).map V.bl) (bT (by rw[bW];omega)) ⟨Ext.rfl' _,rfl⟩ (λi zs H' h=>⟨ag.of (h.1 _ _ y),ag.of (h.1 _ _ x),by rw[h.2,Ew,Ew,List.length_range];exact ER _⟩) ?_ ?_
  .rintro i u v zs H5 p4 H6 W X ⟨e,rfl⟩ e6 h6 a3;have M:=(EE.mp W).1;have N:=(EE.mp X).1;rw[bW]at M N;rw[fF _ M]at W;rw[fF _ N]at X;cases W;cases X;refine eS (ah.of h6) rfl ?_;walk_at"";refine aC ?_;walk_at"";have O:((Fo (i+1)).map λk=>c.f (p.toNat+k) && !g.f (A.toNat+k)).map V.bl=((Fo i).map λk=>c.f (p.toNat+k) && !g.f (A.toNat+k)).map V.bl++[V.bl (c.f (p.toNat+i) && !g.f (A.toNat+i))]:=by rw[List.range_succ,EM,EM];rfl
   cases C:fn c.b c.s c.o c.a (p.toNat+i)with
   | false=>
    refine ax ?_;refine⟨e.trans e6,?_⟩;rw[O,show c.f (p.toNat+i)=false from C];rfl
   | true=>
    refine aC ?_;walk_at"";refine⟨e.trans e6,?_⟩;rw[O,show c.f (p.toNat+i)=true from C];rfl
  .rintro zs H5 p4 ⟨e,rfl⟩ Y;rw[bW,bW];walk_at"";refine⟨p4,_,rfl,ag.of aK,?_⟩;refine q _ _ (U.trans (e.trans (a8 Y))) ?_;rw[AW];unfold fM;rw[Fs B];rw[y9 (b:=max c.b g.b) (d:=cm c.s g.s) c1 p1 p2 (by omega)];rcases hd with hd|hd|hd|hd
   .have m:rz w.deed=1:=by rw[hd];decide +kernel
    rw[m]at j l;rw[Ft hd,<-j,<-l];exact Iff.rfl
   .have m:rz w.deed = -1:=by rw[hd];decide +kernel
    rw[m]at j l;rw[Fs (by rw[hd];decide +kernel),Ft hd,<-j,<-l];exact Iff.rfl
   .have m:rz w.deed=0:=by rw[hd];decide +kernel
    rw[m]at j l;rw[Fs (by rw[hd];decide +kernel),Fs (by rw[hd];decide +kernel),<-j,<-l];exact Iff.rfl
   .exact absurd hd B
def cls(ws:List Way)(ts:List StT):Prop:=∀w∈ws,∀a b,ts[w.room.toNat]?=Vn a->ts[w.other.toNat]?=Vn b->¬fM w.deed a.f b.f
def iM{i:Int}(a:0<=i)(h:xs[i.toNat]?=Vn v):bx xs i=Vn v:=dZ a h
inductive sj(K:Eo)(vs:List V)(H:Hp)(Q:VK)(E:XK):Prop|mk:∀v tv m ws ts,vs=[v,tv]->bh H v m ws->HOuse m ws->i7 H m tv ts->(∀r H',Ext H H'->(r=true↔cls ws ts)->Q (.bl r) H')->sj K vs H Q E
theorem AO(T:Bu w mg base):Cal P w K mg base "sees_closed" 9 ["house","stairs"] (sj K):=by
 refine(bw T.d_sees_closed).oS ["house","stairs"] λj nd H vs Q E h=>?_;obtain⟨v,tv,m,ws,ts,rfl,R,ok,S,q⟩:=h;refine⟨_,(av (aY (PW.pt (bJ (bB (a0 (aB (wx T) j (ae (pv 0) aa)))) (b9 (bB (a0 (aB (Bx T) j (ae (pv 0) (ae (pv 1) aa)))))))) (aw (aD a7)) aQ)
   (aw (aD (iF (aS (lM K rfl) rfl T.any_ PyProof.Rows.boot_any (ae (cn ["way"] [1] (eZ K (ao (az K) (pv 0) af (λ_ _=>rfl))) (λ_=>(aI (i:=0) (show(["way","stairs"]:List Vm).Nodup from by decide +kernel) rfl oi oj)) (λ_=>cz) (λ_=>(aB (xS T) j (ae (pv 0) (ae (ao (aM K) (pv 1) (ao (az K) (pv 0) af (λ_ _=>rfl)) (λ_ _=>rfl)) (ae (ao (aM K) (pv 1) (ao (az K) (pv 0) af (λ_ _=>rfl)) (λ_ _=>rfl)) aa)))))) aa)))))),?_⟩
 walk_at"";refine⟨v,m,ws,rfl,R,ok,λH1 F=>?_⟩;walk_at"";refine ax ?_;walk_at"";obtain⟨hp,U,rfl,W,hw⟩:=id (R.ext F);refine⟨hp,.ref U,m,tv,ts,rfl,W,S.ext F,λH2 G=>?_⟩;have y:=F.trans G;obtain⟨bs,z,hal⟩:=bX.al (hw.ext G);obtain⟨l,xs,rfl,X,hn,hm,hs,ht⟩:=S.ext y;have Y:=ok.few;have A:bs.length=ws.length:=hal.1;walk_at"";refine ax ?_;walk_at"";refine ay (ah.of (G _ _ W)) (v:=.ref U) rfl ?_;walk_at"";refine eR (ah.of z) ?_;refine jv (xs:=bs.map V.ref) (λi ys H'=>Ext H2 H'/\∃rs:List Bool,ys=rs.map V.bl/\rs.length=i/\(rs.any id=true↔¬cls (ws.take i) ts)) (dQ (by rw[Ew];lia)) ⟨Ext.rfl' _,[],rfl,rfl,?_⟩ ?_ ?_ ?_
 .simp[cls]
 .rintro i ys H' _ ⟨e,rs,rfl,j,_⟩;exact⟨ah.of (e _ _ z),by rw[Ew,j];exact ER _⟩
 .rintro i x ys H3 Z ⟨k,rs,rfl,j,a⟩;rw[Ey]at Z;obtain⟨b,hb,rfl⟩:=EH.mp Z;have hi:i<ws.length:=by rw[<-A];exact(EE.mp hb).1
  have d:ws[i]?=Vn ws[i]:=Ex hi;have g:=k _ _ (hal.2 i b _ hb d);generalize ws[i]=w at d g;have c:=ok.ok w (EF d);have o1:=c.r0;have o2:=c.r1;have o3:=c.o0;have o4:=c.o1;have g1:w.room.toNat<xs.length:=by lia
  have g2:w.other.toNat<xs.length:=by lia
  obtain⟨I,n,J⟩:=cV hs (Ex g1);obtain⟨L,o,M⟩:=cV hs (Ex g2);walk_at"";refine aC ?_;walk_at"";refine ay (ah.of g) (v:=.int w.room) rfl ?_;walk_at"";refine aL (ag.of (k _ _ X)) (iM o1 (Ex g1)) ?_;walk_at"";refine ay (ah.of g) (v:=.int w.other) rfl ?_;walk_at"";refine aL (ag.of (k _ _ X)) (iM o3 (Ex g2)) ?_;walk_at"";refine⟨b,w,_,_,I,L,rfl,g,c.dd,J.ext k,M.ext k,?_,λr H4 e4 N=>?_⟩
  .exact ht I (EF n) L (EF o)
  .refine⟨k.trans e4,rs++[r],by rw[EM];rfl,by rw[EN,j];rfl,?_⟩;rw[List.any_append,Bool.or_eq_true,a,List.take_add_one,d];have:List.any [r] id=r:=by cases r<;>rfl
   rw[this,N];constructor
   .rintro(h|h) hc
    .exact h λu s=>hc u (EU.mpr (.inl s))
    .exact hc w (by simp) I L n o h
   .intro h;by_cases h1:cls (ws.take i) ts
    .right;refine Classical.byContradiction λh2=>h λu s=>?_;rcases EU.mp s with s|s
     .exact h1 u s
     .have:u=w:=by simpa using s
      subst this;intro a1 a2 B C;rw[n]at B;rw[o]at C;cases B;cases C;exact h2
    .exact .inl h1
 .rintro ys H3 p ⟨k,rs,rfl,j,a⟩ O;walk_at"";refine⟨p,rs,rfl,ag.of aK,?_⟩;walk_at"";refine q _ _ (y.trans (k.trans (a8 O))) ?_;rw[Ew,A,EZ]at a;cases hb:rs.any id with
  | true=>
   rw[hb]at a;have:=a.mp rfl;simp[this]
  | false=>
   rw[hb]at a;have:cls ws ts:=Classical.byContradiction λh=>by have:=a.mpr h;cases this
   simp[this]
def kT{t:StT}{x:Int}(h:0<=x):mem t.b t.s t.o t.a x=t.f x.toNat:=by show _=mem t.b t.s t.o t.a (x.toNat:Int);rw[EJ h]
inductive pE(K:Eo)(vs:List V)(H:Hp)(Q:VK)(E:XK):Prop|mk:∀v a b tv m ws ts c d e g,vs=[v,.ref a,.ref b,tv]->bh H v m ws->HOuse m ws->i7 H m tv ts->aE H a c->aE H b d->cA m c->cA m d->cls ws ts->ts[c.1.toNat]?=Vn e->ts[d.1.toNat]?=Vn g->e.f c.2.toNat=true->g.f d.2.toNat=false->(∀H',Ext H H'->Q (.bl true) H')->pE K vs H Q E
def yP(T:Bu w mg base):Cal P w K mg base "sees_never" 10 ["house","place","goal","stairs"] (pE K):=by
 refine(jK T.d_sees_never).oS ["house","place","goal","stairs"] λd nd H vs Q E h=>?_;obtain⟨v,a,b,tv,m,ws,ts,o,p,M,N,rfl,B,ok,C,e,g,i,j,L,s,u,x,y,q⟩:=h;refine⟨_,(av (aY (PW.pt (bJ (bB (a0 (aB (AO T) d (ae (pv 0) (ae (pv 3) aa))))) (bJ (bB (a0 (aB (oT T) d (ae (pv 1) (ae (pv 0) aa))))) (b9 (bB (a0 (aB (oT T) d (ae (pv 2) (ae (pv 0) aa))))))))) (aw (aD a7)) aQ)
   (aw (aD (cG (aB (kM T) d (ae (ao (aM K) (pv 3) (ao (az K) (pv 1) af (λ_ _=>rfl)) (λ_ _=>rfl)) (ae (ao (az K) (pv 1) af (λ_ _=>rfl)) aa))) (cQ (iF (aB (kM T) d (ae (ao (aM K) (pv 3) (ao (az K) (pv 2) af (λ_ _=>rfl)) (λ_ _=>rfl)) (ae (ao (az K) (pv 2) af (λ_ _=>rfl)) aa))))))))),?_⟩
 walk_at"";refine⟨v,tv,m,ws,ts,rfl,B,ok,C,λr H1 c d=>?_⟩;rw[d.mpr L];walk_at"";refine ax ?_;walk_at"";obtain⟨F,G,rfl,I,O⟩:=id (B.ext c);refine⟨a,o,F,.ref G,m,rfl,c _ _ e,I,i,?_⟩;walk_at"";refine ax ?_;walk_at"";refine⟨b,p,F,.ref G,m,rfl,c _ _ g,I,j,?_⟩;walk_at"";refine ax ?_;obtain⟨l,xs,rfl,J,R,S,hs,U⟩:=C.ext c;obtain⟨W,z,k⟩:=f6 hs s;obtain⟨X,A,n⟩:=f6 hs u;walk_at"";refine ay (ah.of (c _ _ e)) (v:=.int o.1) rfl ?_;walk_at"";refine aL (ag.of J) (iM i.1 z) ?_;walk_at"";refine ay (ah.of (c _ _ e)) (v:=.int o.2) rfl ?_;walk_at"";refine⟨_,o.2,_,_,_,_,rfl,k.1,k.2,?_⟩;rw[kT i.2.2.1,x];refine rd_exb (aC ?_);walk_at"";refine ay (ah.of (c _ _ g)) (v:=.int p.1) rfl ?_;walk_at"";refine aL (ag.of J) (iM j.1 A) ?_;walk_at"";refine ay (ah.of (c _ _ g)) (v:=.int p.2) rfl ?_;walk_at"";refine⟨_,p.2,_,_,_,_,rfl,n.1,n.2,?_⟩;rw[kT j.2.2.1,y];walk_at"";exact q H1 c
theorem DJ{z y c:Int}(hs:1<=s)(a:(y-z) % s=0)(h1:y<=c)(h2:c<y+s):(c-z) % s=0↔c=y:=by obtain⟨k,b⟩:=Int.dvd_of_emod_eq_zero a;rw[show c-z=s*k+(c-y) by lia,Int.mul_add_emod_self_left,Int.emod_eq_of_lt (by lia) (by lia)];lia
inductive qH(K:Eo)(vs:List V)(H:Hp)(Q:VK)(E:XK):Prop|mk:∀v t n,vs=[v,.int (n:Nat)]->iD H v t->t.b<=n->n<=20000->(∀q H',Ext H H'->H q=Vo->H' q=Vn (.lst (aP n t.f))->Q (.ref q) H')->qH K vs H Q E
theorem Dj(T:Bu w mg base):Cal P w K mg base "_law_bits" 1 ["_law_stair","_law_many"] (qH K):=by
 refine(bw T.d__law_bits).oS ["_law_stair","_law_many","_law_bits_here","_law_x"] λhr nd H vs Q E h=>?_;obtain⟨v,⟨b,s',o,a⟩,n,rfl,⟨⟨p,q',r,rfl,h1,h2,S⟩,l⟩,U,a4,q⟩:=h;dsimp only at h1 h2 S l U q;have hs:=l.ok.hs;have a5:=l.s8;have a6:=l.b3;refine⟨_,(av (aG (i:=2) nd rfl oi (aA jG (bp (ae a7 aa)) (pv 1)))
   (av (bt PassesOwn.never rfl (eZ K (ao (az K) (pv 0) af (λ_ _=>rfl))) (aI (i:=3) nd rfl oi) (aw (eM a7 (f7 (pv 2) (pv 3) set_list))))
   (av (bt PassesOwn.never rfl (eZ K (ao (az K) (pv 0) af (λ_ _=>rfl))) (aI (i:=3) nd rfl oi) (aw (fA PassesOwn.never (aN dj (pv 3) (pv 1) (aJ _)) (av (eM a7 (f7 (pv 2) (pv 3) set_list))
   (aw (aG (i:=3) nd rfl oi (aA aV (pv 3) (ao (az K) (pv 0) af (λ_ _=>rfl)))))))))
   (aw (aD (pv 2)))))),?_⟩
 walk_at"";refine aO λm H1 e1 hm _=>?_;walk_at"";refine j2 hm (by lia) (bT (by simp;lia)) (cF λk H2 e2 F W=>?_);rw[j3,EI]at F;have s:Ext H H2:=e1.trans e2;have u:H k=Vo:=e1.none W;walk_at"";refine ay (ah.of (s _ _ h1)) rfl ?_;walk_at"";refine eR (ah.of (s _ _ h2)) ?_;refine iz (xs:=o.map V.int) (λi σ H'=>Ext H H'/\∃x,σ=[Vn (.ref p),Vn (.int (n:Nat)),Vn (.ref k),x]/\H' k=Vn (.lst (aP n λy=>(o.take i).contains (y:Int))))
  ⟨s,Vo,rfl,by simpa using F⟩ (λi σ H' _ h=>ah.of (h.1 _ _ h2)) ?_ ?_
 .rintro i v' σ H' hi ⟨e,x,rfl,A⟩;obtain⟨z,rfl,G⟩:=fG hi;have X:=(l.ok.ho.2 z (EF G));have d:o.take (i+1)=o.take i++[z]:=by rw[List.take_add_one,G];rfl
  walk_at"";refine gJ A (gy (by lia) (by rw[bW];lia)) ?_;rw[ir _ _ (by lia)];refine⟨bK e u,_,rfl,?_⟩;rw[aK];congr 2;refine b6 λy hy=>?_;rw[d,List.contains_append];by_cases I:y=z.toNat
  .rw[Ft I];have:(y:Int)=z:=by lia
   rw[this];simp
  .rw[Fs I];have:[z].contains (y:Int)=false:=by rw[Bool.eq_false_iff];intro J;rw[List.contains_iff_mem,EG]at J;lia
   rw[this,Bool.or_false]
 .rintro σ H3 ⟨Y,x,rfl,L⟩;rw[Ew,EZ]at L;walk_at"";refine ay (ah.of (Y _ _ h1)) rfl ?_;walk_at"";refine eR (ah.of (Y _ _ S)) ?_;refine iz (xs:=a.map V.int) (λi σ H'=>Ext H H'/\∃x,σ=[Vn (.ref p),Vn (.int (n:Nat)),Vn (.ref k),x]/\H' k=Vn (.lst (aP n (fE s' o (a.take i)))))
   ⟨Y,_,rfl,by rw[L];congr 2;exact b6 λy _=>by simp[fE]⟩ (λi σ H' _ h=>ah.of (h.1 _ _ S)) ?_ ?_
  .rintro i v' σ H' hi ⟨e,x,rfl,A⟩;obtain⟨z,rfl,G⟩:=fG hi;have X:=(l.ok.ha.2 z (EF G));have d:a.take (i+1)=a.take i++[z]:=by rw[List.take_add_one,G];rfl
   walk_at"";refine fo (λmm σ H'=>Ext H H'/\∃y:Int,z<=y/\(y-z) % (s':Int)=0/\σ=[Vn (.ref p),Vn (.int (n:Nat)),Vn (.ref k),Vn (.int y)]/\mm=((n:Int)-y).toNat/\H' k=Vn (.lst (aP n λc=>fE s' o (a.take i) c || (decide (z<=(c:Int)) && decide ((c:Int)<y) && ((c:Int)-z) % (s':Int) == 0))))
    (λσ H'=>Ext H H'/\∃x,σ=[Vn (.ref p),Vn (.int (n:Nat)),Vn (.ref k),x]/\H' k=Vn (.lst (aP n (fE s' o (a.take (i+1)))))) ((n:Int)-z).toNat ⟨e,z,Int.le_refl _,by rw[Int.sub_self];rfl,rfl,rfl,?_⟩ ?_ ?_
   .rw[A];congr 2;refine b6 λc _=>?_;rw[show (decide (z<=(c:Int)) && decide ((c:Int)<z) && ((c:Int)-z) % (s':Int) == 0)=false by
     by_cases J:z<=(c:Int)
     .rw[Fp (show ¬(c:Int)<z by lia),Bool.and_false];rfl
     .rw[Fp J];rfl,Bool.or_false]
   .rintro mm σ Z ⟨R,y,a1,B,rfl,ab,g⟩;walk_at"";by_cases M:y<(n:Int)
    .rw[Fq M];refine aC ⟨_,λ_ _ h=>h,?_⟩;walk_at"";refine gJ g (gy (by lia) (by rw[bW];lia)) ?_;rw[ir _ _ (by lia)];have e5:=bK (o:=.lst (aP n λj=>if j=y.toNat then true else fE (↑s') o (List.take i a) j || (decide (z<=(j:Int)) && decide ((j:Int)<y) && ((j:Int)-z) % (s':Int) == 0))) R u;walk_at"";refine ay (ah.of (e5 _ _ h1)) rfl ?_;walk_at"";refine⟨((n:Int)-(y+s')).toNat,by lia,e5,y+s',by lia,?_,rfl,rfl,?_⟩
     .rw[show y+(s':Int)-z=y-z+s' by lia,Int.add_emod_right];exact B
     .rw[aK];congr 2;refine b6 λc J=>?_;by_cases C:c=y.toNat
      .rw[Ft C];have:(c:Int)=y:=by lia
       rw[this,B,Fq a1,Fq (show y<y+(s':Int) by lia)];simp
      .rw[Fs C];congr 1;by_cases N:z<=(c:Int)
       .rw[Fq N,Bool.true_and,Bool.true_and];by_cases hlt:(c:Int)<y
        .rw[Fq hlt,Fq (show(c:Int)<y+(s':Int) by lia)]
        .rw[Fp hlt,Bool.false_and];by_cases O:(c:Int)<y+(s':Int)
         .have a2:¬((c:Int)-z) % (s':Int)=0:=λa3=>C (by have:=(DJ hs B (by lia) O).mp a3;lia);simp[a2]
         .rw[Fp O,Bool.false_and]
       .rw[Fp N];simp
    .rw[Fp M];refine ax ⟨R,_,rfl,?_⟩;rw[g];congr 2;refine b6 λc J=>?_;rw[Fq (show(c:Int)<y by lia),Bool.and_true,d];unfold fE;rw[List.any_append,Bool.or_assoc];simp
   .rintro σ Z h4;exact h4
  .rintro σ Z ⟨R,x',rfl,g⟩;rw[Ew,EZ]at g;walk_at"";refine q k Z R u ?_;rw[g];congr 2;exact b6 λy _=>vU l.ok y
theorem C0{a b k:Nat}(ha:1<=a)(hb:1<=b)(d:a*k<=cm a b)(h:¬b ∣ a*k):a*k+a<=cm a b:=by
 rw[lO]at d ⊢;obtain⟨c,e⟩:=Nat.dvd_lcm_left a b;rw[e]at d ⊢;have h1:k<=c:=Nat.le_of_mul_le_mul_left d ha;have h2:k≠c:=by rintro rfl;exact h (e ▸ Nat.dvd_lcm_right a b)
 rw[<-Nat.mul_succ];exact Nat.mul_le_mul_left a (by lia)
def DI{a b k:Nat}(ha:1<=a)(c:1<=k)(d:a*k<=cm a b)(h:b ∣ a*k):a*k=cm a b:=by rw[lO]at d ⊢;exact Nat.le_antisymm d (Nat.le_of_dvd (Nat.mul_pos ha c) (Nat.lcm_dvd (Nat.dvd_mul_right a k) h))
inductive pC(K:Eo)(vs:List V)(H:Hp)(Q:VK)(E:XK):Prop|mk:∀a b:Nat,vs=[.int a,.int b]->1<=a->1<=b->a<=10000->b<=10000->Q (.int (cm a b:Nat)) H->pC K vs H Q E
theorem D6(T:Bu w mg base):Cal P w K mg base "_law_multiple" 1 ["_law_one","_law_two"] (pC K):=by
 refine(bw T.d__law_multiple).oS ["_law_one","_law_two","_law_far"] λp nd H vs Q E h=>?_;obtain⟨a,b,rfl,ha,hb,d,e,q⟩:=h;have n:a<=cm a b:=by rw[lO];exact Nat.le_of_dvd (Nat.lcm_pos ha hb) (Nat.dvd_lcm_left a b)
 have o:cm a b<=100000000:=E4 De (Nat.mul_le_mul d e);refine⟨_,(av (aG (i:=2) nd rfl oi (pv 0))
   (av (fA PassesOwn.never (aN dY (aA cw (pv 2) (pv 1)) af (aJ _)) (aw (aG (i:=2) nd rfl oi (aA aV (pv 2) (pv 0)))))
   (aw (aD (pv 2))))),?_⟩
 walk_at"";refine fo (λm σ H'=>H'=H/\∃k:Nat,1<=k/\a*k<=cm a b/\m=cm a b-a*k/\σ=[Vn (.int (a:Nat)),Vn (.int (b:Nat)),Vn (.int ((a*k:Nat):Int))]) (λσ H'=>H'=H/\σ=[Vn (.int (a:Nat)),Vn (.int (b:Nat)),Vn (.int ((cm a b:Nat):Int))]) (cm a b-a) ⟨rfl,1,ER _,by lia,by lia,by rw[Nat.mul_one];rfl⟩ ?_ ?_
 .rintro m σ H' ⟨rfl,k,g,l,r,rfl⟩;walk_at""
  try refine rd_I (show(0:Int)<(b:Int)/\(b:Int)<2 ^ 64 by lia) ?_
  walk_at"";by_cases hd:b ∣ a*k
  .have j:((a*k:Nat):Int) % (b:Int)=0:=by rw[<-Int.natCast_emod,Nat.mod_eq_zero_of_dvd hd];rfl
   rw[j];refine ax ⟨rfl,?_⟩;rw[DI ha g l hd]
  .have j:¬((a*k:Nat):Int) % (b:Int)=0:=λh=>hd (Nat.dvd_of_mod_eq_zero (by rw[<-Int.natCast_emod]at h;lia));have c:=C0 ha hb l hd;rw[Fp j];refine aC ⟨_,λ_ _ h=>h,?_⟩;walk_at"";refine⟨cm a b-a*(k+1),by rw[Nat.mul_succ];lia,rfl,k+1,by lia,by rw[Nat.mul_succ];exact c,rfl,?_⟩;rw[Nat.mul_succ];rfl
 rintro σ H' ⟨rfl,rfl⟩;walk_at"";exact q
def dN(d:Vm)(x:Int):Int:=if d = "up" then x+1 else if d = "down" then x-1 else if d = "zero"/\0<x then -1 else x
inductive qj(K:Eo)(vs:List V)(H:Hp)(Q:VK)(E:XK):Prop|mk:∀d x,vs=[.str d,.int x]->Q (.int (dN d x)) H->qj K vs H Q E
def Bf(T:Bu w mg base):Cal P w K mg base "_law_there" 1 ["_law_deed","_law_x"] (qj K):=by
 refine(bw T.d__law_there).oS ["_law_deed","_law_x"] λc nd H vs Q E h=>?_;obtain⟨d,x,rfl,q⟩:=h;unfold dN at q;refine⟨_,(av (aY (aN bH (pv 0) aU (aJ _)) (aw (aD (aA aV (pv 1) af))) aQ)
   (av (aY (aN bH (pv 0) aU (aJ _)) (aw (aD (aA de (pv 1) af))) aQ)
   (av (aY (PW.pt (eT (aN bH (pv 0) aU (aJ _)) (fS (aN eB (pv 1) af (aJ _))))) (aw (aD (gR gY af))) aQ)
   (aw (aD (pv 1)))))),?_⟩
 walk_at"";refine cb (rd_exb ?_);by_cases h1:d = "up"
 .rw[Ft h1]at q;rw[Fq h1];refine aC ?_;walk_at"";exact q
 .rw[Fs h1]at q;rw[Fp h1];refine ax ?_;walk_at"";refine cb (rd_exb ?_);by_cases h2:d = "down"
  .rw[Ft h2]at q;rw[Fq h2];refine aC ?_;walk_at"";exact q
  .rw[Fs h2]at q;rw[Fp h2];refine ax ?_;walk_at"";refine cb (rd_exb ?_);by_cases a:d = "zero"
   .rw[Fq a];refine aC ?_;walk_at"";by_cases b:0<x
    .rw[Ft ⟨a,b⟩]at q;rw[Fq b];refine aC ?_;walk_at"";exact q
    .rw[Fs (λh=>b h.2)]at q;rw[Fp b];refine ax ?_;walk_at"";exact q
   .rw[Fs (λh=>a h.1)]at q;rw[Fp a];refine ax (ax ?_);walk_at"";exact q
theorem Dl{d:Vm}{f:Nat->Bool}{b s:Nat}(hd:bY d)(hs:1<=s)(a:aW f b s)(c:aW g b s)(m:b+s+2<=n):(∃x:Nat,x<n/\f x=true/\0<=dN d x/\g (dN d x).toNat=false)↔fM d f g:=by
 unfold fM dN;rcases hd with rfl|rfl|rfl|rfl
 .rw[Fs (by decide +kernel),Ft rfl];simp only[if_true];constructor
  .rintro⟨x,_,h1,_,h2⟩;exact⟨x,h1,by rw[show ((x:Int)+1).toNat=x+1 by lia]at h2;exact h2⟩
  .rintro⟨x,h1,h2⟩;obtain⟨y,h,k1,k2⟩:=ly (i:=0) (j:=1) hs a c x x (ER _) h1 h2;exact⟨y,by lia,k1,by lia,by rw[show ((y:Int)+1).toNat=y+1 by lia];exact k2⟩
 .rw[Fs (by decide +kernel),Fs (by decide +kernel),Ft rfl];have k:¬(Fb "down" = Fb "up"):=by decide +kernel
  simp only[Fs k,if_true];constructor
  .rintro⟨x,_,h1,o,h2⟩;refine⟨x-1,by rw[show x-1+1=x by lia];exact h1,?_⟩;rw[show ((x:Int)-1).toNat=x-1 by lia]at h2;exact h2
  .rintro⟨x,h1,h2⟩;obtain⟨y,h,k1,k2⟩:=ly (i:=1) (j:=0) hs a c x x (ER _) h1 h2;exact⟨y+1,by lia,k1,by lia,by rw[show (((y+1:Nat):Int)-1).toNat=y by lia];exact k2⟩
 .have h1:¬(Fb "stay" = Fb "zero"):=by decide +kernel
  have h2:¬(Fb "stay" = Fb "up"):=by decide +kernel
  have e:¬(Fb "stay" = Fb "down"):=by decide +kernel
  simp only[Fs h1,Fs h2,Fs e,h1,false_and,if_false];constructor
  .rintro⟨x,_,k1,_,k2⟩;exact⟨x,k1,by rw[EI]at k2;exact k2⟩
  .rintro⟨x,k1,k2⟩;obtain⟨y,h,k1,k2⟩:=ly (i:=0) (j:=0) hs a c x x (ER _) k1 k2;exact⟨y,by lia,k1,by lia,by rw[EI];exact k2⟩
 .have h2:¬(Fb "zero" = Fb "up"):=by decide +kernel
  have e:¬(Fb "zero" = Fb "down"):=by decide +kernel
  rw[Ft rfl];simp only[Fs h2,Fs e,true_and];constructor
  .rintro⟨x,_,k1,k0,k2⟩;by_cases l:(0:Int)<(x:Int)
   .rw[Ft l]at k0;lia
   .have:x=0:=by lia
    subst this;exact⟨k1,k2⟩
  .rintro⟨k1,k2⟩;exact⟨0,by lia,k1,by decide,k2⟩
theorem Du{d:Vm}{x:Int}:dN d x<=x+1:=by
 unfold dN;split
 .omega
 .split
  .omega
  .split<;>lia
def yY{ts:List StT}{i:Nat}{w:Way}(d:ws[i]?=Vn w)(h:cls (ws.take i) ts)(e:∀b c,ts[w.room.toNat]?=Vn b->ts[w.other.toNat]?=Vn c->¬fM w.deed b.f c.f):cls (ws.take (i+1)) ts:=by
 intro u a;rw[List.take_add_one,d]at a;rcases EU.mp a with a|a
 .exact h u a
 .have:u=w:=by simpa using a
  subst this;exact e
inductive xj(K:Eo)(vs:List V)(H:Hp)(Q:VK)(E:XK):Prop|mk:∀a m ws l xs ts,vs=[a,.ref l]->bh H a m ws->HOuse m ws->H l=Vn (.lst xs)->eW H xs ts->(xs.length:Int)=m->steps ts->(∀r H',Ext H H'->(r=true↔¬cls ws ts)->Q (.bl r) H')->xj K vs H Q E
def y4{D zs:List Int}(hd:D.Nodup)(h:∀z,z∈D↔z∈zs):D.length<=zs.length:=hd.length_le_of_subset λz a=>(h z).mp a
abbrev sI(t:StT):Int:=(t.s:Int)
abbrev bI(t:StT):Int:=(t.b:Int)
def yE(T:Bu w mg base):Cal P w K mg base "_law_leaves" 2 ["_law_house_here","_law_stairs"] (xj K):=by
 refine(bw T.d__law_leaves).oS ["_law_house_here","_law_stairs","_law_steps","_law_far","_law_many","_law_rows","_law_room","_law_deed","_law_other","_law_sign","_law_x","_law_there_here"] λhr nd H vs Q E h=>?_;obtain⟨vh,m,ws,l,xs,ts,rfl,hv,ok,hl,hS,hm,au,q⟩:=h;obtain⟨b4,ca,rfl,hh,hw⟩:=id hv;obtain⟨bs,ab,hal⟩:=bX.al hw;have m1:=ok.m1;have m12:=ok.m12;have hlen:=hS.len;have cu:=ok.few;have b5:bs.length=ws.length:=hal.1;have hall:∀t∈ts,1<=t.s/\t.s<=840/\t.b<=3000:=λt J=>by obtain⟨i,hi⟩:=Fi J;obtain⟨v0,_,ad⟩:=f6 hS hi;exact⟨ad.s1,ad.s8,ad.b3⟩
 refine⟨_,(@av _ _ _ _ _ (@aG _ _ 2 _ _ _ _ nd rfl oj (aS (Ti.call_sortJ hr) rfl T.sorted_ PyProof.Rows.boot_sorted (aq (ic (Ti.call_setJ hr) rfl T.set_ PyProof.Rows.boot_set (aq (cn ["_law_stair"] [] (bP K (pv 1)) (λ_=>(aI (i:=0) (show(["_law_stair"]:List Vm).Nodup from by decide +kernel) rfl oi oj)) (λ_=>cz) (λ_=>(@ao _ _ _ _ _ _ _ (az K) (pv 0) af (λ_ _=>rfl)))) aa rfl)) aa rfl)) rfl oi)
   (@av _ _ _ _ _ (@aG _ _ 3 _ _ _ _ nd rfl oi (aS (mH K rfl) rfl T.max_ PyProof.Rows.boot_max (aq (cn ["_law_one"] [2] (bP K (pv 2)) (λ_=>(aI (i:=0) (show(["_law_one","_law_steps"]:List Vm).Nodup from by decide +kernel) rfl oj oi)) (λ_=>cz) (λ_=>(aS (mH K rfl) rfl T.max_ PyProof.Rows.boot_max (aq (cn ["_law_two"] [0] (bP K (pv 1)) (λ_=>(aI (i:=0) (show(["_law_two","_law_one"]:List Vm).Nodup from by decide +kernel) rfl oi oj)) (λ_=>cz) (λ_=>(aB (D6 T) hr (aq (pv 1) (aq (pv 0) aa rfl) rfl)))) aa rfl)))) aa rfl)) rfl oi)
   (@av _ _ _ _ _ (@aG _ _ 4 _ _ _ _ nd rfl oj (aA aV (aA aV (aS (mH K rfl) rfl T.max_ PyProof.Rows.boot_max (aq (cn ["_law_stair"] [] (bP K (pv 1)) (λ_=>(aI (i:=0) (show(["_law_stair"]:List Vm).Nodup from by decide +kernel) rfl oi oj)) (λ_=>cz) (λ_=>(@ao _ _ _ _ _ _ _ (az K) (pv 0) af (λ_ _=>rfl)))) aa rfl)) (pv 3)) af) rfl oi)
   (@av _ _ _ _ _ (gZ (i:=5) ["_law_stair"] [4] nd rfl oi (bP K (pv 1)) (λ_=>(aI (i:=0) (show(["_law_stair","_law_many"]:List Vm).Nodup from by decide +kernel) rfl oi oj)) (λ_=>cz) (λ_=>(aB (Dj T) hr (aq (pv 0) (aq (pv 1) aa rfl) rfl))))
   (@av _ _ _ _ _ (bt PassesOwn.never rfl (eZ K (@ao _ _ _ _ _ _ _ (az K) (pv 0) af (λ_ _=>rfl))) (fh (n:=4) K rfl (br (aI (i:=6) nd rfl oi) (br (aI (i:=7) nd rfl oi) (br (aI (i:=8) nd rfl oi) (br (aI (i:=9) nd rfl oi) eA))))) (@aw _ _ _ (bt PassesOwn.never rfl (cM rfl T.range_ (aq (aA de (pv 4) af) aa rfl)) (aI (i:=10) nd rfl oi) (@av _ _ _ _ _ (@aG _ _ 11 _ _ _ _ nd rfl oi (aB (Bf T) hr (aq (pv 7) (aq (pv 10) aa rfl) rfl)) rfl oi)
   (@aw _ _ _ (@aY _ _ _ _ _ _ _ _ (PW.pt (eT (a0 (@ao _ _ _ _ _ _ _ (aM K) (@ao _ _ _ _ _ _ _ (aM K) (pv 5) (pv 6) (λ_ _=>rfl)) (pv 10) (λ_ _=>rfl))) (eT (aN lK (pv 11) af (aJ _)) (fS (bB (a0 (@ao _ _ _ _ _ _ _ (aM K) (@ao _ _ _ _ _ _ _ (aM K) (pv 5) (pv 8) (λ_ _=>rfl)) (pv 11) (λ_ _=>rfl)))))))) (@aw _ _ _ (@aD _ _ _ _ a7)) aQ))))))
   (@aw _ _ _ (@aD _ _ _ _ a7))))))),?_⟩
 walk_at"";refine bO (ag.of hl) ?_;refine dP (xs:=xs) (λi ys H'=>H'=H/\ys=((ts.take i).map sI).map V.int) (dQ (by omega)) ⟨rfl,rfl⟩ (λi ys H' _ h=>⟨by rw[h.1];exact ag.of hl,by rw[h.2,Ew,Ew,Fl];omega⟩) ?_ ?_
 .rintro i v ys H1 I ⟨rfl,rfl⟩;obtain⟨t,J,⟨⟨p,_,_,rfl,h1,_,_⟩,_⟩⟩:=cV hS I;walk_at"";refine aC ?_;walk_at"";refine ay (ah.of h1) (v:=.int (t.s:Nat)) rfl ?_;refine⟨rfl,?_⟩;rw[List.take_add_one,J,EM,EM];rfl
 .rintro ys H1 p ⟨hH,rfl⟩ hp;subst hH;rw[hlen,EZ];have e1:Ext H1 (upd H1 p (.lst ((ts.map sI).map V.int))):=a8 hp;have ai:(upd H1 p (.lst ((ts.map sI).map V.int))) p=_:=aK;generalize upd H1 p (.lst ((ts.map sI).map V.int))=H2 at e1 ai ⊢;walk_at"";refine⟨p,_,rfl,ai,by rw[Ew];omega,λsl D b7 b8 hD=>?_⟩;have ba:=y4 b8 hD;rw[Ew]at ba;have e3:=e1.trans (a8 (o:=Ti.setIO P w sl D) b7);have O:(upd H2 sl (Ti.setIO P w sl D)) sl=Vn (Ti.setIO P w sl D):=aK;walk_at"";show Ti.rSortJ P w [.ref sl] (upd H2 sl (Ti.setIO P w sl D)) _;generalize upd H2 sl (Ti.setIO P w sl D)=H3 at e3 O ⊢;refine⟨sl,D,rfl,O,by omega,λst N bb aj _=>?_⟩;have e4:=e3.trans (a8 (o:=.lst (List.map V.int N)) bb);have C:(upd H3 st (.lst (List.map V.int N))) st=Vn (.lst (List.map V.int N)):=aK;generalize upd H3 st (.lst (List.map V.int N))=H4 at e4 C ⊢;clear e3 O b7 e1 ai;have cv:N.length<=12:=by rw[aj.length_eq];omega
  have hmem:∀z,z∈N↔∃t∈ts,(t.s:Int)=z:=λz=>by rw[aj.mem_iff,hD,List.mem_map]
  have cc:0<N.length:=by obtain⟨t0,R⟩:∃t,ts[0]?=Vn t:=⟨_,Ex (show 0<ts.length by omega)⟩;exact List.length_pos_of_mem ((hmem _).mpr ⟨t0,EF R,rfl⟩)
  clear aj b8 hD ba;walk_at"";refine bO (ag.of C) ?_;refine dP (xs:=List.map V.int N) (λi ys H'=>Ext H4 H'/\∃ns:List Int,ys=ns.map V.int/\ns.length=i/\(∀n∈ns,n<=840)/\∀z∈N.take i,∃n∈ns,∀k∈ts,(k.s:Int)=z->∀u∈ts,((cm k.s u.s:Nat):Int)<=n) (dQ (by rw[Ew];omega)) ⟨Ext.rfl' _,[],rfl,rfl,λn h=>(nomatch h),λz h=>by simp at h⟩ (λi ys H' _ h=>⟨ag.of (h.1 _ _ C),by obtain⟨_,ns,rfl,h,_⟩:=h;rw[Ew,h];exact ER _⟩) ?_ ?_
  .rintro i v ys H5 I ⟨e5,ns,rfl,a4,a5,L⟩;obtain⟨z1,rfl,bc⟩:=fG I;obtain⟨k,A,rfl⟩:=(hmem z1).mp (EF bc);have b1:=hall k A;walk_at"";refine aC ?_;walk_at"";refine bO (ag.of (e5 _ _ C)) ?_;refine dP (xs:=List.map V.int N) (λi ys H'=>H'=H5/\ys=((N.take i).map λz=>((cm k.s z.toNat:Nat):Int)).map V.int) (dQ (by rw[Ew];omega)) ⟨rfl,rfl⟩ (λi ys H' _ h=>⟨by rw[h.1];exact ag.of (e5 _ _ C),by rw[h.2,Ew,Ew,Fl];omega⟩) ?_ ?_
   .rintro i' v ys H6 I ⟨rfl,rfl⟩;obtain⟨z2,rfl,a6⟩:=fG I;obtain⟨u,c,rfl⟩:=(hmem z2).mp (EF a6);have b2:=hall u c;walk_at"";refine aC ?_;walk_at"";refine⟨k.s,u.s,rfl,b1.1,b2.1,by omega,by omega,rfl,?_⟩;rw[List.take_add_one,a6,EM,EM];rfl
   .rintro ys H6 p6 ⟨hH,rfl⟩ S;subst hH;rw[Ew,EZ];have e6:Ext H6 (upd H6 p6 (.lst ((N.map λz=>((cm k.s z.toNat:Nat):Int)).map V.int))):=a8 S;walk_at"";refine⟨p6,_,rfl,ag.of aK,by rw[Ew];exact cc,λM hM hMx=>?_⟩;refine⟨e5.trans e6,ns++[M],by rw[EM];rfl,by rw[EN,a4];rfl,λn U=>?_,λz hz=>?_⟩
    .rcases EU.mp U with U|U
     .exact a5 n U
     .rw[EG.mp U];obtain⟨z2,a6,rfl⟩:=List.mem_map.mp hM;obtain⟨u,c,rfl⟩:=(hmem z2).mp a6;have:=au k A u c;rw[EI];omega
    .rw[List.take_add_one,bc]at hz;rcases EU.mp hz with hz|hz
     .obtain⟨n,U,h⟩:=L z hz;exact⟨n,EU.mpr (.inl U),h⟩
     .have cd:z=(k.s:Int):=by simpa using hz
      subst cd;refine⟨M,EU.mpr (.inr (EG.mpr rfl)),λce _ he u c=>?_⟩;have cf:ce.s=k.s:=by omega
      rw[cf];have:=hMx _ (List.mem_map.mpr ⟨(u.s:Int),(hmem _).mpr ⟨u,c,rfl⟩,rfl⟩);rw[EI]at this;exact this
  .rintro ys H5 p5 ⟨e5,ns,rfl,a4,a5,L⟩ be;rw[Ew]at a4 L;rw[EZ]at L;have e6:=(e4.trans e5).trans (a8 (o:=.lst (ns.map V.int)) be);have S:(upd H5 p5 (.lst (ns.map V.int))) p5=Vn (.lst (ns.map V.int)):=aK;generalize upd H5 p5 (.lst (ns.map V.int))=H6 at e6 S ⊢;walk_at"";refine⟨p5,ns,rfl,ag.of S,by omega,λM hM hMx=>?_⟩;have d0:=a5 M hM;have bg:∀k∈ts,∀u∈ts,((cm k.s u.s:Nat):Int)<=M:=λk h1 u h2=>by obtain⟨n,U,h⟩:=L _ ((hmem _).mpr ⟨k,h1,rfl⟩);exact Int.le_trans (h k h1 rfl u h2) (hMx n U)
   clear hM hMx L a5 a4 hmem e4 e5 be S C bb;walk_at"";refine bO (ag.of (e6 _ _ hl)) ?_;refine dP (xs:=xs) (λi ys H'=>H'=H6/\ys=((ts.take i).map bI).map V.int) (dQ (by omega)) ⟨rfl,rfl⟩ (λi ys H' _ h=>⟨by rw[h.1];exact ag.of (e6 _ _ hl),by rw[h.2,Ew,Ew,Fl];omega⟩) ?_ ?_
   .rintro i v ys H7 I ⟨rfl,rfl⟩;obtain⟨t,J,ak⟩:=cV hS I;obtain⟨⟨p,_,_,rfl,h1,_,_⟩,_⟩:=id (ak.ext e6);walk_at"";refine aC ?_;walk_at"";refine ay (ah.of h1) (v:=.int (t.b:Nat)) rfl ?_;refine⟨rfl,?_⟩;rw[List.take_add_one,J,EM,EM];rfl
   .rintro ys H7 p7 ⟨hH,rfl⟩ bi;subst hH;rw[hlen,EZ];have e8:=e6.trans (a8 (o:=.lst ((ts.map bI).map V.int)) bi);have am:(upd H7 p7 (.lst ((ts.map bI).map V.int))) p7=_:=aK;generalize upd H7 p7 (.lst ((ts.map bI).map V.int))=H8 at e8 am ⊢;walk_at"";refine⟨p7,_,rfl,ag.of am,by rw[Ew];omega,λB hB bl=>?_⟩;obtain⟨b,rfl,d1⟩:∃b:Nat,B=(b:Int)/\b<=3000:=by obtain⟨t,J,rfl⟩:=List.mem_map.mp hB;exact⟨t.b,rfl,(hall t J).2.2⟩
    have hbx:∀t∈ts,t.b<=b:=λt J=>by have:=bl _ (List.mem_map.mpr ⟨t,J,rfl⟩);exact Int.ofNat_le.mp this
    obtain⟨t0,R⟩:∃t,ts[0]?=Vn t:=⟨_,Ex (show 0<ts.length by omega)⟩;have ch:=bg t0 (EF R) t0 (EF R);obtain⟨s',rfl⟩:∃s':Nat,M=(s':Int):=⟨M.toNat,by omega⟩;clear hB bl ch R e6 bi am;walk_at"";refine bO (ag.of (e8 _ _ hl)) ?_;refine dP (xs:=xs) (λi ys H'=>Ext H8 H'/\∃rs:List Vb,ys=rs.map V.ref/\rs.length=i/\∀(j:Nat) (r:Vb) (t:StT),rs[j]?=Vn r->ts[j]?=Vn t->H' r=Vn (.lst (aP (b+s'+3) t.f))) (dQ (by omega)) ⟨Ext.rfl' _,[],rfl,rfl,λj r t h=>by simp at h⟩ ?_ ?_ ?_
    .rintro i ys H' _ ⟨e,rs,rfl,hr,_⟩;exact⟨ag.of ((e8.trans e) _ _ hl),by rw[Ew,hr];exact ER _⟩
    .rintro i v ys H9 I ⟨e9,rs,rfl,bm,hrs⟩;obtain⟨t,J,ak⟩:=cV hS I;have hb:=hall t (EF J);have d2:=hbx t (EF J);walk_at"";refine aC ?_;walk_at"";refine⟨v,t,b+s'+3,rfl,ak.ext (e8.trans e9),by omega,by omega,λq' bn F _ ci=>?_⟩;refine⟨e9.trans F,rs++[q'],?_,by rw[EN,bm];rfl,λj r t' hj an=>?_⟩
     .rw[EM];rfl
     .by_cases cl:j<rs.length
      .rw[EW cl]at hj;exact F _ _ (hrs j r t' hj an)
      .rw[EV (by omega)]at hj;have co:j-rs.length=0:=by have:=(EE.mp hj).1;simp at this;omega
       rw[co]at hj;cases hj;have:j=i:=by omega
       subst this;rw[J]at an;cases an;exact ci
    .rintro ys H9 p9 ⟨e9,rs,rfl,bm,hrs⟩ bu;have F:=a8 (o:=.lst (rs.map V.ref)) bu;have W:(upd H9 p9 (.lst (rs.map V.ref))) p9=_:=aK;have eH:=(e8.trans e9).trans F;have G:∀(j:Nat) (r:Vb) (t:StT),rs[j]?=Vn r->ts[j]?=Vn t->(upd H9 p9 (.lst (rs.map V.ref))) r=Vn (.lst (aP (b+s'+3) t.f)):=λj r t h1 h2=>F _ _ (hrs j r t h1 h2);generalize upd H9 p9 (.lst (rs.map V.ref))=bn at F W eH G ⊢;clear hrs F e9 bu e8;walk_at"";refine ay (ah.of (eH _ _ hh)) (v:=.ref ca) rfl ?_;walk_at"";refine eR (ah.of (eH _ _ ab)) ?_;refine iz (xs:=bs.map V.ref) (λi σ H'=>H'=bn/\cls (ws.take i) ts/\∃k1 k2 k3 k4 k5 k6,σ=[Vn (.ref b4),Vn (.ref l),Vn (.ref st),Vn (.int (s':Int)),Vn (.int ((b:Int)+(s':Int)+3)),Vn (.ref p9),k1,k2,k3,k4,k5,k6]) ⟨rfl,by simp[cls],_,_,_,_,_,_,rfl⟩ (λi σ H' _ h=>by rw[h.1];exact ah.of (eH _ _ ab)) ?_ ?_
     .rintro i v σ bv I ⟨rfl,hc,k1,k2,k3,k4,k5,k6,rfl⟩;rw[Ey]at I;obtain⟨b',c0,rfl⟩:=EH.mp I;have hi:i<ws.length:=by rw[<-b5];exact(EE.mp c0).1
      have X:ws[i]?=Vn ws[i]:=Ex hi;have c1:=eH _ _ (hal.2 i b' _ c0 X);generalize ws[i]=a at X c1;have Y:=ok.ok a (EF X);have o1:=Y.r0;have o2:=Y.r1;have o3:=Y.o0;have o4:=Y.o1;have g1:a.room.toNat<ts.length:=by omega
      have g2:a.other.toNat<ts.length:=by omega
      have A:ts[a.room.toNat]?=Vn ts[a.room.toNat]:=Ex g1;have c:ts[a.other.toNat]?=Vn ts[a.other.toNat]:=Ex g2;obtain⟨v1,_,Z⟩:=f6 hS A;obtain⟨v2,_,a3⟩:=f6 hS c;generalize ts[a.room.toNat]=k at A Z;generalize ts[a.other.toNat]=u at c a3;have ap:rs[a.room.toNat]?=Vn (rs[a.room.toNat]'(by omega)):=Ex (by omega);have ar:rs[a.other.toNat]?=Vn (rs[a.other.toNat]'(by omega)):=Ex (by omega);have c2:=G _ _ _ ap A;have c3:=G _ _ _ ar c;generalize rs[a.room.toNat]'(by omega)=r1 at ap c2;generalize rs[a.other.toNat]'(by omega)=r2 at ar c3;have p1:=ve (t:=u.s) Z.per (hbx k (EF A));have p2:=rM (s:=k.s) a3.per (hbx u (EF c));have d3:=bg k (EF A) u (EF c);have key:=Dl (n:=b+s'+2) (f:=k.f) (g:=u.f) Y.dd (ui Z.s1 a3.s1) p1 p2 (by omega);have a1:bx (rs.map V.ref) a.room=Vn (.ref r1):=dZ o1 (by rw[Ey,ap];rfl);have a2:bx (rs.map V.ref) a.other=Vn (.ref r2):=dZ o3 (by rw[Ey,ar];rfl);walk_at"";refine eS (ah.of c1) rfl ?_;walk_at"";refine cN (by omega) ?_;refine forR (λx σ H'=>H'=bv/\(∀y:Nat,y<x->¬(k.f y=true/\0<=dN a.deed y/\u.f (dN a.deed y).toNat=false))/\∃k5 k6,σ=[Vn (.ref b4),Vn (.ref l),Vn (.ref st),Vn (.int (s':Int)),Vn (.int ((b:Int)+(s':Int)+3)),Vn (.ref p9),Vn (.int a.room),Vn (.str a.deed),Vn (.int a.other),Vn (.str a.sign),k5,k6]) ⟨rfl,λy hy=>by omega,_,_,rfl⟩ ?_ ?_
      .rintro x σ cp I ⟨rfl,as,k5,k6,rfl⟩;rw[show (0:Int)+(x:Int)=((x:Nat):Int) by omega];have cr:x<b+s'+2:=by omega
       walk_at"";refine⟨_,_,rfl,?_⟩;walk_at"";refine aL (ag.of W) a1 ?_;walk_at"";refine aL (ag.of c2) (dR (by omega) (by omega)) ?_;rw[EI];walk_at"";have stay:(¬(k.f x=true/\0<=dN a.deed x/\u.f (dN a.deed x).toNat=false))->∀y:Nat,y<x+1->¬(k.f y=true/\0<=dN a.deed y/\u.f (dN a.deed y).toNat=false):=λU y hy=>by
        by_cases cs:y<x
        .exact as y cs
        .have:y=x:=by omega
         subst this;exact U
       cases hf:k.f x with
       | false=>
        refine ax ?_;walk_at"";exact⟨rfl,stay (λh=>by rw[hf]at h;cases h.1),_,_,rfl⟩
       | true=>
        refine aC ?_;walk_at"";cases c4:decide (dN a.deed (x:Int) ≥ 0)with
        | false=>
         refine ax ?_;walk_at"";exact⟨rfl,stay (λh=>absurd h.2.1 (of_decide_eq_false c4)),_,_,rfl⟩
        | true=>
         have ac:0<=dN a.deed (x:Int):=of_decide_eq_true c4;have hle:=Du (d:=a.deed) (x:=(x:Int));refine aC ?_;walk_at"";refine aL (ag.of W) a2 ?_;walk_at"";refine aL (ag.of c3) (dR ac (by omega)) ?_;walk_at"";cases hg:u.f (dN a.deed (x:Int)).toNat with
         | true=>
          refine ax ?_;walk_at"";exact⟨rfl,stay (λh=>by rw[hg]at h;cases h.2.2),_,_,rfl⟩
         | false=>
          refine aC ?_;walk_at"";refine q true _ eH ⟨λ_ hcl=>?_,λ_=>rfl⟩;exact hcl a (EF X) k u A c (key.mp ⟨x,cr,hf,ac,hg⟩)
      .rintro σ cp ⟨rfl,as,k5,k6,rfl⟩;refine⟨rfl,yY X hc λu1 u2 c5 c9 ct=>?_,_,_,_,_,_,_,rfl⟩;rw[A]at c5;rw[c]at c9;cases c5;cases c9;obtain⟨x,I,h1,h2,h3⟩:=key.mpr ct;exact as x (by omega) ⟨h1,h2,h3⟩
     .rintro σ bv ⟨rfl,hc,k1,k2,k3,k4,k5,k6,rfl⟩;rw[Ew,b5,EZ]at hc;walk_at"";exact q false _ eH ⟨λh=>(nomatch h),λh=>absurd hc h⟩
def cC.et(e:Et H H'){b:Int}(h:cC H v b s o a):cC H' v b s o a:=by obtain⟨p,q,r,rfl,h1,h2,c⟩:=h;exact⟨p,q,r,rfl,e _ _ h1 (λ_ z=>by cases z),e _ _ h2 (λ_ z=>by cases z),e _ _ c (λ_ z=>by cases z)⟩
theorem dO.et{H H':Hp}(e:Et H H'){vs:List V}{m:Int}{ws:List Way}{x:Bfs.Pl}(h:dO H vs m ws x):dO H' vs m ws x:=⟨h.1,λr v a=>by obtain⟨F,l,d,h1,h2⟩:=h.2 r v a;exact⟨F,l,d,h1.et e,h2⟩⟩
def uD(e:Et H H'){l:Vb}(h:H l=Vn (.lst xs)):H' l=Vn (.lst xs):=e _ _ h (λ_ z=>by cases z)
theorem xO{w:Way}(hd:bY w.deed){f:Nat->Bool}:fM w.deed f g↔∃n:Nat,cI w w.room (n:Int)=true/\f n=true/\g ((n:Int)+rz w.deed).toNat=false:=by
 constructor
 .intro h;unfold fM at h;rcases id hd with a|a|a|a
  .rw[a,Fs (by decide +kernel),Ft rfl]at h;obtain⟨x,h1,h2⟩:=h;exact⟨x,fK rfl (.inl a),h1,by rw[a,iR,show ((x:Int)+1).toNat=x+1 by lia];exact h2⟩
  .rw[a,Fs (by decide +kernel),Fs (by decide +kernel),Ft rfl]at h;obtain⟨x,h1,h2⟩:=h;exact⟨x+1,fK rfl (.inr (.inr (.inl ⟨a,by lia⟩))),h1,by rw[a,jU,show (((x+1:Nat):Int) + -1).toNat=x by lia];exact h2⟩
  .rw[a,Fs (by decide +kernel),Fs (by decide +kernel),Fs (by decide +kernel)]at h;obtain⟨x,h1,h2⟩:=h;exact⟨x,fK rfl (.inr (.inl a)),h1,by rw[a,jB,show ((x:Int)+0).toNat=x by lia];exact h2⟩
  .rw[a,Ft rfl]at h;exact⟨0,fK rfl (.inr (.inr (.inr ⟨a,rfl⟩))),h.1,by rw[a,lL];exact h.2⟩
 .rintro⟨n,ho,h1,h2⟩;unfold fM;rcases gC hd ho with⟨a,b⟩|⟨a,b⟩|⟨a,c,b⟩|⟨a,c,b⟩
  .rw[a,Fs (by decide +kernel),Ft rfl];rw[b,show ((n:Int)+1).toNat=n+1 by lia]at h2;exact⟨n,h1,h2⟩
  .rw[a,Fs (by decide +kernel),Fs (by decide +kernel),Fs (by decide +kernel)];rw[b,show ((n:Int)+0).toNat=n by lia]at h2;exact⟨n,h1,h2⟩
  .rw[a,Fs (by decide +kernel),Fs (by decide +kernel),Ft rfl];rw[b,show ((n:Int) + -1).toNat=n-1 by lia]at h2;exact⟨n-1,by rw[show n-1+1=n by lia];exact h1,h2⟩
  .rw[a,Ft rfl];have:n=0:=by lia
   subst this;rw[b]at h2;exact⟨h1,h2⟩
def Bz{ts:List StT}{x:Bfs.Pl}(ok:∀w∈ws,w.Ok m)(h:∀(r:Nat) (t:StT),ts[r]?=Vn t->∀i:Nat,t.f i=true↔bM ws x ((r:Int),(i:Int))):cls ws ts:=by intro w b g j h1 h2 c;have a:=ok w b;have r0:=a.r0;have o0:=a.o0;obtain⟨n,ho,d,e⟩:=(xO a.dd).mp c;have k1:=(h _ _ h1 n).mp d;rw[EJ r0]at k1;have st:dW ws (w.room,(n:Int)) (w.other,(n:Int)+rz w.deed):=⟨w,b,ho,rfl⟩;have nn:0<=(n:Int)+rz w.deed:=(fN ok st (Int.natCast_nonneg n)).2.2.1;have k2:=(h _ _ h2 ((n:Int)+rz w.deed).toNat).mpr (by rw[EJ o0,EJ nn];exact k1.trans (.one st));rw[e]at k2;cases k2
theorem uI{α β:Type}{R:α->β->Prop}:∀{xs:List α} {S:Nat->β->Prop},(∀(i:Nat) v,xs[i]?=Vn v->∃t,R v t/\S i t)->∃ts,Paired R xs ts/\∀(i:Nat) t,ts[i]?=Vn t->S i t
 | [],_,_=>⟨[],.nil,λi t h=>by simp at h⟩
 | x::xs,S,h=>by
  obtain⟨t,h1,h2⟩:=h 0 x rfl;obtain⟨ts,b,c⟩:=uI (xs:=xs) (S:=λi=>S (i+1)) λi v hi=>h (i+1) v (by simpa using hi);refine⟨t::ts,.cons h1 b,λi u a=>?_⟩;cases i with
  | zero=>cases a;exact h2
  | succ i=>exact c i u (by simpa using a)
theorem dO.sts{x:Bfs.Pl}(h:dO H xs m ws x)(ok:HOuse m ws)(o:cA m x):∃ts,eW H xs ts/\steps ts/\(∀t∈ts,t.s<=81)/\∀(r:Nat) (t:StT),ts[r]?=Vn t->∀i:Nat,t.f i=true↔bM ws x ((r:Int),(i:Int)):=by
 obtain⟨P,h1,c,p⟩:=h.near ok o;obtain⟨ts,q,k⟩:=uI (R:=iD H) (S:=λr t=>t.s ∣ P/\∀i:Nat,t.f i=true↔bM ws x ((r:Int),(i:Int))) (xs:=xs) λr v u=>by obtain⟨F,l,d,j,w,hd,e,z,y⟩:=p r v u;have n:d<=81:=E4 (Nat.le_of_dvd h1 e) c;refine⟨⟨l,d,row F 0 l,row F l d⟩,⟨j,CG F l d hd,(show(l:Int)<=3000 by lia),(show(d:Int)<=840 by lia)⟩,e,λi=>?_⟩;rw[show (StT.mk l d (row F 0 l) (row F l d)).f i=F i from Bj hd w.per i];exact y i
 have hd:∀t∈ts,t.s ∣ P:=λt g=>by obtain⟨i,hi⟩:=Fi g;exact(k i t hi).1
 refine⟨ts,q,λa ha b hb=>?_,λt g=>E4 (Nat.le_of_dvd h1 (hd t g)) c,λr t g=>(k r t g).2⟩;rw[lO];exact E4 (E4 (Nat.le_of_dvd h1 (Nat.lcm_dvd (hd a ha) (hd b hb))) c) (by decide)
def fR(ws:List Way)(x:Bfs.Pl)(r:Int):Nat->Bool:=λi=>@decide (bM ws x (r,(i:Int))) (Classical.propDecidable _)
def C5{x:Bfs.Pl}{i:Nat}:fR ws x r i=true↔bM ws x (r,(i:Int)):=@decide_eq_true_iff _ (Classical.propDecidable _)
def dS(b s:Int)(o a:List Int):PyData:=.tuple [.int b,.int s,.tuple (o.map PyData.int),.tuple (a.map PyData.int)]
def sH{xs:List Int}(h:H q=Vn (.tup (xs.map V.int))):aX H 1 (.ref q) (.tuple (xs.map PyData.int)):=
 .inr ⟨q,_,_,rfl,.inl ⟨h,rfl⟩,nV (λi=>(rfl:i=i)) _⟩
def cC.rep{b:Int}(h:cC H v b s o a):aX H 2 v (dS b s o a):=by obtain⟨p,q,r,rfl,h1,h2,c⟩:=h;exact .inr ⟨p,_,_,rfl,.inl ⟨h1,rfl⟩,.cons (.inl (rfl:b=b)) (.cons (.inl (rfl:s=s)) (.cons (sH h2) (.cons (sH c) .nil)))⟩
def dF(F:Nat->Bool):PyData:=@dite _ (∃p:Nat×Nat,Least F p.2 p.1) (Classical.propDecidable _) (λh=>dS h.choose.1 h.choose.2 (row F 0 h.choose.1) (row F h.choose.1 h.choose.2)) (λ_=>.int 0)
def xJ{F:Nat->Bool}{l:Nat}(h:Least F d l):dF F=dS l d (row F 0 l) (row F l d):=by have a:∃p:Nat×Nat,Least F p.2 p.1:=⟨(l,d),h⟩;unfold dF;rw[dif_pos a];obtain⟨b,c⟩:=a.choose_spec.one h;rw[b,c]
theorem se{R:V->PyData->Prop}{g:Nat->PyData}:∀(xs:List V) (k:Nat),(∀i v,xs[i]?=Vn v->R v (g (k+i)))->Paired R xs ((List.range' k xs.length).map g)
 | [],_,_=>.nil
 | v::xs,k,h=>by show Paired R (v::xs) ((List.range' k (xs.length+1)).map g);rw[List.range'_succ];refine .cons (h 0 v rfl) (se xs (k+1) λi u a=>?_);have:=h (i+1) u a;rw[show k+(i+1)=k+1+i by lia]at this;exact this
theorem dO.rep{H:Hp}{xs:List V}{m:Int}{ws:List Way}{x:Bfs.Pl}{l:Vb}(h:dO H xs m ws x)(c:H l=Vn (.lst xs)):aX H 3 (.ref l) (.list ((List.range' 0 m.toNat).map λr:Nat=>dF (fR ws x (r:Int)))):=by
 have e:xs.length=m.toNat:=by have:=h.1;lia
 rw[<-e];refine .inr ⟨l,_,_,rfl,.inr ⟨c,rfl⟩,se xs 0 λi v g=>?_⟩;obtain⟨F,b,d,a,j,_,_,n⟩:=h.2 i v g;have o:F=fR ws x (i:Int):=funext λk=>by rw[E8,n k,C5]
 subst o;show aX H 2 v (dF (fR ws x ((0+i:Nat):Int)));rw[Nat.zero_add,xJ j];exact a.rep
theorem pK{w:Way}(hd:bY w.deed){n b:Int}:cK w.deed n=Vn b↔cI w w.room n=true/\b=n+rz w.deed:=by
 constructor
 .intro h;refine⟨?_,uH hd h⟩;refine fK rfl ?_;rcases hd with e|e|e|e
  .exact .inl e
  .refine .inr (.inr (.inl ⟨e,?_⟩));rw[e,ia]at h;by_cases a:0<n
   .exact a
   .rw[Fp a]at h;cases h
  .exact .inr (.inl e)
  .refine .inr (.inr (.inr ⟨e,?_⟩));rw[e,iq]at h;by_cases a:n=0
   .exact a
   .rw[Fp a]at h;cases h
 .rintro⟨h,rfl⟩;rcases gC hd h with⟨e,z⟩|⟨e,z⟩|⟨e,a,z⟩|⟨e,a,z⟩<;>rw[z,e]
  .exact jo n
  .rw[ju];congr 1;lia
  .rw[ia,Fq a,Ft rfl];rfl
  .rw[iq,Fq a,Ft rfl];congr 1;lia
def yL(ok:∀w∈ws,w.Ok m){a b:Bfs.Pl}(h:dW ws a b)(e:b.2<=U):∃k,bf ws U a k=some b:=by obtain⟨w,c,ho,rfl⟩:=h;obtain⟨k,g⟩:=List.mem_iff_getElem?.mp c;have d:=gM ho;rw[<-d]at ho;refine⟨k,?_⟩;unfold bf;rw[g,E2,Ft d,(pK (ok w c).dd).mpr ⟨ho,rfl⟩,E2,Ft e]
def zx(ok:∀w∈ws,w.Ok m){a b:Bfs.Pl}{k:Nat}(h:bf ws U a k=Vn b):dW ws a b:=by obtain⟨w,h1,h2,d,e,_⟩:=i4 h;have c:=EF h1;have:=(pK (ok w c).dd).mp d;rw[h2]at this;exact⟨w,c,this.1,Prod.ext e this.2⟩
theorem yc(ok:HOuse m ws){x g:Bfs.Pl}(l:cA m x):bM ws x g↔∃n,Bfs.bz (bf ws (bS m x g)) x n g:=by
 have m1:=ok.m1;constructor
 .rintro⟨n,h⟩;have i:x.2<=(if g.2>x.2 then g.2 else x.2)/\g.2<=(if g.2>x.2 then g.2 else x.2):=by split<;>constructor<;>lia
  obtain⟨o,r,s⟩:=Bfs.cut (S:=dW ws) (m:=m) (by lia) (λp q h=>by
    obtain⟨w,j,ho,rfl⟩:=h;have r1:=wN w.deed;have y:=uk w.deed;show p.2+rz w.deed<=p.2+1/\p.2<=p.2+rz w.deed+1;lia) (λp q c h A h1 h2=>by
    obtain⟨w,j,ho,rfl⟩:=h;refine⟨w,j,fK (gM ho) ?_,Prod.ext rfl (by show p.2+rz w.deed-c=p.2-c+rz w.deed;lia)⟩;rcases gC (ok.ok w j).dd ho with⟨e,z⟩|⟨e,z⟩|⟨e,u,z⟩|⟨e,u,z⟩
    .exact .inl e
    .exact .inr (.inl e)
    .exact .inr (.inr (.inl ⟨e,by show 0<p.2-c;lia⟩))
    .omega) (λp q h=>by
    obtain⟨w,j,ho,rfl⟩:=h;exact⟨(ok.ok w j).o0,(ok.ok w j).o1⟩) (b:=if g.2>x.2 then g.2 else x.2) (Int.le_trans l.2.2.1 i.1) n x g h l.1 l.2.1 i.1 i.2
  have wk:Bfs.Wk (bf ws (bS m x g)) x o g:=s.wk (λa c h=>yL ok.ok h.1 h.2);obtain⟨k,_,v⟩:=Bfs.zZ o wk;exact⟨k,v⟩
 .rintro⟨n,d⟩;exact⟨n,d.1.rw.imp λa c h=>zx ok.ok h.choose_spec⟩
def B4(ok:HOuse m ws){x:Bfs.Pl}(a:bD m U x)(h:Bfs.Wk (bf ws U) x n y):bD m U y:=by
 induction h with
 | zero=>exact a
 | succ _ b c=>exact l8 ok c.2.2.1 b
inductive xi(K:Eo)(vs:List V)(H:Hp)(Q:VK)(E:XK):Prop|mk:∀a m ws b ga x g,vs=[a,.ref b,.ref ga]->bh H a m ws->HOuse m ws->aE H b x->aE H ga g->cA m x->cA m g->fW K->Tbs K H->(∀n ks p l H',Bfs.bz (bf ws (bS m x g)) x n g->n<=24012->Ext H H'->H l=Vo->H' p=Vn (.tup [.str "walk",.ref l])->H' l=Vn (.lst (cj ks))->ks.length=n->Bfs.gone (nx:=bf ws (bS m x g)) x ks=Vn g->Q (.ref p) H')->((∀n,¬Bfs.bz (bf ws (bS m x g)) x n g)->∀p l xs H',Et H H'->Tbs K H'->(∀o,H l=Vn o->∃ps,o=.tbl ps)->H' p=Vn (.tup [.str "never",.ref l])->H' l=Vn (.lst xs)->dO H' xs m ws x->Q (.ref p) H')->xi K vs H Q E
def yN(T:Bu w mg base):Cal P w K mg base "answer" 11 ["house","place","goal"] (xi K):=by
 refine(ef T.d_answer).oS ["house","place","goal","walk"] λA nd H vs Q E h=>?_;obtain⟨B,m,ws,C,ga,x,g,rfl,F,ok,c,d,G,I,e,j,J,L⟩:=h;refine⟨_,(av (aG (i:=3) nd rfl oi (aB (yK T) A (ae (pv 0) (ae (pv 1) (ae (pv 2) aa)))))
   (av (aY (aN AK (pv 3) jg (aJ _)) (aw (aD (bG (ae aU (ae (aB (uN T) A (ae (pv 0) (ae (pv 1) aa))) aa))))) aQ)
   (aw (aD (bG (ae aU (ae (pv 3) aa))))))),?_⟩
 walk_at"";refine⟨B,m,ws,C,ga,x,g,rfl,F,ok,c,d,G,I,λk H1 a=>?_,λn wl H1 ks M N a q r s u=>?_⟩
 .walk_at"";refine⟨rfl,?_⟩;refine rd_exb (aC ?_);walk_at"";refine⟨B,m,ws,C,x,rfl,F.ext a,ok,a _ _ c,G,e,j.ext a,λl xs H2 O R v S U=>?_⟩;walk_at"";refine aO λp y b z _=>?_;exact L k p l xs y (a.et.trans (O.trans b.et)) (R.ext b) (λo ho=>v o (a _ _ ho)) z (b _ _ S) (U.ext b)
 .walk_at"";refine⟨rfl,?_⟩;refine rd_exb (ax ?_);walk_at"";refine aO λp y b z _=>?_;exact J n ks p wl y M N (a.trans b) q z (b _ _ r) s u
abbrev nR(m n:Int):Prop:=n<=1000/\(n<=40\/(n<=200/\m<=5)\/m<=4)
abbrev jl(m:Int)(x:Bfs.Pl):Prop:=0<=x.1/\x.1<m/\0<=x.2/\nR m x.2
inductive qD(K:Eo)(vs:List V)(H:Hp)(Q:VK)(E:XK):Prop|mk:∀a ns v m ws k p,vs=[.ref a,v,.int k,.int p]->ag K H a (List.map V.int ns)->ns.length<=63->bh H v m ws->1<=m->0<=k->0<p->(∀f (as:List Vb) H',Ext H H'->H' f=Vn (.lst (as.map V.ref))->as.length=2->(∀b∈as,∃x,aE H' b x/\jl m x)->Q (.ref f) H')->qD K vs H Q E
theorem BU(T:Bu w mg base):Cal P w K mg base "_law_places" 3 ["_law_script","_law_house_here","_law_k","_law_prime"] (qD K):=by
 refine(jK T.d__law_places).oS ["_law_script","_law_house_here","_law_k","_law_prime","_law_found","_law_j","_law_draws_here","_law_number"] λhr nd H vs Q E h=>?_;obtain⟨a,ns,v,m,ws,k,p,rfl,ha,hl,hv,m1,hk,hp,q⟩:=h;obtain⟨M,t,rfl,k1,k2⟩:=id hv;refine⟨_,(@av _ _ _ _ _ (@aG _ _ 4 _ _ _ _ nd rfl oi (@bp _ _ _ _ aa) rfl oi)
   (@av _ _ _ _ _ (bt PassesOwn.never rfl (cM rfl T.range_ (aq af aa rfl)) (aI (i:=5) nd rfl oi) (@av _ _ _ _ _ (@aG _ _ 6 _ _ _ _ nd rfl oi (aB (jR T) hr (aq (aB (vO T) hr (aq (pv 0) (aq (aA aV (pv 2) (pv 5)) aa rfl) rfl)) (aq (@bp _ _ _ _ (i6 (.c (.c (.c (.c (.c .n))))))) (aq (pv 3) aa rfl) rfl) rfl)) rfl oi)
   (@av _ _ _ _ _ (@aG _ _ 7 _ _ _ _ nd rfl oi (@ao _ _ _ _ _ _ _ (aM K) (pv 6) af (λ_ _=>rfl)) rfl oi)
   (@av _ _ _ _ _ (cJ (PW.pt (eT (aN bH (@ao _ _ _ _ _ _ _ (aM K) (pv 6) af (λ_ _=>rfl)) af (aJ _)) (fS (aN dj (@ao _ _ _ _ _ _ _ (az K) (pv 1) af (λ_ _=>rfl)) af (aJ _))))) (@aw _ _ _ (@aG _ _ 7 _ _ _ _ nd rfl oi (@ao _ _ _ _ _ _ _ (aM K) (pv 6) af (λ_ _=>rfl)) rfl oi)) aQ)
   (@av _ _ _ _ _ (cJ (aN bH (@ao _ _ _ _ _ _ _ (aM K) (pv 6) af (λ_ _=>rfl)) af (aJ _)) (@aw _ _ _ (@aG _ _ 7 _ _ _ _ nd rfl oi (aA cw (@ao _ _ _ _ _ _ _ (aM K) (pv 6) af (λ_ _=>rfl)) (@ao _ _ _ _ _ _ _ (aM K) (@bp _ _ _ _ (aq af (aq af aa rfl) rfl)) (ic Ak rfl T.int_ PyProof.Rows.boot_int (aq (cY eB (@ao _ _ _ _ _ _ _ (az K) (pv 1) af (λ_ _=>rfl)) af (aJ _)) aa rfl)) (λ_ _=>rfl))) rfl oi)) aQ)
   (@aw _ _ _ (bj (bL K ED ES ET bR (pv 4) (aq (@bG _ _ _ _ _ (aq (aA cw (@ao _ _ _ _ _ _ _ (aM K) (pv 6) af (λ_ _=>rfl)) (@ao _ _ _ _ _ _ _ (az K) (pv 1) af (λ_ _=>rfl))) (aq (pv 7) aa rfl) rfl)) aa rfl)))))))))
   (@aw _ _ _ (@aD _ _ _ _ (pv 4))))),?_⟩
 walk_at"";refine aO λf H1 e1 hf hfn=>?_;walk_at""
 try refine cN (by decide) ?_
 refine forR (λi σ H'=>∃N O R as,σ=[Vn (.ref a),Vn (.ref M),Vn (.int k),Vn (.int p),Vn (.ref f),N,O,R]/\Ext H H'/\H' f=Vn (.lst (List.map V.ref as))/\as.length=i/\∀b∈as,∃x,aE H' b x/\jl m x) ⟨_,_,_,[],rfl,e1,hf,rfl,λb h=>(nomatch h)⟩ ?_ ?_
 .rintro i σ H2 hi ⟨N,O,R,as,rfl,s,e,has,hall⟩;walk_at"";refine⟨a,ns,k+(0+(i:Int)),rfl,ha.ext s,hl,by lia,λz=>?_⟩;walk_at"";refine aO λw0 H3 e3 u _=>?_;walk_at"";refine⟨z,w0,[12,8,13,201,1001],p,rfl,u,by decide,by decide,hp,λdq ds H4 e4 hd S d hb=>?_⟩;have g:=e3.trans e4;have y:=s.trans g;have U:=g _ _ e;have l:∀b∈as,∃x,aE H4 b x/\jl m x:=λb hb=>by obtain⟨x,h1,h2⟩:=hall b hb;exact⟨x,g _ _ h1,h2⟩
  obtain⟨d0,g0,_⟩:=cL d hb 0 rfl;obtain⟨d1,g1,_⟩:=cL d hb 1 rfl;obtain⟨d2,g2,A,a1⟩:=cL d hb 2 rfl;obtain⟨J,g3,a2,a3⟩:=cL d hb 3 rfl;obtain⟨d4,g4,W,a4⟩:=cL d hb 4 rfl;have o:=y _ _ k1;clear g e3 e4 u e hall s hb d S;walk_at"";refine aL (ag.of hd) g2 ?_;walk_at"";refine gN (λσ H'=>∃nb,σ=[Vn (.ref a),Vn (.ref M),Vn (.int k),Vn (.int p),Vn (.ref f),Vn (.int (0+(i:Int))),Vn (.ref dq),Vn (.int nb)]/\0<=nb/\nR m nb/\H'=H4) ?_ ?_
  .walk_at"";refine aL (ag.of hd) g1 ?_;walk_at"";by_cases B:d1=7
   .rw[Fq B];refine aC ?_;walk_at"";refine ay (ah.of o) (v:=.int m) rfl ?_;walk_at"";by_cases C:m<5
    .rw[Fq C];refine aC ?_;walk_at"";refine aL (ag.of hd) g4 ?_;walk_at"";exact⟨d4,rfl,W,⟨by lia,by lia⟩,rfl⟩
    .rw[Fp C];refine ax ?_;walk_at"";exact⟨d2,rfl,A,⟨by lia,by lia⟩,rfl⟩
   .rw[Fp B];refine ax ?_;walk_at"";exact⟨d2,rfl,A,⟨by lia,by lia⟩,rfl⟩
  .rintro σ H5 ⟨nb,rfl,X,Y,rfl⟩;walk_at"";refine gN (λσ H'=>∃nb,σ=[Vn (.ref a),Vn (.ref M),Vn (.int k),Vn (.int p),Vn (.ref f),Vn (.int (0+(i:Int))),Vn (.ref dq),Vn (.int nb)]/\0<=nb/\nR m nb/\Ext H5 H') ?_ ?_
   .walk_at"";refine aL (ag.of hd) g1 ?_;walk_at"";by_cases h6:d1=6
    .rw[Fq h6];refine aC ?_;walk_at"";refine aL (ag.of hd) g3 ?_;walk_at"";refine aO λL H6 j F _=>?_;walk_at"";refine ay (ah.of (j _ _ o)) (v:=.int m) rfl ?_;walk_at"";by_cases C:5<m
     .rw[Fq C,Ft rfl];refine aL (ag.of F) (v:=.int 40) rfl ?_
      try refine rd_I (show(0:Int)<40 by decide) ?_
      walk_at"";exact⟨J % 40,rfl,Int.emod_nonneg _ (by decide),by have:=Int.emod_lt_of_pos J (show(0:Int)<40 by decide);exact⟨by lia,by lia⟩,j⟩
     .rw[Fp C,Fs EL];refine aL (ag.of F) (v:=.int 201) rfl ?_
      try refine rd_I (show(0:Int)<201 by decide) ?_
      walk_at"";exact⟨J % 201,rfl,Int.emod_nonneg _ (by decide),by have:=Int.emod_lt_of_pos J (show(0:Int)<201 by decide);exact⟨by lia,by lia⟩,j⟩
    .rw[Fp h6];refine ax ?_;walk_at"";exact⟨nb,rfl,X,Y,Ext.rfl' _⟩
   .rintro σ H6 ⟨nb,rfl,X,Y,j⟩;have G:=j _ _ U;walk_at"";refine⟨df (ag.of G),?_⟩;walk_at"";refine aL (ag.of (j _ _ hd)) g0 ?_;walk_at"";refine ay (ah.of (j _ _ o)) (v:=.int m) rfl ?_
    try refine rd_I (show(0:Int)<m by lia) ?_
    walk_at"";refine aO λpa H7 Z I _=>?_;have r:=Z _ _ G;walk_at"";refine bN r (fm (by rw[Ew];lia)) ?_;walk_at"";refine⟨_,_,_,as++[pa],rfl,bK (y.trans (j.trans Z)) hfn,by rw[aK,EM];rfl,by rw[EN,has];rfl,λb hb=>?_⟩;rcases EU.mp hb with L|L
    .obtain⟨x,h1,h2⟩:=l b L;have B:aE H7 b x:=(j.trans Z) _ _ h1;refine⟨x,?_,h2⟩;show upd _ _ _ _=_;rw[aF (bZ B r (by intro z;cases z))];exact B
    .rw[EG.mp L];refine⟨(d0 % m,nb),?_,Int.emod_nonneg _ (by lia),Int.emod_lt_of_pos _ (by lia),X,Y⟩;show upd _ _ _ _=_;rw[aF (bZ I r (by intro z;cases z))];exact I
 .rintro σ H2 ⟨N,O,R,as,rfl,s,e,has,hall⟩;walk_at"";exact q f as H2 s e has hall
inductive qJ(K:Eo)(vs:List V)(H:Hp)(Q:VK)(E:XK):Prop|mk:∀a m ws b ga sl x g xs,vs=[a,.ref b,.ref ga,.ref sl]->bh H a m ws->HOuse m ws->aE H b x->aE H ga g->cA m x->cA m g->H sl=Vn (.lst xs)->dO H xs m ws x->¬bM ws x g->fW K->Tbs K H->(∀H',Q (.bl true) H')->qJ K vs H Q E
theorem xx(T:Bu w mg base):Cal P w K mg base "_law_never_right" 11 ["_law_house_here","_law_place","_law_goal","_law_stairs"] (qJ K):=by
 refine(jK T.d__law_never_right).oS ["_law_house_here","_law_place","_law_goal","_law_stairs"] λl nd H vs Q E h=>?_;obtain⟨vh,m,ws,pa,ga,sl,x,g,xs,rfl,N,ok,U,hg,A,O,a,W,X,Y,tb,q⟩:=h;have m1:=ok.m1;have m2:=ok.m12;have fl:=W.1;obtain⟨ts,S,st,_,F⟩:=W.sts ok A;have c:=Bz ok.ok F;have hlen:=S.len;obtain⟨a6,ab,rfl,hh,_⟩:=id N;have x0:=A.1;have x1:=A.2.1;have x2:=A.2.2.1;have g0:=O.1;have g1:=O.2.1;have g2:=O.2.2.1;obtain⟨t1,u⟩:∃t,ts[x.1.toNat]?=Vn t:=⟨_,Ex (by lia)⟩;obtain⟨t2,y⟩:∃t,ts[g.1.toNat]?=Vn t:=⟨_,Ex (by lia)⟩;obtain⟨v1,Z,B⟩:=f6 S u;obtain⟨v2,a1,C⟩:=f6 S y;have f1:t1.f x.2.toNat=true:=(F _ _ u _).mpr (by rw[EJ x0,EJ x2];exact .refl);have f2:t2.f g.2.toNat=false:=Bool.eq_false_iff.mpr λh=>X (by have:=(F _ _ y _).mp h;rw[EJ g0,EJ g2]at this;exact this);refine⟨_,(@av _ _ _ _ _ (@aY _ _ _ _ _ _ _ _ (PW.pt (bJ (bB (a0 (aS c8 rfl T.isinstance_ PyProof.Rows.boot_isinstance (aq (pv 3) (aq (dh (v:=.ty "list") rfl T.list_ PyProof.Rows.boot_list rfl) aa rfl) rfl)))) (bJ (aN dY (aS (cq K) rfl T.len_ PySem.boot_len (aq (pv 3) aa rfl)) (@ao _ _ _ _ _ _ _ (az K) (pv 0) af (λ_ _=>rfl)) (aJ _)) (b9 (bB (a0 (aS (ie K rfl) rfl T.all_ PyProof.Rows.boot_all (aq (cn ["_law_one"] [] (bP K (pv 3)) (λ_=>(aI (i:=0) (show(["_law_one"]:List Vm).Nodup from by decide +kernel) rfl oi oj)) (λ_=>cz) (λ_=>(aB (y6 T) l (aq (pv 0) aa rfl)))) aa rfl)))))))) (@aw _ _ _ (@aD _ _ _ _ a7)) aQ)
   (@av _ _ _ _ _ (@aY _ _ _ _ _ _ _ _ (PW.pt (bJ (bB (a0 (aB (oZ T) l (aq (@ao _ _ _ _ _ _ _ (aM K) (pv 3) (@ao _ _ _ _ _ _ _ (az K) (pv 1) af (λ_ _=>rfl)) (λ_ _=>rfl)) (aq (@ao _ _ _ _ _ _ _ (az K) (pv 1) af (λ_ _=>rfl)) aa rfl) rfl)))) (b9 (a0 (aB (oZ T) l (aq (@ao _ _ _ _ _ _ _ (aM K) (pv 3) (@ao _ _ _ _ _ _ _ (az K) (pv 2) af (λ_ _=>rfl)) (λ_ _=>rfl)) (aq (@ao _ _ _ _ _ _ _ (az K) (pv 2) af (λ_ _=>rfl)) aa rfl) rfl)))))) (@aw _ _ _ (@aD _ _ _ _ a7)) aQ)
   (@av _ _ _ _ _ (@aY _ _ _ _ _ _ _ _ (PW.pt (bJ (a0 (aB (yE T) l (aq (pv 0) (aq (pv 3) aa rfl) rfl))) (b9 (aN (uo l) (pv 3) (aB (uN T) l (aq (pv 0) (aq (pv 1) aa rfl) rfl)) (aJ _))))) (@aw _ _ _ (@aD _ _ _ _ a7)) aQ)
   (@aw _ _ _ (@aD _ _ _ _ (cY Dn (aB (yP T) l (aq (pv 0) (aq (pv 1) (aq (pv 2) (aq (pv 3) aa rfl) rfl) rfl) rfl)) a7 (aJ _))))))),?_⟩
 walk_at"";refine cS (n:="list") (.inl ⟨rfl,xs,a⟩) (b:=true) rfl ?_;walk_at"";refine ax ?_;walk_at"";refine dU (ag.of a) ?_;walk_at"";refine ay (ah.of hh) (v:=.int m) rfl ?_;walk_at"";rw[Fq fl];refine ax ?_;walk_at"";refine bO (ag.of a) ?_;refine dP (xs:=xs) (λj ys H'=>Ext H H'/\ys=(Ff j true).map V.bl) (dQ (by lia)) ⟨Ext.rfl' _,rfl⟩ (λj ys H' _ h=>⟨ag.of (h.1 _ _ a),by rw[h.2,Ew,List.length_replicate];exact ER _⟩) ?_ ?_
 .rintro j v ys H2 a2 ⟨G,rfl⟩;obtain⟨t,_,R⟩:=cV S a2;walk_at"";refine aC ?_;walk_at"";exact⟨v,_,_,_,_,rfl,(R.ext G).1,⟨R.2.ok,by have:=R.2.b3;have:=R.2.s8;lia⟩,λH3 e=>⟨G.trans e,nj j true⟩⟩
 rintro ys H2 p ⟨G,rfl⟩ I;have e:=G.trans (a8 (o:=.lst ((Ff xs.length true).map V.bl)) I);walk_at"";refine⟨p,_,rfl,ag.of aK,?_⟩;rw[qB];generalize upd H2 p _=H3 at e ⊢;clear G I;walk_at"";refine ax ?_;have J:=e _ _ U;have L:=e _ _ hg;have k:=e _ _ a;walk_at"";refine ay (ah.of J) (v:=.int x.1) rfl ?_;walk_at"";refine aL (ag.of k) (iM x0 Z) ?_;walk_at"";refine ay (ah.of J) (v:=.int x.2) rfl ?_;walk_at"";refine⟨_,x.2,_,_,_,_,rfl,(B.ext e).1,B.2,?_⟩;rw[kT x2,f1];walk_at"";refine ax ?_;walk_at"";refine ay (ah.of L) (v:=.int g.1) rfl ?_;walk_at"";refine aL (ag.of k) (iM g0 a1) ?_;walk_at"";refine ay (ah.of L) (v:=.int g.2) rfl ?_;walk_at"";refine⟨_,g.2,_,_,_,_,rfl,(C.ext e).1,C.2,?_⟩;rw[kT g2,f2];refine rd_exb (ax ?_);walk_at"";refine⟨_,m,ws,sl,xs,ts,rfl,N.ext e,ok,k,S.ext e,fl,st,λr H4 e4 l=>?_⟩;have a3:r=false:=Bool.eq_false_iff.mpr λh=>l.mp h c;subst a3;refine rd_exb (ax ?_);have s:=e.trans e4;walk_at"";refine⟨_,m,ws,pa,x,rfl,N.ext s,ok,s _ _ U,A,Y,tb.ext s,λl2 ac H5 e5 _ _ a4 a5=>?_⟩;have d:=s.et.trans e5;have M:=(W.et d).rep (uD d a);walk_at"";refine⟨3,3,_,_,M,a5.rep a4,by decide,?_⟩;rw[SeqAt.eqv_refl _ (aX.lay 3 M).1];refine rd_exb (ax ?_);have S5:eW H5 xs ts:=Paired.imp' (λ_ _ z=>⟨z.1.et d,z.2⟩) S;walk_at"";refine⟨_,pa,ga,.ref sl,m,ws,ts,x,g,t1,t2,rfl,N.et d,ok,⟨sl,xs,rfl,uD d a,by lia,fl,S5,st⟩,U.et d,hg.et d,A,O,c,u,y,f1,f2,λH6 _=>?_⟩;walk_at"";exact⟨_,_,rfl,rfl,q _⟩
inductive j1(K:Eo)(vs:List V)(H:Hp)(Q:VK)(E:XK):Prop|mk:∀(a:Vb) (ns:List Int),vs=[.ref a]->ag K H a (ns.map V.int)->ns.length<=63->(∀y∈(["kept","low_levels","risen"]:List Vm),∀c T,PySem.W.tabIn K y=Vn (c,T)->H T=Vn (.tbl #[]))->fW K->(∀H',Q (.bl true) H')->j1 K vs H Q E
abbrev oq(x:Bfs.Pl):PyData:=.tuple [.int x.1,.int x.2]
def uE{b:Vb}{x:Bfs.Pl}(h:aE H b x):aX H 1 (.ref b) (oq x):=
 .inr ⟨b,_,_,rfl,.inl ⟨h,rfl⟩,.cons rfl (.cons rfl .nil)⟩
def Af(x:Bfs.Pl):PyData.eqv (oq x) (oq x)=true:=by simp[PyData.eqv,PyData.eqvAll]
theorem BF{x g:Bfs.Pl}(m1:1<=m)(e:m<=12)(c:jl m x)(d:jl m g):m*(bS m x g+1)<=20000:=by
 obtain⟨_,_,h,i,c⟩:=c;obtain⟨_,_,j,k,d⟩:=d;have hb:(if g.2>x.2 then g.2 else x.2)<=40\/((if g.2>x.2 then g.2 else x.2)<=200/\m<=5)\/((if g.2>x.2 then g.2 else x.2)<=1000/\m<=4):=by split<;>lia
 unfold bS;generalize (if g.2>x.2 then g.2 else x.2)=b at hb;have a:m=1\/m=2\/m=3\/m=4\/m=5\/m=6\/m=7\/m=8\/m=9\/m=10\/m=11\/m=12:=by lia
 rcases a with rfl|rfl|rfl|rfl|rfl|rfl|rfl|rfl|rfl|rfl|rfl|rfl<;>lia
abbrev f9:Stmt:=stq 99
def rG:FnScope ["_law_script","_law_house_here","_law_place","_law_goal","_law_found","_law_near","_law_gone_here"] ["_law_script"] (cx f9):=⟨rfl,rfl,rfl,by decide +kernel,rfl,by decide +kernel,by decide +kernel⟩
theorem xM{f:Vb}{fd:Vl}(F:Fun K "law" "law" f9 f fd)(T:Bu w mg base):FnOk P w K mg base dv 12 f fd ["_law_script"] (j1 K):=by
 have nd:=(rG).nd;refine F.ok rG (λvs H Q E h=>?_) (λcdv A outer s H vs Q E B h=>?_)
 .obtain⟨a,ns,rfl,_⟩:=h;rfl
 .obtain⟨a,ns,rfl,ha,hl,L,Z,q⟩:=h;have J:Tbs K H:=⟨λc T e=>.inl (L _ (by simp) c T e),λc T e=>.inl (L _ (by simp) c T e),λc T e=>.inl (L _ (by simp) c T e)⟩;clear L;refine⟨_,(@av _ _ _ _ _ (@aG _ _ 1 _ _ _ _ nd rfl oi (aB (xy T) B (aq (aB (vO T) B (aq (pv 0) (aq af aa rfl) rfl)) (aq af aa rfl) rfl)) rfl oi)
    (@av _ _ _ _ _ (@eM _ _ _ _ _ _ (aB (BU T) B (aq (pv 0) (aq (pv 1) (aq af (aq af aa rfl) rfl) rfl) rfl)) (sU (n:=2) K rfl (br (aI (i:=2) nd rfl oi) (br (aI (i:=3) nd rfl oi) eA))) rfl rfl rfl)
    (@av _ _ _ _ _ (@aG _ _ 4 _ _ _ _ nd rfl oi (aB (yN T) B (aq (pv 1) (aq (pv 2) (aq (pv 3) aa rfl) rfl) rfl)) rfl oi)
    (@av _ _ _ _ _ (@aY _ _ _ _ _ _ _ _ (PW.pt (bJ (bB (a0 (aS c8 rfl T.isinstance_ PyProof.Rows.boot_isinstance (aq (pv 4) (aq (dh (v:=.ty "tuple") rfl T.tuple_ PyProof.Rows.boot_tuple rfl) aa rfl) rfl)))) (b9 (aN dY (aS (cq K) rfl T.len_ PySem.boot_len (aq (pv 4) aa rfl)) af (aJ _))))) (@aw _ _ _ (@aD _ _ _ _ a7)) aQ)
    (@av _ _ _ _ _ (@aG _ _ 5 _ _ _ _ nd rfl oi (aB (AI T) B (aq (pv 1) (aq (pv 2) (aq (aA aV (aS (jC rfl) rfl T.max_ PyProof.Rows.boot_max (aq (@ao _ _ _ _ _ _ _ (az K) (pv 2) af (λ_ _=>rfl)) (aq (@ao _ _ _ _ _ _ _ (az K) (pv 3) af (λ_ _=>rfl)) aa rfl) rfl)) (aA eJ (@ao _ _ _ _ _ _ _ (az K) (pv 1) af (λ_ _=>rfl)) (@ao _ _ _ _ _ _ _ (az K) (pv 1) af (λ_ _=>rfl)))) aa rfl) rfl) rfl)) rfl oi)
    (@av _ _ _ _ _ (@aY _ _ _ _ _ _ _ _ (iO (iH (dM B) (pv 3) (pv 5)) (by with_unfolding_all rfl)) (@aw _ _ _ (@aD _ _ _ _ (cG (cY bH (@ao _ _ _ _ _ _ _ (az K) (pv 4) af (λ_ _=>rfl)) aU (aJ _)) (cQ (aB (xx T) B (aq (pv 1) (aq (pv 2) (aq (pv 3) (aq (@ao _ _ _ _ _ _ _ (az K) (pv 4) af (λ_ _=>rfl)) aa rfl) rfl) rfl) rfl)))))) aQ)
    (@av _ _ _ _ _ (@aY _ _ _ _ _ _ _ _ (PW.pt (bJ (aN dY (@ao _ _ _ _ _ _ _ (az K) (pv 4) af (λ_ _=>rfl)) aU (aJ _)) (bJ (bB (a0 (aB (yf T) B (aq (@ao _ _ _ _ _ _ _ (az K) (pv 4) af (λ_ _=>rfl)) (aq af aa rfl) rfl)))) (b9 (aN dY (aS (cq K) rfl T.len_ PySem.boot_len (aq (@ao _ _ _ _ _ _ _ (az K) (pv 4) af (λ_ _=>rfl)) aa rfl)) (ko (dM B) (pv 5) (pv 3) (λ_ _=>rfl)) (aJ _)))))) (@aw _ _ _ (@aD _ _ _ _ a7)) aQ)
    (@av _ _ _ _ _ (@aG _ _ 6 _ _ _ _ nd rfl oi (aB (yM T) B (aq (pv 1) (aq (pv 2) (aq (@ao _ _ _ _ _ _ _ (az K) (pv 4) af (λ_ _=>rfl)) aa rfl) rfl) rfl)) rfl oi)
    (@aw _ _ _ (@aD _ _ _ _ (cG (cY wC (pv 6) jg (aJ _)) (cQ (cY (zR B) (@ao _ _ _ _ _ _ _ (aM K) (pv 6) (gR gY af) (λ_ _=>rfl)) (pv 3) (aJ _)))))))))))))),?_⟩
  walk_at"";refine⟨a,ns,0,rfl,ha,hl,by decide,λz=>?_⟩;walk_at"";refine⟨z,_,rfl,by decide,λv m ws H1 e1 hv ok3=>?_⟩;have ok:=ok3.house;clear ok3;have m1:=ok.m1;have m2:=ok.m12;walk_at"";refine⟨a,ns,v,m,ws,1,_,rfl,ha.ext e1,hl,hv,m1,by decide,by decide,λf0 as H2 e2 a1 has hall=>?_⟩;obtain⟨M,ga,rfl⟩:∃u w,as=[u,w]:=by
   match as,has with
   | [u,w],_=>exact⟨u,w,rfl⟩
  obtain⟨x,hx,sx⟩:=hall M (by simp);obtain⟨g,hg,sg⟩:=hall ga (by simp);have an:=BF m1 m2 sx sg;obtain⟨x0,x1,x2,x3,_⟩:=sx;obtain⟨g0,g1,g2,g3,_⟩:=sg;have ix:cA m x:=⟨x0,x1,x2,x3⟩;have ig:cA m g:=⟨g0,g1,g2,g3⟩;have C:=hv.ext e2;have N:=J.ext (e1.trans e2);clear hall has J hv ha e1 e2;refine w5 (ag.of (show H2 f0=Vn (.lst [.ref M,.ref ga])from a1)) rfl ?_;clear a1;walk_at"";have ar:m*m<=12*12:=Int.mul_le_mul m2 m2 (by lia) (by decide);have ap:0<=m*m:=E1 (by lia) (by lia);have L:=qX (m:=m) (x:=x) (g:=g) (by lia) m2 (by lia) (by lia);have O:=(tP (m:=m) (x:=x) (g:=g) (by lia)).1;refine⟨v,m,ws,M,ga,x,g,rfl,C,ok,hx,hg,ix,ig,Z,N,λn ks p l H3 hD hn G ad I a2 ai aj=>?_,λa3 p l xs H3 G ak _ I am fw=>?_⟩
  .have d:=C.ext G;have j:=G _ _ hx;have o:=G _ _ hg;have au:(n:Int)<=m*(bS m x g+1)-1:=Bfs.bz.few (by lia) (by lia) hD λk z hz=>by have:=B4 ok (U:=bS m x g) ⟨x0,x1,x2,O⟩ hz;exact⟨this.1,this.2.1,this.2.2.1,this.2.2.2⟩
   obtain⟨hh,t,rfl,k1,k2⟩:=id d;clear C hx hg N G;walk_at"";refine cS (n:="tuple") (.inr ⟨rfl,_,I⟩) (b:=true) rfl ?_;walk_at"";refine ax ?_;walk_at"";refine gK (ah.of I) ?_;walk_at"";refine ax ?_;walk_at"";refine ay (ah.of j) (v:=.int x.2) rfl ?_;walk_at"";refine ay (ah.of o) (v:=.int g.2) rfl ?_;walk_at"";refine ay (ah.of k1) (v:=.int m) rfl ?_;walk_at"";refine ay (ah.of k1) (v:=.int m) rfl ?_;walk_at""
   try refine rd_I (.inl ⟨by lia,by lia⟩) ?_
   walk_at"";refine⟨_,m,ws,M,x,bS m x g,rfl,d,ok,j,⟨x0,x1,x2,O⟩,L,λf H4 kvs fl y hf pk R hds hal=>?_⟩;obtain⟨e,he,S⟩:=List.mem_map.mp (hal n g hD.1);have a4:e.2=n:=Bfs.bz.uniq (nx:=bf ws (bS m x g)) (s:=x) (hds e he) (by rw[S];exact hD);obtain⟨v1,W,a5⟩:=gE (λ_ _ z=>z.1) pk R he;rw[S]at W;obtain rfl:v1=.int ((n:Nat):Int):=by rw[<-a4];exact a5.2
   have dg:∀H',Ext H4 H'->cP H' f (.ref ga) (some (.int ((n:Nat):Int))):=λH' eH=>by rw[<-W];exact cP.t (eH _ _ hf) (k:=aZ g) ((y.trans eH) _ _ o)
   have X:=y _ _ I;have a6:=y _ _ a2;clear W a5 hal hds R pk a4 S he I a2 ad;walk_at"";refine⟨f,_,rfl,dg _ (Ext.rfl' _),?_⟩;refine rd_exb (ax ?_);walk_at"";refine ay (ah.of X) (v:=.str "walk") rfl ?_;walk_at"";refine oK (rd_exb ?_);rw[Fq rfl];refine ax ?_;walk_at"";refine ay (ah.of X) (v:=.ref l) rfl ?_;walk_at"";refine⟨l,_,ks,rfl,a6,by lia,by lia,λH6 e6=>?_⟩;have ab:=e6 _ _ a6;have ac:=e6 _ _ X;walk_at"";refine ax ?_;walk_at"";refine ay (ah.of ac) (v:=.ref l) rfl ?_;walk_at"";refine dU (ag.of ab) ?_;walk_at"";refine⟨f,_,rfl,dg _ e6,?_⟩;walk_at"";rw[Fq (show(((cj ks).length:Nat):Int)=(n:Int) by rw[Ew,ai])];refine ax ?_;walk_at"";refine ay (ah.of ac) (v:=.ref l) rfl ?_;walk_at"";have Y:=y.trans e6;refine⟨_,m,ws,M,l,bS m x g,x,g,ks,rfl,d.ext Y,ok,Y _ _ j,ab,by lia,aj,λr H7 zs b e7 B hb=>?_⟩;walk_at"";refine⟨rfl,?_⟩;refine rd_exb (aC ?_);walk_at"";refine aL (ag.of B) (vm _ _) ?_;walk_at"";refine⟨1,1,_,_,uE hb,uE ((Y.trans e7) _ _ o),by decide,?_⟩;rw[Af];exact q _
  .have d:=C.et G;have j:=hx.et G;have o:=hg.et G;obtain⟨hh,t,rfl,k1,k2⟩:=id d;clear C hx hg N G;walk_at"";refine cS (n:="tuple") (.inr ⟨rfl,_,I⟩) (b:=true) rfl ?_;walk_at"";refine ax ?_;walk_at"";refine gK (ah.of I) ?_;walk_at"";refine ax ?_;walk_at"";refine ay (ah.of j) (v:=.int x.2) rfl ?_;walk_at"";refine ay (ah.of o) (v:=.int g.2) rfl ?_;walk_at"";refine ay (ah.of k1) (v:=.int m) rfl ?_;walk_at"";refine ay (ah.of k1) (v:=.int m) rfl ?_;walk_at""
   try refine rd_I (.inl ⟨by lia,by lia⟩) ?_
   walk_at"";refine⟨_,m,ws,M,x,bS m x g,rfl,d,ok,j,⟨x0,x1,x2,O⟩,L,λf H4 kvs fl y hf pk R hds hal=>?_⟩;walk_at"";refine⟨f,_,rfl,cP.t hf (k:=aZ g) (y _ _ o),?_⟩;rw[hZ (λ_ _ z=>z.1) pk (λhin=>by obtain⟨e,he,rfl⟩:=List.mem_map.mp hin;exact a3 e.2 (hds e he))]
   refine rd_exb (aC ?_);walk_at"";refine ay (ah.of (y _ _ I)) (v:=.str "never") rfl ?_;walk_at"";refine cb (rd_exb ?_);rw[Fq rfl];refine aC ?_;walk_at"";refine ay (ah.of (y _ _ I)) (v:=.ref l) rfl ?_;walk_at"";exact⟨_,m,ws,M,ga,l,x,g,xs,rfl,d.ext y,ok,y _ _ j,y _ _ o,ix,ig,y _ _ am,fw.ext y,λh=>by obtain⟨n,hD⟩:=(yc ok ix).mp h;exact a3 n hD,Z,ak.ext y,q⟩
def dq{K:Eo}{h:Vh}{mg:Vm->Option Va}(X:K.In h)(G:h.Ns Vj mg){x:Vm}{st:Stmt}{f:Vb}{od an:Option Vb}{sl:Array (Option Va)}{oc kV b pm cd ct:Va}(a:PySem.W.nsIn K Vj x=Vn (Vn (.ref f)))(l:K.lookup f=Vn ⟨oc,od,.func (PySem.W.fnOf x x (gQ st) (eD st) (cx st) .none kV b pm an cd ct),sl⟩)(c:PySem.W.codeIn K cd x=true)(k:PySem.W.keepIn K (.ref f)=true):Dq K mg x st:=⟨f,_,PySem.W.mg_of X G a,oJ (st:=st) l c k⟩
def all_mk{l:PySem.W.OpenLaw}{w:Ve}{K:Eo}{h:Vh}{mg:Vm->Option Va}{fa:Vb}(eK:K=_root_.My.K)(X:K.In h)(G:h.Ns Vj mg)(N:mg "law" = Vn (.ref fa))
  (d0:Dq K mg "_law_behind" (stq 85))
  (d1:Dq K mg "_law_gone" (stq 87))
  (d2:Dq K mg "_law_whole" (stq 88))
  (d3:Dq K mg "_law_walk" (stq 92))
  (d4:Dq K mg "refuse_great_stair" (stq 14))
  (d5:Dq K mg "is_whole" (stq 9))
  (d6:Dq K mg "is_rising_row" (stq 10))
  (d7:Dq K mg "are_stair_places" (stq 11))
  (d8:Dq K mg "is_stair" (stq 12))
  (d9:Dq K mg "refuse_no_stair" (stq 13))
  (O:Dq K mg "refuse_bad_stair" (stq 15))
  (P:Dq K mg "holds" (stq 19))
  (Q:Dq K mg "is_room" (stq 26))
  (R:Dq K mg "is_near_place" (stq 33))
  (S:Dq K mg "marks_below" (stq 16))
  (U:Dq K mg "greatest_divisor" (stq 58))
  (Y:Dq K mg "common_step" (stq 59))
  (Z:Dq K mg "raised_by" (stq 36))
  (a1:Dq K mg "is_left_by" (stq 71))
  (a2:Dq K mg "are_near_steps" (stq 69))
  (a3:Dq K mg "is_near_stair" (stq 68))
  (a4:Dq K mg "are_stairs_for" (stq 70))
  (a5:Dq K mg "is_sign" (stq 28))
  (a6:Dq K mg "is_deed" (stq 27))
  (ab:Dq K mg "is_way" (stq 29))
  (ac:Dq K mg "are_ways" (stq 30))
  (ad:Dq K mg "is_house" (stq 31))
  (ai:Dq K mg "sees_closed" (stq 72))
  (aj:Dq K mg "sees_never" (stq 73))
  (ak:Dq K mg "least_step" (stq 17))
  (am:Dq K mg "stair_of_marks" (stq 18))
  (an:Dq K mg "stair_of_room" (stq 55))
  (ap:Dq K mg "next_level" (stq 53))
  (ar:Dq K mg "reached" (stq 50))
  (as:Dq K mg "told_pairs" (stq 41))
  (au:Dq K mg "add_arches" (stq 44))
  (b1:Dq K mg "join_walks" (stq 43))
  (b2:Dq K mg "ways_of_deed" (stq 40))
  (b4:Dq K mg "beginning_table" (stq 42))
  (b5:Dq K mg "kept_table" (stq 45))
  (b7:Dq K mg "refuse_no_house" (stq 32))
  (b8:Dq K mg "kept" (stq 46))
  (ba:Dq K mg "ways_by_room" (stq 49))
  (bb:Dq K mg "is_open" (stq 35))
  (bc:Dq K mg "led_to" (stq 37))
  (be:Dq K mg "led_to_from" (stq 38))
  (bg:Dq K mg "low_beside" (stq 51))
  (bi:Dq K mg "low_levels" (stq 52))
  (bl:Dq K mg "risen" (stq 47))
  (bm:Dq K mg "all_levels" (stq 54))
  (bn:Dq K mg "refuse_bad_places" (stq 34))
  (bu:Dq K mg "forward" (stq 56))
  (bv:Dq K mg "_law_there" (stq 95))
  (c0:Dq K mg "_law_bits" (stq 93))
  (c1:Dq K mg "_law_multiple" (stq 94))
  (c2:Dq K mg "_law_leaves" (stq 96))
  (c3:Dq K mg "_law_holds" (stq 91))
  (c4:Dq K mg "_law_rises" (stq 89))
  (c5:Dq K mg "_law_is_stair" (stq 90))
  (c9:Dq K mg "_law_never_right" (stq 98))
  (ca:Dq K mg "_law_come" (stq 86))
  (cc:Dq K mg "walk_back" (stq 64))
  (cd:Dq K mg "counts_by_room" (stq 61))
  (ce:Dq K mg "greatest_met" (stq 62))
  (cf:Dq K mg "found_from" (stq 63))
  (ch:Dq K mg "sought_walk" (stq 65))
  (ci:Dq K mg "shortest" (stq 66))
  (cl:Dq K mg "answer" (stq 74))
  (co:Dq K mg "_law_mixed" (stq 77))
  (cp:Dq K mg "_law_draws" (stq 78))
  (cr:Dq K mg "_law_cell" (stq 76))
  (cs:Dq K mg "_law_places" (stq 97))
  (ct:Dq K mg "_law_unlike" (stq 80))
  (cu:Dq K mg "_law_drawn_house" (stq 81))
  (cv:Dq K mg "_law_gate_house" (stq 83))
  (da:Dq K mg "_law_ring_house" (stq 82))
  (db:Dq K mg "_law_spare" (stq 79))
  (dc:Dq K mg "_law_house" (stq 84))
  {k:Vb} {m b:Option Vb} {n:Array (Option Va)} {o d g i a j:Va} (dd:PySem.W.nsIn K Vj "law" = Vn (Vn (.ref k))) (dg:K.lookup k=Vn ⟨o,m,.func (PySem.W.fnOf "law" "law" (gQ f9) (eD f9) (cx f9) .none d g i b a j),n⟩) (di:PySem.W.codeIn K a "law" = true) (dk:PySem.W.keepIn K (.ref k)=true)
  (z0:PySem.W.nsIn K Vj "len" = Vn Vo)
  (z1:PySem.W.nsIn K Vj "isinstance" = Vn Vo)
  (z2:PySem.W.nsIn K Vj "tuple" = Vn Vo)
  (z3:PySem.W.nsIn K Vj "list" = Vn Vo)
  (z4:PySem.W.nsIn K Vj "int" = Vn Vo)
  (z5:PySem.W.nsIn K Vj "bool" = Vn Vo)
  (z6:PySem.W.nsIn K Vj "range" = Vn Vo)
  (z7:PySem.W.nsIn K Vj "zip" = Vn Vo)
  (z8:PySem.W.nsIn K Vj "max" = Vn Vo)
  (z9:PySem.W.nsIn K Vj "min" = Vn Vo)
  (dl:PySem.W.nsIn K Vj "abs" = Vn Vo)
  (dn:PySem.W.nsIn K Vj "all" = Vn Vo)
  (dp:PySem.W.nsIn K Vj "enumerate" = Vn Vo)
  (ds:PySem.W.nsIn K Vj "set" = Vn Vo)
  (dt:PySem.W.nsIn K Vj "str" = Vn Vo)
  (du:PySem.W.nsIn K Vj "reversed" = Vn Vo)
  (dx:PySem.W.nsIn K Vj "any" = Vn Vo)
  (dy:PySem.W.nsIn K Vj "sorted" = Vn Vo)
  {t0:Tok} (v0:PySem.W.nsIn K Vj "GREATEST_STEP" = Vn (Vn (.int 840 t0)))
  {t1:Tok} (v1:PySem.W.nsIn K Vj "GREATEST_BASE" = Vn (Vn (.int 3000 t1)))
  {t2:Tok} (v2:PySem.W.nsIn K Vj "GREATEST_NUMBER" = Vn (Vn (.int 1000 t2)))
  {t3:Tok} (v3:PySem.W.nsIn K Vj "GREATEST_WAYS" = Vn (Vn (.int 100 t3)))
  {t4:Tok} (v4:PySem.W.nsIn K Vj "GREATEST_MANY" = Vn (Vn (.int 12 t4)))
  {e0:Vb} {p q r u x z A B:Tok} {e2:Nat} (x0:PySem.W.nsIn K Vj "RAISED" = Vn (Vn (.ref e0))) (y0:K.lookup e0=Vn (jf w [("up",p,.int (1) q),("down",r,.int (-1) u),("stay",x,.int (0) z),("zero",A,.int (0) B)] e2)) (w0:(e0 == sysModules)=false)
  {e1:Vb} {C E F H I J L M:Tok} {e3:Nat} (x1:PySem.W.nsIn K Vj "TURNED" = Vn (Vn (.ref e1))) (y1:K.lookup e1=Vn (jf w [("up",C,.str "down" E),("down",F,.str "up" H),("stay",I,.str "stay" J),("zero",L,.str "zero" M)] e3)) (w1:(e1 == sysModules)=false)
  : ∃fd:Vl,(∀(s:Vc) (v:Va),BindsTo s fd ⟨[v],[]⟩ [("_law_script",v)])/\∀base:Vh,K.In base->base.Ns Vj mg->(∀y∈(["kept","low_levels","risen"]:List Vm),∃c T,Tab K mg base y c T)->FnOk l.prog w K mg base dv 12 fa fd ["_law_script"] (j1 K):=by
 subst eK;have e:=N.symm.trans (PySem.W.mg_of X G dd);cases e;have T:Blt mg:=⟨PySem.W.mg_none_of X G z0,PySem.W.mg_none_of X G z1,PySem.W.mg_none_of X G z2,PySem.W.mg_none_of X G z3,PySem.W.mg_none_of X G z4,PySem.W.mg_none_of X G z5,PySem.W.mg_none_of X G z6,PySem.W.mg_none_of X G z7,PySem.W.mg_none_of X G z8,PySem.W.mg_none_of X G z9,PySem.W.mg_none_of X G dl,PySem.W.mg_none_of X G dn,PySem.W.mg_none_of X G dp,PySem.W.mg_none_of X G ds,PySem.W.mg_none_of X G dt,PySem.W.mg_none_of X G du,PySem.W.mg_none_of X G dx,PySem.W.mg_none_of X G dy⟩;refine⟨PySem.W.fnOf "law" "law" (gQ f9) (eD f9) (cx f9) .none d g i b a j,λs v=>.of_eq rfl,λbase KB GB HB=>?_⟩;exact xM (oJ (st:=f9) dg di dk) ⟨T,d0,d1,d2,d3,d4,d5,d6,d7,d8,d9,O,P,Q,R,S,U,Y,Z,a1,a2,a3,a4,a5,a6,ab,ac,ad,ai,aj,ak,am,an,ap,ar,as,au,b1,b2,b4,b5,b7,b8,ba,bb,bc,be,bg,bi,bl,bm,bn,bu,bv,c0,c1,c2,c3,c4,c5,c9,ca,cc,cd,ce,cf,ch,ci,cl,co,cp,cr,cs,ct,cu,cv,da,db,dc,⟨_,PySem.W.mg_of X G v0⟩,⟨_,PySem.W.mg_of X G v1⟩,⟨_,PySem.W.mg_of X G v2⟩,⟨_,PySem.W.mg_of X G v3⟩,⟨_,PySem.W.mg_of X G v4⟩,⟨_,PySem.W.mg_of X G x0,BC y0 w0⟩,⟨_,PySem.W.mg_of X G x1,Cd y1 w1⟩,HB "kept" (by simp),HB "low_levels" (by simp),HB "risen" (by simp)⟩
def walk{l:PySem.W.OpenLaw}{q:Vd}{loose:List Vm}{m:(Vm->Option Va)->Vh->Prop}{g:Ve->Vh->Prop}{d:DefRec}{K:Params->Eo}(o:l.most=Vn 63)(i:d.params.defaults=[])
  (p:∀(w:Ve) (h:Vh),g w h->(K w.params).In h) (r:∀w:Ve,PySem.W.noTabs (K w.params)=true) (hrec:∀y∈(["kept","low_levels","risen"]:List Vm),((PyProof.Rows.recsOf q).find? (λe=>e.name == y)).isSome=true) (htab:∀(w:Ve),∀y∈(["kept","low_levels","risen"]:List Vm),(PySem.W.tabIn (K w.params) y).isSome=true) (b:∀w:Ve,fW (K w.params))
  (F:∀(w:Ve) (mg:Vm->Option Va) (j:Vb) (h:Vh),g w h->(K w.params).In h->h.Ns Vj mg->mg d.name=Vn (.ref j) ->
   ∃fd:Vl,(∀(s:Vc) (u:Va),BindsTo s fd ⟨[u],[]⟩ [("_law_script",u)])/\∀base:Vh,(K w.params).In base->base.Ns Vj mg->(∀y∈(["kept","low_levels","risen"]:List Vm),∃c T,Tab (K w.params) mg base y c T)->FnOk l.prog w (K w.params) mg base dv 12 j fd ["_law_script"] (j1 (K w.params))) :
  PySem.W.WalkO q loose m g l.row.toRowW d [] (λf vs=>PySem.call f vs):=
 L2.Df (n:=63) (k:=12) (x:="_law_script") (sp:=λw=>j1 (K w.params)) ["kept","low_levels","risen"] o (by decide) i ⟨rfl,by decide,by decide⟩ p r hrec htab F λw H a ns v z A=>⟨a,ns,rfl,A,v,z,b w,λ_=>rfl⟩
end My
end
open PySem PySem.W PyProof.Rows
set_option maxRecDepth 100000 in
set_option maxHeartbeats 0 in
theorem PySem.Challenge.cw_stairrooms_k34_whole_answer_holds : PySem.Challenge.rw_stairrooms_k34_whole_answer.Holds := by
 refine My.top ?_
 k_fill
 refine L2.D9 My.top.heap_39 My.top ?_;refine My.walk (l := PySem.Challenge.rw_stairrooms_k34_whole_answer) rfl rfl (λw h Y => PySem.W.km_in_of Y.1) (λw => by kernel_rfl) ?R (λw => ?Tb) (λw => My.D8 (by kernel_rfl)) ?F
 case R => intro y hy; simp only [List.mem_cons, List.not_mem_nil, or_false] at hy; rcases hy with rfl|rfl|rfl <;> kernel_rfl
 case Tb => intro y hy; simp only [List.mem_cons, List.not_mem_nil, or_false] at hy; rcases hy with rfl|rfl|rfl <;> kernel_rfl
 case F =>
  intro w mg fa h Y KX G hmg;have q := @My.dq _ _ _ KX G
  refine' My.all_mk (by with_unfolding_all exact Y.2) KX G hmg (q ?_ ?_ ?_ ?_) (q ?_ ?_ ?_ ?_) (q ?_ ?_ ?_ ?_) (q ?_ ?_ ?_ ?_) (q ?_ ?_ ?_ ?_) (q ?_ ?_ ?_ ?_) (q ?_ ?_ ?_ ?_) (q ?_ ?_ ?_ ?_) (q ?_ ?_ ?_ ?_) (q ?_ ?_ ?_ ?_) (q ?_ ?_ ?_ ?_) (q ?_ ?_ ?_ ?_) (q ?_ ?_ ?_ ?_) (q ?_ ?_ ?_ ?_) (q ?_ ?_ ?_ ?_) (q ?_ ?_ ?_ ?_) (q ?_ ?_ ?_ ?_) (q ?_ ?_ ?_ ?_) (q ?_ ?_ ?_ ?_) (q ?_ ?_ ?_ ?_) (q ?_ ?_ ?_ ?_) (q ?_ ?_ ?_ ?_) (q ?_ ?_ ?_ ?_) (q ?_ ?_ ?_ ?_) (q ?_ ?_ ?_ ?_) (q ?_ ?_ ?_ ?_) (q ?_ ?_ ?_ ?_) (q ?_ ?_ ?_ ?_) (q ?_ ?_ ?_ ?_) (q ?_ ?_ ?_ ?_) (q ?_ ?_ ?_ ?_) (q ?_ ?_ ?_ ?_) (q ?_ ?_ ?_ ?_) (q ?_ ?_ ?_ ?_) (q ?_ ?_ ?_ ?_) (q ?_ ?_ ?_ ?_) (q ?_ ?_ ?_ ?_) (q ?_ ?_ ?_ ?_) (q ?_ ?_ ?_ ?_) (q ?_ ?_ ?_ ?_) (q ?_ ?_ ?_ ?_) (q ?_ ?_ ?_ ?_) (q ?_ ?_ ?_ ?_) (q ?_ ?_ ?_ ?_) (q ?_ ?_ ?_ ?_) (q ?_ ?_ ?_ ?_) (q ?_ ?_ ?_ ?_) (q ?_ ?_ ?_ ?_) (q ?_ ?_ ?_ ?_) (q ?_ ?_ ?_ ?_) (q ?_ ?_ ?_ ?_) (q ?_ ?_ ?_ ?_) (q ?_ ?_ ?_ ?_) (q ?_ ?_ ?_ ?_) (q ?_ ?_ ?_ ?_) (q ?_ ?_ ?_ ?_) (q ?_ ?_ ?_ ?_) (q ?_ ?_ ?_ ?_) (q ?_ ?_ ?_ ?_) (q ?_ ?_ ?_ ?_) (q ?_ ?_ ?_ ?_) (q ?_ ?_ ?_ ?_) (q ?_ ?_ ?_ ?_) (q ?_ ?_ ?_ ?_) (q ?_ ?_ ?_ ?_) (q ?_ ?_ ?_ ?_) (q ?_ ?_ ?_ ?_) (q ?_ ?_ ?_ ?_) (q ?_ ?_ ?_ ?_) (q ?_ ?_ ?_ ?_) (q ?_ ?_ ?_ ?_) (q ?_ ?_ ?_ ?_) (q ?_ ?_ ?_ ?_) (q ?_ ?_ ?_ ?_) (q ?_ ?_ ?_ ?_) (q ?_ ?_ ?_ ?_) (q ?_ ?_ ?_ ?_) (q ?_ ?_ ?_ ?_) ?_ ?_ ?_ ?_ ?_ ?_ ?_ ?_ ?_ ?_ ?_ ?_ ?_ ?_ ?_ ?_ ?_ ?_ ?_ ?_ ?_ ?_ ?_ ?_ ?_ ?_ ?_ ?_ ?_ ?_ ?_ ?_ ?_
  all_goals try first|k_is|rfl
